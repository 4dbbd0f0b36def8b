/-
  The reference's eye: head.
-/
import Derived.Test.YtndgbgolmpoepaaDoorCodEye
import Derived.Test.YtndgbgolmpoepaaDoorCodRdb
namespace Go.Proofs.YtndgbgolmpoepaaDoor
set_option maxRecDepth 20000
open Go.RowKit

/-- the bytes that the eye goes through -/
structure EyH (w0 : World) (p : Option Addr) (c : Nat) (l : List Int) : Prop where
  byte : ByL l
  few : l.length ≤ 20000
  lies : KLies KB (.slice p l.length c) l w0
theorem eget_h {w0 : World} {p : Option Addr} {c : Nat} {l : List Int} (hh : EyH w0 p c l) (b : Nat) (st : Sta) (s : Nat) (hs0 : 0 < s) (hs8 : s ≤ 8) (w : World) (h : EyS w0 b p c l st w) :
    Calls Tryd.prog 38 #[.pointer (some ⟨b, 0, none⟩), .int .i64 (s : Int)] w (EyRet w0 b p c l w (.int .u64 (gN s st).1) (gN s st).2) :=
  eget_any w0 b p c l st s hs0 hs8 hh.byte hh.few hh.lies w h
section
variable {w0 w W W' : World} {b g k c : Nat} {p : Option Addr} {l : List Int} {st : Sta} {v : Value} {cs : Array Value} {vs : List Value}
theorem EyS.alloc (h : EyS w0 b p c l st W) (o : Obj) : EyS w0 b p c l st (W.alloc o) := h.below (below1 _ _)
theorem EyS.salloc (h : EyS w0 b p c l st W) (o : Obj) : RStep b W (W.alloc o) := .of (below1 _ _) (by have := h.lt; omega)
theorem EyS.same (h : EyS w0 b p c l st W) (hb : W'.heap[b]? = W.heap[b]?) (hk : Below w0.heap.size w0 W') : EyS w0 b p c l st W' := by
  obtain ⟨k, sh, h1, h2, h3, _, h5⟩ := h
  exact ⟨k, sh, hb.trans h1, h2, h3, hk, h5⟩
theorem EyS.cset (h : EyS w0 b p c l st W) (hg : b < g) : EyS w0 b p c l st (W.setCell ⟨g, k, none⟩ v) := h.same (heap_setCell_other _ _ _ _ (by show b ≠ g; omega)) (h.kept.setCell (by have := h.ge; show w0.heap.size ≤ g; omega) _)
theorem EyS.mset (h : EyS w0 b p c l st W) (hg : b < g) : EyS w0 b p c l st (W.setCells g k vs) := h.same (heap_stM_other (by omega) _ _ _) (below_stM h.kept h.kept.size (by have := h.ge; omega) _)
theorem EyS.rset (h : EyS w0 b p c l st W) (hg : b < g) : EyS w0 b p c l st (W.setRow g cs) := h.same (setRow_other _ _ _ _ (by omega)) (below_setRow h.kept (by have := h.ge; omega) _)
theorem EyS.grow (h : EyS w0 b p c l st W) {row : Option Nat} (hg : W.grownBy W' row) (hr : ∀ k, row = some k → b < k) : EyS w0 b p c l st W' :=
  h.same (hg.block b h.lt fun e => by have := hr b e.symm; omega) (h.kept.grown hg h.kept.size fun k e => by have := hr k e; have := h.ge; omega)
end
set_option maxHeartbeats 4000000 in
theorem ehead_any {w0 : World} {p : Option Addr} {c : Nat} {l : List Int} (hh : EyH w0 p c l) (b : Nat) (st : Sta) (w : World) (h : EyS w0 b p c l st w) :
    Calls Tryd.prog 39 #[.pointer (some ⟨b, 0, none⟩)] w (EyRet w0 b p c l w (.agg (hc (nthI (gNs (List.replicate 12 8) st).1))) (gNs (List.replicate 12 8) st).2) := by
  have HS := Lib.hid ((h.alloc (.cells #[Value.int IntKind.u64 0, Value.int IntKind.u64 0, Value.int IntKind.u64 0, Value.int IntKind.u64 0, Value.int IntKind.u64 0, Value.int IntKind.u64 0, Value.int IntKind.u64 0, Value.int IntKind.u64 0, Value.int IntKind.u64 0, Value.int IntKind.u64 0, Value.int IntKind.u64 0, Value.int IntKind.u64 0] 25)).alloc (.cells #[Value.int IntKind.u64 0, Value.int IntKind.u64 0, Value.int IntKind.u64 0, Value.int IntKind.u64 0, Value.int IntKind.u64 0, Value.int IntKind.u64 0, Value.int IntKind.u64 0, Value.int IntKind.u64 0, Value.int IntKind.u64 0, Value.int IntKind.u64 0, Value.int IntKind.u64 0, Value.int IntKind.u64 0] 25))
  have HT := Lib.hid ((EyS.salloc h (.cells #[Value.int IntKind.u64 0, Value.int IntKind.u64 0, Value.int IntKind.u64 0, Value.int IntKind.u64 0, Value.int IntKind.u64 0, Value.int IntKind.u64 0, Value.int IntKind.u64 0, Value.int IntKind.u64 0, Value.int IntKind.u64 0, Value.int IntKind.u64 0, Value.int IntKind.u64 0, Value.int IntKind.u64 0] 25)).trans (EyS.salloc (h.alloc (.cells #[Value.int IntKind.u64 0, Value.int IntKind.u64 0, Value.int IntKind.u64 0, Value.int IntKind.u64 0, Value.int IntKind.u64 0, Value.int IntKind.u64 0, Value.int IntKind.u64 0, Value.int IntKind.u64 0, Value.int IntKind.u64 0, Value.int IntKind.u64 0, Value.int IntKind.u64 0, Value.int IntKind.u64 0] 25)) (.cells #[Value.int IntKind.u64 0, Value.int IntKind.u64 0, Value.int IntKind.u64 0, Value.int IntKind.u64 0, Value.int IntKind.u64 0, Value.int IntKind.u64 0, Value.int IntKind.u64 0, Value.int IntKind.u64 0, Value.int IntKind.u64 0, Value.int IntKind.u64 0, Value.int IntKind.u64 0, Value.int IntKind.u64 0] 25)))
  have R0 := Lib.hid ((Blk.new w #[Value.int IntKind.u64 0, Value.int IntKind.u64 0, Value.int IntKind.u64 0, Value.int IntKind.u64 0, Value.int IntKind.u64 0, Value.int IntKind.u64 0, Value.int IntKind.u64 0, Value.int IntKind.u64 0, Value.int IntKind.u64 0, Value.int IntKind.u64 0, Value.int IntKind.u64 0, Value.int IntKind.u64 0] 25).old (.cells #[Value.int IntKind.u64 0, Value.int IntKind.u64 0, Value.int IntKind.u64 0, Value.int IntKind.u64 0, Value.int IntKind.u64 0, Value.int IntKind.u64 0, Value.int IntKind.u64 0, Value.int IntKind.u64 0, Value.int IntKind.u64 0, Value.int IntKind.u64 0, Value.int IntKind.u64 0, Value.int IntKind.u64 0] 25))
  have R1 := Lib.hid (show Blk (w.heap.size + 1) (hc (nthI (gNs (List.replicate 0 8) st).1)) 25 ((w.alloc (.cells #[Value.int IntKind.u64 0, Value.int IntKind.u64 0, Value.int IntKind.u64 0, Value.int IntKind.u64 0, Value.int IntKind.u64 0, Value.int IntKind.u64 0, Value.int IntKind.u64 0, Value.int IntKind.u64 0, Value.int IntKind.u64 0, Value.int IntKind.u64 0, Value.int IntKind.u64 0, Value.int IntKind.u64 0] 25)).alloc (.cells #[Value.int IntKind.u64 0, Value.int IntKind.u64 0, Value.int IntKind.u64 0, Value.int IntKind.u64 0, Value.int IntKind.u64 0, Value.int IntKind.u64 0, Value.int IntKind.u64 0, Value.int IntKind.u64 0, Value.int IntKind.u64 0, Value.int IntKind.u64 0, Value.int IntKind.u64 0, Value.int IntKind.u64 0] 25)) from Blk.new2 w (.cells #[Value.int IntKind.u64 0, Value.int IntKind.u64 0, Value.int IntKind.u64 0, Value.int IntKind.u64 0, Value.int IntKind.u64 0, Value.int IntKind.u64 0, Value.int IntKind.u64 0, Value.int IntKind.u64 0, Value.int IntKind.u64 0, Value.int IntKind.u64 0, Value.int IntKind.u64 0, Value.int IntKind.u64 0] 25) #[Value.int IntKind.u64 0, Value.int IntKind.u64 0, Value.int IntKind.u64 0, Value.int IntKind.u64 0, Value.int IntKind.u64 0, Value.int IntKind.u64 0, Value.int IntKind.u64 0, Value.int IntKind.u64 0, Value.int IntKind.u64 0, Value.int IntKind.u64 0, Value.int IntKind.u64 0, Value.int IntKind.u64 0] 25)
  have HL := Lib.hid (show b < w.heap.size from h.lt)
  obtain ⟨Y, hY⟩ : ∃ Y, Y = gNs (List.replicate 12 8) st := ⟨_, rfl⟩
  rw [← hY]
  have HY := Lib.hid hY
  have HH := Lib.hid hh
  clear h hY hh
  go_enter Tryd.func39, Tryd.ntmps39
  go_upto_region 2 with fail
  generalize (w.alloc (.cells #[Value.int IntKind.u64 0, Value.int IntKind.u64 0, Value.int IntKind.u64 0, Value.int IntKind.u64 0, Value.int IntKind.u64 0, Value.int IntKind.u64 0, Value.int IntKind.u64 0, Value.int IntKind.u64 0, Value.int IntKind.u64 0, Value.int IntKind.u64 0, Value.int IntKind.u64 0, Value.int IntKind.u64 0] 25)).alloc (.cells #[Value.int IntKind.u64 0, Value.int IntKind.u64 0, Value.int IntKind.u64 0, Value.int IntKind.u64 0, Value.int IntKind.u64 0, Value.int IntKind.u64 0, Value.int IntKind.u64 0, Value.int IntKind.u64 0, Value.int IntKind.u64 0, Value.int IntKind.u64 0, Value.int IntKind.u64 0, Value.int IntKind.u64 0] 25) = W at *
  go_wp2_with fail
  go_loopg [4] 12 (fun k i wr => ∃ r : Nat, r + k = 12 ∧ i = .int .i64 r ∧ EyS w0 b p c l (gNs (List.replicate r 8) st).2 wr ∧ RStep b w wr ∧ Blk w.heap.size #[Value.int IntKind.u64 0, Value.int IntKind.u64 0, Value.int IntKind.u64 0, Value.int IntKind.u64 0, Value.int IntKind.u64 0, Value.int IntKind.u64 0, Value.int IntKind.u64 0, Value.int IntKind.u64 0, Value.int IntKind.u64 0, Value.int IntKind.u64 0, Value.int IntKind.u64 0, Value.int IntKind.u64 0] 25 wr ∧ Blk (w.heap.size + 1) (hc (nthI (gNs (List.replicate r 8) st).1)) 25 wr)
  case atStart => exact ⟨0, by omega, rfl, HS.out, HT.out, R0.out, R1.out⟩
  case round =>
    clear HS HT R0 R1
    obtain ⟨r, hr, rfl, hs, ht, h0, h1⟩ := hrel
    have HS := Lib.hid hs
    have HT := Lib.hid ht
    have R0 := Lib.hid h0
    have R1 := Lib.hid h1
    clear hs ht h0 h1
    by_cases hlt : r < 12
    · have hltI : (r : Int) < 12 := by omega
      have HE := Lib.hid (gNs_snoc r st)
      have hrl := rep_len r st
      have HC := Lib.hid (eget_h HH.out b _ 8 (by decide) (Nat.le_refl _) wr HS.out)
      generalize gNs (List.replicate r 8) st = y at *
      obtain ⟨ns, x⟩ := y
      simp only at HE HC HS R1 hrl
      generalize gN 8 x = z at *
      obtain ⟨n, x'⟩ := z
      simp only at HE HC
      have HR := Lib.hid hrl
      clear hrl
      go_wp2_with (first
        | (go_at_call 38; refine HC.out.mono ?_; rintro e w1 ⟨rfl, hs, ht⟩; refine Hid.out ?_))
      have HS1 := Lib.hid hs
      have HT1 := Lib.hid (HT.out.trans ht)
      have R01 := Lib.hid (ht.blk R0.out (by have := HL.out; omega))
      have R11 := Lib.hid (ht.blk R1.out (by have := HL.out; omega))
      have f1 := frozen_of_row _ (w.heap.size + 1) r _ _ R11.out
      have k1 := cell_row R11.out hlt
      clear hs ht HC HS HT R0 R1
      refine Lib.hid ?_
      go_wp2_with (refine storeCell rfl 23 _ _ rfl (w.heap.size + 1) r (.int .u64 n) rfl rfl rfl (R11.out.there (by rw [hc_size]; omega)) (by kernel_rfl) ?_; refine Hid.out ?_)
      have R12 := Lib.hid (show Blk (w.heap.size + 1) (hc (nthI (ns ++ [n]))) 25 (w1.setCell ⟨w.heap.size + 1, r, none⟩ (.int .u64 n)) by
        have := R11.out.one (k := r) (.int .u64 n)
        rw [hc_set _ n r hlt] at this
        rw [hc_congr fun j _ => nthI_snoc ns n j, HR.out]
        exact this)
      have R02 := Lib.hid (R01.out.cother (g := w.heap.size + 1) (k := r) (by omega) (.int .u64 n))
      have R13 := Lib.hid R12.out
      have R03 := Lib.hid R02
      have HS2 := Lib.hid (HS1.out.cset (k := r) (v := .int .u64 n) (show b < w.heap.size + 1 by have := HL.out; omega))
      have HT2 := Lib.hid (HT1.out.cset (k := r) (v := .int .u64 n) HL.out (show w.heap.size ≤ w.heap.size + 1 by omega))
      clear R12 R02 R11 R01 HS1 HT1 f1 k1
      generalize w1.setCell ⟨w.heap.size + 1, r, none⟩ (.int .u64 n) = W2 at *
      refine Lib.hid ?_
      go_wp2_with fail
      go_roundg (12 - (r + 1))
      case measure => omega
      case rel => exact ⟨r + 1, by omega, by go_num, by rw [HE.out]; exact HS2.out, HT2.out, R03.out, by rw [HE.out]; exact R13.out⟩
    · obtain rfl : r = 12 := by omega
      rw [← HY.out] at HS R1
      obtain ⟨ns, x⟩ := Y
      simp only at HS R1
      go_wp2_with (first
        | (refine wpList_load_row rfl 25 _ rfl (w.heap.size + 1) rfl 25 (hc (nthI ns)) (0, 0) _ R1.out Tryd.underlying25 rfl infoHead ?_)
        | (refine wpList_store_row rfl 25 _ _ rfl w.heap.size (hc (nthI ns)) rfl rfl 25 _ R0.out (by kernel_rfl) rfl (hc_one _) ?_))
      refine bodyPost_ret (v := .agg (hc (nthI ns))) ?_ rfl ⟨rfl, HS.out.rset HL.out, HT.out.rset HL.out (Nat.le_refl _)⟩
      exact res_one Tryd.results39 (cs := hc (nthI ns)) rfl (R0.out.rset _) Tryd.underlying25 rfl (by kernel_rfl)
end Go.Proofs.YtndgbgolmpoepaaDoor
