/- Several of my texts as one: CodEye, CodEyb, CodEyc. -/
import Derived.Test.YtndgbgolmpoepaaDoorCodEq
import Derived.Test.YtndgbgolmpoepaaDoorCodRd
import Derived.Test.YtndgbgolmpoepaaDoorCodRdb
import Derived.Test.YtndgbgolmpoepaaDoorCodRde
/-
  The reference's eye on bytes: a box of the bytes, a place in them, whether there were too few. Its Get.
-/
namespace Go.Proofs.YtndgbgolmpoepaaDoor
set_option maxRecDepth 20000
open Go.RowKit

/-- the eye on the bytes l: what is still to be read of them, or too few -/
def EyS (w0 : World) (b : Nat) (p : Option Addr) (c : Nat) (l : List Int) (st : Sta) (W : World) : Prop :=
  ∃ (k : Nat) (sh : Bool), Blk b #[.slice p l.length c, .int .i64 (k : Int), .bool sh] 76 W ∧ k ≤ l.length ∧ st = (if sh = true then ([], true) else (l.drop k, false)) ∧ Below w0.heap.size w0 W ∧ w0.heap.size ≤ b
def EyRet (w0 : World) (b : Nat) (p : Option Addr) (c : Nat) (l : List Int) (w : World) (v : Value) (st : Sta) (e : Ending) (w' : World) : Prop := e = .returned v ∧ EyS w0 b p c l st w' ∧ RStep b w w'
section
variable {w0 W W' : World} {b c : Nat} {p : Option Addr} {l : List Int} {st : Sta}
theorem EyS.lt (h : EyS w0 b p c l st W) : b < W.heap.size := by obtain ⟨k, sh, h1, _⟩ := h; exact h1.lt
theorem EyS.kept (h : EyS w0 b p c l st W) : Below w0.heap.size w0 W := by obtain ⟨k, sh, _, _, _, h4, _⟩ := h; exact h4
theorem EyS.ge (h : EyS w0 b p c l st W) : w0.heap.size ≤ b := by obtain ⟨k, sh, _, _, _, _, h5⟩ := h; exact h5
theorem EyS.byte (h : EyS w0 b p c l st W) (hb : ByL l) : ByL st.1 := by
  obtain ⟨k, sh, _, _, rfl, _⟩ := h
  cases sh
  · exact hb.drop k
  · exact fun x hx => by cases hx
theorem EyS.below (h : EyS w0 b p c l st W) (hb : Below W.heap.size W W') : EyS w0 b p c l st W' := by
  have hl := h.lt
  obtain ⟨k, sh, h1, h2, h3, h4, h5⟩ := h
  exact ⟨k, sh, h1.below hb, h2, h3, h4.trans (hb.mono (by omega)), h5⟩
theorem EyS.short (h : EyS w0 b p c l st W) : W.cell? ⟨b, 2, none⟩ = some (.bool st.2) := by
  obtain ⟨k, sh, h1, _, rfl, _⟩ := h
  have := (cell_of_row W b 2 _ _ _ h1).trans (rfl : _ = some (Value.bool sh))
  cases sh <;> exact this
end
/-- the eye's box in a world that has new memory alone -/
def EyK (w : World) (b : Nat) (p : Option Addr) (c : Nat) (l : List Int) (k : Nat) (sh : Bool) (W : World) : Prop :=
  Blk b #[.slice p l.length c, .int .i64 (k : Int), .bool sh] 76 W ∧ KLies KB (.slice p l.length c) l W ∧ Below w.heap.size w W ∧ b < w.heap.size
theorem EyK.below {w W W' : World} {b c k : Nat} {p : Option Addr} {l : List Int} {sh : Bool} (h : EyK w b p c l k sh W) (hb : Below W.heap.size W W') : EyK w b p c l k sh W' :=
  ⟨h.1.below hb, h.2.1.below okB hb, h.2.2.1.trans (hb.mono h.2.2.1.size), h.2.2.2⟩
theorem EyK.step {w W : World} {b c k : Nat} {p : Option Addr} {l : List Int} {sh : Bool} (h : EyK w b p c l k sh W) : RStep b w W := .of h.2.2.1 (Nat.le_of_lt h.2.2.2)
set_option maxRecDepth 100000 in
set_option maxHeartbeats 4000000 in
theorem eget_any (w0 : World) (b : Nat) (p : Option Addr) (c : Nat) (l : List Int) (st : Sta) (s : Nat) (hs0 : 0 < s) (hs8 : s ≤ 8) (hb : ByL l) (hm : l.length ≤ 20000) (hl : KLies KB (.slice p l.length c) l w0) (w : World) (h : EyS w0 b p c l st w) :
    Calls Tryd.prog 38 #[.pointer (some ⟨b, 0, none⟩), .int .i64 (s : Int)] w (EyRet w0 b p c l w (.int .u64 (gN s st).1) (gN s st).2) := by
  have hlt := h.lt
  obtain ⟨k, sh, hB, hk, hst, hkp, hg⟩ := h
  have K0 := Lib.hid (show EyK w b p c l k sh w from ⟨hB, hl.below okB hkp, Below.refl _ _, hlt⟩)
  have HB := Lib.hid hb
  have HK := Lib.hid (And.intro hkp hg)
  have HST := Lib.hid hst
  have c0 : w.cell? ⟨b, 0, none⟩ = some (.slice p l.length c) := (cell_of_row w b 0 _ _ _ hB).trans rfl
  have c1 : w.cell? ⟨b, 1, none⟩ = some (.int .i64 (k : Int)) := (cell_of_row w b 1 _ _ _ hB).trans rfl
  have c2 : w.cell? ⟨b, 2, none⟩ = some (.bool sh) := (cell_of_row w b 2 _ _ _ hB).trans rfl
  obtain ⟨N, hN⟩ : ∃ N, N = l.length := ⟨_, rfl⟩
  rw [← hN] at c0 hm hk
  have HN := Lib.hid hN
  have HKN := Lib.hid hk
  clear hB hb hkp hg hst hl hN hlt
  have hk0 : (0 : Int) ≤ (k : Int) := by omega
  have hkI : (k : Int) ≤ 20000 := by omega
  have hsI : (s : Int) ≤ 8 := by omega
  have hsI0 : (0 : Int) ≤ (s : Int) := by omega
  have hNI : (N : Int) ≤ 20000 := by omega
  cases sh
  case true =>
    have HG := Lib.hid (show gN s st = (0, ([], true)) by rw [HST.out]; unfold gN; exact if_pos hs0)
    rw [HG.out]
    go_enter Tryd.func38, Tryd.ntmps38
    go_upto_region 1 with fail
    go_quiet (fail)
    have K1 := Lib.hid (K0.out.below (belowDrewN w nq))
    clear K0 c0 c1 c2
    generalize w.drewN nq = V at *
    go_wp2_with (refine storeCell rfl 4 _ _ rfl b 2 (.bool true) rfl rfl rfl (K1.out.1.there (by simp)) infoBo ?_; refine Hid.out ?_)
    have R2 := Lib.hid (show Blk b #[.slice p l.length c, .int .i64 (k : Int), .bool true] 76 (V.setCell ⟨b, 2, none⟩ (.bool true)) by simpa using K1.out.1.one (k := 2) (.bool true))
    have T2 := Lib.hid (K1.out.step.set 2 (.bool true))
    clear K1
    generalize V.setCell ⟨b, 2, none⟩ (.bool true) = W2 at *
    refine Lib.hid ?_
    go_wp2_with fail
    go_ret
    exact ⟨rfl, ⟨k, true, R2.out, by rw [← HN.out]; exact HKN.out, rfl, HK.out.1.trans (T2.out.below.mono HK.out.2), HK.out.2⟩, T2.out⟩
  by_cases hsN : N < k + s
  · have hcI : (N : Int) < (k : Int) + (s : Int) := by omega
    have HG := Lib.hid (show gN s st = (0, ([], true)) by rw [HST.out]; unfold gN; exact if_pos (by show (l.drop k).length < s; rw [List.length_drop, ← HN.out]; omega))
    rw [HG.out]
    go_enter Tryd.func38, Tryd.ntmps38
    go_upto_region 1 with fail
    go_quiet (fail)
    have K1 := Lib.hid (K0.out.below (belowDrewN w nq))
    clear K0 c0 c1 c2
    generalize w.drewN nq = V at *
    go_wp2_with (refine storeCell rfl 4 _ _ rfl b 2 (.bool true) rfl rfl rfl (K1.out.1.there (by simp)) infoBo ?_; refine Hid.out ?_)
    have R2 := Lib.hid (show Blk b #[.slice p l.length c, .int .i64 (k : Int), .bool true] 76 (V.setCell ⟨b, 2, none⟩ (.bool true)) by simpa using K1.out.1.one (k := 2) (.bool true))
    have T2 := Lib.hid (K1.out.step.set 2 (.bool true))
    clear K1
    generalize V.setCell ⟨b, 2, none⟩ (.bool true) = W2 at *
    refine Lib.hid ?_
    go_wp2_with fail
    go_ret
    exact ⟨rfl, ⟨k, true, R2.out, by rw [← HN.out]; exact HKN.out, rfl, HK.out.1.trans (T2.out.below.mono HK.out.2), HK.out.2⟩, T2.out⟩
  have hcI : ¬ (N : Int) < (k : Int) + (s : Int) := by omega
  have HG := Lib.hid (show gN s st = (valB ((l.drop k).take s), (l.drop (k + s), false)) by
    rw [HST.out]; unfold gN; rw [if_neg (by show ¬ (l.drop k).length < s; rw [List.length_drop, ← HN.out]; omega)]
    show (_, ((l.drop k).drop s, false)) = _
    rw [List.drop_drop]
    rfl)
  rw [HG.out]
  have HLe := Lib.hid hsN
  go_enter Tryd.func38, Tryd.ntmps38
  go_upto_region 1 with fail
  go_quiet (fail)
  have K1 := Lib.hid (K0.out.below (belowDrewN w nq))
  clear K0 c0 c1 c2
  generalize w.drewN nq = V at *
  go_wp2_with fail
  go_loopg [6, 5] s (fun q i v wr => ∃ r : Nat, r + q = s ∧ i = .int .i64 r ∧ v = .int .u64 (valB ((l.drop k).take r)) ∧ EyK w b p c l k false wr)
  case atStart => exact ⟨0, by omega, rfl, rfl, K1.out⟩
  case round =>
    clear K1
    obtain ⟨r, hr, rfl, rfl, hk1⟩ := hrel
    have K1 := Lib.hid hk1
    have c0 : wr.cell? ⟨b, 0, none⟩ = some (.slice p N c) := by rw [HN.out]; exact (cell_of_row wr b 0 _ _ _ hk1.1).trans rfl
    have c1 : wr.cell? ⟨b, 1, none⟩ = some (.int .i64 (k : Int)) := (cell_of_row wr b 1 _ _ _ hk1.1).trans rfl
    clear hk1
    by_cases hlt : r < s
    · have hltI : (r : Int) < (s : Int) := by omega
      obtain ⟨x, hx⟩ := lt_some (l := l) (i := k + r) (by have := HLe.out; have := HN.out; omega)
      obtain ⟨bb, o, rfl, hc⟩ := cellB K1.out.2.1 hx
      have hx' : (l.drop k)[r]? = some x := by rw [List.getElem?_drop]; exact hx
      obtain ⟨hv0, hv1⟩ := valB_small (HB.out.drop k) (r := r) (by omega)
      have hxb := HB.out x (List.mem_of_getElem? hx)
      have HT := Lib.hid (valB_take hx')
      clear hx hx'
      generalize valB ((l.drop k).take r) = V at *
      have hxb0 := hxb.1
      have hxb1 := hxb.2
      have hrI : (k : Int) + (r : Int) < (N : Int) := by omega
      have hrI0 : (0 : Int) ≤ (k : Int) + (r : Int) := by omega
      have ht : ((k : Int) + (r : Int)).toNat = k + r := by omega
      go_upto_region 8 with fail
      go_quiet (fail)
      have K2 := Lib.hid (K1.out.below (belowDrewN wr nq))
      clear K1 c0 c1 hc
      generalize wr.drewN nq = W2 at *
      go_wp2_with fail
      go_roundg (s - (r + 1))
      case measure => omega
      case rel => exact ⟨r + 1, by omega, by go_num, by rw [HT.out], K2.out⟩
    · have hltI : ¬ (r : Int) < (s : Int) := by omega
      have HRS := Lib.hid (show r = s by omega)
      go_wp2_with (refine storeCell rfl 3 _ _ rfl b 1 (.int .i64 ((k : Int) + (s : Int))) rfl rfl rfl (K1.out.1.there (by simp)) (by kernel_rfl) ?_; refine Hid.out ?_)
      have R1 := Lib.hid (show Blk b #[.slice p l.length c, .int .i64 ((k + s : Nat) : Int), .bool false] 76 (wr.setCell ⟨b, 1, none⟩ (.int .i64 ((k : Int) + (s : Int)))) by simpa using K1.out.1.one (k := 1) (.int .i64 ((k : Int) + (s : Int))))
      have T1 := Lib.hid (K1.out.step.set 1 (.int .i64 ((k : Int) + (s : Int))))
      clear c0 c1
      generalize wr.setCell ⟨b, 1, none⟩ (.int .i64 ((k : Int) + (s : Int))) = W1 at *
      refine Lib.hid ?_
      go_wp2_with fail
      go_ret
      exact ⟨congrArg (fun t => Ending.returned (.int .u64 (valB (List.take t (List.drop k l))))) HRS.out, ⟨k + s, false, R1.out, by have := HLe.out; have := HN.out; omega, rfl, HK.out.1.trans (T1.out.below.mono HK.out.2), HK.out.2⟩, T1.out⟩
end Go.Proofs.YtndgbgolmpoepaaDoor

/-
  The reference's eye: head.
-/
namespace Go.Proofs.YtndgbgolmpoepaaDoor
set_option maxRecDepth 20000
open Go.RowKit

/-- the bytes that the eye goes through -/
structure EyH (w0 : World) (p : Option Addr) (c : Nat) (l : List Int) : Prop where
  byte : ByL l
  few : l.length ≤ 20000
  lies : KLies KB (.slice p l.length c) l w0
theorem eget_h {w0 : World} {p : Option Addr} {c : Nat} {l : List Int} (hh : EyH w0 p c l) (b : Nat) (st : Sta) (s : Nat) (hs0 : 0 < s) (hs8 : s ≤ 8) (w : World) (h : EyS w0 b p c l st w) :
    Calls Tryd.prog 38 #[.pointer (some ⟨b, 0, none⟩), .int .i64 (s : Int)] w (EyRet w0 b p c l w (.int .u64 (gN s st).1) (gN s st).2) :=
  eget_any w0 b p c l st s hs0 hs8 hh.byte hh.few hh.lies w h
section
variable {w0 w W W' : World} {b g k c : Nat} {p : Option Addr} {l : List Int} {st : Sta} {v : Value} {cs : Array Value} {vs : List Value}
theorem EyS.alloc (h : EyS w0 b p c l st W) (o : Obj) : EyS w0 b p c l st (W.alloc o) := h.below (below1 _ _)
theorem EyS.salloc (h : EyS w0 b p c l st W) (o : Obj) : RStep b W (W.alloc o) := .of (below1 _ _) (by have := h.lt; omega)
theorem EyS.same (h : EyS w0 b p c l st W) (hb : W'.heap[b]? = W.heap[b]?) (hk : Below w0.heap.size w0 W') : EyS w0 b p c l st W' := by
  obtain ⟨k, sh, h1, h2, h3, _, h5⟩ := h
  exact ⟨k, sh, hb.trans h1, h2, h3, hk, h5⟩
theorem EyS.cset (h : EyS w0 b p c l st W) (hg : b < g) : EyS w0 b p c l st (W.setCell ⟨g, k, none⟩ v) := h.same (heap_setCell_other _ _ _ _ (by show b ≠ g; omega)) (h.kept.setCell (by have := h.ge; show w0.heap.size ≤ g; omega) _)
theorem EyS.mset (h : EyS w0 b p c l st W) (hg : b < g) : EyS w0 b p c l st (W.setCells g k vs) := h.same (heap_stM_other (by omega) _ _ _) (below_stM h.kept h.kept.size (by have := h.ge; omega) _)
theorem EyS.rset (h : EyS w0 b p c l st W) (hg : b < g) : EyS w0 b p c l st (W.setRow g cs) := h.same (setRow_other _ _ _ _ (by omega)) (below_setRow h.kept (by have := h.ge; omega) _)
theorem EyS.grow (h : EyS w0 b p c l st W) {row : Option Nat} (hg : W.grownBy W' row) (hr : ∀ k, row = some k → b < k) : EyS w0 b p c l st W' :=
  h.same (hg.block b h.lt fun e => by have := hr b e.symm; omega) (h.kept.grown hg h.kept.size fun k e => by have := hr k e; have := h.ge; omega)
end
set_option maxHeartbeats 4000000 in
theorem ehead_any {w0 : World} {p : Option Addr} {c : Nat} {l : List Int} (hh : EyH w0 p c l) (b : Nat) (st : Sta) (w : World) (h : EyS w0 b p c l st w) :
    Calls Tryd.prog 39 #[.pointer (some ⟨b, 0, none⟩)] w (EyRet w0 b p c l w (.agg (hc (nthI (gNs (List.replicate 12 8) st).1))) (gNs (List.replicate 12 8) st).2) := by
  have HS := Lib.hid ((h.alloc (.cells #[Value.int IntKind.u64 0, Value.int IntKind.u64 0, Value.int IntKind.u64 0, Value.int IntKind.u64 0, Value.int IntKind.u64 0, Value.int IntKind.u64 0, Value.int IntKind.u64 0, Value.int IntKind.u64 0, Value.int IntKind.u64 0, Value.int IntKind.u64 0, Value.int IntKind.u64 0, Value.int IntKind.u64 0] 25)).alloc (.cells #[Value.int IntKind.u64 0, Value.int IntKind.u64 0, Value.int IntKind.u64 0, Value.int IntKind.u64 0, Value.int IntKind.u64 0, Value.int IntKind.u64 0, Value.int IntKind.u64 0, Value.int IntKind.u64 0, Value.int IntKind.u64 0, Value.int IntKind.u64 0, Value.int IntKind.u64 0, Value.int IntKind.u64 0] 25))
  have HT := Lib.hid ((EyS.salloc h (.cells #[Value.int IntKind.u64 0, Value.int IntKind.u64 0, Value.int IntKind.u64 0, Value.int IntKind.u64 0, Value.int IntKind.u64 0, Value.int IntKind.u64 0, Value.int IntKind.u64 0, Value.int IntKind.u64 0, Value.int IntKind.u64 0, Value.int IntKind.u64 0, Value.int IntKind.u64 0, Value.int IntKind.u64 0] 25)).trans (EyS.salloc (h.alloc (.cells #[Value.int IntKind.u64 0, Value.int IntKind.u64 0, Value.int IntKind.u64 0, Value.int IntKind.u64 0, Value.int IntKind.u64 0, Value.int IntKind.u64 0, Value.int IntKind.u64 0, Value.int IntKind.u64 0, Value.int IntKind.u64 0, Value.int IntKind.u64 0, Value.int IntKind.u64 0, Value.int IntKind.u64 0] 25)) (.cells #[Value.int IntKind.u64 0, Value.int IntKind.u64 0, Value.int IntKind.u64 0, Value.int IntKind.u64 0, Value.int IntKind.u64 0, Value.int IntKind.u64 0, Value.int IntKind.u64 0, Value.int IntKind.u64 0, Value.int IntKind.u64 0, Value.int IntKind.u64 0, Value.int IntKind.u64 0, Value.int IntKind.u64 0] 25)))
  have R0 := Lib.hid ((Blk.new w #[Value.int IntKind.u64 0, Value.int IntKind.u64 0, Value.int IntKind.u64 0, Value.int IntKind.u64 0, Value.int IntKind.u64 0, Value.int IntKind.u64 0, Value.int IntKind.u64 0, Value.int IntKind.u64 0, Value.int IntKind.u64 0, Value.int IntKind.u64 0, Value.int IntKind.u64 0, Value.int IntKind.u64 0] 25).old (.cells #[Value.int IntKind.u64 0, Value.int IntKind.u64 0, Value.int IntKind.u64 0, Value.int IntKind.u64 0, Value.int IntKind.u64 0, Value.int IntKind.u64 0, Value.int IntKind.u64 0, Value.int IntKind.u64 0, Value.int IntKind.u64 0, Value.int IntKind.u64 0, Value.int IntKind.u64 0, Value.int IntKind.u64 0] 25))
  have R1 := Lib.hid (show Blk (w.heap.size + 1) (hc (nthI (gNs (List.replicate 0 8) st).1)) 25 ((w.alloc (.cells #[Value.int IntKind.u64 0, Value.int IntKind.u64 0, Value.int IntKind.u64 0, Value.int IntKind.u64 0, Value.int IntKind.u64 0, Value.int IntKind.u64 0, Value.int IntKind.u64 0, Value.int IntKind.u64 0, Value.int IntKind.u64 0, Value.int IntKind.u64 0, Value.int IntKind.u64 0, Value.int IntKind.u64 0] 25)).alloc (.cells #[Value.int IntKind.u64 0, Value.int IntKind.u64 0, Value.int IntKind.u64 0, Value.int IntKind.u64 0, Value.int IntKind.u64 0, Value.int IntKind.u64 0, Value.int IntKind.u64 0, Value.int IntKind.u64 0, Value.int IntKind.u64 0, Value.int IntKind.u64 0, Value.int IntKind.u64 0, Value.int IntKind.u64 0] 25)) from Blk.new2 w (.cells #[Value.int IntKind.u64 0, Value.int IntKind.u64 0, Value.int IntKind.u64 0, Value.int IntKind.u64 0, Value.int IntKind.u64 0, Value.int IntKind.u64 0, Value.int IntKind.u64 0, Value.int IntKind.u64 0, Value.int IntKind.u64 0, Value.int IntKind.u64 0, Value.int IntKind.u64 0, Value.int IntKind.u64 0] 25) #[Value.int IntKind.u64 0, Value.int IntKind.u64 0, Value.int IntKind.u64 0, Value.int IntKind.u64 0, Value.int IntKind.u64 0, Value.int IntKind.u64 0, Value.int IntKind.u64 0, Value.int IntKind.u64 0, Value.int IntKind.u64 0, Value.int IntKind.u64 0, Value.int IntKind.u64 0, Value.int IntKind.u64 0] 25)
  have HL := Lib.hid (show b < w.heap.size from h.lt)
  obtain ⟨Y, hY⟩ : ∃ Y, Y = gNs (List.replicate 12 8) st := ⟨_, rfl⟩
  rw [← hY]
  have HY := Lib.hid hY
  have HH := Lib.hid hh
  clear h hY hh
  go_enter Tryd.func39, Tryd.ntmps39
  go_upto_region 2 with fail
  generalize (w.alloc (.cells #[Value.int IntKind.u64 0, Value.int IntKind.u64 0, Value.int IntKind.u64 0, Value.int IntKind.u64 0, Value.int IntKind.u64 0, Value.int IntKind.u64 0, Value.int IntKind.u64 0, Value.int IntKind.u64 0, Value.int IntKind.u64 0, Value.int IntKind.u64 0, Value.int IntKind.u64 0, Value.int IntKind.u64 0] 25)).alloc (.cells #[Value.int IntKind.u64 0, Value.int IntKind.u64 0, Value.int IntKind.u64 0, Value.int IntKind.u64 0, Value.int IntKind.u64 0, Value.int IntKind.u64 0, Value.int IntKind.u64 0, Value.int IntKind.u64 0, Value.int IntKind.u64 0, Value.int IntKind.u64 0, Value.int IntKind.u64 0, Value.int IntKind.u64 0] 25) = W at *
  go_wp2_with fail
  go_loopg [4] 12 (fun k i wr => ∃ r : Nat, r + k = 12 ∧ i = .int .i64 r ∧ EyS w0 b p c l (gNs (List.replicate r 8) st).2 wr ∧ RStep b w wr ∧ Blk w.heap.size #[Value.int IntKind.u64 0, Value.int IntKind.u64 0, Value.int IntKind.u64 0, Value.int IntKind.u64 0, Value.int IntKind.u64 0, Value.int IntKind.u64 0, Value.int IntKind.u64 0, Value.int IntKind.u64 0, Value.int IntKind.u64 0, Value.int IntKind.u64 0, Value.int IntKind.u64 0, Value.int IntKind.u64 0] 25 wr ∧ Blk (w.heap.size + 1) (hc (nthI (gNs (List.replicate r 8) st).1)) 25 wr)
  case atStart => exact ⟨0, by omega, rfl, HS.out, HT.out, R0.out, R1.out⟩
  case round =>
    clear HS HT R0 R1
    obtain ⟨r, hr, rfl, hs, ht, h0, h1⟩ := hrel
    have HS := Lib.hid hs
    have HT := Lib.hid ht
    have R0 := Lib.hid h0
    have R1 := Lib.hid h1
    clear hs ht h0 h1
    by_cases hlt : r < 12
    · have hltI : (r : Int) < 12 := by omega
      have HE := Lib.hid (gNs_snoc r st)
      have hrl := rep_len r st
      have HC := Lib.hid (eget_h HH.out b _ 8 (by decide) (Nat.le_refl _) wr HS.out)
      generalize gNs (List.replicate r 8) st = y at *
      obtain ⟨ns, x⟩ := y
      simp only at HE HC HS R1 hrl
      generalize gN 8 x = z at *
      obtain ⟨n, x'⟩ := z
      simp only at HE HC
      have HR := Lib.hid hrl
      clear hrl
      go_wp2_with (first
        | (go_at_call 38; refine HC.out.mono ?_; rintro e w1 ⟨rfl, hs, ht⟩; refine Hid.out ?_))
      have HS1 := Lib.hid hs
      have HT1 := Lib.hid (HT.out.trans ht)
      have R01 := Lib.hid (ht.blk R0.out (by have := HL.out; omega))
      have R11 := Lib.hid (ht.blk R1.out (by have := HL.out; omega))
      have f1 := frozen_of_row _ (w.heap.size + 1) r _ _ R11.out
      have k1 := cell_row R11.out hlt
      clear hs ht HC HS HT R0 R1
      refine Lib.hid ?_
      go_wp2_with (refine storeCell rfl 23 _ _ rfl (w.heap.size + 1) r (.int .u64 n) rfl rfl rfl (R11.out.there (by rw [hc_size]; omega)) (by kernel_rfl) ?_; refine Hid.out ?_)
      have R12 := Lib.hid (show Blk (w.heap.size + 1) (hc (nthI (ns ++ [n]))) 25 (w1.setCell ⟨w.heap.size + 1, r, none⟩ (.int .u64 n)) by
        have := R11.out.one (k := r) (.int .u64 n)
        rw [hc_set _ n r hlt] at this
        rw [hc_congr fun j _ => nthI_snoc ns n j, HR.out]
        exact this)
      have R02 := Lib.hid (R01.out.cother (g := w.heap.size + 1) (k := r) (by omega) (.int .u64 n))
      have R13 := Lib.hid R12.out
      have R03 := Lib.hid R02
      have HS2 := Lib.hid (HS1.out.cset (k := r) (v := .int .u64 n) (show b < w.heap.size + 1 by have := HL.out; omega))
      have HT2 := Lib.hid (HT1.out.cset (k := r) (v := .int .u64 n) HL.out (show w.heap.size ≤ w.heap.size + 1 by omega))
      clear R12 R02 R11 R01 HS1 HT1 f1 k1
      generalize w1.setCell ⟨w.heap.size + 1, r, none⟩ (.int .u64 n) = W2 at *
      refine Lib.hid ?_
      go_wp2_with fail
      go_roundg (12 - (r + 1))
      case measure => omega
      case rel => exact ⟨r + 1, by omega, by go_num, by rw [HE.out]; exact HS2.out, HT2.out, R03.out, by rw [HE.out]; exact R13.out⟩
    · obtain rfl : r = 12 := by omega
      rw [← HY.out] at HS R1
      obtain ⟨ns, x⟩ := Y
      simp only at HS R1
      go_wp2_with (first
        | (refine wpList_load_row rfl 25 _ rfl (w.heap.size + 1) rfl 25 (hc (nthI ns)) (0, 0) _ R1.out Tryd.underlying25 rfl infoHead ?_)
        | (refine wpList_store_row rfl 25 _ _ rfl w.heap.size (hc (nthI ns)) rfl rfl 25 _ R0.out (by kernel_rfl) rfl (hc_one _) ?_))
      refine bodyPost_ret (v := .agg (hc (nthI ns))) ?_ rfl ⟨rfl, HS.out.rset HL.out, HT.out.rset HL.out (Nat.le_refl _)⟩
      exact res_one Tryd.results39 (cs := hc (nthI ns)) rfl (R0.out.rset _) Tryd.underlying25 rfl (by kernel_rfl)
end Go.Proofs.YtndgbgolmpoepaaDoor

/-
  The reference's eye: acts.
-/
namespace Go.Proofs.YtndgbgolmpoepaaDoor
set_option maxRecDepth 20000
open Go.RowKit

/-- what reading a list leaves -/
def EyOwn {α : Type} (K : Kd α) (w0 : World) (b : Nat) (p : Option Addr) (c : Nat) (l : List Int) (w : World) (L : List α) (st : Sta) (e : Ending) (w' : World) : Prop := ∃ v, e = .returned v ∧ KOwns K w.heap.size v L w' ∧ EyS w0 b p c l st w' ∧ RStep b w w'
set_option maxHeartbeats 4000000 in
theorem eacts_read {w0 : World} {p : Option Addr} {c : Nat} {l : List Int} (hh : EyH w0 p c l) (b : Nat) (st : Sta) (w : World) (h : EyS w0 b p c l st w) :
    Calls Tryd.prog 40 #[.pointer (some ⟨b, 0, none⟩)] w (EyOwn KA w0 b p c l w (gActs st).1 (gActs st).2) := by
  have HH := Lib.hid hh
  have HC := Lib.hid (eget_h hh b st 1 (by decide) (by decide) w h)
  have HL := Lib.hid (show b < w.heap.size from h.lt)
  have hr := gN_rng (s := 1) (h.byte hh.byte)
  rw [powB_1] at hr
  have HE := Lib.hid (show gActs st = gMany gAct (gN 1 st).1.toNat (gN 1 st).2 from rfl)
  clear h hh
  generalize gN 1 st = y at *
  obtain ⟨n, x⟩ := y
  simp only at HE HC hr
  obtain ⟨N, rfl⟩ := Int.eq_ofNat_of_zero_le hr.1
  have hN : N ≤ 255 := by have := hr.2; omega
  have hNI : (N : Int) ≤ 255 := by omega
  have hN0 : (0 : Int) ≤ (N : Int) := by omega
  have hwN : IntKind.i64.wrap (N : Int) = (N : Int) := by rw [IntKind.wrap_i64]; omega
  simp only [Int.toNat_natCast] at HE
  clear hr
  rw [HE.out]
  clear HE
  go_enter Tryd.func40, Tryd.ntmps40
  go_wp2_with (go_at_call 38; refine HC.out.mono ?_; rintro e w1 ⟨rfl, hs, ht⟩; refine Hid.out ?_)
  have HS := Lib.hid hs
  have HT := Lib.hid ht
  clear hs ht HC
  refine Lib.hid ?_
  go_wp2_with fail
  go_loopg [3, 5] N (fun k lv i wr => ∃ (r : Nat) (L : List Ac) (x' : Sta), Hid (L.length = r) ∧ r + k = N ∧ i = .int .i64 (r : Int) ∧ gMany gAct N x = (L ++ (gMany gAct k x').1, (gMany gAct k x').2) ∧ KOwns KA w.heap.size lv L wr ∧ EyS w0 b p c l x' wr ∧ RStep b w wr)
  case atStart => exact ⟨0, [], x, Lib.hid rfl, by omega, rfl, rfl, KOwns.nil _ _, HS.out, HT.out⟩
  case round =>
    clear HS HT
    obtain ⟨r, L, x', HLr, hr, rfl, he, ho, hs, ht⟩ := hrel
    obtain ⟨po, co, rfl⟩ := ho.form
    have HO := Lib.hid ho
    have HS := Lib.hid hs
    have HT := Lib.hid ht
    have HE := Lib.hid he
    have k1 := hs.short
    clear ho hs ht he
    have hr0 : (0 : Int) ≤ (r : Int) := by omega
    by_cases hk : gk = 0
    · subst hk
      have hrN : ¬ (r : Int) < (N : Int) := by omega
      go_wp2_with fail
      go_ret
      rw [HE.out]
      exact ⟨_, rfl, by show KOwns KA w.heap.size _ (L ++ []) wr; rw [List.append_nil]; exact HO.out, HS.out, HT.out⟩
    obtain ⟨k', rfl⟩ : ∃ k', gk = k' + 1 := ⟨gk - 1, by omega⟩
    have hrN : (r : Int) < (N : Int) := by omega
    cases hsh : x'.2
    · rw [hsh] at k1
      have b0 := HS.out.byte HH.out.byte
      cases h1 : gN 1 x' with
      | mk n1 x1 =>
      cases h2 : gN 1 x1 with
      | mk n2 x2 =>
      cases h3 : gN 1 x2 with
      | mk n3 x3 =>
      cases h4 : gN 8 x3 with
      | mk n4 x4 =>
      have HG := Lib.hid (gMany_step gAct k' hsh (gAct_parts x' h1 h2 h3 h4))
      have b1 : ByL x1.1 := by have := gN_byte (s := 1) b0; rw [h1] at this; exact this
      have b2 : ByL x2.1 := by have := gN_byte (s := 1) b1; rw [h2] at this; exact this
      have r1 := gN_rng (s := 1) b0
      have r2 := gN_rng (s := 1) b1
      have r3 := gN_rng (s := 1) b2
      rw [h1, powB_1] at r1
      rw [h2, powB_1] at r2
      rw [h3, powB_1] at r3
      simp only at r1 r2 r3
      have hw1 : IntKind.i64.wrap n1 = n1 := by rw [IntKind.wrap_i64]; omega
      have hw2 : IntKind.i64.wrap n2 = n2 := by rw [IntKind.wrap_i64]; omega
      have hw3 : IntKind.i64.wrap n3 = n3 := by rw [IntKind.wrap_i64]; omega
      have v10 := r1.1
      have v11 := r1.2
      have v20 := r2.1
      have v21 := r2.2
      have v30 := r3.1
      have v31 := r3.2
      have H1 := Lib.hid h1
      have H2 := Lib.hid h2
      have H3 := Lib.hid h3
      have H4 := Lib.hid h4
      clear h1 h2 h3 h4 hsh b0 b1 b2 r1 r2 r3
      go_upto_region 7 with fail
      clear k1
      have HS0 := Lib.hid (HS.out.alloc (.cells #[.int .i64 0, .int .i64 0, .int .i64 0, .int .u64 0] 97))
      have HR0 := Lib.hid (EyS.salloc HS.out (.cells #[.int .i64 0, .int .i64 0, .int .i64 0, .int .u64 0] 97))
      have HB := Lib.hid HS.out.lt
      have Q0 := Lib.hid (show Blk wr.heap.size (aca ⟨0, 0, 0, 0⟩) 97 (wr.alloc (.cells #[.int .i64 0, .int .i64 0, .int .i64 0, .int .u64 0] 97)) from Blk.new wr (aca ⟨0, 0, 0, 0⟩) 97)
      have HLO := Lib.hid (show w.heap.size ≤ wr.heap.size from (by have h1 := HT.out.below.size; have h2 := HL.out; have h3 := HS.out.lt; first | omega | exact (HT.out.below.size)))
      generalize wr.alloc (.cells #[.int .i64 0, .int .i64 0, .int .i64 0, .int .u64 0] 97) = W0 at *
      have HC0 := Lib.hid (eget_h HH.out b x' 1 (by decide) (by decide) W0 HS0.out)
      rw [H1.out] at HC0
      go_wp2_with (go_at_call 38; refine HC0.out.mono ?_; rintro e V0 ⟨rfl, hs, ht⟩; refine Hid.out ?_)
      have HSv0 := Lib.hid hs
      have HRv0 := Lib.hid (HR0.out.trans ht)
      have Qv0 := Lib.hid (ht.blk Q0.out (by have := HB.out; omega))
      clear hs ht HC0 HS0 HR0 Q0
      refine Lib.hid ?_
      go_wp2_with (refine storeCell rfl 3 _ _ rfl wr.heap.size 0 (.int .i64 n1) rfl rfl rfl (Qv0.out.there (by simp [aca])) (by kernel_rfl) ?_; refine Hid.out ?_)
      have HS1 := Lib.hid (HSv0.out.cset (g := wr.heap.size) (k := 0) (v := .int .i64 n1) HB.out)
      have HR1 := Lib.hid (HRv0.out.cset (g := wr.heap.size) (k := 0) (v := .int .i64 n1) HB.out (Nat.le_refl _))
      have Q1 := Lib.hid (show Blk wr.heap.size (aca ⟨n1, 0, 0, 0⟩) 97 (V0.setCell ⟨wr.heap.size, 0, none⟩ (.int .i64 n1)) from Blk.oneTo Qv0.out rfl)
      clear HSv0 HRv0 Qv0
      generalize V0.setCell ⟨wr.heap.size, 0, none⟩ (.int .i64 n1) = W1 at *
      have HC1 := Lib.hid (eget_h HH.out b x1 1 (by decide) (by decide) W1 HS1.out)
      rw [H2.out] at HC1
      refine Lib.hid ?_
      go_wp2_with (go_at_call 38; refine HC1.out.mono ?_; rintro e V1 ⟨rfl, hs, ht⟩; refine Hid.out ?_)
      have HSv1 := Lib.hid hs
      have HRv1 := Lib.hid (HR1.out.trans ht)
      have Qv1 := Lib.hid (ht.blk Q1.out (by have := HB.out; omega))
      clear hs ht HC1 HS1 HR1 Q1
      refine Lib.hid ?_
      go_wp2_with (refine storeCell rfl 3 _ _ rfl wr.heap.size 1 (.int .i64 n2) rfl rfl rfl (Qv1.out.there (by simp [aca])) (by kernel_rfl) ?_; refine Hid.out ?_)
      have HS2 := Lib.hid (HSv1.out.cset (g := wr.heap.size) (k := 1) (v := .int .i64 n2) HB.out)
      have HR2 := Lib.hid (HRv1.out.cset (g := wr.heap.size) (k := 1) (v := .int .i64 n2) HB.out (Nat.le_refl _))
      have Q2 := Lib.hid (show Blk wr.heap.size (aca ⟨n1, n2, 0, 0⟩) 97 (V1.setCell ⟨wr.heap.size, 1, none⟩ (.int .i64 n2)) from Blk.oneTo Qv1.out rfl)
      clear HSv1 HRv1 Qv1
      generalize V1.setCell ⟨wr.heap.size, 1, none⟩ (.int .i64 n2) = W2 at *
      have HC2 := Lib.hid (eget_h HH.out b x2 1 (by decide) (by decide) W2 HS2.out)
      rw [H3.out] at HC2
      refine Lib.hid ?_
      go_wp2_with (go_at_call 38; refine HC2.out.mono ?_; rintro e V2 ⟨rfl, hs, ht⟩; refine Hid.out ?_)
      have HSv2 := Lib.hid hs
      have HRv2 := Lib.hid (HR2.out.trans ht)
      have Qv2 := Lib.hid (ht.blk Q2.out (by have := HB.out; omega))
      clear hs ht HC2 HS2 HR2 Q2
      refine Lib.hid ?_
      go_wp2_with (refine storeCell rfl 3 _ _ rfl wr.heap.size 2 (.int .i64 n3) rfl rfl rfl (Qv2.out.there (by simp [aca])) (by kernel_rfl) ?_; refine Hid.out ?_)
      have HS3 := Lib.hid (HSv2.out.cset (g := wr.heap.size) (k := 2) (v := .int .i64 n3) HB.out)
      have HR3 := Lib.hid (HRv2.out.cset (g := wr.heap.size) (k := 2) (v := .int .i64 n3) HB.out (Nat.le_refl _))
      have Q3 := Lib.hid (show Blk wr.heap.size (aca ⟨n1, n2, n3, 0⟩) 97 (V2.setCell ⟨wr.heap.size, 2, none⟩ (.int .i64 n3)) from Blk.oneTo Qv2.out rfl)
      clear HSv2 HRv2 Qv2
      generalize V2.setCell ⟨wr.heap.size, 2, none⟩ (.int .i64 n3) = W3 at *
      have HC3 := Lib.hid (eget_h HH.out b x3 8 (by decide) (by decide) W3 HS3.out)
      rw [H4.out] at HC3
      refine Lib.hid ?_
      go_wp2_with (go_at_call 38; refine HC3.out.mono ?_; rintro e V3 ⟨rfl, hs, ht⟩; refine Hid.out ?_)
      have HSv3 := Lib.hid hs
      have HRv3 := Lib.hid (HR3.out.trans ht)
      have Qv3 := Lib.hid (ht.blk Q3.out (by have := HB.out; omega))
      clear hs ht HC3 HS3 HR3 Q3
      refine Lib.hid ?_
      go_wp2_with (refine storeCell rfl 23 _ _ rfl wr.heap.size 3 (.int .u64 n4) rfl rfl rfl (Qv3.out.there (by simp [aca])) (by kernel_rfl) ?_; refine Hid.out ?_)
      have HS4 := Lib.hid (HSv3.out.cset (g := wr.heap.size) (k := 3) (v := .int .u64 n4) HB.out)
      have HR4 := Lib.hid (HRv3.out.cset (g := wr.heap.size) (k := 3) (v := .int .u64 n4) HB.out (Nat.le_refl _))
      have Q4 := Lib.hid (show Blk wr.heap.size (aca ⟨n1, n2, n3, n4⟩) 97 (V3.setCell ⟨wr.heap.size, 3, none⟩ (.int .u64 n4)) from Blk.oneTo Qv3.out rfl)
      clear HSv3 HRv3 Qv3
      generalize V3.setCell ⟨wr.heap.size, 3, none⟩ (.int .u64 n4) = W4 at *
      have HO4 := Lib.hid (HR4.out.owns HO.out HL.out)
      have HT4 := Lib.hid (HT.out.trans HR4.out)
      have HR4s := Lib.hid (show wr.heap.size < W4.heap.size from Q4.out.lt)
      clear HO HT HS HR4
      have HS5 := Lib.hid (HS4.out.alloc (.cells (aca ⟨n1, n2, n3, n4⟩) KA.T))
      have HT5 := Lib.hid (HT4.out.trans (EyS.salloc HS4.out (.cells (aca ⟨n1, n2, n3, n4⟩) KA.T)))
      have HO5 := Lib.hid (HO4.out.below (below1 W4 (.cells (aca ⟨n1, n2, n3, n4⟩) KA.T)))
      have HK5 := Lib.hid (Blk.klies (K := KA) (l := [⟨n1, n2, n3, n4⟩]) (Blk.new W4 (aca ⟨n1, n2, n3, n4⟩) KA.T) okA rfl)
      have HW5 := Lib.hid (show w.heap.size ≤ (W4.alloc (.cells (aca ⟨n1, n2, n3, n4⟩) KA.T)).heap.size from (by have h1 := HT4.out.below.size; have h2 := (below1 W4 (.cells (aca ⟨n1, n2, n3, n4⟩) KA.T)).size; have h3 := HLO.out; have h4 := HR4s.out; omega))
      refine Lib.hid ?_
      go_wp2_with (first
        | (refine wpList_load_row rfl 97 _ rfl wr.heap.size rfl 97 (aca ⟨n1, n2, n3, n4⟩) (0, 0) _ Q4.out Tryd.underlying97 rfl (by kernel_rfl) ?_)
        | (refine kbuildOne KA okA zA zeroA rfl _ rfl (aca ⟨n1, n2, n3, n4⟩) rfl (by decide) (fillA ⟨n1, n2, n3, n4⟩) ?_)
        | (refine kappend KA okA rfl _ _ rfl w.heap.size _ L [⟨n1, n2, n3, n4⟩] rfl HO5.out _ rfl HK5.out HW5.out (by have := HLr.out; simp; omega) (fun v' w' ho hg => ?_); refine Hid.out ?_))
      have HO6 := Lib.hid ho
      have HS6 := Lib.hid (HS5.out.grow hg fun k e => by have := HO5.out.ge k e; have := HL.out; omega)
      have HT6 := Lib.hid (HT5.out.grow HL.out hg fun k e => HO5.out.ge k e)
      clear ho hg HO5 HS5 HT5 HK5 HW5 HO4 HT4 HS4 Q4
      refine Lib.hid ?_
      go_wp2_with fail
      go_roundg k'
      case measure => omega
      case rel => exact ⟨r + 1, L ++ [⟨n1, n2, n3, n4⟩], x4, Lib.hid (by rw [List.length_append, HLr.out]; rfl), by omega, by go_num, by rw [HE.out, HG.out]; simp, HO6.out, HS6.out, HT6.out⟩
    · rw [hsh] at k1
      go_wp2_with fail
      go_ret
      rw [HE.out, gMany_stop _ _ hsh]
      exact ⟨_, rfl, by show KOwns KA w.heap.size _ (L ++ []) wr; rw [List.append_nil]; exact HO.out, HS.out, HT.out⟩
end Go.Proofs.YtndgbgolmpoepaaDoor
