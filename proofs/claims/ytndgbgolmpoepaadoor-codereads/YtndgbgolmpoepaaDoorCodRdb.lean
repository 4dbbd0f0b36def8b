/-
  The program's reader: head, match, acts.
-/
import Derived.Test.YtndgbgolmpoepaaDoorCodRd
import Derived.Test.YtndgbgolmpoepaaDoorCodGetB
namespace Go.Proofs.YtndgbgolmpoepaaDoor
set_option maxRecDepth 20000
open Go.RowKit

theorem hc_congr {a c : Nat → Int} (h : ∀ j, j < 12 → a j = c j) : hc a = hc c := by
  unfold hc
  rw [h 0 (by decide), h 1 (by decide), h 2 (by decide), h 3 (by decide), h 4 (by decide), h 5 (by decide), h 6 (by decide), h 7 (by decide), h 8 (by decide), h 9 (by decide), h 10 (by decide), h 11 (by decide)]
theorem cc_congr {a c : Nat → Int} (h : ∀ j, j < 24 → a j = c j) : cc a = cc c := by
  unfold cc cl
  congr 1
  apply List.map_congr_left
  intro j hj
  rw [h j (by simpa using hj)]
theorem nthI_snoc (l : List Int) (n : Int) (j : Nat) : nthI (l ++ [n]) j = upd (nthI l) l.length n j := by
  unfold upd
  split
  · rename_i e
    subst e
    rw [nthI_right (k := 0) (by omega)]
    rfl
  · rename_i e
    by_cases h : j < l.length
    · exact nthI_left h
    · rw [nthI_right (k := j - l.length) (by omega)]
      unfold nthI
      rw [List.getD_eq_getElem?_getD, List.getD_eq_getElem?_getD, List.getElem?_eq_none (by simp; omega), List.getElem?_eq_none (by omega)]
theorem zh_hc : hc (nthI []) = hc zHd := by unfold hc nthI; rfl
theorem builtC (a c : Nat → Int) : Tryd.prog.built 27 [(0, .agg (hc a)), (1, .agg (hc c))] = some (cc (joinC a c)) := by kernel_rfl
theorem buildC {ops : Array Oper} {rest : List Oper} {o : Oper} {a : Act} {w : World} {Q : Exit → Act → World → Prop} (hg : o.guard = none) (x0 x1 : Operand) (ho : o.op = .build 27 #[(0, x0), (1, x1)]) (c d : Nat → Int)
    (h0 : a.eval x0 = .agg (hc c)) (h1 : a.eval x1 = .agg (hc d))
    (h : wpList Tryd.prog ops Q rest (a.put o.dst (.agg (cc (joinC c d)))) w) : wpList Tryd.prog ops Q (o :: rest) a w := by
  have e : ((#[(0, x0), (1, x1)] : Array (Nat × Operand)).map fun (p : Nat × Operand) => (p.1, a.eval p.2)).toList = [(0, .agg (hc c)), (1, .agg (hc d))] := by simp [h0, h1]
  have e' := congrArg (Tryd.prog.built 27) e
  rw [builtC] at e'
  refine wpList_build hg 27 _ ho (by rw [e']; rfl) ?_
  rw [e']
  exact h
section
variable {w0 w W W' : World} {b g k : Nat} {st : Sta} {v : Value} {cs : Array Value} {vs : List Value}
theorem RdS.same (h : RdS w0 b st W) (hb : W'.heap[b]? = W.heap[b]?) (hk : Below w0.heap.size w0 W') : RdS w0 b st W' := by
  obtain ⟨p, c, h1, h2, _, h4⟩ := h
  exact ⟨p, c, hb.trans h1, h2, hk, h4⟩
theorem RdS.cset (h : RdS w0 b st W) (hg : b < g) : RdS w0 b st (W.setCell ⟨g, k, none⟩ v) := h.same (heap_setCell_other _ _ _ _ (by show b ≠ g; omega)) (h.kept.setCell (by have := h.ge; show w0.heap.size ≤ g; omega) _)
theorem RdS.mset (h : RdS w0 b st W) (hg : b < g) : RdS w0 b st (W.setCells g k vs) := h.same (heap_stM_other (by omega) _ _ _) (below_stM h.kept h.kept.size (by have := h.ge; omega) _)
theorem RdS.rset (h : RdS w0 b st W) (hg : b < g) : RdS w0 b st (W.setRow g cs) := h.same (setRow_other _ _ _ _ (by omega)) (below_setRow h.kept (by have := h.ge; omega) _)
theorem RStep.cset (h : RStep b w W) (hb : b < w.heap.size) (hg : w.heap.size ≤ g) : RStep b w (W.setCell ⟨g, k, none⟩ v) := ⟨h.below.setCell (by show b ≤ g; omega) _, fun j hj hne => (heap_setCell_other _ _ _ _ (by show j ≠ g; omega)).trans (h.keep j hj hne)⟩
theorem RStep.mset (h : RStep b w W) (hb : b < w.heap.size) (hg : w.heap.size ≤ g) : RStep b w (W.setCells g k vs) := ⟨below_stM h.below (by have := h.below.size; omega) (by omega) _, fun j hj hne => (heap_stM_other (by omega) _ _ _).trans (h.keep j hj hne)⟩
theorem RStep.rset (h : RStep b w W) (hb : b < w.heap.size) (hg : w.heap.size ≤ g) : RStep b w (W.setRow g cs) := ⟨below_setRow h.below (by omega) _, fun j hj hne => (setRow_other _ _ _ _ (by omega)).trans (h.keep j hj hne)⟩
theorem RStep.grow (h : RStep b w W) (hb : b < w.heap.size) {row : Option Nat} (hg : W.grownBy W' row) (hr : ∀ k, row = some k → w.heap.size ≤ k) : RStep b w W' :=
  ⟨h.below.grown hg (by have := h.below.size; omega) fun k e => by have := hr k e; omega, fun j hj hne => (hg.block j (by have := h.below.size; omega) fun e => by have := hr j e.symm; omega).trans (h.keep j hj hne)⟩
theorem RdS.grow (h : RdS w0 b st W) {row : Option Nat} (hg : W.grownBy W' row) (hr : ∀ k, row = some k → b < k) : RdS w0 b st W' :=
  h.same (hg.block b h.lt fun e => by have := hr b e.symm; omega) (h.kept.grown hg h.kept.size fun k e => by have := hr k e; have := h.ge; omega)
end
set_option maxHeartbeats 2000000 in
theorem rhead_any' (w0 : World) (b : Nat) (st : Sta) (w : World) (h : RdS w0 b st w) :
    Calls Tryd.prog 60 #[.pointer (some ⟨b, 0, none⟩)] w (RdRet w0 b w (.agg (hc (nthI (gNs (List.replicate 12 8) st).1))) (gNs (List.replicate 12 8) st).2) := by
  have HS := Lib.hid ((h.alloc (.cells #[Value.int IntKind.u64 0, Value.int IntKind.u64 0, Value.int IntKind.u64 0, Value.int IntKind.u64 0, Value.int IntKind.u64 0, Value.int IntKind.u64 0, Value.int IntKind.u64 0, Value.int IntKind.u64 0, Value.int IntKind.u64 0, Value.int IntKind.u64 0, Value.int IntKind.u64 0, Value.int IntKind.u64 0] 25)).alloc (.cells #[Value.int IntKind.u64 0, Value.int IntKind.u64 0, Value.int IntKind.u64 0, Value.int IntKind.u64 0, Value.int IntKind.u64 0, Value.int IntKind.u64 0, Value.int IntKind.u64 0, Value.int IntKind.u64 0, Value.int IntKind.u64 0, Value.int IntKind.u64 0, Value.int IntKind.u64 0, Value.int IntKind.u64 0] 25))
  have HT := Lib.hid ((RStep.alloc h (.cells #[Value.int IntKind.u64 0, Value.int IntKind.u64 0, Value.int IntKind.u64 0, Value.int IntKind.u64 0, Value.int IntKind.u64 0, Value.int IntKind.u64 0, Value.int IntKind.u64 0, Value.int IntKind.u64 0, Value.int IntKind.u64 0, Value.int IntKind.u64 0, Value.int IntKind.u64 0, Value.int IntKind.u64 0] 25)).trans (RStep.alloc (h.alloc (.cells #[Value.int IntKind.u64 0, Value.int IntKind.u64 0, Value.int IntKind.u64 0, Value.int IntKind.u64 0, Value.int IntKind.u64 0, Value.int IntKind.u64 0, Value.int IntKind.u64 0, Value.int IntKind.u64 0, Value.int IntKind.u64 0, Value.int IntKind.u64 0, Value.int IntKind.u64 0, Value.int IntKind.u64 0] 25)) (.cells #[Value.int IntKind.u64 0, Value.int IntKind.u64 0, Value.int IntKind.u64 0, Value.int IntKind.u64 0, Value.int IntKind.u64 0, Value.int IntKind.u64 0, Value.int IntKind.u64 0, Value.int IntKind.u64 0, Value.int IntKind.u64 0, Value.int IntKind.u64 0, Value.int IntKind.u64 0, Value.int IntKind.u64 0] 25)))
  have R0 := Lib.hid ((Blk.new w #[Value.int IntKind.u64 0, Value.int IntKind.u64 0, Value.int IntKind.u64 0, Value.int IntKind.u64 0, Value.int IntKind.u64 0, Value.int IntKind.u64 0, Value.int IntKind.u64 0, Value.int IntKind.u64 0, Value.int IntKind.u64 0, Value.int IntKind.u64 0, Value.int IntKind.u64 0, Value.int IntKind.u64 0] 25).old (.cells #[Value.int IntKind.u64 0, Value.int IntKind.u64 0, Value.int IntKind.u64 0, Value.int IntKind.u64 0, Value.int IntKind.u64 0, Value.int IntKind.u64 0, Value.int IntKind.u64 0, Value.int IntKind.u64 0, Value.int IntKind.u64 0, Value.int IntKind.u64 0, Value.int IntKind.u64 0, Value.int IntKind.u64 0] 25))
  have R1 := Lib.hid (show Blk (w.heap.size + 1) (hc (nthI (gNs (List.replicate 0 8) st).1)) 25 ((w.alloc (.cells #[Value.int IntKind.u64 0, Value.int IntKind.u64 0, Value.int IntKind.u64 0, Value.int IntKind.u64 0, Value.int IntKind.u64 0, Value.int IntKind.u64 0, Value.int IntKind.u64 0, Value.int IntKind.u64 0, Value.int IntKind.u64 0, Value.int IntKind.u64 0, Value.int IntKind.u64 0, Value.int IntKind.u64 0] 25)).alloc (.cells #[Value.int IntKind.u64 0, Value.int IntKind.u64 0, Value.int IntKind.u64 0, Value.int IntKind.u64 0, Value.int IntKind.u64 0, Value.int IntKind.u64 0, Value.int IntKind.u64 0, Value.int IntKind.u64 0, Value.int IntKind.u64 0, Value.int IntKind.u64 0, Value.int IntKind.u64 0, Value.int IntKind.u64 0] 25)) from Blk.new2 w (.cells #[Value.int IntKind.u64 0, Value.int IntKind.u64 0, Value.int IntKind.u64 0, Value.int IntKind.u64 0, Value.int IntKind.u64 0, Value.int IntKind.u64 0, Value.int IntKind.u64 0, Value.int IntKind.u64 0, Value.int IntKind.u64 0, Value.int IntKind.u64 0, Value.int IntKind.u64 0, Value.int IntKind.u64 0] 25) #[Value.int IntKind.u64 0, Value.int IntKind.u64 0, Value.int IntKind.u64 0, Value.int IntKind.u64 0, Value.int IntKind.u64 0, Value.int IntKind.u64 0, Value.int IntKind.u64 0, Value.int IntKind.u64 0, Value.int IntKind.u64 0, Value.int IntKind.u64 0, Value.int IntKind.u64 0, Value.int IntKind.u64 0] 25)
  have HL := Lib.hid (show b < w.heap.size from h.lt)
  obtain ⟨Y, hY⟩ : ∃ Y, Y = gNs (List.replicate 12 8) st := ⟨_, rfl⟩
  rw [← hY]
  have HY := Lib.hid hY
  clear h hY
  go_enter Tryd.func60, Tryd.ntmps60
  go_upto_region 2 with fail
  generalize (w.alloc (.cells #[Value.int IntKind.u64 0, Value.int IntKind.u64 0, Value.int IntKind.u64 0, Value.int IntKind.u64 0, Value.int IntKind.u64 0, Value.int IntKind.u64 0, Value.int IntKind.u64 0, Value.int IntKind.u64 0, Value.int IntKind.u64 0, Value.int IntKind.u64 0, Value.int IntKind.u64 0, Value.int IntKind.u64 0] 25)).alloc (.cells #[Value.int IntKind.u64 0, Value.int IntKind.u64 0, Value.int IntKind.u64 0, Value.int IntKind.u64 0, Value.int IntKind.u64 0, Value.int IntKind.u64 0, Value.int IntKind.u64 0, Value.int IntKind.u64 0, Value.int IntKind.u64 0, Value.int IntKind.u64 0, Value.int IntKind.u64 0, Value.int IntKind.u64 0] 25) = W at *
  go_wp2_with fail
  go_loopg [5] 12 (fun k i wr => ∃ r : Nat, r + k = 12 ∧ i = .int .i64 r ∧ RdS w0 b (gNs (List.replicate r 8) st).2 wr ∧ RStep b w wr ∧ Blk w.heap.size #[Value.int IntKind.u64 0, Value.int IntKind.u64 0, Value.int IntKind.u64 0, Value.int IntKind.u64 0, Value.int IntKind.u64 0, Value.int IntKind.u64 0, Value.int IntKind.u64 0, Value.int IntKind.u64 0, Value.int IntKind.u64 0, Value.int IntKind.u64 0, Value.int IntKind.u64 0, Value.int IntKind.u64 0] 25 wr ∧ Blk (w.heap.size + 1) (hc (nthI (gNs (List.replicate r 8) st).1)) 25 wr)
  case atStart => exact ⟨0, by omega, rfl, HS.out, HT.out, R0.out, R1.out⟩
  case round =>
    clear HS HT R0 R1
    obtain ⟨r, hr, rfl, hs, ht, h0, h1⟩ := hrel
    have HS := Lib.hid hs
    have HT := Lib.hid ht
    have R0 := Lib.hid h0
    have R1 := Lib.hid h1
    clear hs ht h0 h1
    by_cases hlt : r < 12
    · have hltI : (r : Int) < 12 := by omega
      have HE := Lib.hid (gNs_snoc r st)
      have hrl := rep_len r st
      have HC := Lib.hid (rword_any w0 b _ 8 (Nat.le_refl _) wr HS.out)
      generalize gNs (List.replicate r 8) st = y at *
      obtain ⟨ns, x⟩ := y
      simp only at HE HC HS R1 hrl
      generalize gN 8 x = z at *
      obtain ⟨n, x'⟩ := z
      simp only at HE HC
      have HR := Lib.hid hrl
      clear hrl
      go_wp2_with (first
        | (go_at_call 75; refine HC.out.mono ?_; rintro e w1 ⟨rfl, hs, ht⟩; refine Hid.out ?_))
      have HS1 := Lib.hid hs
      have HT1 := Lib.hid (HT.out.trans ht)
      have R01 := Lib.hid (ht.blk R0.out (by have := HL.out; omega))
      have R11 := Lib.hid (ht.blk R1.out (by have := HL.out; omega))
      have f1 := frozen_of_row _ (w.heap.size + 1) r _ _ R11.out
      have k1 := cell_row R11.out hlt
      clear hs ht HC HS HT R0 R1
      refine Lib.hid ?_
      go_wp2_with (refine storeCell rfl 23 _ _ rfl (w.heap.size + 1) r (.int .u64 n) rfl rfl rfl (R11.out.there (by rw [hc_size]; omega)) (by kernel_rfl) ?_; refine Hid.out ?_)
      have R12 := Lib.hid (show Blk (w.heap.size + 1) (hc (nthI (ns ++ [n]))) 25 (w1.setCell ⟨w.heap.size + 1, r, none⟩ (.int .u64 n)) by
        have := R11.out.one (k := r) (.int .u64 n)
        rw [hc_set _ n r hlt] at this
        rw [hc_congr fun j _ => nthI_snoc ns n j, HR.out]
        exact this)
      have R02 := Lib.hid (R01.out.cother (g := w.heap.size + 1) (k := r) (by omega) (.int .u64 n))
      have R13 := Lib.hid R12.out
      have R03 := Lib.hid R02
      have HS2 := Lib.hid (HS1.out.cset (k := r) (v := .int .u64 n) (show b < w.heap.size + 1 by have := HL.out; omega))
      have HT2 := Lib.hid (HT1.out.cset (k := r) (v := .int .u64 n) HL.out (show w.heap.size ≤ w.heap.size + 1 by omega))
      clear R12 R02 R11 R01 HS1 HT1 f1 k1
      generalize w1.setCell ⟨w.heap.size + 1, r, none⟩ (.int .u64 n) = W2 at *
      refine Lib.hid ?_
      go_wp2_with fail
      go_roundg (12 - (r + 1))
      case measure => omega
      case rel => exact ⟨r + 1, by omega, by go_num, by rw [HE.out]; exact HS2.out, HT2.out, R03.out, by rw [HE.out]; exact R13.out⟩
    · obtain rfl : r = 12 := by omega
      rw [← HY.out] at HS R1
      obtain ⟨ns, x⟩ := Y
      simp only at HS R1
      go_wp2_with (first
        | (refine wpList_load_row rfl 25 _ rfl (w.heap.size + 1) rfl 25 (hc (nthI ns)) (0, 0) _ R1.out Tryd.underlying25 rfl infoHead ?_)
        | (refine wpList_store_row rfl 25 _ _ rfl w.heap.size (hc (nthI ns)) rfl rfl 25 _ R0.out (by kernel_rfl) rfl (hc_one _) ?_))
      refine bodyPost_ret (v := .agg (hc (nthI ns))) ?_ rfl ⟨rfl, HS.out.rset HL.out, HT.out.rset HL.out (Nat.le_refl _)⟩
      exact res_one Tryd.results60 (cs := hc (nthI ns)) rfl (R0.out.rset _) Tryd.underlying25 rfl (by kernel_rfl)
set_option maxHeartbeats 2000000 in
theorem rmatch_any (w0 : World) (b : Nat) (st : Sta) (w : World) (h : RdS w0 b st w) :
    Calls Tryd.prog 76 #[.pointer (some ⟨b, 0, none⟩)] w (RdRet w0 b w (.agg (cc (cubeOf (gNs (List.replicate 24 8) st).1 0))) (gNs (List.replicate 24 8) st).2) := by
  have HC := Lib.hid (rhead_any' w0 b st _ (h.alloc (.cells #[Value.int IntKind.u64 0, Value.int IntKind.u64 0, Value.int IntKind.u64 0, Value.int IntKind.u64 0, Value.int IntKind.u64 0, Value.int IntKind.u64 0, Value.int IntKind.u64 0, Value.int IntKind.u64 0, Value.int IntKind.u64 0, Value.int IntKind.u64 0, Value.int IntKind.u64 0, Value.int IntKind.u64 0, Value.int IntKind.u64 0, Value.int IntKind.u64 0, Value.int IntKind.u64 0, Value.int IntKind.u64 0, Value.int IntKind.u64 0, Value.int IntKind.u64 0, Value.int IntKind.u64 0, Value.int IntKind.u64 0, Value.int IntKind.u64 0, Value.int IntKind.u64 0, Value.int IntKind.u64 0, Value.int IntKind.u64 0] 27)))
  have HT := Lib.hid (RStep.alloc h (.cells #[Value.int IntKind.u64 0, Value.int IntKind.u64 0, Value.int IntKind.u64 0, Value.int IntKind.u64 0, Value.int IntKind.u64 0, Value.int IntKind.u64 0, Value.int IntKind.u64 0, Value.int IntKind.u64 0, Value.int IntKind.u64 0, Value.int IntKind.u64 0, Value.int IntKind.u64 0, Value.int IntKind.u64 0, Value.int IntKind.u64 0, Value.int IntKind.u64 0, Value.int IntKind.u64 0, Value.int IntKind.u64 0, Value.int IntKind.u64 0, Value.int IntKind.u64 0, Value.int IntKind.u64 0, Value.int IntKind.u64 0, Value.int IntKind.u64 0, Value.int IntKind.u64 0, Value.int IntKind.u64 0, Value.int IntKind.u64 0] 27))
  have R0 := Lib.hid (Blk.new w #[Value.int IntKind.u64 0, Value.int IntKind.u64 0, Value.int IntKind.u64 0, Value.int IntKind.u64 0, Value.int IntKind.u64 0, Value.int IntKind.u64 0, Value.int IntKind.u64 0, Value.int IntKind.u64 0, Value.int IntKind.u64 0, Value.int IntKind.u64 0, Value.int IntKind.u64 0, Value.int IntKind.u64 0, Value.int IntKind.u64 0, Value.int IntKind.u64 0, Value.int IntKind.u64 0, Value.int IntKind.u64 0, Value.int IntKind.u64 0, Value.int IntKind.u64 0, Value.int IntKind.u64 0, Value.int IntKind.u64 0, Value.int IntKind.u64 0, Value.int IntKind.u64 0, Value.int IntKind.u64 0, Value.int IntKind.u64 0] 27)
  have HL := Lib.hid (show b < w.heap.size from h.lt)
  have HE := Lib.hid (rep_split st)
  have HLn := Lib.hid (rep_len 12 st)
  clear h
  generalize gNs (List.replicate 12 8) st = y at *
  obtain ⟨l1, x1⟩ := y
  simp only at HE HC HLn
  go_enter Tryd.func76, Tryd.ntmps76
  go_wp2_with (go_at_call 60; refine HC.out.mono ?_; rintro e w1 ⟨rfl, hs, ht⟩; refine Hid.out ?_)
  have HC1 := Lib.hid (rhead_any' w0 b x1 w1 hs)
  have HT1 := Lib.hid (HT.out.trans ht)
  have R1 := Lib.hid (ht.blk R0.out (by have := HL.out; omega))
  clear hs ht HC HT R0
  generalize gNs (List.replicate 12 8) x1 = y at *
  obtain ⟨l2, x2⟩ := y
  simp only at HE HC1
  refine Lib.hid ?_
  go_wp2_with (first
    | (go_at_call 60; refine HC1.out.mono ?_; rintro e w2 ⟨rfl, hs, ht⟩; refine Hid.out ?_))
  have HS2 := Lib.hid hs
  have HT2 := Lib.hid (HT1.out.trans ht)
  have R2 := Lib.hid (ht.blk R1.out (by have := HL.out; omega))
  clear hs ht HC1 HT1 R1
  refine Lib.hid ?_
  go_wp2_with (first
    | (refine buildC rfl _ _ rfl (nthI l1) (nthI l2) rfl rfl ?_)
    | (refine wpList_store_row rfl 27 _ _ rfl w.heap.size (cc (joinC (nthI l1) (nthI l2))) rfl rfl 27 _ R2.out (by kernel_rfl) rfl (cc_one _) ?_))
  have e : cc (cubeOf (gNs (List.replicate 24 8) st).1 0) = cc (joinC (nthI l1) (nthI l2)) := by
    rw [HE.out]
    exact cc_congr fun j hj => (joinC_of HLn.out j hj).symm
  rw [e, HE.out]
  refine bodyPost_ret (v := .agg (cc (joinC (nthI l1) (nthI l2)))) ?_ rfl ⟨rfl, HS2.out.rset HL.out, HT2.out.rset HL.out (Nat.le_refl _)⟩
  exact res_one Tryd.results76 (cs := cc (joinC (nthI l1) (nthI l2))) rfl (R2.out.rset _) Tryd.underlying27 rfl (by rw [cc_size]; kernel_rfl)
/-- what reading a list leaves -/
def RdOwn {α : Type} (K : Kd α) (w0 : World) (b : Nat) (w : World) (L : List α) (st : Sta) (e : Ending) (w' : World) : Prop := ∃ v, e = .returned v ∧ KOwns K w.heap.size v L w' ∧ RdS w0 b st w' ∧ RStep b w w'
theorem builtA (k p f v : Int) : Tryd.prog.built 97 [(0, .int .i64 k), (1, .int .i64 p), (2, .int .i64 f), (3, .int .u64 v)] = some (aca ⟨k, p, f, v⟩) := by kernel_rfl
theorem buildA {ops : Array Oper} {rest : List Oper} {o : Oper} {a : Act} {w : World} {Q : Exit → Act → World → Prop} (hg : o.guard = none) (x0 x1 x2 x3 : Operand) (ho : o.op = .build 97 #[(0, x0), (1, x1), (2, x2), (3, x3)]) (k p f v : Int)
    (h0 : a.eval x0 = .int .i64 k) (h1 : a.eval x1 = .int .i64 p) (h2 : a.eval x2 = .int .i64 f) (h3 : a.eval x3 = .int .u64 v)
    (h : wpList Tryd.prog ops Q rest (a.put o.dst (.agg (aca ⟨k, p, f, v⟩))) w) : wpList Tryd.prog ops Q (o :: rest) a w := by
  have e : ((#[(0, x0), (1, x1), (2, x2), (3, x3)] : Array (Nat × Operand)).map fun (p : Nat × Operand) => (p.1, a.eval p.2)).toList = [(0, .int .i64 k), (1, .int .i64 p), (2, .int .i64 f), (3, .int .u64 v)] := by simp [h0, h1, h2, h3]
  have e' := congrArg (Tryd.prog.built 97) e
  rw [builtA] at e'
  refine wpList_build hg 97 _ ho (by rw [e']; rfl) ?_
  rw [e']
  exact h
set_option maxHeartbeats 4000000 in
theorem racts_read (w0 : World) (b : Nat) (st : Sta) (w : World) (h : RdS w0 b st w) :
    Calls Tryd.prog 77 #[.pointer (some ⟨b, 0, none⟩)] w (RdOwn KA w0 b w (gActs st).1 (gActs st).2) := by
  have HC := Lib.hid (rnumber_small w0 b st 1 (by decide) w h)
  have HL := Lib.hid (show b < w.heap.size from h.lt)
  have hr := gN_rng (s := 1) h.byte
  rw [powB_1] at hr
  have HE := Lib.hid (show gActs st = gMany gAct (gN 1 st).1.toNat (gN 1 st).2 from rfl)
  clear h
  generalize gN 1 st = y at *
  obtain ⟨n, x⟩ := y
  simp only at HE HC hr
  obtain ⟨N, rfl⟩ := Int.eq_ofNat_of_zero_le hr.1
  have hN : N ≤ 255 := by have := hr.2; omega
  simp only [Int.toNat_natCast] at HE
  clear hr
  rw [HE.out]
  clear HE
  go_enter Tryd.func77, Tryd.ntmps77
  go_wp2_with (go_at_call 58; refine HC.out.mono ?_; rintro e w1 ⟨rfl, hs, ht⟩; refine Hid.out ?_)
  have HS := Lib.hid hs
  have HT := Lib.hid ht
  clear hs ht HC
  refine Lib.hid ?_
  go_wp2_with fail
  go_loopg [3, 4] N (fun k lv i wr => ∃ (L : List Ac) (x' : Sta), L.length + k = N ∧ i = .int .i64 (k : Int) ∧ gMany gAct N x = (L ++ (gMany gAct k x').1, (gMany gAct k x').2) ∧ KOwns KA w.heap.size lv L wr ∧ RdS w0 b x' wr ∧ RStep b w wr)
  case atStart => exact ⟨[], x, by simp, rfl, rfl, KOwns.nil _ _, HS.out, HT.out⟩
  case round =>
    clear HS HT
    obtain ⟨L, x', hr, rfl, he, ho, hs, ht⟩ := hrel
    obtain ⟨po, co, rfl⟩ := ho.form
    have HO := Lib.hid ho
    have HS := Lib.hid hs
    have HT := Lib.hid ht
    have HE := Lib.hid he
    have k1 := hs.short
    clear ho hs ht he
    by_cases hk : gk = 0
    · subst hk
      go_wp2_with fail
      go_ret
      rw [HE.out]
      exact ⟨_, rfl, by show KOwns KA w.heap.size _ (L ++ []) wr; rw [List.append_nil]; exact HO.out, HS.out, HT.out⟩
    obtain ⟨k', rfl⟩ : ∃ k', gk = k' + 1 := ⟨gk - 1, by omega⟩
    have hpos : (0 : Int) < ((k' + 1 : Nat) : Int) := by omega
    cases hsh : x'.2
    · rw [hsh] at k1
      have HC1 := Lib.hid (rnumber_small w0 b x' 1 (by decide) wr HS.out)
      cases h1 : gN 1 x' with
      | mk n1 x1 =>
      rw [h1] at HC1
      cases h2 : gN 1 x1 with
      | mk n2 x2 =>
      cases h3 : gN 1 x2 with
      | mk n3 x3 =>
      cases h4 : gN 8 x3 with
      | mk n4 x4 =>
      have HG := Lib.hid (gMany_step gAct k' hsh (gAct_parts x' h1 h2 h3 h4))
      have H2 := Lib.hid h2
      have H3 := Lib.hid h3
      have H4 := Lib.hid h4
      clear h1 h2 h3 h4 hsh
      go_upto_region 5 with fail
      clear k1
      go_wp2_with (go_at_call 58; refine HC1.out.mono ?_; rintro e w2 ⟨rfl, hs, ht⟩; refine Hid.out ?_)
      have HC2 := Lib.hid (rnumber_small w0 b x1 1 (by decide) w2 hs)
      rw [H2.out] at HC2
      have HT2 := Lib.hid (HT.out.trans ht)
      have HO2 := Lib.hid (ht.owns HO.out HL.out)
      clear hs ht HC1 HT HO HS
      refine Lib.hid ?_
      go_wp2_with (go_at_call 58; refine HC2.out.mono ?_; rintro e w3 ⟨rfl, hs, ht⟩; refine Hid.out ?_)
      have HC3 := Lib.hid (rnumber_small w0 b x2 1 (by decide) w3 hs)
      rw [H3.out] at HC3
      have HT3 := Lib.hid (HT2.out.trans ht)
      have HO3 := Lib.hid (ht.owns HO2.out HL.out)
      clear hs ht HC2 HT2 HO2
      refine Lib.hid ?_
      go_wp2_with (go_at_call 58; refine HC3.out.mono ?_; rintro e w4 ⟨rfl, hs, ht⟩; refine Hid.out ?_)
      have HC4 := Lib.hid (rword_any w0 b x3 8 (by decide) w4 hs)
      rw [H4.out] at HC4
      have HT4 := Lib.hid (HT3.out.trans ht)
      have HO4 := Lib.hid (ht.owns HO3.out HL.out)
      clear hs ht HC3 HT3 HO3
      refine Lib.hid ?_
      go_wp2_with (go_at_call 75; refine HC4.out.mono ?_; rintro e w5 ⟨rfl, hs, ht⟩; refine Hid.out ?_)
      have HS5 := Lib.hid (hs.alloc (.cells (aca ⟨n1, n2, n3, n4⟩) KA.T))
      have HT5 := Lib.hid ((HT4.out.trans ht).trans (RStep.of (below1 w5 (.cells (aca ⟨n1, n2, n3, n4⟩) KA.T)) (Nat.le_of_lt hs.lt)))
      have HO5 := Lib.hid ((ht.owns HO4.out HL.out).below (below1 w5 (.cells (aca ⟨n1, n2, n3, n4⟩) KA.T)))
      have HK5 := Lib.hid (Blk.klies (K := KA) (l := [⟨n1, n2, n3, n4⟩]) (Blk.new w5 (aca ⟨n1, n2, n3, n4⟩) KA.T) okA rfl)
      have HW5 := Lib.hid (show w.heap.size ≤ (w5.alloc (.cells (aca ⟨n1, n2, n3, n4⟩) KA.T)).heap.size from by
        have h1 := (HT4.out.trans ht).below.size
        have h2 := (below1 w5 (.cells (aca ⟨n1, n2, n3, n4⟩) KA.T)).size
        omega)
      clear hs ht HC4 HT4 HO4
      refine Lib.hid ?_
      go_wp2_with (first
        | (refine buildA rfl _ _ _ _ rfl n1 n2 n3 n4 rfl rfl rfl rfl ?_)
        | (refine kbuildOne KA okA zA zeroA rfl _ rfl (aca ⟨n1, n2, n3, n4⟩) rfl (by decide) (fillA ⟨n1, n2, n3, n4⟩) ?_)
        | (refine kappend KA okA rfl _ _ rfl w.heap.size _ L [⟨n1, n2, n3, n4⟩] rfl HO5.out _ rfl HK5.out HW5.out (by simp; omega) (fun v' w' ho hg => ?_); refine Hid.out ?_))
      have HO6 := Lib.hid ho
      have HS6 := Lib.hid (HS5.out.grow hg fun k e => by have := HO5.out.ge k e; have := HL.out; omega)
      have HT6 := Lib.hid (HT5.out.grow HL.out hg fun k e => HO5.out.ge k e)
      clear ho hg HO5 HS5 HT5 HK5 HW5
      refine Lib.hid ?_
      go_wp2_with fail
      go_roundg k'
      case measure => omega
      case rel => exact ⟨L ++ [⟨n1, n2, n3, n4⟩], x4, by simp; omega, by go_num, by rw [HE.out, HG.out]; simp, HO6.out, HS6.out, HT6.out⟩
    · rw [hsh] at k1
      go_wp2_with fail
      go_ret
      rw [HE.out, gMany_stop _ _ hsh]
      exact ⟨_, rfl, by show KOwns KA w.heap.size _ (L ++ []) wr; rw [List.append_nil]; exact HO.out, HS.out, HT.out⟩
end Go.Proofs.YtndgbgolmpoepaaDoor
