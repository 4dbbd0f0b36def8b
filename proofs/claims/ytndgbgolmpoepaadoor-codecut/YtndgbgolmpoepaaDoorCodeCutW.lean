/-
  The walk of the law CodeCut.
-/
import Derived.Test.YtndgbgolmpoepaaDoorCodLaw
namespace Go.Proofs.YtndgbgolmpoepaaDoor
open Go.RowKit

set_option maxRecDepth 100000 in
set_option maxHeartbeats 8000000 in
theorem codeCut_can (g : Gm) (hw : WfG g) (hc : CanMs g.u) (n : Int) (hn : 0 ≤ n ∧ n < 65536) (v : Value) (l : List Int) (hb : ByL l) (w : World) (hi : InG g w) (hl : KLies KB v l w) (ht : Tab w) (hz : 0 < w.heap.size) :
    Calls Tryd.prog 5 #[.agg (gca g), .int .u16 n, v] w fun e w' => e = .returned (.bool true) ∧ Below w.heap.size w w' := by
  obtain ⟨p, c, rfl⟩ := hl.form
  have HT := Lib.hid (fun (W : World) (hb : Below w.heap.size w W) => Env.of ht hz hb)
  have HI := Lib.hid hi
  have HL := Lib.hid hl
  have HW := Lib.hid hw
  have HCn := Lib.hid hc
  have HB := Lib.hid hb
  have HN := Lib.hid hn
  have S0 := Lib.hid (show RmS w g (w.alloc (.cells (gca g) 33)) from ⟨Blk.new _ _ _, below1 _ _⟩)
  have HC := Lib.hid (small_any g _ (HI.out.below S0.out.2))
  clear ht hi hl hw hc hb hn
  have HANS := Lib.hid (fun (W : World) (hb : Below w.heap.size w W) => canswers9 W (HT.out W hb).tab (HT.out W hb).lt)
  obtain ⟨N, hN⟩ : ∃ N, N = l.length := ⟨_, rfl⟩
  rw [← hN]
  have HNl := Lib.hid hN
  clear hN
  cases hsm : smallB g
  · rw [hsm] at HC
    clear hsm
    go_enter Tryd.func5, Tryd.ntmps5
    go_wp2_with (first
      | (refine wpList_load_row rfl 33 _ rfl w.heap.size rfl 33 (gca g) (0, 0) _ S0.out.1 Tryd.underlying33 rfl (by rw [gca_size]; exact infoG) ?_)
      | (go_at_call 9; refine HC.out.mono ?_; rintro e W1 ⟨rfl, hw1⟩; refine Hid.out ?_))
    have S1 := Lib.hid (S0.out.below hw1)
    have HA := Lib.hid (HANS.out W1 S1.out.2)
    clear hw1 HC S0
    refine Lib.hid ?_
    go_wp2_with (go_at_call 10; refine HA.out.mono ?_; rintro e W2 ⟨rfl, hw2⟩)
    go_ret
    exact ⟨rfl, (S1.out.below hw2).2⟩
  rw [hsm] at HC
  clear hsm
  go_enter Tryd.func5, Tryd.ntmps5
  go_wp2_with (first
    | (refine wpList_load_row rfl 33 _ rfl w.heap.size rfl 33 (gca g) (0, 0) _ S0.out.1 Tryd.underlying33 rfl (by rw [gca_size]; exact infoG) ?_)
    | (go_at_call 9; refine HC.out.mono ?_; rintro e W1 ⟨rfl, hw1⟩; refine Hid.out ?_))
  have S1 := Lib.hid (S0.out.below hw1)
  have HC1 := Lib.hid (rmsg_any g HW.out.ms W1 (HI.out.below S1.out.2))
  clear hw1 HC S0
  refine Lib.hid ?_
  cases hsn : sndMs g.u
  · rw [hsn] at HC1
    clear hsn
    go_wp2_with (first
      | (refine loadRowG rfl 33 _ rfl w.heap.size rfl 33 (gca g) (0, 0) S1.out.1 Tryd.underlying33 rfl (by rw [gca_size]; exact infoG) ?_)
      | (go_at_call 13; refine HC1.out.mono ?_; rintro e W2 ⟨rfl, hw1⟩; refine Hid.out ?_))
    have S2 := Lib.hid (S1.out.below hw1)
    have HA := Lib.hid (HANS.out W2 S2.out.2)
    clear hw1 HC1 S1
    refine Lib.hid ?_
    go_wp2_with (go_at_call 10; refine HA.out.mono ?_; rintro e W3 ⟨rfl, hw2⟩)
    go_ret
    exact ⟨rfl, (S2.out.below hw2).2⟩
  rw [hsn] at HC1
  have HSn := Lib.hid hsn
  clear hsn
  go_wp2_with (first
    | (refine loadRowG rfl 33 _ rfl w.heap.size rfl 33 (gca g) (0, 0) S1.out.1 Tryd.underlying33 rfl (by rw [gca_size]; exact infoG) ?_)
    | (go_at_call 13; refine HC1.out.mono ?_; rintro e W2 ⟨rfl, hw1⟩; refine Hid.out ?_))
  have S2 := Lib.hid (S1.out.below hw1)
  clear hw1 HC1 S1
  have HA := Lib.hid (HANS.out W2 S2.out.2)
  refine Lib.hid ?_
  by_cases h0 : N = 0
  · have h0d : (((N : Nat) : Int) == 0) = true := by simpa using h0
    go_wp2_with (go_at_call 10; refine HA.out.mono ?_; rintro e W3 ⟨rfl, hw2⟩)
    go_ret
    exact ⟨rfl, (S2.out.below hw2).2⟩
  have h0d : (((N : Nat) : Int) == 0) = false := by simpa using h0
  by_cases h1 : 100 < N
  · have h1I : (100 : Int) < ((N : Nat) : Int) := by omega
    go_wp2_with (go_at_call 10; refine HA.out.mono ?_; rintro e W3 ⟨rfl, hw2⟩)
    go_ret
    exact ⟨rfl, (S2.out.below hw2).2⟩
  have h1I : ¬ (100 : Int) < ((N : Nat) : Int) := by omega
  have HNb := Lib.hid (show N ≤ 100 ∧ N ≠ 0 from ⟨by omega, h0⟩)
  clear HA
  have HC2 := Lib.hid (renc_any g HSn.out HW.out.ms W2 (HI.out.below S2.out.2))
  go_wp2_with (first
    | (refine wpList_load_row rfl 33 _ rfl w.heap.size rfl 33 (gca g) (0, 0) _ S2.out.1 Tryd.underlying33 rfl (by rw [gca_size]; exact infoG) ?_)
    | (go_at_call 16; refine HC2.out.mono ?_; rintro e W3 ⟨vb, rfl, hob, hw1⟩; refine Hid.out ?_))
  have S3 := Lib.hid (S2.out.below hw1)
  obtain ⟨E, hE⟩ : ∃ E, E = encMs g.u := ⟨_, rfl⟩
  rw [← hE] at hob
  obtain ⟨pb, cb, rfl⟩ := hob.form
  have HKb := Lib.hid (hob.lies okB)
  have HEe := Lib.hid hE
  have HEl := Lib.hid (show 5 ≤ E.length ∧ E.length ≤ 300000000 from ⟨by rw [hE]; exact enc_ne _, by rw [hE]; exact enc_len HSn.out HW.out.ms⟩)
  clear hob hw1 HC2 S2 hE h0 h1 h0d h1I
  obtain ⟨M, hM⟩ : ∃ M, M = E.length := ⟨_, rfl⟩
  have HM := Lib.hid hM
  rw [← hM] at HKb
  rw [← hM]
  clear hM
  obtain ⟨r, hr⟩ : ∃ r : Nat, (r : Int) = n % (M : Int) := ⟨(n % (M : Int)).toNat, by have := HEl.out.1; rw [← HM.out] at this; have := Int.emod_nonneg n (show (M : Int) ≠ 0 by omega); omega⟩
  have HR := Lib.hid (show r < M by have := HEl.out.1; rw [← HM.out] at this; have := Int.emod_lt_of_pos n (show (0 : Int) < (M : Int) by omega); omega)
  have hM0 : (0 : Int) < (M : Int) := by have := HEl.out.1; rw [← HM.out] at this; omega
  have hn0 : 0 ≤ n := HN.out.1
  have hn1 : n < 65536 := HN.out.2
  have hrm : n % (M : Int) = (r : Int) := hr.symm
  clear hr
  have hne : ¬ ((M : Int) = 0) := by omega
  have hME : M ≤ 300000000 := by have := HEl.out.2; rw [← HM.out] at this; exact this
  have hwn : IntKind.i64.wrap n = n := by rw [IntKind.wrap_i64]; omega
  have HC3 := Lib.hid (dec_any (.slice pb r cb) (E.take r) (by rw [HEe.out]; exact (encMs_byte _).take r) W3 (by have h := HKb.out; rw [HM.out] at h; exact h.upto (by have := HR.out; have := HM.out; omega)) (HT.out W3 S3.out.2).tab (HT.out W3 S3.out.2).lt)
  rw [show decE (E.take r) = 8 by rw [HEe.out]; exact dec_cut HSn.out HW.out.ms HCn.out (by rw [← HEe.out, ← HM.out]; exact HR.out)] at HC3
  have hcap : M ≤ cb := by have h := HKb.out; rw [HM.out] at h; have := h.capLe; rw [← HM.out] at this; exact this
  refine Lib.hid ?_
  go_wp2_with (refine wpUptoB rfl _ _ rfl pb M cb r rfl (by first | rfl | exact congrArg (Value.int .i64) hrm) (Nat.le_of_lt HR.out) hcap ?_; simp only [Act.put, List.setIfInBounds_toArray, List.set_cons_zero, List.set_cons_succ]; refine Hid.out ?_)
  refine Lib.hid ?_
  go_upto_region 5 with (first
    | (go_at_call 14; refine HC3.out.mono ?_; rintro e W4 ⟨g4, rfl, hg, hi4, hw⟩; have S4 := Lib.hid (S3.out.below hw); have HK4 := Lib.hid (HKb.out.below okB hw); clear hg hi4 hw)
    | (refine wpList_store_row rfl 33 _ _ rfl W4.heap.size (gca g4) rfl rfl 33 _ (heap_alloc_new _ _) (by kernel_rfl) rfl (gca_one _) ?_; rw [World.setRow_alloc_new]))
  have S5 := Lib.hid (S4.out.below (below1 W4 (.cells (gca g4) 33)))
  have HK5 := Lib.hid (HK4.out.below okB (below1 W4 (.cells (gca g4) 33)))
  clear S3 S4 HK4 HKb HC3 hcap
  generalize W4.alloc (.cells (gca g4) 33) = W5 at *
  generalize W4.heap.size = B4 at *
  have HO := Lib.hid (KOwns.built (K := KB) W5 W5.heap.size (Nat.le_refl _))
  have HB0 := Lib.hid (below1 W5 (.cells #[] KB.T))
  have HK6 := Lib.hid (show KLies KB (.slice pb M cb) E (W5.alloc (.cells #[] KB.T)) from HK5.out.below okB HB0.out)
  have HLt := Lib.hid (show KLies KB (.slice p N c) l W5 by rw [HNl.out]; exact HL.out.below okB S5.out.2)
  go_wp2_with (first
    | (refine kbuildNone KB okB rfl rfl ?_)
    | (refine kappendB KB okB rfl _ _ rfl W5.heap.size _ [] E rfl HO.out _ rfl HK6.out HB0.out.size (by have := HEl.out.2; show (0 + E.length) * 1 ≤ _; omega) (fun v7 W7 ho hg => ?_); refine Hid.out ?_))
  have HO7 := Lib.hid (show KOwns KB W5.heap.size v7 E W7 from ho)
  have HB7 := Lib.hid (kbelowOwn HB0.out HO.out (Nat.le_refl _) hg)
  have HK7 := Lib.hid (HLt.out.below okB HB7.out)
  clear ho hg HO HB0 HK6
  refine Lib.hid ?_
  go_wp2_with (refine kappendB KB okB rfl _ _ rfl W5.heap.size _ E l rfl HO7.out _ rfl HK7.out HB7.out.size (by have := HEl.out.2; have := HNb.out.1; have := HNl.out; show (E.length + l.length) * 1 ≤ _; omega) (fun v8 W8 ho hg => ?_); refine Hid.out ?_)
  have HB8 := Lib.hid (kbelowOwn HB7.out HO7.out (Nat.le_refl _) hg)
  have S8 := Lib.hid (S5.out.below HB8.out)
  have HC8 := Lib.hid (dec_any v8 (E ++ l) (by rw [HEe.out]; exact (encMs_byte _).app HB.out) W8 (ho.lies okB) (HT.out W8 S8.out.2).tab (HT.out W8 S8.out.2).lt)
  rw [show decE (E ++ l) = 2 by rw [HEe.out]; exact dec_more HSn.out HW.out.ms HCn.out (fun h => HNb.out.2 (by rw [HNl.out, h]; rfl))] at HC8
  clear ho hg HO7 HB7 HK7 S5 HB8 HK5 HLt
  refine Lib.hid ?_
  go_upto_region 6 with (first
    | (go_at_call 14; refine HC8.out.mono ?_; rintro e W9 ⟨g9, rfl, hg, hi9, hw⟩; have S9 := Lib.hid (S8.out.below hw); clear hg hi9 hw)
    | (refine wpList_store_row rfl 33 _ _ rfl W9.heap.size (gca g9) rfl rfl 33 _ (heap_alloc_new _ _) (by kernel_rfl) rfl (gca_one _) ?_; rw [World.setRow_alloc_new]))
  have S10 := Lib.hid (S9.out.below (below1 W9 (.cells (gca g9) 33)))
  clear S8 S9 HC8
  generalize W9.alloc (.cells (gca g9) 33) = W10 at *
  generalize W9.heap.size = B9 at *
  have HA := Lib.hid (HANS.out W10 S10.out.2)
  go_wp2_with (go_at_call 10; refine HA.out.mono ?_; rintro e W11 ⟨rfl, hw2⟩)
  go_ret
  exact ⟨rfl, (S10.out.below hw2).2⟩
theorem codeCut_any (g : Gm) (hw : WfG g) (n : Int) (hn : 0 ≤ n ∧ n < 65536) (v : Value) (l : List Int) (hb : ∀ a ∈ l, 0 ≤ a ∧ a < 256) (w : World) (hi : InG g w) (hl : KLies KB v l w) (ht : Tab w) (hz : 0 < w.heap.size) :
    Calls Tryd.prog 5 #[.agg (gca g), .int .u16 n, v] w fun e w' => e = .returned (.bool true) ∧ Below w.heap.size w w' := by
  rw [← gca_can g]
  exact codeCut_can (canG g) (canG_wf hw) (canG_can g) n hn v l hb w (canG_in hi) hl ht hz
end Go.Proofs.YtndgbgolmpoepaaDoor
