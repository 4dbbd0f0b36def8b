/-
  The walk of the law CodeBytes.
-/
import Derived.Test.YtndgbgolmpoepaaDoorCodLaw
namespace Go.Proofs.YtndgbgolmpoepaaDoor
open Go.RowKit

set_option maxRecDepth 100000 in
set_option maxHeartbeats 8000000 in
theorem codeBytes_can (g : Gm) (hw : WfG g) (hc : CanMs g.u) (w : World) (hi : InG g w) (ht : Tab w) (hz : 0 < w.heap.size) :
    Calls Tryd.prog 3 #[.agg (gca g)] w fun e w' => e = .returned (.bool true) ∧ Below w.heap.size w w' := by
  have HT := Lib.hid (fun (W : World) (hb : Below w.heap.size w W) => Env.of ht hz hb)
  have HI := Lib.hid hi
  have HW := Lib.hid hw
  have HCn := Lib.hid hc
  have S0 := Lib.hid (show RmS w g (w.alloc (.cells (gca g) 33)) from ⟨Blk.new _ _ _, below1 _ _⟩)
  have HC := Lib.hid (small_any g _ (HI.out.below S0.out.2))
  clear ht hi hw hc
  have HANS := Lib.hid (fun (W : World) (hb : Below w.heap.size w W) => canswers9 W (HT.out W hb).tab (HT.out W hb).lt)
  have HSND := Lib.hid (fun (W : World) (hb : Below w.heap.size w W) => msnd_any g HW.out.ms W (HI.out.below hb) (HT.out W hb).tab (HT.out W hb).lt)
  have HMSG := Lib.hid (fun (W : World) (hb : Below w.heap.size w W) => rmsg_any g HW.out.ms W (HI.out.below hb))
  cases hsm : smallB g
  · rw [hsm] at HC
    clear hsm
    go_enter Tryd.func3, Tryd.ntmps3
    go_wp2_with (first
      | (refine wpList_load_row rfl 33 _ rfl w.heap.size rfl 33 (gca g) (0, 0) _ S0.out.1 Tryd.underlying33 rfl (by rw [gca_size]; exact infoG) ?_)
      | (go_at_call 9; refine HC.out.mono ?_; rintro e W1 ⟨rfl, hw1⟩; refine Hid.out ?_))
    have S1 := Lib.hid (S0.out.below hw1)
    have HA := Lib.hid (HANS.out W1 S1.out.2)
    clear hw1 HC S0
    refine Lib.hid ?_
    go_wp2_with (go_at_call 10; refine HA.out.mono ?_; rintro e W2 ⟨rfl, hw2⟩)
    go_ret
    exact ⟨rfl, (S1.out.below hw2).2⟩
  rw [hsm] at HC
  have HSm := Lib.hid hsm
  clear hsm
  go_enter Tryd.func3, Tryd.ntmps3
  go_wp2_with (first
    | (refine wpList_load_row rfl 33 _ rfl w.heap.size rfl 33 (gca g) (0, 0) _ S0.out.1 Tryd.underlying33 rfl (by rw [gca_size]; exact infoG) ?_)
    | (go_at_call 9; refine HC.out.mono ?_; rintro e W1 ⟨rfl, hw1⟩; refine Hid.out ?_))
  have S1 := Lib.hid (S0.out.below hw1)
  have HC1 := Lib.hid (enc_any g HW.out.ms W1 (HI.out.below S1.out.2) (HT.out W1 S1.out.2).tab (HT.out W1 S1.out.2).lt)
  clear hw1 HC S0
  refine Lib.hid ?_
  cases hsn : sndMs g.u
  · have hn : ¬ sndMs g.u = true := by rw [hsn]; simp
    rw [show encE g.u = 2 by unfold encE; rw [if_neg hn], show encV g.u = [] by unfold encV; rw [if_neg hn]] at HC1
    rw [hsn] at HSND HMSG
    clear hsn hn
    go_wp2_with (first
      | (refine wpList_load_row rfl 33 _ rfl w.heap.size rfl 33 (gca g) (0, 0) _ S1.out.1 Tryd.underlying33 rfl (by rw [gca_size]; exact infoG) ?_)
      | (go_at_call 11; refine HC1.out.mono ?_; rintro e W2 ⟨v, rfl, ho, hw1⟩; refine Hid.out ?_))
    obtain ⟨pv, cv, rfl⟩ := ho.form
    have S2 := Lib.hid (S1.out.below hw1)
    have HK := Lib.hid (ho.lies okB)
    clear hw1 ho HC1 S1
    refine Lib.hid ?_
    go_upto_region 4 with fail
    refine wp_region_held_drew (S := RmS w g) (by kernel_rfl) (RmS.below (Below.refl _ _).drew S2.out) (fun hS => ?_)
    have HK := Lib.hid (HK.out.below okB (Below.refl _ W2).drew)
    clear S2
    generalize W2.drew = V at *
    refine seqCall 0 rfl (by kernel_rfl) rfl (fun K hK => ?_)
    go_simp
    refine (HANS.out _ hS.2).mono ?_
    rintro e Y1 ⟨rfl, hw1⟩
    have HK := Lib.hid (HK.out.below okB hw1)
    refine hK.out _ _ (RmS.below hw1 hS) (fun hS => ?_)
    clear hK K hw1
    try simp only [Act.put, List.setIfInBounds_toArray, List.set_cons_zero, List.set_cons_succ]
    refine seqRead 1 (v := _) rfl (by kernel_rfl) (by kernel_rfl) (by kernel_rfl) (fun _ _ _ h => h) rfl (fun w hSw => by go_simp <;> with_reducible rfl) hS ?_
    try simp only [Act.put, List.setIfInBounds_toArray, List.set_cons_zero, List.set_cons_succ]
    refine seqRead 2 (v := _) rfl (by kernel_rfl) (by kernel_rfl) (by kernel_rfl) (fun _ _ _ h => h) rfl (fun w hSw => by go_simp <;> with_reducible rfl) hS ?_
    try simp only [Act.put, List.setIfInBounds_toArray, List.set_cons_zero, List.set_cons_succ]
    refine seqRead 3 (v := _) rfl (by kernel_rfl) (by kernel_rfl) (by kernel_rfl) (fun _ _ _ h => h) rfl (fun w hSw => execRow0 rfl _ rfl hSw.1 Tryd.underlying33 rfl (by rw [gca_size]; exact infoG)) hS ?_
    try simp only [Act.put, List.setIfInBounds_toArray, List.set_cons_zero, List.set_cons_succ]
    refine seqRead 5 (v := _) rfl (by kernel_rfl) (by kernel_rfl) (by kernel_rfl) (fun _ _ _ h => h) rfl (fun w hSw => execRow0 rfl _ rfl hSw.1 Tryd.underlying33 rfl (by rw [gca_size]; exact infoG)) hS ?_
    try simp only [Act.put, List.setIfInBounds_toArray, List.set_cons_zero, List.set_cons_succ]
    refine seqCall 4 rfl (by kernel_rfl) rfl (fun K hK => ?_)
    go_simp
    refine (HSND.out _ hS.2).mono ?_
    rintro e Y2 ⟨rfl, hw1⟩
    have HK := Lib.hid (HK.out.below okB hw1)
    refine hK.out _ _ (RmS.below hw1 hS) (fun hS => ?_)
    clear hK K hw1
    try simp only [Act.put, List.setIfInBounds_toArray, List.set_cons_zero, List.set_cons_succ]
    refine seqCall 6 rfl (by kernel_rfl) rfl (fun K hK => ?_)
    go_simp
    refine (HMSG.out _ hS.2).mono ?_
    rintro e Y3 ⟨rfl, hw1⟩
    have HK := Lib.hid (HK.out.below okB hw1)
    refine hK.out _ _ (RmS.below hw1 hS) (fun hS => ?_)
    clear hK K hw1
    try simp only [Act.put, List.setIfInBounds_toArray, List.set_cons_zero, List.set_cons_succ]
    refine seqRead 7 (v := _) rfl (by kernel_rfl) (by kernel_rfl) (by kernel_rfl) (fun _ _ _ h => h) rfl (fun w hSw => by go_simp <;> with_reducible rfl) hS ?_
    try simp only [Act.put, List.setIfInBounds_toArray, List.set_cons_zero, List.set_cons_succ]
    refine seqRead 8 (v := _) rfl (by kernel_rfl) (by kernel_rfl) (by kernel_rfl) (fun _ _ _ h => h) rfl (fun w hSw => by go_simp <;> with_reducible rfl) hS ?_
    try simp only [Act.put, List.setIfInBounds_toArray, List.set_cons_zero, List.set_cons_succ]
    refine seqRead 9 (v := _) rfl (by kernel_rfl) (by kernel_rfl) (by kernel_rfl) (fun _ _ _ h => h) rfl (fun w hSw => by go_simp <;> with_reducible rfl) hS ?_
    try simp only [Act.put, List.setIfInBounds_toArray, List.set_cons_zero, List.set_cons_succ]
    refine seqRead 10 (v := _) rfl (by kernel_rfl) (by kernel_rfl) (by kernel_rfl) (fun _ _ _ h => h) rfl (fun w hSw => by go_simp <;> with_reducible rfl) hS ?_
    try simp only [Act.put, List.setIfInBounds_toArray, List.set_cons_zero, List.set_cons_succ]
    refine seqRead 11 (v := _) rfl (by kernel_rfl) (by kernel_rfl) (by kernel_rfl) (fun _ _ _ h => h) rfl (fun w hSw => by go_simp <;> with_reducible rfl) hS ?_
    try simp only [Act.put, List.setIfInBounds_toArray, List.set_cons_zero, List.set_cons_succ]
    refine seqRead 12 (v := _) rfl (by kernel_rfl) (by kernel_rfl) (by kernel_rfl) (fun _ _ _ h => h) rfl (fun w hSw => execRow0 rfl _ rfl hSw.1 Tryd.underlying33 rfl (by rw [gca_size]; exact infoG)) hS ?_
    try simp only [Act.put, List.setIfInBounds_toArray, List.set_cons_zero, List.set_cons_succ]
    refine seqCall 13 rfl (by kernel_rfl) rfl (fun K hK => ?_)
    go_simp
    refine (HMSG.out _ hS.2).mono ?_
    rintro e Y4 ⟨rfl, hw1⟩
    have HK := Lib.hid (HK.out.below okB hw1)
    refine hK.out _ _ (RmS.below hw1 hS) (fun hS => ?_)
    clear hK K hw1
    try simp only [Act.put, List.setIfInBounds_toArray, List.set_cons_zero, List.set_cons_succ]
    refine seqRead 14 (v := _) rfl (by kernel_rfl) (by kernel_rfl) (by kernel_rfl) (fun _ _ _ h => h) rfl (fun w hSw => by go_simp <;> with_reducible rfl) hS ?_
    try simp only [Act.put, List.setIfInBounds_toArray, List.set_cons_zero, List.set_cons_succ]
    refine seqRead 15 (v := _) rfl (by kernel_rfl) (by kernel_rfl) (by kernel_rfl) (fun _ _ _ h => h) rfl (fun w hSw => by go_simp <;> with_reducible rfl) hS ?_
    try simp only [Act.put, List.setIfInBounds_toArray, List.set_cons_zero, List.set_cons_succ]
    refine seqDone (by kernel_rfl) ?_
    have S5 := Lib.hid hS
    clear hS
    go_wp2_with fail
    go_ret
    exact ⟨rfl, S5.out.2⟩
  rw [show encE g.u = 0 by unfold encE; rw [if_pos hsn], show encV g.u = encMs g.u by unfold encV; rw [if_pos hsn]] at HC1
  rw [hsn] at HSND HMSG
  have HSn := Lib.hid hsn
  clear hsn
  obtain ⟨E, hE⟩ : ∃ E, E = encMs g.u := ⟨_, rfl⟩
  rw [← hE] at HC1
  have HEe := Lib.hid hE
  clear hE
  go_wp2_with (first
    | (refine wpList_load_row rfl 33 _ rfl w.heap.size rfl 33 (gca g) (0, 0) _ S1.out.1 Tryd.underlying33 rfl (by rw [gca_size]; exact infoG) ?_)
    | (go_at_call 11; refine HC1.out.mono ?_; rintro e W2 ⟨v, rfl, ho, hw1⟩; refine Hid.out ?_))
  have S2 := Lib.hid (S1.out.below hw1)
  have HK := Lib.hid (ho.lies okB)
  clear hw1 ho HC1 S1
  refine Lib.hid ?_
  go_upto_region 4 with fail
  refine wp_region_held_drew (S := RmS w g) (by kernel_rfl) (RmS.below (Below.refl _ _).drew S2.out) (fun hS => ?_)
  have HK := Lib.hid (HK.out.below okB (Below.refl _ W2).drew)
  clear S2
  generalize W2.drew = V at *
  refine seqCall 0 rfl (by kernel_rfl) rfl (fun K hK => ?_)
  go_simp
  refine (HANS.out _ hS.2).mono ?_
  rintro e Y1 ⟨rfl, hw1⟩
  have HK := Lib.hid (HK.out.below okB hw1)
  refine hK.out _ _ (RmS.below hw1 hS) (fun hS => ?_)
  clear hK K hw1
  try simp only [Act.put, List.setIfInBounds_toArray, List.set_cons_zero, List.set_cons_succ]
  refine seqRead 1 (v := _) rfl (by kernel_rfl) (by kernel_rfl) (by kernel_rfl) (fun _ _ _ h => h) rfl (fun w hSw => by go_simp <;> with_reducible rfl) hS ?_
  try simp only [Act.put, List.setIfInBounds_toArray, List.set_cons_zero, List.set_cons_succ]
  refine seqRead 2 (v := _) rfl (by kernel_rfl) (by kernel_rfl) (by kernel_rfl) (fun _ _ _ h => h) rfl (fun w hSw => by go_simp <;> with_reducible rfl) hS ?_
  try simp only [Act.put, List.setIfInBounds_toArray, List.set_cons_zero, List.set_cons_succ]
  refine seqRead 3 (v := _) rfl (by kernel_rfl) (by kernel_rfl) (by kernel_rfl) (fun _ _ _ h => h) rfl (fun w hSw => execRow0 rfl _ rfl hSw.1 Tryd.underlying33 rfl (by rw [gca_size]; exact infoG)) hS ?_
  try simp only [Act.put, List.setIfInBounds_toArray, List.set_cons_zero, List.set_cons_succ]
  refine seqRead 5 (v := _) rfl (by kernel_rfl) (by kernel_rfl) (by kernel_rfl) (fun _ _ _ h => h) rfl (fun w hSw => execRow0 rfl _ rfl hSw.1 Tryd.underlying33 rfl (by rw [gca_size]; exact infoG)) hS ?_
  try simp only [Act.put, List.setIfInBounds_toArray, List.set_cons_zero, List.set_cons_succ]
  refine seqCall 4 rfl (by kernel_rfl) rfl (fun K hK => ?_)
  go_simp
  refine (HSND.out _ hS.2).mono ?_
  rintro e Y2 ⟨rfl, hw1⟩
  have HK := Lib.hid (HK.out.below okB hw1)
  refine hK.out _ _ (RmS.below hw1 hS) (fun hS => ?_)
  clear hK K hw1
  try simp only [Act.put, List.setIfInBounds_toArray, List.set_cons_zero, List.set_cons_succ]
  refine seqCall 6 rfl (by kernel_rfl) rfl (fun K hK => ?_)
  go_simp
  refine (HMSG.out _ hS.2).mono ?_
  rintro e Y3 ⟨rfl, hw1⟩
  have HK := Lib.hid (HK.out.below okB hw1)
  refine hK.out _ _ (RmS.below hw1 hS) (fun hS => ?_)
  clear hK K hw1
  try simp only [Act.put, List.setIfInBounds_toArray, List.set_cons_zero, List.set_cons_succ]
  refine seqRead 7 (v := _) rfl (by kernel_rfl) (by kernel_rfl) (by kernel_rfl) (fun _ _ _ h => h) rfl (fun w hSw => by go_simp <;> with_reducible rfl) hS ?_
  try simp only [Act.put, List.setIfInBounds_toArray, List.set_cons_zero, List.set_cons_succ]
  refine seqRead 8 (v := _) rfl (by kernel_rfl) (by kernel_rfl) (by kernel_rfl) (fun _ _ _ h => h) rfl (fun w hSw => by go_simp <;> with_reducible rfl) hS ?_
  try simp only [Act.put, List.setIfInBounds_toArray, List.set_cons_zero, List.set_cons_succ]
  refine seqRead 9 (v := _) rfl (by kernel_rfl) (by kernel_rfl) (by kernel_rfl) (fun _ _ _ h => h) rfl (fun w hSw => by go_simp <;> with_reducible rfl) hS ?_
  try simp only [Act.put, List.setIfInBounds_toArray, List.set_cons_zero, List.set_cons_succ]
  refine seqRead 10 (v := _) rfl (by kernel_rfl) (by kernel_rfl) (by kernel_rfl) (fun _ _ _ h => h) rfl (fun w hSw => by go_simp <;> with_reducible rfl) hS ?_
  try simp only [Act.put, List.setIfInBounds_toArray, List.set_cons_zero, List.set_cons_succ]
  refine seqRead 11 (v := _) rfl (by kernel_rfl) (by kernel_rfl) (by kernel_rfl) (fun _ _ _ h => h) rfl (fun w hSw => by go_simp <;> with_reducible rfl) hS ?_
  try simp only [Act.put, List.setIfInBounds_toArray, List.set_cons_zero, List.set_cons_succ]
  refine seqRead 12 (v := _) rfl (by kernel_rfl) (by kernel_rfl) (by kernel_rfl) (fun _ _ _ h => h) rfl (fun w hSw => execRow0 rfl _ rfl hSw.1 Tryd.underlying33 rfl (by rw [gca_size]; exact infoG)) hS ?_
  try simp only [Act.put, List.setIfInBounds_toArray, List.set_cons_zero, List.set_cons_succ]
  refine seqCall 13 rfl (by kernel_rfl) rfl (fun K hK => ?_)
  go_simp
  refine (HMSG.out _ hS.2).mono ?_
  rintro e Y4 ⟨rfl, hw1⟩
  have HK := Lib.hid (HK.out.below okB hw1)
  refine hK.out _ _ (RmS.below hw1 hS) (fun hS => ?_)
  clear hK K hw1
  try simp only [Act.put, List.setIfInBounds_toArray, List.set_cons_zero, List.set_cons_succ]
  refine seqRead 14 (v := _) rfl (by kernel_rfl) (by kernel_rfl) (by kernel_rfl) (fun _ _ _ h => h) rfl (fun w hSw => by go_simp <;> with_reducible rfl) hS ?_
  try simp only [Act.put, List.setIfInBounds_toArray, List.set_cons_zero, List.set_cons_succ]
  refine seqRead 15 (v := _) rfl (by kernel_rfl) (by kernel_rfl) (by kernel_rfl) (fun _ _ _ h => h) rfl (fun w hSw => by go_simp <;> with_reducible rfl) hS ?_
  try simp only [Act.put, List.setIfInBounds_toArray, List.set_cons_zero, List.set_cons_succ]
  refine seqDone (by kernel_rfl) ?_
  have S5 := Lib.hid hS
  clear hS
  have HC5 := Lib.hid (dec_any v E (by rw [HEe.out]; exact encMs_byte _) Y4 HK.out (HT.out Y4 S5.out.2).tab (HT.out Y4 S5.out.2).lt)
  have hd := dec_enc HSn.out HW.out.ms HCn.out
  rw [← HEe.out] at hd
  rw [hd.1, hd.2] at HC5
  clear hd
  go_upto_region 9 with (first
    | (go_at_call 14; refine HC5.out.mono ?_; rintro e W6 ⟨x, rfl, hg, hix, hw⟩; have HG := Lib.hid hg; have S6 := Lib.hid (S5.out.below hw); have HK6 := Lib.hid (HK.out.below okB hw); have HIx := Lib.hid hix; clear hg hix hw)
    | (refine wpList_store_row rfl 33 _ _ rfl W6.heap.size (gca x) rfl rfl 33 _ (heap_alloc_new _ _) (by kernel_rfl) rfl (gca_one _) ?_; rw [World.setRow_alloc_new]))
  have S7 := Lib.hid (S6.out.below (below1 W6 (.cells (gca x) 33)))
  have HK7 := Lib.hid (HK6.out.below okB (below1 W6 (.cells (gca x) 33)))
  have HIx7 := Lib.hid (HIx.out.below (below1 W6 (.cells (gca x) 33)))
  have Q7 := Lib.hid (Blk.new W6 (gca x) 33)
  clear S5 S6 HK HK6 HC5 HIx
  generalize W6.alloc (.cells (gca x) 33) = W7 at *
  generalize W6.heap.size = B6 at *
  have HC7 := Lib.hid (renc_any g HSn.out HW.out.ms W7 (HI.out.below S7.out.2))
  rw [← HEe.out] at HC7
  go_wp2_with (first
    | (refine loadRowG rfl 33 _ rfl w.heap.size rfl 33 (gca g) (0, 0) S7.out.1 Tryd.underlying33 rfl (by rw [gca_size]; exact infoG) ?_)
    | (go_at_call 16; refine HC7.out.mono ?_; rintro e W8 ⟨u, rfl, hu, hw⟩; refine Hid.out ?_))
  have S8 := Lib.hid (S7.out.below hw)
  have HIx8 := Lib.hid (HIx7.out.below hw)
  have Q8 := Lib.hid (Q7.out.below hw)
  have HC8 := Lib.hid (rsameB_any v u E E (by rw [HEe.out]; have := enc_len HSn.out HW.out.ms; omega) W8 (HK7.out.below okB hw) (hu.lies okB))
  rw [decide_eq_true rfl] at HC8
  clear hu hw S7 HIx7 Q7 HK7 HC7
  refine Lib.hid ?_
  go_wp2_with (go_at_call 15; refine HC8.out.mono ?_; rintro e W9 ⟨rfl, hw⟩; refine Hid.out ?_)
  have S9 := Lib.hid (S8.out.below hw)
  have HIx9 := Lib.hid (HIx8.out.below hw)
  have Q9 := Lib.hid (Q8.out.below hw)
  clear hw S8 HIx8 Q8 HC8
  refine Lib.hid ?_
  go_wp2_with (first
    | (refine loadRowG rfl 33 _ rfl B6 rfl 33 (gca x) (0, 0) Q9.out Tryd.underlying33 rfl (by rw [gca_size]; exact infoG) ?_)
    | (refine kbuildOneG KG okG #[Value.int IntKind.i64 0, Value.int IntKind.i64 0, Value.int IntKind.i64 0, Value.int IntKind.i64 0, Value.int IntKind.u64 0, Value.int IntKind.u64 0, Value.int IntKind.u64 0, Value.int IntKind.u64 0, Value.int IntKind.u64 0, Value.int IntKind.u64 0, Value.int IntKind.u64 0, Value.int IntKind.u64 0, Value.int IntKind.u64 0, Value.int IntKind.u64 0, Value.int IntKind.u64 0, Value.int IntKind.u64 0, Value.int IntKind.u64 0, Value.int IntKind.u64 0, Value.int IntKind.u64 0, Value.int IntKind.u64 0, Value.int IntKind.u64 0, Value.int IntKind.u64 0, Value.int IntKind.u64 0, Value.int IntKind.u64 0, Value.int IntKind.u64 0, Value.int IntKind.u64 0, Value.int IntKind.u64 0, Value.int IntKind.u64 0, Value.int IntKind.i64 0, Value.slice none 0 0, Value.int IntKind.i64 0, Value.int IntKind.i64 0, Value.int IntKind.i64 0, Value.bool false, Value.int IntKind.i64 0, Value.int IntKind.u64 0, Value.int IntKind.u64 0, Value.int IntKind.u64 0, Value.int IntKind.u64 0, Value.int IntKind.u64 0, Value.int IntKind.u64 0, Value.int IntKind.u64 0, Value.int IntKind.u64 0, Value.int IntKind.u64 0, Value.int IntKind.u64 0, Value.int IntKind.u64 0, Value.int IntKind.u64 0, Value.slice none 0 0] zeroG rfl _ rfl (gca x) rfl (by decide) (fillG x) ?_; refine Hid.out ?_))
  have S10 := Lib.hid (S9.out.below (below1 W9 (.cells (gca x) KG.T)))
  have HIx10 := Lib.hid (HIx9.out.below (below1 W9 (.cells (gca x) KG.T)))
  have Q10 := Lib.hid (Q9.out.below (below1 W9 (.cells (gca x) KG.T)))
  have KX := Lib.hid (show KLies KG (.slice (some ⟨W9.heap.size, 0, none⟩) 1 1) [x] (W9.alloc (.cells (gca x) KG.T)) from oneG x W9)
  clear S9 HIx9 Q9
  generalize W9.alloc (.cells (gca x) KG.T) = W10 at *
  generalize W9.heap.size = B9 at *
  refine Lib.hid ?_
  go_wp2_with (first
    | (refine loadRowG rfl 33 _ rfl w.heap.size rfl 33 (gca g) (0, 0) S10.out.1 Tryd.underlying33 rfl (by rw [gca_size]; exact infoG) ?_)
    | (refine kbuildOneG KG okG #[Value.int IntKind.i64 0, Value.int IntKind.i64 0, Value.int IntKind.i64 0, Value.int IntKind.i64 0, Value.int IntKind.u64 0, Value.int IntKind.u64 0, Value.int IntKind.u64 0, Value.int IntKind.u64 0, Value.int IntKind.u64 0, Value.int IntKind.u64 0, Value.int IntKind.u64 0, Value.int IntKind.u64 0, Value.int IntKind.u64 0, Value.int IntKind.u64 0, Value.int IntKind.u64 0, Value.int IntKind.u64 0, Value.int IntKind.u64 0, Value.int IntKind.u64 0, Value.int IntKind.u64 0, Value.int IntKind.u64 0, Value.int IntKind.u64 0, Value.int IntKind.u64 0, Value.int IntKind.u64 0, Value.int IntKind.u64 0, Value.int IntKind.u64 0, Value.int IntKind.u64 0, Value.int IntKind.u64 0, Value.int IntKind.u64 0, Value.int IntKind.i64 0, Value.slice none 0 0, Value.int IntKind.i64 0, Value.int IntKind.i64 0, Value.int IntKind.i64 0, Value.bool false, Value.int IntKind.i64 0, Value.int IntKind.u64 0, Value.int IntKind.u64 0, Value.int IntKind.u64 0, Value.int IntKind.u64 0, Value.int IntKind.u64 0, Value.int IntKind.u64 0, Value.int IntKind.u64 0, Value.int IntKind.u64 0, Value.int IntKind.u64 0, Value.int IntKind.u64 0, Value.int IntKind.u64 0, Value.int IntKind.u64 0, Value.slice none 0 0] zeroG rfl _ rfl (gca g) rfl (by decide) (fillG g) ?_; refine Hid.out ?_))
  have S11 := Lib.hid (S10.out.below (below1 W10 (.cells (gca g) KG.T)))
  have HIx11 := Lib.hid (HIx10.out.below (below1 W10 (.cells (gca g) KG.T)))
  have Q11 := Lib.hid (Q10.out.below (below1 W10 (.cells (gca g) KG.T)))
  have KX11 := Lib.hid (KX.out.below okG (below1 W10 (.cells (gca g) KG.T)))
  have KY := Lib.hid (show KLies KG (.slice (some ⟨W10.heap.size, 0, none⟩) 1 1) [g] (W10.alloc (.cells (gca g) KG.T)) from oneG g W10)
  clear S10 HIx10 Q10 KX
  generalize W10.alloc (.cells (gca g) KG.T) = W11 at *
  generalize W10.heap.size = B10 at *
  have hlen : x.rs.length ≤ 1000000 := by
    have e : x.u.rules.length = g.u.rules.length := by rw [HG.out]
    rw [show x.u.rules = x.rs.map (·.u) from rfl, show g.u.rules = g.rs.map (·.u) from rfl, List.length_map, List.length_map] at e
    have h := HSm.out
    unfold smallB at h
    rw [Bool.and_eq_true, decide_eq_true_eq] at h
    omega
  have hyes : msEq x.u g.u = true := by rw [HG.out]; exact msEq_self _ HCn.out
  have hroom : g.mod.u.acts.length ≤ 140737488355328 := by have := HW.out.mod.room; omega
  have HC11 := Lib.hid (rsamemsg_any (.slice (some ⟨B9, 0, none⟩) 1 1) (.slice (some ⟨B10, 0, none⟩) 1 1) x g hlen HW.out.rules hroom W11 KX11.out KY.out HIx11.out (HI.out.below S11.out.2))
  have HCS := Lib.hid (fun (W : World) (ix : InG x W) (ig : InG g W) => csame_any x g hlen HW.out.rules hroom W ix ig)
  rw [hyes] at HC11 HCS
  clear hlen hyes hroom
  refine Lib.hid ?_
  go_wp2_with (go_at_call 17; refine HC11.out.mono ?_; rintro e W12 ⟨rfl, hw⟩; refine Hid.out ?_)
  have S12 := Lib.hid (S11.out.below hw)
  have HIx12 := Lib.hid (HIx11.out.below hw)
  have Q12 := Lib.hid (Q11.out.below hw)
  have HC12 := Lib.hid (HCS.out W12 HIx12.out (HI.out.below S12.out.2))
  clear hw S11 HIx11 Q11 KX11 KY HC11
  refine Lib.hid ?_
  go_wp2_with (first
    | (refine loadRowG rfl 33 _ rfl B6 rfl 33 (gca x) (0, 0) Q12.out Tryd.underlying33 rfl (by rw [gca_size]; exact infoG) ?_)
    | (refine loadRowG rfl 33 _ rfl w.heap.size rfl 33 (gca g) (0, 0) S12.out.1 Tryd.underlying33 rfl (by rw [gca_size]; exact infoG) ?_)
    | (go_at_call 18; refine HC12.out.mono ?_; rintro e W13 ⟨rfl, hw⟩; refine Hid.out ?_))
  have S13 := Lib.hid (S12.out.below hw)
  clear hw S12 Q12 HC12
  refine Lib.hid ?_
  go_wp2_with fail
  go_ret
  exact ⟨rfl, S13.out.2⟩
theorem codeBytes_any (g : Gm) (hw : WfG g) (w : World) (hi : InG g w) (ht : Tab w) (hz : 0 < w.heap.size) :
    Calls Tryd.prog 3 #[.agg (gca g)] w fun e w' => e = .returned (.bool true) ∧ Below w.heap.size w w' := by
  rw [← gca_can g]
  exact codeBytes_can (canG g) (canG_wf hw) (canG_can g) w (canG_in hi) ht hz
end Go.Proofs.YtndgbgolmpoepaaDoor
