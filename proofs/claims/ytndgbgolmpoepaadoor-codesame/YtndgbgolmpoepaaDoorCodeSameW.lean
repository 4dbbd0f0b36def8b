/-
  The walk of the law CodeSame.
-/
import Derived.Test.YtndgbgolmpoepaaDoorCodLaw
namespace Go.Proofs.YtndgbgolmpoepaaDoor
open Go.RowKit

theorem two_msgs (w : World) (a b : Gm) : TwG w w.heap.size (w.heap.size + 1) a b ((w.alloc (.cells (gca a) 33)).alloc (.cells (gca b) 33)) := ⟨(Blk.new w (gca a) 33).old _, Blk.new2 _ _ _ _, below2 _ _ _⟩
set_option maxRecDepth 100000 in
set_option maxHeartbeats 8000000 in
theorem codeSame_can (a : Gm) (wa : WfG a) (ca : CanMs a.u) (b : Gm) (wb : WfG b) (cb : CanMs b.u) (w : World) (ia : InG a w) (ib : InG b w) (ht : Tab w) (hz : 0 < w.heap.size) :
    Calls Tryd.prog 6 #[.agg (gca a), .agg (gca b)] w fun e w' => e = .returned (.bool true) ∧ Below w.heap.size w w' := by
  have HT := Lib.hid (fun (W : World) (hb : Below w.heap.size w W) => Env.of ht hz hb)
  have HIa := Lib.hid ia
  have HIb := Lib.hid ib
  have HWa := Lib.hid wa
  have HWb := Lib.hid wb
  have HCa := Lib.hid ca
  have HCb := Lib.hid cb
  have S0 := Lib.hid (two_msgs w a b)
  have HC := Lib.hid (small_any a _ (HIa.out.below S0.out.2.2))
  clear ht ia ib wa wb ca cb
  have HANS := Lib.hid (fun (W : World) (hb : Below w.heap.size w W) => canswers9 W (HT.out W hb).tab (HT.out W hb).lt)
  have HMA := Lib.hid (fun (W : World) (hb : Below w.heap.size w W) => rmsg_any a HWa.out.ms W (HIa.out.below hb))
  have HMB := Lib.hid (fun (W : World) (hb : Below w.heap.size w W) => rmsg_any b HWb.out.ms W (HIb.out.below hb))
  cases hsa : smallB a
  · rw [hsa] at HC
    clear hsa
    go_enter Tryd.func6, Tryd.ntmps6
    go_wp2_with (first
      | (refine wpList_load_row rfl 33 _ rfl w.heap.size rfl 33 (gca a) (0, 0) _ S0.out.1 Tryd.underlying33 rfl (by rw [gca_size]; exact infoG) ?_)
      | (go_at_call 9; refine HC.out.mono ?_; rintro e W1 ⟨rfl, hw1⟩; refine Hid.out ?_))
    have S1 := Lib.hid (S0.out.below hw1)
    have HA := Lib.hid (HANS.out W1 S1.out.2.2)
    clear hw1 HC S0
    refine Lib.hid ?_
    go_wp2_with (go_at_call 10; refine HA.out.mono ?_; rintro e W2 ⟨rfl, hw2⟩)
    go_ret
    exact ⟨rfl, (S1.out.below hw2).2.2⟩
  rw [hsa] at HC
  have HSa0 := Lib.hid hsa
  clear hsa
  go_enter Tryd.func6, Tryd.ntmps6
  go_wp2_with (first
    | (refine wpList_load_row rfl 33 _ rfl w.heap.size rfl 33 (gca a) (0, 0) _ S0.out.1 Tryd.underlying33 rfl (by rw [gca_size]; exact infoG) ?_)
    | (go_at_call 9; refine HC.out.mono ?_; rintro e W1 ⟨rfl, hw1⟩; refine Hid.out ?_))
  have S1 := Lib.hid (S0.out.below hw1)
  have HC1 := Lib.hid (small_any b W1 (HIb.out.below S1.out.2.2))
  clear hw1 HC S0
  refine Lib.hid ?_
  cases hsb : smallB b
  · rw [hsb] at HC1
    clear hsb
    go_wp2_with (first
      | (refine loadRowG rfl 33 _ rfl (w.heap.size + 1) rfl 33 (gca b) (0, 0) S1.out.2.1 Tryd.underlying33 rfl (by rw [gca_size]; exact infoG) ?_)
      | (go_at_call 9; refine HC1.out.mono ?_; rintro e W2 ⟨rfl, hw1⟩; refine Hid.out ?_))
    have S2 := Lib.hid (S1.out.below hw1)
    have HA := Lib.hid (HANS.out W2 S2.out.2.2)
    clear hw1 HC1 S1
    refine Lib.hid ?_
    go_wp2_with (go_at_call 10; refine HA.out.mono ?_; rintro e W3 ⟨rfl, hw2⟩)
    go_ret
    exact ⟨rfl, (S2.out.below hw2).2.2⟩
  rw [hsb] at HC1
  clear hsb
  go_wp2_with (first
    | (refine loadRowG rfl 33 _ rfl (w.heap.size + 1) rfl 33 (gca b) (0, 0) S1.out.2.1 Tryd.underlying33 rfl (by rw [gca_size]; exact infoG) ?_)
    | (go_at_call 9; refine HC1.out.mono ?_; rintro e W2 ⟨rfl, hw1⟩; refine Hid.out ?_))
  have S2 := Lib.hid (S1.out.below hw1)
  clear hw1 HC1 S1
  refine Lib.hid ?_
  go_wp2_with (first
    | (refine wpList_load_row rfl 33 _ rfl w.heap.size rfl 33 (gca a) (0, 0) _ S2.out.1 Tryd.underlying33 rfl (by rw [gca_size]; exact infoG) ?_)
    | (refine kbuildOneG KG okG #[Value.int IntKind.i64 0, Value.int IntKind.i64 0, Value.int IntKind.i64 0, Value.int IntKind.i64 0, Value.int IntKind.u64 0, Value.int IntKind.u64 0, Value.int IntKind.u64 0, Value.int IntKind.u64 0, Value.int IntKind.u64 0, Value.int IntKind.u64 0, Value.int IntKind.u64 0, Value.int IntKind.u64 0, Value.int IntKind.u64 0, Value.int IntKind.u64 0, Value.int IntKind.u64 0, Value.int IntKind.u64 0, Value.int IntKind.u64 0, Value.int IntKind.u64 0, Value.int IntKind.u64 0, Value.int IntKind.u64 0, Value.int IntKind.u64 0, Value.int IntKind.u64 0, Value.int IntKind.u64 0, Value.int IntKind.u64 0, Value.int IntKind.u64 0, Value.int IntKind.u64 0, Value.int IntKind.u64 0, Value.int IntKind.u64 0, Value.int IntKind.i64 0, Value.slice none 0 0, Value.int IntKind.i64 0, Value.int IntKind.i64 0, Value.int IntKind.i64 0, Value.bool false, Value.int IntKind.i64 0, Value.int IntKind.u64 0, Value.int IntKind.u64 0, Value.int IntKind.u64 0, Value.int IntKind.u64 0, Value.int IntKind.u64 0, Value.int IntKind.u64 0, Value.int IntKind.u64 0, Value.int IntKind.u64 0, Value.int IntKind.u64 0, Value.int IntKind.u64 0, Value.int IntKind.u64 0, Value.int IntKind.u64 0, Value.slice none 0 0] zeroG rfl _ rfl (gca a) rfl (by decide) (fillG a) ?_; refine Hid.out ?_))
  have S3 := Lib.hid (S2.out.below (below1 W2 (.cells (gca a) KG.T)))
  have KX := Lib.hid (show KLies KG (.slice (some ⟨W2.heap.size, 0, none⟩) 1 1) [a] (W2.alloc (.cells (gca a) KG.T)) from oneG a W2)
  clear S2
  generalize W2.alloc (.cells (gca a) KG.T) = W3 at *
  generalize W2.heap.size = B2 at *
  refine Lib.hid ?_
  go_wp2_with (first
    | (refine wpList_load_row rfl 33 _ rfl (w.heap.size + 1) rfl 33 (gca b) (0, 0) _ S3.out.2.1 Tryd.underlying33 rfl (by rw [gca_size]; exact infoG) ?_)
    | (refine kbuildOneG KG okG #[Value.int IntKind.i64 0, Value.int IntKind.i64 0, Value.int IntKind.i64 0, Value.int IntKind.i64 0, Value.int IntKind.u64 0, Value.int IntKind.u64 0, Value.int IntKind.u64 0, Value.int IntKind.u64 0, Value.int IntKind.u64 0, Value.int IntKind.u64 0, Value.int IntKind.u64 0, Value.int IntKind.u64 0, Value.int IntKind.u64 0, Value.int IntKind.u64 0, Value.int IntKind.u64 0, Value.int IntKind.u64 0, Value.int IntKind.u64 0, Value.int IntKind.u64 0, Value.int IntKind.u64 0, Value.int IntKind.u64 0, Value.int IntKind.u64 0, Value.int IntKind.u64 0, Value.int IntKind.u64 0, Value.int IntKind.u64 0, Value.int IntKind.u64 0, Value.int IntKind.u64 0, Value.int IntKind.u64 0, Value.int IntKind.u64 0, Value.int IntKind.i64 0, Value.slice none 0 0, Value.int IntKind.i64 0, Value.int IntKind.i64 0, Value.int IntKind.i64 0, Value.bool false, Value.int IntKind.i64 0, Value.int IntKind.u64 0, Value.int IntKind.u64 0, Value.int IntKind.u64 0, Value.int IntKind.u64 0, Value.int IntKind.u64 0, Value.int IntKind.u64 0, Value.int IntKind.u64 0, Value.int IntKind.u64 0, Value.int IntKind.u64 0, Value.int IntKind.u64 0, Value.int IntKind.u64 0, Value.int IntKind.u64 0, Value.slice none 0 0] zeroG rfl _ rfl (gca b) rfl (by decide) (fillG b) ?_; refine Hid.out ?_))
  have S4 := Lib.hid (S3.out.below (below1 W3 (.cells (gca b) KG.T)))
  have KX4 := Lib.hid (KX.out.below okG (below1 W3 (.cells (gca b) KG.T)))
  have KY := Lib.hid (show KLies KG (.slice (some ⟨W3.heap.size, 0, none⟩) 1 1) [b] (W3.alloc (.cells (gca b) KG.T)) from oneG b W3)
  clear S3 KX
  generalize W3.alloc (.cells (gca b) KG.T) = W4 at *
  generalize W3.heap.size = B3 at *
  have hla : a.rs.length ≤ 1000000 := by
    have h := HSa0.out
    unfold smallB at h
    rw [Bool.and_eq_true, decide_eq_true_eq] at h
    omega
  have hra : a.mod.u.acts.length ≤ 140737488355328 := by have := HWa.out.mod.room; omega
  have hrb : b.mod.u.acts.length ≤ 140737488355328 := by have := HWb.out.mod.room; omega
  have HC4 := Lib.hid (rsamemsg_any (.slice (some ⟨B2, 0, none⟩) 1 1) (.slice (some ⟨B3, 0, none⟩) 1 1) a b hla HWb.out.rules hrb W4 KX4.out KY.out (HIa.out.below S4.out.2.2) (HIb.out.below S4.out.2.2))
  have HCS := Lib.hid (fun (W : World) (h : Below w.heap.size w W) => csame_any a b hla HWb.out.rules hrb W (HIa.out.below h) (HIb.out.below h))
  have HCA := Lib.hid (fun (W : World) (h : Below w.heap.size w W) => csame_any a a hla HWa.out.rules hra W (HIa.out.below h) (HIa.out.below h))
  rw [msEq_self _ HCa.out] at HCA
  clear hla hra hrb
  obtain ⟨y, hy⟩ : ∃ y, y = msEq a.u b.u := ⟨_, rfl⟩
  rw [← hy] at HC4 HCS
  have HYy := Lib.hid hy
  clear hy
  refine Lib.hid ?_
  go_wp2_with (go_at_call 17; refine HC4.out.mono ?_; rintro e W5 ⟨rfl, hw⟩; refine Hid.out ?_)
  have S5 := Lib.hid (S4.out.below hw)
  have HA5 := Lib.hid (HANS.out W5 S5.out.2.2)
  clear hw S4 KX4 KY HC4
  refine Lib.hid ?_
  go_wp2_with (go_at_call 10; refine HA5.out.mono ?_; rintro e W6 ⟨rfl, hw⟩; refine Hid.out ?_)
  have S6 := Lib.hid (S5.out.below hw)
  have HC6 := Lib.hid (HCS.out W6 S6.out.2.2)
  clear hw S5 HA5
  refine Lib.hid ?_
  go_wp2_with (first
    | (refine loadRowG rfl 33 _ rfl w.heap.size rfl 33 (gca a) (0, 0) S6.out.1 Tryd.underlying33 rfl (by rw [gca_size]; exact infoG) ?_)
    | (refine loadRowG rfl 33 _ rfl (w.heap.size + 1) rfl 33 (gca b) (0, 0) S6.out.2.1 Tryd.underlying33 rfl (by rw [gca_size]; exact infoG) ?_)
    | (go_at_call 18; refine HC6.out.mono ?_; rintro e W7 ⟨rfl, hw⟩; refine Hid.out ?_))
  have S7 := Lib.hid (S6.out.below hw)
  have HC7 := Lib.hid (HCA.out W7 S7.out.2.2)
  have hyy : (y != y) = false := by simp
  clear hw S6 HC6
  refine Lib.hid ?_
  go_wp2_with (first
    | (refine loadRowG rfl 33 _ rfl w.heap.size rfl 33 (gca a) (0, 0) S7.out.1 Tryd.underlying33 rfl (by rw [gca_size]; exact infoG) ?_)
    | (go_at_call 18; refine HC7.out.mono ?_; rintro e W8 ⟨rfl, hw⟩; refine Hid.out ?_))
  have S8 := Lib.hid (S7.out.below hw)
  clear hw S7 HC7
  refine Lib.hid ?_
  go_upto_region 6 with fail
  refine wp_region_held_drew (S := TwG w w.heap.size (w.heap.size + 1) a b) (by kernel_rfl) (TwG.below (Below.refl _ _).drew S8.out) (fun hS => ?_)
  clear S8
  generalize W8.drew = V at *
  cases hsn : sndMs a.u
  · rw [hsn] at HMA
    clear hsn
    refine seqRead 0 (v := _) rfl (by kernel_rfl) (by kernel_rfl) (by kernel_rfl) (fun _ _ _ h => h) rfl (fun w hSw => execRow0 rfl _ rfl hSw.1 Tryd.underlying33 rfl (by rw [gca_size]; exact infoG)) hS ?_
    try simp only [Act.put, List.setIfInBounds_toArray, List.set_cons_zero, List.set_cons_succ]
    refine seqCall 1 rfl (by kernel_rfl) rfl (fun K hK => ?_)
    go_simp
    refine (HMA.out _ hS.2.2).mono ?_
    rintro e Y1 ⟨rfl, hw1⟩
    refine hK.out _ _ (TwG.below hw1 hS) (fun hS => ?_)
    clear hK K hw1
    try simp only [Act.put, List.setIfInBounds_toArray, List.set_cons_zero, List.set_cons_succ]
    refine seqRead 2 (v := _) rfl (by kernel_rfl) (by kernel_rfl) (by kernel_rfl) (fun _ _ _ h => h) rfl (fun w hSw => by go_simp <;> with_reducible rfl) hS ?_
    try simp only [Act.put, List.setIfInBounds_toArray, List.set_cons_zero, List.set_cons_succ]
    refine seqRead 3 (v := _) rfl (by kernel_rfl) (by kernel_rfl) (by kernel_rfl) (fun _ _ _ h => h) rfl (fun w hSw => by go_simp <;> with_reducible rfl) hS ?_
    try simp only [Act.put, List.setIfInBounds_toArray, List.set_cons_zero, List.set_cons_succ]
    refine seqSkip 4 rfl (by kernel_rfl) (by kernel_rfl) (by kernel_rfl) (fun _ _ _ h => h) rfl hS ?_
    try simp only [Act.put, List.setIfInBounds_toArray, List.set_cons_zero, List.set_cons_succ]
    refine seqSkip 5 rfl (by kernel_rfl) (by kernel_rfl) (by kernel_rfl) (fun _ _ _ h => h) rfl hS ?_
    try simp only [Act.put, List.setIfInBounds_toArray, List.set_cons_zero, List.set_cons_succ]
    refine seqSkip 6 rfl (by kernel_rfl) (by kernel_rfl) (by kernel_rfl) (fun _ _ _ h => h) rfl hS ?_
    try simp only [Act.put, List.setIfInBounds_toArray, List.set_cons_zero, List.set_cons_succ]
    refine seqRead 7 (v := _) rfl (by kernel_rfl) (by kernel_rfl) (by kernel_rfl) (fun _ _ _ h => h) rfl (fun w hSw => by go_simp <;> with_reducible rfl) hS ?_
    try simp only [Act.put, List.setIfInBounds_toArray, List.set_cons_zero, List.set_cons_succ]
    refine seqRead 8 (v := _) rfl (by kernel_rfl) (by kernel_rfl) (by kernel_rfl) (fun _ _ _ h => h) rfl (fun w hSw => by go_simp <;> with_reducible rfl) hS ?_
    try simp only [Act.put, List.setIfInBounds_toArray, List.set_cons_zero, List.set_cons_succ]
    refine seqSkip 9 rfl (by kernel_rfl) (by kernel_rfl) (by kernel_rfl) (fun _ _ _ h => h) rfl hS ?_
    try simp only [Act.put, List.setIfInBounds_toArray, List.set_cons_zero, List.set_cons_succ]
    refine seqSkip 10 rfl (by kernel_rfl) (by kernel_rfl) (by kernel_rfl) (fun _ _ _ h => h) rfl hS ?_
    try simp only [Act.put, List.setIfInBounds_toArray, List.set_cons_zero, List.set_cons_succ]
    refine seqSkip 11 rfl (by kernel_rfl) (by kernel_rfl) (by kernel_rfl) (fun _ _ _ h => h) rfl hS ?_
    try simp only [Act.put, List.setIfInBounds_toArray, List.set_cons_zero, List.set_cons_succ]
    refine seqSkip 12 rfl (by kernel_rfl) (by kernel_rfl) (by kernel_rfl) (fun _ _ _ h => h) rfl hS ?_
    try simp only [Act.put, List.setIfInBounds_toArray, List.set_cons_zero, List.set_cons_succ]
    refine seqSkip 13 rfl (by kernel_rfl) (by kernel_rfl) (by kernel_rfl) (fun _ _ _ h => h) rfl hS ?_
    try simp only [Act.put, List.setIfInBounds_toArray, List.set_cons_zero, List.set_cons_succ]
    refine seqSkip 14 rfl (by kernel_rfl) (by kernel_rfl) (by kernel_rfl) (fun _ _ _ h => h) rfl hS ?_
    try simp only [Act.put, List.setIfInBounds_toArray, List.set_cons_zero, List.set_cons_succ]
    refine seqSkip 15 rfl (by kernel_rfl) (by kernel_rfl) (by kernel_rfl) (fun _ _ _ h => h) rfl hS ?_
    try simp only [Act.put, List.setIfInBounds_toArray, List.set_cons_zero, List.set_cons_succ]
    refine seqRead 16 (v := _) rfl (by kernel_rfl) (by kernel_rfl) (by kernel_rfl) (fun _ _ _ h => h) rfl (fun w hSw => by go_simp <;> with_reducible rfl) hS ?_
    try simp only [Act.put, List.setIfInBounds_toArray, List.set_cons_zero, List.set_cons_succ]
    refine seqRead 17 (v := _) rfl (by kernel_rfl) (by kernel_rfl) (by kernel_rfl) (fun _ _ _ h => h) rfl (fun w hSw => by go_simp <;> with_reducible rfl) hS ?_
    try simp only [Act.put, List.setIfInBounds_toArray, List.set_cons_zero, List.set_cons_succ]
    refine seqDone (by kernel_rfl) ?_
    have S9 := Lib.hid hS
    clear hS
    go_wp2_with fail
    go_ret
    exact ⟨rfl, S9.out.2.2⟩
  rw [hsn] at HMA
  have HSa := Lib.hid hsn
  clear hsn
  cases hsn : sndMs b.u
  · rw [hsn] at HMB
    clear hsn
    refine seqRead 0 (v := _) rfl (by kernel_rfl) (by kernel_rfl) (by kernel_rfl) (fun _ _ _ h => h) rfl (fun w hSw => execRow0 rfl _ rfl hSw.1 Tryd.underlying33 rfl (by rw [gca_size]; exact infoG)) hS ?_
    try simp only [Act.put, List.setIfInBounds_toArray, List.set_cons_zero, List.set_cons_succ]
    refine seqCall 1 rfl (by kernel_rfl) rfl (fun K hK => ?_)
    go_simp
    refine (HMA.out _ hS.2.2).mono ?_
    rintro e Y1 ⟨rfl, hw1⟩
    refine hK.out _ _ (TwG.below hw1 hS) (fun hS => ?_)
    clear hK K hw1
    try simp only [Act.put, List.setIfInBounds_toArray, List.set_cons_zero, List.set_cons_succ]
    refine seqRead 2 (v := _) rfl (by kernel_rfl) (by kernel_rfl) (by kernel_rfl) (fun _ _ _ h => h) rfl (fun w hSw => by go_simp <;> with_reducible rfl) hS ?_
    try simp only [Act.put, List.setIfInBounds_toArray, List.set_cons_zero, List.set_cons_succ]
    refine seqRead 3 (v := _) rfl (by kernel_rfl) (by kernel_rfl) (by kernel_rfl) (fun _ _ _ h => h) rfl (fun w hSw => by go_simp <;> with_reducible rfl) hS ?_
    try simp only [Act.put, List.setIfInBounds_toArray, List.set_cons_zero, List.set_cons_succ]
    refine seqRead 4 (v := _) rfl (by kernel_rfl) (by kernel_rfl) (by kernel_rfl) (fun _ _ _ h => h) rfl (fun w hSw => execRow0 rfl _ rfl hSw.2.1 Tryd.underlying33 rfl (by rw [gca_size]; exact infoG)) hS ?_
    try simp only [Act.put, List.setIfInBounds_toArray, List.set_cons_zero, List.set_cons_succ]
    refine seqCall 5 rfl (by kernel_rfl) rfl (fun K hK => ?_)
    go_simp
    refine (HMB.out _ hS.2.2).mono ?_
    rintro e Y2 ⟨rfl, hw1⟩
    refine hK.out _ _ (TwG.below hw1 hS) (fun hS => ?_)
    clear hK K hw1
    try simp only [Act.put, List.setIfInBounds_toArray, List.set_cons_zero, List.set_cons_succ]
    refine seqRead 6 (v := _) rfl (by kernel_rfl) (by kernel_rfl) (by kernel_rfl) (fun _ _ _ h => h) rfl (fun w hSw => by go_simp <;> with_reducible rfl) hS ?_
    try simp only [Act.put, List.setIfInBounds_toArray, List.set_cons_zero, List.set_cons_succ]
    refine seqRead 7 (v := _) rfl (by kernel_rfl) (by kernel_rfl) (by kernel_rfl) (fun _ _ _ h => h) rfl (fun w hSw => by go_simp <;> with_reducible rfl) hS ?_
    try simp only [Act.put, List.setIfInBounds_toArray, List.set_cons_zero, List.set_cons_succ]
    refine seqRead 8 (v := _) rfl (by kernel_rfl) (by kernel_rfl) (by kernel_rfl) (fun _ _ _ h => h) rfl (fun w hSw => by go_simp <;> with_reducible rfl) hS ?_
    try simp only [Act.put, List.setIfInBounds_toArray, List.set_cons_zero, List.set_cons_succ]
    refine seqSkip 9 rfl (by kernel_rfl) (by kernel_rfl) (by kernel_rfl) (fun _ _ _ h => h) rfl hS ?_
    try simp only [Act.put, List.setIfInBounds_toArray, List.set_cons_zero, List.set_cons_succ]
    refine seqSkip 10 rfl (by kernel_rfl) (by kernel_rfl) (by kernel_rfl) (fun _ _ _ h => h) rfl hS ?_
    try simp only [Act.put, List.setIfInBounds_toArray, List.set_cons_zero, List.set_cons_succ]
    refine seqSkip 11 rfl (by kernel_rfl) (by kernel_rfl) (by kernel_rfl) (fun _ _ _ h => h) rfl hS ?_
    try simp only [Act.put, List.setIfInBounds_toArray, List.set_cons_zero, List.set_cons_succ]
    refine seqSkip 12 rfl (by kernel_rfl) (by kernel_rfl) (by kernel_rfl) (fun _ _ _ h => h) rfl hS ?_
    try simp only [Act.put, List.setIfInBounds_toArray, List.set_cons_zero, List.set_cons_succ]
    refine seqSkip 13 rfl (by kernel_rfl) (by kernel_rfl) (by kernel_rfl) (fun _ _ _ h => h) rfl hS ?_
    try simp only [Act.put, List.setIfInBounds_toArray, List.set_cons_zero, List.set_cons_succ]
    refine seqSkip 14 rfl (by kernel_rfl) (by kernel_rfl) (by kernel_rfl) (fun _ _ _ h => h) rfl hS ?_
    try simp only [Act.put, List.setIfInBounds_toArray, List.set_cons_zero, List.set_cons_succ]
    refine seqSkip 15 rfl (by kernel_rfl) (by kernel_rfl) (by kernel_rfl) (fun _ _ _ h => h) rfl hS ?_
    try simp only [Act.put, List.setIfInBounds_toArray, List.set_cons_zero, List.set_cons_succ]
    refine seqRead 16 (v := _) rfl (by kernel_rfl) (by kernel_rfl) (by kernel_rfl) (fun _ _ _ h => h) rfl (fun w hSw => by go_simp <;> with_reducible rfl) hS ?_
    try simp only [Act.put, List.setIfInBounds_toArray, List.set_cons_zero, List.set_cons_succ]
    refine seqRead 17 (v := _) rfl (by kernel_rfl) (by kernel_rfl) (by kernel_rfl) (fun _ _ _ h => h) rfl (fun w hSw => by go_simp <;> with_reducible rfl) hS ?_
    try simp only [Act.put, List.setIfInBounds_toArray, List.set_cons_zero, List.set_cons_succ]
    refine seqDone (by kernel_rfl) ?_
    have S9 := Lib.hid hS
    clear hS
    go_wp2_with fail
    go_ret
    exact ⟨rfl, S9.out.2.2⟩
  rw [hsn] at HMB
  have HSb := Lib.hid hsn
  clear hsn
  have hd : decide (encMs a.u = encMs b.u) = y := by rw [HYy.out, msEq_bytes HSa.out HSb.out HWa.out.ms HWb.out.ms HCa.out HCb.out]
  have HD := Lib.hid hd
  clear hd
  refine seqRead 0 (v := _) rfl (by kernel_rfl) (by kernel_rfl) (by kernel_rfl) (fun _ _ _ h => h) rfl (fun w hSw => execRow0 rfl _ rfl hSw.1 Tryd.underlying33 rfl (by rw [gca_size]; exact infoG)) hS ?_
  try simp only [Act.put, List.setIfInBounds_toArray, List.set_cons_zero, List.set_cons_succ]
  refine seqCall 1 rfl (by kernel_rfl) rfl (fun K hK => ?_)
  go_simp
  refine (HMA.out _ hS.2.2).mono ?_
  rintro e Y1 ⟨rfl, hw1⟩
  refine hK.out _ _ (TwG.below hw1 hS) (fun hS => ?_)
  clear hK K hw1
  try simp only [Act.put, List.setIfInBounds_toArray, List.set_cons_zero, List.set_cons_succ]
  refine seqRead 2 (v := _) rfl (by kernel_rfl) (by kernel_rfl) (by kernel_rfl) (fun _ _ _ h => h) rfl (fun w hSw => by go_simp <;> with_reducible rfl) hS ?_
  try simp only [Act.put, List.setIfInBounds_toArray, List.set_cons_zero, List.set_cons_succ]
  refine seqRead 3 (v := _) rfl (by kernel_rfl) (by kernel_rfl) (by kernel_rfl) (fun _ _ _ h => h) rfl (fun w hSw => by go_simp <;> with_reducible rfl) hS ?_
  try simp only [Act.put, List.setIfInBounds_toArray, List.set_cons_zero, List.set_cons_succ]
  refine seqRead 4 (v := _) rfl (by kernel_rfl) (by kernel_rfl) (by kernel_rfl) (fun _ _ _ h => h) rfl (fun w hSw => execRow0 rfl _ rfl hSw.2.1 Tryd.underlying33 rfl (by rw [gca_size]; exact infoG)) hS ?_
  try simp only [Act.put, List.setIfInBounds_toArray, List.set_cons_zero, List.set_cons_succ]
  refine seqCall 5 rfl (by kernel_rfl) rfl (fun K hK => ?_)
  go_simp
  refine (HMB.out _ hS.2.2).mono ?_
  rintro e Y2 ⟨rfl, hw1⟩
  refine hK.out _ _ (TwG.below hw1 hS) (fun hS => ?_)
  clear hK K hw1
  try simp only [Act.put, List.setIfInBounds_toArray, List.set_cons_zero, List.set_cons_succ]
  refine seqRead 6 (v := _) rfl (by kernel_rfl) (by kernel_rfl) (by kernel_rfl) (fun _ _ _ h => h) rfl (fun w hSw => by go_simp <;> with_reducible rfl) hS ?_
  try simp only [Act.put, List.setIfInBounds_toArray, List.set_cons_zero, List.set_cons_succ]
  refine seqRead 7 (v := _) rfl (by kernel_rfl) (by kernel_rfl) (by kernel_rfl) (fun _ _ _ h => h) rfl (fun w hSw => by go_simp <;> with_reducible rfl) hS ?_
  try simp only [Act.put, List.setIfInBounds_toArray, List.set_cons_zero, List.set_cons_succ]
  refine seqRead 8 (v := _) rfl (by kernel_rfl) (by kernel_rfl) (by kernel_rfl) (fun _ _ _ h => h) rfl (fun w hSw => by go_simp <;> with_reducible rfl) hS ?_
  try simp only [Act.put, List.setIfInBounds_toArray, List.set_cons_zero, List.set_cons_succ]
  refine seqRead 9 (v := _) rfl (by kernel_rfl) (by kernel_rfl) (by kernel_rfl) (fun _ _ _ h => h) rfl (fun w hSw => execRow0 rfl _ rfl hSw.1 Tryd.underlying33 rfl (by rw [gca_size]; exact infoG)) hS ?_
  try simp only [Act.put, List.setIfInBounds_toArray, List.set_cons_zero, List.set_cons_succ]
  refine seqRead 11 (v := _) rfl (by kernel_rfl) (by kernel_rfl) (by kernel_rfl) (fun _ _ _ h => h) rfl (fun w hSw => execRow0 rfl _ rfl hSw.2.1 Tryd.underlying33 rfl (by rw [gca_size]; exact infoG)) hS ?_
  try simp only [Act.put, List.setIfInBounds_toArray, List.set_cons_zero, List.set_cons_succ]
  refine seqRead 14 (v := _) rfl (by kernel_rfl) (by kernel_rfl) (by kernel_rfl) (fun _ _ _ h => h) rfl (fun w hSw => by go_simp <;> with_reducible rfl) hS ?_
  try simp only [Act.put, List.setIfInBounds_toArray, List.set_cons_zero, List.set_cons_succ]
  refine seqCall 10 rfl (by kernel_rfl) rfl (fun K hK => ?_)
  go_simp
  refine (renc_any a HSa.out HWa.out.ms _ (HIa.out.below hS.2.2)).mono ?_
  rintro e Y3 ⟨ua, rfl, hua, hw1⟩
  have HUa := Lib.hid (hua.lies okB)
  clear hua
  refine hK.out _ _ (TwG.below hw1 hS) (fun hS => ?_)
  clear hK K hw1
  try simp only [Act.put, List.setIfInBounds_toArray, List.set_cons_zero, List.set_cons_succ]
  refine seqCall 12 rfl (by kernel_rfl) rfl (fun K hK => ?_)
  go_simp
  refine (renc_any b HSb.out HWb.out.ms _ (HIb.out.below hS.2.2)).mono ?_
  rintro e Y4 ⟨ub, rfl, hub, hw1⟩
  have HUb := Lib.hid (hub.lies okB)
  have HUa := Lib.hid (HUa.out.below okB hw1)
  clear hub
  refine hK.out _ _ (TwG.below hw1 hS) (fun hS => ?_)
  clear hK K hw1
  try simp only [Act.put, List.setIfInBounds_toArray, List.set_cons_zero, List.set_cons_succ]
  refine seqCall 13 rfl (by kernel_rfl) rfl (fun K hK => ?_)
  go_simp
  refine (rsameB_any ua ub (encMs a.u) (encMs b.u) (by have := enc_len HSa.out HWa.out.ms; omega) _ HUa.out HUb.out).mono ?_
  rintro e Y5 ⟨rfl, hw1⟩
  refine hK.out _ _ (TwG.below hw1 hS) (fun hS => ?_)
  clear hK K hw1
  try simp only [Act.put, List.setIfInBounds_toArray, List.set_cons_zero, List.set_cons_succ]
  refine seqRead 15 (v := _) rfl (by kernel_rfl) (by kernel_rfl) (by kernel_rfl) (fun _ _ _ h => h) rfl (fun w hSw => by go_simp <;> with_reducible rfl) hS ?_
  try simp only [Act.put, List.setIfInBounds_toArray, List.set_cons_zero, List.set_cons_succ]
  refine seqRead 16 (v := _) rfl (by kernel_rfl) (by kernel_rfl) (by kernel_rfl) (fun _ _ _ h => h) rfl (fun w hSw => by go_simp <;> with_reducible rfl) hS ?_
  try simp only [Act.put, List.setIfInBounds_toArray, List.set_cons_zero, List.set_cons_succ]
  refine seqRead 17 (v := _) rfl (by kernel_rfl) (by kernel_rfl) (by kernel_rfl) (fun _ _ _ h => h) rfl (fun w hSw => by go_simp <;> with_reducible rfl) hS ?_
  try simp only [Act.put, List.setIfInBounds_toArray, List.set_cons_zero, List.set_cons_succ]
  refine seqDone (by kernel_rfl) ?_
  have S9 := Lib.hid hS
  clear hS
  go_wp2_with fail
  go_ret
  exact ⟨ret_bool (by rw [HD.out]; simp), S9.out.2.2⟩
theorem codeSame_any (a : Gm) (wa : WfG a) (b : Gm) (wb : WfG b) (w : World) (ia : InG a w) (ib : InG b w) (ht : Tab w) (hz : 0 < w.heap.size) :
    Calls Tryd.prog 6 #[.agg (gca a), .agg (gca b)] w fun e w' => e = .returned (.bool true) ∧ Below w.heap.size w w' := by
  rw [← gca_can a, ← gca_can b]
  exact codeSame_can (canG a) (canG_wf wa) (canG_can a) (canG b) (canG_wf wb) (canG_can b) w (canG_in ia) (canG_in ib) ht hz
end Go.Proofs.YtndgbgolmpoepaaDoor
