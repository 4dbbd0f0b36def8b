/-
  The walks of Key, Before and Overlap, the program's and the reference's.
-/
import Derived.Test.YthalpnmejompdaaDoorRulePr
namespace Go.Proofs.YthalpnmejompdaaDoor
open Go.RowKit

theorem isNaN_any (n : Int) (w : World) : Calls Tryd.prog 68 #[.int .i64 n] w fun e w' => e = .returned (.bool false) ∧ w' = w := by
  go_enter Tryd.func68, Tryd.ntmps68
  go_wp2
  go_ret
  exact ⟨ret_bool (by simp), rfl⟩
set_option maxHeartbeats 400000 in
theorem pcmp_any (a b : Int) (w : World) : Calls Tryd.prog 55 #[.int .i64 a, .int .i64 b] w fun e w' => e = .returned (.int .i64 (pOrd a b)) ∧ w' = w := by
  unfold pOrd
  by_cases h1 : a < b
  · rw [if_pos h1]
    go_enter Tryd.func55, Tryd.ntmps55
    go_wp2_with (go_at_call 68; refine (isNaN_any _ _).mono ?_; rintro e w1 ⟨rfl, rfl⟩)
    go_ret
    exact ⟨rfl, rfl⟩
  · rw [if_neg h1]
    by_cases h2 : b < a
    · rw [if_pos h2]
      go_enter Tryd.func55, Tryd.ntmps55
      go_wp2_with (go_at_call 68; refine (isNaN_any _ _).mono ?_; rintro e w1 ⟨rfl, rfl⟩)
      go_ret
      exact ⟨rfl, rfl⟩
    · rw [if_neg h2]
      go_enter Tryd.func55, Tryd.ntmps55
      go_wp2_with (go_at_call 68; refine (isNaN_any _ _).mono ?_; rintro e w1 ⟨rfl, rfl⟩)
      go_ret
      exact ⟨rfl, rfl⟩
theorem two_a (w : World) (a b : Rm) : Blk w.heap.size (rca a) 29 ((w.alloc (.cells (rca a) 29)).alloc (.cells (rca b) 29)) := (Blk.new w (rca a) 29).old _
theorem two_b (w : World) (a b : Rm) : Blk (w.heap.size + 1) (rca b) 29 ((w.alloc (.cells (rca a) 29)).alloc (.cells (rca b) 29)) := Blk.new2 _ _ _ _
theorem two_below (w : World) (a b : Rm) : Below w.heap.size w ((w.alloc (.cells (rca a) 29)).alloc (.cells (rca b) 29)) := (below1 w _).trans ((below1 _ _).mono (below1 w _).size)
theorem eqlC (a b : Nat → Int) (w : World) : (Op.equalIn 10000 26 (.agg (cl a).toArray) (.agg (cl b).toArray)).run Tryd.prog w = .ok (cEq a b) w := eql_cube a b w
set_option maxHeartbeats 400000 in
theorem key_any (a b : Rm) (w : World) : Calls Tryd.prog 13 #[.agg (rca a), .agg (rca b)] w fun e w' => e = .returned (.bool (keyB a.u b.u)) ∧ Below w.heap.size w w' := by
  obtain ⟨ma, ka, _⟩ := (two_a w a b).cellsR
  obtain ⟨mb, kb, _⟩ := (two_b w a b).cellsR
  have MA := Lib.hid ma
  have MB := Lib.hid mb
  have HB := Lib.hid (two_below w a b)
  have heq := eqlC a.u.m b.u.m
  have hgd := guardCube
  clear ma mb
  unfold keyB
  by_cases hp : a.u.p = b.u.p
  · have hp' : (a.u.p == b.u.p) = true := by simpa using hp
    rw [hp', Bool.true_and]
    generalize cEq a.u.m b.u.m = y at *
    go_enter Tryd.func13, Tryd.ntmps13
    go_wp2_with (first
      | (refine loadMidG rfl 26 (.tmp 11) rfl w.heap.size 0 rfl (cl a.u.m) _ MA.out Tryd.underlying26 rfl infoCube ?_)
      | (refine loadMidG rfl 26 (.tmp 13) rfl (w.heap.size + 1) 0 rfl (cl b.u.m) _ MB.out Tryd.underlying26 rfl infoCube ?_))
    go_ret
    exact ⟨rfl, HB.out⟩
  · have hp' : (a.u.p == b.u.p) = false := by simpa using hp
    rw [hp', Bool.false_and]
    go_enter Tryd.func13, Tryd.ntmps13
    go_wp2
    go_ret
    exact ⟨rfl, HB.out⟩
set_option maxHeartbeats 400000 in
theorem rkey_any (a b : Rm) (w : World) : Calls Tryd.prog 14 #[.agg (rca a), .agg (rca b)] w fun e w' => e = .returned (.bool (keyB a.u b.u)) ∧ Below w.heap.size w w' := by
  obtain ⟨ma, ka, _⟩ := (two_a w a b).cellsR
  obtain ⟨mb, kb, _⟩ := (two_b w a b).cellsR
  have MA := Lib.hid ma
  have MB := Lib.hid mb
  have HB := Lib.hid (two_below w a b)
  have heq := eqlC a.u.m b.u.m
  have hgd := guardCube
  clear ma mb
  unfold keyB
  rw [Bool.and_comm]
  generalize cEq a.u.m b.u.m = y at *
  cases y
  · go_enter Tryd.func14, Tryd.ntmps14
    go_wp2_with (first
      | (refine wpList_load_mid rfl 26 (.tmp 5) rfl w.heap.size 0 rfl (cl a.u.m) _ MA.out Tryd.underlying26 rfl infoCube ?_)
      | (refine wpList_load_mid rfl 26 (.tmp 7) rfl (w.heap.size + 1) 0 rfl (cl b.u.m) _ MB.out Tryd.underlying26 rfl infoCube ?_))
    go_ret
    exact ⟨rfl, HB.out⟩
  · go_enter Tryd.func14, Tryd.ntmps14
    go_wp2_with (first
      | (refine wpList_load_mid rfl 26 (.tmp 5) rfl w.heap.size 0 rfl (cl a.u.m) _ MA.out Tryd.underlying26 rfl infoCube ?_)
      | (refine wpList_load_mid rfl 26 (.tmp 7) rfl (w.heap.size + 1) 0 rfl (cl b.u.m) _ MB.out Tryd.underlying26 rfl infoCube ?_))
    go_ret
    exact ⟨rfl, HB.out⟩
set_option maxHeartbeats 400000 in
theorem order_any (a b : Rm) (w : World) : Calls Tryd.prog 35 #[.agg (rca a), .agg (rca b)] w fun e w' => e = .returned (.int .i64 (rOrd a.u b.u)) ∧ Below w.heap.size w w' := by
  obtain ⟨ma, ka, _⟩ := (two_a w a b).cellsR
  obtain ⟨mb, kb, _⟩ := (two_b w a b).cellsR
  have MA := Lib.hid ma
  have MB := Lib.hid mb
  have HB := Lib.hid (two_below w a b)
  have HC := Lib.hid (ccmp_any a.u.m b.u.m ((w.alloc (.cells (rca a) 29)).alloc (.cells (rca b) 29)))
  have HP := Lib.hid (fun W => pcmp_any b.u.p a.u.p W)
  clear ma mb
  unfold rOrd
  generalize pOrd b.u.p a.u.p = y at *
  by_cases hp : y = 0
  · subst hp
    rw [if_neg (by simp)]
    go_enter Tryd.func35, Tryd.ntmps35
    go_wp2_with (first
      | (refine wpList_load_mid rfl 26 (.tmp 14) rfl w.heap.size 0 rfl (cl a.u.m) _ MA.out Tryd.underlying26 rfl infoCube ?_)
      | (refine wpList_load_mid rfl 26 (.tmp 16) rfl (w.heap.size + 1) 0 rfl (cl b.u.m) _ MB.out Tryd.underlying26 rfl infoCube ?_)
      | (go_at_call 55; refine (HP.out _).mono ?_; rintro e w1 ⟨rfl, rfl⟩)
      | (go_at_call 56; refine HC.out.mono ?_; rintro e w2 ⟨rfl, hw2⟩))
    go_ret
    exact ⟨rfl, HB.out.trans (hw2.mono HB.out.size)⟩
  · rw [if_pos hp]
    have hp' := ne_true hp
    clear hp
    go_enter Tryd.func35, Tryd.ntmps35
    go_wp2_with (go_at_call 55; refine (HP.out _).mono ?_; rintro e w1 ⟨rfl, rfl⟩)
    go_ret
    exact ⟨rfl, HB.out⟩
theorem before_any (a b : Rm) (w : World) : Calls Tryd.prog 15 #[.agg (rca a), .agg (rca b)] w fun e w' => e = .returned (.bool (decide (rOrd a.u b.u < 0))) ∧ Below w.heap.size w w' := by
  have RA := Lib.hid (two_a w a b)
  have RB := Lib.hid (two_b w a b)
  have HB := Lib.hid (two_below w a b)
  have HO := Lib.hid (order_any a b ((w.alloc (.cells (rca a) 29)).alloc (.cells (rca b) 29)))
  generalize rOrd a.u b.u = y at *
  go_enter Tryd.func15, Tryd.ntmps15
  go_wp2_with (first
    | (refine wpList_load_row rfl 29 (.tmp 2) rfl w.heap.size rfl 29 (rca a) (0, 0) _ RA.out Tryd.underlying29 rfl infoR ?_)
    | (refine wpList_load_row rfl 29 (.tmp 3) rfl (w.heap.size + 1) rfl 29 (rca b) (0, 0) _ RB.out Tryd.underlying29 rfl infoR ?_)
    | (go_at_call 35; refine HO.out.mono ?_; rintro e w1 ⟨rfl, hw1⟩))
  go_ret
  exact ⟨rfl, HB.out.trans (hw1.mono HB.out.size)⟩
set_option maxHeartbeats 400000 in
theorem rbefore_any (a b : Rm) (w : World) : Calls Tryd.prog 16 #[.agg (rca a), .agg (rca b)] w fun e w' => e = .returned (.bool (decide (rOrd a.u b.u < 0))) ∧ Below w.heap.size w w' := by
  obtain ⟨ma, ka, _⟩ := (two_a w a b).cellsR
  obtain ⟨mb, kb, _⟩ := (two_b w a b).cellsR
  have MA := Lib.hid ma
  have MB := Lib.hid mb
  have HB := Lib.hid (two_below w a b)
  have HC := Lib.hid (rccmp_any a.u.m b.u.m ((w.alloc (.cells (rca a) 29)).alloc (.cells (rca b) 29)))
  clear ma mb
  unfold rOrd
  have z1 := pOrd_zero b.u.p a.u.p
  by_cases hp : a.u.p = b.u.p
  · rw [if_neg (by simpa using z1.2 hp.symm)]
    clear z1
    generalize cOrd a.u.m b.u.m = y at *
    have hp' : (a.u.p != b.u.p) = false := by simpa using hp
    clear hp
    go_enter Tryd.func16, Tryd.ntmps16
    go_wp2_with (first
      | (refine wpList_load_mid rfl 26 (.tmp 15) rfl w.heap.size 0 rfl (cl a.u.m) _ MA.out Tryd.underlying26 rfl infoCube ?_)
      | (refine wpList_load_mid rfl 26 (.tmp 17) rfl (w.heap.size + 1) 0 rfl (cl b.u.m) _ MB.out Tryd.underlying26 rfl infoCube ?_)
      | (go_at_call 36; refine HC.out.mono ?_; rintro e w2 ⟨rfl, hw2⟩))
    go_ret
    exact ⟨rfl, HB.out.trans (hw2.mono HB.out.size)⟩
  · have hn : pOrd b.u.p a.u.p ≠ 0 := fun h => hp (z1.1 h).symm
    rw [if_pos hn]
    have e : decide (pOrd b.u.p a.u.p < 0) = decide (b.u.p < a.u.p) := by
      have := pOrd_le b.u.p a.u.p
      by_cases h : b.u.p < a.u.p
      · rw [decide_eq_true h]; exact decide_eq_true (by have := this.2 (by omega); omega)
      · rw [decide_eq_false h]; exact decide_eq_false (fun h' => by have := this.1 (by omega); omega)
    rw [e]
    have hp' := ne_true hp
    clear hp hn e z1 HC
    go_enter Tryd.func16, Tryd.ntmps16
    go_wp2
    go_ret
    exact ⟨rfl, HB.out⟩
set_option maxHeartbeats 400000 in
theorem overlap_any (a b : Rm) (ha : Wf a.u.m) (hb : Wf b.u.m) (w : World) (ht : Tab w) (hz : 0 < w.heap.size) : Calls Tryd.prog 17 #[.agg (rca a), .agg (rca b)] w fun e w' => e = .returned (.bool (ovB a.u b.u)) ∧ Below w.heap.size w w' := by
  have RA := Lib.hid (two_a w a b)
  have RB := Lib.hid (two_b w a b)
  have MA := Lib.hid RA.out.cellsR.1
  have MB := Lib.hid RB.out.cellsR.1
  have HE := Lib.hid (((Env.start ht hz).alloc (.cells (rca a) 29)).alloc (.cells (rca b) 29))
  have HC := Lib.hid (cmeet_any a.u.m b.u.m (fun j => (ha j).1) (fun j => (hb j).1) _ HE.out.tab HE.out.lt)
  clear ht ha hb
  unfold ovB
  generalize metV a.u.m b.u.m = g at *
  generalize metB a.u.m b.u.m = y at *
  go_enter Tryd.func17, Tryd.ntmps17
  go_upto_region 2 with (first
    | (refine wpList_load_mid rfl 26 (.tmp 8) rfl w.heap.size 0 rfl (cl a.u.m) _ MA.out Tryd.underlying26 rfl infoCube ?_)
    | (refine wpList_load_mid rfl 26 (.tmp 10) rfl (w.heap.size + 1) 0 rfl (cl b.u.m) _ MB.out Tryd.underlying26 rfl infoCube ?_)
    | (go_at_call 37; refine HC.out.mono ?_; rintro e w1 ⟨rfl, hw1⟩)
    | (refine wpList_store_row rfl 26 _ _ rfl w1.heap.size (cc g) rfl rfl 26 _ (heap_alloc_new _ _) (by kernel_rfl) rfl (cc_one _) ?_; rw [World.setRow_alloc_new]))
  have RA1 := Lib.hid ((RA.out.below hw1).old (.cells (cc g) 26))
  have RB1 := Lib.hid ((RB.out.below hw1).old (.cells (cc g) 26))
  have HB := Lib.hid ((HE.out.below hw1).alloc (.cells (cc g) 26)).kept
  clear hw1 RA RB MA MB HE HC
  obtain ⟨_, ka, _⟩ := RA1.out.cellsR
  obtain ⟨_, kb, _⟩ := RB1.out.cellsR
  cases y
  · go_wp2
    go_ret
    exact ⟨rfl, HB.out⟩
  · go_wp2
    go_ret
    exact ⟨rfl, HB.out⟩
set_option maxHeartbeats 400000 in
theorem roverlap_any (a b : Rm) (ha : Wf a.u.m) (hb : Wf b.u.m) (w : World) : Calls Tryd.prog 18 #[.agg (rca a), .agg (rca b)] w fun e w' => e = .returned (.bool (ovB a.u b.u)) ∧ Below w.heap.size w w' := by
  have RA := Lib.hid (two_a w a b)
  have RB := Lib.hid (two_b w a b)
  have MA := Lib.hid RA.out.cellsR.1
  have MB := Lib.hid RB.out.cellsR.1
  have HB := Lib.hid (two_below w a b)
  have HC := Lib.hid (rmeet_any a.u.m b.u.m ha hb ((w.alloc (.cells (rca a) 29)).alloc (.cells (rca b) 29)))
  clear ha hb
  unfold ovB
  rw [Bool.and_comm]
  generalize metV a.u.m b.u.m = g at *
  generalize metB a.u.m b.u.m = y at *
  go_enter Tryd.func18, Tryd.ntmps18
  go_upto_region 2 with (first
    | (refine wpList_load_mid rfl 26 (.tmp 8) rfl w.heap.size 0 rfl (cl a.u.m) _ MA.out Tryd.underlying26 rfl infoCube ?_)
    | (refine wpList_load_mid rfl 26 (.tmp 10) rfl (w.heap.size + 1) 0 rfl (cl b.u.m) _ MB.out Tryd.underlying26 rfl infoCube ?_)
    | (go_at_call 38; refine HC.out.mono ?_; rintro e w1 ⟨rfl, hw1⟩)
    | (refine wpList_store_row rfl 26 _ _ rfl w1.heap.size (cc g) rfl rfl 26 _ (heap_alloc_new _ _) (by kernel_rfl) rfl (cc_one _) ?_; rw [World.setRow_alloc_new]))
  have RA1 := Lib.hid ((RA.out.below hw1).old (.cells (cc g) 26))
  have RB1 := Lib.hid ((RB.out.below hw1).old (.cells (cc g) 26))
  have HB1 := Lib.hid ((HB.out.trans (hw1.mono HB.out.size)).trans ((below1 w1 (.cells (cc g) 26)).mono (HB.out.trans (hw1.mono HB.out.size)).size))
  clear hw1 RA RB MA MB HB HC
  obtain ⟨_, ka, _⟩ := RA1.out.cellsR
  obtain ⟨_, kb, _⟩ := RB1.out.cellsR
  by_cases hp : a.u.p = b.u.p
  · have hp' : (a.u.p == b.u.p) = true := by simpa using hp
    go_wp2
    go_ret
    exact ⟨ret_bool (by first | rw [hp', Bool.true_and] | (rw [hp']; simp)), HB1.out⟩
  · have hp' : (a.u.p == b.u.p) = false := by simpa using hp
    go_wp2
    go_ret
    exact ⟨ret_bool (by first | rw [hp', Bool.false_and] | (rw [hp']; simp)), HB1.out⟩
end Go.Proofs.YthalpnmejompdaaDoor
