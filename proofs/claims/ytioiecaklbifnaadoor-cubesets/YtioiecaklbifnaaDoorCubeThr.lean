/-
  The walk of the law CubeThree.
-/
import Derived.Test.YtioiecaklbifnaaDoorCubeAns
import Derived.Test.YtioiecaklbifnaaDoorCubeMath
namespace Go.Proofs.YtioiecaklbifnaaDoor
open Go.RowKit

/-- what Meet answers, at whatever world -/
def Meets (a b m : Nat → Int) (y : Bool) : Prop := ∀ W, Tab W → 0 < W.heap.size → Calls Tryd.prog 21 #[.agg (cc a), .agg (cc b)] W fun e w' => e = .returned (.tuple #[.agg (cc m), .bool y]) ∧ Below W.heap.size W w'
theorem meets_any {a b : Nat → Int} (ha : Wf a) (hb : Wf b) : Meets a b (metV a b) (metB a b) := fun W t z => cmeet_any a b ha.nonneg hb.nonneg W t z
set_option maxHeartbeats 2000000 in
theorem three_of (a b c x y z u : Nat → Int) (ok yes fine good : Bool) (hA : Meets a b x ok) (hB : Meets x c y yes) (hC : Meets b c z fine) (hD : Meets a z u good)
    (h1 : (ok && yes) = (fine && good)) (h2 : ok = true → yes = true → cEq y u = true) (w : World) (ht : Tab w) (hz : 0 < w.heap.size) :
    Calls Tryd.prog 7 #[.agg (cc a), .agg (cc b), .agg (cc c)] w fun e w' => e = .returned (.bool true) ∧ Below w.heap.size w w' := by
  have HE := Lib.hid ((((Env.start ht hz).alloc (.cells (cc a) 26)).alloc (.cells (cc b) 26)).alloc (.cells (cc c) 26))
  have A0 := Lib.hid (((Blk.new w (cc a) 26).old (.cells (cc b) 26)).old (.cells (cc c) 26))
  have B0 := Lib.hid ((Blk.new2 w (.cells (cc a) 26) (cc b) 26).old (.cells (cc c) 26))
  have C0 := Lib.hid (Blk.new3 w (.cells (cc a) 26) (.cells (cc b) 26) (cc c) 26)
  have H1 := Lib.hid h1
  have H2 := Lib.hid h2
  clear ht h1 h2
  go_enter Tryd.func7, Tryd.ntmps7
  go_wp2_with (first
    | (refine wpList_load_row rfl 26 _ rfl w.heap.size rfl 26 (cc a) (0, 0) _ A0.out Tryd.underlying26 rfl (by kernel_rfl) ?_)
    | (refine wpList_load_row rfl 26 _ rfl (w.heap.size + 1) rfl 26 (cc b) (0, 0) _ B0.out Tryd.underlying26 rfl (by kernel_rfl) ?_))
  refine (hA _ HE.out.tab HE.out.lt).mono ?_
  rintro e w1 ⟨rfl, hw1⟩
  have A1 := Lib.hid ((A0.out.below hw1).old (.cells (cc x) 26))
  have B1 := Lib.hid ((B0.out.below hw1).old (.cells (cc x) 26))
  have C1 := Lib.hid ((C0.out.below hw1).old (.cells (cc x) 26))
  have X1 := Lib.hid (Blk.new w1 (cc x) 26)
  have E1 := Lib.hid ((HE.out.below hw1).alloc (.cells (cc x) 26))
  clear hw1 HE A0 B0 C0
  go_wp2_with (first
    | (refine wpList_store_row rfl 26 _ _ rfl w1.heap.size (cc x) rfl rfl 26 _ (heap_alloc_new _ _) (by kernel_rfl) rfl (cc_one _) ?_; rw [World.setRow_alloc_new])
    | (refine wpList_load_row rfl 26 _ rfl w1.heap.size rfl 26 (cc x) (0, 0) _ X1.out Tryd.underlying26 rfl (by kernel_rfl) ?_)
    | (refine wpList_load_row rfl 26 _ rfl (w.heap.size + 1 + 1) rfl 26 (cc c) (0, 0) _ C1.out Tryd.underlying26 rfl (by kernel_rfl) ?_))
  refine (hB _ E1.out.tab E1.out.lt).mono ?_
  rintro e w2 ⟨rfl, hw2⟩
  have A2 := Lib.hid ((A1.out.below hw2).old (.cells (cc y) 26))
  have B2 := Lib.hid ((B1.out.below hw2).old (.cells (cc y) 26))
  have C2 := Lib.hid ((C1.out.below hw2).old (.cells (cc y) 26))
  have Y2 := Lib.hid (Blk.new w2 (cc y) 26)
  have E2 := Lib.hid ((E1.out.below hw2).alloc (.cells (cc y) 26))
  clear hw2 E1 A1 B1 C1 X1
  go_wp2_with (first
    | (refine wpList_store_row rfl 26 _ _ rfl w2.heap.size (cc y) rfl rfl 26 _ (heap_alloc_new _ _) (by kernel_rfl) rfl (cc_one _) ?_; rw [World.setRow_alloc_new])
    | (refine wpList_load_row rfl 26 _ rfl (w.heap.size + 1) rfl 26 (cc b) (0, 0) _ B2.out Tryd.underlying26 rfl (by kernel_rfl) ?_)
    | (refine wpList_load_row rfl 26 _ rfl (w.heap.size + 1 + 1) rfl 26 (cc c) (0, 0) _ C2.out Tryd.underlying26 rfl (by kernel_rfl) ?_))
  refine (hC _ E2.out.tab E2.out.lt).mono ?_
  rintro e w3 ⟨rfl, hw3⟩
  have A3 := Lib.hid ((A2.out.below hw3).old (.cells (cc z) 26))
  have Y3 := Lib.hid ((Y2.out.below hw3).old (.cells (cc z) 26))
  have Z3 := Lib.hid (Blk.new w3 (cc z) 26)
  have E3 := Lib.hid ((E2.out.below hw3).alloc (.cells (cc z) 26))
  clear hw3 E2 A2 B2 C2 Y2
  go_wp2_with (first
    | (refine wpList_store_row rfl 26 _ _ rfl w3.heap.size (cc z) rfl rfl 26 _ (heap_alloc_new _ _) (by kernel_rfl) rfl (cc_one _) ?_; rw [World.setRow_alloc_new])
    | (refine wpList_load_row rfl 26 _ rfl w.heap.size rfl 26 (cc a) (0, 0) _ A3.out Tryd.underlying26 rfl (by kernel_rfl) ?_)
    | (refine wpList_load_row rfl 26 _ rfl w3.heap.size rfl 26 (cc z) (0, 0) _ Z3.out Tryd.underlying26 rfl (by kernel_rfl) ?_))
  refine (hD _ E3.out.tab E3.out.lt).mono ?_
  rintro e w4 ⟨rfl, hw4⟩
  have Y4 := Lib.hid ((Y3.out.below hw4).old (.cells (cc u) 26))
  have U4 := Lib.hid (Blk.new w4 (cc u) 26)
  have E4 := Lib.hid ((E3.out.below hw4).alloc (.cells (cc u) 26))
  clear hw4 E3 A3 Y3 Z3
  go_wp2_with (refine wpList_store_row rfl 26 _ _ rfl w4.heap.size (cc u) rfl rfl 26 _ (heap_alloc_new _ _) (by kernel_rfl) rfl (cc_one _) ?_; rw [World.setRow_alloc_new])
  refine (canswers _ E4.out.tab E4.out.lt).mono ?_
  rintro e w5 ⟨rfl, hw5⟩
  have Y5 := Lib.hid (Y4.out.below hw5)
  have U5 := Lib.hid (U4.out.below hw5)
  have HB := Lib.hid (E4.out.below hw5).kept
  clear hw5 E4 Y4 U4
  have hgd := guardCube
  cases hoy : (ok && yes)
  · have q1 : (ok && yes) = false := hoy
    have q2 : (fine && good) = false := by rw [← H1.out]; exact hoy
    clear hoy
    cases ok <;> cases yes <;> first | (exact absurd q1 (by decide)) | (clear q1; cases fine <;> cases good <;> first | (exact absurd q2 (by decide)) | (clear q2; go_wp2; go_ret; exact ⟨rfl, HB.out⟩))
  · obtain ⟨rfl, rfl⟩ : ok = true ∧ yes = true := by simpa using hoy
    have q2 : (fine && good) = true := by rw [← H1.out]; rfl
    obtain ⟨rfl, rfl⟩ : fine = true ∧ good = true := by simpa using q2
    have heq : ∀ w, (Op.equalIn 10000 26 (.agg (cc y)) (.agg (cc u))).run Tryd.prog w = .ok true w := fun w => (eql_cube y u w).trans (by rw [H2.out rfl rfl])
    go_wp2_with (first
      | (refine loadRowG rfl 26 _ rfl w2.heap.size rfl 26 (cc y) (0, 0) Y5.out Tryd.underlying26 rfl (by kernel_rfl) ?_)
      | (refine loadRowG rfl 26 _ rfl w4.heap.size rfl 26 (cc u) (0, 0) U5.out Tryd.underlying26 rfl (by kernel_rfl) ?_))
    go_ret
    exact ⟨rfl, HB.out⟩
theorem cubeThree_any (a : Nat → Int) (ha : Wf a) (b : Nat → Int) (hb : Wf b) (c : Nat → Int) (hc : Wf c) (w : World) (ht : Tab w) (hz : 0 < w.heap.size) :
    Calls Tryd.prog 7 #[.agg (cc a), .agg (cc b), .agg (cc c)] w fun e w' => e = .returned (.bool true) ∧ Below w.heap.size w w' :=
  three_of a b c _ _ _ _ _ _ _ _ (meets_any ha hb) (meets_any (metV_wf ha hb) hc) (meets_any hb hc) (meets_any ha (metV_wf hb hc)) (met_three ha hb hc).1
    (fun h1 h2 => by rw [(met_three ha hb hc).2 h1 h2]; exact cEq_refl _) w ht hz
end Go.Proofs.YtioiecaklbifnaaDoor
