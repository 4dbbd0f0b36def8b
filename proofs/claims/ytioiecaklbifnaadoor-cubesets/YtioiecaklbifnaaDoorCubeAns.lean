/-
  The walk of the law's answers.
-/
import Derived.Test.YtioiecaklbifnaaDoorCubeWith
namespace Go.Proofs.YtioiecaklbifnaaDoor
open Go.RowKit

def ansC : Nat → Int := fixed zh 6 167772160 8
theorem ansE : withE zh 6 167772160 8 = 0 := by decide +kernel
theorem ansV : withV zh 6 167772160 8 = ansC := by unfold withV; rw [ansE]; rfl
theorem ansYes : hasB ansC (upd zh 6 167838211) = true := by decide +kernel
theorem ansNo : hasB ansC zh = false := by decide +kernel
theorem ans_nonneg : ∀ j, 0 ≤ ansC j := fun j => by
  unfold ansC fixed upd
  split
  · decide +kernel
  · split
    · decide +kernel
    · exact Int.le_refl 0
theorem ansH_nonneg : ∀ j, 0 ≤ upd zh 6 167838211 j := fun j => by
  unfold upd
  split
  · decide
  · exact Int.le_refl 0
set_option maxHeartbeats 400000 in
theorem canswers (w : World) (ht : Tab w) (hz : 0 < w.heap.size) :
    Calls Tryd.prog 11 #[] w fun e w' => e = .returned (.bool true) ∧ Below w.heap.size w w' := by
  have HE := Lib.hid (Env.start ht hz)
  clear ht
  have HW := Lib.hid fun W => cwith_any zh 6 167772160 8 (fun _ => Int.le_refl 0) (by decide) W
  rw [ansE, ansV] at HW
  go_enter Tryd.func11, Tryd.ntmps11
  go_wp2_with fail
  refine (call_any _).mono ?_
  rintro e w1 ⟨rfl, hw1⟩
  have HE1 := Lib.hid (HE.out.below hw1)
  clear hw1 HE
  go_wp2_with fail
  refine (HW.out _ HE1.out.tab HE1.out.lt).mono ?_
  rintro e w2 ⟨rfl, hw2⟩
  have HE2 := Lib.hid ((HE1.out.below hw2).alloc (.cells (cc ansC) 26))
  have R2 := Lib.hid (Blk.new w2 (cc ansC) 26)
  clear hw2 HE1 HW
  go_wp2_with (first
    | (refine wpList_store_row rfl 26 _ _ rfl w2.heap.size (cc ansC) rfl rfl 26 _ (heap_alloc_new _ _) (by kernel_rfl) rfl (cc_one _) ?_; rw [World.setRow_alloc_new])
    | (refine loadRowG rfl 26 _ rfl w2.heap.size rfl 26 (cc ansC) (0, 0) R2.out Tryd.underlying26 rfl (by kernel_rfl) ?_))
  have HX := chas_any ansC (upd zh 6 167838211) ans_nonneg ansH_nonneg _ HE2.out.tab HE2.out.lt
  rw [ansYes] at HX
  refine HX.mono ?_
  rintro e w3 ⟨rfl, hw3⟩
  clear HX
  have HE3 := Lib.hid (HE2.out.below hw3)
  have R3 := Lib.hid (R2.out.below hw3)
  clear hw3 HE2 R2
  go_wp2_with (refine loadRowG rfl 26 _ rfl w2.heap.size rfl 26 (cc ansC) (0, 0) R3.out Tryd.underlying26 rfl (by kernel_rfl) ?_)
  have HX := chas_any ansC zh ans_nonneg (fun _ => Int.le_refl 0) _ HE3.out.tab HE3.out.lt
  rw [ansNo] at HX
  refine HX.mono ?_
  rintro e w4 ⟨rfl, hw4⟩
  clear HX
  go_wp2
  go_ret
  exact ⟨rfl, (HE3.out.below hw4).kept⟩
end Go.Proofs.YtioiecaklbifnaaDoor
