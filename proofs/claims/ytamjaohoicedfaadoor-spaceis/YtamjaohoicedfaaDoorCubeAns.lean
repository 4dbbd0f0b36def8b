/-
  The walk of the law's answers.
-/
import Derived.Test.YtamjaohoicedfaaDoorCubeWith
namespace Go.Proofs.YtamjaohoicedfaaDoor
open Go.RowKit

def ansC : Nat → Int := fixed zh 6 167772160 8
theorem ansE : withE zh 6 167772160 8 = 0 := by decide +kernel
theorem ansV : withV zh 6 167772160 8 = ansC := by unfold withV; rw [ansE]; rfl
theorem ansYes : hasB ansC (upd zh 6 167838211) = true := by decide +kernel
theorem ansNo : hasB ansC zh = false := by decide +kernel
theorem ans_nonneg : ∀ j, 0 ≤ ansC j := fun j => by
  unfold ansC fixed upd
  split
  · decide +kernel
  · split
    · decide +kernel
    · exact Int.le_refl 0
theorem ansH_nonneg : ∀ j, 0 ≤ upd zh 6 167838211 j := fun j => by
  unfold upd
  split
  · decide
  · exact Int.le_refl 0
end Go.Proofs.YtamjaohoicedfaaDoor
