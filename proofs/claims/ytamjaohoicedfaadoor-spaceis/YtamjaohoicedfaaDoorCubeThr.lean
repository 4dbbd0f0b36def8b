/-
  The walk of the law CubeThree.
-/
import Derived.Test.YtamjaohoicedfaaDoorCubeAns
import Derived.Test.YtamjaohoicedfaaDoorCubeMath
namespace Go.Proofs.YtamjaohoicedfaaDoor
open Go.RowKit

/-- what Meet answers, at whatever world -/
def Meets (a b m : Nat → Int) (y : Bool) : Prop := ∀ W, Tab W → 0 < W.heap.size → Calls Tryd.prog 31 #[.agg (cc a), .agg (cc b)] W fun e w' => e = .returned (.tuple #[.agg (cc m), .bool y]) ∧ Below W.heap.size W w'
theorem meets_any {a b : Nat → Int} (ha : Wf a) (hb : Wf b) : Meets a b (metV a b) (metB a b) := fun W t z => cmeet_any a b ha.nonneg hb.nonneg W t z
end Go.Proofs.YtamjaohoicedfaaDoor
