/-
  Messages that come in by value, opened.
-/
import Derived.Test.YtomnpfbebimpkaaGreatDoorModArg
import Derived.Test.YtomnpfbebimpkaaGreatDoorCodVal
namespace Go.Proofs.YtomnpfbebimpkaaGreatDoor
set_option maxRecDepth 20000
open Go.ChangeShapes Go.WideShapes Go.ChangeAt Go.RowKit
/-- numbers of a message in memory that came in -/
structure WfG (g : Gm) : Prop where
  mod : WfM g.mod.u
  head : Wf g.head
  rules : WfRL g.rs
  nr : g.rs.length ≤ 140737488355328
section
variable {H : Type} {enc : TypeId × Value → H} {W : World} {base : Nat} {sp : Nat → Bool} {held : Bool}
end
theorem WfG.ms {g : Gm} (h : WfG g) : WfMs g.u := ⟨h.mod, h.head, WfUL.of h.rules⟩
end Go.Proofs.YtomnpfbebimpkaaGreatDoor
