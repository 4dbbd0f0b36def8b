/-
  How long a slice that comes in can be: what the row's own reach says.
-/
import Derived.Test.YtomnpfbebimpkaaGreatDoorKArg
import Derived.SizedLaws
namespace Go.Proofs.YtomnpfbebimpkaaGreatDoor
set_option maxRecDepth 20000
open Go.ChangeShapes Go.WideShapes Go.ChangeAt Go.RowKit
section
variable {H : Type} {enc : TypeId × Value → H} {W : World} {base : Nat} {sp : Nat → Bool} {held : Bool}
end
end Go.Proofs.YtomnpfbebimpkaaGreatDoor
