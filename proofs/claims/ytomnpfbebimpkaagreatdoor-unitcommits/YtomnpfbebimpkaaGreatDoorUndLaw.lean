/-
  What the laws on patches share.
-/
import Derived.Test.YtomnpfbebimpkaaGreatDoorPackUndo
import Derived.Test.YtomnpfbebimpkaaGreatDoorRuleRSt
namespace Go.Proofs.YtomnpfbebimpkaaGreatDoor
set_option maxRecDepth 20000
open Go.RowKit

theorem map_nil {L : List Rm} (h : L.map (·.u) = []) : L = [] := by simpa using h
section
variable {w0 W W' : World} {bs : List (Nat × Array Value)} {ls : List (Value × List Rm)}
end
end Go.Proofs.YtomnpfbebimpkaaGreatDoor
