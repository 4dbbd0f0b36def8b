/-
  What goes and comes between tables, and how it is undone: no word of any program.
-/
import Derived.Test.YtomnpfbebimpkaaGreatDoorPackMod
import Derived.Test.YtomnpfbebimpkaaGreatDoorSq
namespace Go.Proofs.YtomnpfbebimpkaaGreatDoor
set_option maxRecDepth 20000
def Can (u : Ru) : Prop := ∀ j, 24 ≤ j → u.m j = 0
def CanL (us : List Ru) : Prop := ∀ u ∈ us, Can u
section
variable {A B C l : List Ru} {z : Ru}
end
end Go.Proofs.YtomnpfbebimpkaaGreatDoor
