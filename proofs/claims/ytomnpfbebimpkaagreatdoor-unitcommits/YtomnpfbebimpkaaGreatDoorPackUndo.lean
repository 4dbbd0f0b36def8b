/- Several of my texts as one: UndPlace, UndCond, UndDel, UndFun, UndSwap, UndDiff, UndInv. -/
import Derived.Test.YtomnpfbebimpkaaGreatDoorUndMath
import Derived.Test.YtomnpfbebimpkaaGreatDoorPackMod
import Derived.Test.YtomnpfbebimpkaaGreatDoorPackRule
import Derived.Test.YtomnpfbebimpkaaGreatDoorPackSort
import Derived.Test.YtomnpfbebimpkaaGreatDoorPackRuleB
import Derived.Test.YtomnpfbebimpkaaGreatDoorRuleRStM
import Derived.Test.YtomnpfbebimpkaaGreatDoorPackAct
import Derived.Test.YtomnpfbebimpkaaGreatDoorPackModB
import Derived.Test.YtomnpfbebimpkaaGreatDoorModLaw
/-
  The walks of sort.Search, and of place of package undo.
-/
namespace Go.Proofs.YtomnpfbebimpkaaGreatDoor
open Go.RowKit

section
variable {l : List Rm} {r x : Rm} {c i j : Nat}
end
end Go.Proofs.YtomnpfbebimpkaaGreatDoor

/-
  The walks of the conditions that equalIn and keyIn give, and of all.
-/
namespace Go.Proofs.YtomnpfbebimpkaaGreatDoor
open Go.RowKit

section
variable {B0 : Nat} {v : Value} {l : List Rm} {wb c cap : Nat} {r x : Rm} {p : Option Addr} {W W' : World}
end
section
variable {l : List Rm} {r x : Rm} {c : Nat}
end
end Go.Proofs.YtomnpfbebimpkaaGreatDoor

/-
  slices.DeleteFunc over rules of one's own, whatever else is kept meanwhile; slices.Clone of rules; slices.Concat of any two lists.
-/
namespace Go.Proofs.YtomnpfbebimpkaaGreatDoor
set_option maxRecDepth 20000
open Go.RowKit

/-- what stays when memory is made, or cells are written in a block -/
structure StayS (S : World → Prop) (B : Nat) : Prop where
  below : ∀ {W W' : World}, S W → Below W.heap.size W W' → S W'
  put : ∀ {W : World} (o : Nat) (vs : List Value), S W → S (W.setCells B o vs)
end Go.Proofs.YtomnpfbebimpkaaGreatDoor

/-
  The walks of equalIn, keyIn and all of package undo.
-/
namespace Go.Proofs.YtomnpfbebimpkaaGreatDoor
set_option maxRecDepth 20000
open Go.RowKit

end Go.Proofs.YtomnpfbebimpkaaGreatDoor

/-
  The walk of swap of package undo.
-/
namespace Go.Proofs.YtomnpfbebimpkaaGreatDoor
set_option maxRecDepth 20000
open Go.RowKit

section
variable {l g c L : List Rm}
end
section
variable {us gs cs : List Ru}
end
end Go.Proofs.YtomnpfbebimpkaaGreatDoor

/-
  The walks of Forth, Back, Diff and Inverse of package undo.
-/
namespace Go.Proofs.YtomnpfbebimpkaaGreatDoor
set_option maxRecDepth 20000
open Go.RowKit

section
variable {w0 w1 W W' : World} {Bx g : Nat} {v x x1 x2 : Value} {L L1 L2 l : List Rm} {us ks : List Ru}
theorem InS.none (hb : Below w0.heap.size w0 W) : InS w0 (.slice none 0 0) [] W := ⟨KOwns.nil _ _, fun y hy => (by cases hy), hb⟩
end
end Go.Proofs.YtomnpfbebimpkaaGreatDoor

/-
  The walk of Inverse of package undo.
-/
namespace Go.Proofs.YtomnpfbebimpkaaGreatDoor
set_option maxRecDepth 20000
open Go.RowKit

end Go.Proofs.YtomnpfbebimpkaaGreatDoor
