/-
  What the laws on patches share.
-/
import Derived.Test.YtomnpfbebimpkaaGreatDoorUndAns
import Derived.Test.YtomnpfbebimpkaaGreatDoorUndRef
namespace Go.Proofs.YtomnpfbebimpkaaGreatDoor
set_option maxRecDepth 20000
open Go.RowKit

theorem map_nil {L : List Rm} (h : L.map (·.u) = []) : L = [] := by simpa using h
theorem SwR.of {w w' : World} {us gs cs : List Ru} {e : Ending} {k : Int} {ks : List Ru} (hk : k = swapE us gs cs) (hv : ks = swapV us gs cs) (h : SwpRet w us gs cs e w') : SwR w k ks e w' := by
  subst hk hv
  exact h
section
variable {w0 W W' : World} {bs : List (Nat × Array Value)} {ls : List (Value × List Rm)}
end
end Go.Proofs.YtomnpfbebimpkaaGreatDoor
