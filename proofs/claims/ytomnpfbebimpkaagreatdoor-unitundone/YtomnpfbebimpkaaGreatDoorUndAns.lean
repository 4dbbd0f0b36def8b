/-
  The walk of the law's own look: a program that does nothing does not answer.
-/
import Derived.Test.YtomnpfbebimpkaaGreatDoorPackUndo
namespace Go.Proofs.YtomnpfbebimpkaaGreatDoor
set_option maxRecDepth 20000
open Go.RowKit

/-- Back and Forth with their answers named -/
def SwR (w : World) (k : Int) (us : List Ru) (e : Ending) (w' : World) : Prop := ∃ v L, e = .returned (.tuple #[v, .int .i64 k]) ∧ L.map (·.u) = us ∧ InS w v L w'
theorem SwpRet.at_ {w w' : World} {us gs cs : List Ru} {e : Ending} {k : Int} {ks : List Ru} (hk : swapE us gs cs = k) (hv : swapV us gs cs = ks) (h : SwpRet w us gs cs e w') : SwR w k ks e w' := by
  subst hk hv
  exact h
end Go.Proofs.YtomnpfbebimpkaaGreatDoor
