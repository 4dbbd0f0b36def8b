/-
  What the reference's Apply gives.
-/
import Derived.Test.YthnfaccenlkedaaDoorModRef
namespace Go.Proofs.YthnfaccenlkedaaDoor
set_option maxRecDepth 20000
open Go.RowKit

/-- what the reference's Apply gives -/
def RaR (w : World) (us : List Ru) (m : Mu) (room : Int) (e : Ending) (w' : World) : Prop := ∃ v L, e = .returned (.tuple #[v, .int .i64 (applyE us m room)]) ∧ L.map (·.u) = applyV us m room ∧ RLies v L w' ∧ Below w.heap.size w w'
theorem RaR.no {w w' : World} {us : List Ru} {m : Mu} {room : Int} {k : Int} (h : applyE us m room = k) (hk : k ≠ 0) (hb : Below w.heap.size w w') : RaR w us m room (.returned (.tuple #[.slice none 0 0, .int .i64 k])) w' :=
  ⟨_, [], by rw [h], by rw [appV_no (by rw [h]; exact hk)]; rfl, rlies_nil _, hb⟩
end Go.Proofs.YthnfaccenlkedaaDoor
