/-
  What the reference's Apply gives.
-/
import Derived.Test.YtomnpfbebimpkaaGreatDoorModLaw
import Derived.Test.YtomnpfbebimpkaaGreatDoorSq
namespace Go.Proofs.YtomnpfbebimpkaaGreatDoor
set_option maxRecDepth 20000
open Go.RowKit
def FromA (l : List Rm) (m : Mm) (y : Rm) : Prop := ∀ W : World, (∀ x ∈ l, InA x W) → InM m W → InA y W
def RaO (w : World) (l : List Rm) (m : Mm) (room : Int) (e : Ending) (w' : World) : Prop := ∃ v L, e = .returned (.tuple #[v, .int .i64 (applyE (l.map (·.u)) m.u room)]) ∧ L.map (·.u) = applyV (l.map (·.u)) m.u room ∧ KOwns KR w.heap.size v L w' ∧ (∀ y ∈ L, FromA l m y) ∧ Below w.heap.size w w'
theorem RaO.no {w w':World} {l:List Rm} {m:Mm} {room:Int} {k:Int} (h:applyE (l.map (·.u)) m.u room=k) (hk:k≠0) (hb:Below w.heap.size w w'):RaO w l m room (.returned (.tuple #[.slice none 0 0,.int .i64 k])) w':=⟨_,[],by rw[h],by rw[appV_no (by rw[h];exact hk)];rfl,KOwns.nil _ _,fun y hy=>(by cases hy),hb⟩
end Go.Proofs.YtomnpfbebimpkaaGreatDoor
