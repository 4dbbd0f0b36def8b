/-
  The walk of the law's own look: a program that does nothing does not answer.
-/
import Derived.Test.YtomnpfbebimpkaaGreatDoorPackModB
import Derived.Test.YtomnpfbebimpkaaGreatDoorSq
namespace Go.Proofs.YtomnpfbebimpkaaGreatDoor
set_option maxRecDepth 20000
open Go.RowKit
def a1U : Mu := ⟨1, fun _ => 0, 7, [], 0, 0, 1, false⟩
def a1 : Mm := ⟨a1U, none, 0, 0⟩
def a3U : Mu := ⟨3, fun _ => 0, 0, [], 0, 0, 1, false⟩
def a3 : Mm := ⟨a3U, none, 0, 0⟩
def ApR (w : World) (k : Int) (us : List Ru) (e : Ending) (w' : World) : Prop := ∃ v L, e = .returned (.tuple #[v, .int .i64 k]) ∧ L.map (·.u) = us ∧ InS w v L w'
theorem apply_at (v:Value) (l:List Rm) (hlen:l.length≤50000) (hwl:WfRL l) (m:Mm) (hw:WfM m.u) (room:Int) (w:World) (hl:RLies v l w) (ha:InM m w) (ht:Tab w) (hz:0<w.heap.size) (us:List Ru) (hus:l.map (·.u)=us) (k:Int) (us':List Ru) (hk:applyE us m.u room=k) (hv:applyV us m.u room=us'):Calls Tryz.prog 75 #[v,.agg (mca m),.int .i64 room] w (ApR w k us'):=by
 subst hus hk hv;exact apply_any v l hlen hwl m hw room w hl ha ht hz
theorem rlies_nil (W:World):RLies (.slice none 0 0) [] W:=⟨.inl ⟨rfl,rfl⟩,fun r hr=>(by cases hr)⟩
end Go.Proofs.YtomnpfbebimpkaaGreatDoor
