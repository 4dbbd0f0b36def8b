/-
  What the laws on changes share.
-/
import Derived.Test.YtomnpfbebimpkaaGreatDoorModAns
import Derived.Test.YtomnpfbebimpkaaGreatDoorModRef
import Derived.Test.YtomnpfbebimpkaaGreatDoorSq
namespace Go.Proofs.YtomnpfbebimpkaaGreatDoor
set_option maxRecDepth 20000
open Go.RowKit
theorem rsame_eq (v1 v2:Value) (A C:List Rm) (hlen:A.length≤1000000) (hw:WfRL C) (e:A.map (·.u)=C.map (·.u)) (w:World) (h1:RLies v1 A w) (h2:RLies v2 C w):Calls Tryz.prog 14 #[v1,v2] w fun e w'=>e= .returned (.bool true)∧Below w.heap.size w w':=by
 have:=rsame_rules v1 v2 A C hlen hw w h1 h2;rw[e,sameL_self] at this;exact this
section
variable {us : List Ru} {m : Mu} {room : Int} {l : List Rm}
theorem appV_ok (h:applyE us m room=0):applyV us m room=applyL us m:=by unfold applyV;rw[if_pos h]
theorem appV_no (h:applyE us m room≠0):applyV us m room=[]:=by unfold applyV;rw[if_neg h]
theorem len_map {us:List Ru} (h:l.map (·.u)=us):l.length=us.length:=by rw[←h,List.length_map]
end
end Go.Proofs.YtomnpfbebimpkaaGreatDoor
