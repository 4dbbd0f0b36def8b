/-
  What the laws on changes share.
-/
import Derived.Test.YtomnpfbebimpkaaGreatDoorModAns
import Derived.Test.YtomnpfbebimpkaaGreatDoorModRef
namespace Go.Proofs.YtomnpfbebimpkaaGreatDoor
set_option maxRecDepth 20000
open Go.RowKit

theorem rsame_eq (v1 v2 : Value) (A C : List Rm) (hlen : A.length ≤ 1000000) (hw : WfRL C) (e : A.map (·.u) = C.map (·.u)) (w : World) (h1 : RLies v1 A w) (h2 : RLies v2 C w) :
    Calls Tryz.prog 14 #[v1, v2] w fun e w' => e = .returned (.bool true) ∧ Below w.heap.size w w' := by
  have := rsame_rules v1 v2 A C hlen hw w h1 h2
  rw [e, sameL_self] at this
  exact this
section
variable {us : List Ru} {m : Mu} {room : Int} {l : List Rm}
theorem appV_ok (h : applyE us m room = 0) : applyV us m room = applyL us m := by unfold applyV; rw [if_pos h]
theorem appV_no (h : applyE us m room ≠ 0) : applyV us m room = [] := by unfold applyV; rw [if_neg h]
theorem len_map {us : List Ru} (h : l.map (·.u) = us) : l.length = us.length := by rw [← h, List.length_map]
/-- a list that Apply gave has numbers in their ranges .. -/
theorem wf_app {L : List Rm} (hl : WfRL l) (hm : WfM m) (hu : L.map (·.u) = applyL (l.map (·.u)) m) : WfRL L := (wf_apply (WfUL.of hl) hm).rl hu
/-- .. and is at most one longer -/
theorem len_app {L : List Rm} {n : Nat} (hn : l.length ≤ n) (hu : L.map (·.u) = applyL (l.map (·.u)) m) : L.length ≤ n + 1 := by
  have := (apply_len (l.map (·.u)) m).1
  rw [len_map hu]
  simp only [List.length_map] at this
  omega
end
theorem neq_true {a : Int} (h : a ≠ 0) : (a != 0) = true := by simpa using h
end Go.Proofs.YtomnpfbebimpkaaGreatDoor
