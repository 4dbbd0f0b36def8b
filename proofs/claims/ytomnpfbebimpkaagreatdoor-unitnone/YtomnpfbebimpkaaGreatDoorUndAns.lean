/-
  The walk of the law's own look: a program that does nothing does not answer.
-/
import Derived.Test.YtomnpfbebimpkaaGreatDoorPackUndo
namespace Go.Proofs.YtomnpfbebimpkaaGreatDoor
set_option maxRecDepth 20000
open Go.RowKit

def azU : Mu := ⟨1, fun _ => 0, 0, [], 0, 0, 0, false⟩
def az : Mm := ⟨azU, none, 0, 0⟩
theorem sndAz : sndM azU = true := by decide
theorem appEz : applyE [] azU 5 = 0 := by unfold applyE; rw [tab0, sndAz]; rfl
theorem appLz : applyL [] azU = [newU azU] := by unfold applyL; rw [if_pos (show azU.kind = 1 from rfl), add_ins tab0 sndAz]; rfl
theorem appVz : applyV [] azU 5 = [newU azU] := by unfold applyV; rw [if_pos appEz, appLz]
theorem tabZ : tabU [newU azU] = true := by have := apply_tab appEz; rwa [appLz] at this
theorem invGz : invG [] azU 5 = [] := by
  unfold invG
  rw [if_pos appEz, appLz]
  unfold difG
  rw [tab0, tabZ]
  rfl
theorem invNz : invN [] azU 5 = [newU azU] := by
  unfold invN
  rw [if_pos appEz, appLz]
  unfold difG
  rw [tab0, tabZ]
  exact alone_nil _
theorem canZ : CanL [newU azU] := fun u hu => by
  simp only [List.mem_cons, List.not_mem_nil, or_false] at hu
  subst hu
  exact fun _ _ => rfl
theorem swapZ : swapE [newU azU] [newU azU] [] = 0 ∧ swapV [newU azU] [newU azU] [] = [] := by
  have h := diff_swap (A := [newU azU]) (B := []) tabZ tab0 canZ (fun u hu => by cases hu)
  rw [alone_nil, nil_alone] at h
  refine ⟨h.1, ?_⟩
  unfold swapV
  rw [if_pos h.1]
  exact h.2
theorem wfAz : WfM azU := ⟨fun j => (⟨by decide, by decide⟩ : (0 : Int) ≤ 0 ∧ (0 : Int) < 18446744073709551616), fun a ha => (by cases ha), (by decide : 0 * 32 ≤ 140737488355328), i64c 1 (by decide), i640, i640, i640, i640⟩
theorem builtAz : Tryz.prog.built 40 [(0, .int .i64 1)] = some (mca az) := by kernel_rfl
theorem buildAz {ops : Array Oper} {rest : List Oper} {o : Oper} {a : Act} {w : World} {Q : Exit → Act → World → Prop} (hg : o.guard = none) (x : Operand) (ho : o.op = .build 40 #[(0, x)])
    (hx : a.eval x = .int .i64 1)
    (k : wpList Tryz.prog ops Q rest (a.put o.dst (.agg (mca az))) w) : wpList Tryz.prog ops Q (o :: rest) a w := by
  have e : ((#[(0, x)] : Array (Nat × Operand)).map fun (p : Nat × Operand) => (p.1, a.eval p.2)).toList = [(0, .int .i64 1)] := by simp [hx]
  have e' := congrArg (Tryz.prog.built 40) e
  rw [builtAz] at e'
  refine wpList_build hg 40 _ ho (by rw [e']; rfl) ?_
  rw [e']
  exact k
/-- a rule that a change made, alone -/
theorem wf_one {L : List Rm} (h : L.map (·.u) = [newU azU]) : WfRL L := fun r hr => by
  have : r.u ∈ [newU azU] := by rw [← h]; exact List.mem_map_of_mem hr
  simp only [List.mem_cons, List.not_mem_nil, or_false] at this
  rw [this]
  exact wf_new wfAz
theorem wf_nil {L : List Rm} (h : L.map (·.u) = []) : WfRL L := fun r hr => by
  obtain rfl : L = [] := by simpa using h
  cases hr
/-- Inverse with its answers named -/
def InvR (w : World) (k : Int) (us gs cs : List Ru) (e : Ending) (w' : World) : Prop := ∃ v L x1 L1 x2 L2, e = .returned (.tuple #[v, .agg #[x1, x2], .int .i64 k]) ∧ L.map (·.u) = us ∧ L1.map (·.u) = gs ∧ L2.map (·.u) = cs ∧ InS w v L w' ∧ InS w x1 L1 w' ∧ InS w x2 L2 w'
/-- Back and Forth with their answers named -/
def SwR (w : World) (k : Int) (us : List Ru) (e : Ending) (w' : World) : Prop := ∃ v L, e = .returned (.tuple #[v, .int .i64 k]) ∧ L.map (·.u) = us ∧ InS w v L w'
theorem SwpRet.at_ {w w' : World} {us gs cs : List Ru} {e : Ending} {k : Int} {ks : List Ru} (hk : swapE us gs cs = k) (hv : swapV us gs cs = ks) (h : SwpRet w us gs cs e w') : SwR w k ks e w' := by
  subst hk hv
  exact h
end Go.Proofs.YtomnpfbebimpkaaGreatDoor
