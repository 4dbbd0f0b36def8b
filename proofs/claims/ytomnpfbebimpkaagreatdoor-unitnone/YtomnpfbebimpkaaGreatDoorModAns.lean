/-
  The walk of the law's own look: a program that does nothing does not answer.
-/
import Derived.Test.YtomnpfbebimpkaaGreatDoorPackModB
namespace Go.Proofs.YtomnpfbebimpkaaGreatDoor
set_option maxRecDepth 20000
open Go.RowKit

def a1U : Mu := ⟨1, fun _ => 0, 7, [], 0, 0, 1, false⟩
def a1 : Mm := ⟨a1U, none, 0, 0⟩
def a3U : Mu := ⟨3, fun _ => 0, 0, [], 0, 0, 1, false⟩
def a3 : Mm := ⟨a3U, none, 0, 0⟩
theorem sndA1 : sndM a1U = true := by decide
theorem sndA3 : sndM a3U = true := by decide
theorem tab0 : tabU [] = true := rfl
theorem appE1 : applyE [] a1U 1 = 0 := by unfold applyE; rw [tab0, sndA1]; rfl
theorem appL1 : applyL [] a1U = [newU a1U] := by unfold applyL; rw [if_pos (show a1U.kind = 1 from rfl), add_ins tab0 sndA1]; rfl
theorem appV1 : applyV [] a1U 1 = [newU a1U] := by unfold applyV; rw [if_pos appE1, appL1]
theorem tab1 : tabU [newU a1U] = true := by have := apply_tab appE1; rwa [appL1] at this
theorem appE3 : applyE [newU a1U] a3U 0 = 0 := applyE_other tab1 sndA3 (by decide)
theorem tch31 : tchB a3U (newU a1U) = true := by decide
theorem appV3 : applyV [newU a1U] a3U 0 = [] := by
  unfold applyV
  rw [if_pos appE3]
  unfold applyL
  rw [if_neg (by decide), if_neg (by decide)]
  simp [tch31]
theorem i64c (n : Int) (h : -1000 ≤ n ∧ n ≤ 1000) : I64 n := ⟨by omega, by omega⟩
theorem wfA1 : WfM a1U := ⟨fun j => (⟨by decide, by decide⟩ : (0 : Int) ≤ 0 ∧ (0 : Int) < 18446744073709551616), fun a ha => (by cases ha), (by decide : 0 * 32 ≤ 140737488355328), i64c 1 (by decide), i64c 7 (by decide), i640, i640, i64c 1 (by decide)⟩
theorem wfA3 : WfM a3U := ⟨fun j => (⟨by decide, by decide⟩ : (0 : Int) ≤ 0 ∧ (0 : Int) < 18446744073709551616), fun a ha => (by cases ha), (by decide : 0 * 32 ≤ 140737488355328), i64c 3 (by decide), i640, i640, i640, i64c 1 (by decide)⟩
theorem builtA1 : Tryz.prog.built 40 [(0, .int .i64 1), (2, .int .i64 7), (6, .int .i64 1)] = some (mca a1) := by kernel_rfl
theorem builtA3 : Tryz.prog.built 40 [(0, .int .i64 3), (6, .int .i64 1)] = some (mca a3) := by kernel_rfl
theorem buildA1 {ops : Array Oper} {rest : List Oper} {o : Oper} {a : Act} {w : World} {Q : Exit → Act → World → Prop} (hg : o.guard = none) (x y z : Operand) (ho : o.op = .build 40 #[(0, x), (2, y), (6, z)])
    (hx : a.eval x = .int .i64 1) (hy : a.eval y = .int .i64 7) (hz : a.eval z = .int .i64 1)
    (k : wpList Tryz.prog ops Q rest (a.put o.dst (.agg (mca a1))) w) : wpList Tryz.prog ops Q (o :: rest) a w := by
  have e : ((#[(0, x), (2, y), (6, z)] : Array (Nat × Operand)).map fun (p : Nat × Operand) => (p.1, a.eval p.2)).toList = [(0, .int .i64 1), (2, .int .i64 7), (6, .int .i64 1)] := by simp [hx, hy, hz]
  have e' := congrArg (Tryz.prog.built 40) e
  rw [builtA1] at e'
  refine wpList_build hg 40 _ ho (by rw [e']; rfl) ?_
  rw [e']
  exact k
theorem buildA3 {ops : Array Oper} {rest : List Oper} {o : Oper} {a : Act} {w : World} {Q : Exit → Act → World → Prop} (hg : o.guard = none) (x z : Operand) (ho : o.op = .build 40 #[(0, x), (6, z)])
    (hx : a.eval x = .int .i64 3) (hz : a.eval z = .int .i64 1)
    (k : wpList Tryz.prog ops Q rest (a.put o.dst (.agg (mca a3))) w) : wpList Tryz.prog ops Q (o :: rest) a w := by
  have e : ((#[(0, x), (6, z)] : Array (Nat × Operand)).map fun (p : Nat × Operand) => (p.1, a.eval p.2)).toList = [(0, .int .i64 3), (6, .int .i64 1)] := by simp [hx, hz]
  have e' := congrArg (Tryz.prog.built 40) e
  rw [builtA3] at e'
  refine wpList_build hg 40 _ ho (by rw [e']; rfl) ?_
  rw [e']
  exact k
/-- what Apply gives: an answer and a list of one's own -/
def ApR (w : World) (k : Int) (us : List Ru) (e : Ending) (w' : World) : Prop := ∃ v L, e = .returned (.tuple #[v, .int .i64 k]) ∧ L.map (·.u) = us ∧ InS w v L w'
theorem apply_at (v : Value) (l : List Rm) (hlen : l.length ≤ 50000) (hwl : WfRL l) (m : Mm) (hw : WfM m.u) (room : Int) (w : World) (hl : RLies v l w) (ha : InM m w) (ht : Tab w) (hz : 0 < w.heap.size)
    (us : List Ru) (hus : l.map (·.u) = us) (k : Int) (us' : List Ru) (hk : applyE us m.u room = k) (hv : applyV us m.u room = us') : Calls Tryz.prog 75 #[v, .agg (mca m), .int .i64 room] w (ApR w k us') := by
  subst hus hk hv
  exact apply_any v l hlen hwl m hw room w hl ha ht hz
theorem one_of {L : List Rm} {a : Ru} (h : L.map (·.u) = [a]) : ∃ y, L = [y] ∧ y.u = a := by
  match L, h with
  | [y], h =>
    simp only [List.map_cons, List.map_nil, List.cons.injEq, and_true] at h
    exact ⟨y, rfl, h⟩
theorem rlies_nil (W : World) : RLies (.slice none 0 0) [] W := ⟨.inl ⟨rfl, rfl⟩, fun r hr => (by cases hr)⟩
theorem a1_in (W : World) : InM a1 W := .inl ⟨rfl, rfl⟩
theorem a3_in (W : World) : InM a3 W := .inl ⟨rfl, rfl⟩
end Go.Proofs.YtomnpfbebimpkaaGreatDoor
