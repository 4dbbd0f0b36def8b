/-
  The walk of the law's own look: a program that does nothing does not answer.
-/
import Derived.Test.YtomnpfbebimpkaaGreatDoorLapTk
namespace Go.Proofs.YtomnpfbebimpkaaGreatDoor
set_option maxRecDepth 20000
open Go.RowKit

/-- a rule with two numbers alone -/
def ihU (a b : Int) : Ru := ⟨fun _ => 0, 0, [], a, b, 0, 0, 0, 0⟩
def ihM (a b : Int) : Rm := ⟨ihU a b, none, 0, 0⟩
theorem builtI : Tryz.prog.built 88 [(3, .int .i64 5)] = some (rca (ihM 5 0)) := by kernel_rfl
theorem builtH : Tryz.prog.built 88 [(4, .int .i64 9)] = some (rca (ihM 0 9)) := by kernel_rfl
theorem buildF {ops : Array Oper} {rest : List Oper} {o : Oper} {a : Act} {w : World} {Q : Exit → Act → World → Prop} (hg : o.guard = none) (k : Nat) (x : Operand) (ho : o.op = .build 88 #[(k, x)]) (v : Value) (hx : a.eval x = v)
    (r : Rm) (hb : Tryz.prog.built 88 [(k, v)] = some (rca r))
    (h : wpList Tryz.prog ops Q rest (a.put o.dst (.agg (rca r))) w) : wpList Tryz.prog ops Q (o :: rest) a w := by
  have e : ((#[(k, x)] : Array (Nat × Operand)).map fun (p : Nat × Operand) => (p.1, a.eval p.2)).toList = [(k, v)] := by simp [hx]
  have e' := congrArg (Tryz.prog.built 88) e
  rw [hb] at e'
  refine wpList_build hg 88 _ ho (by rw [e']; rfl) ?_
  rw [e']
  exact h
def ihL : List Rm := [ihM 5 0, ihM 0 9]
def ihA : Array Value := (KR.flat ihL).toArray
theorem fillIh : Instr.fill (fun i' => some (i' * 32, 32)) ((Array.range (2 * 32)).map ((#[Value.int IntKind.u64 0, Value.int IntKind.u64 0, Value.int IntKind.u64 0, Value.int IntKind.u64 0, Value.int IntKind.u64 0, Value.int IntKind.u64 0, Value.int IntKind.u64 0, Value.int IntKind.u64 0, Value.int IntKind.u64 0, Value.int IntKind.u64 0, Value.int IntKind.u64 0, Value.int IntKind.u64 0, Value.int IntKind.u64 0, Value.int IntKind.u64 0, Value.int IntKind.u64 0, Value.int IntKind.u64 0, Value.int IntKind.u64 0, Value.int IntKind.u64 0, Value.int IntKind.u64 0, Value.int IntKind.u64 0, Value.int IntKind.u64 0, Value.int IntKind.u64 0, Value.int IntKind.u64 0, Value.int IntKind.u64 0, Value.int IntKind.i64 0, Value.slice none 0 0, Value.int IntKind.i64 0, Value.int IntKind.i64 0, Value.int IntKind.i64 0, Value.int IntKind.i64 0, Value.int IntKind.i64 0, Value.int IntKind.i64 0] : Array Value)[· % (#[Value.int IntKind.u64 0, Value.int IntKind.u64 0, Value.int IntKind.u64 0, Value.int IntKind.u64 0, Value.int IntKind.u64 0, Value.int IntKind.u64 0, Value.int IntKind.u64 0, Value.int IntKind.u64 0, Value.int IntKind.u64 0, Value.int IntKind.u64 0, Value.int IntKind.u64 0, Value.int IntKind.u64 0, Value.int IntKind.u64 0, Value.int IntKind.u64 0, Value.int IntKind.u64 0, Value.int IntKind.u64 0, Value.int IntKind.u64 0, Value.int IntKind.u64 0, Value.int IntKind.u64 0, Value.int IntKind.u64 0, Value.int IntKind.u64 0, Value.int IntKind.u64 0, Value.int IntKind.u64 0, Value.int IntKind.u64 0, Value.int IntKind.i64 0, Value.slice none 0 0, Value.int IntKind.i64 0, Value.int IntKind.i64 0, Value.int IntKind.i64 0, Value.int IntKind.i64 0, Value.int IntKind.i64 0, Value.int IntKind.i64 0] : Array Value).size]!)) [(0, .agg (rca (ihM 5 0))), (1, .agg (rca (ihM 0 9)))] = some ihA := by kernel_rfl
theorem zi64 : I64 0 := ⟨by decide, by decide⟩
theorem wfIh (a b : Int) (ha : I64 a) (hb : I64 b) : WfR (ihU a b) := ⟨fun j => (⟨by decide, by decide⟩ : (0 : Int) ≤ 0 ∧ (0 : Int) < 18446744073709551616), fun a ha => (by cases ha), (by decide : 0 * 32 ≤ 140737488355328), zi64, ha, hb, zi64, zi64, zi64, zi64⟩
theorem ih_lies {W : World} {b : Nat} (h : Blk b ihA 88 W) : RLies (.slice (some ⟨b, 0, none⟩) 2 2) ihL W :=
  ⟨Blk.klies (l := ihL) h okR rfl, fun r hr => by
    simp only [ihL, List.mem_cons, List.not_mem_nil, or_false] at hr
    rcases hr with rfl | rfl <;> exact .inl ⟨rfl, rfl⟩⟩
theorem ihL_wf : WfRL ihL := fun r hr => by
  simp only [ihL, List.mem_cons, List.not_mem_nil, or_false] at hr
  rcases hr with rfl | rfl <;> exact wfIh _ _ ⟨by decide, by decide⟩ ⟨by decide, by decide⟩
theorem ih_left : leftL (clampN 5) (ihL.map (·.u)) = [tickU 5 (ihU 0 9)] := rfl
theorem ih_gone : goneL (clampN 5) (ihL.map (·.u)) = [tickU 5 (ihU 5 0)] := rfl
theorem lone_of {L : List Rm} {a : Ru} (h : L.map (·.u) = [a]) : ∃ y, L = [y] ∧ y.u = a := by
  match L, h with
  | [y], h =>
    simp only [List.map_cons, List.map_nil, List.cons.injEq, and_true] at h
    exact ⟨y, rfl, h⟩
theorem own_one {base : Nat} {v : Value} {y : Rm} {W : World} (h : KOwns KR base v [y] W) : ∃ g c, v = .slice (some ⟨g, 0, none⟩) 1 c ∧ CellsR W g 0 y := by
  rcases h.kat okR with ⟨_, e⟩ | ⟨g, c, rfl, _, hA⟩
  · cases e
  · refine ⟨g, c, rfl, ?_⟩
    have := hA.range (i := 0) rfl
    rw [Nat.zero_mul] at this
    exact cellsR_mid this
end Go.Proofs.YtomnpfbebimpkaaGreatDoor
