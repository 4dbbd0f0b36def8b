/-
  The walk of the law's own look: a program that does nothing does not answer.
-/
import Derived.Test.YtkeejifchhakhaaLapTk
namespace Go.Proofs.Ytkeejifchhakhaa
open Go.RowKit

/-- a rule with two numbers alone -/
def ihU (a b : Int) : Ru := ⟨fun _ => 0, 0, [], a, b, 0, 0, 0, 0⟩
def ihM (a b : Int) : Rm := ⟨ihU a b, none, 0, 0⟩
theorem builtI : Try.prog.built 37 [(3, .int .i64 5)] = some (rca (ihM 5 0)) := by kernel_rfl
theorem builtH : Try.prog.built 37 [(4, .int .i64 9)] = some (rca (ihM 0 9)) := by kernel_rfl
theorem buildF {ops : Array Oper} {rest : List Oper} {o : Oper} {a : Act} {w : World} {Q : Exit → Act → World → Prop} (hg : o.guard = none) (k : Nat) (x : Operand) (ho : o.op = .build 37 #[(k, x)]) (v : Value) (hx : a.eval x = v)
    (r : Rm) (hb : Try.prog.built 37 [(k, v)] = some (rca r))
    (h : wpList Try.prog ops Q rest (a.put o.dst (.agg (rca r))) w) : wpList Try.prog ops Q (o :: rest) a w := by
  have e : ((#[(k, x)] : Array (Nat × Operand)).map fun (p : Nat × Operand) => (p.1, a.eval p.2)).toList = [(k, v)] := by simp [hx]
  have e' := congrArg (Try.prog.built 37) e
  rw [hb] at e'
  refine wpList_build hg 37 _ ho (by rw [e']; rfl) ?_
  rw [e']
  exact h
def ihL : List Rm := [ihM 5 0, ihM 0 9]
def ihA : Array Value := (KR.flat ihL).toArray
theorem fillIh : Instr.fill (fun i' => some (i' * 32, 32)) ((Array.range (2 * 32)).map ((#[Value.int IntKind.u64 0, Value.int IntKind.u64 0, Value.int IntKind.u64 0, Value.int IntKind.u64 0, Value.int IntKind.u64 0, Value.int IntKind.u64 0, Value.int IntKind.u64 0, Value.int IntKind.u64 0, Value.int IntKind.u64 0, Value.int IntKind.u64 0, Value.int IntKind.u64 0, Value.int IntKind.u64 0, Value.int IntKind.u64 0, Value.int IntKind.u64 0, Value.int IntKind.u64 0, Value.int IntKind.u64 0, Value.int IntKind.u64 0, Value.int IntKind.u64 0, Value.int IntKind.u64 0, Value.int IntKind.u64 0, Value.int IntKind.u64 0, Value.int IntKind.u64 0, Value.int IntKind.u64 0, Value.int IntKind.u64 0, Value.int IntKind.i64 0, Value.slice none 0 0, Value.int IntKind.i64 0, Value.int IntKind.i64 0, Value.int IntKind.i64 0, Value.int IntKind.i64 0, Value.int IntKind.i64 0, Value.int IntKind.i64 0] : Array Value)[· % (#[Value.int IntKind.u64 0, Value.int IntKind.u64 0, Value.int IntKind.u64 0, Value.int IntKind.u64 0, Value.int IntKind.u64 0, Value.int IntKind.u64 0, Value.int IntKind.u64 0, Value.int IntKind.u64 0, Value.int IntKind.u64 0, Value.int IntKind.u64 0, Value.int IntKind.u64 0, Value.int IntKind.u64 0, Value.int IntKind.u64 0, Value.int IntKind.u64 0, Value.int IntKind.u64 0, Value.int IntKind.u64 0, Value.int IntKind.u64 0, Value.int IntKind.u64 0, Value.int IntKind.u64 0, Value.int IntKind.u64 0, Value.int IntKind.u64 0, Value.int IntKind.u64 0, Value.int IntKind.u64 0, Value.int IntKind.u64 0, Value.int IntKind.i64 0, Value.slice none 0 0, Value.int IntKind.i64 0, Value.int IntKind.i64 0, Value.int IntKind.i64 0, Value.int IntKind.i64 0, Value.int IntKind.i64 0, Value.int IntKind.i64 0] : Array Value).size]!)) [(0, .agg (rca (ihM 5 0))), (1, .agg (rca (ihM 0 9)))] = some ihA := by kernel_rfl
theorem zi64 : I64 0 := ⟨by decide, by decide⟩
theorem wfIh (a b : Int) (ha : I64 a) (hb : I64 b) : WfR (ihU a b) := ⟨fun j => (⟨by decide, by decide⟩ : (0 : Int) ≤ 0 ∧ (0 : Int) < 18446744073709551616), fun a ha => (by cases ha), (by decide : 0 * 32 ≤ 140737488355328), zi64, ha, hb, zi64, zi64, zi64, zi64⟩
theorem ih_lies {W : World} {b : Nat} (h : Blk b ihA 37 W) : RLies (.slice (some ⟨b, 0, none⟩) 2 2) ihL W :=
  ⟨Blk.klies (l := ihL) h okR rfl, fun r hr => by
    simp only [ihL, List.mem_cons, List.not_mem_nil, or_false] at hr
    rcases hr with rfl | rfl <;> exact .inl ⟨rfl, rfl⟩⟩
theorem ihL_wf : WfRL ihL := fun r hr => by
  simp only [ihL, List.mem_cons, List.not_mem_nil, or_false] at hr
  rcases hr with rfl | rfl <;> exact wfIh _ _ ⟨by decide, by decide⟩ ⟨by decide, by decide⟩
theorem ih_left : leftL (clampN 5) (ihL.map (·.u)) = [tickU 5 (ihU 0 9)] := rfl
theorem ih_gone : goneL (clampN 5) (ihL.map (·.u)) = [tickU 5 (ihU 5 0)] := rfl
theorem one_of {L : List Rm} {a : Ru} (h : L.map (·.u) = [a]) : ∃ y, L = [y] ∧ y.u = a := by
  match L, h with
  | [y], h =>
    simp only [List.map_cons, List.map_nil, List.cons.injEq, and_true] at h
    exact ⟨y, rfl, h⟩
theorem own_one {base : Nat} {v : Value} {y : Rm} {W : World} (h : KOwns KR base v [y] W) : ∃ g c, v = .slice (some ⟨g, 0, none⟩) 1 c ∧ CellsR W g 0 y := by
  rcases h.kat okR with ⟨_, e⟩ | ⟨g, c, rfl, _, hA⟩
  · cases e
  · refine ⟨g, c, rfl, ?_⟩
    have := hA.range (i := 0) rfl
    rw [Nat.zero_mul] at this
    exact cellsR_mid this
set_option maxRecDepth 100000 in
set_option maxHeartbeats 1000000 in
theorem lanswers (w : World) : Calls Try.prog 8 #[] w fun e w' => e = .returned (.bool true) ∧ Below w.heap.size w w' := by
  have HR := Lib.hid (tick_any (.slice (some ⟨w.heap.size, 0, none⟩) 2 2) ihL (by decide) ihL_wf 5 _ (ih_lies (Blk.new w ihA KR.T)))
  go_enter Try.func8, Try.ntmps8
  go_wp2_with (first
    | (refine buildF rfl 3 _ rfl (.int .i64 5) rfl (ihM 5 0) builtI ?_)
    | (refine buildF rfl 4 _ rfl (.int .i64 9) rfl (ihM 0 9) builtH ?_)
    | (refine kbuild KR okR 2 #[Value.int IntKind.u64 0, Value.int IntKind.u64 0, Value.int IntKind.u64 0, Value.int IntKind.u64 0, Value.int IntKind.u64 0, Value.int IntKind.u64 0, Value.int IntKind.u64 0, Value.int IntKind.u64 0, Value.int IntKind.u64 0, Value.int IntKind.u64 0, Value.int IntKind.u64 0, Value.int IntKind.u64 0, Value.int IntKind.u64 0, Value.int IntKind.u64 0, Value.int IntKind.u64 0, Value.int IntKind.u64 0, Value.int IntKind.u64 0, Value.int IntKind.u64 0, Value.int IntKind.u64 0, Value.int IntKind.u64 0, Value.int IntKind.u64 0, Value.int IntKind.u64 0, Value.int IntKind.u64 0, Value.int IntKind.u64 0, Value.int IntKind.i64 0, Value.slice none 0 0, Value.int IntKind.i64 0, Value.int IntKind.i64 0, Value.int IntKind.i64 0, Value.int IntKind.i64 0, Value.int IntKind.i64 0, Value.int IntKind.i64 0] zeroR rfl _ rfl [(0, .agg (rca (ihM 5 0))), (1, .agg (rca (ihM 0 9)))] rfl ihA (by decide) (by decide) fillIh ?_)
    | (go_at_call 9; refine HR.out.mono ?_; rintro e w1 ⟨va, vb, A, B, rfl, ha, hb, hs⟩; refine Hid.out ?_))
  rw [ih_left] at ha
  rw [ih_gone] at hb
  obtain ⟨y, rfl, hy⟩ := one_of ha
  obtain ⟨z, rfl, hz⟩ := one_of hb
  obtain ⟨g, c, rfl, cy⟩ := own_one hs.a
  obtain ⟨g', c', rfl, cz⟩ := own_one hs.b
  have k31 : w1.cell? ⟨g, 31, none⟩ = some (.int .i64 5) := by have := cy.age; rw [hy] at this; exact this
  have k26 : w1.cell? ⟨g', 26, none⟩ = some (.int .i64 5) := by have := cz.idle; rw [hz] at this; exact this
  have HB := Lib.hid ((below1 w (.cells ihA KR.T)).trans (hs.kept.mono (below1 w (.cells ihA KR.T)).size))
  clear ha hb hs cy cz hy hz HR
  refine Lib.hid ?_
  go_wp2_with fail
  go_ret
  exact ⟨rfl, HB.out⟩
end Go.Proofs.Ytkeejifchhakhaa
