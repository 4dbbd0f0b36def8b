/-
  Actions and what is sent, as values; the walks of the program's unsound and Sound of package act.
-/
import Derived.Test.YtpcacgfhjheiiaaDoorRowGen
import Derived.Laws.StructEq
namespace Go.Proofs.YtpcacgfhjheiiaaDoor
open Go.RowKit

/-- an action: its kind, port, field, value -/
structure Ac where
  k : Int
  p : Int
  f : Int
  v : Int
/-- what is sent: a port, a header -/
structure Sn where
  p : Int
  h : Nat → Int
def acl (a : Ac) : List Value := [.int .i64 a.k, .int .i64 a.p, .int .i64 a.f, .int .u64 a.v]
def aca (a : Ac) : Array Value := #[.int .i64 a.k, .int .i64 a.p, .int .i64 a.f, .int .u64 a.v]
def snl (s : Sn) : List Value := .int .i64 s.p :: hl s.h
def sna (s : Sn) : Array Value := #[.int .i64 s.p, .int .u64 (s.h 0), .int .u64 (s.h 1), .int .u64 (s.h 2), .int .u64 (s.h 3), .int .u64 (s.h 4), .int .u64 (s.h 5), .int .u64 (s.h 6), .int .u64 (s.h 7), .int .u64 (s.h 8), .int .u64 (s.h 9), .int .u64 (s.h 10), .int .u64 (s.h 11)]
abbrev KA : Kd Ac := ⟨38, 22, 4, 32, acl⟩
abbrev KS : Kd Sn := ⟨32, 27, 13, 104, snl⟩
theorem infoOf {T : TypeId} {n b : Nat} (h1 : (Tryd.prog.info? T).map (·.size) = some n) (h2 : (Tryd.prog.info? T).map (·.bytes) = some b) (h3 : ((Tryd.prog.info? T).bind (·.zero)).map (·.cells.size) = some n) :
    ∃ i z, Tryd.prog.info? T = some i ∧ i.zero = some z ∧ i.size = n ∧ i.bytes = b ∧ z.cells.size = n := by
  cases hi : Tryd.prog.info? T with
  | none => rw [hi] at h1; cases h1
  | some i =>
    rw [hi] at h1 h2 h3
    simp only [Option.map_some, Option.some.injEq, Option.bind_some, Option.map_eq_some_iff] at h1 h2 h3
    obtain ⟨z, hz, hc⟩ := h3
    exact ⟨i, z, rfl, hz, h1, h2, hc⟩
theorem okA : KA.Ok where
  pos := by decide
  len := fun _ => rfl
  one := fun a u hu => by
    simp only [acl, List.mem_cons, List.not_mem_nil, or_false] at hu
    rcases hu with rfl | rfl | rfl | rfl <;> rfl
  under := Tryd.underlying22
  info := infoOf (by kernel_rfl) (by kernel_rfl) (by kernel_rfl)
  small := by decide
  room1 := by decide
theorem okS : KS.Ok where
  pos := by decide
  len := fun _ => rfl
  one := fun a u hu => by
    simp only [snl, hl, List.mem_cons, List.not_mem_nil, or_false] at hu
    rcases hu with rfl | rfl | rfl | rfl | rfl | rfl | rfl | rfl | rfl | rfl | rfl | rfl | rfl <;> rfl
  under := Tryd.underlying27
  info := infoOf (by kernel_rfl) (by kernel_rfl) (by kernel_rfl)
  small := by decide
  room1 := by decide
/-- an action's value is a number of 64 bits -/
def WfA (a : Ac) : Prop := 0 ≤ a.v ∧ a.v < 18446744073709551616
def WfAL (l : List Ac) : Prop := ∀ a ∈ l, WfA a
theorem WfAL.at {l : List Ac} (h : WfAL l) {i : Nat} {a : Ac} (hi : l[i]? = some a) : WfA a := h _ (List.mem_of_getElem? hi)
/-- is an action sound? -/
def sndA (a : Ac) : Bool :=
  if a.k = 1 then decide (1 ≤ a.p) && decide (a.p ≤ 16) && (a.f == 0) && (a.v == 0)
  else if a.k = 2 then (setE a.f a.v == 0) && (a.p == 0)
  else if a.k = 3 then (a.p == 0) && (a.f == 0) && (a.v == 0)
  else false
/-- is a list of actions sound? -/
def sndAL (l : List Ac) : Bool := decide (l.length ≤ 8) && l.all sndA
/-- are two actions the same? -/
def aEq (a b : Ac) : Bool := a.k == b.k && a.p == b.p && a.f == b.f && a.v == b.v
theorem actFields : ∃ f g h i : Field, (Tryd.prog.fieldsOf 38).toList = [f, g, h, i] ∧ f.name ≠ "_" ∧ f.type = 3 ∧ f.offset = 0 ∧ g.name ≠ "_" ∧ g.type = 3 ∧ g.offset = 1 ∧ h.name ≠ "_" ∧ h.type = 3 ∧ h.offset = 2 ∧ i.name ≠ "_" ∧ i.type = 23 ∧ i.offset = 3 :=
  ⟨_, _, _, _, rfl, by decide, rfl, rfl, by decide, rfl, rfl, by decide, rfl, rfl, by decide, rfl, rfl⟩
theorem partA0 (a : Ac) (w : World) : (part 3 (aca a) 0).run Tryd.prog w = .ok (.int .i64 a.k) w := by kernel_rfl
theorem partA1 (a : Ac) (w : World) : (part 3 (aca a) 1).run Tryd.prog w = .ok (.int .i64 a.p) w := by kernel_rfl
theorem partA2 (a : Ac) (w : World) : (part 3 (aca a) 2).run Tryd.prog w = .ok (.int .i64 a.f) w := by kernel_rfl
theorem partA3 (a : Ac) (w : World) : (part 23 (aca a) 3).run Tryd.prog w = .ok (.int .u64 a.v) w := by kernel_rfl
theorem eql_act (a b : Ac) (w : World) : (Op.equalIn 10000 38 (.agg (aca a)) (.agg (aca b))).run Tryd.prog w = .ok (aEq a b) w := by
  obtain ⟨f, g, h, i, hf, f1, f2, f3, g1, g2, g3, h1, h2, h3, i1, i2, i3⟩ := actFields
  rw [run_equalIn_struct w 9999 38 (aca a) (aca b) (by kernel_rfl) (by kernel_rfl), hf]
  have hI : ∀ x y : Int, (Op.equalIn 9999 3 (.int .i64 x) (.int .i64 y)).run Tryd.prog w = .ok (x == y) w := fun x y => run_equalIn_int w 9998 3 .i64 .i64 x y Tryd.underlying3
  have hU : ∀ x y : Int, (Op.equalIn 9999 23 (.int .u64 x) (.int .u64 y)).run Tryd.prog w = .ok (x == y) w := fun x y => run_equalIn_int w 9998 23 .u64 .u64 x y Tryd.underlying23
  unfold aEq
  simp only [Op.eqFields, f1, f2, f3, g1, g2, g3, h1, h2, h3, i1, i2, i3, ne_eq, not_false_eq_true, if_true, Sem.run_bind, partA0, Result.andThen_ok, hI]
  cases e1 : a.k == b.k
  · simp
  · simp only [Bool.not_true, Bool.false_eq_true, if_false, Sem.run_bind, partA1, Result.andThen_ok, hI]
    cases e2 : a.p == b.p
    · simp
    · simp only [Bool.not_true, Bool.false_eq_true, if_false, Sem.run_bind, partA2, Result.andThen_ok, hI]
      cases e3 : a.f == b.f
      · simp
      · simp only [Bool.not_true, Bool.false_eq_true, if_false, Sem.run_bind, partA3, Result.andThen_ok, hU]
        cases e4 : a.v == b.v <;> simp
theorem guardAct : Tryd.prog.eqGuardType Tryd.prog.depth 38 = false := by kernel_rfl
theorem aEq_iff (a b : Ac) : aEq a b = true ↔ a = b := by
  cases a; cases b
  simp [aEq, and_assoc]
theorem aca_one (a : Ac) : (aca a).all (·.oneCell') = true := by simp [aca, Value.oneCell']
end Go.Proofs.YtpcacgfhjheiiaaDoor
