/-
  Cubes by value: their cells, and the walk of the program's Sound.
-/
import Derived.Test.YtpcacgfhjheiiaaDoorHeadSet
import Derived.Deep.MidRow
import Derived.Outline
namespace Go.Proofs.YtpcacgfhjheiiaaDoor
open Go.RowKit

/-- a cube's cells: the twelve of Value, then the twelve of Care -/
def cl (a : Nat → Int) : List Value := (List.range 24).map fun j => .int .u64 (a j)
def cc (a : Nat → Int) : Array Value := (cl a).toArray
/-- the numbers of Care -/
def care (a : Nat → Int) : Nat → Int := fun j => a (12 + j)
theorem cc_at (a : Nat → Int) (j : Nat) (h : j < 24) : (cc a)[j]? = some (.int .u64 (a j)) := by
  simp [cc, cl, h]
theorem cc_size (a : Nat → Int) : (cc a).size = 24 := by simp [cc, cl]
theorem cc_one (a : Nat → Int) : (cc a).all (·.oneCell') = true := by
  simp [cc, cl, Value.oneCell']
theorem cellC {w : World} {g j : Nat} {a : Nat → Int} {t : TypeId} {fr : Nat × Nat} (hg : w.heap[g]? = some (.cells (cc a) t fr)) (hj : j < 24) : w.cell? ⟨g, j, none⟩ = some (.int .u64 (a j)) := by
  rw [cell_of_row w g j _ t fr hg, cc_at a j hj]
theorem hl_at (a : Nat → Int) {j : Nat} {v : Value} (h : (hl a)[j]? = some v) : j < 12 ∧ v = .int .u64 (a j) := by
  have hj : j < 12 := by
    have := (List.getElem?_eq_some_iff.1 h).1
    simpa [hl] using this
  have e := hc_at a j hj
  have e' : (hl a)[j]? = some (.int .u64 (a j)) := by
    rw [← e, ← Array.getElem?_toList]; rfl
  rw [h] at e'
  exact ⟨hj, Option.some.inj e'⟩
theorem valR {w : World} {g : Nat} {a : Nat → Int} {t : TypeId} {fr : Nat × Nat} (hg : w.heap[g]? = some (.cells (cc a) t fr)) : w.rangeAt g 0 (hl a) := fun j v hv => by
  obtain ⟨hj, rfl⟩ := hl_at a hv
  rw [Nat.zero_add]
  exact cellC hg (by omega)
theorem careR {w : World} {g : Nat} {a : Nat → Int} {t : TypeId} {fr : Nat × Nat} (hg : w.heap[g]? = some (.cells (cc a) t fr)) : w.rangeAt g 12 (hl (care a)) := fun j v hv => by
  obtain ⟨hj, rfl⟩ := hl_at (care a) hv
  exact cellC hg (by omega)
theorem idxHl (a : Nat → Int) (j : Nat) (hj : j < 12) (w : World) : (Instr.index 25 (.agg (hl a).toArray) (.int .i64 j)).run Tryd.prog w = .ok (.int .u64 (a j)) w := idxHead a j hj w
/-- A load in the middle of a row behind a guard that says yes. -/
theorem loadMidG {P : Program} {ops : Array Oper} {rest : List Oper} {op : Oper} {a : Act} {w : World} {Q : Exit → Act → World → Prop} (hw : Region.wanted op (yielded ops a.tmps) = true) (ty : TypeId) (x : Operand) (ho : op.op = .load ty x)
    (b o : Nat) (hx : a.eval x = .pointer (some ⟨b, o, none⟩)) (cs : List Value) (d : TypeDesc) (hc : w.rangeAt b o cs)
    (hu : P.underlying ty = some d) (hd : d.isRow = true) (hi : (P.info? ty).map (·.size) = some cs.length)
    (h : wpList P ops Q rest (a.put op.dst (.agg cs.toArray)) w) : wpList P ops Q (op :: rest) a w :=
  wpList_step fun K hK => by rw [if_pos hw]; exact wp_load_mid ty x ho b o hx cs d hc hu hd hi (hK _ _ h)
/-- has Value a bit that Care has not? -/
def overB (a : Nat → Int) (j : Nat) : Bool := bits .andNot .u64 (a j) (a (12 + j)) != 0
/-- is a cube sound? -/
def csnd (a : Nat → Int) : Bool := sndB (care a) && sndB a && (List.range 12).all fun j => !overB a j
theorem csnd_care {a : Nat → Int} (h : sndB (care a) = false) : csnd a = false := by simp [csnd, h]
theorem csnd_val {a : Nat → Int} (h : sndB a = false) : csnd a = false := by simp [csnd, h]
theorem csnd_over {a : Nat → Int} {j : Nat} (hj : j < 12) (h : overB a j = true) : csnd a = false := by
  have : ((List.range 12).all fun j => !overB a j) = false := by
    rw [List.all_eq_false]
    exact ⟨j, by simpa using hj, by simp [h]⟩
  simp [csnd, this]
theorem csnd_yes {a : Nat → Int} (h1 : sndB (care a) = true) (h2 : sndB a = true) (h : ∀ j, j < 12 → overB a j = false) : csnd a = true := by
  have : ((List.range 12).all fun j => !overB a j) = true := by
    rw [List.all_eq_true]
    intro j hj
    simp [h j (by simpa using hj)]
  simp [csnd, this, h1, h2]

end Go.Proofs.YtpcacgfhjheiiaaDoor
