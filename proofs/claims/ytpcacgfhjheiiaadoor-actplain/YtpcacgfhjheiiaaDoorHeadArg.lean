/-
  A header that comes in by value, opened and shut.
-/
import Derived.Test.YtpcacgfhjheiiaaDoorHeadLift
import Derived.Test.YtpcacgfhjheiiaaDoorHeadVal
namespace Go.Proofs.YtpcacgfhjheiiaaDoor
open Go.ChangeShapes Go.WideShapes Go.ChangeAt Go.RowKit
theorem cU64' : Tryd.prog.cellsOf 23 = 1 := by kernel_rfl
theorem cHead : Tryd.prog.cellsOf 25 = 12 := by kernel_rfl
section
variable {H : Type} {enc : TypeId × Value → H} {W : World} {base : Nat} {sp : Nat → Bool} {held : Bool}
/-- a header as data -/
def hd (a : Nat → Int) : DataW H := .agg [.lit (.int .u64 (a 0)), .lit (.int .u64 (a 1)), .lit (.int .u64 (a 2)), .lit (.int .u64 (a 3)), .lit (.int .u64 (a 4)), .lit (.int .u64 (a 5)), .lit (.int .u64 (a 6)), .lit (.int .u64 (a 7)), .lit (.int .u64 (a 8)), .lit (.int .u64 (a 9)), .lit (.int .u64 (a 10)), .lit (.int .u64 (a 11))]
/-- the number in a cell -/
def numAt (l : List Value) (j : Nat) : Int := match l[j]? with
  | some (.int _ n) => n
  | _ => 0
theorem trod_head {fuel : Nat} {cs : List Value} {x : DataW H × List MemPlace} (h : DataW.trod enc Tryd.prog W base sp held fuel 25 cs = some x) :
    ∃ a : Nat → Int, cs = (hc a).toList ∧ x = (hd a, []) ∧ ∀ j, (Lit.int .u64 (a j)).wf = true := by
  obtain ⟨xs, m, _, rfl, hl, hx, hel⟩ := DataW.trod_array Tryd.underlying25 h
  rw [cHead] at hl
  have key : ∀ j, j < 12 → cs[j]? = some (.int .u64 (numAt cs j)) ∧ xs[j]? = some (.lit (.int .u64 (numAt cs j)), []) ∧ (Lit.int .u64 (numAt cs j)).wf = true := by
    intro j hj
    have := hel j hj
    rw [cU64', Nat.mul_one] at this
    cases hxj : xs[j]? with
    | none => rw [List.getElem?_eq_none_iff] at hxj; omega
    | some y =>
      rw [hxj] at this
      obtain ⟨n, e1, e2, e3⟩ := DataW.trod_int Tryd.underlying23 this
      have h0 : ((cs.drop j).take 1)[0]? = some (.int .u64 n) := by rw [e1]; rfl
      rw [List.getElem?_take, if_pos (by decide), List.getElem?_drop] at h0
      have h1 : cs[j]? = some (.int .u64 n) := by simpa using h0
      have h2 : numAt cs j = n := by unfold numAt; rw [h1]
      rw [h2]
      exact ⟨h1, by rw [e2], e3⟩
  refine ⟨numAt cs, ?_, ?_, ?_⟩
  · apply List.ext_getElem?
    intro j
    by_cases hj : j < 12
    · have e := hc_at (numAt cs) j hj
      rw [← Array.getElem?_toList] at e
      rw [e, (key j hj).1]
    · rw [List.getElem?_eq_none (by omega), List.getElem?_eq_none (by show 12 ≤ j; omega)]
  · obtain rfl : xs = (List.range 12).map fun j => (.lit (.int .u64 (numAt cs j)), []) := by
      apply List.ext_getElem?
      intro j
      by_cases hj : j < 12
      · rw [(key j hj).2.1]; simp [hj]
      · rw [List.getElem?_eq_none (by omega), List.getElem?_eq_none (by simp; omega)]
    simp [hd, List.range, List.range.loop]
  · intro j
    by_cases hj : j < 12
    · exact (key j hj).2.2
    · have : numAt cs j = 0 := by unfold numAt; rw [List.getElem?_eq_none (by omega)]
      rw [this]; rfl
theorem open_head {v : Value} {d : DataW H} {p : List MemPlace} {b : Nat} (hv : Value.okWide Tryd.prog W .any b 25 v) (h : DataW.Trod enc Tryd.prog W base sp held 25 v d p) :
    ∃ a : Nat → Int, v = .agg (hc a) ∧ d = hd a ∧ p = [] ∧ ∀ j, (Lit.int .u64 (a j)).wf = true := by
  simp only [Value.okWide, Tryd.underlying25] at hv
  obtain ⟨cs, rfl, _, _⟩ := hv
  obtain ⟨fuel, hf⟩ := h
  obtain ⟨a, h1, h2, h3⟩ := trod_head hf
  simp only [Prod.mk.injEq] at h2
  refine ⟨a, ?_, h2.1, h2.2, h3⟩
  have : cs = hc a := by simpa [Value.cells] using congrArg List.toArray h1
  rw [this]
theorem shut_head {a : Nat → Int} (h : ∀ j, (Lit.int .u64 (a j)).wf = true) : DataW.Trod enc Tryd.prog W base sp held 25 (.agg (hc a)) (hd a) [] := by
  refine ⟨2, ?_⟩
  simp [DataW.trod, Tryd.underlying25, Tryd.underlying23, cHead, cU64', hc, hd, Value.cells, h, List.range, List.range.loop]
theorem nonneg_of_wf {a : Nat → Int} (h : ∀ j, (Lit.int .u64 (a j)).wf = true) : ∀ j, 0 ≤ a j := fun j => by
  have := h j
  simp only [Lit.wf, Bool.and_eq_true, decide_eq_true_eq] at this
  exact this.1
end
end Go.Proofs.YtpcacgfhjheiiaaDoor
