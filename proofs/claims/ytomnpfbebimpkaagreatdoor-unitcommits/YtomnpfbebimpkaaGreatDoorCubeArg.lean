/-
  A cube that comes in by value, opened and shut.
-/
import Derived.Test.YtomnpfbebimpkaaGreatDoorPackLift
import Derived.Test.YtomnpfbebimpkaaGreatDoorPackCube
namespace Go.Proofs.YtomnpfbebimpkaaGreatDoor
set_option maxRecDepth 20000
open Go.ChangeShapes Go.WideShapes Go.ChangeAt Go.RowKit
theorem cCube : Tryz.prog.cellsOf 37 = 24 := by kernel_rfl
section
variable {H : Type} {enc : TypeId × Value → H} {W : World} {base : Nat} {sp : Nat → Bool} {held : Bool}
/-- a cube as data -/
def cd (a : Nat → Int) : DataW H := .agg [hd a, hd (care a)]
theorem hl_hc (a : Nat → Int) : (hc a).toList = hl a := rfl
theorem cl_split (a : Nat → Int) : cl a = hl a ++ hl (care a) := rfl
theorem trod_cube {fuel : Nat} {cs : List Value} {x : DataW H × List MemPlace} (h : DataW.trod enc Tryz.prog W base sp held fuel 37 cs = some x) :
    ∃ a : Nat → Int, cs = cl a ∧ x = (cd a, []) ∧ ∀ j, (Lit.int .u64 (a j)).wf = true := by
  obtain ⟨y0, y1, n, rfl, hl0, h0, h1⟩ := trod_struct2 Tryz.underlying37 h
  have hlen : cs.length = 24 := by rw [hl0, cCube]
  rw [cHead] at h0 h1
  obtain ⟨a, ea, rfl, wa⟩ := trod_head h0
  obtain ⟨b, eb, rfl, wb⟩ := trod_head h1
  rw [hl_hc] at ea eb
  have e : hl (fun j => if j < 12 then a j else b (j - 12)) = hl a := rfl
  have e' : hl (care fun j => if j < 12 then a j else b (j - 12)) = hl b := rfl
  refine ⟨fun j => if j < 12 then a j else b (j - 12), ?_, rfl, fun j => ?_⟩
  · rw [cl_split, e, e', ← ea, ← eb]
    show cs = (cs.drop 0).take 12 ++ (cs.drop 12).take 12
    rw [List.drop_zero, List.take_of_length_le (l := cs.drop 12) (by rw [List.length_drop]; omega), List.take_append_drop]
  · show (Lit.int .u64 (if j < 12 then a j else b (j - 12))).wf = true
    split
    · exact wa j
    · exact wb _
theorem wf_of {a : Nat → Int} (h : ∀ j, (Lit.int .u64 (a j)).wf = true) : Wf a := fun j => by
  have := h j
  simp only [Lit.wf, Bool.and_eq_true, decide_eq_true_eq] at this
  have e : IntKind.u64.max = 18446744073709551615 := by decide
  exact ⟨this.1, by have := this.2; omega⟩
end
end Go.Proofs.YtomnpfbebimpkaaGreatDoor
