/-
  A cube that comes in by value, opened and shut.
-/
import Derived.Test.YtgmfmmabegcocaaPackLift
import Derived.Test.YtgmfmmabegcocaaPackCube
namespace Go.Proofs.Ytgmfmmabegcocaa
set_option maxRecDepth 20000
open Go.ChangeShapes Go.WideShapes Go.ChangeAt Go.RowKit
section
variable {H : Type} {enc : TypeId × Value → H} {W : World} {base : Nat} {sp : Nat → Bool} {held : Bool}
/-- a cube as data -/
def cd (a : Nat → Int) : DataW H := .agg [hd a, hd (care a)]
theorem hl_hc (a : Nat → Int) : (hc a).toList = hl a := rfl
theorem cl_split (a : Nat → Int) : cl a = hl a ++ hl (care a) := rfl
theorem wf_of {a : Nat → Int} (h : ∀ j, (Lit.int .u64 (a j)).wf = true) : Wf a := fun j => by
  have := h j
  simp only [Lit.wf, Bool.and_eq_true, decide_eq_true_eq] at this
  have e : IntKind.u64.max = 18446744073709551615 := by decide
  exact ⟨this.1, by have := this.2; omega⟩
end
end Go.Proofs.Ytgmfmmabegcocaa
