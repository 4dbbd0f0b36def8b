/-
  Slices of changes that come in, opened.
-/
import Derived.Test.YtomnpfbebimpkaaGreatDoorModArg
import Derived.Test.YtomnpfbebimpkaaGreatDoorUndChg
namespace Go.Proofs.YtomnpfbebimpkaaGreatDoor
set_option maxRecDepth 20000
open Go.ChangeShapes Go.WideShapes Go.ChangeAt Go.RowKit
section
variable {H : Type} {enc : TypeId × Value → H} {W : World} {base : Nat} {sp : Nat → Bool} {held : Bool}
theorem open_mods {v : Value} {d : DataW H} {p : List MemPlace} {b : Nat} (hwt : ∀ n ∈ d.weights Tryz.prog 50, n ≤ reachBytes) (hv : Value.okWide Tryz.prog W .any b 50 v) (h : DataW.Trod enc Tryz.prog W base sp held 50 v d p) :
    ∃ l : List Mm, MLies v l W ∧ WfML l ∧ l.length ≤ 140737488355328 := by
  obtain ⟨fuel, hf⟩ := h
  obtain ⟨q, n, c, l, h0, hl, hw, hb⟩ := trod_kind KM okM (fun m => WfM m.u ∧ InM m W) cMod trod_mod hf hwt
  have one : ∀ x : Value, v.cells.toList = [x] → v = x := by
    intro x hx
    simp only [Value.okWide, Tryz.underlying50, Cell.okWide] at hv
    cases v with
    | agg cs => simp [Cell.ok, Tryz.underlying50] at hv
    | _ => simpa [Value.cells] using hx
  have e := one _ h0
  subst e
  have hr := reach_le
  have hbr : Tryz.prog.bytesOf KM.T = 264 := by kernel_rfl
  rw [hbr] at hb
  exact ⟨l, ⟨hl, fun m hm => (hw m hm).2⟩, fun m hm => (hw m hm).1, by omega⟩
end
theorem readMods : Tryz.prog.readableRec 50 = true := by kernel_rfl
theorem rowMods : 50 < Tryz.prog.types.size := of_decide_eq_true (by kernel_rfl)
end Go.Proofs.YtomnpfbebimpkaaGreatDoor
