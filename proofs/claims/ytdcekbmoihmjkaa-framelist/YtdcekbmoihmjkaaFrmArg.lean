/-
  Slices of slices of bytes that come in.
-/
import Derived.Test.YtdcekbmoihmjkaaFrmWr
import Derived.Test.YtdcekbmoihmjkaaRuleArg
namespace Go.Proofs.Ytdcekbmoihmjkaa
set_option maxRecDepth 20000
open Go.ChangeShapes Go.WideShapes Go.ChangeAt Go.RowKit

/-- bytes that lie where they say -/
def InL (a : Bl) (W : World) : Prop := KLies KB (.slice a.p a.l.length a.c) a.l W ∧ ByL a.l
section
variable {H : Type} {enc : TypeId × Value → H} {W : World} {base : Nat} {sp : Nat → Bool} {held : Bool}
theorem trod_list (fuel : Nat) (cs : List Value) (x : DataW H × List MemPlace) (h : DataW.trod enc Try.prog W base sp held fuel 22 cs = some x) (hwt : ∀ n ∈ x.1.weights Try.prog 22, n ≤ reachBytes) : ∃ a : Bl, cs = KL.cells a ∧ InL a W := by
  obtain ⟨q, n, c, l, e, hl, hw, _⟩ := trod_kind KB okB (fun a => 0 ≤ a ∧ a < 256) cByte (fun fu c' x' h' _ => trod_byte fu c' x' h') h hwt
  obtain ⟨p', c', e'⟩ := hl.form
  injection e' with e1 e2 e3
  subst e2
  exact ⟨⟨q, c, l⟩, e, hl, hw⟩
theorem cLst : Try.prog.cellsOf 22 = 1 := by kernel_rfl
theorem open_lists {v : Value} {d : DataW H} {p : List MemPlace} {b : Nat} (hwt : ∀ n ∈ d.weights Try.prog 35, n ≤ reachBytes) (hv : Value.okWide Try.prog W .any b 35 v) (h : DataW.Trod enc Try.prog W base sp held 35 v d p) :
    ∃ l : List Bl, KLies KL v l W ∧ (∀ a ∈ l, InL a W) ∧ l.length ≤ 140737488355328 := by
  obtain ⟨fuel, hf⟩ := h
  obtain ⟨q, n, c, l, h0, hl, hw, hb⟩ := trod_kind KL okL (fun a => InL a W) cLst trod_list hf hwt
  have one : ∀ x : Value, v.cells.toList = [x] → v = x := by
    intro x hx
    simp only [Value.okWide, Try.underlying35, Cell.okWide] at hv
    cases v with
    | agg cs => simp [Cell.ok, Try.underlying35] at hv
    | _ => simpa [Value.cells] using hx
  have e := one _ h0
  subst e
  have hr := reach_le
  have hbr : Try.prog.bytesOf KL.T = 24 := by kernel_rfl
  rw [hbr] at hb
  exact ⟨l, hl, hw, by omega⟩
end
theorem readLists : Try.prog.readableRec 35 = true := by kernel_rfl
theorem rowLists : 35 < Try.prog.types.size := of_decide_eq_true (by kernel_rfl)
end Go.Proofs.Ytdcekbmoihmjkaa
