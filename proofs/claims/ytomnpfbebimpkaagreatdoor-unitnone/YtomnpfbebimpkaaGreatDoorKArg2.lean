/-
  How long a slice that comes in can be: what the row's own reach says.
-/
import Derived.Test.YtomnpfbebimpkaaGreatDoorKArg
import Derived.SizedLaws
namespace Go.Proofs.YtomnpfbebimpkaaGreatDoor
set_option maxRecDepth 20000
open Go.ChangeShapes Go.WideShapes Go.ChangeAt Go.RowKit
theorem bytesA : 0 < Tryz.prog.bytesOf 83 := by
  have e : Tryz.prog.bytesOf 83 = 32 := by kernel_rfl
  omega
theorem bytesB : 0 < Tryz.prog.bytesOf 5 := by
  have e : Tryz.prog.bytesOf 5 = 1 := by kernel_rfl
  omega
section
variable {H : Type} {enc : TypeId × Value → H} {W : World} {base : Nat} {sp : Nat → Bool} {held : Bool}
theorem kind_bound {α : Type} (K : Kd α) (ok : K.Ok) (hb1 : 0 < Tryz.prog.bytesOf K.T) {ts : List TypeId} {ds : List (DataW H)} (hsz : (DataW.weightsEach Tryz.prog ts ds).all (· ≤ reachBytes) = true) {j : Nat} {v : Value} {d : DataW H} {p : List MemPlace} {b : Nat} {l : List α}
    (ht : ts[j]? = some K.S) (hd : ds[j]? = some d) (hv : Value.okWide Tryz.prog W .any b K.S v) (h : DataW.Trod enc Tryz.prog W base sp held K.S v d p) (hl : KLies K v l W) : l.length ≤ 140737488355328 := by
  obtain ⟨fuel, hf⟩ := h
  have one : ∀ x : Value, v.cells.toList = [x] → v = x := by
    intro x hx
    simp only [Value.okWide, ok.under, Cell.okWide] at hv
    cases v with
    | agg cs => simp [Cell.ok, ok.under] at hv
    | _ => simpa [Value.cells] using hx
  obtain ⟨q, cp, e⟩ := hl.form
  rcases Deep.open_slice ok.under hf with ⟨h0, _⟩ | ⟨a, len, cap, m, n, D, Pl, h0, _, _, _, _, hx, _⟩
  · have e' := one _ h0
    rw [e] at e'
    injection e' with _ e2 _
    omega
  · have e' := one _ h0
    rw [e] at e'
    injection e' with _ e2 _
    simp only [Prod.mk.injEq] at hx
    rw [hx.1] at hd
    have q := sized_slice hsz ht hd ok.under
    simp only [List.length_map, List.length_range, reachBytes] at q
    have : len * 1 ≤ (len + (m - len)) * Tryz.prog.bytesOf K.T := Nat.mul_le_mul (by omega) hb1
    omega
end
end Go.Proofs.YtomnpfbebimpkaaGreatDoor
