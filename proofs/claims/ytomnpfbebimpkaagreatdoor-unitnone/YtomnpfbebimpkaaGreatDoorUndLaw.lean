/-
  What the laws on patches share.
-/
import Derived.Test.YtomnpfbebimpkaaGreatDoorUndAns
import Derived.Test.YtomnpfbebimpkaaGreatDoorUndRef
namespace Go.Proofs.YtomnpfbebimpkaaGreatDoor
set_option maxRecDepth 20000
open Go.RowKit

theorem KOwns.formN {α : Type} {K : Kd α} {base : Nat} {v : Value} {l : List α} {W : World} {n : Nat} (h : KOwns K base v l W) (hn : l.length = n) : ∃ p cap, v = .slice p n cap := by
  subst hn
  exact h.form
theorem map_can_len (l : List Rm) : (l.map canR).length = l.length := by rw [List.length_map]
theorem map_nil {L : List Rm} (h : L.map (·.u) = []) : L = [] := by simpa using h
theorem beqT {k n : Int} (h : k = n) : (k == n) = true := by simpa using h
theorem beqF {k n : Int} (h : k ≠ n) : (k == n) = false := by simpa using h
theorem SwR.of {w w' : World} {us gs cs : List Ru} {e : Ending} {k : Int} {ks : List Ru} (hk : k = swapE us gs cs) (hv : ks = swapV us gs cs) (h : SwpRet w us gs cs e w') : SwR w k ks e w' := by
  subst hk hv
  exact h
/-- two tables and what DifRet says of them -/
theorem difG_yes {us ks : List Ru} (h1 : tabU us = true) (h2 : tabU ks = true) : difG us ks = aloneL us ks := by unfold difG; rw [h1, h2]; rfl
theorem difG_no1 {us ks : List Ru} (h1 : tabU us = false) : difG us ks = [] := by unfold difG; rw [h1]; rfl
theorem difG_no2 {us ks : List Ru} (h1 : tabU ks = false) : difG us ks = [] := by unfold difG; rw [h1, Bool.and_false]; rfl
theorem difG_len (us ks : List Ru) : (difG us ks).length ≤ us.length := by
  unfold difG
  split
  · exact alone_len us ks
  · exact Nat.zero_le _
theorem difG_wf {us ks : List Ru} (h : WfUL us) : WfUL (difG us ks) := by
  unfold difG
  split
  · exact alone_wf h
  · exact fun u hu => (by cases hu)
theorem difG_can {us ks : List Ru} (h : CanL us) : CanL (difG us ks) := by
  unfold difG
  split
  · exact alone_can h
  · exact fun u hu => (by cases hu)
theorem difG_self (us : List Ru) : difG us us = [] := by
  unfold difG
  split
  · exact alone_self us
  · rfl
/-- Forth from the first table with their Diff -/
theorem forth_ok {A B : List Ru} (hA : tabU A = true) (hB : tabU B = true) (cA : CanL A) (cB : CanL B) : swapE A (difG A B) (difG B A) = 0 ∧ swapV A (difG A B) (difG B A) = B := by
  rw [difG_yes hA hB, difG_yes hB hA]
  have h := diff_swap hA hB cA cB
  refine ⟨h.1, ?_⟩
  unfold swapV
  rw [if_pos h.1]
  exact h.2
theorem swapV_ok {us gs cs : List Ru} (h : swapE us gs cs = 0) : swapV us gs cs = swapL us gs cs := by unfold swapV; rw [if_pos h]
section
variable {w0 W W' : World} {bs : List (Nat × Array Value)} {ls : List (Value × List Rm)}
end
theorem len_u {L : List Rm} {us : List Ru} (h : L.map (·.u) = us) : L.length = us.length := by rw [← h, List.length_map]
end Go.Proofs.YtomnpfbebimpkaaGreatDoor
