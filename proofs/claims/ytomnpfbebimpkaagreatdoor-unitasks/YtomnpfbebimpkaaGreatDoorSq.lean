/-
  The words of the walks, short: what is always said of a step is said here.
-/
import Derived.Test.YtomnpfbebimpkaaGreatDoorPackHead
namespace Go.Proofs.YtomnpfbebimpkaaGreatDoor
open Go.RowKit

theorem sA {α : Type _} (l : List α) (i : Nat) (a : α) : l.toArray.setIfInBounds i a = (l.set i a).toArray := List.setIfInBounds_toArray l i a
theorem sB {α : Type _} {x a : α} {l : List α} : (x :: l).set 0 a = a :: l := List.set_cons_zero
theorem sE {α : Type _} {x a : α} {l : List α} {i : Nat} : (x :: l).set (i + 1) a = x :: l.set i a := List.set_cons_succ
theorem qH {p : Prop} (h : p) : Hid p := Lib.hid h
section
variable {P : Program} {l : List Oper} {Q : Exit → Act → World → Prop} {S : World → Prop} {fuel : Nat} {listed : Array Bool} {a a' : Act} {w : World} {oi : Oper}
theorem sR (i : Nat) {v : Value} (hS : S w) (h : wpAnyH P .any l.toArray Q S fuel (listed.setIfInBounds i true) a' w) (hi : l[i]? = some oi := by exact rfl)
    (hs : Region.noSelect l.toArray = true := by kernel_rfl) (hf : Region.free .any l.toArray listed i = true := by kernel_rfl) (hr : (Region.ready .any l.toArray listed).contains i = true := by kernel_rfl)
    (hQ : ∀ c a w, Q (.panic c) (a.put oi.dst v) w → Q (.panic c) a w := by exact fun _ _ _ h => h) (hw : Region.wanted oi (yielded l.toArray a.tmps) = true := by exact rfl)
    (hv : ∀ w, S w → (execOp a.eval oi).run P w = .ok (.value v) w := by exact fun w hSw => by go_simp <;> with_reducible rfl)
    (ha : a.put oi.dst v = a' := by (try simp only [Act.put, sA, sB, sE]); exact rfl) : wpAnyH P .any l.toArray Q S (fuel + 1) listed a w :=
  seqRead i hi hs hf hr hQ hw hv hS (by rw [ha]; exact h)
theorem sV (i : Nat) {v : Value} (hi : l[i]? = some oi) (hv : ∀ w, S w → (execOp a.eval oi).run P w = .ok (.value v) w) (hS : S w) (h : wpAnyH P .any l.toArray Q S fuel (listed.setIfInBounds i true) a' w)
    (hs : Region.noSelect l.toArray = true := by kernel_rfl) (hf : Region.free .any l.toArray listed i = true := by kernel_rfl) (hr : (Region.ready .any l.toArray listed).contains i = true := by kernel_rfl)
    (hQ : ∀ c a w, Q (.panic c) (a.put oi.dst v) w → Q (.panic c) a w := by exact fun _ _ _ h => h) (hw : Region.wanted oi (yielded l.toArray a.tmps) = true := by exact rfl)
    (ha : a.put oi.dst v = a' := by (try simp only [Act.put, sA, sB, sE]); exact rfl) : wpAnyH P .any l.toArray Q S (fuel + 1) listed a w :=
  seqRead i hi hs hf hr hQ hw hv hS (by rw [ha]; exact h)
theorem sC (i : Nat) (h : ∀ K : Act → World → Prop, Shut (∀ a w, S w → (S w → wpAnyH P .any l.toArray Q S fuel (listed.setIfInBounds i true) a w) → K a w) → Oper.wp P oi a w K Q) (hi : l[i]? = some oi := by exact rfl)
    (hr : Region.ready .any l.toArray listed = [i] := by kernel_rfl) (hw : Region.wanted oi (yielded l.toArray a.tmps) = true := by exact rfl) : wpAnyH P .any l.toArray Q S (fuel + 1) listed a w :=
  seqCall i hi hr hw h
theorem sD (h : Q .normal a w) (hr : Region.ready .any l.toArray listed = [] := by kernel_rfl) : wpAnyH P .any l.toArray Q S fuel listed a w := seqDone hr h
end
end Go.Proofs.YtomnpfbebimpkaaGreatDoor
