/-
  A reader that goes on when the bytes end (numbers are 0 then, and it is short): no word of any program. What it reads of bytes is what is read of them, or it is short.
-/
import Derived.Test.YtomnpfbebimpkaaGreatDoorPackCodM
namespace Go.Proofs.YtomnpfbebimpkaaGreatDoor
set_option maxRecDepth 20000

/-- what is still to be read; whether there were too few -/
abbrev Sta := List Int × Bool
/-- g goes as p does -/
structure Trk {α β : Type} (g : Sta → α × Sta) (p : Rd β) (R : β → α → Prop) : Prop where
  yes : ∀ l x r, p l = some (x, r) → R x (g (l, false)).1 ∧ (g (l, false)).2 = (r, false)
  no : ∀ l, p l = none → (g (l, false)).2 = ([], true)
  short : (g ([], true)).2 = ([], true)
section
variable {α β γ δ : Type} {g : Sta → α × Sta} {p : Rd β} {R : β → α → Prop}
theorem Trk.bind {g2 : α → Sta → γ × Sta} {p2 : β → Rd δ} {R2 : δ → γ → Prop} (h1 : Trk g p R) (h2 : ∀ x y, R x y → Trk (g2 y) (p2 x) R2) (h3 : ∀ y, (g2 y ([], true)).2 = ([], true)) : Trk (fun s => g2 (g s).1 (g s).2) (rBind p p2) R2 where
  yes := fun l x r h => by
    obtain ⟨y, r1, e1, e2⟩ := rBind_of h
    obtain ⟨a1, a2⟩ := h1.yes _ _ _ e1
    rw [a2]
    exact (h2 _ _ a1).yes _ _ _ e2
  no := fun l h => by
    unfold rBind at h
    cases e1 : p l with
    | none => rw [h1.no _ e1]; exact h3 _
    | some y =>
      rw [e1] at h
      obtain ⟨a1, a2⟩ := h1.yes _ _ _ e1
      rw [a2]
      exact (h2 _ _ a1).no _ h
  short := by
    rw [h1.short]
    exact h3 _
end
section
variable {x : Sta} {s i : Nat} {ss : List Nat} {n : Int}
end
end Go.Proofs.YtomnpfbebimpkaaGreatDoor
