/-
  Lists of rules that a call made, in later worlds.
-/
import Derived.Test.YthalpnmejompdaaDoorRuleCpy2
namespace Go.Proofs.YthalpnmejompdaaDoor
open Go.RowKit

theorem CpS.lies {B g : Nat} {w W : World} {L : List Rm} (h : CpS B w g L.length L W) : RLies (.slice (some ⟨g, 0, none⟩) L.length L.length) L W := ⟨h.1.lies _ rfl _ (Nat.le_refl _), fun r hr => (h.2.1 r hr).inA⟩
def WfUL (us : List Ru) : Prop := ∀ u ∈ us, WfR u
theorem WfUL.of {l : List Rm} (h : WfRL l) : WfUL (l.map (·.u)) := fun u hu => by
  obtain ⟨x, hx, rfl⟩ := List.mem_map.1 hu
  exact h x hx
theorem WfUL.rl {l : List Rm} {us : List Ru} (h : WfUL us) (e : l.map (·.u) = us) : WfRL l := fun r hr => h _ (by rw [← e]; exact List.mem_map_of_mem hr)
theorem WfUL.app {A B : List Ru} (ha : WfUL A) (hb : WfUL B) : WfUL (A ++ B) := fun u hu => by
  rcases List.mem_append.1 hu with h | h
  · exact ha u h
  · exact hb u h
theorem RLies.app {W : World} {v v1 v2 : Value} {a b : List Rm} (h : KLies KR v (a ++ b) W) (h1 : RLies v1 a W) (h2 : RLies v2 b W) : RLies v (a ++ b) W := ⟨h, fun r hr => by
  rcases List.mem_append.1 hr with q | q
  · exact h1.2 r q
  · exact h2.2 r q⟩
/-- a table that a call made, in a later world -/
structure TabAt (B : Nat) (v : Value) (us : List Ru) (g : Nat) (L : List Rm) (W : World) : Prop where
  is : L.map (·.u) = us
  val : v = .slice (some ⟨g, 0, none⟩) L.length L.length
  at_ : KAt KR g L.length L W
  own : ∀ r ∈ L, OwnA (g + 1) r W
  ge : B ≤ g
section
variable {B g : Nat} {v : Value} {us : List Ru} {L : List Rm} {W W' : World}
theorem TabAt.of {w : World} {w' : World} (h : L.map (·.u) = us) (hc : CpS B w g L.length L w') : TabAt B (.slice (some ⟨g, 0, none⟩) L.length L.length) us g L w' := ⟨h, rfl, hc.1, hc.2.1, hc.2.2.2⟩
theorem TabAt.below (h : TabAt B v us g L W) (hb : Below W.heap.size W W') : TabAt B v us g L W' := ⟨h.is, h.val, h.at_.below hb, fun r hr => (h.own r hr).below hb, h.ge⟩
theorem TabAt.lies (h : TabAt B v us g L W) : RLies v L W := by
  rw [h.val]
  exact ⟨h.at_.lies _ rfl _ (Nat.le_refl _), fun r hr => (h.own r hr).inA⟩
theorem TabAt.len (h : TabAt B v us g L W) : L.length = us.length := by rw [← h.is, List.length_map]
end
end Go.Proofs.YthalpnmejompdaaDoor
