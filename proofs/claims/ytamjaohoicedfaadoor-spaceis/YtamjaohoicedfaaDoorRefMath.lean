/-
  The texts of cubes: their letters by field and bit, one letter turned, two texts held together.
-/
import Derived.Test.YtamjaohoicedfaaDoorCubeExa
namespace Go.Proofs.YtamjaohoicedfaaDoor
open Go.RowKit

/-- where a field begins -/
def offF : Nat → Nat
  | 0 => 0
  | r + 1 => offF r + (sz r).toNat
theorem textTo_off (c : Nat → Int) : ∀ r, (textTo c r).length = offF r
  | 0 => rfl
  | r + 1 => by rw [textTo, List.length_append, fieldT_len, textTo_off c r, offF]
theorem wholeTo_off (h : Nat → Int) : ∀ r, (wholeTo h r).length = offF r
  | 0 => rfl
  | r + 1 => by rw [wholeTo, List.length_append, fieldL_len, wholeTo_off h r, offF]
theorem offF_12 : offF 12 = 248 := by decide
theorem offF_mono : ∀ {a b : Nat}, a ≤ b → offF a ≤ offF b := by
  intro a b h
  induction b with
  | zero => rw [show a = 0 by omega]; exact Nat.le_refl _
  | succ b ih =>
    by_cases e : a = b + 1
    · rw [e]; exact Nat.le_refl _
    · have := ih (by omega)
      rw [offF]; omega
/-- each place is a bit of a field -/
theorem place (p : Nat) : ∀ r, p < offF r → ∃ q k, q < r ∧ k < (sz q).toNat ∧ p = offF q + k
  | 0, h => absurd h (by simp [offF])
  | r + 1, h => by
    by_cases hp : p < offF r
    · obtain ⟨q, k, h1, h2, h3⟩ := place p r hp
      exact ⟨q, k, by omega, h2, h3⟩
    · exact ⟨r, p - offF r, by omega, by rw [offF] at h; omega, by omega⟩
theorem place_one {q q' k k' : Nat} (h : k < (sz q).toNat) (h' : k' < (sz q').toNat) (e : offF q + k = offF q' + k') : q = q' ∧ k = k' := by
  rcases Nat.lt_trichotomy q q' with hl | rfl | hl
  · have := offF_mono (show q + 1 ≤ q' by omega); rw [offF] at this; omega
  · exact ⟨rfl, by omega⟩
  · have := offF_mono (show q' + 1 ≤ q by omega); rw [offF] at this; omega
/-- the letter of a bit -/
def letT (c : Nat → Int) (r k : Nat) : UInt8 := chT ((c r).toNat.testBit ((sz r).toNat - 1 - k)) ((c (12 + r)).toNat.testBit ((sz r).toNat - 1 - k))
theorem textTo_at (c : Nat → Int) {q k : Nat} (hk : k < (sz q).toNat) : ∀ r, q < r → (textTo c r)[offF q + k]? = some (letT c q k)
  | 0, h => absurd h (by omega)
  | r + 1, h => by
    rw [textTo]
    by_cases e : q = r
    · subst e
      rw [List.getElem?_append_right (by rw [textTo_off]; omega), textTo_off, show offF q + k - offF q = k by omega, fieldT_at _ _ _ _ hk]
      rfl
    · have := offF_mono (show q + 1 ≤ r by omega)
      rw [offF] at this
      rw [List.getElem?_append_left (by rw [textTo_off]; omega)]
      exact textTo_at c hk r (by omega)
def letL (h : Nat → Int) (r k : Nat) : UInt8 := chB ((h r).toNat.testBit ((sz r).toNat - 1 - k))
theorem wholeTo_at (h : Nat → Int) {q k : Nat} (hk : k < (sz q).toNat) : ∀ r, q < r → (wholeTo h r)[offF q + k]? = some (letL h q k)
  | 0, h' => absurd h' (by omega)
  | r + 1, h' => by
    rw [wholeTo]
    by_cases e : q = r
    · subst e
      rw [List.getElem?_append_right (by rw [wholeTo_off]; omega), wholeTo_off, show offF q + k - offF q = k by omega, fieldL_at _ _ _ hk]
      rfl
    · have := offF_mono (show q + 1 ≤ r by omega)
      rw [offF] at this
      rw [List.getElem?_append_left (by rw [wholeTo_off]; omega)]
      exact wholeTo_at h hk r (by omega)
/-- a text is a cube's if its letters are -/
theorem text_ext {X : List UInt8} {c : Nat → Int} (hl : X.length = 248) (h : ∀ q k, q < 12 → k < (sz q).toNat → X[offF q + k]? = some (letT c q k)) : X = textTo c 12 := by
  apply List.ext_getElem?
  intro p
  by_cases hp : p < 248
  · obtain ⟨q, k, h1, h2, rfl⟩ := place p 12 (by rw [offF_12]; exact hp)
    rw [h q k h1 h2, textTo_at c h2 12 h1]
  · rw [List.getElem?_eq_none (by omega), List.getElem?_eq_none (by rw [textTo_off, offF_12]; omega)]
theorem text_len (c : Nat → Int) : (textTo c 12).length = 248 := by rw [textTo_off, offF_12]
theorem whole_len (h : Nat → Int) : (wholeTo h 12).length = 248 := by rw [wholeTo_off, offF_12]
/-- one bit turned is one letter turned -/
theorem text_set {c c' : Nat → Int} {r k : Nat} (hr : r < 12) (hk : k < (sz r).toNat) (ch : UInt8) (h1 : letT c' r k = ch) (h2 : ∀ q j, q < 12 → j < (sz q).toNat → ¬ (q = r ∧ j = k) → letT c' q j = letT c q j) :
    (textTo c 12).set (offF r + k) ch = textTo c' 12 := by
  refine text_ext (by rw [List.length_set, text_len]) fun q j hq hj => ?_
  rw [List.getElem?_set]
  by_cases e : offF r + k = offF q + j
  · obtain ⟨rfl, rfl⟩ := place_one hk hj e
    have hb : offF r + k < (textTo c 12).length := by
      have := offF_mono (show r + 1 ≤ 12 by omega)
      rw [offF] at this
      rw [textTo_off]; omega
    rw [if_pos rfl, if_pos hb, h1]
  · rw [if_neg e, textTo_at c hj 12 hq, h2 q j hq hj fun h => e (by rw [h.1, h.2])]
/-- the letter of what is fixed by neither, one, both -/
theorem chT_x (v k : Bool) : (chT v k = 120) ↔ k = false := by cases v <;> cases k <;> decide
theorem chT_1 (v k : Bool) : (chT v k = 49) ↔ (v = true ∧ k = true) := by cases v <;> cases k <;> decide
end Go.Proofs.YtamjaohoicedfaaDoor
