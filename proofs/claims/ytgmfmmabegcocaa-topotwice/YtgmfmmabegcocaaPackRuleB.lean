/- Several of my texts as one: RuleEql, RuleTbl. -/
import Derived.Test.YtgmfmmabegcocaaPackRule
/-
  The walks of equal, slices.EqualFunc, Same of package rule; of the reference's Equal and Same.
-/
namespace Go.Proofs.Ytgmfmmabegcocaa
set_option maxRecDepth 20000
open Go.RowKit

/-- are two lists of rules the same? -/
def sameL : List Ru → List Ru → Bool
  | [], [] => true
  | a :: l, b :: k => rEq a b && sameL l k
  | _, _ => false
theorem sameL_len : ∀ {l k : List Ru}, l.length ≠ k.length → sameL l k = false
  | [], [], h => absurd rfl h
  | [], _ :: _, _ => rfl
  | _ :: _, [], _ => rfl
  | a :: l, b :: k, h => by rw [sameL, sameL_len (l := l) (k := k) (by simpa using h), Bool.and_false]
theorem sameL_ne : ∀ {l k : List Ru} {i : Nat} {a b : Ru}, l[i]? = some a → k[i]? = some b → rEq a b = false → sameL l k = false
  | [], _, i, a, b, h, _, _ => by simp at h
  | _ :: _, [], i, a, b, _, h, _ => by simp at h
  | c :: l, d :: k, 0, a, b, h1, h2, h => by
    simp only [List.getElem?_cons_zero, Option.some.injEq] at h1 h2
    subst h1 h2
    rw [sameL, h, Bool.false_and]
  | c :: l, d :: k, i + 1, a, b, h1, h2, h => by
    rw [sameL, sameL_ne (l := l) (k := k) (i := i) (by simpa using h1) (by simpa using h2) h, Bool.and_false]
theorem sameL_yes : ∀ {l k : List Ru}, l.length = k.length → (∀ (i : Nat) a b, l[i]? = some a → k[i]? = some b → rEq a b = true) → sameL l k = true
  | [], [], _, _ => rfl
  | [], _ :: _, h, _ => by simp at h
  | _ :: _, [], h, _ => by simp at h
  | a :: l, b :: k, h, hq => by
    rw [sameL, hq 0 a b rfl rfl, sameL_yes (l := l) (k := k) (by simpa using h) (fun i x y hx hy => hq (i + 1) x y (by simpa using hx) (by simpa using hy))]
    rfl
theorem sameL_self : ∀ l : List Ru, sameL l l = true
  | [] => rfl
  | a :: l => by rw [sameL, rEq_self, sameL_self l]; rfl
theorem sameL_symm : ∀ l k : List Ru, sameL l k = sameL k l
  | [], [] => rfl
  | [], _ :: _ => rfl
  | _ :: _, [] => rfl
  | a :: l, b :: k => by rw [sameL, sameL, rEq_symm a b, sameL_symm l k]
theorem map_get {l : List Rm} {j : Nat} {a : Ru} (h : (l.map (·.u))[j]? = some a) : ∃ x, l[j]? = some x ∧ x.u = a := by
  rw [List.getElem?_map, Option.map_eq_some_iff] at h
  exact h
theorem get_map {l : List Rm} {j : Nat} {x : Rm} (h : l[j]? = some x) : (l.map (·.u))[j]? = some x.u := by rw [List.getElem?_map, h]; rfl
theorem sameM_yes {l k : List Rm} (hl : l.length = k.length) (h : ∀ (j : Nat) x y, l[j]? = some x → k[j]? = some y → rEq x.u y.u = true) : sameL (l.map (·.u)) (k.map (·.u)) = true :=
  sameL_yes (by simpa using hl) fun i a b ha hb => by
    obtain ⟨x, hx, rfl⟩ := map_get ha
    obtain ⟨y, hy, rfl⟩ := map_get hb
    exact h i x y hx hy
end Go.Proofs.Ytgmfmmabegcocaa

/-
  The walks of Table, the program's and the reference's.
-/
namespace Go.Proofs.Ytgmfmmabegcocaa
set_option maxRecDepth 20000
open Go.RowKit

/-- is the rule at a place sound, and behind the one ahead of it? -/
def okAt (l : List Rm) (i : Nat) : Prop := ∀ x, l[i]? = some x → sndR x.u = true ∧ ∀ q y, i = q + 1 → l[q]? = some y → rOrd y.u x.u < 0
def okTo' (l : List Rm) (r : Nat) : Prop := ∀ i, i < r → okAt l i
/-- the same, as an answer -/
def okRB (l : List Rm) (i : Nat) : Bool := match l[i]? with
  | none => true
  | some x => sndR x.u && (match i with
    | 0 => true
    | q + 1 => match l[q]? with
      | none => true
      | some y => decide (rOrd y.u x.u < 0))
/-- is a list a table? -/
def tabB (l : List Rm) : Bool := (List.range l.length).all (okRB l)
theorem okRB_iff (l : List Rm) (i : Nat) : okRB l i = true ↔ okAt l i := by
  unfold okRB okAt
  cases hx : l[i]? with
  | none => simp
  | some x =>
    cases i with
    | zero =>
      simp only [Bool.and_true]
      constructor
      · intro h z hz
        injection hz with hz
        subst hz
        exact ⟨h, fun q y e => by omega⟩
      · intro h
        exact (h x rfl).1
    | succ q =>
      cases hy : l[q]? with
      | none =>
        simp only [hy, Bool.and_true]
        constructor
        · intro h z hz
          injection hz with hz
          subst hz
          refine ⟨h, fun q' y e hy' => ?_⟩
          obtain rfl : q' = q := by omega
          rw [hy] at hy'
          cases hy'
        · intro h
          exact (h x rfl).1
      | some y =>
        simp only [hy, Bool.and_eq_true, decide_eq_true_eq]
        constructor
        · intro h z hz
          injection hz with hz
          subst hz
          refine ⟨h.1, fun q' y' e hy' => ?_⟩
          obtain rfl : q' = q := by omega
          rw [hy] at hy'
          injection hy' with hy'
          subst hy'
          exact h.2
        · intro h
          exact ⟨(h x rfl).1, (h x rfl).2 q y rfl hy⟩
section
variable {l : List Rm} {r q : Nat} {x y : Rm}
theorem tabB_no (hr : l[r]? = some x) (h : ¬ okAt l r) : tabB l = false := by
  unfold tabB
  rw [List.all_eq_false]
  exact ⟨r, List.mem_range.2 (List.getElem?_eq_some_iff.1 hr).1, fun e => h ((okRB_iff l r).1 e)⟩
theorem tabB_bad (hx : l[r]? = some x) (h : sndR x.u = false) : tabB l = false := tabB_no hx fun hq => by
  have := (hq x hx).1
  rw [h] at this
  cases this
theorem tabB_order (hx : l[r]? = some x) (hy : l[q]? = some y) (e : r = q + 1) (h : decide (rOrd y.u x.u < 0) = false) : tabB l = false := tabB_no hx fun hq => by
  have := (hq x hx).2 q y e hy
  rw [decide_eq_true this] at h
  cases h
theorem tabB_yes (h : okTo' l l.length) : tabB l = true := by
  unfold tabB
  rw [List.all_eq_true]
  exact fun i hi => (okRB_iff l i).2 (h i (List.mem_range.1 hi))
theorem okU_zero (l : List Rm) : okTo' l 0 := fun _ hi => absurd hi (Nat.not_lt_zero _)
theorem okU_first (hx : l[0]? = some x) (h : sndR x.u = true) : okTo' l (0 + 1) := fun i hi z hz => by
  obtain rfl : i = 0 := by omega
  rw [hx] at hz
  injection hz with hz
  subst hz
  exact ⟨h, fun q y e => by omega⟩
theorem okU_next (hq : okTo' l r) (hx : l[r]? = some x) (hy : l[q]? = some y) (e : r = q + 1) (h : sndR x.u = true) (hb : decide (rOrd y.u x.u < 0) = true) : okTo' l (r + 1) := fun i hi z hz => by
  by_cases ei : i = r
  · subst ei
    rw [hx] at hz
    injection hz with hz
    subst hz
    refine ⟨h, fun q' y' e' hy' => ?_⟩
    obtain rfl : q' = q := by omega
    rw [hy] at hy'
    injection hy' with hy'
    subst hy'
    exact of_decide_eq_true hb
  · exact hq i (by omega) z hz
end
/-- a list strictly in order, all sound, is a table -/
theorem tabB_srt {l : List Rm} (hs : Srt rOrd (l.map (·.u))) (hu : ∀ r ∈ l, sndR r.u = true) : tabB l = true := tabB_yes fun i hi x hx => by
  refine ⟨hu x (List.mem_of_getElem? hx), fun q y e hy => ?_⟩
  obtain ⟨h1, e1⟩ := List.getElem?_eq_some_iff.1 hx
  obtain ⟨h2, e2⟩ := List.getElem?_eq_some_iff.1 hy
  have := List.pairwise_iff_getElem.1 hs q i (by simpa using h2) (by simpa using h1) (by omega)
  simp only [List.getElem_map] at this
  rw [e1, e2] at this
  exact this
end Go.Proofs.Ytgmfmmabegcocaa
