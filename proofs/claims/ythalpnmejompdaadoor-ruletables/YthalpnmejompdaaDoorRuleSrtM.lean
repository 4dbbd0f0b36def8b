/-
  Sorting by places: which places stand where.
-/
import Derived.Test.YthalpnmejompdaaDoorRuleCpy2
import Derived.Test.YthalpnmejompdaaDoorRuleIns
namespace Go.Proofs.YthalpnmejompdaaDoor

section
variable {α : Type} {ord : α → α → Int}
theorem ins_set (x : α) : ∀ (L : List α) (c : Nat) (y : α), (∀ (j : Nat) z, j < c → L[j]? = some z → ord z x < 0) → L[c]? = some y → ord y x = 0 → ins ord x L = L.set c x
  | [], c, y, _, h, _ => by simp at h
  | a :: L, 0, y, _, h, h0 => by
    simp only [List.getElem?_cons_zero, Option.some.injEq] at h
    subst h
    unfold ins
    rw [if_neg (by omega), if_pos h0]
    rfl
  | a :: L, c + 1, y, hl, h, h0 => by
    unfold ins
    rw [if_pos (hl 0 a (by omega) rfl), ins_set x L c y (fun j z hj hz => hl (j + 1) z (by omega) (by simpa using hz)) (by simpa using h) h0]
    rfl
theorem ins_put (x : α) : ∀ (L : List α) (c : Nat), c ≤ L.length → (∀ (j : Nat) z, j < c → L[j]? = some z → ord z x < 0) → (∀ y, L[c]? = some y → 0 < ord y x) → ins ord x L = L.take c ++ x :: L.drop c
  | [], 0, _, _, _ => rfl
  | [], c + 1, hc, _, _ => by simp at hc
  | a :: L, 0, _, _, h => by
    have := h a rfl
    unfold ins
    rw [if_neg (by omega), if_neg (by omega)]
    rfl
  | a :: L, c + 1, hc, hl, h => by
    unfold ins
    rw [if_pos (hl 0 a (by omega) rfl), ins_put x L c (by simpa using hc) (fun j z hj hz => hl (j + 1) z (by omega) (by simpa using hz)) (fun y hy => h y (by simpa using hy))]
    rfl
end
/-- the table of a list -/
def tblOf (us : List Ru) : List Ru := srtL rOrd (us.filter sndR)
theorem tblOf_srt (us : List Ru) : Srt rOrd (tblOf us) := srtL_srt rOrd_ordd _
/-- the places of the table of the first rules of a list -/
structure PlS (l : List Rm) (r : Nat) (P : List Nat) : Prop where
  lt : ∀ i ∈ P, i < l.length
  is : P.map (nthU l) = tblOf ((l.take r).map (·.u))
  len : P.length ≤ r
theorem PlS.start (l : List Rm) : PlS l 0 [] := ⟨fun i h => (by cases h), rfl, Nat.le_refl _⟩
section
variable {l : List Rm} {r : Nat} {P : List Nat} {x : Rm}
theorem PlS.skip (h : PlS l r P) (hx : l[r]? = some x) (hs : sndR x.u = false) : PlS l (r + 1) P :=
  ⟨h.lt, by rw [h.is, take_map_succ hx]; unfold tblOf; rw [List.filter_append]; simp [hs], by have := h.len; omega⟩
theorem tbl_snoc (hx : l[r]? = some x) (hs : sndR x.u = true) : tblOf ((l.take (r + 1)).map (·.u)) = ins rOrd x.u (tblOf ((l.take r).map (·.u))) := by
  rw [take_map_succ hx]
  unfold tblOf
  rw [List.filter_append, show [x.u].filter sndR = [x.u] by simp [hs], srtL_snoc]
theorem PlS.get (h : PlS l r P) {j i : Nat} (hj : P[j]? = some i) : ∃ y, l[i]? = some y ∧ (tblOf ((l.take r).map (·.u)))[j]? = some y.u := by
  have hi := h.lt i (List.mem_of_getElem? hj)
  refine ⟨l[i], List.getElem?_eq_getElem hi, ?_⟩
  rw [← h.is, List.getElem?_map, hj]
  simp [nthU_at (List.getElem?_eq_getElem hi)]
theorem PlS.mono (h : PlS l r P) (u : Ru) (i j a b : Nat) (hij : i ≤ j) (ha : P[i]? = some a) (hb : P[j]? = some b) (hlt : rOrd (nthU l b) u < 0) : rOrd (nthU l a) u < 0 := by
  obtain ⟨y, h1, h2⟩ := h.get ha
  obtain ⟨z, h3, h4⟩ := h.get hb
  rw [nthU_at h3] at hlt
  rw [nthU_at h1]
  by_cases e : i = j
  · subst e
    rw [h2] at h4
    injection h4 with h4
    rw [h4]; exact hlt
  · have hs := tblOf_srt ((l.take r).map (·.u))
    obtain ⟨q1, e1⟩ := List.getElem?_eq_some_iff.1 h2
    obtain ⟨q2, e2⟩ := List.getElem?_eq_some_iff.1 h4
    have := List.pairwise_iff_getElem.1 hs i j q1 q2 (by omega)
    rw [e1, e2] at this
    exact rOrd_ordd.lt_trans this hlt
theorem PlS.pre (h : PlS l r P) {u : Ru} {c : Nat} (hc : ∀ (j : Nat) i, j < c → P[j]? = some i → rOrd (nthU l i) u < 0) : ∀ (j : Nat) z, j < c → (tblOf ((l.take r).map (·.u)))[j]? = some z → rOrd z u < 0 := fun j z hj hz => by
  rw [← h.is, List.getElem?_map, Option.map_eq_some_iff] at hz
  obtain ⟨i, hi, rfl⟩ := hz
  exact hc j i hj hi
theorem PlS.swap (h : PlS l r P) (hx : l[r]? = some x) (hs : sndR x.u = true) {c i : Nat} (hc : ∀ (j : Nat) i, j < c → P[j]? = some i → rOrd (nthU l i) x.u < 0) (hi : P[c]? = some i) (h0 : rOrd (nthU l i) x.u = 0) : PlS l (r + 1) (P.set c r) := by
  have hr := (List.getElem?_eq_some_iff.1 hx).1
  refine ⟨fun k hk => ?_, ?_, by have := h.len; simp; omega⟩
  · rcases List.mem_or_eq_of_mem_set hk with hk | rfl
    · exact h.lt k hk
    · exact hr
  · obtain ⟨y, h1, h2⟩ := h.get hi
    rw [tbl_snoc hx hs, List.map_set, h.is, nthU_at hx]
    rw [nthU_at h1] at h0
    exact (ins_set x.u _ c y.u (h.pre hc) h2 h0).symm
theorem PlS.put (h : PlS l r P) (hx : l[r]? = some x) (hs : sndR x.u = true) {c : Nat} (hcl : c ≤ P.length) (hc : ∀ (j : Nat) i, j < c → P[j]? = some i → rOrd (nthU l i) x.u < 0) (hd : ∀ (j : Nat) i, c ≤ j → P[j]? = some i → 0 ≤ rOrd (nthU l i) x.u) (hn : ¬ ∃ i, P[c]? = some i ∧ rOrd (nthU l i) x.u = 0) : PlS l (r + 1) (putAt P c r) := by
  have hr := (List.getElem?_eq_some_iff.1 hx).1
  refine ⟨fun k hk => ?_, ?_, by rw [putAt_len hcl]; have := h.len; omega⟩
  · unfold putAt at hk
    rcases List.mem_append.1 hk with hk | hk
    · exact h.lt k (List.mem_of_mem_take hk)
    · rcases List.mem_cons.1 hk with rfl | hk
      · exact hr
      · exact h.lt k (List.mem_of_mem_drop hk)
  · have hL : (tblOf ((l.take r).map (·.u))).length = P.length := by rw [← h.is, List.length_map]
    rw [tbl_snoc hx hs, ins_put x.u _ c (by omega) (h.pre hc) (fun y hy => ?_)]
    · unfold putAt
      rw [List.map_append, List.map_cons, List.map_take, List.map_drop, h.is, nthU_at hx]
    · rw [← h.is, List.getElem?_map, Option.map_eq_some_iff] at hy
      obtain ⟨i, hi, rfl⟩ := hy
      have q := hd c i (Nat.le_refl _) hi
      have : rOrd (nthU l i) x.u ≠ 0 := fun e => hn ⟨i, hi, e⟩
      omega
end
end Go.Proofs.YthalpnmejompdaaDoor
