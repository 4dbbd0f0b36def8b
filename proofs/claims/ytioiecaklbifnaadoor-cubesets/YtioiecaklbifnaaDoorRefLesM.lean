/-
  The reference's Less, place by place, against the fields and bits of the program's.
-/
import Derived.Test.YtioiecaklbifnaaDoorRefEq
namespace Go.Proofs.YtioiecaklbifnaaDoor
open Go.RowKit

/-- what is still to come at a place -/
def restP (a b : Nat → Int) (r k : Nat) (c : Nat → Int) : List (Nat → Int) :=
  if r < 12 then (goBits b r (leftN b a r) ((sz r).toNat - k) c).1 ++ goFields b (11 - r) (goBits b r (leftN b a r) ((sz r).toNat - k) c).2 else []
/-- the cube at a place: sound, and as the first one where nothing has come yet -/
structure AtP (a c : Nat → Int) (r k : Nat) : Prop where
  wf : Wf c
  snd : csnd c = true
  same : ∀ q t, q < 12 → (r < q ∨ (q = r ∧ t < (sz r).toNat - k)) → bitAt c (12 + q) t = bitAt a (12 + q) t
theorem goB64 {b : Nat → Int} (hb : Wf b) (sb : csnd b = true) {a : Nat → Int} (ha : Wf a) {r : Nat} (hr : r < 12) (c : Nat → Int) : goBits b r (leftN b a r) 64 c = goBits b r (leftN b a r) (sz r).toNat c := by
  have s48 := sz_le r
  refine goBits_skip b r _ c (sz r).toNat 64 (by omega) fun t h1 _ => ?_
  have := (fit_bits (hb (12 + r)).1).1 ((csnd_iff hb).1 sb r hr).1 t h1
  rw [left_bit hb ha]
  unfold bitAt
  rw [this]; rfl
theorem left_same {a b c : Nat → Int} (ha : Wf a) (hc : Wf c) {q : Nat} (h : ∀ t, bitAt c (12 + q) t = bitAt a (12 + q) t) : leftN b c q = leftN b a q := by
  unfold leftN
  rw [int_ext (hc (12 + q)).1 (ha (12 + q)).1 h]
theorem restP_start {a b : Nat → Int} (ha : Wf a) (hb : Wf b) (sb : csnd b = true) : restP a b 0 0 a = goFields b 12 a := by
  unfold restP
  rw [if_pos (by omega), Nat.sub_zero, ← goB64 hb sb ha (by omega)]
  rfl
theorem restP_next {a b c : Nat → Int} (ha : Wf a) (hb : Wf b) (sb : csnd b = true) {r : Nat} (hr : r < 12) (h : AtP a c r (sz r).toNat) : restP a b r (sz r).toNat c = restP a b (r + 1) 0 c := by
  unfold restP
  rw [if_pos hr, Nat.sub_self, goBits, List.nil_append]
  by_cases h12 : r + 1 < 12
  · rw [if_pos h12, Nat.sub_zero, ← goB64 hb sb ha h12, show 11 - r = (11 - (r + 1)) + 1 by omega, goFields, show 11 - (11 - (r + 1)) = r + 1 by omega,
      left_same ha h.wf fun t => h.same (r + 1) t h12 (.inl (by omega))]
  · rw [if_neg h12, show 11 - r = 0 by omega]; rfl
/-- where Less is: the place, the cube, the pieces -/
def LState (a b : Nat → Int) (T : List (Nat → Int)) (p : Nat) (c : Nat → Int) (l : List (Nat → Int)) : Prop :=
  ∃ r k, r ≤ 12 ∧ (r < 12 → k < (sz r).toNat) ∧ (r = 12 → k = 0) ∧ p = offF r + k ∧ l ++ restP a b r k c = T ∧ AtP a c r k
theorem AtP.next {a c : Nat → Int} {r k : Nat} (h : AtP a c r k) (k' : Nat) (hk : k ≤ k') : AtP a c r k' := ⟨h.wf, h.snd, fun q t hq H => h.same q t hq (by omega)⟩
theorem AtP.field {a c : Nat → Int} {r k : Nat} (h : AtP a c r k) : AtP a c (r + 1) 0 := ⟨h.wf, h.snd, fun q t hq H => h.same q t hq (.inl (by omega))⟩
/-- a place further -/
theorem LState.on {a b : Nat → Int} (ha : Wf a) (hb : Wf b) (sb : csnd b = true) {T l : List (Nat → Int)} {c : Nat → Int} {r k : Nat} (hr : r < 12) (hk : k < (sz r).toNat) (hl : l ++ restP a b r (k + 1) c = T) (hA : AtP a c r (k + 1)) : LState a b T (offF r + k + 1) c l := by
  by_cases h : k + 1 < (sz r).toNat
  · exact ⟨r, k + 1, by omega, fun _ => h, fun e => absurd e (by omega), by omega, hl, hA⟩
  · have e : k + 1 = (sz r).toNat := by omega
    rw [e] at hl hA
    rw [restP_next ha hb sb hr hA] at hl
    exact ⟨r + 1, 0, by omega, fun h => sz_pos _ h, fun _ => rfl, by rw [offF]; omega, hl, hA.field⟩
theorem LState.start {a b : Nat → Int} (ha : Wf a) (hb : Wf b) (sa : csnd a = true) (sb : csnd b = true) : LState a b (goFields b 12 a) 0 a [] :=
  ⟨0, 0, by omega, fun _ => sz_pos 0 (by omega), fun _ => rfl, rfl, by rw [List.nil_append, restP_start ha hb sb], ⟨ha, sa, fun _ _ _ _ => rfl⟩⟩
theorem LState.done {a b : Nat → Int} {T l : List (Nat → Int)} {c : Nat → Int} (h : LState a b T 248 c l) : l = T := by
  obtain ⟨r, k, h1, h2, _, h4, h5, _⟩ := h
  by_cases hr : r < 12
  · have := place_lt hr (h2 hr); omega
  · unfold restP at h5
    rw [if_neg hr, List.append_nil] at h5
    exact h5
theorem restP_bit {a b c : Nat → Int} {r k : Nat} (hr : r < 12) (hk : k < (sz r).toNat) : restP a b r k c =
    if (leftN b a r).testBit ((sz r).toNat - 1 - k) then pieceC b c r (2 ^ ((sz r).toNat - 1 - k)) :: restP a b r (k + 1) (stepC b c r (2 ^ ((sz r).toNat - 1 - k))) else restP a b r (k + 1) c := by
  unfold restP
  rw [if_pos hr, if_pos hr, if_pos hr, show (sz r).toNat - k = ((sz r).toNat - 1 - k) + 1 by omega, goBits, show (sz r).toNat - (k + 1) = (sz r).toNat - 1 - k by omega]
  split <;> rfl
/-- the letters at a place, and what comes of them -/
theorem LState.step {a b : Nat → Int} (ha : Wf a) (hb : Wf b) (sb : csnd b = true) {T l : List (Nat → Int)} {c : Nat → Int} {p : Nat} (h : LState a b T p c l) (hp : p < 248) :
    ∃ va vb ca cb : Bool, (textTo a 12).getD p 0 = chT va ca ∧ (textTo b 12).getD p 0 = chT vb cb ∧ Wf c ∧ csnd c = true ∧ ((!ca && cb) = false → LState a b T (p + 1) c l) ∧
      ((!ca && cb) = true → ∃ c1 c2 : Nat → Int, Wf c1 ∧ csnd c1 = true ∧ (textTo c 12).set p (chT (!vb) true) = textTo c1 12 ∧ (textTo c1 12).set p (chT vb true) = textTo c2 12 ∧ LState a b T (p + 1) c2 (l ++ [c1])) := by
  obtain ⟨r, k, h1, h2, h3, rfl, h5, hA⟩ := h
  have hr : r < 12 := by
    rcases Nat.lt_or_ge r 12 with h | h
    · exact h
    · have := h3 (by omega)
      rw [show r = 12 by omega, offF_12] at hp; omega
  have hk := h2 hr
  have h64 : (sz r).toNat - 1 - k < 64 := by have := sz_le r; omega
  refine ⟨_, _, _, _, text_get a hr hk, text_get b hr hk, hA.wf, hA.snd, fun hn => ?_, fun hy => ?_⟩
  · rw [restP_bit hr hk, left_bit hb ha, if_neg] at h5
    · exact LState.on ha hb sb hr hk h5 (hA.next (k + 1) (by omega))
    · unfold bitAt
      intro e
      rw [Bool.and_comm, e] at hn
      cases hn
  · rw [restP_bit hr hk, left_bit hb ha, if_pos (by unfold bitAt; rw [Bool.and_comm]; exact hy)] at h5
    rw [Bool.and_eq_true] at hy
    have hcare : bitAt c (12 + r) ((sz r).toNat - 1 - k) = false := by
      rw [hA.same r _ hr (.inr ⟨rfl, by omega⟩)]
      simpa [bitAt] using hy.1
    obtain ⟨s1, s2, s3, s4, p1, p2, p3, p4⟩ := step_facts hb hA.wf sb hA.snd hr h64 hy.2 hcare
    have w1 := stepC_wf hb hA.wf r (pow_u64 h64)
    have w2 := pieceC_wf hb hA.wf r (pow_u64 h64)
    -- the letters of the two new cubes elsewhere
    have oth : ∀ q j, q < 12 → j < (sz q).toNat → ¬ (q = r ∧ j = k) → (decide (q = r) && decide ((sz r).toNat - 1 - k = (sz q).toNat - 1 - j)) = false := by
      intro q j hq hj hne
      rw [Bool.and_eq_false_iff, decide_eq_false_iff_not, decide_eq_false_iff_not]
      by_cases e : q = r
      · subst e
        right
        intro e2
        exact hne ⟨rfl, by omega⟩
      · exact .inl e
    have os : ∀ q j, q < 12 → j < (sz q).toNat → ¬ (q = r ∧ j = k) → letT (stepC b c r (2 ^ ((sz r).toNat - 1 - k))) q j = letT c q j := by
      intro q j hq hj hne
      have o := oth q j hq hj hne
      have e1 := step_val hb hA.wf h64 (i := r) q ((sz q).toNat - 1 - j) hq
      have e2 := step_care b hA.wf h64 q ((sz q).toNat - 1 - j) hq hr
      unfold bitAt at e1 e2
      unfold letT
      rw [e1, e2, o]
      simp
    have op : ∀ q j, q < 12 → j < (sz q).toNat → ¬ (q = r ∧ j = k) → letT (pieceC b c r (2 ^ ((sz r).toNat - 1 - k))) q j = letT (stepC b c r (2 ^ ((sz r).toNat - 1 - k))) q j := by
      intro q j hq hj hne
      have o := oth q j hq hj hne
      have e1 := piece_val hb hA.wf h64 (i := r) q ((sz q).toNat - 1 - j)
      have e2 := piece_care b (c := c) (n := (sz r).toNat - 1 - k) q ((sz q).toNat - 1 - j) hq hr
      unfold bitAt at e1 e2
      unfold letT
      rw [e1, e2, o]
      simp
    refine ⟨pieceC b c r (2 ^ ((sz r).toNat - 1 - k)), stepC b c r (2 ^ ((sz r).toNat - 1 - k)), w2, p1, ?_, ?_, ?_⟩
    · refine text_set hr hk _ ?_ fun q j hq hj hne => (op q j hq hj hne).trans (os q j hq hj hne)
      unfold letT
      unfold bitAt at p3 p4
      rw [p3, p4]
    · refine text_set hr hk _ ?_ fun q j hq hj hne => (op q j hq hj hne).symm
      unfold letT
      unfold bitAt at s3 s4
      rw [s3, s4]
    · refine LState.on ha hb sb hr hk ?_ ⟨w1, s1, fun q t hq H => ?_⟩
      · rw [← h5]; simp
      · have hne : (decide (q = r) && decide ((sz r).toNat - 1 - k = t)) = false := by
          rw [Bool.and_eq_false_iff, decide_eq_false_iff_not, decide_eq_false_iff_not]
          rcases H with h | ⟨_, h⟩
          · exact .inl (by omega)
          · exact .inr (by omega)
        rw [step_care b hA.wf h64 q t hq hr, hne, Bool.or_false]
        exact hA.same q t hq (by omega)
end Go.Proofs.YtioiecaklbifnaaDoor
