/-
  Which headers are in the cubes of Meet and of Less.
-/
import Derived.Test.YtamjaohoicedfaaDoorRefEq
namespace Go.Proofs.YtamjaohoicedfaaDoor
open Go.RowKit

theorem has_iff {c h : Nat → Int} (hc : Wf c) (hh : Wf h) : hasB c h = true ↔ csnd c = true ∧ sndB h = true ∧ ∀ j, j < 12 → ∀ t, bitAt c (12 + j) t = true → bitAt h j t = bitAt c j t := by
  unfold hasB
  rw [Bool.and_eq_true, Bool.and_eq_true, List.all_eq_true, and_assoc]
  constructor
  · rintro ⟨sc, sh, H⟩
    refine ⟨sc, sh, fun j hj t ht => ?_⟩
    have := H j (by simpa using hj)
    have := (off_iff hc hh j).1 (by simpa using this) t
    rw [ht, Bool.and_true] at this
    exact this
  · rintro ⟨sc, sh, H⟩
    refine ⟨sc, sh, fun j hj => ?_⟩
    have hj' : j < 12 := by simpa using hj
    have : offB c h j = false := (off_iff hc hh j).2 fun t => by
      have p := H j hj' t
      have q := ((csnd_iff hc).1 sc j hj').2.2 t
      revert p q
      cases bitAt h j t <;> cases bitAt c (12 + j) t <;> cases bitAt c j t <;> simp
    simp [this]
theorem has_ext {c x h : Nat → Int} (hc : Wf c) (hx : Wf x) (hh : Wf h) (sc : csnd c = true) (e : Ext c x) (H : hasB x h = true) : hasB c h = true := by
  obtain ⟨_, sh, G⟩ := (has_iff hx hh).1 H
  refine (has_iff hc hh).2 ⟨sc, sh, fun j hj t ht => ?_⟩
  obtain ⟨p, q⟩ := e j hj t ht
  rw [G j hj t p, q]
theorem both_met {a b h : Nat → Int} (ha : Wf a) (hb : Wf b) (hh : Wf h) (h1 : hasB a h = true) (h2 : hasB b h = true) : metB a b = true := by
  obtain ⟨sa, _, A⟩ := (has_iff ha hh).1 h1
  obtain ⟨sb, _, B⟩ := (has_iff hb hh).1 h2
  exact (met_iff ha hb).2 ⟨sa, sb, fun j hj t p q => by rw [← A j hj t p, B j hj t q]⟩
/-- P2.2: the headers of Meet -/
theorem has_met {a b h : Nat → Int} (ha : Wf a) (hb : Wf b) (hh : Wf h) : (metB a b && hasB (metV a b) h) = (hasB a h && hasB b h) := by
  cases hm : metB a b
  · cases h1 : hasB a h
    · rfl
    · cases h2 : hasB b h
      · rfl
      · rw [both_met ha hb hh h1 h2] at hm; cases hm
  · rw [Bool.true_and, metV_yes hm, Bool.eq_iff_iff, Bool.and_eq_true]
    obtain ⟨sa, sb, H⟩ := (met_iff ha hb).1 hm
    have so := orC_snd ha hb sa sb
    have ia := (csnd_iff ha).1 sa
    have ib := (csnd_iff hb).1 sb
    rw [has_iff (orC_wf ha hb) hh, has_iff ha hh, has_iff hb hh]
    constructor
    · rintro ⟨_, sh, G⟩
      refine ⟨⟨sa, sh, fun j hj t ht => ?_⟩, ⟨sb, sh, fun j hj t ht => ?_⟩⟩
      · have g := G j hj t
        rw [orC_bit ha hb, orC_bit ha hb, ht] at g
        have p := H j hj t ht
        have q := (ib j hj).2.2 t
        have g := g rfl
        revert p q g
        cases bitAt a j t <;> cases bitAt b j t <;> cases bitAt b (12 + j) t <;> cases bitAt h j t <;> simp
      · have g := G j hj t
        rw [orC_bit ha hb, orC_bit ha hb, ht, Bool.or_true] at g
        have p := fun q => H j hj t q ht
        have q := (ia j hj).2.2 t
        have g := g rfl
        revert p q g
        cases bitAt a j t <;> cases bitAt b j t <;> cases bitAt a (12 + j) t <;> cases bitAt h j t <;> simp
    · rintro ⟨⟨_, sh, A⟩, ⟨_, _, B⟩⟩
      refine ⟨so, sh, fun j hj t => ?_⟩
      rw [orC_bit ha hb, orC_bit ha hb]
      have p := A j hj t
      have q := B j hj t
      have r := (ia j hj).2.2 t
      have s := (ib j hj).2.2 t
      revert p q r s
      cases bitAt a j t <;> cases bitAt b j t <;> cases bitAt a (12 + j) t <;> cases bitAt b (12 + j) t <;> cases bitAt h j t <;> simp
/-- one if so -/
def ind (b : Bool) : Nat := if b then 1 else 0
/-- how many cubes of a list have a header -/
def cntH (h : Nat → Int) (l : List (Nat → Int)) : Nat := l.countP fun x => hasB x h
theorem step_has {b c h : Nat → Int} (hb : Wf b) (hc : Wf c) (hh : Wf h) (sb : csnd b = true) (sc : csnd c = true) {i n : Nat} (hi : i < 12) (hn : n < 64) (h1 : bitAt b (12 + i) n = true) (h2 : bitAt c (12 + i) n = false) :
    ind (hasB (pieceC b c i (2 ^ n)) h) + ind (hasB (stepC b c i (2 ^ n)) h) = ind (hasB c h) := by
  obtain ⟨s1, s2, s3, s4, p1, p2, p3, p4⟩ := step_facts hb hc sb sc hi hn h1 h2
  have w1 := stepC_wf hb hc i (pow_u64 hn)
  have w2 := pieceC_wf hb hc i (pow_u64 hn)
  have key : ∀ (x : Nat → Int), Wf x → csnd x = true → Ext c x → (∀ j, j < 12 → ∀ t, bitAt x (12 + j) t = true → bitAt c (12 + j) t = true ∨ (j = i ∧ t = n)) → bitAt x (12 + i) n = true → (hasB x h = (hasB c h && (bitAt h i n == bitAt x i n))) := by
    intro x wx sx ex hx hin
    rw [Bool.eq_iff_iff, Bool.and_eq_true, beq_iff_eq]
    constructor
    · intro H
      exact ⟨has_ext hc wx hh sc ex H, ((has_iff wx hh).1 H).2.2 i hi n hin⟩
    · rintro ⟨H, e⟩
      obtain ⟨_, sh, G⟩ := (has_iff hc hh).1 H
      refine (has_iff wx hh).2 ⟨sx, sh, fun j hj t ht => ?_⟩
      rcases hx j hj t ht with hcare | ⟨rfl, rfl⟩
      · rw [(ex j hj t hcare).2]; exact G j hj t hcare
      · exact e
  have cs : ∀ j, j < 12 → ∀ t, bitAt (stepC b c i (2 ^ n)) (12 + j) t = true → bitAt c (12 + j) t = true ∨ (j = i ∧ t = n) := by
    intro j hj t ht
    rw [step_care b hc hn j t hj hi, Bool.or_eq_true, Bool.and_eq_true, decide_eq_true_eq, decide_eq_true_eq] at ht
    rcases ht with h | ⟨h, h'⟩
    · exact .inl h
    · exact .inr ⟨h, h'.symm⟩
  rw [key _ w1 s1 s2 cs s3, key _ w2 p1 p2 (fun j hj t ht => cs j hj t (by rwa [piece_care b j t hj hi] at ht)) p3, s4, p4]
  cases hasB c h <;> cases bitAt h i n <;> cases bitAt b i n <;> rfl
/-- what holds of the bits of a field, counted -/
theorem bits_count {b h : Nat → Int} (hb : Wf b) (hh : Wf h) (sb : csnd b = true) {i : Nat} (hi : i < 12) (L : Nat) : ∀ n, n ≤ 64 → ∀ c, Wf c → csnd c = true → (∀ t, t < n → L.testBit t = true → bitAt b (12 + i) t = true ∧ bitAt c (12 + i) t = false) →
    cntH h (goBits b i L n c).1 + ind (hasB (goBits b i L n c).2 h) = ind (hasB c h) ∧
    (∀ t, t < n → L.testBit t = true → bitAt (goBits b i L n c).2 (12 + i) t = true ∧ bitAt (goBits b i L n c).2 i t = bitAt b i t) ∧
    (∀ j, j < 12 → ∀ t, bitAt (goBits b i L n c).2 (12 + j) t = true → bitAt c (12 + j) t = true ∨ bitAt b (12 + j) t = true) ∧
    (∀ j, j < 12 → j ≠ i → ∀ t, bitAt (goBits b i L n c).2 (12 + j) t = bitAt c (12 + j) t)
  | 0, _, c, _, _, _ => ⟨by simp [goBits, cntH], (fun t ht => absurd ht (by omega)), (fun j _ t ht => .inl ht), fun j _ _ t => rfl⟩
  | n + 1, hn, c, hc, sc, H => by
    rw [goBits]
    cases hL : L.testBit n
    · obtain ⟨e1, e2, e3, e4⟩ := bits_count hb hh sb hi L n (by omega) c hc sc fun t ht => H t (by omega)
      refine ⟨e1, fun t ht hT => ?_, e3, e4⟩
      by_cases e : t = n
      · rw [e, hL] at hT; cases hT
      · exact e2 t (by omega) hT
    · have h64 : n < 64 := by omega
      obtain ⟨b1, b2⟩ := H n (by omega) hL
      obtain ⟨s1, s2, s3, s4, _⟩ := step_facts hb hc sb sc hi h64 b1 b2
      have hw := stepC_wf hb hc i (pow_u64 h64)
      have pre : ∀ t, t < n → L.testBit t = true → bitAt b (12 + i) t = true ∧ bitAt (stepC b c i (2 ^ n)) (12 + i) t = false := fun t ht hT => by
        refine ⟨(H t (by omega) hT).1, ?_⟩
        have : ¬ n = t := by omega
        rw [step_care b hc h64 i t hi hi, (H t (by omega) hT).2]; simp [this]
      obtain ⟨e1, e2, e3, e4⟩ := bits_count hb hh sb hi L n (by omega) (stepC b c i (2 ^ n)) hw s1 pre
      have hP := bits_pieces hb sb hi L n (by omega) (stepC b c i (2 ^ n)) hw s1 pre
      have hs := step_has hb hc hh sb sc hi h64 b1 b2
      rw [if_pos rfl]
      refine ⟨?_, fun t ht hT => ?_, fun j hj t ht => ?_, fun j hj hne t => ?_⟩
      · show cntH h (pieceC b c i (2 ^ n) :: (goBits b i L n (stepC b c i (2 ^ n))).1) + ind (hasB (goBits b i L n (stepC b c i (2 ^ n))).2 h) = _
        unfold cntH at e1 ⊢
        rw [List.countP_cons]
        have : (if hasB (pieceC b c i (2 ^ n)) h = true then 1 else 0) = ind (hasB (pieceC b c i (2 ^ n)) h) := rfl
        rw [this]
        omega
      · by_cases e : t = n
        · subst e
          obtain ⟨p, q⟩ := hP.ext i hi t s3
          exact ⟨p, q.trans s4⟩
        · exact e2 t (by omega) hT
      · rcases e3 j hj t ht with h | h
        · rw [step_care b hc h64 j t hj hi, Bool.or_eq_true, Bool.and_eq_true, decide_eq_true_eq, decide_eq_true_eq] at h
          rcases h with h | ⟨rfl, rfl⟩
          · exact .inl h
          · exact .inr b1
        · exact .inr h
      · show bitAt (goBits b i L n (stepC b c i (2 ^ n))).2 (12 + j) t = _
        rw [e4 j hj hne t, step_care b hc h64 j t hj hi]; simp [hne]
/-- the cube behind all fields -/
def lastC (b : Nat → Int) : Nat → (Nat → Int) → (Nat → Int)
  | 0, c => c
  | m + 1, c => lastC b m (goBits b (11 - m) (leftN b c (11 - m)) 64 c).2
theorem fields_count {b h : Nat → Int} (hb : Wf b) (hh : Wf h) (sb : csnd b = true) : ∀ m, m ≤ 12 → ∀ c, Wf c → csnd c = true →
    cntH h (goFields b m c) + ind (hasB (lastC b m c) h) = ind (hasB c h) ∧ Wf (lastC b m c) ∧ csnd (lastC b m c) = true ∧ Ext c (lastC b m c) ∧
    (∀ i, 12 - m ≤ i → i < 12 → ∀ t, bitAt b (12 + i) t = true → bitAt (lastC b m c) (12 + i) t = true ∧ (bitAt c (12 + i) t = false → bitAt (lastC b m c) i t = bitAt b i t)) ∧
    (∀ j, j < 12 → ∀ t, bitAt (lastC b m c) (12 + j) t = true → bitAt c (12 + j) t = true ∨ bitAt b (12 + j) t = true)
  | 0, _, c, hc, sc => ⟨by simp [goFields, lastC, cntH], hc, sc, Ext.refl c, (fun i h1 h2 => absurd h1 (by omega)), (fun j _ t ht => .inl ht)⟩
  | m + 1, hm, c, hc, sc => by
    have pre : ∀ t, t < 64 → (leftN b c (11 - m)).testBit t = true → bitAt b (12 + (11 - m)) t = true ∧ bitAt c (12 + (11 - m)) t = false := fun t _ hT => by
      rw [left_bit hb hc, Bool.and_eq_true] at hT
      exact ⟨hT.1, by simpa using hT.2⟩
    obtain ⟨e1, e2, e3, e4⟩ := bits_count hb hh sb (i := 11 - m) (by omega) (leftN b c (11 - m)) 64 (by omega) c hc sc pre
    have hP := bits_pieces hb sb (i := 11 - m) (by omega) (leftN b c (11 - m)) 64 (by omega) c hc sc pre
    have wf := (goBits_wf hb (11 - m) (leftN b c (11 - m)) 64 (by omega) c hc).2
    rw [goFields, lastC]
    generalize goBits b (11 - m) (leftN b c (11 - m)) 64 c = r at *
    obtain ⟨f1, f2, f3, f4, f5, f6⟩ := fields_count hb hh sb m (by omega) r.2 wf hP.snd
    refine ⟨?_, f2, f3, hP.ext.trans f4, fun i h1 h2 t ht => ?_, fun j hj t ht => ?_⟩
    · unfold cntH at e1 f1 ⊢
      rw [List.countP_append]
      omega
    · by_cases e : i = 11 - m
      · subst e
        cases hcare : bitAt c (12 + (11 - m)) t
        · have hT : (leftN b c (11 - m)).testBit t = true := by rw [left_bit hb hc, ht, hcare]; rfl
          have h64 : t < 64 := by
            rcases Nat.lt_or_ge t 64 with h | h
            · exact h
            · unfold bitAt at ht; rw [testBit_high (hb.nat _) h] at ht; cases ht
          obtain ⟨g1, g2⟩ := e2 t h64 hT
          obtain ⟨p, q⟩ := f4 (11 - m) h2 t g1
          exact ⟨p, fun _ => q.trans g2⟩
        · obtain ⟨p, _⟩ := (hP.ext.trans f4) (11 - m) h2 t hcare
          exact ⟨p, fun e => by cases e⟩
      · obtain ⟨p, q⟩ := f5 i (by omega) h2 t ht
        refine ⟨p, fun hcf => ?_⟩
        cases hr : bitAt r.2 (12 + i) t
        · exact q hr
        · rw [e4 i h2 e t, hcf] at hr; cases hr
    · rcases f6 j hj t ht with h | h
      · exact e3 j hj t h
      · exact .inr h
/-- P2.2: a header is in one cube of Less if it is in the first cube and not in the second -/
theorem less_count {a b h : Nat → Int} (ha : Wf a) (hb : Wf b) (hh : Wf h) : cntH h (lessL a b) = ind (hasB a h && !hasB b h && csnd b) := by
  unfold lessL
  cases sa : csnd a
  · rw [hasB_cube sa]; rfl
  · cases sb : csnd b
    · show cntH h [] = _
      rw [Bool.and_false]; rfl
    · cases hm : metB a b
      · have : hasB a h = true → hasB b h = false := fun h1 => by
          cases h2 : hasB b h
          · rfl
          · rw [both_met ha hb hh h1 h2] at hm; cases hm
        show cntH h [a] = _
        unfold cntH
        rw [List.countP_singleton]
        cases h1 : hasB a h
        · rfl
        · rw [this h1]; rfl
      · obtain ⟨f1, f2, f3, f4, f5, f6⟩ := fields_count hb hh sb 12 (by omega) a ha sa
        obtain ⟨_, _, H⟩ := (met_iff ha hb).1 hm
        have hl : hasB (lastC b 12 a) h = (hasB a h && hasB b h) := by
          rw [Bool.eq_iff_iff, Bool.and_eq_true]
          have eb : Ext b (lastC b 12 a) := fun j hj t ht => by
            obtain ⟨p, q⟩ := f5 j (by omega) hj t ht
            refine ⟨p, ?_⟩
            cases hc : bitAt a (12 + j) t
            · exact q hc
            · rw [(f4 j hj t hc).2, H j hj t hc ht]
          constructor
          · intro G
            exact ⟨has_ext ha f2 hh sa f4 G, has_ext hb f2 hh sb eb G⟩
          · rintro ⟨A, B⟩
            obtain ⟨_, sh, A'⟩ := (has_iff ha hh).1 A
            obtain ⟨_, _, B'⟩ := (has_iff hb hh).1 B
            refine (has_iff f2 hh).2 ⟨f3, sh, fun j hj t ht => ?_⟩
            rcases f6 j hj t ht with hc | hc
            · rw [A' j hj t hc, (f4 j hj t hc).2]
            · rw [B' j hj t hc, (eb j hj t hc).2]
        rw [hl] at f1
        show cntH h (goFields b 12 a) = _
        revert f1
        generalize cntH h (goFields b 12 a) = n
        cases hasB a h <;> cases hasB b h <;> simp [ind]
end Go.Proofs.YtamjaohoicedfaaDoor
