/-
  What Less makes: pieces of the first cube, apart from the second and from one another.
-/
import Derived.Test.YtamjaohoicedfaaDoorCubeBit
namespace Go.Proofs.YtamjaohoicedfaaDoor
open Go.RowKit

/-- x fixes all that c fixes, alike -/
def Ext (c x : Nat → Int) : Prop := ∀ j, j < 12 → ∀ t, bitAt c (12 + j) t = true → bitAt x (12 + j) t = true ∧ bitAt x j t = bitAt c j t
theorem Ext.refl (c : Nat → Int) : Ext c c := fun _ _ _ h => ⟨h, rfl⟩
theorem Ext.trans {a b c : Nat → Int} (h1 : Ext a b) (h2 : Ext b c) : Ext a c := fun j hj t h => by
  obtain ⟨p, q⟩ := h1 j hj t h
  obtain ⟨p', q'⟩ := h2 j hj t p
  exact ⟨p', q'.trans q⟩
theorem ext_in {a x : Nat → Int} (ha : Wf a) (hx : Wf x) (sa : csnd a = true) (sx : csnd x = true) (h : Ext a x) : inB x a = true := by
  have ia := (csnd_iff ha).1 sa
  have hm : metB x a = true := (met_iff hx ha).2 ⟨sx, sa, fun j hj t _ h2 => (h j hj t h2).2⟩
  unfold inB
  rw [hm, metV_yes hm, Bool.true_and, cEq_iff]
  intro q hq
  refine int_ext (orC_wf hx ha q).1 (hx q).1 fun t => ?_
  have := orC_bit hx ha q t
  unfold bitAt at this
  rw [this]
  have key : bitAt a q t = true → bitAt x q t = true := by
    intro e
    by_cases h12 : q < 12
    · have e' := (ia q h12).2.2 t e
      rw [(h q h12 t e').2]; exact e
    · have e' := e
      rw [show q = 12 + (q - 12) by omega] at e' ⊢
      exact (h (q - 12) (by omega) t e').1
  unfold bitAt at key
  revert key
  cases (x q).toNat.testBit t <;> cases (a q).toNat.testBit t <;> simp
theorem in_ext {a b : Nat → Int} (ha : Wf a) (hb : Wf b) (h : inB a b = true) : metB a b = true ∧ ∀ j t, j < 12 → bitAt b (12 + j) t = true → bitAt a (12 + j) t = true := by
  unfold inB at h
  rw [Bool.and_eq_true] at h
  obtain ⟨hm, hc⟩ := h
  refine ⟨hm, fun j t hj e => ?_⟩
  rw [metV_yes hm] at hc
  have q := (cEq_iff _ _).1 hc (12 + j) (by omega)
  have := orC_bit ha hb (12 + j) t
  unfold bitAt at this e ⊢
  rw [q, e] at this
  rw [this]; simp
/-- two cubes that fix a bit otherwise have nothing in common -/
theorem met_no {x y : Nat → Int} (hx : Wf x) (hy : Wf y) {j t : Nat} (hj : j < 12) (h1 : bitAt x (12 + j) t = true) (h2 : bitAt y (12 + j) t = true) (h : bitAt x j t ≠ bitAt y j t) : metB x y = false := by
  cases hm : metB x y
  · rfl
  · exact absurd (((met_iff hx hy).1 hm).2.2 j hj t h1 h2) h
section
variable {b c : Nat → Int} (hb : Wf b) (hc : Wf c) (sc : csnd c = true) {i n : Nat} (hi : i < 12) (hn : n < 64)
theorem two_bit (n t : Nat) : ((2 : Int) ^ n).toNat.testBit t = decide (n = t) := by
  have hp : (2 : Int) ^ n = ((2 ^ n : Nat) : Int) := by push_cast; rfl
  rw [hp, Int.toNat_natCast, Nat.testBit_two_pow]
theorem step_care (b : Nat → Int) {c : Nat → Int} (hc : Wf c) {i n : Nat} (hn : n < 64) (j t : Nat) (hj : j < 12) (hi : i < 12) : bitAt (stepC b c i (2 ^ n)) (12 + j) t = (bitAt c (12 + j) t || (decide (j = i) && decide (n = t))) := by
  unfold bitAt stepC upd
  rw [if_neg (by omega)]
  by_cases e : j = i
  · subst e
    rw [if_pos rfl, bit_or (hc _) (pow_u64 hn), two_bit]; simp
  · rw [if_neg (by omega)]; simp [e]
theorem step_val {b c : Nat → Int} (hb : Wf b) (hc : Wf c) {i n : Nat} (hn : n < 64) (j t : Nat) (hj : j < 12) : bitAt (stepC b c i (2 ^ n)) j t = (bitAt c j t || (decide (j = i) && decide (n = t) && bitAt b j t)) := by
  unfold bitAt stepC upd
  by_cases e : j = i
  · subst e
    rw [if_pos rfl, bit_or (hc _) (and_wf (hb _) (pow_u64 hn)), bit_and (hb _) (pow_u64 hn), two_bit]; simp [Bool.and_comm]
  · rw [if_neg e, if_neg (by omega)]; simp [e]
theorem piece_care (b : Nat → Int) {c : Nat → Int} {i n : Nat} (j t : Nat) (hj : j < 12) (hi : i < 12) : bitAt (pieceC b c i (2 ^ n)) (12 + j) t = bitAt (stepC b c i (2 ^ n)) (12 + j) t := by
  unfold bitAt pieceC
  rw [show upd (stepC b c i (2 ^ n)) i (bits .xor .u64 (stepC b c i (2 ^ n) i) (2 ^ n)) (12 + j) = stepC b c i (2 ^ n) (12 + j) from if_neg (by omega)]
theorem piece_val {b c : Nat → Int} (hb : Wf b) (hc : Wf c) {i n : Nat} (hn : n < 64) (j t : Nat) : bitAt (pieceC b c i (2 ^ n)) j t = (bitAt (stepC b c i (2 ^ n)) j t != (decide (j = i) && decide (n = t))) := by
  unfold bitAt pieceC
  by_cases e : j = i
  · subst e
    rw [show upd (stepC b c j (2 ^ n)) j (bits .xor .u64 (stepC b c j (2 ^ n) j) (2 ^ n)) j = bits .xor .u64 (stepC b c j (2 ^ n) j) (2 ^ n) from if_pos rfl, bit_xor (stepC_wf hb hc j (pow_u64 hn) j) (pow_u64 hn), two_bit]; simp
  · rw [show upd (stepC b c i (2 ^ n)) i (bits .xor .u64 (stepC b c i (2 ^ n) i) (2 ^ n)) j = stepC b c i (2 ^ n) j from if_neg e]; simp [e]
end
theorem fit_bits {k : Nat} {x : Int} (h0 : 0 ≤ x) : fitB k x = true ↔ ∀ t, (sz k).toNat ≤ t → x.toNat.testBit t = false := by
  rw [fit_nat k x h0]
  constructor
  · intro h t ht
    exact Nat.testBit_lt_two_pow (Nat.lt_of_lt_of_le h (Nat.pow_le_pow_right (by decide) ht))
  · intro h
    exact Nat.lt_pow_two_of_testBit _ fun t ht => h t ht
/-- a step keeps a cube sound, fixes all that it fixed, and one bit more as the other cube -/
theorem step_facts {b c : Nat → Int} (hb : Wf b) (hc : Wf c) (sb : csnd b = true) (sc : csnd c = true) {i n : Nat} (hi : i < 12) (hn : n < 64) (h1 : bitAt b (12 + i) n = true) (h2 : bitAt c (12 + i) n = false) :
    csnd (stepC b c i (2 ^ n)) = true ∧ Ext c (stepC b c i (2 ^ n)) ∧ bitAt (stepC b c i (2 ^ n)) (12 + i) n = true ∧ bitAt (stepC b c i (2 ^ n)) i n = bitAt b i n ∧
    csnd (pieceC b c i (2 ^ n)) = true ∧ Ext c (pieceC b c i (2 ^ n)) ∧ bitAt (pieceC b c i (2 ^ n)) (12 + i) n = true ∧ bitAt (pieceC b c i (2 ^ n)) i n = !bitAt b i n := by
  have hw := stepC_wf hb hc i (pow_u64 hn)
  have hp := pieceC_wf hb hc i (pow_u64 hn)
  have ib := (csnd_iff hb).1 sb
  have ic := (csnd_iff hc).1 sc
  have h3 : bitAt c i n = false := by
    cases e : bitAt c i n
    · rfl
    · rw [(ic i hi).2.2 n e] at h2; cases h2
  have hnz : n < (sz i).toNat := by
    rcases Nat.lt_or_ge n (sz i).toNat with h | h
    · exact h
    · have := (fit_bits (hb (12 + i)).1).1 (ib i hi).1 n h
      unfold bitAt at h1; rw [this] at h1; cases h1
  have e1 : bitAt (stepC b c i (2 ^ n)) (12 + i) n = true := by rw [step_care b hc hn i n hi hi]; simp
  have e2 : bitAt (stepC b c i (2 ^ n)) i n = bitAt b i n := by rw [step_val hb hc hn i n hi, h3]; simp
  have fitS : ∀ j, j < 12 → fitB j (stepC b c i (2 ^ n) (12 + j)) = true ∧ fitB j (stepC b c i (2 ^ n) j) = true := by
    intro j hj
    rw [fit_bits (hw _).1, fit_bits (hw _).1]
    constructor
    · intro t ht
      have := step_care b hc hn j t hj hi
      have z := (fit_bits (hc (12 + j)).1).1 (ic j hj).1 t ht
      unfold bitAt at this
      rw [this, z]
      by_cases e : j = i
      · subst e
        have : ¬ n = t := by omega
        simp [this]
      · simp [e]
    · intro t ht
      have := step_val hb hc hn (i := i) j t hj
      have z := (fit_bits (hc j).1).1 (ic j hj).2.1 t ht
      unfold bitAt at this
      rw [this, z]
      by_cases e : j = i
      · subst e
        have : ¬ n = t := by omega
        simp [this]
      · simp [e]
  have sS : csnd (stepC b c i (2 ^ n)) = true := by
    rw [csnd_iff hw]
    intro j hj
    refine ⟨(fitS j hj).1, (fitS j hj).2, fun t => ?_⟩
    rw [step_care b hc hn j t hj hi, step_val hb hc hn j t hj]
    have p := (ic j hj).2.2 t
    revert p
    cases bitAt c j t <;> cases bitAt c (12 + j) t <;> cases decide (j = i) <;> cases decide (n = t) <;> simp
  have xS : Ext c (stepC b c i (2 ^ n)) := fun j hj t h => by
    rw [step_care b hc hn j t hj hi, step_val hb hc hn j t hj, h]
    refine ⟨rfl, ?_⟩
    by_cases e : j = i ∧ n = t
    · obtain ⟨rfl, rfl⟩ := e
      rw [h] at h2; cases h2
    · by_cases ea : j = i
      · have eb : ¬ n = t := fun q => e ⟨ea, q⟩
        simp [eb]
      · simp [ea]
  have sP : csnd (pieceC b c i (2 ^ n)) = true := by
    rw [csnd_iff hp]
    intro j hj
    have f := fitS j hj
    have q := ((csnd_iff hw).1 sS j hj).2.2
    rw [fit_bits (hw _).1, fit_bits (hw _).1] at f
    rw [fit_bits (hp _).1, fit_bits (hp _).1]
    refine ⟨fun t ht => ?_, fun t ht => ?_, fun t => ?_⟩
    · have := piece_care b (c := c) (n := n) j t hj hi
      unfold bitAt at this
      rw [this]; exact f.1 t ht
    · have := piece_val hb hc hn (i := i) j t
      unfold bitAt at this
      rw [this, f.2 t ht]
      by_cases e : j = i
      · subst e
        have : ¬ n = t := by omega
        simp [this]
      · simp [e]
    · rw [piece_care b j t hj hi, piece_val hb hc hn]
      by_cases e : j = i ∧ n = t
      · obtain ⟨rfl, rfl⟩ := e
        intro _; exact e1
      · have : (decide (j = i) && decide (n = t)) = false := by
          rw [Bool.and_eq_false_iff, decide_eq_false_iff_not, decide_eq_false_iff_not]
          by_cases ea : j = i
          · exact .inr fun q => e ⟨ea, q⟩
          · exact .inl ea
        rw [this]
        intro r
        exact q t (by simpa using r)
  refine ⟨sS, xS, e1, e2, sP, fun j hj t h => ?_, by rw [piece_care b i n hi hi]; exact e1, by rw [piece_val hb hc hn, e2]; simp⟩
  obtain ⟨p, q⟩ := xS j hj t h
  rw [piece_care b j t hj hi, piece_val hb hc hn]
  refine ⟨p, ?_⟩
  by_cases e : j = i ∧ n = t
  · obtain ⟨rfl, rfl⟩ := e
    rw [h] at h2; cases h2
  · have : (decide (j = i) && decide (n = t)) = false := by
      rw [Bool.and_eq_false_iff, decide_eq_false_iff_not, decide_eq_false_iff_not]
      by_cases ea : j = i
      · exact .inr fun q => e ⟨ea, q⟩
      · exact .inl ea
    rw [this, q]; simp
/-- what holds of the pieces of some bits of a field -/
structure Pieces (b c c' : Nat → Int) (l : List (Nat → Int)) : Prop where
  each : ∀ x ∈ l, csnd x = true ∧ Ext c x ∧ metB x b = false
  snd : csnd c' = true
  ext : Ext c c'
  pair : l.Pairwise fun x y => metB y x = false
  later : ∀ x ∈ l, ∀ y, Wf y → csnd y = true → Ext c' y → metB y x = false
theorem bits_pieces {b : Nat → Int} (hb : Wf b) (sb : csnd b = true) {i : Nat} (hi : i < 12) (L : Nat) : ∀ n, n ≤ 64 → ∀ c, Wf c → csnd c = true → (∀ t, t < n → L.testBit t = true → bitAt b (12 + i) t = true ∧ bitAt c (12 + i) t = false) →
    Pieces b c (goBits b i L n c).2 (goBits b i L n c).1
  | 0, _, c, _, sc, _ => ⟨(fun x hx => by cases hx), sc, Ext.refl c, List.Pairwise.nil, (fun x hx => by cases hx)⟩
  | n + 1, hn, c, hc, sc, H => by
    rw [goBits]
    cases hL : L.testBit n
    · exact bits_pieces hb sb hi L n (by omega) c hc sc fun t ht => H t (by omega)
    · have h64 : n < 64 := by omega
      obtain ⟨b1, b2⟩ := H n (by omega) hL
      obtain ⟨s1, s2, s3, s4, p1, p2, p3, p4⟩ := step_facts hb hc sb sc hi h64 b1 b2
      have hw := stepC_wf hb hc i (pow_u64 h64)
      have hp := pieceC_wf hb hc i (pow_u64 h64)
      have ih := bits_pieces hb sb hi L n (by omega) (stepC b c i (2 ^ n)) hw s1 fun t ht hT => by
        refine ⟨(H t (by omega) hT).1, ?_⟩
        have : ¬ n = t := by omega
        rw [step_care b hc h64 i t hi hi, (H t (by omega) hT).2]; simp [this]
      have wf := goBits_wf hb i L n (by omega) _ hw
      have key : ∀ y, Wf y → Ext (stepC b c i (2 ^ n)) y → metB y (pieceC b c i (2 ^ n)) = false := fun y wy ey => by
        obtain ⟨q1, q2⟩ := ey i hi n s3
        refine met_no wy hp hi q1 p3 ?_
        rw [q2, s4, p4]
        cases bitAt b i n <;> simp
      rw [if_pos rfl]
      refine ⟨fun x hx => ?_, ih.snd, s2.trans ih.ext, ?_, fun x hx y wy sy ey => ?_⟩
      · rcases List.mem_cons.1 hx with rfl | hx
        · refine ⟨p1, p2, met_no hp hb hi p3 b1 ?_⟩
          rw [p4]; cases bitAt b i n <;> simp
        · obtain ⟨r1, r2, r3⟩ := ih.each x hx
          exact ⟨r1, s2.trans r2, r3⟩
      · refine List.Pairwise.cons (fun y hy => ?_) ih.pair
        exact key y (wf.1 y hy) (ih.each y hy).2.1
      · rcases List.mem_cons.1 hx with rfl | hx
        · exact key y wy (ih.ext.trans ey)
        · exact ih.later x hx y wy sy ey
theorem left_bit {b c : Nat → Int} (hb : Wf b) (hc : Wf c) (i t : Nat) : (leftN b c i).testBit t = (bitAt b (12 + i) t && !bitAt c (12 + i) t) := bit_andNot (hb _) (hc _) t
theorem fields_pieces {b : Nat → Int} (hb : Wf b) (sb : csnd b = true) : ∀ m, m ≤ 12 → ∀ c, Wf c → csnd c = true → (∀ x ∈ goFields b m c, csnd x = true ∧ Ext c x ∧ metB x b = false) ∧ (goFields b m c).Pairwise fun x y => metB y x = false
  | 0, _, _, _, _ => ⟨(fun x hx => by cases hx), List.Pairwise.nil⟩
  | m + 1, hm, c, hc, sc => by
    have hP := bits_pieces hb sb (i := 11 - m) (by omega) (leftN b c (11 - m)) 64 (by omega) c hc sc fun t _ hT => by
      rw [left_bit hb hc] at hT
      rw [Bool.and_eq_true] at hT
      exact ⟨hT.1, by simpa using hT.2⟩
    have wf := goBits_wf hb (11 - m) (leftN b c (11 - m)) 64 (by omega) c hc
    obtain ⟨f1, f2⟩ := fields_pieces hb sb m (by omega) _ wf.2 hP.snd
    have f3 := goFields_wf hb m _ wf.2
    rw [goFields]
    refine ⟨fun x hx => ?_, List.pairwise_append.2 ⟨hP.pair, f2, fun x hx y hy => ?_⟩⟩
    · rcases List.mem_append.1 hx with h | h
      · exact hP.each x h
      · obtain ⟨r1, r2, r3⟩ := f1 x h
        exact ⟨r1, hP.ext.trans r2, r3⟩
    · obtain ⟨r1, r2, _⟩ := f1 y hy
      exact hP.later x hx y (f3 y hy) r1 r2
theorem in_refl {a : Nat → Int} (ha : Wf a) (sa : csnd a = true) : inB a a = true := ext_in ha ha sa sa (Ext.refl a)
/-- P2.2: the pieces lie in the first cube, have nothing of the second, and nothing in common -/
theorem less_parts {a b : Nat → Int} (ha : Wf a) (hb : Wf b) : (∀ x ∈ lessL a b, csnd x = true ∧ inB x a = true ∧ metB x b = false) ∧ (lessL a b).Pairwise fun x y => metB y x = false := by
  unfold lessL
  cases sa : csnd a
  · exact ⟨(fun x hx => by cases hx), List.Pairwise.nil⟩
  · cases sb : csnd b
    · exact ⟨(fun x hx => by cases hx), List.Pairwise.nil⟩
    · cases hm : metB a b
      · refine ⟨fun x hx => ?_, List.pairwise_singleton _ _⟩
        obtain rfl : x = a := List.mem_singleton.1 hx
        exact ⟨sa, in_refl ha sa, hm⟩
      · obtain ⟨f1, f2⟩ := fields_pieces hb sb 12 (by omega) a ha sa
        have f3 := goFields_wf hb 12 a ha
        refine ⟨fun x hx => ?_, f2⟩
        obtain ⟨r1, r2, r3⟩ := f1 x hx
        exact ⟨r1, ext_in ha (f3 x hx) sa r1 r2, r3⟩
/-- the fields' sizes, from the last one on -/
def sumSz : Nat → Nat
  | 0 => 0
  | m + 1 => (sz (11 - m)).toNat + sumSz m
theorem fields_len {b : Nat → Int} (hb : Wf b) (sb : csnd b = true) : ∀ m, m ≤ 12 → ∀ c, Wf c → (goFields b m c).length ≤ sumSz m
  | 0, _, _, _ => Nat.le_refl _
  | m + 1, hm, c, hc => by
    have wf := goBits_wf hb (11 - m) (leftN b c (11 - m)) 64 (by omega) c hc
    have ih := fields_len hb sb m (by omega) _ wf.2
    have s48 := sz_le (11 - m)
    have hk : goBits b (11 - m) (leftN b c (11 - m)) 64 c = goBits b (11 - m) (leftN b c (11 - m)) (sz (11 - m)).toNat c := by
      refine goBits_skip b (11 - m) _ c (sz (11 - m)).toNat 64 (by omega) fun t h1 _ => ?_
      have := (fit_bits (hb (12 + (11 - m))).1).1 ((csnd_iff hb).1 sb (11 - m) (by omega)).1 t h1
      rw [left_bit hb hc]
      unfold bitAt
      rw [this]; rfl
    have hl := goBits_len b (11 - m) (leftN b c (11 - m)) (sz (11 - m)).toNat c
    rw [← hk] at hl
    rw [goFields, List.length_append, sumSz]
    omega
theorem less_len {a b : Nat → Int} (ha : Wf a) (hb : Wf b) : (lessL a b).length ≤ 248 := by
  unfold lessL
  cases sa : csnd a
  · simp
  · cases sb : csnd b
    · simp
    · cases hm : metB a b
      · simp
      · have := fields_len hb sb 12 (by omega) a ha
        rw [show sumSz 12 = 248 by decide] at this
        simpa using this
/-- nothing is left of a cube that is within the other -/
theorem less_none {a b : Nat → Int} (ha : Wf a) (hb : Wf b) (h : inB a b = true) : lessL a b = [] := by
  obtain ⟨hm, hc⟩ := in_ext ha hb h
  have key : ∀ m, m ≤ 12 → goFields b m a = [] := by
    intro m
    induction m with
    | zero => intro _; rfl
    | succ m ih =>
      intro hm
      have h0 : leftN b a (11 - m) = 0 := (nat_eq_zero_iff _).2 fun t => by
        rw [left_bit hb ha]
        cases e : bitAt b (12 + (11 - m)) t
        · rfl
        · rw [hc (11 - m) t (by omega) e]; rfl
      rw [goFields, h0, goBits_end b (11 - m) 0 a 64 (by decide)]
      exact ih (by omega)
  obtain ⟨sa, sb, _⟩ := (met_iff ha hb).1 hm
  simp [lessL, sa, sb, hm, key 12 (by omega)]
end Go.Proofs.YtamjaohoicedfaaDoor
