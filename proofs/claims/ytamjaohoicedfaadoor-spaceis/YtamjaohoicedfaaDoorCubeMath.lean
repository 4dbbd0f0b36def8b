/-
  Cubes bit by bit: what Sound, Meet, Within mean, and the laws of Meet.
-/
import Derived.Test.YtamjaohoicedfaaDoorCubeEq
import Derived.Laws.BitsAllLaws
namespace Go.Proofs.YtamjaohoicedfaaDoor
open Go.RowKit

/-- the numbers of a header or cube are uint64s -/
def Wf (a : Nat → Int) : Prop := ∀ j, 0 ≤ a j ∧ a j < 18446744073709551616
theorem Wf.nonneg {a : Nat → Int} (h : Wf a) : ∀ j, 0 ≤ a j := fun j => (h j).1
theorem Wf.care {a : Nat → Int} (h : Wf a) : Wf (care a) := fun j => h (12 + j)
theorem Wf.nat {a : Nat → Int} (h : Wf a) (j : Nat) : (a j).toNat < 18446744073709551616 := by have := h j; omega
theorem zh_wf : Wf zh := fun _ => ⟨by unfold zh; decide, by unfold zh; decide⟩
/-- a bit of a number -/
def bitAt (a : Nat → Int) (j i : Nat) : Bool := (a j).toNat.testBit i

theorem nat_eq_zero_iff (n : Nat) : n = 0 ↔ ∀ i, n.testBit i = false :=
  ⟨fun h i => by rw [h]; exact Nat.zero_testBit i, fun h => Nat.eq_of_testBit_eq fun i => by rw [h i, Nat.zero_testBit]⟩
theorem int_ne_zero (n : Nat) : (((n : Nat) : Int) != 0) = false ↔ n = 0 := by
  rw [bne_eq_false_iff_eq]; omega
theorem testBit_high {n i : Nat} (h : n < 18446744073709551616) (hi : 64 ≤ i) : n.testBit i = false :=
  Nat.testBit_lt_two_pow (Nat.lt_of_lt_of_le h (Nat.le_trans (by decide) (Nat.pow_le_pow_right (by decide) hi)))
theorem testBit_comp {y i : Nat} (h : y < 18446744073709551616) : (18446744073709551615 - y).testBit i = (decide (i < 64) && !y.testBit i) := by
  have := Nat.testBit_two_pow_sub_succ (x := y) (n := 64) (by simpa using h) i
  rw [← this, show 18446744073709551615 - y = 2 ^ 64 - (y + 1) by omega]
theorem over_iff {a : Nat → Int} (h : Wf a) (j : Nat) : overB a j = false ↔ ∀ i, bitAt a j i = true → bitAt a (12 + j) i = true := by
  unfold overB bitAt
  rw [u64_andNot _ _ (h j).1 (h j).2 (h (12 + j)).1 (h (12 + j)).2, int_ne_zero, nat_eq_zero_iff]
  refine forall_congr' fun i => ?_
  rw [Nat.testBit_and, testBit_comp (h.nat (12 + j))]
  by_cases hi : i < 64
  · cases (a j).toNat.testBit i <;> cases (a (12 + j)).toNat.testBit i <;> simp [hi]
  · rw [testBit_high (h.nat j) (by omega)]; simp
theorem and_wf {x y : Int} (hx : 0 ≤ x ∧ x < 18446744073709551616) (hy : 0 ≤ y ∧ y < 18446744073709551616) : 0 ≤ bits .and .u64 x y ∧ bits .and .u64 x y < 18446744073709551616 := by
  rw [u64_and _ _ hx.1 hx.2 hy.1 hy.2]
  have := Nat.and_lt_two_pow (n := 64) x.toNat (y := y.toNat) (by omega)
  omega
theorem or_wf {x y : Int} (hx : 0 ≤ x ∧ x < 18446744073709551616) (hy : 0 ≤ y ∧ y < 18446744073709551616) : 0 ≤ bits .or .u64 x y ∧ bits .or .u64 x y < 18446744073709551616 := by
  rw [u64_or _ _ hx.1 hx.2 hy.1 hy.2]
  have := Nat.or_lt_two_pow (n := 64) (x := x.toNat) (y := y.toNat) (by omega) (by omega)
  omega
theorem xor_wf {x y : Int} (hx : 0 ≤ x ∧ x < 18446744073709551616) (hy : 0 ≤ y ∧ y < 18446744073709551616) : 0 ≤ bits .xor .u64 x y ∧ bits .xor .u64 x y < 18446744073709551616 := by
  rw [u64_xor _ _ hx.1 hx.2 hy.1 hy.2]
  have := Nat.xor_lt_two_pow (n := 64) (x := x.toNat) (y := y.toNat) (by omega) (by omega)
  omega
theorem andNot_wf {x y : Int} (hx : 0 ≤ x ∧ x < 18446744073709551616) (hy : 0 ≤ y ∧ y < 18446744073709551616) : 0 ≤ bits .andNot .u64 x y ∧ bits .andNot .u64 x y < 18446744073709551616 := by
  rw [u64_andNot _ _ hx.1 hx.2 hy.1 hy.2]
  have := Nat.and_lt_two_pow (n := 64) x.toNat (y := 18446744073709551615 - y.toNat) (by omega)
  omega
theorem bit_and {x y : Int} (hx : 0 ≤ x ∧ x < 18446744073709551616) (hy : 0 ≤ y ∧ y < 18446744073709551616) (i : Nat) : (bits .and .u64 x y).toNat.testBit i = (x.toNat.testBit i && y.toNat.testBit i) := by
  rw [u64_and _ _ hx.1 hx.2 hy.1 hy.2, Int.toNat_natCast, Nat.testBit_and]
theorem bit_or {x y : Int} (hx : 0 ≤ x ∧ x < 18446744073709551616) (hy : 0 ≤ y ∧ y < 18446744073709551616) (i : Nat) : (bits .or .u64 x y).toNat.testBit i = (x.toNat.testBit i || y.toNat.testBit i) := by
  rw [u64_or _ _ hx.1 hx.2 hy.1 hy.2, Int.toNat_natCast, Nat.testBit_or]
theorem bit_xor {x y : Int} (hx : 0 ≤ x ∧ x < 18446744073709551616) (hy : 0 ≤ y ∧ y < 18446744073709551616) (i : Nat) : (bits .xor .u64 x y).toNat.testBit i = (x.toNat.testBit i != y.toNat.testBit i) := by
  rw [u64_xor _ _ hx.1 hx.2 hy.1 hy.2, Int.toNat_natCast, Nat.testBit_xor]
theorem bit_andNot {x y : Int} (hx : 0 ≤ x ∧ x < 18446744073709551616) (hy : 0 ≤ y ∧ y < 18446744073709551616) (i : Nat) : (bits .andNot .u64 x y).toNat.testBit i = (x.toNat.testBit i && !y.toNat.testBit i) := by
  rw [u64_andNot _ _ hx.1 hx.2 hy.1 hy.2, Int.toNat_natCast, Nat.testBit_and, testBit_comp (by omega)]
  by_cases hi : i < 64
  · simp [hi]
  · rw [testBit_high (n := x.toNat) (by omega) (by omega)]; simp
/-- two numbers of 64 bits are the same if their bits are -/
theorem int_ext {x y : Int} (hx : 0 ≤ x) (hy : 0 ≤ y) (h : ∀ i, x.toNat.testBit i = y.toNat.testBit i) : x = y := by
  have := Nat.eq_of_testBit_eq h
  omega
theorem ne_zero_iff {x : Int} (hx : 0 ≤ x) : (x != 0) = false ↔ ∀ i, x.toNat.testBit i = false := by
  rw [bne_eq_false_iff_eq, ← nat_eq_zero_iff]; omega
theorem clash_iff {a b : Nat → Int} (ha : Wf a) (hb : Wf b) (j : Nat) : clashB a b j = false ↔ ∀ i, bitAt a (12 + j) i = true → bitAt b (12 + j) i = true → bitAt a j i = bitAt b j i := by
  have h1 := xor_wf (ha j) (hb j)
  have h2 := and_wf h1 (ha (12 + j))
  have h3 := and_wf h2 (hb (12 + j))
  unfold clashB
  rw [ne_zero_iff h3.1]
  refine forall_congr' fun i => ?_
  rw [bit_and h2 (hb (12 + j)), bit_and h1 (ha (12 + j)), bit_xor (ha j) (hb j)]
  unfold bitAt
  cases (a j).toNat.testBit i <;> cases (b j).toNat.testBit i <;> cases (a (12 + j)).toNat.testBit i <;> cases (b (12 + j)).toNat.testBit i <;> simp
theorem off_iff {c h : Nat → Int} (hc : Wf c) (hh : Wf h) (j : Nat) : offB c h j = false ↔ ∀ i, (bitAt h j i && bitAt c (12 + j) i) = bitAt c j i := by
  have h1 := and_wf (hh j) (hc (12 + j))
  unfold offB
  rw [bne_eq_false_iff_eq]
  unfold bitAt
  constructor
  · intro e i; rw [← bit_and (hh j) (hc (12 + j)), e]
  · intro e; exact int_ext h1.1 (hc j).1 fun i => by rw [bit_and (hh j) (hc (12 + j)), e i]
theorem fit_nat (k : Nat) (v : Int) (h0 : 0 ≤ v) : fitB k v = true ↔ v.toNat < 2 ^ (sz k).toNat := by
  unfold fitB
  rw [decide_eq_true_eq]
  constructor
  · intro h
    have : (v.toNat : Int) < ((2 ^ (sz k).toNat : Nat) : Int) := by rw [Int.toNat_of_nonneg h0]; exact_mod_cast h
    exact_mod_cast this
  · intro h
    have : (v.toNat : Int) < ((2 ^ (sz k).toNat : Nat) : Int) := by exact_mod_cast h
    rw [Int.toNat_of_nonneg h0] at this
    exact_mod_cast this
theorem snd_iff (a : Nat → Int) : sndB a = true ↔ ∀ j, j < 12 → fitB j (a j) = true := by simp [sndB]
theorem csnd_iff {a : Nat → Int} (h : Wf a) : csnd a = true ↔ (∀ j, j < 12 → fitB j (a (12 + j)) = true ∧ fitB j (a j) = true ∧ ∀ i, bitAt a j i = true → bitAt a (12 + j) i = true) := by
  unfold csnd
  rw [Bool.and_eq_true, Bool.and_eq_true, snd_iff, snd_iff, List.all_eq_true]
  constructor
  · rintro ⟨⟨h1, h2⟩, h3⟩ j hj
    refine ⟨h1 j hj, h2 j hj, (over_iff h j).1 ?_⟩
    have := h3 j (by simpa using hj)
    simpa using this
  · intro H
    refine ⟨⟨fun j hj => (H j hj).1, fun j hj => (H j hj).2.1⟩, fun j hj => ?_⟩
    have := (over_iff h j).2 (H j (by simpa using hj)).2.2
    simp [this]
theorem met_iff {a b : Nat → Int} (ha : Wf a) (hb : Wf b) : metB a b = true ↔ csnd a = true ∧ csnd b = true ∧ ∀ j, j < 12 → ∀ i, bitAt a (12 + j) i = true → bitAt b (12 + j) i = true → bitAt a j i = bitAt b j i := by
  unfold metB
  rw [Bool.and_eq_true, Bool.and_eq_true, List.all_eq_true, and_assoc]
  refine and_congr Iff.rfl (and_congr Iff.rfl ⟨fun h j hj => (clash_iff ha hb j).1 ?_, fun h j hj => ?_⟩)
  · have := h j (by simpa using hj); simpa using this
  · have := (clash_iff ha hb j).2 (h j (by simpa using hj)); simp [this]
theorem orC_wf {a b : Nat → Int} (ha : Wf a) (hb : Wf b) : Wf (orC a b) := fun j => or_wf (ha j) (hb j)
theorem metV_wf {a b : Nat → Int} (ha : Wf a) (hb : Wf b) : Wf (metV a b) := by
  unfold metV; split
  · exact orC_wf ha hb
  · exact zh_wf
theorem orC_bit {a b : Nat → Int} (ha : Wf a) (hb : Wf b) (j i : Nat) : bitAt (orC a b) j i = (bitAt a j i || bitAt b j i) := bit_or (ha j) (hb j) i
theorem orC_fit {a b : Nat → Int} (ha : Wf a) (hb : Wf b) {k j : Nat} (h1 : fitB k (a j) = true) (h2 : fitB k (b j) = true) : fitB k (orC a b j) = true := by
  rw [fit_nat k _ (ha j).1] at h1
  rw [fit_nat k _ (hb j).1] at h2
  rw [fit_nat k _ (orC_wf ha hb j).1]
  unfold orC
  rw [u64_or _ _ (ha j).1 (ha j).2 (hb j).1 (hb j).2, Int.toNat_natCast]
  exact Nat.or_lt_two_pow h1 h2
theorem orC_snd {a b : Nat → Int} (ha : Wf a) (hb : Wf b) (h1 : csnd a = true) (h2 : csnd b = true) : csnd (orC a b) = true := by
  rw [csnd_iff ha] at h1
  rw [csnd_iff hb] at h2
  rw [csnd_iff (orC_wf ha hb)]
  intro j hj
  obtain ⟨a1, a2, a3⟩ := h1 j hj
  obtain ⟨b1, b2, b3⟩ := h2 j hj
  refine ⟨orC_fit ha hb a1 b1, orC_fit ha hb a2 b2, fun i => ?_⟩
  rw [orC_bit ha hb, orC_bit ha hb]
  have p := a3 i
  have q := b3 i
  revert p q
  cases bitAt a j i <;> cases bitAt b j i <;> cases bitAt a (12 + j) i <;> cases bitAt b (12 + j) i <;> simp
theorem metV_yes {a b : Nat → Int} (h : metB a b = true) : metV a b = orC a b := by simp [metV, h]
theorem met_or_r {a b c : Nat → Int} (ha : Wf a) (hb : Wf b) (hc : Wf c) (h : metB a b = true) : metB (orC a b) c = true ↔ metB a c = true ∧ metB b c = true := by
  rw [met_iff (orC_wf ha hb) hc, met_iff ha hc, met_iff hb hc]
  obtain ⟨sa, sb, hab⟩ := (met_iff ha hb).1 h
  have ia := (csnd_iff ha).1 sa
  have ib := (csnd_iff hb).1 sb
  constructor
  · rintro ⟨_, sc, H⟩
    refine ⟨⟨sa, sc, fun j hj i => ?_⟩, ⟨sb, sc, fun j hj i => ?_⟩⟩ <;>
    · have p := (ia j hj).2.2 i
      have q := (ib j hj).2.2 i
      have r := hab j hj i
      have t := H j hj i
      rw [orC_bit ha hb, orC_bit ha hb] at t
      revert p q r t
      cases bitAt a j i <;> cases bitAt b j i <;> cases bitAt c j i <;> cases bitAt a (12 + j) i <;> cases bitAt b (12 + j) i <;> cases bitAt c (12 + j) i <;> simp
  · rintro ⟨⟨_, sc, H1⟩, ⟨_, _, H2⟩⟩
    refine ⟨orC_snd ha hb sa sb, sc, fun j hj i => ?_⟩
    have p := (ia j hj).2.2 i
    have q := (ib j hj).2.2 i
    have r := H1 j hj i
    have t := H2 j hj i
    rw [orC_bit ha hb, orC_bit ha hb]
    revert p q r t
    cases bitAt a j i <;> cases bitAt b j i <;> cases bitAt c j i <;> cases bitAt a (12 + j) i <;> cases bitAt b (12 + j) i <;> cases bitAt c (12 + j) i <;> simp
theorem met_comm {a b : Nat → Int} (ha : Wf a) (hb : Wf b) : metB a b = metB b a := by
  rw [Bool.eq_iff_iff, met_iff ha hb, met_iff hb ha]
  constructor
  · rintro ⟨h1, h2, h3⟩; exact ⟨h2, h1, fun j hj i p q => (h3 j hj i q p).symm⟩
  · rintro ⟨h1, h2, h3⟩; exact ⟨h2, h1, fun j hj i p q => (h3 j hj i q p).symm⟩
theorem orC_comm {a b : Nat → Int} (ha : Wf a) (hb : Wf b) : orC a b = orC b a := by
  funext j
  exact int_ext (orC_wf ha hb j).1 (orC_wf hb ha j).1 fun i => by
    have p := orC_bit ha hb j i
    have q := orC_bit hb ha j i
    unfold bitAt at p q
    rw [p, q, Bool.or_comm]
theorem metV_comm {a b : Nat → Int} (ha : Wf a) (hb : Wf b) : metV a b = metV b a := by
  unfold metV
  rw [met_comm ha hb, orC_comm ha hb]
theorem orC_assoc {a b c : Nat → Int} (ha : Wf a) (hb : Wf b) (hc : Wf c) : orC (orC a b) c = orC a (orC b c) := by
  funext j
  have e1 := orC_wf ha hb
  have e2 := orC_wf hb hc
  exact int_ext (orC_wf e1 hc j).1 (orC_wf ha e2 j).1 fun i => by
    have p := orC_bit e1 hc j i
    have q := orC_bit ha e2 j i
    rw [orC_bit ha hb] at p
    rw [orC_bit hb hc] at q
    unfold bitAt at p q
    rw [p, q, Bool.or_assoc]
theorem met_or_l {a b c : Nat → Int} (ha : Wf a) (hb : Wf b) (hc : Wf c) (h : metB b c = true) : metB a (orC b c) = true ↔ metB a b = true ∧ metB a c = true := by
  rw [met_comm ha (orC_wf hb hc), met_or_r hb hc ha h, met_comm hb ha, met_comm hc ha]
/-- what three cubes have in common does not hang on the order -/
theorem met_three {a b c : Nat → Int} (ha : Wf a) (hb : Wf b) (hc : Wf c) :
    (metB a b && metB (metV a b) c) = (metB b c && metB a (metV b c)) ∧ (metB a b = true → metB (metV a b) c = true → metV (metV a b) c = metV a (metV b c)) := by
  have key : (metB a b && metB (metV a b) c) = (metB b c && metB a (metV b c)) := by
    rw [Bool.eq_iff_iff, Bool.and_eq_true, Bool.and_eq_true]
    constructor
    · rintro ⟨h1, h2⟩
      rw [metV_yes h1, met_or_r ha hb hc h1] at h2
      refine ⟨h2.2, ?_⟩
      rw [metV_yes h2.2, met_or_l ha hb hc h2.2]
      exact ⟨h1, h2.1⟩
    · rintro ⟨h1, h2⟩
      rw [metV_yes h1, met_or_l ha hb hc h1] at h2
      refine ⟨h2.1, ?_⟩
      rw [metV_yes h2.1, met_or_r ha hb hc h2.1]
      exact ⟨h2.2, h1⟩
  refine ⟨key, fun h1 h2 => ?_⟩
  have h3 : (metB b c && metB a (metV b c)) = true := by rw [← key, h1, h2]; rfl
  rw [Bool.and_eq_true] at h3
  rw [metV_yes h2, metV_yes h3.2, metV_yes h1, metV_yes h3.1, orC_assoc ha hb hc]
theorem cEq_refl (a : Nat → Int) : cEq a a = true := (cEq_iff a a).2 fun _ _ => rfl
end Go.Proofs.YtamjaohoicedfaaDoor
