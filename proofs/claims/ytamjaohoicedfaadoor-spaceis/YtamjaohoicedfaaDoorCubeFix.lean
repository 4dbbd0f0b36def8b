/-
  Cubes that fix the highest bits of a field: their bits, and which is within which.
-/
import Derived.Test.YtamjaohoicedfaaDoorCubeWith
import Derived.Test.YtamjaohoicedfaaDoorCubeMath
namespace Go.Proofs.YtamjaohoicedfaaDoor
open Go.RowKit

theorem mkv_nat (s i : Nat) (h : i ≤ s) : mkv s i = (((2 ^ i - 1) * 2 ^ (s - i) : Nat) : Int) := by
  have h1 : 1 ≤ 2 ^ i := Nat.one_le_two_pow
  unfold mkv
  rw [Nat.min_eq_right h, Int.natCast_mul, Int.natCast_sub h1]
  push_cast
  rfl
theorem mkv_bit (s i t : Nat) (h : i ≤ s) : (mkv s i).toNat.testBit t = decide (s - i ≤ t ∧ t < s) := by
  rw [mkv_nat s i h, Int.toNat_natCast, Nat.testBit_mul_two_pow, Nat.testBit_two_pow_sub_one]
  by_cases h1 : s - i ≤ t
  · by_cases h2 : t < s
    · simp [h1, h2]; omega
    · simp [h1, h2]; omega
  · simp [h1]
theorem mkv_u64 (k i : Nat) : 0 ≤ mkv (sz k).toNat i ∧ mkv (sz k).toNat i < 18446744073709551616 := by
  have := mkv_small (sz k).toNat i (by have := sz_le k; omega)
  omega
theorem fixed_wf {c : Nat → Int} (hc : Wf c) (k : Nat) (v : Int) (hv : 0 ≤ v ∧ v < 18446744073709551616) (i : Nat) : Wf (fixed c k v i) := fun j => by
  unfold fixed upd
  split
  · exact and_wf hv (mkv_u64 k i)
  · split
    · exact mkv_u64 k i
    · exact hc j
theorem fixed_val (c : Nat → Int) (k : Nat) (v : Int) (i : Nat) : fixed c k v i k = bits .and .u64 v (mkv (sz k).toNat i) := by simp [fixed, upd]
theorem fixed_care (c : Nat → Int) (k : Nat) (v : Int) (i : Nat) : fixed c k v i (12 + k) = mkv (sz k).toNat i := by simp [fixed, upd]
theorem fixed_other (c : Nat → Int) (k : Nat) (v : Int) (i j : Nat) (h1 : j ≠ k) (h2 : j ≠ 12 + k) : fixed c k v i j = c j := by simp [fixed, upd, h1, h2]
theorem fit_mkv (k i : Nat) : fitB k (mkv (sz k).toNat i) = true := by
  unfold fitB
  have := (mkv_lt (sz k).toNat i).2
  simpa using this
theorem fit_and {k : Nat} {x y : Int} (hx : 0 ≤ x ∧ x < 18446744073709551616) (hy : 0 ≤ y ∧ y < 18446744073709551616) (h : fitB k x = true) : fitB k (bits .and .u64 x y) = true := by
  rw [fit_nat k _ hx.1] at h
  rw [fit_nat k _ (and_wf hx hy).1, u64_and _ _ hx.1 hx.2 hy.1 hy.2, Int.toNat_natCast]
  exact Nat.lt_of_le_of_lt Nat.and_le_left h
theorem fixed_snd {c : Nat → Int} (hc : Wf c) (hs : csnd c = true) (k : Nat) (hk : k < 12) (v : Int) (hv : 0 ≤ v ∧ v < 18446744073709551616) (hf : fitB k v = true) (i : Nat) : csnd (fixed c k v i) = true := by
  rw [csnd_iff hc] at hs
  rw [csnd_iff (fixed_wf hc k v hv i)]
  intro j hj
  by_cases e : j = k
  · subst e
    rw [fixed_care, fixed_val]
    refine ⟨fit_mkv j i, fit_and hv (mkv_u64 j i) hf, fun t => ?_⟩
    unfold bitAt
    rw [fixed_care, fixed_val, bit_and hv (mkv_u64 j i)]
    intro h
    exact (Bool.and_eq_true _ _ ▸ h).2
  · have o1 := fixed_other c k v i j e (by omega)
    have o2 := fixed_other c k v i (12 + j) (by omega) (by omega)
    unfold bitAt
    rw [o1, o2]
    exact hs j hj
theorem zh_snd : csnd zh = true := by decide +kernel
theorem fixed_has {h : Nat → Int} (hh : Wf h) (hs : sndB h = true) (k : Nat) (hk : k < 12) (i : Nat) : hasB (fixed zh k (h k) i) h = true := by
  have hf := (snd_iff h).1 hs k hk
  refine hasB_yes (fixed_snd zh_wf zh_snd k hk (h k) (hh k) hf i) hs fun j hj => ?_
  rw [off_iff (fixed_wf zh_wf k (h k) (hh k) i) hh]
  intro t
  unfold bitAt
  by_cases e : j = k
  · subst e
    rw [fixed_care, fixed_val, bit_and (hh j) (mkv_u64 j i)]
  · rw [fixed_other zh k (h k) i j e (by omega), fixed_other zh k (h k) i (12 + j) (by omega) (by omega)]
    simp [zh]
theorem fixed_in {v : Int} (k : Nat) (hk : k < 12) (hv : 0 ≤ v ∧ v < 18446744073709551616) (hf : fitB k v = true) (i j : Nat) (hi : (i : Int) ≤ sz k) (hj : (j : Int) ≤ sz k) : (inB (fixed zh k v i) (fixed zh k v j) == decide (j ≤ i)) = true := by
  have wi := fixed_wf zh_wf k v hv i
  have wj := fixed_wf zh_wf k v hv j
  have hm : metB (fixed zh k v i) (fixed zh k v j) = true := by
    rw [met_iff wi wj]
    refine ⟨fixed_snd zh_wf zh_snd k hk v hv hf i, fixed_snd zh_wf zh_snd k hk v hv hf j, fun q hq t => ?_⟩
    unfold bitAt
    by_cases e : q = k
    · subst e
      rw [fixed_care, fixed_care, fixed_val, fixed_val, bit_and hv (mkv_u64 q i), bit_and hv (mkv_u64 q j)]
      intro p r
      rw [p, r]
    · intro _ _
      rw [fixed_other zh k v i q e (by omega), fixed_other zh k v j q e (by omega)]
  unfold inB
  rw [hm, metV_yes hm, Bool.true_and, beq_iff_eq]
  by_cases hji : j ≤ i
  · rw [decide_eq_true hji, cEq_iff]
    intro q hq
    refine int_ext (orC_wf wi wj q).1 (wi q).1 fun t => ?_
    have := orC_bit wi wj q t
    unfold bitAt at this
    rw [this]
    have key : ((mkv (sz k).toNat i).toNat.testBit t || (mkv (sz k).toNat j).toNat.testBit t) = (mkv (sz k).toNat i).toNat.testBit t := by
      rw [mkv_bit _ i t (by omega), mkv_bit _ j t (by omega)]
      by_cases h1 : (sz k).toNat - i ≤ t ∧ t < (sz k).toNat
      · simp [h1]
      · have h2 : ¬ ((sz k).toNat - j ≤ t ∧ t < (sz k).toNat) := by omega
        rw [decide_eq_false h1, decide_eq_false h2]; rfl
    by_cases e1 : q = k
    · subst e1
      rw [fixed_val, fixed_val, bit_and hv (mkv_u64 q i), bit_and hv (mkv_u64 q j), ← Bool.and_or_distrib_left, key]
    · by_cases e2 : q = 12 + k
      · subst e2
        rw [fixed_care, fixed_care, key]
      · rw [fixed_other zh k v i q e1 e2, fixed_other zh k v j q e1 e2, Bool.or_self]
  · rw [decide_eq_false hji]
    cases hc : cEq (orC (fixed zh k v i) (fixed zh k v j)) (fixed zh k v i)
    · rfl
    · exfalso
      have e := (cEq_iff _ _).1 hc (12 + k) (by omega)
      have b := orC_bit wi wj (12 + k) ((sz k).toNat - j)
      unfold bitAt at b
      rw [e, fixed_care, fixed_care, mkv_bit _ i _ (by omega), mkv_bit _ j _ (by omega)] at b
      rw [decide_eq_false (by omega), decide_eq_true (by omega)] at b
      exact absurd b (by decide)
end Go.Proofs.YtamjaohoicedfaaDoor
