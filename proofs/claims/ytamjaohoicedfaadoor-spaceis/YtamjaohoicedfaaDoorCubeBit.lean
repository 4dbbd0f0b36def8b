/-
  The highest bit of a number; what Less makes, bit by bit, as lists.
-/
import Derived.Test.YtamjaohoicedfaaDoorBitLen
import Derived.Test.YtamjaohoicedfaaDoorCubeMath
namespace Go.Proofs.YtamjaohoicedfaaDoor
open Go.RowKit

theorem bitLen_bounds : ∀ n : Nat, n ≠ 0 → n < 2 ^ 64 → 1 ≤ Lib.bitLen n ∧ 2 ^ (Lib.bitLen n - 1) ≤ n ∧ n < 2 ^ Lib.bitLen n := by
  intro n
  induction n using Nat.strongRecOn with
  | ind n ih =>
    intro h0 h
    rw [Lib.bitLen_half n h0 h]
    by_cases h1 : n / 2 = 0
    · have e : n = 1 := by omega
      subst e
      decide
    · obtain ⟨b1, b2, b3⟩ := ih (n / 2) (by omega) h1 (by omega)
      refine ⟨by omega, ?_, ?_⟩
      · rw [show 1 + Lib.bitLen (n / 2) - 1 = (Lib.bitLen (n / 2) - 1) + 1 by omega, Nat.pow_succ]; omega
      · rw [show 1 + Lib.bitLen (n / 2) = Lib.bitLen (n / 2) + 1 by omega, Nat.pow_succ]; omega
/-- the place of the highest one -/
def hiB (n : Nat) : Nat := Lib.bitLen n - 1
theorem hiB_spec (n : Nat) (h0 : n ≠ 0) (h : n < 2 ^ 64) : Lib.bitLen n = hiB n + 1 ∧ 2 ^ hiB n ≤ n ∧ n < 2 ^ (hiB n + 1) ∧ hiB n < 64 := by
  obtain ⟨b1, b2, b3⟩ := bitLen_bounds n h0 h
  unfold hiB
  refine ⟨by omega, b2, by rwa [show Lib.bitLen n - 1 + 1 = Lib.bitLen n by omega], ?_⟩
  exact Nat.pow_lt_pow_iff_right (by decide) |>.1 (Nat.lt_of_le_of_lt b2 h)
theorem hiB_bit (n : Nat) (h0 : n ≠ 0) (h : n < 2 ^ 64) : n.testBit (hiB n) = true := by
  obtain ⟨_, b2, b3, _⟩ := hiB_spec n h0 h
  rw [Nat.testBit_eq_decide_div_mod_eq, decide_eq_true_eq]
  have : n / 2 ^ hiB n = 1 := by
    rw [Nat.pow_succ] at b3
    exact Nat.div_eq_of_lt_le (by omega) (by omega)
  rw [this]
/-- one step of Less: the cube with one bit more of the other, and the piece with that bit turned -/
def stepC (b c : Nat → Int) (i : Nat) (p : Int) : Nat → Int := upd (upd c (12 + i) (bits .or .u64 (c (12 + i)) p)) i (bits .or .u64 (c i) (bits .and .u64 (b i) p))
def pieceC (b c : Nat → Int) (i : Nat) (p : Int) : Nat → Int := upd (stepC b c i p) i (bits .xor .u64 (stepC b c i p i) p)
/-- the bits of a field, from the highest one on: the pieces, the cube behind them -/
def goBits (b : Nat → Int) (i L : Nat) : Nat → (Nat → Int) → List (Nat → Int) × (Nat → Int)
  | 0, c => ([], c)
  | n + 1, c => if L.testBit n then (pieceC b c i (2 ^ n) :: (goBits b i L n (stepC b c i (2 ^ n))).1, (goBits b i L n (stepC b c i (2 ^ n))).2) else goBits b i L n c
/-- the bits of a field that the other cube fixes and this one does not -/
def leftN (b c : Nat → Int) (i : Nat) : Nat := (bits .andNot .u64 (b (12 + i)) (c (12 + i))).toNat
/-- the last m fields -/
def goFields (b : Nat → Int) : Nat → (Nat → Int) → List (Nat → Int)
  | 0, _ => []
  | m + 1, c => (goBits b (11 - m) (leftN b c (11 - m)) 64 c).1 ++ goFields b m (goBits b (11 - m) (leftN b c (11 - m)) 64 c).2
/-- what Less answers -/
def lessL (a b : Nat → Int) : List (Nat → Int) := if csnd a && csnd b then (if metB a b then goFields b 12 a else [a]) else []
/-- with nothing between, the bits go on from the next one -/
theorem goBits_skip (b : Nat → Int) (i L : Nat) (c : Nat → Int) (t : Nat) : ∀ n, t ≤ n → (∀ k, t ≤ k → k < n → L.testBit k = false) → goBits b i L n c = goBits b i L t c
  | 0, h, _ => by rw [show t = 0 by omega]
  | n + 1, h, hz => by
    by_cases e : t = n + 1
    · rw [e]
    · rw [goBits, hz n (by omega) (by omega)]
      exact goBits_skip b i L c t n (by omega) fun k h1 h2 => hz k h1 (by omega)
/-- the rest of a number below a bit, its highest one taken away -/
theorem mod_hi (L n : Nat) (hn : n ≤ 64) (h0 : L % 2 ^ n ≠ 0) : hiB (L % 2 ^ n) < n ∧ L.testBit (hiB (L % 2 ^ n)) = true ∧ (∀ k, hiB (L % 2 ^ n) + 1 ≤ k → k < n → L.testBit k = false) ∧ L % 2 ^ n = 2 ^ hiB (L % 2 ^ n) + L % 2 ^ hiB (L % 2 ^ n) := by
  have hlt : L % 2 ^ n < 2 ^ n := Nat.mod_lt _ (Nat.two_pow_pos n)
  have h64 : L % 2 ^ n < 2 ^ 64 := Nat.lt_of_lt_of_le hlt (Nat.pow_le_pow_right (by decide) hn)
  obtain ⟨_, b2, b3, _⟩ := hiB_spec _ h0 h64
  have ht : hiB (L % 2 ^ n) < n := Nat.pow_lt_pow_iff_right (by decide) |>.1 (Nat.lt_of_le_of_lt b2 hlt)
  have hb := hiB_bit _ h0 h64
  generalize hiB (L % 2 ^ n) = t at *
  refine ⟨ht, ?_, fun k h1 h2 => ?_, ?_⟩
  · rw [Nat.testBit_mod_two_pow] at hb
    exact (Bool.and_eq_true _ _ ▸ hb).2
  · have : (L % 2 ^ n).testBit k = false := Nat.testBit_lt_two_pow (Nat.lt_of_lt_of_le b3 (Nat.pow_le_pow_right (by decide) h1))
    rw [Nat.testBit_mod_two_pow] at this
    simpa [h2] using this
  · have e : L % 2 ^ n % 2 ^ t = L % 2 ^ t := Nat.mod_mod_of_dvd _ (Nat.pow_dvd_pow 2 (by omega))
    have q : L % 2 ^ n / 2 ^ t = 1 := Nat.div_eq_of_lt_le (by omega) (by rw [Nat.pow_succ] at b3; omega)
    have := Nat.div_add_mod (L % 2 ^ n) (2 ^ t)
    rw [q, e] at this
    omega
theorem goBits_at (b : Nat → Int) (i L : Nat) (c : Nat → Int) (n : Nat) (hn : n ≤ 64) (h0 : L % 2 ^ n ≠ 0) :
    goBits b i L n c = (pieceC b c i (2 ^ hiB (L % 2 ^ n)) :: (goBits b i L (hiB (L % 2 ^ n)) (stepC b c i (2 ^ hiB (L % 2 ^ n)))).1, (goBits b i L (hiB (L % 2 ^ n)) (stepC b c i (2 ^ hiB (L % 2 ^ n)))).2) := by
  obtain ⟨h1, h2, h3, _⟩ := mod_hi L n hn h0
  rw [goBits_skip b i L c (hiB (L % 2 ^ n) + 1) n (by omega) h3, goBits, h2]
  rfl
theorem goBits_end (b : Nat → Int) (i L : Nat) (c : Nat → Int) (n : Nat) (h0 : L % 2 ^ n = 0) : goBits b i L n c = ([], c) := by
  rw [goBits_skip b i L c 0 n (by omega) fun k _ h2 => ?_]
  · rfl
  · have : (L % 2 ^ n).testBit k = false := by rw [h0]; exact Nat.zero_testBit k
    rw [Nat.testBit_mod_two_pow] at this
    simpa [h2] using this
/-- the number behind 'left &^= bit' -/
theorem andNot_hi (x t r : Nat) (hx : x < 18446744073709551616) (h : x = 2 ^ t + r) (hr : r < 2 ^ t) : bits .andNot .u64 (x : Int) (2 ^ t) = (r : Int) := by
  have ht : t < 64 := Nat.pow_lt_pow_iff_right (a := 2) (by decide) |>.1 (by omega)
  have hp : (2 : Int) ^ t = ((2 ^ t : Nat) : Int) := by push_cast; rfl
  have hp' : 2 ^ t < 18446744073709551616 := by have := Nat.pow_lt_pow_right (a := 2) (by decide) ht; omega
  rw [hp]
  have w1 : (0 : Int) ≤ (x : Int) ∧ (x : Int) < 18446744073709551616 := by omega
  have w2 : (0 : Int) ≤ ((2 ^ t : Nat) : Int) ∧ ((2 ^ t : Nat) : Int) < 18446744073709551616 := by omega
  refine int_ext (andNot_wf w1 w2).1 (by omega) fun i => ?_
  rw [bit_andNot w1 w2, Int.toNat_natCast, Int.toNat_natCast, Int.toNat_natCast, Nat.testBit_two_pow, h]
  have e : 2 ^ t + r = 2 ^ t ||| r := by have := Nat.two_pow_add_eq_or_of_lt hr 1; simpa using this
  rw [e, Nat.testBit_or, Nat.testBit_two_pow]
  by_cases hi : t = i
  · subst hi
    rw [Nat.testBit_lt_two_pow hr]; simp
  · simp [hi]
theorem pow_u64 {t : Nat} (h : t < 64) : (0 : Int) ≤ 2 ^ t ∧ (2 : Int) ^ t < 18446744073709551616 := by
  have hp : (2 : Int) ^ t = ((2 ^ t : Nat) : Int) := by push_cast; rfl
  have h1 := Nat.pow_lt_pow_right (a := 2) (by decide) h
  have h2 : (2 ^ t : Nat) < 18446744073709551616 := by simpa using h1
  rw [hp]
  generalize (2 ^ t : Nat) = m at *
  omega
theorem stepC_wf {b c : Nat → Int} (hb : Wf b) (hc : Wf c) (i : Nat) {p : Int} (hp : 0 ≤ p ∧ p < 18446744073709551616) : Wf (stepC b c i p) := fun j => by
  unfold stepC upd
  split
  · exact or_wf (hc i) (and_wf (hb i) hp)
  · split
    · exact or_wf (hc _) hp
    · exact hc j
theorem pieceC_wf {b c : Nat → Int} (hb : Wf b) (hc : Wf c) (i : Nat) {p : Int} (hp : 0 ≤ p ∧ p < 18446744073709551616) : Wf (pieceC b c i p) := fun j => by
  unfold pieceC upd
  split
  · exact xor_wf (stepC_wf hb hc i hp i) hp
  · exact stepC_wf hb hc i hp j
theorem goBits_wf {b : Nat → Int} (hb : Wf b) (i L : Nat) : ∀ n, n ≤ 64 → ∀ c, Wf c → (∀ x ∈ (goBits b i L n c).1, Wf x) ∧ Wf (goBits b i L n c).2
  | 0, _, c, hc => ⟨(fun x hx => by cases hx), hc⟩
  | n + 1, hn, c, hc => by
    have hp := pow_u64 (show n < 64 by omega)
    rw [goBits]
    split
    · obtain ⟨h1, h2⟩ := goBits_wf hb i L n (by omega) _ (stepC_wf hb hc i hp)
      exact ⟨fun x hx => by
        rcases List.mem_cons.1 hx with rfl | hx
        · exact pieceC_wf hb hc i hp
        · exact h1 x hx, h2⟩
    · exact goBits_wf hb i L n (by omega) c hc
theorem goFields_wf {b : Nat → Int} (hb : Wf b) : ∀ m c, Wf c → ∀ x ∈ goFields b m c, Wf x
  | 0, _, _ => fun x hx => by cases hx
  | m + 1, c, hc => fun x hx => by
    rw [goFields] at hx
    obtain ⟨h1, h2⟩ := goBits_wf hb (11 - m) (leftN b c (11 - m)) 64 (by omega) c hc
    rcases List.mem_append.1 hx with h | h
    · exact h1 x h
    · exact goFields_wf hb m _ h2 x h
theorem lessL_wf {a b : Nat → Int} (ha : Wf a) (hb : Wf b) : ∀ x ∈ lessL a b, Wf x := by
  unfold lessL
  split
  · split
    · exact goFields_wf hb 12 a ha
    · intro x hx
      rw [List.mem_singleton] at hx
      rw [hx]; exact ha
  · intro x hx; cases hx
theorem goBits_len (b : Nat → Int) (i L : Nat) : ∀ n c, (goBits b i L n c).1.length ≤ n
  | 0, _ => by simp [goBits]
  | n + 1, c => by
    rw [goBits]
    split
    · have := goBits_len b i L n (stepC b c i (2 ^ n))
      simp only [List.length_cons]; omega
    · have := goBits_len b i L n c
      omega
theorem goFields_len (b : Nat → Int) : ∀ m c, (goFields b m c).length ≤ m * 64
  | 0, _ => by simp [goFields]
  | m + 1, c => by
    rw [goFields, List.length_append]
    have h1 := goBits_len b (11 - m) (leftN b c (11 - m)) 64 c
    have h2 := goFields_len b m (goBits b (11 - m) (leftN b c (11 - m)) 64 c).2
    omega
theorem lessL_len (a b : Nat → Int) : (lessL a b).length ≤ 768 := by
  unfold lessL
  split
  · split
    · have := goFields_len b 12 a
      omega
    · simp
  · simp
end Go.Proofs.YtamjaohoicedfaaDoor
