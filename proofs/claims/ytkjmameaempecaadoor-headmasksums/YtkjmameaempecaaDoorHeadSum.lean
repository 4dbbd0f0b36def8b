/-
  The walk of the law HeadMaskSums.
-/
import Derived.Test.YtkjmameaempecaaDoorHeadLaw
namespace Go.Proofs.YtkjmameaempecaaDoor
open Go.RowKit

theorem mkv_nat (s b : Nat) (h : b ≤ s) : mkv s b = (((2 ^ b - 1) * 2 ^ (s - b) : Nat) : Int) := by
  unfold mkv
  rw [Nat.min_eq_right h, Int.natCast_mul, Int.natCast_pow]
  have h1 : 1 ≤ 2 ^ b := Nat.one_le_two_pow
  have h2 : ((2 ^ b - 1 : Nat) : Int) = 2 ^ b - 1 := by
    rw [Int.ofNat_sub h1, Int.natCast_pow]; rfl
  rw [h2]; rfl
theorem mkv_bit (s b j : Nat) (h : b ≤ s) (hs : s ≤ 48) : (bits BinOp.and IntKind.u64 (mkv s b / 2 ^ j) 1 == 1) = decide (s - b ≤ j ∧ j < s) := by
  have e : mkv s b / 2 ^ j = (((2 ^ b - 1) * 2 ^ (s - b) / 2 ^ j : Nat) : Int) := by
    rw [mkv_nat s b h, Int.natCast_ediv, Int.natCast_pow]; rfl
  have hb := Nat.testBit_mul_two_pow (2 ^ b - 1) j (s - b)
  rw [Nat.testBit_two_pow_sub_one, Nat.testBit_eq_decide_div_mod_eq] at hb
  have hlt := mkv_small s b hs
  rw [mkv_nat s b h] at hlt
  have hle : (2 ^ b - 1) * 2 ^ (s - b) / 2 ^ j ≤ (2 ^ b - 1) * 2 ^ (s - b) := Nat.div_le_self _ _
  rw [e]
  generalize (2 ^ b - 1) * 2 ^ (s - b) / 2 ^ j = x at *
  rw [and_one_u64 _ (by omega) (by omega)]
  rw [Bool.eq_iff_iff] at hb ⊢
  simp only [decide_eq_true_eq, Bool.and_eq_true, beq_iff_eq] at hb ⊢
  constructor
  · intro hx
    have := hb.1 (by omega)
    omega
  · intro hx
    have := hb.2 ⟨hx.1, by omega⟩
    omega
theorem Below.next {A B C : World} (h : Below A.heap.size A B) (k : Below B.heap.size B C) : Below A.heap.size A C := h.trans (k.mono h.size)
set_option maxHeartbeats 400000 in
theorem sums_of (n c k b : Nat) (hn : n ≤ 255) (hc : c ≤ 255) (hk : (n : Int) % 12 = k) (hb : (c : Int) % (sz k + 1) = b) (hk12 : k < 12) (hbs : (b : Int) ≤ sz k) (w : World) (ht : Tab w) (hz : 0 < w.heap.size) :
    Calls Tryd.prog 8 #[.int .u8 n, .int .u8 c] w fun e w' => e = .returned (.bool true) ∧ Below w.heap.size w w' := by
  obtain ⟨hs0, hs1⟩ := sz_le k
  have HT := Lib.hid ht
  clear ht
  go_enter Tryd.func8, Tryd.ntmps8
  go_wp2_with (first
    | (go_at_call 12; refine (size_in k _ hk12 HT.out).mono ?_; rintro e w' ⟨rfl, rfl⟩)
    | (go_at_call 16; refine (mask_in k b _ hk12 hbs HT.out).mono ?_; rintro e w' ⟨rfl, rfl⟩))
  clear hk hb
  go_loopw [9, 10] (fun o i wr => ∃ j : Nat, j ≤ 64 ∧ i = .int .i64 j ∧ o = .int .i64 ((min j (sz k).toNat - ((sz k).toNat - b) : Nat) : Int) ∧ Below w.heap.size w wr) (fun _ i _ => (64 - intOf i).toNat)
  case atStart => exact ⟨0, by omega, rfl, by simp, Below.refl _ _⟩
  case round =>
    obtain ⟨j, hj, rfl, rfl, hwr⟩ := hrel
    have hbit := mkv_bit (sz k).toNat b j (by omega) (by omega)
    by_cases hlt : j < 64
    · by_cases hin : (sz k).toNat - b ≤ j ∧ j < (sz k).toNat
      · rw [decide_eq_true hin] at hbit
        have hin1 : ¬ ((j : Int) < sz k - b) := by omega
        have hin2 : ¬ (sz k ≤ (j : Int)) := by omega
        go_wp2_with (go_at_call 13; refine (rsize_in k _ hk12).mono ?_; rintro e w1 ⟨rfl, hw1⟩; replace hwr := Below.next hwr hw1; clear hw1)
        go_roundw
        case rel => exact ⟨j + 1, by omega, by go_num, by congr 1; omega, by assumption⟩
        case measure => simp [intOf]; omega
      · rw [decide_eq_false hin] at hbit
        go_wp2
        go_roundw
        case rel => exact ⟨j + 1, by omega, by go_num, by congr 1; omega, by assumption⟩
        case measure => simp [intOf]; omega
    · obtain rfl : j = 64 := by omega
      have T1 := Lib.hid (HT.out.below hz hwr)
      clear hbit
      have hfin : ((min 64 (sz k).toNat - ((sz k).toNat - b) : Nat) : Int) = b := by omega
      go_wp2_with (go_at_call 9; refine (answers_any _ T1.out).mono ?_; rintro e w' ⟨rfl, rfl⟩)
      go_ret
      exact ⟨by simp, hwr⟩
theorem headMaskSums_any (n : Int) (hn : (Lit.int .u8 n).wf = true) (c : Int) (hc : (Lit.int .u8 c).wf = true) (w : World) (ht : Tab w) (hz : 0 < w.heap.size) :
    Calls Tryd.prog 8 #[.int .u8 n, .int .u8 c] w fun e w' => e = .returned (.bool true) ∧ Below w.heap.size w w' := by
  simp only [Lit.wf, Bool.and_eq_true, decide_eq_true_eq] at hn hc
  have n0 : 0 ≤ n := hn.1
  have n1 : n ≤ 255 := hn.2
  have c0 : 0 ≤ c := hc.1
  have c1 : c ≤ 255 := hc.2
  obtain ⟨n, rfl⟩ : ∃ m : Nat, n = m := ⟨n.toNat, by omega⟩
  obtain ⟨c, rfl⟩ : ∃ m : Nat, c = m := ⟨c.toNat, by omega⟩
  obtain ⟨k, hk⟩ : ∃ k : Nat, (n : Int) % 12 = k := ⟨n % 12, by omega⟩
  have hs := sz_le k
  have h0 := Int.emod_nonneg (c : Int) (show sz k + 1 ≠ 0 by omega)
  have h1 := Int.emod_lt_of_pos (c : Int) (show 0 < sz k + 1 by omega)
  exact sums_of n c k ((c : Int) % (sz k + 1)).toNat (by omega) (by omega) hk (by omega) (by omega) (by omega) w ht hz
end Go.Proofs.YtkjmameaempecaaDoor
