/-
  What the reference's Size, Name, Fits, Mask answer.
-/
import Derived.Test.YtioiecaklbifnaaDoorHeadTab
namespace Go.Proofs.YtioiecaklbifnaaDoor
open Go.RowKit

theorem rsize_out (n : Int) (w : World) (h : n < 0 ∨ 11 < n) :
    Calls Tryd.prog 31 #[.int .i64 n] w fun e w' => e = .returned (.int .i64 0) ∧ w = w' := by
  rcases h with h | h
  · go_enter Tryd.func31, Tryd.ntmps31
    go_wp2
    go_ret
    exact ⟨rfl, rfl⟩
  · have h' : ¬ n < 0 := by omega
    go_enter Tryd.func31, Tryd.ntmps31
    go_wp2
    go_ret
    exact ⟨rfl, rfl⟩
theorem szl : ∀ (k : Nat) (h : k < 12), ([.int .i64 16, .int .i64 48, .int .i64 48, .int .i64 16, .int .i64 12, .int .i64 4, .int .i64 32, .int .i64 32, .int .i64 8, .int .i64 8, .int .i64 12, .int .i64 12] : List Value)[k]'(by simpa using h) = .int .i64 (sz k)
  | 0, _ => rfl
  | 1, _ => rfl
  | 2, _ => rfl
  | 3, _ => rfl
  | 4, _ => rfl
  | 5, _ => rfl
  | 6, _ => rfl
  | 7, _ => rfl
  | 8, _ => rfl
  | 9, _ => rfl
  | 10, _ => rfl
  | 11, _ => rfl
  | k + 12, h => absurd h (by omega)
theorem nml : ∀ (k : Nat) (h : k < 12), ([.string ⟨#[105, 110]⟩, .string ⟨#[101, 115, 114, 99]⟩, .string ⟨#[101, 100, 115, 116]⟩, .string ⟨#[101, 116, 121, 112, 101]⟩, .string ⟨#[118, 108, 97, 110]⟩, .string ⟨#[112, 99, 112]⟩, .string ⟨#[115, 114, 99]⟩, .string ⟨#[100, 115, 116]⟩, .string ⟨#[112, 114, 111, 116, 111]⟩, .string ⟨#[116, 111, 115]⟩, .string ⟨#[115, 112, 111, 114, 116]⟩, .string ⟨#[100, 112, 111, 114, 116]⟩] : List Value)[k]'(by simpa using h) = .string (nm k)
  | 0, _ => rfl
  | 1, _ => rfl
  | 2, _ => rfl
  | 3, _ => rfl
  | 4, _ => rfl
  | 5, _ => rfl
  | 6, _ => rfl
  | 7, _ => rfl
  | 8, _ => rfl
  | 9, _ => rfl
  | 10, _ => rfl
  | 11, _ => rfl
  | k + 12, h => absurd h (by omega)
theorem rsize_in (k : Nat) (w : World) (h : k < 12) :
    Calls Tryd.prog 31 #[.int .i64 k] w fun e w' => e = .returned (.int .i64 (sz k)) ∧ Below w.heap.size w w' := by
  have h1 : ¬ (k : Int) < 0 := by omega
  have h2 : ¬ (11 : Int) < k := by omega
  go_enter Tryd.func31, Tryd.ntmps31
  go_wp2
  go_ret
  exact ⟨congrArg Ending.returned (szl k h), (Below.refl _ _).alloc (Nat.le_refl _) _⟩
theorem rmask_no (n b : Int) (w : World) (h : n < 0 ∨ 11 < n) :
    Calls Tryd.prog 20 #[.int .i64 n, .int .i64 b] w fun e w' => e = .returned (.tuple #[.int .u64 0, .bool false]) ∧ w = w' := by
  rcases h with h | h
  · go_enter Tryd.func20, Tryd.ntmps20
    go_wp2
    go_ret2
    exact ⟨rfl, rfl⟩
  · have h' : ¬ n < 0 := by omega
    go_enter Tryd.func20, Tryd.ntmps20
    go_wp2
    go_ret2
    exact ⟨rfl, rfl⟩
theorem rmask_neg (k : Nat) (b : Int) (w : World) (h1 : k < 12) (hb : b < 0) :
    Calls Tryd.prog 20 #[.int .i64 k, .int .i64 b] w fun e w' => e = .returned (.tuple #[.int .u64 0, .bool false]) ∧ w = w' := by
  have g1 : ¬ (k : Int) < 0 := by omega
  have g2 : ¬ (11 : Int) < k := by omega
  go_enter Tryd.func20, Tryd.ntmps20
  go_wp2
  go_ret2
  exact ⟨rfl, rfl⟩
theorem rmask_big (k : Nat) (b : Int) (w : World) (h1 : k < 12) (hb0 : 0 ≤ b) (hb : sz k < b) :
    Calls Tryd.prog 20 #[.int .i64 k, .int .i64 b] w fun e w' => e = .returned (.tuple #[.int .u64 0, .bool false]) ∧ Below w.heap.size w w' := by
  have g1 : ¬ (k : Int) < 0 := by omega
  have g2 : ¬ (11 : Int) < k := by omega
  have g3 : ¬ b < 0 := by omega
  go_enter Tryd.func20, Tryd.ntmps20
  go_wp2_with (go_at_call 31; refine (rsize_in _ _ h1).mono ?_; rintro e w' ⟨rfl, hw⟩)
  go_ret2
  exact ⟨rfl, hw⟩
theorem mkv_small (j b : Nat) (h : j ≤ 48) : 0 ≤ mkv j b ∧ mkv j b ≤ 281474976710656 := by
  have h1 := mkv_lt j b
  have h2 := pow_le' h
  have h3 : (2 : Int) ^ 48 = 281474976710656 := by decide
  omega
set_option maxHeartbeats 400000 in
theorem rmask_in (k b : Nat) (w : World) (h1 : k < 12) (hb : (b : Int) ≤ sz k) :
    Calls Tryd.prog 20 #[.int .i64 k, .int .i64 b] w fun e w' => e = .returned (.tuple #[.int .u64 (mkv (sz k).toNat b), .bool true]) ∧ Below w.heap.size w w' := by
  have g1 : ¬ (k : Int) < 0 := by omega
  have g2 : ¬ (11 : Int) < k := by omega
  have g3 : ¬ (b : Int) < 0 := by omega
  have g4 : ¬ sz k < b := by omega
  obtain ⟨hs0, hs1⟩ := sz_le k
  go_enter Tryd.func20, Tryd.ntmps20
  go_wp2_with (go_at_call 31; refine (rsize_in _ _ h1).mono ?_; rintro e w' ⟨rfl, hw⟩)
  go_loopw [6, 7] (fun n i wr => ∃ j : Nat, (j : Int) ≤ sz k ∧ i = .int .i64 j ∧ n = .int .u64 (mkv j b) ∧ Below w.heap.size w wr) (fun _ i _ => ((sz k) - intOf i).toNat)
  case atStart => exact ⟨0, by omega, rfl, by rw [mkv_zero], hw⟩
  case round =>
    obtain ⟨j, hj, rfl, rfl, hwr⟩ := hrel
    clear hw
    obtain ⟨hm0, hm1⟩ := mkv_small j b (by omega)
    by_cases hlt : (j : Int) < sz k
    · by_cases hjb : j < b
      · have HS := Lib.hid (mkv_step_in j b hjb)
        go_wp2_with (go_at_call 31; refine (rsize_in _ _ h1).mono ?_; rintro e w' ⟨rfl, hw⟩)
        go_roundw
        case rel => exact ⟨j + 1, by omega, by go_num, by rw [HS.out], hwr.trans (hw.mono hwr.size)⟩
        case measure => simp [intOf]; omega
      · have HS := Lib.hid (mkv_step_out j b hjb)
        go_wp2_with (go_at_call 31; refine (rsize_in _ _ h1).mono ?_; rintro e w' ⟨rfl, hw⟩)
        go_roundw
        case rel => exact ⟨j + 1, by omega, by go_num, by rw [HS.out], hwr.trans (hw.mono hwr.size)⟩
        case measure => simp [intOf]; omega
    · have hjs : (sz k).toNat = j := by omega
      have HS := Lib.hid hjs
      clear hjs
      go_wp2_with (go_at_call 31; refine (rsize_in _ _ h1).mono ?_; rintro e w' ⟨rfl, hw⟩)
      go_ret2
      exact ⟨ret2 (by rw [HS.out]), hwr.trans (hw.mono hwr.size)⟩
end Go.Proofs.YtioiecaklbifnaaDoor
