/-
  The field table as it lies in memory, and what Size, Name, known, fits of package head answer, for every world that holds the table.
-/
import Derived.Test.YtpcacgfhjheiiaaDoorProg
import Derived.WalkKit
import Derived.WalkSpells
import Derived.WalkLawsBesides
import Derived.Lib.Hide
namespace Go.Proofs.YtpcacgfhjheiiaaDoor
open Go.RowKit

def sz : Nat → Int
  | 0 => 16 | 1 => 48 | 2 => 48 | 3 => 16 | 4 => 12 | 5 => 4 | 6 => 32 | 7 => 32 | 8 => 8 | 9 => 8 | 10 => 12 | 11 => 12 | _ => 0
def nm : Nat → ByteArray
  | 0 => ⟨#[105, 110]⟩ | 1 => ⟨#[101, 115, 114, 99]⟩ | 2 => ⟨#[101, 100, 115, 116]⟩ | 3 => ⟨#[101, 116, 121, 112, 101]⟩ | 4 => ⟨#[118, 108, 97, 110]⟩ | 5 => ⟨#[112, 99, 112]⟩
  | 6 => ⟨#[115, 114, 99]⟩ | 7 => ⟨#[100, 115, 116]⟩ | 8 => ⟨#[112, 114, 111, 116, 111]⟩ | 9 => ⟨#[116, 111, 115]⟩ | 10 => ⟨#[115, 112, 111, 114, 116]⟩ | 11 => ⟨#[100, 112, 111, 114, 116]⟩ | _ => ⟨#[]⟩

/-- The table's cells. -/
def tabArr : Array Value := #[.string (nm 0), .int .i64 (sz 0), .string (nm 1), .int .i64 (sz 1), .string (nm 2), .int .i64 (sz 2), .string (nm 3), .int .i64 (sz 3), .string (nm 4), .int .i64 (sz 4), .string (nm 5), .int .i64 (sz 5), .string (nm 6), .int .i64 (sz 6), .string (nm 7), .int .i64 (sz 7), .string (nm 8), .int .i64 (sz 8), .string (nm 9), .int .i64 (sz 9), .string (nm 10), .int .i64 (sz 10), .string (nm 11), .int .i64 (sz 11)]
/-- The table lies in the world as the program's text lays it. -/
def Tab (w : World) : Prop := (∀ k, k < 12 → w.cell? ⟨0, k * 2, none⟩ = some (.string (nm k)) ∧ w.cell? ⟨0, k * 2 + 1, none⟩ = some (.int .i64 (sz k))) ∧ ∃ t fr, w.heap[0]? = some (.cells tabArr t fr)

theorem known_in (n : Int) (w : World) (h0 : 0 ≤ n) (h1 : n < 12) :
    Calls Tryd.prog 21 #[.int .i64 n] w fun e w' => e = .returned (.bool true) ∧ w = w' := by
  go_enter Tryd.func21, Tryd.ntmps21
  go_wp2
  go_ret
  exact ⟨rfl, rfl⟩
theorem known_out (n : Int) (w : World) (h : n < 0 ∨ 12 ≤ n) :
    Calls Tryd.prog 21 #[.int .i64 n] w fun e w' => e = .returned (.bool false) ∧ w = w' := by
  rcases h with h | h
  · go_enter Tryd.func21, Tryd.ntmps21
    go_wp2
    go_ret
    exact ⟨rfl, rfl⟩
  · have h' : 0 ≤ n := by omega
    have hd : decide (n < 12) = false := by simpa using h
    go_enter Tryd.func21, Tryd.ntmps21
    go_wp2
    go_ret
    exact ⟨rfl, rfl⟩
/-- so many ones, then noughts: k digits of which the first b are ones -/
def mkv (k b : Nat) : Int := (2 ^ (min k b) - 1) * 2 ^ (k - b)
theorem pow_pos' (n : Nat) : (0 : Int) < 2 ^ n := by exact_mod_cast Nat.two_pow_pos n
theorem pow_le' {a b : Nat} (h : a ≤ b) : (2 : Int) ^ a ≤ 2 ^ b := by exact_mod_cast Nat.pow_le_pow_right (by decide) h
theorem mkv_zero (b : Nat) : mkv 0 b = 0 := by simp [mkv]
theorem mkv_lt (k b : Nat) : 0 ≤ mkv k b ∧ mkv k b < 2 ^ k := by
  unfold mkv
  by_cases h : k ≤ b
  · have := pow_pos' k
    rw [Nat.min_eq_left h, Nat.sub_eq_zero_of_le h]
    omega
  · have hb : b ≤ k := by omega
    rw [Nat.min_eq_right hb]
    have e : (2 : Int) ^ k = 2 ^ b * 2 ^ (k - b) := by rw [← Int.pow_add]; congr 1; omega
    have p1 := pow_pos' b
    have p2 := pow_pos' (k - b)
    refine ⟨Int.mul_nonneg (by omega) (by omega), ?_⟩
    rw [e, Int.sub_mul]
    omega
theorem mkv_step_in (k b : Nat) (h : k < b) : mkv (k + 1) b = mkv k b * 2 + 1 := by
  unfold mkv
  rw [Nat.min_eq_left (by omega : k + 1 ≤ b), Nat.min_eq_left (by omega : k ≤ b), Nat.sub_eq_zero_of_le (by omega : k + 1 ≤ b), Nat.sub_eq_zero_of_le (by omega : k ≤ b), Int.pow_succ]
  omega
theorem mkv_step_out (k b : Nat) (h : ¬ k < b) : mkv (k + 1) b = mkv k b * 2 := by
  unfold mkv
  rw [Nat.min_eq_right (by omega : b ≤ k + 1), Nat.min_eq_right (by omega : b ≤ k), show k + 1 - b = (k - b) + 1 by omega, Int.pow_succ, Int.mul_assoc]
theorem u64_in {x : Int} (h0 : 0 ≤ x) (h1 : x < 2 ^ 64) : IntKind.u64.wrap x = x := IntWalk.u64_in x (by omega)
theorem mask_wraps (s b : Nat) (hb : b ≤ s) (hs : s ≤ 48) : IntKind.u64.wrap (IntKind.u64.wrap (IntKind.u64.wrap (2 ^ b) - 1) * 2 ^ (s - b)) = mkv s b := by
  have h1 := pow_le' (show b ≤ 48 by omega)
  have h2 := pow_pos' b
  rw [u64_in (x := 2 ^ b) (by omega) (by omega), u64_in (x := 2 ^ b - 1) (by omega) (by omega)]
  have e : (2 ^ b - 1) * 2 ^ (s - b) = mkv s b := by unfold mkv; rw [Nat.min_eq_right hb]
  rw [e]
  have := mkv_lt s b
  have := pow_le' hs
  exact u64_in (by omega) (by omega)
theorem sz_le (k : Nat) : 0 ≤ sz k ∧ sz k ≤ 48 := by
  unfold sz; split <;> omega
theorem ret2 {a b : Int} {x : Value} (h : a = b) : Ending.returned (.tuple #[.int .u64 a, x]) = .returned (.tuple #[.int .u64 b, x]) := by rw [h]
theorem first_hit (p : Nat → Bool) : ∀ n : Nat, (∀ m, m < n → p m = false) ∨ ∃ j, j < n ∧ (∀ m, m < j → p m = false) ∧ p j = true
  | 0 => Or.inl fun m h => absurd h (by omega)
  | n + 1 => by
    rcases first_hit p n with h | ⟨j, hj, h1, h2⟩
    · cases hp : p n
      · refine Or.inl fun m hm => ?_
        by_cases e : m = n
        · rw [e, hp]
        · exact h m (by omega)
      · exact Or.inr ⟨n, by omega, h, hp⟩
    · exact Or.inr ⟨j, by omega, h1, h2⟩
end Go.Proofs.YtpcacgfhjheiiaaDoor
