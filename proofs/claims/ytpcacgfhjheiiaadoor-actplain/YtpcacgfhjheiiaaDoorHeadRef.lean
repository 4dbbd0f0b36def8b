/-
  What the reference's Size, Name, Fits, Mask answer.
-/
import Derived.Test.YtpcacgfhjheiiaaDoorHeadTab
namespace Go.Proofs.YtpcacgfhjheiiaaDoor
open Go.RowKit

theorem rsize_out (n : Int) (w : World) (h : n < 0 ∨ 11 < n) :
    Calls Tryd.prog 19 #[.int .i64 n] w fun e w' => e = .returned (.int .i64 0) ∧ w = w' := by
  rcases h with h | h
  · go_enter Tryd.func19, Tryd.ntmps19
    go_wp2
    go_ret
    exact ⟨rfl, rfl⟩
  · have h' : ¬ n < 0 := by omega
    go_enter Tryd.func19, Tryd.ntmps19
    go_wp2
    go_ret
    exact ⟨rfl, rfl⟩
theorem szl : ∀ (k : Nat) (h : k < 12), ([.int .i64 16, .int .i64 48, .int .i64 48, .int .i64 16, .int .i64 12, .int .i64 4, .int .i64 32, .int .i64 32, .int .i64 8, .int .i64 8, .int .i64 12, .int .i64 12] : List Value)[k]'(by simpa using h) = .int .i64 (sz k)
  | 0, _ => rfl
  | 1, _ => rfl
  | 2, _ => rfl
  | 3, _ => rfl
  | 4, _ => rfl
  | 5, _ => rfl
  | 6, _ => rfl
  | 7, _ => rfl
  | 8, _ => rfl
  | 9, _ => rfl
  | 10, _ => rfl
  | 11, _ => rfl
  | k + 12, h => absurd h (by omega)
theorem nml : ∀ (k : Nat) (h : k < 12), ([.string ⟨#[105, 110]⟩, .string ⟨#[101, 115, 114, 99]⟩, .string ⟨#[101, 100, 115, 116]⟩, .string ⟨#[101, 116, 121, 112, 101]⟩, .string ⟨#[118, 108, 97, 110]⟩, .string ⟨#[112, 99, 112]⟩, .string ⟨#[115, 114, 99]⟩, .string ⟨#[100, 115, 116]⟩, .string ⟨#[112, 114, 111, 116, 111]⟩, .string ⟨#[116, 111, 115]⟩, .string ⟨#[115, 112, 111, 114, 116]⟩, .string ⟨#[100, 112, 111, 114, 116]⟩] : List Value)[k]'(by simpa using h) = .string (nm k)
  | 0, _ => rfl
  | 1, _ => rfl
  | 2, _ => rfl
  | 3, _ => rfl
  | 4, _ => rfl
  | 5, _ => rfl
  | 6, _ => rfl
  | 7, _ => rfl
  | 8, _ => rfl
  | 9, _ => rfl
  | 10, _ => rfl
  | 11, _ => rfl
  | k + 12, h => absurd h (by omega)
theorem rsize_in (k : Nat) (w : World) (h : k < 12) :
    Calls Tryd.prog 19 #[.int .i64 k] w fun e w' => e = .returned (.int .i64 (sz k)) ∧ Below w.heap.size w w' := by
  have h1 : ¬ (k : Int) < 0 := by omega
  have h2 : ¬ (11 : Int) < k := by omega
  go_enter Tryd.func19, Tryd.ntmps19
  go_wp2
  go_ret
  exact ⟨congrArg Ending.returned (szl k h), (Below.refl _ _).alloc (Nat.le_refl _) _⟩
theorem mkv_small (j b : Nat) (h : j ≤ 48) : 0 ≤ mkv j b ∧ mkv j b ≤ 281474976710656 := by
  have h1 := mkv_lt j b
  have h2 := pow_le' h
  have h3 : (2 : Int) ^ 48 = 281474976710656 := by decide
  omega
end Go.Proofs.YtpcacgfhjheiiaaDoor
