/-
  Headers by value: the walks of Sound, Head, Compare, Order, sign.
-/
import Derived.Test.YtpcacgfhjheiiaaDoorHeadVal
import Derived.Deep.RegionHeld3
import Derived.Deep.RegionWith
namespace Go.Proofs.YtpcacgfhjheiiaaDoor
open Go.RowKit

theorem idxHead (a : Nat → Int) : ∀ (j : Nat), j < 12 → ∀ w : World, (Instr.index 25 (.agg (hc a)) (.int .i64 j)).run Tryd.prog w = .ok (.int .u64 (a j)) w
  | 0, _, _ => by kernel_rfl
  | 1, _, _ => by kernel_rfl
  | 2, _, _ => by kernel_rfl
  | 3, _, _ => by kernel_rfl
  | 4, _, _ => by kernel_rfl
  | 5, _, _ => by kernel_rfl
  | 6, _, _ => by kernel_rfl
  | 7, _, _ => by kernel_rfl
  | 8, _, _ => by kernel_rfl
  | 9, _, _ => by kernel_rfl
  | 10, _, _ => by kernel_rfl
  | 11, _, _ => by kernel_rfl
  | j + 12, h, _ => absurd h (by omega)

theorem below1 (w : World) (A : Obj) : Below w.heap.size w (w.alloc A) := (Below.refl _ _).alloc (Nat.le_refl _) _
set_option maxHeartbeats 400000 in
theorem rhead_yes (a : Nat → Int) (hy : ∀ j, j < 12 → fitB j (a j) = true) (w : World) :
    Calls Tryd.prog 12 #[.agg (hc a)] w fun e w' => e = .returned (.bool true) ∧ Below w.heap.size w w' := by
  have HY := Lib.hid hy
  clear hy
  go_enter Tryd.func12, Tryd.ntmps12
  go_wp2
  go_loopw [3] (fun i wr => ∃ r : Nat, r ≤ 12 ∧ i = .int .i64 r ∧ wr.heap[w.heap.size]? = some (.cells (hc a) 25 (0, 0)) ∧ Below w.heap.size w wr) (fun i _ => (12 - intOf i).toNat)
  case atStart => exact ⟨0, by omega, rfl, heap_alloc_new _ _, below1 _ _⟩
  case round =>
    obtain ⟨r, hr, rfl, hrow, hwr⟩ := hrel
    have HR := Lib.hid hrow
    clear hrow
    by_cases hlt : r < 12
    · have hcell := cell_row HR.out hlt
      have hf := HY.out r hlt
      go_wp2
      have hzr : w.heap.size < wr.heap.size := block_lt_of_cell hcell
      go_region_with (first
        | (go_at_call 19; refine (rsize_in r _ hlt).mono ?_; rintro e w1 ⟨rfl, hw1⟩; have hc1 : w1.cell? ⟨w.heap.size, r, none⟩ = some (.int .u64 (a r)) := (hw1.cell (p := ⟨w.heap.size, r, none⟩) hzr).trans hcell)
        | (go_at_call 18; refine (rfits_any r (a r) _).mono ?_; rintro e w' ⟨rfl, rfl⟩))
      all_goals
        go_wp2
        go_roundw
        case rel => exact ⟨r + 1, by omega, by go_num, (hw1.block _ hzr).trans HR.out, hwr.drew.trans (hw1.mono hwr.size)⟩
        case measure => simp [intOf]; omega
    · go_wp2
      go_ret
      exact ⟨rfl, hwr⟩
set_option maxHeartbeats 400000 in
theorem rhead_no (a : Nat → Int) (k : Nat) (hk : k < 12) (hy : ∀ j, j < k → fitB j (a j) = true) (hn : fitB k (a k) = false) (w : World) :
    Calls Tryd.prog 12 #[.agg (hc a)] w fun e w' => e = .returned (.bool false) ∧ Below w.heap.size w w' := by
  have HY := Lib.hid hy
  have HN := Lib.hid hn
  clear hy hn
  go_enter Tryd.func12, Tryd.ntmps12
  go_wp2
  go_loopw [3] (fun i wr => ∃ r : Nat, r ≤ k ∧ i = .int .i64 r ∧ wr.heap[w.heap.size]? = some (.cells (hc a) 25 (0, 0)) ∧ Below w.heap.size w wr) (fun i _ => (12 - intOf i).toNat)
  case atStart => exact ⟨0, by omega, rfl, heap_alloc_new _ _, below1 _ _⟩
  case round =>
    obtain ⟨r, hr, rfl, hrow, hwr⟩ := hrel
    have HR := Lib.hid hrow
    clear hrow
    have h12 : r < 12 := by omega
    have hcell := cell_row HR.out h12
    have hzr : w.heap.size < wr.heap.size := block_lt_of_cell hcell
    by_cases hlt : r < k
    · have hf := HY.out r hlt
      go_wp2
      go_region_with (first
        | (go_at_call 19; refine (rsize_in r _ h12).mono ?_; rintro e w1 ⟨rfl, hw1⟩; have hc1 : w1.cell? ⟨w.heap.size, r, none⟩ = some (.int .u64 (a r)) := (hw1.cell (p := ⟨w.heap.size, r, none⟩) hzr).trans hcell)
        | (go_at_call 18; refine (rfits_any r (a r) _).mono ?_; rintro e w' ⟨rfl, rfl⟩))
      all_goals
        go_wp2
        go_roundw
        case rel => exact ⟨r + 1, by omega, by go_num, (hw1.block _ hzr).trans HR.out, hwr.drew.trans (hw1.mono hwr.size)⟩
        case measure => simp [intOf]; omega
    · obtain rfl : r = k := by omega
      have hf := HN.out
      go_wp2
      go_region_with (first
        | (go_at_call 19; refine (rsize_in r _ h12).mono ?_; rintro e w1 ⟨rfl, hw1⟩; have hc1 : w1.cell? ⟨w.heap.size, r, none⟩ = some (.int .u64 (a r)) := (hw1.cell (p := ⟨w.heap.size, r, none⟩) hzr).trans hcell)
        | (go_at_call 18; refine (rfits_any r (a r) _).mono ?_; rintro e w' ⟨rfl, rfl⟩))
      all_goals
        go_wp2
        go_ret
        exact ⟨rfl, hwr.drew.trans (hw1.mono hwr.size)⟩
/-- is a header sound? -/
def sndB (a : Nat → Int) : Bool := (List.range 12).all fun j => fitB j (a j)
theorem snd_cases (a : Nat → Int) : (sndB a = true ∧ ∀ j, j < 12 → fitB j (a j) = true) ∨ (sndB a = false ∧ ∃ k, k < 12 ∧ (∀ j, j < k → fitB j (a j) = true) ∧ fitB k (a k) = false) := by
  rcases first_hit (fun j => !fitB j (a j)) 12 with h | ⟨k, hk, h1, h2⟩
  · have h' : ∀ j, j < 12 → fitB j (a j) = true := fun j hj => by simpa using h j hj
    exact Or.inl ⟨by simpa [sndB] using h', h'⟩
  · refine Or.inr ⟨?_, k, hk, fun j hj => by simpa using h1 j hj, by simpa using h2⟩
    rw [sndB, List.all_eq_false]
    exact ⟨k, by simpa using hk, by simpa using h2⟩
theorem rhead_any (a : Nat → Int) (w : World) :
    Calls Tryd.prog 12 #[.agg (hc a)] w fun e w' => e = .returned (.bool (sndB a)) ∧ Below w.heap.size w w' := by
  rcases snd_cases a with ⟨e, h⟩ | ⟨e, k, hk, h1, h2⟩
  · rw [e]; exact rhead_yes a h w
  · rw [e]; exact rhead_no a k hk h1 h2 w
end Go.Proofs.YtpcacgfhjheiiaaDoor
