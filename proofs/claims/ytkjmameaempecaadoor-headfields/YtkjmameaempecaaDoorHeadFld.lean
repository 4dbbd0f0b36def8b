/-
  The walks of Field (the program's and the reference's) and of the law HeadFields.
-/
import Derived.Test.YtkjmameaempecaaDoorHeadLaw
namespace Go.Proofs.YtkjmameaempecaaDoor
open Go.RowKit

theorem idxLay : ∀ (j : Nat), j < 12 → ∀ w : World, (Instr.index 46 (.agg tabArr) (.int .i64 j)).run Tryd.prog w = .ok (.agg #[.string (nm j), .int .i64 (sz j)]) w
  | 0, _, _ => by kernel_rfl
  | 1, _, _ => by kernel_rfl
  | 2, _, _ => by kernel_rfl
  | 3, _, _ => by kernel_rfl
  | 4, _, _ => by kernel_rfl
  | 5, _, _ => by kernel_rfl
  | 6, _, _ => by kernel_rfl
  | 7, _, _ => by kernel_rfl
  | 8, _, _ => by kernel_rfl
  | 9, _, _ => by kernel_rfl
  | 10, _, _ => by kernel_rfl
  | 11, _, _ => by kernel_rfl
  | j + 12, h, _ => absurd h (by omega)

set_option maxHeartbeats 400000 in
theorem field_hit (s : ByteArray) (j : Nat) (hj : j < 12) (hno : ∀ m, m < j → ((nm m).toList == s.toList) = false) (hyes : ((nm j).toList == s.toList) = true) (w : World) (ht : Tab w) :
    Calls Tryd.prog 10 #[.string s] w fun e w' => e = .returned (.tuple #[.int .i64 j, .bool true]) ∧ Below w.heap.size w w' := by
  obtain ⟨t, fr, hg⟩ := ht.2
  have HG := Lib.hid hg
  have HNO := Lib.hid hno
  have HY := Lib.hid hyes
  clear ht hg hno hyes
  go_enter Tryd.func10, Tryd.ntmps10
  go_wp2_with (refine wpList_load_row rfl 46 _ rfl 0 rfl t _ fr _ HG.out Tryd.underlying46 rfl (by kernel_rfl) ?_)
  go_loopw [7] (fun i wr => ∃ r : Nat, r ≤ j ∧ i = .int .i64 r ∧ Below w.heap.size w wr) (fun i _ => (12 - intOf i).toNat)
  case atStart => exact ⟨0, by omega, rfl, Below.refl _ _⟩
  case round =>
    obtain ⟨r, hr, rfl, hwr⟩ := hrel
    have hr12 : r < 12 := by omega
    have hidx := idxLay r hr12
    by_cases hlt : r < j
    · have hb := HNO.out r hlt
      go_wp2
      go_roundw
      case rel => exact ⟨r + 1, by omega, by go_num, hwr.alloc hwr.size _⟩
      case measure => simp [intOf]; omega
    · obtain rfl : r = j := by omega
      have hb := HY.out
      go_wp2
      go_ret2
      exact ⟨rfl, hwr.alloc hwr.size _⟩
set_option maxHeartbeats 400000 in
theorem field_miss (s : ByteArray) (hno : ∀ m, m < 12 → ((nm m).toList == s.toList) = false) (w : World) (ht : Tab w) :
    Calls Tryd.prog 10 #[.string s] w fun e w' => e = .returned (.tuple #[.int .i64 0, .bool false]) ∧ Below w.heap.size w w' := by
  obtain ⟨t, fr, hg⟩ := ht.2
  have HG := Lib.hid hg
  have HNO := Lib.hid hno
  clear ht hg hno
  go_enter Tryd.func10, Tryd.ntmps10
  go_wp2_with (refine wpList_load_row rfl 46 _ rfl 0 rfl t _ fr _ HG.out Tryd.underlying46 rfl (by kernel_rfl) ?_)
  go_loopw [7] (fun i wr => ∃ r : Nat, r ≤ 12 ∧ i = .int .i64 r ∧ Below w.heap.size w wr) (fun i _ => (12 - intOf i).toNat)
  case atStart => exact ⟨0, by omega, rfl, Below.refl _ _⟩
  case round =>
    obtain ⟨r, hr, rfl, hwr⟩ := hrel
    by_cases hlt : r < 12
    · have hidx := idxLay r hlt
      have hb := HNO.out r hlt
      go_wp2
      go_roundw
      case rel => exact ⟨r + 1, by omega, by go_num, hwr.alloc hwr.size _⟩
      case measure => simp [intOf]; omega
    · go_wp2
      go_ret2
      exact ⟨rfl, hwr⟩
set_option maxHeartbeats 400000 in
theorem rfield_hit (s : ByteArray) (j : Nat) (hj : j < 12) (hno : ∀ m, m < j → ((nm m).toList == s.toList) = false) (hyes : ((nm j).toList == s.toList) = true) (w : World) :
    Calls Tryd.prog 11 #[.string s] w fun e w' => e = .returned (.tuple #[.int .i64 j, .bool true]) ∧ Below w.heap.size w w' := by
  have HNO := Lib.hid hno
  have HY := Lib.hid hyes
  clear hno hyes
  go_enter Tryd.func11, Tryd.ntmps11
  go_wp2
  go_loopw [4] (fun i wr => ∃ r : Nat, r ≤ j ∧ i = .int .i64 r ∧ Below w.heap.size w wr) (fun i _ => (12 - intOf i).toNat)
  case atStart => exact ⟨0, by omega, rfl, Below.refl _ _⟩
  case round =>
    obtain ⟨r, hr, rfl, hwr⟩ := hrel
    have hr12 : r < 12 := by omega
    by_cases hlt : r < j
    · have hb := HNO.out r hlt
      go_wp2_with (go_at_call 15; refine (rname_in _ _ hr12).mono ?_; rintro e w' ⟨rfl, hw⟩)
      go_roundw
      case rel => exact ⟨r + 1, by omega, by go_num, hwr.trans (hw.mono hwr.size)⟩
      case measure => simp [intOf]; omega
    · obtain rfl : r = j := by omega
      have hb := HY.out
      go_wp2_with (go_at_call 15; refine (rname_in _ _ hr12).mono ?_; rintro e w' ⟨rfl, hw⟩)
      go_ret2
      exact ⟨rfl, hwr.trans (hw.mono hwr.size)⟩
set_option maxHeartbeats 400000 in
theorem rfield_miss (s : ByteArray) (hno : ∀ m, m < 12 → ((nm m).toList == s.toList) = false) (w : World) :
    Calls Tryd.prog 11 #[.string s] w fun e w' => e = .returned (.tuple #[.int .i64 0, .bool false]) ∧ Below w.heap.size w w' := by
  have HNO := Lib.hid hno
  clear hno
  go_enter Tryd.func11, Tryd.ntmps11
  go_wp2
  go_loopw [4] (fun i wr => ∃ r : Nat, r ≤ 12 ∧ i = .int .i64 r ∧ Below w.heap.size w wr) (fun i _ => (12 - intOf i).toNat)
  case atStart => exact ⟨0, by omega, rfl, Below.refl _ _⟩
  case round =>
    obtain ⟨r, hr, rfl, hwr⟩ := hrel
    by_cases hlt : r < 12
    · have hb := HNO.out r hlt
      go_wp2_with (go_at_call 15; refine (rname_in _ _ hlt).mono ?_; rintro e w' ⟨rfl, hw⟩)
      go_roundw
      case rel => exact ⟨r + 1, by omega, by go_num, hwr.trans (hw.mono hwr.size)⟩
      case measure => simp [intOf]; omega
    · go_wp2
      go_ret2
      exact ⟨rfl, hwr⟩
theorem headFields_long (n : Int) (s : ByteArray) (hs : 100 < s.size) (w : World) (ht : Tab w) :
    Calls Tryd.prog 3 #[.int .i64 n, .string s] w fun e w' => e = .returned (.bool true) ∧ w = w' := by
  have HT := Lib.hid ht
  clear ht
  go_enter Tryd.func3, Tryd.ntmps3
  go_wp2_with (go_at_call 9; refine (answers_any _ HT.out).mono ?_; rintro e w' ⟨rfl, rfl⟩)
  go_ret
  exact ⟨rfl, rfl⟩
set_option maxHeartbeats 400000 in
theorem headFields_of (n : Int) (s : ByteArray) (hs : ¬ 100 < s.size) (x S : Int) (y : Bool) (N : ByteArray) (w : World) (ht : Tab w) (hz : 0 < w.heap.size)
    (hF : ∀ w, Tab w → Calls Tryd.prog 10 #[.string s] w fun e w' => e = .returned (.tuple #[.int .i64 x, .bool y]) ∧ Below w.heap.size w w')
    (hG : ∀ w, Calls Tryd.prog 11 #[.string s] w fun e w' => e = .returned (.tuple #[.int .i64 x, .bool y]) ∧ Below w.heap.size w w')
    (hS : ∀ w, Tab w → Calls Tryd.prog 12 #[.int .i64 n] w fun e w' => e = .returned (.int .i64 S) ∧ w = w')
    (hR : ∀ w, Calls Tryd.prog 13 #[.int .i64 n] w fun e w' => e = .returned (.int .i64 S) ∧ Below w.heap.size w w')
    (hN : ∀ w, Tab w → Calls Tryd.prog 14 #[.int .i64 n] w fun e w' => e = .returned (.string N) ∧ w = w')
    (hM : ∀ w, Calls Tryd.prog 15 #[.int .i64 n] w fun e w' => e = .returned (.string N) ∧ Below w.heap.size w w') :
    Calls Tryd.prog 3 #[.int .i64 n, .string s] w fun e w' => e = .returned (.bool true) ∧ Below w.heap.size w w' := by
  have HT := Lib.hid ht
  have HF := Lib.hid hF
  have HG := Lib.hid hG
  have HS := Lib.hid hS
  have HR := Lib.hid hR
  have HN := Lib.hid hN
  have HM := Lib.hid hM
  clear ht hF hG hS hR hN hM
  go_enter Tryd.func3, Tryd.ntmps3
  go_wp2_with (first
    | (go_at_call 10; refine (HF.out _ HT.out).mono ?_; rintro e w1 ⟨rfl, hw1⟩; have T1 := Lib.hid (HT.out.below hz hw1))
    | (go_at_call 11; refine (HG.out _).mono ?_; rintro e w2 ⟨rfl, hw2⟩; have hb2 := hw1.trans (hw2.mono hw1.size); have T2 := Lib.hid (HT.out.below hz hb2))
    | (go_at_call 9; refine (answers_any _ T2.out).mono ?_; rintro e w' ⟨rfl, rfl⟩)
    | (go_at_call 12; refine (HS.out _ T2.out).mono ?_; rintro e w' ⟨rfl, rfl⟩)
    | (go_at_call 13; refine (HR.out _).mono ?_; rintro e w3 ⟨rfl, hw3⟩; have hb3 := hb2.trans (hw3.mono hb2.size); have T3 := Lib.hid (HT.out.below hz hb3))
    | (go_at_call 14; refine (HN.out _ T3.out).mono ?_; rintro e w' ⟨rfl, rfl⟩)
    | (go_at_call 15; refine (HM.out _).mono ?_; rintro e w4 ⟨rfl, hw4⟩; have hb4 := hb3.trans (hw4.mono hb3.size)))
  go_ret
  exact ⟨by simp, hb4⟩
theorem headFields_any (n : Int) (s : ByteArray) (_ : s.size ≤ maxLen) (w : World) (ht : Tab w) (hz : 0 < w.heap.size) :
    Calls Tryd.prog 3 #[.int .i64 n, .string s] w fun e w' => e = .returned (.bool true) ∧ Below w.heap.size w w' := by
  by_cases hs : 100 < s.size
  · exact (headFields_long n s hs w ht).mono fun e w' ⟨h, h'⟩ => ⟨h, h' ▸ Below.refl _ _⟩
  obtain ⟨x, y, hF, hG⟩ : ∃ (x : Int) (y : Bool), (∀ w, Tab w → Calls Tryd.prog 10 #[.string s] w fun e w' => e = .returned (.tuple #[.int .i64 x, .bool y]) ∧ Below w.heap.size w w') ∧
      ∀ w, Calls Tryd.prog 11 #[.string s] w fun e w' => e = .returned (.tuple #[.int .i64 x, .bool y]) ∧ Below w.heap.size w w' := by
    rcases first_hit (fun m => (nm m).toList == s.toList) 12 with h | ⟨j, hj, h1, h2⟩
    · exact ⟨0, false, fun w ht => field_miss s h w ht, fun w => rfield_miss s h w⟩
    · exact ⟨j, true, fun w ht => field_hit s j hj h1 h2 w ht, fun w => rfield_hit s j hj h1 h2 w⟩
  by_cases hn : n < 0 ∨ 12 ≤ n
  · exact headFields_of n s hs x 0 y ⟨#[]⟩ w ht hz hF hG (fun w _ => size_out n w hn) (fun w => (rsize_out n w (by omega)).mono fun e w' ⟨h, h'⟩ => ⟨h, h' ▸ Below.refl _ _⟩)
      (fun w _ => name_out n w hn) (fun w => (rname_out n w (by omega)).mono fun e w' ⟨h, h'⟩ => ⟨h, h' ▸ Below.refl _ _⟩)
  · obtain ⟨k, rfl⟩ : ∃ k : Nat, n = k := ⟨n.toNat, by omega⟩
    have hk : k < 12 := by omega
    exact headFields_of k s hs x _ y _ w ht hz hF hG (fun w t => size_in k w hk t) (fun w => rsize_in k w hk) (fun w t => name_in k w hk t) (fun w => rname_in k w hk)
end Go.Proofs.YtkjmameaempecaaDoor
