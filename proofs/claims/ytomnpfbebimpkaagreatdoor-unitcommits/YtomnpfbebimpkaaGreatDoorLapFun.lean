/-
  The walks of plus and over of package lapse, of more of the reference.
-/
import Derived.Test.YtomnpfbebimpkaaGreatDoorLapRow
namespace Go.Proofs.YtomnpfbebimpkaaGreatDoor
set_option maxRecDepth 20000
open Go.RowKit

theorem over_any (a b : Int) (w : World) : Calls Tryz.prog 82 #[.int .i64 a, .int .i64 b] w fun e w' => e = .returned (.bool (decide (0 < a) && decide (a ≤ b))) ∧ w' = w := by
  obtain ⟨x, hx⟩ : ∃ x, x = (decide (0 < a) && decide (a ≤ b)) := ⟨_, rfl⟩
  have HX := Lib.hid hx
  rw [← hx]
  clear hx
  by_cases h : 0 < a
  · go_enter Tryz.func82, Tryz.ntmps82
    go_wp2
    go_ret
    exact ⟨ret_bool (by rw [HX.out]; simp [h]), rfl⟩
  · go_enter Tryz.func82, Tryz.ntmps82
    go_wp2
    go_ret
    exact ⟨ret_bool (by rw [HX.out]; simp; omega), rfl⟩
theorem plus_any (a n : Int) (ha : I64 a) (h0 : 0 ≤ n) (h1 : n ≤ 1048576) (w : World) : Calls Tryz.prog 81 #[.int .i64 a, .int .i64 n] w fun e w' => e = .returned (.int .i64 (moreI a n)) ∧ w' = w := by
  obtain ⟨x, hx⟩ : ∃ x, x = moreI a n := ⟨_, rfl⟩
  rw [← hx]
  unfold moreI at hx
  have HX := Lib.hid hx
  clear hx
  have hr := ha.1
  have hr2 := ha.2
  by_cases h : 4611686018427387904 < a
  · go_enter Tryz.func81, Tryz.ntmps81
    go_wp2
    go_ret
    exact ⟨ret_int (by rw [HX.out, if_pos h]), rfl⟩
  · have hwr : IntKind.i64.wrap (a + n) = a + n := by rw [IntKind.wrap_i64]; omega
    go_enter Tryz.func81, Tryz.ntmps81
    go_wp2
    go_ret
    exact ⟨ret_int (by rw [HX.out, if_neg (by omega)]; split <;> omega), rfl⟩
end Go.Proofs.YtomnpfbebimpkaaGreatDoor
