/-
  A rule's row with one number changed.
-/
import Derived.Test.YtomnpfbebimpkaaGreatDoorLapMath
import Derived.Test.YtomnpfbebimpkaaGreatDoorPackRule
namespace Go.Proofs.YtomnpfbebimpkaaGreatDoor
set_option maxRecDepth 20000
open Go.RowKit

theorem rca_set {r r' : Rm} {j : Nat} {v : Value} (hm : r'.u.m = r.u.m) (h : rtl r' = (rtl r).set j v) : (rca r).setIfInBounds (24 + j) v = rca r' := by
  apply Array.ext'
  simp only [rca, rcl, Array.toList_setIfInBounds]
  rw [List.set_append_right _ _ (by simp [cl]), hm, h]
  simp [cl]
theorem rca_quiet (r : Rm) (x : Int) : (rca r).setIfInBounds 30 (.int .i64 x) = rca ⟨{ r.u with quiet := x }, r.q, r.n, r.c⟩ := rca_set (j := 6) rfl rfl
theorem rca_age (r : Rm) (x : Int) : (rca r).setIfInBounds 31 (.int .i64 x) = rca ⟨{ r.u with age := x }, r.q, r.n, r.c⟩ := rca_set (j := 7) rfl rfl
theorem Blk.quiet {b : Nat} {r : Rm} {t : TypeId} {W : World} (h : Blk b (rca r) t W) (x : Int) : Blk b (rca ⟨{ r.u with quiet := x }, r.q, r.n, r.c⟩) t (W.setCell ⟨b, 30, none⟩ (.int .i64 x)) := by
  rw [← rca_quiet]; exact h.one _
theorem Blk.age {b : Nat} {r : Rm} {t : TypeId} {W : World} (h : Blk b (rca r) t W) (x : Int) : Blk b (rca ⟨{ r.u with age := x }, r.q, r.n, r.c⟩) t (W.setCell ⟨b, 31, none⟩ (.int .i64 x)) := by
  rw [← rca_age]; exact h.one _
/-- .. or into one of a row of rules -/
theorem rcl_num {r r' : Rm} {j : Nat} {v : Value} (hm : r'.u.m = r.u.m) (h : rtl r' = (rtl r).set j v) : rcl r' = (rcl r).set (24 + j) v := by
  unfold rcl
  rw [List.set_append_right _ _ (by simp [cl]), hm, h]
  simp [cl]
theorem rcl_hits (r : Rm) (x : Int) : rcl ⟨{ r.u with hits := x }, r.q, r.n, r.c⟩ = (rcl r).set 29 (.int .i64 x) := rcl_num (j := 5) rfl rfl
theorem rcl_quiet (r : Rm) (x : Int) : rcl ⟨{ r.u with quiet := x }, r.q, r.n, r.c⟩ = (rcl r).set 30 (.int .i64 x) := rcl_num (j := 6) rfl rfl
end Go.Proofs.YtomnpfbebimpkaaGreatDoor
