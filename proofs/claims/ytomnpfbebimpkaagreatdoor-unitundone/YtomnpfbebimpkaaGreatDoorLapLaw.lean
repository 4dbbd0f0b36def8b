/-
  What the walks of the laws of lapse have in common.
-/
import Derived.Test.YtomnpfbebimpkaaGreatDoorLapAns
import Derived.Test.YtomnpfbebimpkaaGreatDoorLapRt
import Derived.Test.YtomnpfbebimpkaaGreatDoorLapRHit
import Derived.Test.YtomnpfbebimpkaaGreatDoorPackRuleB
namespace Go.Proofs.YtomnpfbebimpkaaGreatDoor
set_option maxRecDepth 20000
open Go.RowKit

theorem wf_tick {u : Ru} (h : WfR u) {m : Int} (h0 : 0 ≤ m) (h1 : m ≤ 1048576) : WfR (tickU m u) :=
  ⟨h.m, h.a, h.room, h.nums.1, h.nums.2.1, h.nums.2.2.1, h.nums.2.2.2.1, h.nums.2.2.2.2.1, more_range h.nums.2.2.2.2.2.1 h0 h1, more_range h.nums.2.2.2.2.2.2 h0 h1⟩
theorem wf_left {us : List Ru} (h : WfUL us) {m : Int} (h0 : 0 ≤ m) (h1 : m ≤ 1048576) : WfUL (leftL m us) := fun u hu => by
  obtain ⟨x, hx, rfl⟩ := List.mem_map.1 (List.mem_filter.1 hu).1
  exact wf_tick (h x hx) h0 h1
theorem wf_hit {us : List Ru} (h : WfUL us) (i : Int) : WfUL (hitL i us) := fun u hu => by
  by_cases hi : i < 0 ∨ (us.length : Int) ≤ i
  · rw [hitL_no hi] at hu
    exact h u hu
  · obtain ⟨j, rfl⟩ : ∃ j : Nat, i = (j : Int) := ⟨i.toNat, by omega⟩
    have hj : j < us.length := by omega
    have hx := List.getElem?_eq_getElem hj
    rw [hitL_at hx] at hu
    have wx := h _ (List.mem_of_getElem? hx)
    rcases List.mem_or_eq_of_mem_set hu with hu | rfl
    · exact h u hu
    · exact ⟨wx.m, wx.a, wx.room, wx.nums.1, wx.nums.2.1, wx.nums.2.2.1, wx.nums.2.2.2.1, more_range wx.nums.2.2.2.2.1 (by decide) (by decide), ⟨by show (-9223372036854775808 : Int) ≤ 0; decide, by show (0 : Int) ≤ 9223372036854775807; decide⟩, wx.nums.2.2.2.2.2.2⟩
section
variable {w w0 W : World} {va vb : Value} {A B : List Rm} {base : Nat}
end
end Go.Proofs.YtomnpfbebimpkaaGreatDoor
