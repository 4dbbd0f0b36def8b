/-
  The walks of the laws over integers: answers, HeadMasks.
-/
import Derived.Test.YtkjmameaempecaaDoorHeadRef
namespace Go.Proofs.YtkjmameaempecaaDoor
open Go.RowKit

theorem Tab.below {w w' : World} (h : Tab w) (hz : 0 < w.heap.size) (hb : Below w.heap.size w w') : Tab w' :=
  ⟨fun k hk => ⟨(hb.cell (p := ⟨0, k * 2, none⟩) hz).trans (h.1 k hk).1, (hb.cell (p := ⟨0, k * 2 + 1, none⟩) hz).trans (h.1 k hk).2⟩, by
    obtain ⟨t, fr, hf⟩ := h.2
    exact ⟨t, fr, (hb.block _ hz).trans hf⟩⟩
theorem mkv328 : mkv (sz 6).toNat 8 = 4278190080 := by decide

theorem answers_any (w : World) (ht : Tab w) :
    Calls Tryd.prog 9 #[] w fun e w' => e = .returned (.bool true) ∧ w = w' := by
  have hm := mask_in 6 8 w (by decide) (by decide) ht
  rw [mkv328] at hm
  have hn := name_in 9 w (by decide) ht
  clear ht
  have HM := Lib.hid hm
  have HN := Lib.hid hn
  clear hm hn
  go_enter Tryd.func9, Tryd.ntmps9
  go_wp2_with (first
    | (go_at_call 16; refine HM.out.mono ?_; rintro e w' ⟨rfl, rfl⟩)
    | (go_at_call 14; refine HN.out.mono ?_; rintro e w' ⟨rfl, rfl⟩))
  go_ret
  exact ⟨congrArg (fun b => Ending.returned (.bool b)) (show ((nm 9).toList == [116, 111, 115]) = true by kernel_rfl), rfl⟩

/-- HeadMasks, the two answers being alike. -/
theorem headMasks_of (n b : Int) (w : World) (ht : Tab w) (hz : 0 < w.heap.size) (x : Int) (y : Bool)
    (h1 : Calls Tryd.prog 16 #[.int .i64 n, .int .i64 b] w fun e w' => e = .returned (.tuple #[.int .u64 x, .bool y]) ∧ w = w')
    (h2 : Calls Tryd.prog 17 #[.int .i64 n, .int .i64 b] w fun e w' => e = .returned (.tuple #[.int .u64 x, .bool y]) ∧ Below w.heap.size w w') :
    Calls Tryd.prog 4 #[.int .i64 n, .int .i64 b] w fun e w' => e = .returned (.bool true) ∧ Below w.heap.size w w' := by
  have HM := Lib.hid h1
  have HN := Lib.hid h2
  have HT := Lib.hid ht
  clear h1 h2 ht
  go_enter Tryd.func4, Tryd.ntmps4
  go_wp2_with (first
    | (go_at_call 16; refine HM.out.mono ?_; rintro e w' ⟨rfl, rfl⟩)
    | (go_at_call 17; refine HN.out.mono ?_; rintro e w' ⟨rfl, hw⟩)
    | (go_at_call 9; refine (answers_any _ (HT.out.below hz hw)).mono ?_; rintro e w' ⟨rfl, rfl⟩))
  go_ret
  exact ⟨by simp, hw⟩
theorem headMasks_any (n b : Int) (w : World) (ht : Tab w) (hz : 0 < w.heap.size) :
    Calls Tryd.prog 4 #[.int .i64 n, .int .i64 b] w fun e w' => e = .returned (.bool true) ∧ Below w.heap.size w w' := by
  by_cases hn : n < 0 ∨ 12 ≤ n
  · exact headMasks_of n b w ht hz 0 false (mask_no n b w hn) ((rmask_no n b w (by omega)).mono fun e w' ⟨h, h'⟩ => ⟨h, h' ▸ Below.refl _ _⟩)
  · obtain ⟨k, rfl⟩ : ∃ k : Nat, n = k := ⟨n.toNat, by omega⟩
    have hk : k < 12 := by omega
    by_cases hb : b < 0
    · exact headMasks_of k b w ht hz 0 false (mask_neg k b w hk hb) ((rmask_neg k b w hk hb).mono fun e w' ⟨h, h'⟩ => ⟨h, h' ▸ Below.refl _ _⟩)
    · by_cases hs : sz k < b
      · exact headMasks_of k b w ht hz 0 false (mask_big k b w hk (by omega) hs ht) (rmask_big k b w hk (by omega) hs)
      · obtain ⟨c, rfl⟩ : ∃ c : Nat, b = c := ⟨b.toNat, by omega⟩
        exact headMasks_of k c w ht hz _ true (mask_in k c w hk (by omega) ht) (rmask_in k c w hk (by omega))
end Go.Proofs.YtkjmameaempecaaDoor
