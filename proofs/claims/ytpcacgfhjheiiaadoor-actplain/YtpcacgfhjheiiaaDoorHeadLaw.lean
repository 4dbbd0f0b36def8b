/-
  The walks of the laws over integers: answers, HeadMasks.
-/
import Derived.Test.YtpcacgfhjheiiaaDoorHeadRef
namespace Go.Proofs.YtpcacgfhjheiiaaDoor
open Go.RowKit

theorem Tab.below {w w' : World} (h : Tab w) (hz : 0 < w.heap.size) (hb : Below w.heap.size w w') : Tab w' :=
  ⟨fun k hk => ⟨(hb.cell (p := ⟨0, k * 2, none⟩) hz).trans (h.1 k hk).1, (hb.cell (p := ⟨0, k * 2 + 1, none⟩) hz).trans (h.1 k hk).2⟩, by
    obtain ⟨t, fr, hf⟩ := h.2
    exact ⟨t, fr, (hb.block _ hz).trans hf⟩⟩
theorem mkv328 : mkv (sz 6).toNat 8 = 4278190080 := by decide

end Go.Proofs.YtpcacgfhjheiiaaDoor
