/-
  The walk of the law FrameNone.
-/
import Derived.Test.YtdcekbmoihmjkaaFrmAns
namespace Go.Proofs.Ytdcekbmoihmjkaa
set_option maxRecDepth 20000
open Go.RowKit

set_option maxHeartbeats 2000000 in
theorem frameNone_any (v : Value) (l : List Int) (_ : ∀ a ∈ l, 0 ≤ a ∧ a < 256) (w : World) (hl : KLies KB v l w) :
    Calls Try.prog 6 #[v] w fun e w' => e = .returned (.bool true) ∧ Below w.heap.size w w' := by
  obtain ⟨p, c, rfl⟩ := hl.form
  clear hl
  generalize l.length = n at *
  have HC1 := Lib.hid (ffeed_nil (.slice p n c) w)
  have HC2 := Lib.hid (fnext_nil w)
  have HA := Lib.hid (answers10 w)
  go_enter Try.func6, Try.ntmps6
  go_wp2_with (go_at_call 10; refine HC1.out.mono ?_; rintro e W ⟨rfl, rfl⟩; refine Hid.out ?_)
  refine Lib.hid ?_
  go_wp2_with (go_at_call 11; refine HC2.out.mono ?_; rintro e W1 ⟨rfl, rfl⟩; refine Hid.out ?_)
  refine Lib.hid ?_
  go_wp2_with (go_at_call 8; refine HA.out.mono ?_; rintro e W2 ⟨rfl, hb⟩; refine Hid.out ?_)
  have HC3 := Lib.hid (fleft_nil W2)
  have HB := Lib.hid hb
  clear hb HC1 HC2 HA
  refine Lib.hid ?_
  go_wp2_with (go_at_call 13; refine HC3.out.mono ?_; rintro e W3 ⟨rfl, rfl⟩)
  go_ret
  exact ⟨rfl, HB.out⟩
end Go.Proofs.Ytdcekbmoihmjkaa
