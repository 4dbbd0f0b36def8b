/-
  The walk of the law PipeNone.
-/
import Derived.Test.YthccfbjhbbheeaaPipAns
namespace Go.Proofs.Ythccfbjhbbheeaa
set_option maxRecDepth 20000
open Go.RowKit Go.Conc

set_option maxHeartbeats 2000000 in
theorem pipeNone_any (n : Int) (_ : I64 n) (w : World) :
    Calls Try.prog 5 #[.int .i64 n] w fun e w' => e = .returned (.bool true) ∧ Below w.heap.size w w' := by
  have HC1 := Lib.hid (GetI_nil w)
  have HA := Lib.hid (answers11 w)
  go_enter Try.func5, Try.ntmps5
  go_wp2_with (go_at_call 9; refine HC1.out.mono ?_; rintro e W ⟨rfl, rfl⟩; refine Hid.out ?_)
  refine Lib.hid ?_
  go_wp2_with (go_at_call 7; refine HA.out.mono ?_; rintro e W1 ⟨rfl, hb⟩; refine Hid.out ?_)
  have HB1 := Lib.hid hb
  have HC2 := Lib.hid (PutI_nil n W1)
  clear hb HC1 HA
  refine Lib.hid ?_
  go_wp2_with (go_at_call 10; refine HC2.out.mono ?_; rintro e W2 ⟨rfl, hb⟩; refine Hid.out ?_)
  have HB2 := Lib.hid (HB1.out.trans (hb.mono HB1.out.size))
  have HC3 := Lib.hid (LenI_nil W2)
  have HC4 := Lib.hid (AllI_nil W2)
  clear hb HB1 HC2
  refine Lib.hid ?_
  go_wp2_with (go_at_call 11; refine HC3.out.mono ?_; rintro e W3 ⟨rfl, rfl⟩; refine Hid.out ?_)
  clear HC3
  refine Lib.hid ?_
  go_wp2_with (go_at_call 13; refine HC4.out.mono ?_; rintro e W4 ⟨rfl, rfl⟩)
  go_ret
  exact ⟨rfl, HB2.out⟩
end Go.Proofs.Ythccfbjhbbheeaa
