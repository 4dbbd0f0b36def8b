/-
  What the reference's Decode answers, for any bytes; the law CodeReads.
-/
import Derived.Test.YtndgbgolmpoepaaDoorPackCodD
import Derived.Test.YtndgbgolmpoepaaDoorCodeReadsW
namespace Go.Proofs.YtndgbgolmpoepaaDoor
open Go.RowKit

theorem rdec_any : RDecOk := fun v l hb hm w hl => by
  obtain ⟨p, c, rfl⟩ := hl.form
  have hh : EyH w p c l := ⟨hb, hm, hl⟩
  obtain ⟨⟨k, x1⟩, h0⟩ : ∃ y, gN 1 (l, false) = y := ⟨_, rfl⟩
  obtain ⟨⟨t, x2⟩, h1⟩ : ∃ y, gN 4 x1 = y := ⟨_, rfl⟩
  by_cases e1 : k = 1
  · exact rdec_1 w hh h0 h1 e1
  by_cases e6 : k = 6
  · exact rdec_6 w hh h0 h1 e6
  by_cases e8 : k = 8
  · exact rdec_8 w hh h0 h1 e8
  by_cases e9 : k = 9
  · exact rdec_9 w hh h0 h1 e9
  by_cases e10 : k = 10
  · exact rdec_10 w hh h0 h1 e10
  exact rdec_0 w hh h0 h1 e1 e6 e8 (fun h => h.elim e9 e10)
theorem codeReads_any (v : Value) (l : List Int) (hb : ByL l) (w : World) (hl : KLies KB v l w) (ht : Tab w) (hz : 0 < w.heap.size) :
    Calls Tryd.prog 4 #[v] w fun e w' => e = .returned (.bool true) ∧ Below w.heap.size w w' :=
  codeReads_of rdec_any v l hb w hl ht hz
end Go.Proofs.YtndgbgolmpoepaaDoor
