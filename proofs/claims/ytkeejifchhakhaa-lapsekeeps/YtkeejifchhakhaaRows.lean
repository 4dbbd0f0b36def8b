/-
  No cell of these rows narrows 'for every input' (looked for: loops, veiled, ifaces, maps, wideKeys, modest, calm, conditions, laid).
  DERIVED. THE GIVEN ROWS OF THIS SEAT. 5 by the template 'for every input the law returns true; each argument reads behind the call as it read before'; 0 by the template 'total and deterministic' (their statements: YtkeejifchhakhaaTotals.lean).
  GIVEN WITH THE SEED: the statements are not yours to turn. If you find one false, say at which input.
  Laid BY PROGRAM, IN A SANDBOX (cutbox-rows.mjs): the forced cells as the released guide's own fill.sh prints them over the translation 6423ae8b3bf6c43a… (all of the seat's roots in one cut). By AI agents, Wed Nov 11 2026. No macro, syntax, notation, axiom, sorry.
-/
import Derived.Test.YtkeejifchhakhaaChecked
import GoSem.Claim
import GoSem.ClaimJoined
import GoSem.ClaimMapViews
import Derived.JoinedTies
import Derived.KernelRfl
namespace Go.Proofs.Ytkeejifchhakhaa
/- THE CELL 'sum', in the pinned program and in every row, IS THE sha256 OF THE DUMP (.gsa) THAT YtkeejifchhakhaaProg.lean LOADS. Nothing in Lean hashes anything: it is a label: what it is worth is what the hold of that sum in a sandbox is worth. -/
noncomputable def Try.pinned : Pinned := { name := "ytkeejifchhakhaa", sum := "6423ae8b3bf6c43a121edcee470e4743f3a8c52997fbe5b19e69b055551b3515", checked := Try.checked }
namespace Rows
def none {H : Type} : Left H := { results := [], args := [] }

/-- 'podestalaw06.LapseTicks': WHATEVER THE INPUT: true; the input reads as it did. -/
def lapseTicksSpec : ChangeSpec := { name := "lapseTicks", fn := fun _ => fun
  | [d1, d2] => { results := [.lit (.bool true)], args := [d1, d2] }
  | _ => none }
def lapseTicksRow : OpenClaim := { program := "ytkeejifchhakhaa", sum := "6423ae8b3bf6c43a121edcee470e4743f3a8c52997fbe5b19e69b055551b3515", func := "podesta/podestalaw06.LapseTicks", spec := "lapseTicks", apart := false }
def LapseTicksSaid : Prop := lapseTicksRow.holds Try.pinned (OpenSpec.ofChange lapseTicksSpec)

/-- ITS FALSE NEIGHBOUR: 'it returns false'. Refute it at one input. -/
def lapseTicksWrong : ChangeSpec := { name := "lapseTicks", fn := fun _ => fun
  | [d1, d2] => { results := [.lit (.bool false)], args := [d1, d2] }
  | _ => none }
def LapseTicksWrongFalsely : Prop := lapseTicksRow.holds Try.pinned (OpenSpec.ofChange lapseTicksWrong)

/-- 'podestalaw06.LapseParts': WHATEVER THE INPUT: true; the input reads as it did. -/
def lapsePartsSpec : ChangeSpec := { name := "lapseParts", fn := fun _ => fun
  | [d1, d2, d3] => { results := [.lit (.bool true)], args := [d1, d2, d3] }
  | _ => none }
def lapsePartsRow : OpenClaim := { program := "ytkeejifchhakhaa", sum := "6423ae8b3bf6c43a121edcee470e4743f3a8c52997fbe5b19e69b055551b3515", func := "podesta/podestalaw06.LapseParts", spec := "lapseParts", apart := false }
def LapsePartsSaid : Prop := lapsePartsRow.holds Try.pinned (OpenSpec.ofChange lapsePartsSpec)

/-- ITS FALSE NEIGHBOUR: 'it returns false'. Refute it at one input. -/
def lapsePartsWrong : ChangeSpec := { name := "lapseParts", fn := fun _ => fun
  | [d1, d2, d3] => { results := [.lit (.bool false)], args := [d1, d2, d3] }
  | _ => none }
def LapsePartsWrongFalsely : Prop := lapsePartsRow.holds Try.pinned (OpenSpec.ofChange lapsePartsWrong)

/-- 'podestalaw06.LapseHits': WHATEVER THE INPUT: true; the input reads as it did. -/
def lapseHitsSpec : ChangeSpec := { name := "lapseHits", fn := fun _ => fun
  | [d1, d2] => { results := [.lit (.bool true)], args := [d1, d2] }
  | _ => none }
def lapseHitsRow : OpenClaim := { program := "ytkeejifchhakhaa", sum := "6423ae8b3bf6c43a121edcee470e4743f3a8c52997fbe5b19e69b055551b3515", func := "podesta/podestalaw06.LapseHits", spec := "lapseHits", apart := false }
def LapseHitsSaid : Prop := lapseHitsRow.holds Try.pinned (OpenSpec.ofChange lapseHitsSpec)

/-- ITS FALSE NEIGHBOUR: 'it returns false'. Refute it at one input. -/
def lapseHitsWrong : ChangeSpec := { name := "lapseHits", fn := fun _ => fun
  | [d1, d2] => { results := [.lit (.bool false)], args := [d1, d2] }
  | _ => none }
def LapseHitsWrongFalsely : Prop := lapseHitsRow.holds Try.pinned (OpenSpec.ofChange lapseHitsWrong)

/-- 'podestalaw06.LapseStill': WHATEVER THE INPUT: true; the input reads as it did. -/
def lapseStillSpec : ChangeSpec := { name := "lapseStill", fn := fun _ => fun
  | [d1, d2] => { results := [.lit (.bool true)], args := [d1, d2] }
  | _ => none }
def lapseStillRow : OpenClaim := { program := "ytkeejifchhakhaa", sum := "6423ae8b3bf6c43a121edcee470e4743f3a8c52997fbe5b19e69b055551b3515", func := "podesta/podestalaw06.LapseStill", spec := "lapseStill", apart := false }
def LapseStillSaid : Prop := lapseStillRow.holds Try.pinned (OpenSpec.ofChange lapseStillSpec)

/-- ITS FALSE NEIGHBOUR: 'it returns false'. Refute it at one input. -/
def lapseStillWrong : ChangeSpec := { name := "lapseStill", fn := fun _ => fun
  | [d1, d2] => { results := [.lit (.bool false)], args := [d1, d2] }
  | _ => none }
def LapseStillWrongFalsely : Prop := lapseStillRow.holds Try.pinned (OpenSpec.ofChange lapseStillWrong)

/-- 'podestalaw06.LapseKeeps': WHATEVER THE INPUT: true; the input reads as it did. -/
def lapseKeepsSpec : ChangeSpec := { name := "lapseKeeps", fn := fun _ => fun
  | [d1, d2] => { results := [.lit (.bool true)], args := [d1, d2] }
  | _ => none }
def lapseKeepsRow : OpenClaim := { program := "ytkeejifchhakhaa", sum := "6423ae8b3bf6c43a121edcee470e4743f3a8c52997fbe5b19e69b055551b3515", func := "podesta/podestalaw06.LapseKeeps", spec := "lapseKeeps", apart := false }
def LapseKeepsSaid : Prop := lapseKeepsRow.holds Try.pinned (OpenSpec.ofChange lapseKeepsSpec)

/-- ITS FALSE NEIGHBOUR: 'it returns false'. Refute it at one input. -/
def lapseKeepsWrong : ChangeSpec := { name := "lapseKeeps", fn := fun _ => fun
  | [d1, d2] => { results := [.lit (.bool false)], args := [d1, d2] }
  | _ => none }
def LapseKeepsWrongFalsely : Prop := lapseKeepsRow.holds Try.pinned (OpenSpec.ofChange lapseKeepsWrong)

/- THE SECOND FORM. 'bulk': how many values and letters a reading holds, each counted each time it is reached (what is shared counts as often as it is met; a slice's spare places count too). A statement '..UptoSaid' is the law's where the arguments, and the package variables that the reading takes, are together of bulk at most 1048576: NARROWER than '..Said'. Prove '..Said' where nothing that the law and all that it calls make is longer than what came in: it says more and counts as full. Else prove '..UptoSaid'. A law counts once. -/
mutual
def uptoBulk {H : Type} : DataW H → Nat
  | .lit (.string bytes) => bytes.length + 1
  | .lit _ => 1
  | .nil => 1
  | .ptr d => uptoBulk d + 1
  | .slice elems spare => uptoBulkAll elems + uptoBulkAll spare + 1
  | .agg parts => uptoBulkAll parts + 1
  | .iface _ d => uptoBulk d + 1
  | .map entries => uptoBulkEntries entries + 1
  | .held _ => 1
def uptoBulkAll {H : Type} : List (DataW H) → Nat
  | [] => 0
  | d :: r => uptoBulk d + uptoBulkAll r
def uptoBulkEntries {H : Type} : List (Lit × DataW H) → Nat
  | [] => 0
  | x :: r => uptoBulkEntry x + uptoBulkEntries r
def uptoBulkEntry {H : Type} : Lit × DataW H → Nat
  | (.string bytes, d) => bytes.length + uptoBulk d + 1
  | (_, d) => uptoBulk d + 1
 end
def uptoSmall : (H : Type) → List (DataW H) → Bool := fun _ ds => decide (uptoBulkAll ds ≤ 1048576)
def OpenSpec.upto (s : _root_.Go.ChangeSpec) : _root_.Go.OpenSpec := { _root_.Go.OpenSpec.ofChange s with cond := some uptoSmall }

/-- 'podestalaw06.LapseTicks', WHERE WHAT IT READS IS OF BULK AT MOST 1048576: true; the input reads as it did. -/
def lapseTicksUptoRow : OpenClaim := { program := "ytkeejifchhakhaa", sum := "6423ae8b3bf6c43a121edcee470e4743f3a8c52997fbe5b19e69b055551b3515", func := "podesta/podestalaw06.LapseTicks", spec := "lapseTicks", apart := false, narrowed := true }
def LapseTicksUptoSaid : Prop := lapseTicksUptoRow.holds Try.pinned (OpenSpec.upto lapseTicksSpec)

/-- 'podestalaw06.LapseParts', WHERE WHAT IT READS IS OF BULK AT MOST 1048576: true; the input reads as it did. -/
def lapsePartsUptoRow : OpenClaim := { program := "ytkeejifchhakhaa", sum := "6423ae8b3bf6c43a121edcee470e4743f3a8c52997fbe5b19e69b055551b3515", func := "podesta/podestalaw06.LapseParts", spec := "lapseParts", apart := false, narrowed := true }
def LapsePartsUptoSaid : Prop := lapsePartsUptoRow.holds Try.pinned (OpenSpec.upto lapsePartsSpec)

/-- 'podestalaw06.LapseHits', WHERE WHAT IT READS IS OF BULK AT MOST 1048576: true; the input reads as it did. -/
def lapseHitsUptoRow : OpenClaim := { program := "ytkeejifchhakhaa", sum := "6423ae8b3bf6c43a121edcee470e4743f3a8c52997fbe5b19e69b055551b3515", func := "podesta/podestalaw06.LapseHits", spec := "lapseHits", apart := false, narrowed := true }
def LapseHitsUptoSaid : Prop := lapseHitsUptoRow.holds Try.pinned (OpenSpec.upto lapseHitsSpec)

/-- 'podestalaw06.LapseStill', WHERE WHAT IT READS IS OF BULK AT MOST 1048576: true; the input reads as it did. -/
def lapseStillUptoRow : OpenClaim := { program := "ytkeejifchhakhaa", sum := "6423ae8b3bf6c43a121edcee470e4743f3a8c52997fbe5b19e69b055551b3515", func := "podesta/podestalaw06.LapseStill", spec := "lapseStill", apart := false, narrowed := true }
def LapseStillUptoSaid : Prop := lapseStillUptoRow.holds Try.pinned (OpenSpec.upto lapseStillSpec)

/-- 'podestalaw06.LapseKeeps', WHERE WHAT IT READS IS OF BULK AT MOST 1048576: true; the input reads as it did. -/
def lapseKeepsUptoRow : OpenClaim := { program := "ytkeejifchhakhaa", sum := "6423ae8b3bf6c43a121edcee470e4743f3a8c52997fbe5b19e69b055551b3515", func := "podesta/podestalaw06.LapseKeeps", spec := "lapseKeeps", apart := false, narrowed := true }
def LapseKeepsUptoSaid : Prop := lapseKeepsUptoRow.holds Try.pinned (OpenSpec.upto lapseKeepsSpec)

end Rows
end Go.Proofs.Ytkeejifchhakhaa
