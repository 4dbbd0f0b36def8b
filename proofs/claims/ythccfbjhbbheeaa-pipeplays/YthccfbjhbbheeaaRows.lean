/-
  No cell of these rows narrows 'for every input' (looked for: loops, veiled, ifaces, maps, wideKeys, modest, calm, conditions, laid).
  DERIVED. THE GIVEN ROWS OF THIS SEAT. 4 by the template 'for every input the law returns true; each argument reads behind the call as it read before'; 0 by the template 'total and deterministic' (their statements: YthccfbjhbbheeaaTotals.lean).
  GIVEN WITH THE SEED: the statements are not yours to turn. If you find one false, say at which input.
  Laid BY PROGRAM, IN A SANDBOX (cutbox-rows.mjs): the forced cells as the released guide's own fill.sh prints them over the translation 9f2255de9058e347… (all of the seat's roots in one cut). By AI agents, Wed Nov 11 2026. No macro, syntax, notation, axiom, sorry.
-/
import Derived.Test.YthccfbjhbbheeaaChecked
import GoSem.Claim
import GoSem.ClaimJoined
import GoSem.ClaimMapViews
import Derived.JoinedTies
import Derived.KernelRfl
namespace Go.Proofs.Ythccfbjhbbheeaa
/- THE CELL 'sum', in the pinned program and in every row, IS THE sha256 OF THE DUMP (.gsa) THAT YthccfbjhbbheeaaProg.lean LOADS. Nothing in Lean hashes anything: it is a label: what it is worth is what the hold of that sum in a sandbox is worth. -/
noncomputable def Try.pinned : Pinned := { name := "ythccfbjhbbheeaa", sum := "9f2255de9058e34747fc291fa70a4aaab335dbf4b6bd10accff1e5172ee3dc03", checked := Try.checked }
namespace Rows
def none {H : Type} : Left H := { results := [], args := [] }

/-- 'podestalaw11.PipePlays': WHATEVER THE INPUT: true; the input reads as it did. -/
def pipePlaysSpec : ChangeSpec := { name := "pipePlays", fn := fun _ => fun
  | [d1, d2] => { results := [.lit (.bool true)], args := [d1, d2] }
  | _ => none }
def pipePlaysRow : OpenClaim := { program := "ythccfbjhbbheeaa", sum := "9f2255de9058e34747fc291fa70a4aaab335dbf4b6bd10accff1e5172ee3dc03", func := "podesta/podestalaw11.PipePlays", spec := "pipePlays", apart := false }
def PipePlaysSaid : Prop := pipePlaysRow.holds Try.pinned (OpenSpec.ofChange pipePlaysSpec)

/-- ITS FALSE NEIGHBOUR: 'it returns false'. Refute it at one input. -/
def pipePlaysWrong : ChangeSpec := { name := "pipePlays", fn := fun _ => fun
  | [d1, d2] => { results := [.lit (.bool false)], args := [d1, d2] }
  | _ => none }
def PipePlaysWrongFalsely : Prop := pipePlaysRow.holds Try.pinned (OpenSpec.ofChange pipePlaysWrong)

/-- 'podestalaw11.PipeTexts': WHATEVER THE INPUT: true; the input reads as it did. -/
def pipeTextsSpec : ChangeSpec := { name := "pipeTexts", fn := fun _ => fun
  | [d] => { results := [.lit (.bool true)], args := [d] }
  | _ => none }
def pipeTextsRow : OpenClaim := { program := "ythccfbjhbbheeaa", sum := "9f2255de9058e34747fc291fa70a4aaab335dbf4b6bd10accff1e5172ee3dc03", func := "podesta/podestalaw11.PipeTexts", spec := "pipeTexts", apart := false }
def PipeTextsSaid : Prop := pipeTextsRow.holds Try.pinned (OpenSpec.ofChange pipeTextsSpec)

/-- ITS FALSE NEIGHBOUR: 'it returns false'. Refute it at one input. -/
def pipeTextsWrong : ChangeSpec := { name := "pipeTexts", fn := fun _ => fun
  | [d] => { results := [.lit (.bool false)], args := [d] }
  | _ => none }
def PipeTextsWrongFalsely : Prop := pipeTextsRow.holds Try.pinned (OpenSpec.ofChange pipeTextsWrong)

/-- 'podestalaw11.PipeNone': WHATEVER THE INPUT: true; the input reads as it did. -/
def pipeNoneSpec : ChangeSpec := { name := "pipeNone", fn := fun _ => fun
  | [d] => { results := [.lit (.bool true)], args := [d] }
  | _ => none }
def pipeNoneRow : OpenClaim := { program := "ythccfbjhbbheeaa", sum := "9f2255de9058e34747fc291fa70a4aaab335dbf4b6bd10accff1e5172ee3dc03", func := "podesta/podestalaw11.PipeNone", spec := "pipeNone", apart := false }
def PipeNoneSaid : Prop := pipeNoneRow.holds Try.pinned (OpenSpec.ofChange pipeNoneSpec)

/-- ITS FALSE NEIGHBOUR: 'it returns false'. Refute it at one input. -/
def pipeNoneWrong : ChangeSpec := { name := "pipeNone", fn := fun _ => fun
  | [d] => { results := [.lit (.bool false)], args := [d] }
  | _ => none }
def PipeNoneWrongFalsely : Prop := pipeNoneRow.holds Try.pinned (OpenSpec.ofChange pipeNoneWrong)

/-- 'podestalaw11.PipeTurn': WHATEVER THE INPUT: true; the input reads as it did. -/
def pipeTurnSpec : ChangeSpec := { name := "pipeTurn", fn := fun _ => fun
  | [d] => { results := [.lit (.bool true)], args := [d] }
  | _ => none }
def pipeTurnRow : OpenClaim := { program := "ythccfbjhbbheeaa", sum := "9f2255de9058e34747fc291fa70a4aaab335dbf4b6bd10accff1e5172ee3dc03", func := "podesta/podestalaw11.PipeTurn", spec := "pipeTurn", apart := false }
def PipeTurnSaid : Prop := pipeTurnRow.holds Try.pinned (OpenSpec.ofChange pipeTurnSpec)

/-- ITS FALSE NEIGHBOUR: 'it returns false'. Refute it at one input. -/
def pipeTurnWrong : ChangeSpec := { name := "pipeTurn", fn := fun _ => fun
  | [d] => { results := [.lit (.bool false)], args := [d] }
  | _ => none }
def PipeTurnWrongFalsely : Prop := pipeTurnRow.holds Try.pinned (OpenSpec.ofChange pipeTurnWrong)

/- THE SECOND FORM. 'bulk': how many values and letters a reading holds, each counted each time it is reached (what is shared counts as often as it is met; a slice's spare places count too). A statement '..UptoSaid' is the law's where the arguments, and the package variables that the reading takes, are together of bulk at most 1048576: NARROWER than '..Said'. Prove '..Said' where nothing that the law and all that it calls make is longer than what came in: it says more and counts as full. Else prove '..UptoSaid'. A law counts once. -/
mutual
def uptoBulk {H : Type} : DataW H → Nat
  | .lit (.string bytes) => bytes.length + 1
  | .lit _ => 1
  | .nil => 1
  | .ptr d => uptoBulk d + 1
  | .slice elems spare => uptoBulkAll elems + uptoBulkAll spare + 1
  | .agg parts => uptoBulkAll parts + 1
  | .iface _ d => uptoBulk d + 1
  | .map entries => uptoBulkEntries entries + 1
  | .held _ => 1
def uptoBulkAll {H : Type} : List (DataW H) → Nat
  | [] => 0
  | d :: r => uptoBulk d + uptoBulkAll r
def uptoBulkEntries {H : Type} : List (Lit × DataW H) → Nat
  | [] => 0
  | x :: r => uptoBulkEntry x + uptoBulkEntries r
def uptoBulkEntry {H : Type} : Lit × DataW H → Nat
  | (.string bytes, d) => bytes.length + uptoBulk d + 1
  | (_, d) => uptoBulk d + 1
 end
def uptoSmall : (H : Type) → List (DataW H) → Bool := fun _ ds => decide (uptoBulkAll ds ≤ 1048576)
def OpenSpec.upto (s : _root_.Go.ChangeSpec) : _root_.Go.OpenSpec := { _root_.Go.OpenSpec.ofChange s with cond := some uptoSmall }

/-- 'podestalaw11.PipePlays', WHERE WHAT IT READS IS OF BULK AT MOST 1048576: true; the input reads as it did. -/
def pipePlaysUptoRow : OpenClaim := { program := "ythccfbjhbbheeaa", sum := "9f2255de9058e34747fc291fa70a4aaab335dbf4b6bd10accff1e5172ee3dc03", func := "podesta/podestalaw11.PipePlays", spec := "pipePlays", apart := false, narrowed := true }
def PipePlaysUptoSaid : Prop := pipePlaysUptoRow.holds Try.pinned (OpenSpec.upto pipePlaysSpec)

/-- 'podestalaw11.PipeTexts', WHERE WHAT IT READS IS OF BULK AT MOST 1048576: true; the input reads as it did. -/
def pipeTextsUptoRow : OpenClaim := { program := "ythccfbjhbbheeaa", sum := "9f2255de9058e34747fc291fa70a4aaab335dbf4b6bd10accff1e5172ee3dc03", func := "podesta/podestalaw11.PipeTexts", spec := "pipeTexts", apart := false, narrowed := true }
def PipeTextsUptoSaid : Prop := pipeTextsUptoRow.holds Try.pinned (OpenSpec.upto pipeTextsSpec)

/-- 'podestalaw11.PipeNone', WHERE WHAT IT READS IS OF BULK AT MOST 1048576: true; the input reads as it did. -/
def pipeNoneUptoRow : OpenClaim := { program := "ythccfbjhbbheeaa", sum := "9f2255de9058e34747fc291fa70a4aaab335dbf4b6bd10accff1e5172ee3dc03", func := "podesta/podestalaw11.PipeNone", spec := "pipeNone", apart := false, narrowed := true }
def PipeNoneUptoSaid : Prop := pipeNoneUptoRow.holds Try.pinned (OpenSpec.upto pipeNoneSpec)

/-- 'podestalaw11.PipeTurn', WHERE WHAT IT READS IS OF BULK AT MOST 1048576: true; the input reads as it did. -/
def pipeTurnUptoRow : OpenClaim := { program := "ythccfbjhbbheeaa", sum := "9f2255de9058e34747fc291fa70a4aaab335dbf4b6bd10accff1e5172ee3dc03", func := "podesta/podestalaw11.PipeTurn", spec := "pipeTurn", apart := false, narrowed := true }
def PipeTurnUptoSaid : Prop := pipeTurnUptoRow.holds Try.pinned (OpenSpec.upto pipeTurnSpec)

end Rows
end Go.Proofs.Ythccfbjhbbheeaa
