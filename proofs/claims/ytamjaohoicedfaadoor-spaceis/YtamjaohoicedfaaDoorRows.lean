/-
  NARROWER THAN 'FOR EVERY INPUT', by the rows' own cells (each row's printed sentence says how): SpaceIs: laid · SpaceLaws: laid · SpaceAll: laid · SpaceKeeps: laid.
  DERIVED. THE GIVEN ROWS OF THIS SEAT. 4 by the template 'for every input the law returns true; each argument reads behind the call as it read before'; 0 by the template 'total and deterministic' (their statements: YtamjaohoicedfaaDoorTotals.lean).
  GIVEN WITH THE SEED: the statements are not yours to turn. If you find one false, say at which input.
  Laid BY PROGRAM, IN A SANDBOX (cutbox-rows.mjs): the forced cells as the released guide's own fill.sh prints them over the translation 0b42d3f1714b95f8… (all of the seat's roots in one cut). By AI agents, Wed Nov 11 2026. No macro, syntax, notation, axiom, sorry.
-/
import Derived.Test.YtamjaohoicedfaaDoorChecked
import GoSem.Claim
import GoSem.ClaimJoined
import GoSem.ClaimMapViews
import Derived.JoinedTies
import Derived.KernelRfl
namespace Go.Proofs.YtamjaohoicedfaaDoor
/- THE CELL 'sum', in the pinned program and in every row, IS THE sha256 OF THE DUMP (.gsa) THAT YtamjaohoicedfaaDoorProg.lean LOADS. Nothing in Lean hashes anything: it is a label: what it is worth is what the hold of that sum in a sandbox is worth. -/
noncomputable def Tryd.pinned : Pinned := { name := "ytamjaohoicedfaadoor", sum := "0b42d3f1714b95f8c6a57db44336f0d5e04292ff987b2191490620c69830fe03", checked := Tryd.checked }
namespace Rows
def none {H : Type} : Left H := { results := [], args := [] }

/- WHAT THE LISTED PACKAGE-LEVEL VARIABLES READ AS WHEN THE CALL BEGINS. Each datum BY PROGRAM (the guide's laid-datum.mjs) off the statement by which the dump's own 'gosem.cut.vars' lays the variable. In a bare row this is a premise. The card (YtamjaohoicedfaaDoorCards.lean) ties it to the program's text. -/
def laid_podesta_head_layouts {H : Type} : DataW H := .agg [.agg [.lit (.string [105, 110]), .lit (.int .i64 16)], .agg [.lit (.string [101, 115, 114, 99]), .lit (.int .i64 48)], .agg [.lit (.string [101, 100, 115, 116]), .lit (.int .i64 48)], .agg [.lit (.string [101, 116, 121, 112, 101]), .lit (.int .i64 16)], .agg [.lit (.string [118, 108, 97, 110]), .lit (.int .i64 12)], .agg [.lit (.string [112, 99, 112]), .lit (.int .i64 4)], .agg [.lit (.string [115, 114, 99]), .lit (.int .i64 32)], .agg [.lit (.string [100, 115, 116]), .lit (.int .i64 32)], .agg [.lit (.string [112, 114, 111, 116, 111]), .lit (.int .i64 8)], .agg [.lit (.string [116, 111, 115]), .lit (.int .i64 8)], .agg [.lit (.string [115, 112, 111, 114, 116]), .lit (.int .i64 12)], .agg [.lit (.string [100, 112, 111, 114, 116]), .lit (.int .i64 12)]]

/-- 'podestalaw03.SpaceIs': WHATEVER THE INPUT: true; the input reads as it did. -/
def spaceIsSpec : ChangeSpec := { name := "spaceIs", fn := fun _ => fun
  | [d1, d2] => { results := [.lit (.bool true)], args := [d1, d2] }
  | _ => none }
def spaceIsRow : OpenClaim := { program := "ytamjaohoicedfaadoor", sum := "0b42d3f1714b95f8c6a57db44336f0d5e04292ff987b2191490620c69830fe03", func := "podesta/podestalaw03.SpaceIs", spec := "spaceIs", unfollowed := true, recurses := true, named := ["podesta/head.layouts"], apart := false, laid := [("podesta/head.layouts", laid_podesta_head_layouts)] }
def SpaceIsSaid : Prop := spaceIsRow.holds Tryd.pinned (OpenSpec.ofChange spaceIsSpec)

/-- ITS FALSE NEIGHBOUR: 'it returns false'. Refute it at one input. -/
def spaceIsWrong : ChangeSpec := { name := "spaceIs", fn := fun _ => fun
  | [d1, d2] => { results := [.lit (.bool false)], args := [d1, d2] }
  | _ => none }
def SpaceIsWrongFalsely : Prop := spaceIsRow.holds Tryd.pinned (OpenSpec.ofChange spaceIsWrong)

/-- 'podestalaw03.SpaceLaws': WHATEVER THE INPUT: true; the input reads as it did. -/
def spaceLawsSpec : ChangeSpec := { name := "spaceLaws", fn := fun _ => fun
  | [d1, d2] => { results := [.lit (.bool true)], args := [d1, d2] }
  | _ => none }
def spaceLawsRow : OpenClaim := { program := "ytamjaohoicedfaadoor", sum := "0b42d3f1714b95f8c6a57db44336f0d5e04292ff987b2191490620c69830fe03", func := "podesta/podestalaw03.SpaceLaws", spec := "spaceLaws", unfollowed := true, recurses := true, named := ["podesta/head.layouts"], apart := false, laid := [("podesta/head.layouts", laid_podesta_head_layouts)] }
def SpaceLawsSaid : Prop := spaceLawsRow.holds Tryd.pinned (OpenSpec.ofChange spaceLawsSpec)

/-- ITS FALSE NEIGHBOUR: 'it returns false'. Refute it at one input. -/
def spaceLawsWrong : ChangeSpec := { name := "spaceLaws", fn := fun _ => fun
  | [d1, d2] => { results := [.lit (.bool false)], args := [d1, d2] }
  | _ => none }
def SpaceLawsWrongFalsely : Prop := spaceLawsRow.holds Tryd.pinned (OpenSpec.ofChange spaceLawsWrong)

/-- 'podestalaw03.SpaceAll': WHATEVER THE INPUT: true; the input reads as it did. -/
def spaceAllSpec : ChangeSpec := { name := "spaceAll", fn := fun _ => fun
  | [d] => { results := [.lit (.bool true)], args := [d] }
  | _ => none }
def spaceAllRow : OpenClaim := { program := "ytamjaohoicedfaadoor", sum := "0b42d3f1714b95f8c6a57db44336f0d5e04292ff987b2191490620c69830fe03", func := "podesta/podestalaw03.SpaceAll", spec := "spaceAll", unfollowed := true, recurses := true, named := ["podesta/head.layouts"], apart := false, laid := [("podesta/head.layouts", laid_podesta_head_layouts)] }
def SpaceAllSaid : Prop := spaceAllRow.holds Tryd.pinned (OpenSpec.ofChange spaceAllSpec)

/-- ITS FALSE NEIGHBOUR: 'it returns false'. Refute it at one input. -/
def spaceAllWrong : ChangeSpec := { name := "spaceAll", fn := fun _ => fun
  | [d] => { results := [.lit (.bool false)], args := [d] }
  | _ => none }
def SpaceAllWrongFalsely : Prop := spaceAllRow.holds Tryd.pinned (OpenSpec.ofChange spaceAllWrong)

/-- 'podestalaw03.SpaceKeeps': WHATEVER THE INPUT: true; the input reads as it did. -/
def spaceKeepsSpec : ChangeSpec := { name := "spaceKeeps", fn := fun _ => fun
  | [d1, d2] => { results := [.lit (.bool true)], args := [d1, d2] }
  | _ => none }
def spaceKeepsRow : OpenClaim := { program := "ytamjaohoicedfaadoor", sum := "0b42d3f1714b95f8c6a57db44336f0d5e04292ff987b2191490620c69830fe03", func := "podesta/podestalaw03.SpaceKeeps", spec := "spaceKeeps", unfollowed := true, recurses := true, named := ["podesta/head.layouts"], apart := false, laid := [("podesta/head.layouts", laid_podesta_head_layouts)] }
def SpaceKeepsSaid : Prop := spaceKeepsRow.holds Tryd.pinned (OpenSpec.ofChange spaceKeepsSpec)

/-- ITS FALSE NEIGHBOUR: 'it returns false'. Refute it at one input. -/
def spaceKeepsWrong : ChangeSpec := { name := "spaceKeeps", fn := fun _ => fun
  | [d1, d2] => { results := [.lit (.bool false)], args := [d1, d2] }
  | _ => none }
def SpaceKeepsWrongFalsely : Prop := spaceKeepsRow.holds Tryd.pinned (OpenSpec.ofChange spaceKeepsWrong)

/- THE SECOND FORM. 'bulk': how many values and letters a reading holds, each counted each time it is reached (what is shared counts as often as it is met; a slice's spare places count too). A statement '..UptoSaid' is the law's where the arguments, and the package variables that the reading takes, are together of bulk at most 1048576: NARROWER than '..Said'. Prove '..Said' where nothing that the law and all that it calls make is longer than what came in: it says more and counts as full. Else prove '..UptoSaid'. A law counts once. -/
mutual
def uptoBulk {H : Type} : DataW H → Nat
  | .lit (.string bytes) => bytes.length + 1
  | .lit _ => 1
  | .nil => 1
  | .ptr d => uptoBulk d + 1
  | .slice elems spare => uptoBulkAll elems + uptoBulkAll spare + 1
  | .agg parts => uptoBulkAll parts + 1
  | .iface _ d => uptoBulk d + 1
  | .map entries => uptoBulkEntries entries + 1
  | .held _ => 1
def uptoBulkAll {H : Type} : List (DataW H) → Nat
  | [] => 0
  | d :: r => uptoBulk d + uptoBulkAll r
def uptoBulkEntries {H : Type} : List (Lit × DataW H) → Nat
  | [] => 0
  | x :: r => uptoBulkEntry x + uptoBulkEntries r
def uptoBulkEntry {H : Type} : Lit × DataW H → Nat
  | (.string bytes, d) => bytes.length + uptoBulk d + 1
  | (_, d) => uptoBulk d + 1
 end
def uptoSmall : (H : Type) → List (DataW H) → Bool := fun _ ds => decide (uptoBulkAll ds ≤ 1048576)
def OpenSpec.upto (s : _root_.Go.ChangeSpec) : _root_.Go.OpenSpec := { _root_.Go.OpenSpec.ofChange s with cond := some uptoSmall }

/-- 'podestalaw03.SpaceIs', WHERE WHAT IT READS IS OF BULK AT MOST 1048576: true; the input reads as it did. -/
def spaceIsUptoRow : OpenClaim := { program := "ytamjaohoicedfaadoor", sum := "0b42d3f1714b95f8c6a57db44336f0d5e04292ff987b2191490620c69830fe03", func := "podesta/podestalaw03.SpaceIs", spec := "spaceIs", unfollowed := true, recurses := true, named := ["podesta/head.layouts"], apart := false, laid := [("podesta/head.layouts", laid_podesta_head_layouts)], narrowed := true }
def SpaceIsUptoSaid : Prop := spaceIsUptoRow.holds Tryd.pinned (OpenSpec.upto spaceIsSpec)

/-- 'podestalaw03.SpaceLaws', WHERE WHAT IT READS IS OF BULK AT MOST 1048576: true; the input reads as it did. -/
def spaceLawsUptoRow : OpenClaim := { program := "ytamjaohoicedfaadoor", sum := "0b42d3f1714b95f8c6a57db44336f0d5e04292ff987b2191490620c69830fe03", func := "podesta/podestalaw03.SpaceLaws", spec := "spaceLaws", unfollowed := true, recurses := true, named := ["podesta/head.layouts"], apart := false, laid := [("podesta/head.layouts", laid_podesta_head_layouts)], narrowed := true }
def SpaceLawsUptoSaid : Prop := spaceLawsUptoRow.holds Tryd.pinned (OpenSpec.upto spaceLawsSpec)

/-- 'podestalaw03.SpaceAll', WHERE WHAT IT READS IS OF BULK AT MOST 1048576: true; the input reads as it did. -/
def spaceAllUptoRow : OpenClaim := { program := "ytamjaohoicedfaadoor", sum := "0b42d3f1714b95f8c6a57db44336f0d5e04292ff987b2191490620c69830fe03", func := "podesta/podestalaw03.SpaceAll", spec := "spaceAll", unfollowed := true, recurses := true, named := ["podesta/head.layouts"], apart := false, laid := [("podesta/head.layouts", laid_podesta_head_layouts)], narrowed := true }
def SpaceAllUptoSaid : Prop := spaceAllUptoRow.holds Tryd.pinned (OpenSpec.upto spaceAllSpec)

/-- 'podestalaw03.SpaceKeeps', WHERE WHAT IT READS IS OF BULK AT MOST 1048576: true; the input reads as it did. -/
def spaceKeepsUptoRow : OpenClaim := { program := "ytamjaohoicedfaadoor", sum := "0b42d3f1714b95f8c6a57db44336f0d5e04292ff987b2191490620c69830fe03", func := "podesta/podestalaw03.SpaceKeeps", spec := "spaceKeeps", unfollowed := true, recurses := true, named := ["podesta/head.layouts"], apart := false, laid := [("podesta/head.layouts", laid_podesta_head_layouts)], narrowed := true }
def SpaceKeepsUptoSaid : Prop := spaceKeepsUptoRow.holds Tryd.pinned (OpenSpec.upto spaceKeepsSpec)

end Rows
end Go.Proofs.YtamjaohoicedfaaDoor
