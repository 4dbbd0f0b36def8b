/-
  NARROWER THAN 'FOR EVERY INPUT', by the rows' own cells (each row's printed sentence says how): UndoDiffs: laid · UndoAny: laid · UndoChanges: laid · UndoStill: laid · UndoTwice: laid.
  DERIVED. THE GIVEN ROWS OF THIS SEAT. 5 by the template 'for every input the law returns true; each argument reads behind the call as it read before'; 0 by the template 'total and deterministic' (their statements: YthnfaccenlkedaaDoorTotals.lean).
  GIVEN WITH THE SEED: the statements are not yours to turn. If you find one false, say at which input.
  Laid BY PROGRAM, IN A SANDBOX (cutbox-rows.mjs): the forced cells as the released guide's own fill.sh prints them over the translation 6fab7a96adaef994… (all of the seat's roots in one cut). By AI agents, Wed Nov 11 2026. No macro, syntax, notation, axiom, sorry.
-/
import Derived.Test.YthnfaccenlkedaaDoorChecked
import GoSem.Claim
import GoSem.ClaimJoined
import GoSem.ClaimMapViews
import Derived.JoinedTies
import Derived.KernelRfl
namespace Go.Proofs.YthnfaccenlkedaaDoor
/- THE CELL 'sum', in the pinned program and in every row, IS THE sha256 OF THE DUMP (.gsa) THAT YthnfaccenlkedaaDoorProg.lean LOADS. Nothing in Lean hashes anything: it is a label: what it is worth is what the hold of that sum in a sandbox is worth. -/
noncomputable def Tryd.pinned : Pinned := { name := "ythnfaccenlkedaadoor", sum := "6fab7a96adaef994d1a38ab8e372d10b4dc85442cb4a29d37daa91660cf4082d", checked := Tryd.checked }
namespace Rows
def none {H : Type} : Left H := { results := [], args := [] }

/- WHAT THE LISTED PACKAGE-LEVEL VARIABLES READ AS WHEN THE CALL BEGINS. Each datum BY PROGRAM (the guide's laid-datum.mjs) off the statement by which the dump's own 'gosem.cut.vars' lays the variable. In a bare row this is a premise. The card (YthnfaccenlkedaaDoorCards.lean) ties it to the program's text. -/
def laid_podesta_head_layouts {H : Type} : DataW H := .agg [.agg [.lit (.string [105, 110]), .lit (.int .i64 16)], .agg [.lit (.string [101, 115, 114, 99]), .lit (.int .i64 48)], .agg [.lit (.string [101, 100, 115, 116]), .lit (.int .i64 48)], .agg [.lit (.string [101, 116, 121, 112, 101]), .lit (.int .i64 16)], .agg [.lit (.string [118, 108, 97, 110]), .lit (.int .i64 12)], .agg [.lit (.string [112, 99, 112]), .lit (.int .i64 4)], .agg [.lit (.string [115, 114, 99]), .lit (.int .i64 32)], .agg [.lit (.string [100, 115, 116]), .lit (.int .i64 32)], .agg [.lit (.string [112, 114, 111, 116, 111]), .lit (.int .i64 8)], .agg [.lit (.string [116, 111, 115]), .lit (.int .i64 8)], .agg [.lit (.string [115, 112, 111, 114, 116]), .lit (.int .i64 12)], .agg [.lit (.string [100, 112, 111, 114, 116]), .lit (.int .i64 12)]]

/-- 'podestalaw08.UndoDiffs': WHATEVER THE INPUT: true; the input reads as it did. -/
def undoDiffsSpec : ChangeSpec := { name := "undoDiffs", fn := fun _ => fun
  | [d1, d2] => { results := [.lit (.bool true)], args := [d1, d2] }
  | _ => none }
def undoDiffsRow : OpenClaim := { program := "ythnfaccenlkedaadoor", sum := "6fab7a96adaef994d1a38ab8e372d10b4dc85442cb4a29d37daa91660cf4082d", func := "podesta/podestalaw08.UndoDiffs", spec := "undoDiffs", inPlace := ["slices.overlaps[int]"], unfollowed := true, recurses := true, named := ["podesta/head.layouts"], apart := false, laid := [("podesta/head.layouts", laid_podesta_head_layouts)] }
def UndoDiffsSaid : Prop := undoDiffsRow.holds Tryd.pinned (OpenSpec.ofChange undoDiffsSpec)

/-- ITS FALSE NEIGHBOUR: 'it returns false'. Refute it at one input. -/
def undoDiffsWrong : ChangeSpec := { name := "undoDiffs", fn := fun _ => fun
  | [d1, d2] => { results := [.lit (.bool false)], args := [d1, d2] }
  | _ => none }
def UndoDiffsWrongFalsely : Prop := undoDiffsRow.holds Tryd.pinned (OpenSpec.ofChange undoDiffsWrong)

/-- 'podestalaw08.UndoAny': WHATEVER THE INPUT: true; the input reads as it did. -/
def undoAnySpec : ChangeSpec := { name := "undoAny", fn := fun _ => fun
  | [d1, d2, d3] => { results := [.lit (.bool true)], args := [d1, d2, d3] }
  | _ => none }
def undoAnyRow : OpenClaim := { program := "ythnfaccenlkedaadoor", sum := "6fab7a96adaef994d1a38ab8e372d10b4dc85442cb4a29d37daa91660cf4082d", func := "podesta/podestalaw08.UndoAny", spec := "undoAny", inPlace := ["slices.overlaps[int]"], unfollowed := true, recurses := true, named := ["podesta/head.layouts"], apart := false, laid := [("podesta/head.layouts", laid_podesta_head_layouts)] }
def UndoAnySaid : Prop := undoAnyRow.holds Tryd.pinned (OpenSpec.ofChange undoAnySpec)

/-- ITS FALSE NEIGHBOUR: 'it returns false'. Refute it at one input. -/
def undoAnyWrong : ChangeSpec := { name := "undoAny", fn := fun _ => fun
  | [d1, d2, d3] => { results := [.lit (.bool false)], args := [d1, d2, d3] }
  | _ => none }
def UndoAnyWrongFalsely : Prop := undoAnyRow.holds Tryd.pinned (OpenSpec.ofChange undoAnyWrong)

/-- 'podestalaw08.UndoChanges': WHATEVER THE INPUT: true; the input reads as it did. -/
def undoChangesSpec : ChangeSpec := { name := "undoChanges", fn := fun _ => fun
  | [d1, d2, d3] => { results := [.lit (.bool true)], args := [d1, d2, d3] }
  | _ => none }
def undoChangesRow : OpenClaim := { program := "ythnfaccenlkedaadoor", sum := "6fab7a96adaef994d1a38ab8e372d10b4dc85442cb4a29d37daa91660cf4082d", func := "podesta/podestalaw08.UndoChanges", spec := "undoChanges", inPlace := ["slices.overlaps[int]"], unfollowed := true, recurses := true, named := ["podesta/head.layouts"], apart := false, laid := [("podesta/head.layouts", laid_podesta_head_layouts)] }
def UndoChangesSaid : Prop := undoChangesRow.holds Tryd.pinned (OpenSpec.ofChange undoChangesSpec)

/-- ITS FALSE NEIGHBOUR: 'it returns false'. Refute it at one input. -/
def undoChangesWrong : ChangeSpec := { name := "undoChanges", fn := fun _ => fun
  | [d1, d2, d3] => { results := [.lit (.bool false)], args := [d1, d2, d3] }
  | _ => none }
def UndoChangesWrongFalsely : Prop := undoChangesRow.holds Tryd.pinned (OpenSpec.ofChange undoChangesWrong)

/-- 'podestalaw08.UndoStill': WHATEVER THE INPUT: true; the input reads as it did. -/
def undoStillSpec : ChangeSpec := { name := "undoStill", fn := fun _ => fun
  | [d] => { results := [.lit (.bool true)], args := [d] }
  | _ => none }
def undoStillRow : OpenClaim := { program := "ythnfaccenlkedaadoor", sum := "6fab7a96adaef994d1a38ab8e372d10b4dc85442cb4a29d37daa91660cf4082d", func := "podesta/podestalaw08.UndoStill", spec := "undoStill", inPlace := ["slices.overlaps[int]"], unfollowed := true, recurses := true, named := ["podesta/head.layouts"], apart := false, laid := [("podesta/head.layouts", laid_podesta_head_layouts)] }
def UndoStillSaid : Prop := undoStillRow.holds Tryd.pinned (OpenSpec.ofChange undoStillSpec)

/-- ITS FALSE NEIGHBOUR: 'it returns false'. Refute it at one input. -/
def undoStillWrong : ChangeSpec := { name := "undoStill", fn := fun _ => fun
  | [d] => { results := [.lit (.bool false)], args := [d] }
  | _ => none }
def UndoStillWrongFalsely : Prop := undoStillRow.holds Tryd.pinned (OpenSpec.ofChange undoStillWrong)

/-- 'podestalaw08.UndoTwice': WHATEVER THE INPUT: true; the input reads as it did. -/
def undoTwiceSpec : ChangeSpec := { name := "undoTwice", fn := fun _ => fun
  | [d1, d2] => { results := [.lit (.bool true)], args := [d1, d2] }
  | _ => none }
def undoTwiceRow : OpenClaim := { program := "ythnfaccenlkedaadoor", sum := "6fab7a96adaef994d1a38ab8e372d10b4dc85442cb4a29d37daa91660cf4082d", func := "podesta/podestalaw08.UndoTwice", spec := "undoTwice", inPlace := ["slices.overlaps[int]"], unfollowed := true, recurses := true, named := ["podesta/head.layouts"], apart := false, laid := [("podesta/head.layouts", laid_podesta_head_layouts)] }
def UndoTwiceSaid : Prop := undoTwiceRow.holds Tryd.pinned (OpenSpec.ofChange undoTwiceSpec)

/-- ITS FALSE NEIGHBOUR: 'it returns false'. Refute it at one input. -/
def undoTwiceWrong : ChangeSpec := { name := "undoTwice", fn := fun _ => fun
  | [d1, d2] => { results := [.lit (.bool false)], args := [d1, d2] }
  | _ => none }
def UndoTwiceWrongFalsely : Prop := undoTwiceRow.holds Tryd.pinned (OpenSpec.ofChange undoTwiceWrong)

/- THE SECOND FORM. 'bulk': how many values and letters a reading holds, each counted each time it is reached (what is shared counts as often as it is met; a slice's spare places count too). A statement '..UptoSaid' is the law's where the arguments, and the package variables that the reading takes, are together of bulk at most 1048576: NARROWER than '..Said'. Prove '..Said' where nothing that the law and all that it calls make is longer than what came in: it says more and counts as full. Else prove '..UptoSaid'. A law counts once. -/
mutual
def uptoBulk {H : Type} : DataW H → Nat
  | .lit (.string bytes) => bytes.length + 1
  | .lit _ => 1
  | .nil => 1
  | .ptr d => uptoBulk d + 1
  | .slice elems spare => uptoBulkAll elems + uptoBulkAll spare + 1
  | .agg parts => uptoBulkAll parts + 1
  | .iface _ d => uptoBulk d + 1
  | .map entries => uptoBulkEntries entries + 1
  | .held _ => 1
def uptoBulkAll {H : Type} : List (DataW H) → Nat
  | [] => 0
  | d :: r => uptoBulk d + uptoBulkAll r
def uptoBulkEntries {H : Type} : List (Lit × DataW H) → Nat
  | [] => 0
  | x :: r => uptoBulkEntry x + uptoBulkEntries r
def uptoBulkEntry {H : Type} : Lit × DataW H → Nat
  | (.string bytes, d) => bytes.length + uptoBulk d + 1
  | (_, d) => uptoBulk d + 1
 end
def uptoSmall : (H : Type) → List (DataW H) → Bool := fun _ ds => decide (uptoBulkAll ds ≤ 1048576)
def OpenSpec.upto (s : _root_.Go.ChangeSpec) : _root_.Go.OpenSpec := { _root_.Go.OpenSpec.ofChange s with cond := some uptoSmall }

/-- 'podestalaw08.UndoDiffs', WHERE WHAT IT READS IS OF BULK AT MOST 1048576: true; the input reads as it did. -/
def undoDiffsUptoRow : OpenClaim := { program := "ythnfaccenlkedaadoor", sum := "6fab7a96adaef994d1a38ab8e372d10b4dc85442cb4a29d37daa91660cf4082d", func := "podesta/podestalaw08.UndoDiffs", spec := "undoDiffs", inPlace := ["slices.overlaps[int]"], unfollowed := true, recurses := true, named := ["podesta/head.layouts"], apart := false, laid := [("podesta/head.layouts", laid_podesta_head_layouts)], narrowed := true }
def UndoDiffsUptoSaid : Prop := undoDiffsUptoRow.holds Tryd.pinned (OpenSpec.upto undoDiffsSpec)

/-- 'podestalaw08.UndoAny', WHERE WHAT IT READS IS OF BULK AT MOST 1048576: true; the input reads as it did. -/
def undoAnyUptoRow : OpenClaim := { program := "ythnfaccenlkedaadoor", sum := "6fab7a96adaef994d1a38ab8e372d10b4dc85442cb4a29d37daa91660cf4082d", func := "podesta/podestalaw08.UndoAny", spec := "undoAny", inPlace := ["slices.overlaps[int]"], unfollowed := true, recurses := true, named := ["podesta/head.layouts"], apart := false, laid := [("podesta/head.layouts", laid_podesta_head_layouts)], narrowed := true }
def UndoAnyUptoSaid : Prop := undoAnyUptoRow.holds Tryd.pinned (OpenSpec.upto undoAnySpec)

/-- 'podestalaw08.UndoChanges', WHERE WHAT IT READS IS OF BULK AT MOST 1048576: true; the input reads as it did. -/
def undoChangesUptoRow : OpenClaim := { program := "ythnfaccenlkedaadoor", sum := "6fab7a96adaef994d1a38ab8e372d10b4dc85442cb4a29d37daa91660cf4082d", func := "podesta/podestalaw08.UndoChanges", spec := "undoChanges", inPlace := ["slices.overlaps[int]"], unfollowed := true, recurses := true, named := ["podesta/head.layouts"], apart := false, laid := [("podesta/head.layouts", laid_podesta_head_layouts)], narrowed := true }
def UndoChangesUptoSaid : Prop := undoChangesUptoRow.holds Tryd.pinned (OpenSpec.upto undoChangesSpec)

/-- 'podestalaw08.UndoStill', WHERE WHAT IT READS IS OF BULK AT MOST 1048576: true; the input reads as it did. -/
def undoStillUptoRow : OpenClaim := { program := "ythnfaccenlkedaadoor", sum := "6fab7a96adaef994d1a38ab8e372d10b4dc85442cb4a29d37daa91660cf4082d", func := "podesta/podestalaw08.UndoStill", spec := "undoStill", inPlace := ["slices.overlaps[int]"], unfollowed := true, recurses := true, named := ["podesta/head.layouts"], apart := false, laid := [("podesta/head.layouts", laid_podesta_head_layouts)], narrowed := true }
def UndoStillUptoSaid : Prop := undoStillUptoRow.holds Tryd.pinned (OpenSpec.upto undoStillSpec)

/-- 'podestalaw08.UndoTwice', WHERE WHAT IT READS IS OF BULK AT MOST 1048576: true; the input reads as it did. -/
def undoTwiceUptoRow : OpenClaim := { program := "ythnfaccenlkedaadoor", sum := "6fab7a96adaef994d1a38ab8e372d10b4dc85442cb4a29d37daa91660cf4082d", func := "podesta/podestalaw08.UndoTwice", spec := "undoTwice", inPlace := ["slices.overlaps[int]"], unfollowed := true, recurses := true, named := ["podesta/head.layouts"], apart := false, laid := [("podesta/head.layouts", laid_podesta_head_layouts)], narrowed := true }
def UndoTwiceUptoSaid : Prop := undoTwiceUptoRow.holds Tryd.pinned (OpenSpec.upto undoTwiceSpec)

end Rows
end Go.Proofs.YthnfaccenlkedaaDoor
