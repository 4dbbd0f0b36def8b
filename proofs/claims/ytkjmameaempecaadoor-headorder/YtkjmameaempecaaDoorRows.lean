/-
  NARROWER THAN 'FOR EVERY INPUT', by the rows' own cells (each row's printed sentence says how): HeadFields: laid · HeadMasks: laid · HeadSets: laid · HeadOrder: laid · HeadTwice: laid · HeadMaskSums: laid.
  DERIVED. THE GIVEN ROWS OF THIS SEAT. 6 by the template 'for every input the law returns true; each argument reads behind the call as it read before'; 0 by the template 'total and deterministic' (their statements: YtkjmameaempecaaDoorTotals.lean).
  GIVEN WITH THE SEED: the statements are not yours to turn. If you find one false, say at which input.
  Laid BY PROGRAM, IN A SANDBOX (cutbox-rows.mjs): the forced cells as the released guide's own fill.sh prints them over the translation 08d848a0ce50989d… (all of the seat's roots in one cut). By AI agents, Wed Nov 11 2026. No macro, syntax, notation, axiom, sorry.
-/
import Derived.Test.YtkjmameaempecaaDoorChecked
import GoSem.Claim
import GoSem.ClaimJoined
import GoSem.ClaimMapViews
import Derived.JoinedTies
import Derived.KernelRfl
namespace Go.Proofs.YtkjmameaempecaaDoor
/- THE CELL 'sum', in the pinned program and in every row, IS THE sha256 OF THE DUMP (.gsa) THAT YtkjmameaempecaaDoorProg.lean LOADS. Nothing in Lean hashes anything: it is a label: what it is worth is what the hold of that sum in a sandbox is worth. -/
noncomputable def Tryd.pinned : Pinned := { name := "ytkjmameaempecaadoor", sum := "08d848a0ce50989d92d8cb7153bd7b42c5b664e2338b4e672066b383ab3fa7ac", checked := Tryd.checked }
namespace Rows
def none {H : Type} : Left H := { results := [], args := [] }

/- WHAT THE LISTED PACKAGE-LEVEL VARIABLES READ AS WHEN THE CALL BEGINS. Each datum BY PROGRAM (the guide's laid-datum.mjs) off the statement by which the dump's own 'gosem.cut.vars' lays the variable. In a bare row this is a premise. The card (YtkjmameaempecaaDoorCards.lean) ties it to the program's text. -/
def laid_podesta_head_layouts {H : Type} : DataW H := .agg [.agg [.lit (.string [105, 110]), .lit (.int .i64 16)], .agg [.lit (.string [101, 115, 114, 99]), .lit (.int .i64 48)], .agg [.lit (.string [101, 100, 115, 116]), .lit (.int .i64 48)], .agg [.lit (.string [101, 116, 121, 112, 101]), .lit (.int .i64 16)], .agg [.lit (.string [118, 108, 97, 110]), .lit (.int .i64 12)], .agg [.lit (.string [112, 99, 112]), .lit (.int .i64 4)], .agg [.lit (.string [115, 114, 99]), .lit (.int .i64 32)], .agg [.lit (.string [100, 115, 116]), .lit (.int .i64 32)], .agg [.lit (.string [112, 114, 111, 116, 111]), .lit (.int .i64 8)], .agg [.lit (.string [116, 111, 115]), .lit (.int .i64 8)], .agg [.lit (.string [115, 112, 111, 114, 116]), .lit (.int .i64 12)], .agg [.lit (.string [100, 112, 111, 114, 116]), .lit (.int .i64 12)]]

/-- 'podestalaw01.HeadFields': WHATEVER THE INPUT: true; the input reads as it did. -/
def headFieldsSpec : ChangeSpec := { name := "headFields", fn := fun _ => fun
  | [d1, d2] => { results := [.lit (.bool true)], args := [d1, d2] }
  | _ => none }
def headFieldsRow : OpenClaim := { program := "ytkjmameaempecaadoor", sum := "08d848a0ce50989d92d8cb7153bd7b42c5b664e2338b4e672066b383ab3fa7ac", func := "podesta/podestalaw01.HeadFields", spec := "headFields", named := ["podesta/head.layouts"], apart := false, laid := [("podesta/head.layouts", laid_podesta_head_layouts)] }
def HeadFieldsSaid : Prop := headFieldsRow.holds Tryd.pinned (OpenSpec.ofChange headFieldsSpec)

/-- ITS FALSE NEIGHBOUR: 'it returns false'. Refute it at one input. -/
def headFieldsWrong : ChangeSpec := { name := "headFields", fn := fun _ => fun
  | [d1, d2] => { results := [.lit (.bool false)], args := [d1, d2] }
  | _ => none }
def HeadFieldsWrongFalsely : Prop := headFieldsRow.holds Tryd.pinned (OpenSpec.ofChange headFieldsWrong)

/-- 'podestalaw01.HeadMasks': WHATEVER THE INPUT: true; the input reads as it did. -/
def headMasksSpec : ChangeSpec := { name := "headMasks", fn := fun _ => fun
  | [d1, d2] => { results := [.lit (.bool true)], args := [d1, d2] }
  | _ => none }
def headMasksRow : OpenClaim := { program := "ytkjmameaempecaadoor", sum := "08d848a0ce50989d92d8cb7153bd7b42c5b664e2338b4e672066b383ab3fa7ac", func := "podesta/podestalaw01.HeadMasks", spec := "headMasks", named := ["podesta/head.layouts"], apart := false, laid := [("podesta/head.layouts", laid_podesta_head_layouts)] }
def HeadMasksSaid : Prop := headMasksRow.holds Tryd.pinned (OpenSpec.ofChange headMasksSpec)

/-- ITS FALSE NEIGHBOUR: 'it returns false'. Refute it at one input. -/
def headMasksWrong : ChangeSpec := { name := "headMasks", fn := fun _ => fun
  | [d1, d2] => { results := [.lit (.bool false)], args := [d1, d2] }
  | _ => none }
def HeadMasksWrongFalsely : Prop := headMasksRow.holds Tryd.pinned (OpenSpec.ofChange headMasksWrong)

/-- 'podestalaw01.HeadSets': WHATEVER THE INPUT: true; the input reads as it did. -/
def headSetsSpec : ChangeSpec := { name := "headSets", fn := fun _ => fun
  | [d1, d2, d3] => { results := [.lit (.bool true)], args := [d1, d2, d3] }
  | _ => none }
def headSetsRow : OpenClaim := { program := "ytkjmameaempecaadoor", sum := "08d848a0ce50989d92d8cb7153bd7b42c5b664e2338b4e672066b383ab3fa7ac", func := "podesta/podestalaw01.HeadSets", spec := "headSets", named := ["podesta/head.layouts"], apart := false, laid := [("podesta/head.layouts", laid_podesta_head_layouts)] }
def HeadSetsSaid : Prop := headSetsRow.holds Tryd.pinned (OpenSpec.ofChange headSetsSpec)

/-- ITS FALSE NEIGHBOUR: 'it returns false'. Refute it at one input. -/
def headSetsWrong : ChangeSpec := { name := "headSets", fn := fun _ => fun
  | [d1, d2, d3] => { results := [.lit (.bool false)], args := [d1, d2, d3] }
  | _ => none }
def HeadSetsWrongFalsely : Prop := headSetsRow.holds Tryd.pinned (OpenSpec.ofChange headSetsWrong)

/-- 'podestalaw01.HeadOrder': WHATEVER THE INPUT: true; the input reads as it did. -/
def headOrderSpec : ChangeSpec := { name := "headOrder", fn := fun _ => fun
  | [d1, d2, d3] => { results := [.lit (.bool true)], args := [d1, d2, d3] }
  | _ => none }
def headOrderRow : OpenClaim := { program := "ytkjmameaempecaadoor", sum := "08d848a0ce50989d92d8cb7153bd7b42c5b664e2338b4e672066b383ab3fa7ac", func := "podesta/podestalaw01.HeadOrder", spec := "headOrder", named := ["podesta/head.layouts"], apart := false, laid := [("podesta/head.layouts", laid_podesta_head_layouts)] }
def HeadOrderSaid : Prop := headOrderRow.holds Tryd.pinned (OpenSpec.ofChange headOrderSpec)

/-- ITS FALSE NEIGHBOUR: 'it returns false'. Refute it at one input. -/
def headOrderWrong : ChangeSpec := { name := "headOrder", fn := fun _ => fun
  | [d1, d2, d3] => { results := [.lit (.bool false)], args := [d1, d2, d3] }
  | _ => none }
def HeadOrderWrongFalsely : Prop := headOrderRow.holds Tryd.pinned (OpenSpec.ofChange headOrderWrong)

/-- 'podestalaw01.HeadTwice': WHATEVER THE INPUT: true; the input reads as it did. -/
def headTwiceSpec : ChangeSpec := { name := "headTwice", fn := fun _ => fun
  | [d1, d2, d3, d4, d5] => { results := [.lit (.bool true)], args := [d1, d2, d3, d4, d5] }
  | _ => none }
def headTwiceRow : OpenClaim := { program := "ytkjmameaempecaadoor", sum := "08d848a0ce50989d92d8cb7153bd7b42c5b664e2338b4e672066b383ab3fa7ac", func := "podesta/podestalaw01.HeadTwice", spec := "headTwice", named := ["podesta/head.layouts"], apart := false, laid := [("podesta/head.layouts", laid_podesta_head_layouts)] }
def HeadTwiceSaid : Prop := headTwiceRow.holds Tryd.pinned (OpenSpec.ofChange headTwiceSpec)

/-- ITS FALSE NEIGHBOUR: 'it returns false'. Refute it at one input. -/
def headTwiceWrong : ChangeSpec := { name := "headTwice", fn := fun _ => fun
  | [d1, d2, d3, d4, d5] => { results := [.lit (.bool false)], args := [d1, d2, d3, d4, d5] }
  | _ => none }
def HeadTwiceWrongFalsely : Prop := headTwiceRow.holds Tryd.pinned (OpenSpec.ofChange headTwiceWrong)

/-- 'podestalaw01.HeadMaskSums': WHATEVER THE INPUT: true; the input reads as it did. -/
def headMaskSumsSpec : ChangeSpec := { name := "headMaskSums", fn := fun _ => fun
  | [d1, d2] => { results := [.lit (.bool true)], args := [d1, d2] }
  | _ => none }
def headMaskSumsRow : OpenClaim := { program := "ytkjmameaempecaadoor", sum := "08d848a0ce50989d92d8cb7153bd7b42c5b664e2338b4e672066b383ab3fa7ac", func := "podesta/podestalaw01.HeadMaskSums", spec := "headMaskSums", named := ["podesta/head.layouts"], apart := false, laid := [("podesta/head.layouts", laid_podesta_head_layouts)] }
def HeadMaskSumsSaid : Prop := headMaskSumsRow.holds Tryd.pinned (OpenSpec.ofChange headMaskSumsSpec)

/-- ITS FALSE NEIGHBOUR: 'it returns false'. Refute it at one input. -/
def headMaskSumsWrong : ChangeSpec := { name := "headMaskSums", fn := fun _ => fun
  | [d1, d2] => { results := [.lit (.bool false)], args := [d1, d2] }
  | _ => none }
def HeadMaskSumsWrongFalsely : Prop := headMaskSumsRow.holds Tryd.pinned (OpenSpec.ofChange headMaskSumsWrong)

/- THE SECOND FORM. 'bulk': how many values and letters a reading holds, each counted each time it is reached (what is shared counts as often as it is met; a slice's spare places count too). A statement '..UptoSaid' is the law's where the arguments, and the package variables that the reading takes, are together of bulk at most 1048576: NARROWER than '..Said'. Prove '..Said' where nothing that the law and all that it calls make is longer than what came in: it says more and counts as full. Else prove '..UptoSaid'. A law counts once. -/
mutual
def uptoBulk {H : Type} : DataW H → Nat
  | .lit (.string bytes) => bytes.length + 1
  | .lit _ => 1
  | .nil => 1
  | .ptr d => uptoBulk d + 1
  | .slice elems spare => uptoBulkAll elems + uptoBulkAll spare + 1
  | .agg parts => uptoBulkAll parts + 1
  | .iface _ d => uptoBulk d + 1
  | .map entries => uptoBulkEntries entries + 1
  | .held _ => 1
def uptoBulkAll {H : Type} : List (DataW H) → Nat
  | [] => 0
  | d :: r => uptoBulk d + uptoBulkAll r
def uptoBulkEntries {H : Type} : List (Lit × DataW H) → Nat
  | [] => 0
  | x :: r => uptoBulkEntry x + uptoBulkEntries r
def uptoBulkEntry {H : Type} : Lit × DataW H → Nat
  | (.string bytes, d) => bytes.length + uptoBulk d + 1
  | (_, d) => uptoBulk d + 1
 end
def uptoSmall : (H : Type) → List (DataW H) → Bool := fun _ ds => decide (uptoBulkAll ds ≤ 1048576)
def OpenSpec.upto (s : _root_.Go.ChangeSpec) : _root_.Go.OpenSpec := { _root_.Go.OpenSpec.ofChange s with cond := some uptoSmall }

/-- 'podestalaw01.HeadFields', WHERE WHAT IT READS IS OF BULK AT MOST 1048576: true; the input reads as it did. -/
def headFieldsUptoRow : OpenClaim := { program := "ytkjmameaempecaadoor", sum := "08d848a0ce50989d92d8cb7153bd7b42c5b664e2338b4e672066b383ab3fa7ac", func := "podesta/podestalaw01.HeadFields", spec := "headFields", named := ["podesta/head.layouts"], apart := false, laid := [("podesta/head.layouts", laid_podesta_head_layouts)], narrowed := true }
def HeadFieldsUptoSaid : Prop := headFieldsUptoRow.holds Tryd.pinned (OpenSpec.upto headFieldsSpec)

/-- 'podestalaw01.HeadMasks', WHERE WHAT IT READS IS OF BULK AT MOST 1048576: true; the input reads as it did. -/
def headMasksUptoRow : OpenClaim := { program := "ytkjmameaempecaadoor", sum := "08d848a0ce50989d92d8cb7153bd7b42c5b664e2338b4e672066b383ab3fa7ac", func := "podesta/podestalaw01.HeadMasks", spec := "headMasks", named := ["podesta/head.layouts"], apart := false, laid := [("podesta/head.layouts", laid_podesta_head_layouts)], narrowed := true }
def HeadMasksUptoSaid : Prop := headMasksUptoRow.holds Tryd.pinned (OpenSpec.upto headMasksSpec)

/-- 'podestalaw01.HeadSets', WHERE WHAT IT READS IS OF BULK AT MOST 1048576: true; the input reads as it did. -/
def headSetsUptoRow : OpenClaim := { program := "ytkjmameaempecaadoor", sum := "08d848a0ce50989d92d8cb7153bd7b42c5b664e2338b4e672066b383ab3fa7ac", func := "podesta/podestalaw01.HeadSets", spec := "headSets", named := ["podesta/head.layouts"], apart := false, laid := [("podesta/head.layouts", laid_podesta_head_layouts)], narrowed := true }
def HeadSetsUptoSaid : Prop := headSetsUptoRow.holds Tryd.pinned (OpenSpec.upto headSetsSpec)

/-- 'podestalaw01.HeadOrder', WHERE WHAT IT READS IS OF BULK AT MOST 1048576: true; the input reads as it did. -/
def headOrderUptoRow : OpenClaim := { program := "ytkjmameaempecaadoor", sum := "08d848a0ce50989d92d8cb7153bd7b42c5b664e2338b4e672066b383ab3fa7ac", func := "podesta/podestalaw01.HeadOrder", spec := "headOrder", named := ["podesta/head.layouts"], apart := false, laid := [("podesta/head.layouts", laid_podesta_head_layouts)], narrowed := true }
def HeadOrderUptoSaid : Prop := headOrderUptoRow.holds Tryd.pinned (OpenSpec.upto headOrderSpec)

/-- 'podestalaw01.HeadTwice', WHERE WHAT IT READS IS OF BULK AT MOST 1048576: true; the input reads as it did. -/
def headTwiceUptoRow : OpenClaim := { program := "ytkjmameaempecaadoor", sum := "08d848a0ce50989d92d8cb7153bd7b42c5b664e2338b4e672066b383ab3fa7ac", func := "podesta/podestalaw01.HeadTwice", spec := "headTwice", named := ["podesta/head.layouts"], apart := false, laid := [("podesta/head.layouts", laid_podesta_head_layouts)], narrowed := true }
def HeadTwiceUptoSaid : Prop := headTwiceUptoRow.holds Tryd.pinned (OpenSpec.upto headTwiceSpec)

/-- 'podestalaw01.HeadMaskSums', WHERE WHAT IT READS IS OF BULK AT MOST 1048576: true; the input reads as it did. -/
def headMaskSumsUptoRow : OpenClaim := { program := "ytkjmameaempecaadoor", sum := "08d848a0ce50989d92d8cb7153bd7b42c5b664e2338b4e672066b383ab3fa7ac", func := "podesta/podestalaw01.HeadMaskSums", spec := "headMaskSums", named := ["podesta/head.layouts"], apart := false, laid := [("podesta/head.layouts", laid_podesta_head_layouts)], narrowed := true }
def HeadMaskSumsUptoSaid : Prop := headMaskSumsUptoRow.holds Tryd.pinned (OpenSpec.upto headMaskSumsSpec)

end Rows
end Go.Proofs.YtkjmameaempecaaDoor
