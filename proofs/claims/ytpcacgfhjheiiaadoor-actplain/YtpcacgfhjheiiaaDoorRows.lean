/-
  NARROWER THAN 'FOR EVERY INPUT', by the rows' own cells (each row's printed sentence says how): ActRuns: laid · ActSame: laid · ActJoins: laid · ActPlain: laid.
  DERIVED. THE GIVEN ROWS OF THIS SEAT. 4 by the template 'for every input the law returns true; each argument reads behind the call as it read before'; 0 by the template 'total and deterministic' (their statements: YtpcacgfhjheiiaaDoorTotals.lean).
  GIVEN WITH THE SEED: the statements are not yours to turn. If you find one false, say at which input.
  Laid BY PROGRAM, IN A SANDBOX (cutbox-rows.mjs): the forced cells as the released guide's own fill.sh prints them over the translation 8b16612a43d8a09c… (all of the seat's roots in one cut). By AI agents, Wed Nov 11 2026. No macro, syntax, notation, axiom, sorry.
-/
import Derived.Test.YtpcacgfhjheiiaaDoorChecked
import GoSem.Claim
import GoSem.ClaimJoined
import GoSem.ClaimMapViews
import Derived.JoinedTies
import Derived.KernelRfl
namespace Go.Proofs.YtpcacgfhjheiiaaDoor
/- THE CELL 'sum', in the pinned program and in every row, IS THE sha256 OF THE DUMP (.gsa) THAT YtpcacgfhjheiiaaDoorProg.lean LOADS. Nothing in Lean hashes anything: it is a label: what it is worth is what the hold of that sum in a sandbox is worth. -/
noncomputable def Tryd.pinned : Pinned := { name := "ytpcacgfhjheiiaadoor", sum := "8b16612a43d8a09cbc753f5562e3b380286bff449a38ba54f814f8d46fb660ca", checked := Tryd.checked }
namespace Rows
def none {H : Type} : Left H := { results := [], args := [] }

/- WHAT THE LISTED PACKAGE-LEVEL VARIABLES READ AS WHEN THE CALL BEGINS. Each datum BY PROGRAM (the guide's laid-datum.mjs) off the statement by which the dump's own 'gosem.cut.vars' lays the variable. In a bare row this is a premise. The card (YtpcacgfhjheiiaaDoorCards.lean) ties it to the program's text. -/
def laid_podesta_head_layouts {H : Type} : DataW H := .agg [.agg [.lit (.string [105, 110]), .lit (.int .i64 16)], .agg [.lit (.string [101, 115, 114, 99]), .lit (.int .i64 48)], .agg [.lit (.string [101, 100, 115, 116]), .lit (.int .i64 48)], .agg [.lit (.string [101, 116, 121, 112, 101]), .lit (.int .i64 16)], .agg [.lit (.string [118, 108, 97, 110]), .lit (.int .i64 12)], .agg [.lit (.string [112, 99, 112]), .lit (.int .i64 4)], .agg [.lit (.string [115, 114, 99]), .lit (.int .i64 32)], .agg [.lit (.string [100, 115, 116]), .lit (.int .i64 32)], .agg [.lit (.string [112, 114, 111, 116, 111]), .lit (.int .i64 8)], .agg [.lit (.string [116, 111, 115]), .lit (.int .i64 8)], .agg [.lit (.string [115, 112, 111, 114, 116]), .lit (.int .i64 12)], .agg [.lit (.string [100, 112, 111, 114, 116]), .lit (.int .i64 12)]]

/-- 'podestalaw04.ActRuns': WHATEVER THE INPUT: true; the input reads as it did. -/
def actRunsSpec : ChangeSpec := { name := "actRuns", fn := fun _ => fun
  | [d1, d2] => { results := [.lit (.bool true)], args := [d1, d2] }
  | _ => none }
def actRunsRow : OpenClaim := { program := "ytpcacgfhjheiiaadoor", sum := "8b16612a43d8a09cbc753f5562e3b380286bff449a38ba54f814f8d46fb660ca", func := "podesta/podestalaw04.ActRuns", spec := "actRuns", unfollowed := true, recurses := true, named := ["podesta/head.layouts"], apart := false, laid := [("podesta/head.layouts", laid_podesta_head_layouts)] }
def ActRunsSaid : Prop := actRunsRow.holds Tryd.pinned (OpenSpec.ofChange actRunsSpec)

/-- ITS FALSE NEIGHBOUR: 'it returns false'. Refute it at one input. -/
def actRunsWrong : ChangeSpec := { name := "actRuns", fn := fun _ => fun
  | [d1, d2] => { results := [.lit (.bool false)], args := [d1, d2] }
  | _ => none }
def ActRunsWrongFalsely : Prop := actRunsRow.holds Tryd.pinned (OpenSpec.ofChange actRunsWrong)

/-- 'podestalaw04.ActSame': WHATEVER THE INPUT: true; the input reads as it did. -/
def actSameSpec : ChangeSpec := { name := "actSame", fn := fun _ => fun
  | [d1, d2, d3] => { results := [.lit (.bool true)], args := [d1, d2, d3] }
  | _ => none }
def actSameRow : OpenClaim := { program := "ytpcacgfhjheiiaadoor", sum := "8b16612a43d8a09cbc753f5562e3b380286bff449a38ba54f814f8d46fb660ca", func := "podesta/podestalaw04.ActSame", spec := "actSame", unfollowed := true, recurses := true, named := ["podesta/head.layouts"], apart := false, laid := [("podesta/head.layouts", laid_podesta_head_layouts)] }
def ActSameSaid : Prop := actSameRow.holds Tryd.pinned (OpenSpec.ofChange actSameSpec)

/-- ITS FALSE NEIGHBOUR: 'it returns false'. Refute it at one input. -/
def actSameWrong : ChangeSpec := { name := "actSame", fn := fun _ => fun
  | [d1, d2, d3] => { results := [.lit (.bool false)], args := [d1, d2, d3] }
  | _ => none }
def ActSameWrongFalsely : Prop := actSameRow.holds Tryd.pinned (OpenSpec.ofChange actSameWrong)

/-- 'podestalaw04.ActJoins': WHATEVER THE INPUT: true; the input reads as it did. -/
def actJoinsSpec : ChangeSpec := { name := "actJoins", fn := fun _ => fun
  | [d1, d2, d3] => { results := [.lit (.bool true)], args := [d1, d2, d3] }
  | _ => none }
def actJoinsRow : OpenClaim := { program := "ytpcacgfhjheiiaadoor", sum := "8b16612a43d8a09cbc753f5562e3b380286bff449a38ba54f814f8d46fb660ca", func := "podesta/podestalaw04.ActJoins", spec := "actJoins", unfollowed := true, recurses := true, named := ["podesta/head.layouts"], apart := false, laid := [("podesta/head.layouts", laid_podesta_head_layouts)] }
def ActJoinsSaid : Prop := actJoinsRow.holds Tryd.pinned (OpenSpec.ofChange actJoinsSpec)

/-- ITS FALSE NEIGHBOUR: 'it returns false'. Refute it at one input. -/
def actJoinsWrong : ChangeSpec := { name := "actJoins", fn := fun _ => fun
  | [d1, d2, d3] => { results := [.lit (.bool false)], args := [d1, d2, d3] }
  | _ => none }
def ActJoinsWrongFalsely : Prop := actJoinsRow.holds Tryd.pinned (OpenSpec.ofChange actJoinsWrong)

/-- 'podestalaw04.ActPlain': WHATEVER THE INPUT: true; the input reads as it did. -/
def actPlainSpec : ChangeSpec := { name := "actPlain", fn := fun _ => fun
  | [d1, d2, d3] => { results := [.lit (.bool true)], args := [d1, d2, d3] }
  | _ => none }
def actPlainRow : OpenClaim := { program := "ytpcacgfhjheiiaadoor", sum := "8b16612a43d8a09cbc753f5562e3b380286bff449a38ba54f814f8d46fb660ca", func := "podesta/podestalaw04.ActPlain", spec := "actPlain", unfollowed := true, recurses := true, named := ["podesta/head.layouts"], apart := false, laid := [("podesta/head.layouts", laid_podesta_head_layouts)] }
def ActPlainSaid : Prop := actPlainRow.holds Tryd.pinned (OpenSpec.ofChange actPlainSpec)

/-- ITS FALSE NEIGHBOUR: 'it returns false'. Refute it at one input. -/
def actPlainWrong : ChangeSpec := { name := "actPlain", fn := fun _ => fun
  | [d1, d2, d3] => { results := [.lit (.bool false)], args := [d1, d2, d3] }
  | _ => none }
def ActPlainWrongFalsely : Prop := actPlainRow.holds Tryd.pinned (OpenSpec.ofChange actPlainWrong)

/- THE SECOND FORM. 'bulk': how many values and letters a reading holds, each counted each time it is reached (what is shared counts as often as it is met; a slice's spare places count too). A statement '..UptoSaid' is the law's where the arguments, and the package variables that the reading takes, are together of bulk at most 1048576: NARROWER than '..Said'. Prove '..Said' where nothing that the law and all that it calls make is longer than what came in: it says more and counts as full. Else prove '..UptoSaid'. A law counts once. -/
mutual
def uptoBulk {H : Type} : DataW H → Nat
  | .lit (.string bytes) => bytes.length + 1
  | .lit _ => 1
  | .nil => 1
  | .ptr d => uptoBulk d + 1
  | .slice elems spare => uptoBulkAll elems + uptoBulkAll spare + 1
  | .agg parts => uptoBulkAll parts + 1
  | .iface _ d => uptoBulk d + 1
  | .map entries => uptoBulkEntries entries + 1
  | .held _ => 1
def uptoBulkAll {H : Type} : List (DataW H) → Nat
  | [] => 0
  | d :: r => uptoBulk d + uptoBulkAll r
def uptoBulkEntries {H : Type} : List (Lit × DataW H) → Nat
  | [] => 0
  | x :: r => uptoBulkEntry x + uptoBulkEntries r
def uptoBulkEntry {H : Type} : Lit × DataW H → Nat
  | (.string bytes, d) => bytes.length + uptoBulk d + 1
  | (_, d) => uptoBulk d + 1
 end
def uptoSmall : (H : Type) → List (DataW H) → Bool := fun _ ds => decide (uptoBulkAll ds ≤ 1048576)
def OpenSpec.upto (s : _root_.Go.ChangeSpec) : _root_.Go.OpenSpec := { _root_.Go.OpenSpec.ofChange s with cond := some uptoSmall }

/-- 'podestalaw04.ActRuns', WHERE WHAT IT READS IS OF BULK AT MOST 1048576: true; the input reads as it did. -/
def actRunsUptoRow : OpenClaim := { program := "ytpcacgfhjheiiaadoor", sum := "8b16612a43d8a09cbc753f5562e3b380286bff449a38ba54f814f8d46fb660ca", func := "podesta/podestalaw04.ActRuns", spec := "actRuns", unfollowed := true, recurses := true, named := ["podesta/head.layouts"], apart := false, laid := [("podesta/head.layouts", laid_podesta_head_layouts)], narrowed := true }
def ActRunsUptoSaid : Prop := actRunsUptoRow.holds Tryd.pinned (OpenSpec.upto actRunsSpec)

/-- 'podestalaw04.ActSame', WHERE WHAT IT READS IS OF BULK AT MOST 1048576: true; the input reads as it did. -/
def actSameUptoRow : OpenClaim := { program := "ytpcacgfhjheiiaadoor", sum := "8b16612a43d8a09cbc753f5562e3b380286bff449a38ba54f814f8d46fb660ca", func := "podesta/podestalaw04.ActSame", spec := "actSame", unfollowed := true, recurses := true, named := ["podesta/head.layouts"], apart := false, laid := [("podesta/head.layouts", laid_podesta_head_layouts)], narrowed := true }
def ActSameUptoSaid : Prop := actSameUptoRow.holds Tryd.pinned (OpenSpec.upto actSameSpec)

/-- 'podestalaw04.ActJoins', WHERE WHAT IT READS IS OF BULK AT MOST 1048576: true; the input reads as it did. -/
def actJoinsUptoRow : OpenClaim := { program := "ytpcacgfhjheiiaadoor", sum := "8b16612a43d8a09cbc753f5562e3b380286bff449a38ba54f814f8d46fb660ca", func := "podesta/podestalaw04.ActJoins", spec := "actJoins", unfollowed := true, recurses := true, named := ["podesta/head.layouts"], apart := false, laid := [("podesta/head.layouts", laid_podesta_head_layouts)], narrowed := true }
def ActJoinsUptoSaid : Prop := actJoinsUptoRow.holds Tryd.pinned (OpenSpec.upto actJoinsSpec)

/-- 'podestalaw04.ActPlain', WHERE WHAT IT READS IS OF BULK AT MOST 1048576: true; the input reads as it did. -/
def actPlainUptoRow : OpenClaim := { program := "ytpcacgfhjheiiaadoor", sum := "8b16612a43d8a09cbc753f5562e3b380286bff449a38ba54f814f8d46fb660ca", func := "podesta/podestalaw04.ActPlain", spec := "actPlain", unfollowed := true, recurses := true, named := ["podesta/head.layouts"], apart := false, laid := [("podesta/head.layouts", laid_podesta_head_layouts)], narrowed := true }
def ActPlainUptoSaid : Prop := actPlainUptoRow.holds Tryd.pinned (OpenSpec.upto actPlainSpec)

end Rows
end Go.Proofs.YtpcacgfhjheiiaaDoor
