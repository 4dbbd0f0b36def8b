/-
  NARROWER THAN 'FOR EVERY INPUT', by the rows' own cells (each row's printed sentence says how): RulePairs: laid · RuleTables: laid · RuleFinds: laid · RuleSame: laid · RuleOwn: laid · RuleOrder: laid · RuleJoins: laid.
  DERIVED. THE GIVEN ROWS OF THIS SEAT. 7 by the template 'for every input the law returns true; each argument reads behind the call as it read before'; 0 by the template 'total and deterministic' (their statements: YthalpnmejompdaaDoorTotals.lean).
  GIVEN WITH THE SEED: the statements are not yours to turn. If you find one false, say at which input.
  Laid BY PROGRAM, IN A SANDBOX (cutbox-rows.mjs): the forced cells as the released guide's own fill.sh prints them over the translation 5c06aaf05098981c… (all of the seat's roots in one cut). By AI agents, Wed Nov 11 2026. No macro, syntax, notation, axiom, sorry.
-/
import Derived.Test.YthalpnmejompdaaDoorChecked
import GoSem.Claim
import GoSem.ClaimJoined
import GoSem.ClaimMapViews
import Derived.JoinedTies
import Derived.KernelRfl
namespace Go.Proofs.YthalpnmejompdaaDoor
/- THE CELL 'sum', in the pinned program and in every row, IS THE sha256 OF THE DUMP (.gsa) THAT YthalpnmejompdaaDoorProg.lean LOADS. Nothing in Lean hashes anything: it is a label: what it is worth is what the hold of that sum in a sandbox is worth. -/
noncomputable def Tryd.pinned : Pinned := { name := "ythalpnmejompdaadoor", sum := "5c06aaf05098981cd6bf20e8ca8fdb34fdead3553eee606756b5b32aaab23a05", checked := Tryd.checked }
namespace Rows
def none {H : Type} : Left H := { results := [], args := [] }

/- WHAT THE LISTED PACKAGE-LEVEL VARIABLES READ AS WHEN THE CALL BEGINS. Each datum BY PROGRAM (the guide's laid-datum.mjs) off the statement by which the dump's own 'gosem.cut.vars' lays the variable. In a bare row this is a premise. The card (YthalpnmejompdaaDoorCards.lean) ties it to the program's text. -/
def laid_podesta_head_layouts {H : Type} : DataW H := .agg [.agg [.lit (.string [105, 110]), .lit (.int .i64 16)], .agg [.lit (.string [101, 115, 114, 99]), .lit (.int .i64 48)], .agg [.lit (.string [101, 100, 115, 116]), .lit (.int .i64 48)], .agg [.lit (.string [101, 116, 121, 112, 101]), .lit (.int .i64 16)], .agg [.lit (.string [118, 108, 97, 110]), .lit (.int .i64 12)], .agg [.lit (.string [112, 99, 112]), .lit (.int .i64 4)], .agg [.lit (.string [115, 114, 99]), .lit (.int .i64 32)], .agg [.lit (.string [100, 115, 116]), .lit (.int .i64 32)], .agg [.lit (.string [112, 114, 111, 116, 111]), .lit (.int .i64 8)], .agg [.lit (.string [116, 111, 115]), .lit (.int .i64 8)], .agg [.lit (.string [115, 112, 111, 114, 116]), .lit (.int .i64 12)], .agg [.lit (.string [100, 112, 111, 114, 116]), .lit (.int .i64 12)]]

/-- 'podestalaw05.RulePairs': WHATEVER THE INPUT: true; the input reads as it did. -/
def rulePairsSpec : ChangeSpec := { name := "rulePairs", fn := fun _ => fun
  | [d1, d2] => { results := [.lit (.bool true)], args := [d1, d2] }
  | _ => none }
def rulePairsRow : OpenClaim := { program := "ythalpnmejompdaadoor", sum := "5c06aaf05098981cd6bf20e8ca8fdb34fdead3553eee606756b5b32aaab23a05", func := "podesta/podestalaw05.RulePairs", spec := "rulePairs", inPlace := ["slices.overlaps[int]"], unfollowed := true, recurses := true, named := ["podesta/head.layouts"], apart := false, laid := [("podesta/head.layouts", laid_podesta_head_layouts)] }
def RulePairsSaid : Prop := rulePairsRow.holds Tryd.pinned (OpenSpec.ofChange rulePairsSpec)

/-- ITS FALSE NEIGHBOUR: 'it returns false'. Refute it at one input. -/
def rulePairsWrong : ChangeSpec := { name := "rulePairs", fn := fun _ => fun
  | [d1, d2] => { results := [.lit (.bool false)], args := [d1, d2] }
  | _ => none }
def RulePairsWrongFalsely : Prop := rulePairsRow.holds Tryd.pinned (OpenSpec.ofChange rulePairsWrong)

/-- 'podestalaw05.RuleTables': WHATEVER THE INPUT: true; the input reads as it did. -/
def ruleTablesSpec : ChangeSpec := { name := "ruleTables", fn := fun _ => fun
  | [d] => { results := [.lit (.bool true)], args := [d] }
  | _ => none }
def ruleTablesRow : OpenClaim := { program := "ythalpnmejompdaadoor", sum := "5c06aaf05098981cd6bf20e8ca8fdb34fdead3553eee606756b5b32aaab23a05", func := "podesta/podestalaw05.RuleTables", spec := "ruleTables", inPlace := ["slices.overlaps[int]"], unfollowed := true, recurses := true, named := ["podesta/head.layouts"], apart := false, laid := [("podesta/head.layouts", laid_podesta_head_layouts)] }
def RuleTablesSaid : Prop := ruleTablesRow.holds Tryd.pinned (OpenSpec.ofChange ruleTablesSpec)

/-- ITS FALSE NEIGHBOUR: 'it returns false'. Refute it at one input. -/
def ruleTablesWrong : ChangeSpec := { name := "ruleTables", fn := fun _ => fun
  | [d] => { results := [.lit (.bool false)], args := [d] }
  | _ => none }
def RuleTablesWrongFalsely : Prop := ruleTablesRow.holds Tryd.pinned (OpenSpec.ofChange ruleTablesWrong)

/-- 'podestalaw05.RuleFinds': WHATEVER THE INPUT: true; the input reads as it did. -/
def ruleFindsSpec : ChangeSpec := { name := "ruleFinds", fn := fun _ => fun
  | [d1, d2] => { results := [.lit (.bool true)], args := [d1, d2] }
  | _ => none }
def ruleFindsRow : OpenClaim := { program := "ythalpnmejompdaadoor", sum := "5c06aaf05098981cd6bf20e8ca8fdb34fdead3553eee606756b5b32aaab23a05", func := "podesta/podestalaw05.RuleFinds", spec := "ruleFinds", inPlace := ["slices.overlaps[int]"], unfollowed := true, recurses := true, named := ["podesta/head.layouts"], apart := false, laid := [("podesta/head.layouts", laid_podesta_head_layouts)] }
def RuleFindsSaid : Prop := ruleFindsRow.holds Tryd.pinned (OpenSpec.ofChange ruleFindsSpec)

/-- ITS FALSE NEIGHBOUR: 'it returns false'. Refute it at one input. -/
def ruleFindsWrong : ChangeSpec := { name := "ruleFinds", fn := fun _ => fun
  | [d1, d2] => { results := [.lit (.bool false)], args := [d1, d2] }
  | _ => none }
def RuleFindsWrongFalsely : Prop := ruleFindsRow.holds Tryd.pinned (OpenSpec.ofChange ruleFindsWrong)

/-- 'podestalaw05.RuleSame': WHATEVER THE INPUT: true; the input reads as it did. -/
def ruleSameSpec : ChangeSpec := { name := "ruleSame", fn := fun _ => fun
  | [d1, d2] => { results := [.lit (.bool true)], args := [d1, d2] }
  | _ => none }
def ruleSameRow : OpenClaim := { program := "ythalpnmejompdaadoor", sum := "5c06aaf05098981cd6bf20e8ca8fdb34fdead3553eee606756b5b32aaab23a05", func := "podesta/podestalaw05.RuleSame", spec := "ruleSame", inPlace := ["slices.overlaps[int]"], unfollowed := true, recurses := true, named := ["podesta/head.layouts"], apart := false, laid := [("podesta/head.layouts", laid_podesta_head_layouts)] }
def RuleSameSaid : Prop := ruleSameRow.holds Tryd.pinned (OpenSpec.ofChange ruleSameSpec)

/-- ITS FALSE NEIGHBOUR: 'it returns false'. Refute it at one input. -/
def ruleSameWrong : ChangeSpec := { name := "ruleSame", fn := fun _ => fun
  | [d1, d2] => { results := [.lit (.bool false)], args := [d1, d2] }
  | _ => none }
def RuleSameWrongFalsely : Prop := ruleSameRow.holds Tryd.pinned (OpenSpec.ofChange ruleSameWrong)

/-- 'podestalaw05.RuleOwn': WHATEVER THE INPUT: true; the input reads as it did. -/
def ruleOwnSpec : ChangeSpec := { name := "ruleOwn", fn := fun _ => fun
  | [d] => { results := [.lit (.bool true)], args := [d] }
  | _ => none }
def ruleOwnRow : OpenClaim := { program := "ythalpnmejompdaadoor", sum := "5c06aaf05098981cd6bf20e8ca8fdb34fdead3553eee606756b5b32aaab23a05", func := "podesta/podestalaw05.RuleOwn", spec := "ruleOwn", inPlace := ["slices.overlaps[int]"], unfollowed := true, recurses := true, named := ["podesta/head.layouts"], apart := false, laid := [("podesta/head.layouts", laid_podesta_head_layouts)] }
def RuleOwnSaid : Prop := ruleOwnRow.holds Tryd.pinned (OpenSpec.ofChange ruleOwnSpec)

/-- ITS FALSE NEIGHBOUR: 'it returns false'. Refute it at one input. -/
def ruleOwnWrong : ChangeSpec := { name := "ruleOwn", fn := fun _ => fun
  | [d] => { results := [.lit (.bool false)], args := [d] }
  | _ => none }
def RuleOwnWrongFalsely : Prop := ruleOwnRow.holds Tryd.pinned (OpenSpec.ofChange ruleOwnWrong)

/-- 'podestalaw05.RuleOrder': WHATEVER THE INPUT: true; the input reads as it did. -/
def ruleOrderSpec : ChangeSpec := { name := "ruleOrder", fn := fun _ => fun
  | [d1, d2, d3] => { results := [.lit (.bool true)], args := [d1, d2, d3] }
  | _ => none }
def ruleOrderRow : OpenClaim := { program := "ythalpnmejompdaadoor", sum := "5c06aaf05098981cd6bf20e8ca8fdb34fdead3553eee606756b5b32aaab23a05", func := "podesta/podestalaw05.RuleOrder", spec := "ruleOrder", inPlace := ["slices.overlaps[int]"], unfollowed := true, recurses := true, named := ["podesta/head.layouts"], apart := false, laid := [("podesta/head.layouts", laid_podesta_head_layouts)] }
def RuleOrderSaid : Prop := ruleOrderRow.holds Tryd.pinned (OpenSpec.ofChange ruleOrderSpec)

/-- ITS FALSE NEIGHBOUR: 'it returns false'. Refute it at one input. -/
def ruleOrderWrong : ChangeSpec := { name := "ruleOrder", fn := fun _ => fun
  | [d1, d2, d3] => { results := [.lit (.bool false)], args := [d1, d2, d3] }
  | _ => none }
def RuleOrderWrongFalsely : Prop := ruleOrderRow.holds Tryd.pinned (OpenSpec.ofChange ruleOrderWrong)

/-- 'podestalaw05.RuleJoins': WHATEVER THE INPUT: true; the input reads as it did. -/
def ruleJoinsSpec : ChangeSpec := { name := "ruleJoins", fn := fun _ => fun
  | [d1, d2] => { results := [.lit (.bool true)], args := [d1, d2] }
  | _ => none }
def ruleJoinsRow : OpenClaim := { program := "ythalpnmejompdaadoor", sum := "5c06aaf05098981cd6bf20e8ca8fdb34fdead3553eee606756b5b32aaab23a05", func := "podesta/podestalaw05.RuleJoins", spec := "ruleJoins", inPlace := ["slices.overlaps[int]"], unfollowed := true, recurses := true, named := ["podesta/head.layouts"], apart := false, laid := [("podesta/head.layouts", laid_podesta_head_layouts)] }
def RuleJoinsSaid : Prop := ruleJoinsRow.holds Tryd.pinned (OpenSpec.ofChange ruleJoinsSpec)

/-- ITS FALSE NEIGHBOUR: 'it returns false'. Refute it at one input. -/
def ruleJoinsWrong : ChangeSpec := { name := "ruleJoins", fn := fun _ => fun
  | [d1, d2] => { results := [.lit (.bool false)], args := [d1, d2] }
  | _ => none }
def RuleJoinsWrongFalsely : Prop := ruleJoinsRow.holds Tryd.pinned (OpenSpec.ofChange ruleJoinsWrong)

/- THE SECOND FORM. 'bulk': how many values and letters a reading holds, each counted each time it is reached (what is shared counts as often as it is met; a slice's spare places count too). A statement '..UptoSaid' is the law's where the arguments, and the package variables that the reading takes, are together of bulk at most 1048576: NARROWER than '..Said'. Prove '..Said' where nothing that the law and all that it calls make is longer than what came in: it says more and counts as full. Else prove '..UptoSaid'. A law counts once. -/
mutual
def uptoBulk {H : Type} : DataW H → Nat
  | .lit (.string bytes) => bytes.length + 1
  | .lit _ => 1
  | .nil => 1
  | .ptr d => uptoBulk d + 1
  | .slice elems spare => uptoBulkAll elems + uptoBulkAll spare + 1
  | .agg parts => uptoBulkAll parts + 1
  | .iface _ d => uptoBulk d + 1
  | .map entries => uptoBulkEntries entries + 1
  | .held _ => 1
def uptoBulkAll {H : Type} : List (DataW H) → Nat
  | [] => 0
  | d :: r => uptoBulk d + uptoBulkAll r
def uptoBulkEntries {H : Type} : List (Lit × DataW H) → Nat
  | [] => 0
  | x :: r => uptoBulkEntry x + uptoBulkEntries r
def uptoBulkEntry {H : Type} : Lit × DataW H → Nat
  | (.string bytes, d) => bytes.length + uptoBulk d + 1
  | (_, d) => uptoBulk d + 1
 end
def uptoSmall : (H : Type) → List (DataW H) → Bool := fun _ ds => decide (uptoBulkAll ds ≤ 1048576)
def OpenSpec.upto (s : _root_.Go.ChangeSpec) : _root_.Go.OpenSpec := { _root_.Go.OpenSpec.ofChange s with cond := some uptoSmall }

/-- 'podestalaw05.RulePairs', WHERE WHAT IT READS IS OF BULK AT MOST 1048576: true; the input reads as it did. -/
def rulePairsUptoRow : OpenClaim := { program := "ythalpnmejompdaadoor", sum := "5c06aaf05098981cd6bf20e8ca8fdb34fdead3553eee606756b5b32aaab23a05", func := "podesta/podestalaw05.RulePairs", spec := "rulePairs", inPlace := ["slices.overlaps[int]"], unfollowed := true, recurses := true, named := ["podesta/head.layouts"], apart := false, laid := [("podesta/head.layouts", laid_podesta_head_layouts)], narrowed := true }
def RulePairsUptoSaid : Prop := rulePairsUptoRow.holds Tryd.pinned (OpenSpec.upto rulePairsSpec)

/-- 'podestalaw05.RuleTables', WHERE WHAT IT READS IS OF BULK AT MOST 1048576: true; the input reads as it did. -/
def ruleTablesUptoRow : OpenClaim := { program := "ythalpnmejompdaadoor", sum := "5c06aaf05098981cd6bf20e8ca8fdb34fdead3553eee606756b5b32aaab23a05", func := "podesta/podestalaw05.RuleTables", spec := "ruleTables", inPlace := ["slices.overlaps[int]"], unfollowed := true, recurses := true, named := ["podesta/head.layouts"], apart := false, laid := [("podesta/head.layouts", laid_podesta_head_layouts)], narrowed := true }
def RuleTablesUptoSaid : Prop := ruleTablesUptoRow.holds Tryd.pinned (OpenSpec.upto ruleTablesSpec)

/-- 'podestalaw05.RuleFinds', WHERE WHAT IT READS IS OF BULK AT MOST 1048576: true; the input reads as it did. -/
def ruleFindsUptoRow : OpenClaim := { program := "ythalpnmejompdaadoor", sum := "5c06aaf05098981cd6bf20e8ca8fdb34fdead3553eee606756b5b32aaab23a05", func := "podesta/podestalaw05.RuleFinds", spec := "ruleFinds", inPlace := ["slices.overlaps[int]"], unfollowed := true, recurses := true, named := ["podesta/head.layouts"], apart := false, laid := [("podesta/head.layouts", laid_podesta_head_layouts)], narrowed := true }
def RuleFindsUptoSaid : Prop := ruleFindsUptoRow.holds Tryd.pinned (OpenSpec.upto ruleFindsSpec)

/-- 'podestalaw05.RuleSame', WHERE WHAT IT READS IS OF BULK AT MOST 1048576: true; the input reads as it did. -/
def ruleSameUptoRow : OpenClaim := { program := "ythalpnmejompdaadoor", sum := "5c06aaf05098981cd6bf20e8ca8fdb34fdead3553eee606756b5b32aaab23a05", func := "podesta/podestalaw05.RuleSame", spec := "ruleSame", inPlace := ["slices.overlaps[int]"], unfollowed := true, recurses := true, named := ["podesta/head.layouts"], apart := false, laid := [("podesta/head.layouts", laid_podesta_head_layouts)], narrowed := true }
def RuleSameUptoSaid : Prop := ruleSameUptoRow.holds Tryd.pinned (OpenSpec.upto ruleSameSpec)

/-- 'podestalaw05.RuleOwn', WHERE WHAT IT READS IS OF BULK AT MOST 1048576: true; the input reads as it did. -/
def ruleOwnUptoRow : OpenClaim := { program := "ythalpnmejompdaadoor", sum := "5c06aaf05098981cd6bf20e8ca8fdb34fdead3553eee606756b5b32aaab23a05", func := "podesta/podestalaw05.RuleOwn", spec := "ruleOwn", inPlace := ["slices.overlaps[int]"], unfollowed := true, recurses := true, named := ["podesta/head.layouts"], apart := false, laid := [("podesta/head.layouts", laid_podesta_head_layouts)], narrowed := true }
def RuleOwnUptoSaid : Prop := ruleOwnUptoRow.holds Tryd.pinned (OpenSpec.upto ruleOwnSpec)

/-- 'podestalaw05.RuleOrder', WHERE WHAT IT READS IS OF BULK AT MOST 1048576: true; the input reads as it did. -/
def ruleOrderUptoRow : OpenClaim := { program := "ythalpnmejompdaadoor", sum := "5c06aaf05098981cd6bf20e8ca8fdb34fdead3553eee606756b5b32aaab23a05", func := "podesta/podestalaw05.RuleOrder", spec := "ruleOrder", inPlace := ["slices.overlaps[int]"], unfollowed := true, recurses := true, named := ["podesta/head.layouts"], apart := false, laid := [("podesta/head.layouts", laid_podesta_head_layouts)], narrowed := true }
def RuleOrderUptoSaid : Prop := ruleOrderUptoRow.holds Tryd.pinned (OpenSpec.upto ruleOrderSpec)

/-- 'podestalaw05.RuleJoins', WHERE WHAT IT READS IS OF BULK AT MOST 1048576: true; the input reads as it did. -/
def ruleJoinsUptoRow : OpenClaim := { program := "ythalpnmejompdaadoor", sum := "5c06aaf05098981cd6bf20e8ca8fdb34fdead3553eee606756b5b32aaab23a05", func := "podesta/podestalaw05.RuleJoins", spec := "ruleJoins", inPlace := ["slices.overlaps[int]"], unfollowed := true, recurses := true, named := ["podesta/head.layouts"], apart := false, laid := [("podesta/head.layouts", laid_podesta_head_layouts)], narrowed := true }
def RuleJoinsUptoSaid : Prop := ruleJoinsUptoRow.holds Tryd.pinned (OpenSpec.upto ruleJoinsSpec)

end Rows
end Go.Proofs.YthalpnmejompdaaDoor
