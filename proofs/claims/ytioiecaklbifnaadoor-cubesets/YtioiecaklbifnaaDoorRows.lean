/-
  NARROWER THAN 'FOR EVERY INPUT', by the rows' own cells (each row's printed sentence says how): CubeMakes: laid · CubeSets: laid · CubeParts: laid · CubeOrder: laid · CubeThree: laid · CubeNear: laid.
  DERIVED. THE GIVEN ROWS OF THIS SEAT. 6 by the template 'for every input the law returns true; each argument reads behind the call as it read before'; 0 by the template 'total and deterministic' (their statements: YtioiecaklbifnaaDoorTotals.lean).
  GIVEN WITH THE SEED: the statements are not yours to turn. If you find one false, say at which input.
  Laid BY PROGRAM, IN A SANDBOX (cutbox-rows.mjs): the forced cells as the released guide's own fill.sh prints them over the translation c6ec20888d940aab… (all of the seat's roots in one cut). By AI agents, Wed Nov 11 2026. No macro, syntax, notation, axiom, sorry.
-/
import Derived.Test.YtioiecaklbifnaaDoorChecked
import GoSem.Claim
import GoSem.ClaimJoined
import GoSem.ClaimMapViews
import Derived.JoinedTies
import Derived.KernelRfl
namespace Go.Proofs.YtioiecaklbifnaaDoor
/- THE CELL 'sum', in the pinned program and in every row, IS THE sha256 OF THE DUMP (.gsa) THAT YtioiecaklbifnaaDoorProg.lean LOADS. Nothing in Lean hashes anything: it is a label: what it is worth is what the hold of that sum in a sandbox is worth. -/
noncomputable def Tryd.pinned : Pinned := { name := "ytioiecaklbifnaadoor", sum := "c6ec20888d940aab8f23c20b94aa7c76341cf244d93d8062d31da59d9e3ccd7c", checked := Tryd.checked }
namespace Rows
def none {H : Type} : Left H := { results := [], args := [] }

/- WHAT THE LISTED PACKAGE-LEVEL VARIABLES READ AS WHEN THE CALL BEGINS. Each datum BY PROGRAM (the guide's laid-datum.mjs) off the statement by which the dump's own 'gosem.cut.vars' lays the variable. In a bare row this is a premise. The card (YtioiecaklbifnaaDoorCards.lean) ties it to the program's text. -/
def laid_podesta_head_layouts {H : Type} : DataW H := .agg [.agg [.lit (.string [105, 110]), .lit (.int .i64 16)], .agg [.lit (.string [101, 115, 114, 99]), .lit (.int .i64 48)], .agg [.lit (.string [101, 100, 115, 116]), .lit (.int .i64 48)], .agg [.lit (.string [101, 116, 121, 112, 101]), .lit (.int .i64 16)], .agg [.lit (.string [118, 108, 97, 110]), .lit (.int .i64 12)], .agg [.lit (.string [112, 99, 112]), .lit (.int .i64 4)], .agg [.lit (.string [115, 114, 99]), .lit (.int .i64 32)], .agg [.lit (.string [100, 115, 116]), .lit (.int .i64 32)], .agg [.lit (.string [112, 114, 111, 116, 111]), .lit (.int .i64 8)], .agg [.lit (.string [116, 111, 115]), .lit (.int .i64 8)], .agg [.lit (.string [115, 112, 111, 114, 116]), .lit (.int .i64 12)], .agg [.lit (.string [100, 112, 111, 114, 116]), .lit (.int .i64 12)]]

/-- 'podestalaw02.CubeMakes': WHATEVER THE INPUT: true; the input reads as it did. -/
def cubeMakesSpec : ChangeSpec := { name := "cubeMakes", fn := fun _ => fun
  | [d1, d2, d3, d4, d5] => { results := [.lit (.bool true)], args := [d1, d2, d3, d4, d5] }
  | _ => none }
def cubeMakesRow : OpenClaim := { program := "ytioiecaklbifnaadoor", sum := "c6ec20888d940aab8f23c20b94aa7c76341cf244d93d8062d31da59d9e3ccd7c", func := "podesta/podestalaw02.CubeMakes", spec := "cubeMakes", named := ["podesta/head.layouts"], apart := false, laid := [("podesta/head.layouts", laid_podesta_head_layouts)] }
def CubeMakesSaid : Prop := cubeMakesRow.holds Tryd.pinned (OpenSpec.ofChange cubeMakesSpec)

/-- ITS FALSE NEIGHBOUR: 'it returns false'. Refute it at one input. -/
def cubeMakesWrong : ChangeSpec := { name := "cubeMakes", fn := fun _ => fun
  | [d1, d2, d3, d4, d5] => { results := [.lit (.bool false)], args := [d1, d2, d3, d4, d5] }
  | _ => none }
def CubeMakesWrongFalsely : Prop := cubeMakesRow.holds Tryd.pinned (OpenSpec.ofChange cubeMakesWrong)

/-- 'podestalaw02.CubeSets': WHATEVER THE INPUT: true; the input reads as it did. -/
def cubeSetsSpec : ChangeSpec := { name := "cubeSets", fn := fun _ => fun
  | [d1, d2, d3] => { results := [.lit (.bool true)], args := [d1, d2, d3] }
  | _ => none }
def cubeSetsRow : OpenClaim := { program := "ytioiecaklbifnaadoor", sum := "c6ec20888d940aab8f23c20b94aa7c76341cf244d93d8062d31da59d9e3ccd7c", func := "podesta/podestalaw02.CubeSets", spec := "cubeSets", named := ["podesta/head.layouts"], apart := false, laid := [("podesta/head.layouts", laid_podesta_head_layouts)] }
def CubeSetsSaid : Prop := cubeSetsRow.holds Tryd.pinned (OpenSpec.ofChange cubeSetsSpec)

/-- ITS FALSE NEIGHBOUR: 'it returns false'. Refute it at one input. -/
def cubeSetsWrong : ChangeSpec := { name := "cubeSets", fn := fun _ => fun
  | [d1, d2, d3] => { results := [.lit (.bool false)], args := [d1, d2, d3] }
  | _ => none }
def CubeSetsWrongFalsely : Prop := cubeSetsRow.holds Tryd.pinned (OpenSpec.ofChange cubeSetsWrong)

/-- 'podestalaw02.CubeParts': WHATEVER THE INPUT: true; the input reads as it did. -/
def cubePartsSpec : ChangeSpec := { name := "cubeParts", fn := fun _ => fun
  | [d1, d2] => { results := [.lit (.bool true)], args := [d1, d2] }
  | _ => none }
def cubePartsRow : OpenClaim := { program := "ytioiecaklbifnaadoor", sum := "c6ec20888d940aab8f23c20b94aa7c76341cf244d93d8062d31da59d9e3ccd7c", func := "podesta/podestalaw02.CubeParts", spec := "cubeParts", named := ["podesta/head.layouts"], apart := false, laid := [("podesta/head.layouts", laid_podesta_head_layouts)] }
def CubePartsSaid : Prop := cubePartsRow.holds Tryd.pinned (OpenSpec.ofChange cubePartsSpec)

/-- ITS FALSE NEIGHBOUR: 'it returns false'. Refute it at one input. -/
def cubePartsWrong : ChangeSpec := { name := "cubeParts", fn := fun _ => fun
  | [d1, d2] => { results := [.lit (.bool false)], args := [d1, d2] }
  | _ => none }
def CubePartsWrongFalsely : Prop := cubePartsRow.holds Tryd.pinned (OpenSpec.ofChange cubePartsWrong)

/-- 'podestalaw02.CubeOrder': WHATEVER THE INPUT: true; the input reads as it did. -/
def cubeOrderSpec : ChangeSpec := { name := "cubeOrder", fn := fun _ => fun
  | [d1, d2] => { results := [.lit (.bool true)], args := [d1, d2] }
  | _ => none }
def cubeOrderRow : OpenClaim := { program := "ytioiecaklbifnaadoor", sum := "c6ec20888d940aab8f23c20b94aa7c76341cf244d93d8062d31da59d9e3ccd7c", func := "podesta/podestalaw02.CubeOrder", spec := "cubeOrder", named := ["podesta/head.layouts"], apart := false, laid := [("podesta/head.layouts", laid_podesta_head_layouts)] }
def CubeOrderSaid : Prop := cubeOrderRow.holds Tryd.pinned (OpenSpec.ofChange cubeOrderSpec)

/-- ITS FALSE NEIGHBOUR: 'it returns false'. Refute it at one input. -/
def cubeOrderWrong : ChangeSpec := { name := "cubeOrder", fn := fun _ => fun
  | [d1, d2] => { results := [.lit (.bool false)], args := [d1, d2] }
  | _ => none }
def CubeOrderWrongFalsely : Prop := cubeOrderRow.holds Tryd.pinned (OpenSpec.ofChange cubeOrderWrong)

/-- 'podestalaw02.CubeThree': WHATEVER THE INPUT: true; the input reads as it did. -/
def cubeThreeSpec : ChangeSpec := { name := "cubeThree", fn := fun _ => fun
  | [d1, d2, d3] => { results := [.lit (.bool true)], args := [d1, d2, d3] }
  | _ => none }
def cubeThreeRow : OpenClaim := { program := "ytioiecaklbifnaadoor", sum := "c6ec20888d940aab8f23c20b94aa7c76341cf244d93d8062d31da59d9e3ccd7c", func := "podesta/podestalaw02.CubeThree", spec := "cubeThree", named := ["podesta/head.layouts"], apart := false, laid := [("podesta/head.layouts", laid_podesta_head_layouts)] }
def CubeThreeSaid : Prop := cubeThreeRow.holds Tryd.pinned (OpenSpec.ofChange cubeThreeSpec)

/-- ITS FALSE NEIGHBOUR: 'it returns false'. Refute it at one input. -/
def cubeThreeWrong : ChangeSpec := { name := "cubeThree", fn := fun _ => fun
  | [d1, d2, d3] => { results := [.lit (.bool false)], args := [d1, d2, d3] }
  | _ => none }
def CubeThreeWrongFalsely : Prop := cubeThreeRow.holds Tryd.pinned (OpenSpec.ofChange cubeThreeWrong)

/-- 'podestalaw02.CubeNear': WHATEVER THE INPUT: true; the input reads as it did. -/
def cubeNearSpec : ChangeSpec := { name := "cubeNear", fn := fun _ => fun
  | [d1, d2, d3, d4] => { results := [.lit (.bool true)], args := [d1, d2, d3, d4] }
  | _ => none }
def cubeNearRow : OpenClaim := { program := "ytioiecaklbifnaadoor", sum := "c6ec20888d940aab8f23c20b94aa7c76341cf244d93d8062d31da59d9e3ccd7c", func := "podesta/podestalaw02.CubeNear", spec := "cubeNear", named := ["podesta/head.layouts"], apart := false, laid := [("podesta/head.layouts", laid_podesta_head_layouts)] }
def CubeNearSaid : Prop := cubeNearRow.holds Tryd.pinned (OpenSpec.ofChange cubeNearSpec)

/-- ITS FALSE NEIGHBOUR: 'it returns false'. Refute it at one input. -/
def cubeNearWrong : ChangeSpec := { name := "cubeNear", fn := fun _ => fun
  | [d1, d2, d3, d4] => { results := [.lit (.bool false)], args := [d1, d2, d3, d4] }
  | _ => none }
def CubeNearWrongFalsely : Prop := cubeNearRow.holds Tryd.pinned (OpenSpec.ofChange cubeNearWrong)

/- THE SECOND FORM. 'bulk': how many values and letters a reading holds, each counted each time it is reached (what is shared counts as often as it is met; a slice's spare places count too). A statement '..UptoSaid' is the law's where the arguments, and the package variables that the reading takes, are together of bulk at most 1048576: NARROWER than '..Said'. Prove '..Said' where nothing that the law and all that it calls make is longer than what came in: it says more and counts as full. Else prove '..UptoSaid'. A law counts once. -/
mutual
def uptoBulk {H : Type} : DataW H → Nat
  | .lit (.string bytes) => bytes.length + 1
  | .lit _ => 1
  | .nil => 1
  | .ptr d => uptoBulk d + 1
  | .slice elems spare => uptoBulkAll elems + uptoBulkAll spare + 1
  | .agg parts => uptoBulkAll parts + 1
  | .iface _ d => uptoBulk d + 1
  | .map entries => uptoBulkEntries entries + 1
  | .held _ => 1
def uptoBulkAll {H : Type} : List (DataW H) → Nat
  | [] => 0
  | d :: r => uptoBulk d + uptoBulkAll r
def uptoBulkEntries {H : Type} : List (Lit × DataW H) → Nat
  | [] => 0
  | x :: r => uptoBulkEntry x + uptoBulkEntries r
def uptoBulkEntry {H : Type} : Lit × DataW H → Nat
  | (.string bytes, d) => bytes.length + uptoBulk d + 1
  | (_, d) => uptoBulk d + 1
 end
def uptoSmall : (H : Type) → List (DataW H) → Bool := fun _ ds => decide (uptoBulkAll ds ≤ 1048576)
def OpenSpec.upto (s : _root_.Go.ChangeSpec) : _root_.Go.OpenSpec := { _root_.Go.OpenSpec.ofChange s with cond := some uptoSmall }

/-- 'podestalaw02.CubeMakes', WHERE WHAT IT READS IS OF BULK AT MOST 1048576: true; the input reads as it did. -/
def cubeMakesUptoRow : OpenClaim := { program := "ytioiecaklbifnaadoor", sum := "c6ec20888d940aab8f23c20b94aa7c76341cf244d93d8062d31da59d9e3ccd7c", func := "podesta/podestalaw02.CubeMakes", spec := "cubeMakes", named := ["podesta/head.layouts"], apart := false, laid := [("podesta/head.layouts", laid_podesta_head_layouts)], narrowed := true }
def CubeMakesUptoSaid : Prop := cubeMakesUptoRow.holds Tryd.pinned (OpenSpec.upto cubeMakesSpec)

/-- 'podestalaw02.CubeSets', WHERE WHAT IT READS IS OF BULK AT MOST 1048576: true; the input reads as it did. -/
def cubeSetsUptoRow : OpenClaim := { program := "ytioiecaklbifnaadoor", sum := "c6ec20888d940aab8f23c20b94aa7c76341cf244d93d8062d31da59d9e3ccd7c", func := "podesta/podestalaw02.CubeSets", spec := "cubeSets", named := ["podesta/head.layouts"], apart := false, laid := [("podesta/head.layouts", laid_podesta_head_layouts)], narrowed := true }
def CubeSetsUptoSaid : Prop := cubeSetsUptoRow.holds Tryd.pinned (OpenSpec.upto cubeSetsSpec)

/-- 'podestalaw02.CubeParts', WHERE WHAT IT READS IS OF BULK AT MOST 1048576: true; the input reads as it did. -/
def cubePartsUptoRow : OpenClaim := { program := "ytioiecaklbifnaadoor", sum := "c6ec20888d940aab8f23c20b94aa7c76341cf244d93d8062d31da59d9e3ccd7c", func := "podesta/podestalaw02.CubeParts", spec := "cubeParts", named := ["podesta/head.layouts"], apart := false, laid := [("podesta/head.layouts", laid_podesta_head_layouts)], narrowed := true }
def CubePartsUptoSaid : Prop := cubePartsUptoRow.holds Tryd.pinned (OpenSpec.upto cubePartsSpec)

/-- 'podestalaw02.CubeOrder', WHERE WHAT IT READS IS OF BULK AT MOST 1048576: true; the input reads as it did. -/
def cubeOrderUptoRow : OpenClaim := { program := "ytioiecaklbifnaadoor", sum := "c6ec20888d940aab8f23c20b94aa7c76341cf244d93d8062d31da59d9e3ccd7c", func := "podesta/podestalaw02.CubeOrder", spec := "cubeOrder", named := ["podesta/head.layouts"], apart := false, laid := [("podesta/head.layouts", laid_podesta_head_layouts)], narrowed := true }
def CubeOrderUptoSaid : Prop := cubeOrderUptoRow.holds Tryd.pinned (OpenSpec.upto cubeOrderSpec)

/-- 'podestalaw02.CubeThree', WHERE WHAT IT READS IS OF BULK AT MOST 1048576: true; the input reads as it did. -/
def cubeThreeUptoRow : OpenClaim := { program := "ytioiecaklbifnaadoor", sum := "c6ec20888d940aab8f23c20b94aa7c76341cf244d93d8062d31da59d9e3ccd7c", func := "podesta/podestalaw02.CubeThree", spec := "cubeThree", named := ["podesta/head.layouts"], apart := false, laid := [("podesta/head.layouts", laid_podesta_head_layouts)], narrowed := true }
def CubeThreeUptoSaid : Prop := cubeThreeUptoRow.holds Tryd.pinned (OpenSpec.upto cubeThreeSpec)

/-- 'podestalaw02.CubeNear', WHERE WHAT IT READS IS OF BULK AT MOST 1048576: true; the input reads as it did. -/
def cubeNearUptoRow : OpenClaim := { program := "ytioiecaklbifnaadoor", sum := "c6ec20888d940aab8f23c20b94aa7c76341cf244d93d8062d31da59d9e3ccd7c", func := "podesta/podestalaw02.CubeNear", spec := "cubeNear", named := ["podesta/head.layouts"], apart := false, laid := [("podesta/head.layouts", laid_podesta_head_layouts)], narrowed := true }
def CubeNearUptoSaid : Prop := cubeNearUptoRow.holds Tryd.pinned (OpenSpec.upto cubeNearSpec)

end Rows
end Go.Proofs.YtioiecaklbifnaaDoor
