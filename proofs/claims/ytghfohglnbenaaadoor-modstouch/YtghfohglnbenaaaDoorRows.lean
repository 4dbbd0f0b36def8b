/-
  NARROWER THAN 'FOR EVERY INPUT', by the rows' own cells (each row's printed sentence says how): ModsApply: laid · ModsTouch: laid · ModsOthers: laid · ModsTwice: laid · ModsApart: laid · ModsRoom: laid · ModsGone: laid · ModsKeeps: laid · ModsSame: laid.
  DERIVED. THE GIVEN ROWS OF THIS SEAT. 9 by the template 'for every input the law returns true; each argument reads behind the call as it read before'; 0 by the template 'total and deterministic' (their statements: YtghfohglnbenaaaDoorTotals.lean).
  GIVEN WITH THE SEED: the statements are not yours to turn. If you find one false, say at which input.
  Laid BY PROGRAM, IN A SANDBOX (cutbox-rows.mjs): the forced cells as the released guide's own fill.sh prints them over the translation a38533a057c059bd… (all of the seat's roots in one cut). By AI agents, Wed Nov 11 2026. No macro, syntax, notation, axiom, sorry.
-/
import Derived.Test.YtghfohglnbenaaaDoorChecked
import GoSem.Claim
import GoSem.ClaimJoined
import GoSem.ClaimMapViews
import Derived.JoinedTies
import Derived.KernelRfl
namespace Go.Proofs.YtghfohglnbenaaaDoor
/- THE CELL 'sum', in the pinned program and in every row, IS THE sha256 OF THE DUMP (.gsa) THAT YtghfohglnbenaaaDoorProg.lean LOADS. Nothing in Lean hashes anything: it is a label: what it is worth is what the hold of that sum in a sandbox is worth. -/
noncomputable def Tryd.pinned : Pinned := { name := "ytghfohglnbenaaadoor", sum := "a38533a057c059bde3ea0c2e0b4d711f4d103b597e37a574cbeb1bc41793678b", checked := Tryd.checked }
namespace Rows
def none {H : Type} : Left H := { results := [], args := [] }

/- WHAT THE LISTED PACKAGE-LEVEL VARIABLES READ AS WHEN THE CALL BEGINS. Each datum BY PROGRAM (the guide's laid-datum.mjs) off the statement by which the dump's own 'gosem.cut.vars' lays the variable. In a bare row this is a premise. The card (YtghfohglnbenaaaDoorCards.lean) ties it to the program's text. -/
def laid_podesta_head_layouts {H : Type} : DataW H := .agg [.agg [.lit (.string [105, 110]), .lit (.int .i64 16)], .agg [.lit (.string [101, 115, 114, 99]), .lit (.int .i64 48)], .agg [.lit (.string [101, 100, 115, 116]), .lit (.int .i64 48)], .agg [.lit (.string [101, 116, 121, 112, 101]), .lit (.int .i64 16)], .agg [.lit (.string [118, 108, 97, 110]), .lit (.int .i64 12)], .agg [.lit (.string [112, 99, 112]), .lit (.int .i64 4)], .agg [.lit (.string [115, 114, 99]), .lit (.int .i64 32)], .agg [.lit (.string [100, 115, 116]), .lit (.int .i64 32)], .agg [.lit (.string [112, 114, 111, 116, 111]), .lit (.int .i64 8)], .agg [.lit (.string [116, 111, 115]), .lit (.int .i64 8)], .agg [.lit (.string [115, 112, 111, 114, 116]), .lit (.int .i64 12)], .agg [.lit (.string [100, 112, 111, 114, 116]), .lit (.int .i64 12)]]

/-- 'podestalaw07.ModsApply': WHATEVER THE INPUT: true; the input reads as it did. -/
def modsApplySpec : ChangeSpec := { name := "modsApply", fn := fun _ => fun
  | [d1, d2, d3] => { results := [.lit (.bool true)], args := [d1, d2, d3] }
  | _ => none }
def modsApplyRow : OpenClaim := { program := "ytghfohglnbenaaadoor", sum := "a38533a057c059bde3ea0c2e0b4d711f4d103b597e37a574cbeb1bc41793678b", func := "podesta/podestalaw07.ModsApply", spec := "modsApply", inPlace := ["slices.overlaps[int]"], unfollowed := true, recurses := true, named := ["podesta/head.layouts"], apart := false, laid := [("podesta/head.layouts", laid_podesta_head_layouts)] }
def ModsApplySaid : Prop := modsApplyRow.holds Tryd.pinned (OpenSpec.ofChange modsApplySpec)

/-- ITS FALSE NEIGHBOUR: 'it returns false'. Refute it at one input. -/
def modsApplyWrong : ChangeSpec := { name := "modsApply", fn := fun _ => fun
  | [d1, d2, d3] => { results := [.lit (.bool false)], args := [d1, d2, d3] }
  | _ => none }
def ModsApplyWrongFalsely : Prop := modsApplyRow.holds Tryd.pinned (OpenSpec.ofChange modsApplyWrong)

/-- 'podestalaw07.ModsTouch': WHATEVER THE INPUT: true; the input reads as it did. -/
def modsTouchSpec : ChangeSpec := { name := "modsTouch", fn := fun _ => fun
  | [d1, d2] => { results := [.lit (.bool true)], args := [d1, d2] }
  | _ => none }
def modsTouchRow : OpenClaim := { program := "ytghfohglnbenaaadoor", sum := "a38533a057c059bde3ea0c2e0b4d711f4d103b597e37a574cbeb1bc41793678b", func := "podesta/podestalaw07.ModsTouch", spec := "modsTouch", inPlace := ["slices.overlaps[int]"], unfollowed := true, recurses := true, named := ["podesta/head.layouts"], apart := false, laid := [("podesta/head.layouts", laid_podesta_head_layouts)] }
def ModsTouchSaid : Prop := modsTouchRow.holds Tryd.pinned (OpenSpec.ofChange modsTouchSpec)

/-- ITS FALSE NEIGHBOUR: 'it returns false'. Refute it at one input. -/
def modsTouchWrong : ChangeSpec := { name := "modsTouch", fn := fun _ => fun
  | [d1, d2] => { results := [.lit (.bool false)], args := [d1, d2] }
  | _ => none }
def ModsTouchWrongFalsely : Prop := modsTouchRow.holds Tryd.pinned (OpenSpec.ofChange modsTouchWrong)

/-- 'podestalaw07.ModsOthers': WHATEVER THE INPUT: true; the input reads as it did. -/
def modsOthersSpec : ChangeSpec := { name := "modsOthers", fn := fun _ => fun
  | [d1, d2] => { results := [.lit (.bool true)], args := [d1, d2] }
  | _ => none }
def modsOthersRow : OpenClaim := { program := "ytghfohglnbenaaadoor", sum := "a38533a057c059bde3ea0c2e0b4d711f4d103b597e37a574cbeb1bc41793678b", func := "podesta/podestalaw07.ModsOthers", spec := "modsOthers", inPlace := ["slices.overlaps[int]"], unfollowed := true, recurses := true, named := ["podesta/head.layouts"], apart := false, laid := [("podesta/head.layouts", laid_podesta_head_layouts)] }
def ModsOthersSaid : Prop := modsOthersRow.holds Tryd.pinned (OpenSpec.ofChange modsOthersSpec)

/-- ITS FALSE NEIGHBOUR: 'it returns false'. Refute it at one input. -/
def modsOthersWrong : ChangeSpec := { name := "modsOthers", fn := fun _ => fun
  | [d1, d2] => { results := [.lit (.bool false)], args := [d1, d2] }
  | _ => none }
def ModsOthersWrongFalsely : Prop := modsOthersRow.holds Tryd.pinned (OpenSpec.ofChange modsOthersWrong)

/-- 'podestalaw07.ModsTwice': WHATEVER THE INPUT: true; the input reads as it did. -/
def modsTwiceSpec : ChangeSpec := { name := "modsTwice", fn := fun _ => fun
  | [d1, d2, d3] => { results := [.lit (.bool true)], args := [d1, d2, d3] }
  | _ => none }
def modsTwiceRow : OpenClaim := { program := "ytghfohglnbenaaadoor", sum := "a38533a057c059bde3ea0c2e0b4d711f4d103b597e37a574cbeb1bc41793678b", func := "podesta/podestalaw07.ModsTwice", spec := "modsTwice", inPlace := ["slices.overlaps[int]"], unfollowed := true, recurses := true, named := ["podesta/head.layouts"], apart := false, laid := [("podesta/head.layouts", laid_podesta_head_layouts)] }
def ModsTwiceSaid : Prop := modsTwiceRow.holds Tryd.pinned (OpenSpec.ofChange modsTwiceSpec)

/-- ITS FALSE NEIGHBOUR: 'it returns false'. Refute it at one input. -/
def modsTwiceWrong : ChangeSpec := { name := "modsTwice", fn := fun _ => fun
  | [d1, d2, d3] => { results := [.lit (.bool false)], args := [d1, d2, d3] }
  | _ => none }
def ModsTwiceWrongFalsely : Prop := modsTwiceRow.holds Tryd.pinned (OpenSpec.ofChange modsTwiceWrong)

/-- 'podestalaw07.ModsApart': WHATEVER THE INPUT: true; the input reads as it did. -/
def modsApartSpec : ChangeSpec := { name := "modsApart", fn := fun _ => fun
  | [d1, d2, d3] => { results := [.lit (.bool true)], args := [d1, d2, d3] }
  | _ => none }
def modsApartRow : OpenClaim := { program := "ytghfohglnbenaaadoor", sum := "a38533a057c059bde3ea0c2e0b4d711f4d103b597e37a574cbeb1bc41793678b", func := "podesta/podestalaw07.ModsApart", spec := "modsApart", inPlace := ["slices.overlaps[int]"], unfollowed := true, recurses := true, named := ["podesta/head.layouts"], apart := false, laid := [("podesta/head.layouts", laid_podesta_head_layouts)] }
def ModsApartSaid : Prop := modsApartRow.holds Tryd.pinned (OpenSpec.ofChange modsApartSpec)

/-- ITS FALSE NEIGHBOUR: 'it returns false'. Refute it at one input. -/
def modsApartWrong : ChangeSpec := { name := "modsApart", fn := fun _ => fun
  | [d1, d2, d3] => { results := [.lit (.bool false)], args := [d1, d2, d3] }
  | _ => none }
def ModsApartWrongFalsely : Prop := modsApartRow.holds Tryd.pinned (OpenSpec.ofChange modsApartWrong)

/-- 'podestalaw07.ModsRoom': WHATEVER THE INPUT: true; the input reads as it did. -/
def modsRoomSpec : ChangeSpec := { name := "modsRoom", fn := fun _ => fun
  | [d1, d2, d3] => { results := [.lit (.bool true)], args := [d1, d2, d3] }
  | _ => none }
def modsRoomRow : OpenClaim := { program := "ytghfohglnbenaaadoor", sum := "a38533a057c059bde3ea0c2e0b4d711f4d103b597e37a574cbeb1bc41793678b", func := "podesta/podestalaw07.ModsRoom", spec := "modsRoom", inPlace := ["slices.overlaps[int]"], unfollowed := true, recurses := true, named := ["podesta/head.layouts"], apart := false, laid := [("podesta/head.layouts", laid_podesta_head_layouts)] }
def ModsRoomSaid : Prop := modsRoomRow.holds Tryd.pinned (OpenSpec.ofChange modsRoomSpec)

/-- ITS FALSE NEIGHBOUR: 'it returns false'. Refute it at one input. -/
def modsRoomWrong : ChangeSpec := { name := "modsRoom", fn := fun _ => fun
  | [d1, d2, d3] => { results := [.lit (.bool false)], args := [d1, d2, d3] }
  | _ => none }
def ModsRoomWrongFalsely : Prop := modsRoomRow.holds Tryd.pinned (OpenSpec.ofChange modsRoomWrong)

/-- 'podestalaw07.ModsGone': WHATEVER THE INPUT: true; the input reads as it did. -/
def modsGoneSpec : ChangeSpec := { name := "modsGone", fn := fun _ => fun
  | [d1, d2] => { results := [.lit (.bool true)], args := [d1, d2] }
  | _ => none }
def modsGoneRow : OpenClaim := { program := "ytghfohglnbenaaadoor", sum := "a38533a057c059bde3ea0c2e0b4d711f4d103b597e37a574cbeb1bc41793678b", func := "podesta/podestalaw07.ModsGone", spec := "modsGone", inPlace := ["slices.overlaps[int]"], unfollowed := true, recurses := true, named := ["podesta/head.layouts"], apart := false, laid := [("podesta/head.layouts", laid_podesta_head_layouts)] }
def ModsGoneSaid : Prop := modsGoneRow.holds Tryd.pinned (OpenSpec.ofChange modsGoneSpec)

/-- ITS FALSE NEIGHBOUR: 'it returns false'. Refute it at one input. -/
def modsGoneWrong : ChangeSpec := { name := "modsGone", fn := fun _ => fun
  | [d1, d2] => { results := [.lit (.bool false)], args := [d1, d2] }
  | _ => none }
def ModsGoneWrongFalsely : Prop := modsGoneRow.holds Tryd.pinned (OpenSpec.ofChange modsGoneWrong)

/-- 'podestalaw07.ModsKeeps': WHATEVER THE INPUT: true; the input reads as it did. -/
def modsKeepsSpec : ChangeSpec := { name := "modsKeeps", fn := fun _ => fun
  | [d1, d2] => { results := [.lit (.bool true)], args := [d1, d2] }
  | _ => none }
def modsKeepsRow : OpenClaim := { program := "ytghfohglnbenaaadoor", sum := "a38533a057c059bde3ea0c2e0b4d711f4d103b597e37a574cbeb1bc41793678b", func := "podesta/podestalaw07.ModsKeeps", spec := "modsKeeps", inPlace := ["slices.overlaps[int]"], unfollowed := true, recurses := true, named := ["podesta/head.layouts"], apart := false, laid := [("podesta/head.layouts", laid_podesta_head_layouts)] }
def ModsKeepsSaid : Prop := modsKeepsRow.holds Tryd.pinned (OpenSpec.ofChange modsKeepsSpec)

/-- ITS FALSE NEIGHBOUR: 'it returns false'. Refute it at one input. -/
def modsKeepsWrong : ChangeSpec := { name := "modsKeeps", fn := fun _ => fun
  | [d1, d2] => { results := [.lit (.bool false)], args := [d1, d2] }
  | _ => none }
def ModsKeepsWrongFalsely : Prop := modsKeepsRow.holds Tryd.pinned (OpenSpec.ofChange modsKeepsWrong)

/-- 'podestalaw07.ModsSame': WHATEVER THE INPUT: true; the input reads as it did. -/
def modsSameSpec : ChangeSpec := { name := "modsSame", fn := fun _ => fun
  | [d1, d2, d3] => { results := [.lit (.bool true)], args := [d1, d2, d3] }
  | _ => none }
def modsSameRow : OpenClaim := { program := "ytghfohglnbenaaadoor", sum := "a38533a057c059bde3ea0c2e0b4d711f4d103b597e37a574cbeb1bc41793678b", func := "podesta/podestalaw07.ModsSame", spec := "modsSame", inPlace := ["slices.overlaps[int]"], unfollowed := true, recurses := true, named := ["podesta/head.layouts"], apart := false, laid := [("podesta/head.layouts", laid_podesta_head_layouts)] }
def ModsSameSaid : Prop := modsSameRow.holds Tryd.pinned (OpenSpec.ofChange modsSameSpec)

/-- ITS FALSE NEIGHBOUR: 'it returns false'. Refute it at one input. -/
def modsSameWrong : ChangeSpec := { name := "modsSame", fn := fun _ => fun
  | [d1, d2, d3] => { results := [.lit (.bool false)], args := [d1, d2, d3] }
  | _ => none }
def ModsSameWrongFalsely : Prop := modsSameRow.holds Tryd.pinned (OpenSpec.ofChange modsSameWrong)

/- THE SECOND FORM. 'bulk': how many values and letters a reading holds, each counted each time it is reached (what is shared counts as often as it is met; a slice's spare places count too). A statement '..UptoSaid' is the law's where the arguments, and the package variables that the reading takes, are together of bulk at most 1048576: NARROWER than '..Said'. Prove '..Said' where nothing that the law and all that it calls make is longer than what came in: it says more and counts as full. Else prove '..UptoSaid'. A law counts once. -/
mutual
def uptoBulk {H : Type} : DataW H → Nat
  | .lit (.string bytes) => bytes.length + 1
  | .lit _ => 1
  | .nil => 1
  | .ptr d => uptoBulk d + 1
  | .slice elems spare => uptoBulkAll elems + uptoBulkAll spare + 1
  | .agg parts => uptoBulkAll parts + 1
  | .iface _ d => uptoBulk d + 1
  | .map entries => uptoBulkEntries entries + 1
  | .held _ => 1
def uptoBulkAll {H : Type} : List (DataW H) → Nat
  | [] => 0
  | d :: r => uptoBulk d + uptoBulkAll r
def uptoBulkEntries {H : Type} : List (Lit × DataW H) → Nat
  | [] => 0
  | x :: r => uptoBulkEntry x + uptoBulkEntries r
def uptoBulkEntry {H : Type} : Lit × DataW H → Nat
  | (.string bytes, d) => bytes.length + uptoBulk d + 1
  | (_, d) => uptoBulk d + 1
 end
def uptoSmall : (H : Type) → List (DataW H) → Bool := fun _ ds => decide (uptoBulkAll ds ≤ 1048576)
def OpenSpec.upto (s : _root_.Go.ChangeSpec) : _root_.Go.OpenSpec := { _root_.Go.OpenSpec.ofChange s with cond := some uptoSmall }

/-- 'podestalaw07.ModsApply', WHERE WHAT IT READS IS OF BULK AT MOST 1048576: true; the input reads as it did. -/
def modsApplyUptoRow : OpenClaim := { program := "ytghfohglnbenaaadoor", sum := "a38533a057c059bde3ea0c2e0b4d711f4d103b597e37a574cbeb1bc41793678b", func := "podesta/podestalaw07.ModsApply", spec := "modsApply", inPlace := ["slices.overlaps[int]"], unfollowed := true, recurses := true, named := ["podesta/head.layouts"], apart := false, laid := [("podesta/head.layouts", laid_podesta_head_layouts)], narrowed := true }
def ModsApplyUptoSaid : Prop := modsApplyUptoRow.holds Tryd.pinned (OpenSpec.upto modsApplySpec)

/-- 'podestalaw07.ModsTouch', WHERE WHAT IT READS IS OF BULK AT MOST 1048576: true; the input reads as it did. -/
def modsTouchUptoRow : OpenClaim := { program := "ytghfohglnbenaaadoor", sum := "a38533a057c059bde3ea0c2e0b4d711f4d103b597e37a574cbeb1bc41793678b", func := "podesta/podestalaw07.ModsTouch", spec := "modsTouch", inPlace := ["slices.overlaps[int]"], unfollowed := true, recurses := true, named := ["podesta/head.layouts"], apart := false, laid := [("podesta/head.layouts", laid_podesta_head_layouts)], narrowed := true }
def ModsTouchUptoSaid : Prop := modsTouchUptoRow.holds Tryd.pinned (OpenSpec.upto modsTouchSpec)

/-- 'podestalaw07.ModsOthers', WHERE WHAT IT READS IS OF BULK AT MOST 1048576: true; the input reads as it did. -/
def modsOthersUptoRow : OpenClaim := { program := "ytghfohglnbenaaadoor", sum := "a38533a057c059bde3ea0c2e0b4d711f4d103b597e37a574cbeb1bc41793678b", func := "podesta/podestalaw07.ModsOthers", spec := "modsOthers", inPlace := ["slices.overlaps[int]"], unfollowed := true, recurses := true, named := ["podesta/head.layouts"], apart := false, laid := [("podesta/head.layouts", laid_podesta_head_layouts)], narrowed := true }
def ModsOthersUptoSaid : Prop := modsOthersUptoRow.holds Tryd.pinned (OpenSpec.upto modsOthersSpec)

/-- 'podestalaw07.ModsTwice', WHERE WHAT IT READS IS OF BULK AT MOST 1048576: true; the input reads as it did. -/
def modsTwiceUptoRow : OpenClaim := { program := "ytghfohglnbenaaadoor", sum := "a38533a057c059bde3ea0c2e0b4d711f4d103b597e37a574cbeb1bc41793678b", func := "podesta/podestalaw07.ModsTwice", spec := "modsTwice", inPlace := ["slices.overlaps[int]"], unfollowed := true, recurses := true, named := ["podesta/head.layouts"], apart := false, laid := [("podesta/head.layouts", laid_podesta_head_layouts)], narrowed := true }
def ModsTwiceUptoSaid : Prop := modsTwiceUptoRow.holds Tryd.pinned (OpenSpec.upto modsTwiceSpec)

/-- 'podestalaw07.ModsApart', WHERE WHAT IT READS IS OF BULK AT MOST 1048576: true; the input reads as it did. -/
def modsApartUptoRow : OpenClaim := { program := "ytghfohglnbenaaadoor", sum := "a38533a057c059bde3ea0c2e0b4d711f4d103b597e37a574cbeb1bc41793678b", func := "podesta/podestalaw07.ModsApart", spec := "modsApart", inPlace := ["slices.overlaps[int]"], unfollowed := true, recurses := true, named := ["podesta/head.layouts"], apart := false, laid := [("podesta/head.layouts", laid_podesta_head_layouts)], narrowed := true }
def ModsApartUptoSaid : Prop := modsApartUptoRow.holds Tryd.pinned (OpenSpec.upto modsApartSpec)

/-- 'podestalaw07.ModsRoom', WHERE WHAT IT READS IS OF BULK AT MOST 1048576: true; the input reads as it did. -/
def modsRoomUptoRow : OpenClaim := { program := "ytghfohglnbenaaadoor", sum := "a38533a057c059bde3ea0c2e0b4d711f4d103b597e37a574cbeb1bc41793678b", func := "podesta/podestalaw07.ModsRoom", spec := "modsRoom", inPlace := ["slices.overlaps[int]"], unfollowed := true, recurses := true, named := ["podesta/head.layouts"], apart := false, laid := [("podesta/head.layouts", laid_podesta_head_layouts)], narrowed := true }
def ModsRoomUptoSaid : Prop := modsRoomUptoRow.holds Tryd.pinned (OpenSpec.upto modsRoomSpec)

/-- 'podestalaw07.ModsGone', WHERE WHAT IT READS IS OF BULK AT MOST 1048576: true; the input reads as it did. -/
def modsGoneUptoRow : OpenClaim := { program := "ytghfohglnbenaaadoor", sum := "a38533a057c059bde3ea0c2e0b4d711f4d103b597e37a574cbeb1bc41793678b", func := "podesta/podestalaw07.ModsGone", spec := "modsGone", inPlace := ["slices.overlaps[int]"], unfollowed := true, recurses := true, named := ["podesta/head.layouts"], apart := false, laid := [("podesta/head.layouts", laid_podesta_head_layouts)], narrowed := true }
def ModsGoneUptoSaid : Prop := modsGoneUptoRow.holds Tryd.pinned (OpenSpec.upto modsGoneSpec)

/-- 'podestalaw07.ModsKeeps', WHERE WHAT IT READS IS OF BULK AT MOST 1048576: true; the input reads as it did. -/
def modsKeepsUptoRow : OpenClaim := { program := "ytghfohglnbenaaadoor", sum := "a38533a057c059bde3ea0c2e0b4d711f4d103b597e37a574cbeb1bc41793678b", func := "podesta/podestalaw07.ModsKeeps", spec := "modsKeeps", inPlace := ["slices.overlaps[int]"], unfollowed := true, recurses := true, named := ["podesta/head.layouts"], apart := false, laid := [("podesta/head.layouts", laid_podesta_head_layouts)], narrowed := true }
def ModsKeepsUptoSaid : Prop := modsKeepsUptoRow.holds Tryd.pinned (OpenSpec.upto modsKeepsSpec)

/-- 'podestalaw07.ModsSame', WHERE WHAT IT READS IS OF BULK AT MOST 1048576: true; the input reads as it did. -/
def modsSameUptoRow : OpenClaim := { program := "ytghfohglnbenaaadoor", sum := "a38533a057c059bde3ea0c2e0b4d711f4d103b597e37a574cbeb1bc41793678b", func := "podesta/podestalaw07.ModsSame", spec := "modsSame", inPlace := ["slices.overlaps[int]"], unfollowed := true, recurses := true, named := ["podesta/head.layouts"], apart := false, laid := [("podesta/head.layouts", laid_podesta_head_layouts)], narrowed := true }
def ModsSameUptoSaid : Prop := modsSameUptoRow.holds Tryd.pinned (OpenSpec.upto modsSameSpec)

end Rows
end Go.Proofs.YtghfohglnbenaaaDoor
