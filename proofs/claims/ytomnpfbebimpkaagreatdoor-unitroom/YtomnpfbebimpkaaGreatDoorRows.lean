/-
  NARROWER THAN 'FOR EVERY INPUT', by the rows' own cells (each row's printed sentence says how): UnitPlays: laid · UnitUndone: laid · UnitRoom: laid · UnitNone: laid · UnitCommits: laid · UnitTwo: laid · UnitAsks: laid.
  DERIVED. THE GIVEN ROWS OF THIS SEAT. 7 by the template 'for every input the law returns true; each argument reads behind the call as it read before'; 0 by the template 'total and deterministic' (their statements: YtomnpfbebimpkaaGreatDoorTotals.lean).
  GIVEN WITH THE SEED: the statements are not yours to turn. If you find one false, say at which input.
  Laid BY PROGRAM, IN A SANDBOX (cutbox-rows.mjs): the forced cells as the released guide's own fill.sh prints them over the translation 42bcc4024de15d26… (all of the seat's roots in one cut). By AI agents, Wed Nov 11 2026. No macro, syntax, notation, axiom, sorry.
-/
import Derived.Test.YtomnpfbebimpkaaGreatDoorChecked
import GoSem.Claim
import GoSem.ClaimJoined
import GoSem.ClaimMapViews
import Derived.JoinedTies
import Derived.KernelRfl
namespace Go.Proofs.YtomnpfbebimpkaaGreatDoor
/- THE CELL 'sum', in the pinned program and in every row, IS THE sha256 OF THE DUMP (.gsa) THAT YtomnpfbebimpkaaGreatDoorProg.lean LOADS. Nothing in Lean hashes anything: it is a label: what it is worth is what the hold of that sum in a sandbox is worth. -/
noncomputable def Tryz.pinned : Pinned := { name := "ytomnpfbebimpkaagreatdoor", sum := "42bcc4024de15d26caeb2a3c16e1e870a9da4a14888291d82df10874ccb85cfb", checked := Tryz.checked }
namespace Rows
def none {H : Type} : Left H := { results := [], args := [] }

/- WHAT THE LISTED PACKAGE-LEVEL VARIABLES READ AS WHEN THE CALL BEGINS. Each datum BY PROGRAM (the guide's laid-datum.mjs) off the statement by which the dump's own 'gosem.cut.vars' lays the variable. In a bare row this is a premise. The card (YtomnpfbebimpkaaGreatDoorCards.lean) ties it to the program's text. -/
def laid_podesta_head_layouts {H : Type} : DataW H := .agg [.agg [.lit (.string [105, 110]), .lit (.int .i64 16)], .agg [.lit (.string [101, 115, 114, 99]), .lit (.int .i64 48)], .agg [.lit (.string [101, 100, 115, 116]), .lit (.int .i64 48)], .agg [.lit (.string [101, 116, 121, 112, 101]), .lit (.int .i64 16)], .agg [.lit (.string [118, 108, 97, 110]), .lit (.int .i64 12)], .agg [.lit (.string [112, 99, 112]), .lit (.int .i64 4)], .agg [.lit (.string [115, 114, 99]), .lit (.int .i64 32)], .agg [.lit (.string [100, 115, 116]), .lit (.int .i64 32)], .agg [.lit (.string [112, 114, 111, 116, 111]), .lit (.int .i64 8)], .agg [.lit (.string [116, 111, 115]), .lit (.int .i64 8)], .agg [.lit (.string [115, 112, 111, 114, 116]), .lit (.int .i64 12)], .agg [.lit (.string [100, 112, 111, 114, 116]), .lit (.int .i64 12)]]

/-- 'podestalaw13.UnitPlays': WHATEVER THE INPUT: true; the input reads as it did. -/
def unitPlaysSpec : ChangeSpec := { name := "unitPlays", fn := fun _ => fun
  | [d1, d2] => { results := [.lit (.bool true)], args := [d1, d2] }
  | _ => none }
def unitPlaysRow : OpenClaim := { program := "ytomnpfbebimpkaagreatdoor", sum := "42bcc4024de15d26caeb2a3c16e1e870a9da4a14888291d82df10874ccb85cfb", func := "podesta/podestalaw13.UnitPlays", spec := "unitPlays", inPlace := ["slices.overlaps[int]"], unfollowed := true, recurses := true, named := ["podesta/head.layouts"], plainKeys := false, apart := false, laid := [("podesta/head.layouts", laid_podesta_head_layouts)] }
def UnitPlaysSaid : Prop := unitPlaysRow.holds Tryz.pinned (OpenSpec.ofChange unitPlaysSpec)

/-- ITS FALSE NEIGHBOUR: 'it returns false'. Refute it at one input. -/
def unitPlaysWrong : ChangeSpec := { name := "unitPlays", fn := fun _ => fun
  | [d1, d2] => { results := [.lit (.bool false)], args := [d1, d2] }
  | _ => none }
def UnitPlaysWrongFalsely : Prop := unitPlaysRow.holds Tryz.pinned (OpenSpec.ofChange unitPlaysWrong)

/-- 'podestalaw13.UnitUndone': WHATEVER THE INPUT: true; the input reads as it did. -/
def unitUndoneSpec : ChangeSpec := { name := "unitUndone", fn := fun _ => fun
  | [d1, d2, d3] => { results := [.lit (.bool true)], args := [d1, d2, d3] }
  | _ => none }
def unitUndoneRow : OpenClaim := { program := "ytomnpfbebimpkaagreatdoor", sum := "42bcc4024de15d26caeb2a3c16e1e870a9da4a14888291d82df10874ccb85cfb", func := "podesta/podestalaw13.UnitUndone", spec := "unitUndone", inPlace := ["slices.overlaps[int]"], unfollowed := true, recurses := true, named := ["podesta/head.layouts"], plainKeys := false, apart := false, laid := [("podesta/head.layouts", laid_podesta_head_layouts)] }
def UnitUndoneSaid : Prop := unitUndoneRow.holds Tryz.pinned (OpenSpec.ofChange unitUndoneSpec)

/-- ITS FALSE NEIGHBOUR: 'it returns false'. Refute it at one input. -/
def unitUndoneWrong : ChangeSpec := { name := "unitUndone", fn := fun _ => fun
  | [d1, d2, d3] => { results := [.lit (.bool false)], args := [d1, d2, d3] }
  | _ => none }
def UnitUndoneWrongFalsely : Prop := unitUndoneRow.holds Tryz.pinned (OpenSpec.ofChange unitUndoneWrong)

/-- 'podestalaw13.UnitRoom': WHATEVER THE INPUT: true; the input reads as it did. -/
def unitRoomSpec : ChangeSpec := { name := "unitRoom", fn := fun _ => fun
  | [d1, d2] => { results := [.lit (.bool true)], args := [d1, d2] }
  | _ => none }
def unitRoomRow : OpenClaim := { program := "ytomnpfbebimpkaagreatdoor", sum := "42bcc4024de15d26caeb2a3c16e1e870a9da4a14888291d82df10874ccb85cfb", func := "podesta/podestalaw13.UnitRoom", spec := "unitRoom", inPlace := ["slices.overlaps[int]"], unfollowed := true, recurses := true, named := ["podesta/head.layouts"], plainKeys := false, apart := false, laid := [("podesta/head.layouts", laid_podesta_head_layouts)] }
def UnitRoomSaid : Prop := unitRoomRow.holds Tryz.pinned (OpenSpec.ofChange unitRoomSpec)

/-- ITS FALSE NEIGHBOUR: 'it returns false'. Refute it at one input. -/
def unitRoomWrong : ChangeSpec := { name := "unitRoom", fn := fun _ => fun
  | [d1, d2] => { results := [.lit (.bool false)], args := [d1, d2] }
  | _ => none }
def UnitRoomWrongFalsely : Prop := unitRoomRow.holds Tryz.pinned (OpenSpec.ofChange unitRoomWrong)

/-- 'podestalaw13.UnitNone': WHATEVER THE INPUT: true; the input reads as it did. -/
def unitNoneSpec : ChangeSpec := { name := "unitNone", fn := fun _ => fun
  | [d1, d2, d3] => { results := [.lit (.bool true)], args := [d1, d2, d3] }
  | _ => none }
def unitNoneRow : OpenClaim := { program := "ytomnpfbebimpkaagreatdoor", sum := "42bcc4024de15d26caeb2a3c16e1e870a9da4a14888291d82df10874ccb85cfb", func := "podesta/podestalaw13.UnitNone", spec := "unitNone", inPlace := ["slices.overlaps[int]"], unfollowed := true, recurses := true, named := ["podesta/head.layouts"], plainKeys := false, apart := false, laid := [("podesta/head.layouts", laid_podesta_head_layouts)] }
def UnitNoneSaid : Prop := unitNoneRow.holds Tryz.pinned (OpenSpec.ofChange unitNoneSpec)

/-- ITS FALSE NEIGHBOUR: 'it returns false'. Refute it at one input. -/
def unitNoneWrong : ChangeSpec := { name := "unitNone", fn := fun _ => fun
  | [d1, d2, d3] => { results := [.lit (.bool false)], args := [d1, d2, d3] }
  | _ => none }
def UnitNoneWrongFalsely : Prop := unitNoneRow.holds Tryz.pinned (OpenSpec.ofChange unitNoneWrong)

/-- 'podestalaw13.UnitCommits': WHATEVER THE INPUT: true; the input reads as it did. -/
def unitCommitsSpec : ChangeSpec := { name := "unitCommits", fn := fun _ => fun
  | [d1, d2] => { results := [.lit (.bool true)], args := [d1, d2] }
  | _ => none }
def unitCommitsRow : OpenClaim := { program := "ytomnpfbebimpkaagreatdoor", sum := "42bcc4024de15d26caeb2a3c16e1e870a9da4a14888291d82df10874ccb85cfb", func := "podesta/podestalaw13.UnitCommits", spec := "unitCommits", inPlace := ["slices.overlaps[int]"], unfollowed := true, recurses := true, named := ["podesta/head.layouts"], plainKeys := false, apart := false, laid := [("podesta/head.layouts", laid_podesta_head_layouts)] }
def UnitCommitsSaid : Prop := unitCommitsRow.holds Tryz.pinned (OpenSpec.ofChange unitCommitsSpec)

/-- ITS FALSE NEIGHBOUR: 'it returns false'. Refute it at one input. -/
def unitCommitsWrong : ChangeSpec := { name := "unitCommits", fn := fun _ => fun
  | [d1, d2] => { results := [.lit (.bool false)], args := [d1, d2] }
  | _ => none }
def UnitCommitsWrongFalsely : Prop := unitCommitsRow.holds Tryz.pinned (OpenSpec.ofChange unitCommitsWrong)

/-- 'podestalaw13.UnitTwo': WHATEVER THE INPUT: true; the input reads as it did. -/
def unitTwoSpec : ChangeSpec := { name := "unitTwo", fn := fun _ => fun
  | [d1, d2, d3, d4] => { results := [.lit (.bool true)], args := [d1, d2, d3, d4] }
  | _ => none }
def unitTwoRow : OpenClaim := { program := "ytomnpfbebimpkaagreatdoor", sum := "42bcc4024de15d26caeb2a3c16e1e870a9da4a14888291d82df10874ccb85cfb", func := "podesta/podestalaw13.UnitTwo", spec := "unitTwo", inPlace := ["slices.overlaps[int]"], unfollowed := true, recurses := true, named := ["podesta/head.layouts"], plainKeys := false, apart := false, laid := [("podesta/head.layouts", laid_podesta_head_layouts)] }
def UnitTwoSaid : Prop := unitTwoRow.holds Tryz.pinned (OpenSpec.ofChange unitTwoSpec)

/-- ITS FALSE NEIGHBOUR: 'it returns false'. Refute it at one input. -/
def unitTwoWrong : ChangeSpec := { name := "unitTwo", fn := fun _ => fun
  | [d1, d2, d3, d4] => { results := [.lit (.bool false)], args := [d1, d2, d3, d4] }
  | _ => none }
def UnitTwoWrongFalsely : Prop := unitTwoRow.holds Tryz.pinned (OpenSpec.ofChange unitTwoWrong)

/-- 'podestalaw13.UnitAsks': WHATEVER THE INPUT: true; the input reads as it did. -/
def unitAsksSpec : ChangeSpec := { name := "unitAsks", fn := fun _ => fun
  | [d1, d2] => { results := [.lit (.bool true)], args := [d1, d2] }
  | _ => none }
def unitAsksRow : OpenClaim := { program := "ytomnpfbebimpkaagreatdoor", sum := "42bcc4024de15d26caeb2a3c16e1e870a9da4a14888291d82df10874ccb85cfb", func := "podesta/podestalaw13.UnitAsks", spec := "unitAsks", inPlace := ["slices.overlaps[int]"], unfollowed := true, recurses := true, named := ["podesta/head.layouts"], plainKeys := false, apart := false, laid := [("podesta/head.layouts", laid_podesta_head_layouts)] }
def UnitAsksSaid : Prop := unitAsksRow.holds Tryz.pinned (OpenSpec.ofChange unitAsksSpec)

/-- ITS FALSE NEIGHBOUR: 'it returns false'. Refute it at one input. -/
def unitAsksWrong : ChangeSpec := { name := "unitAsks", fn := fun _ => fun
  | [d1, d2] => { results := [.lit (.bool false)], args := [d1, d2] }
  | _ => none }
def UnitAsksWrongFalsely : Prop := unitAsksRow.holds Tryz.pinned (OpenSpec.ofChange unitAsksWrong)

/- THE SECOND FORM. 'bulk': how many values and letters a reading holds, each counted each time it is reached (what is shared counts as often as it is met; a slice's spare places count too). A statement '..UptoSaid' is the law's where the arguments, and the package variables that the reading takes, are together of bulk at most 1048576: NARROWER than '..Said'. Prove '..Said' where nothing that the law and all that it calls make is longer than what came in: it says more and counts as full. Else prove '..UptoSaid'. A law counts once. -/
mutual
def uptoBulk {H : Type} : DataW H → Nat
  | .lit (.string bytes) => bytes.length + 1
  | .lit _ => 1
  | .nil => 1
  | .ptr d => uptoBulk d + 1
  | .slice elems spare => uptoBulkAll elems + uptoBulkAll spare + 1
  | .agg parts => uptoBulkAll parts + 1
  | .iface _ d => uptoBulk d + 1
  | .map entries => uptoBulkEntries entries + 1
  | .held _ => 1
def uptoBulkAll {H : Type} : List (DataW H) → Nat
  | [] => 0
  | d :: r => uptoBulk d + uptoBulkAll r
def uptoBulkEntries {H : Type} : List (Lit × DataW H) → Nat
  | [] => 0
  | x :: r => uptoBulkEntry x + uptoBulkEntries r
def uptoBulkEntry {H : Type} : Lit × DataW H → Nat
  | (.string bytes, d) => bytes.length + uptoBulk d + 1
  | (_, d) => uptoBulk d + 1
 end
def uptoSmall : (H : Type) → List (DataW H) → Bool := fun _ ds => decide (uptoBulkAll ds ≤ 1048576)
def OpenSpec.upto (s : _root_.Go.ChangeSpec) : _root_.Go.OpenSpec := { _root_.Go.OpenSpec.ofChange s with cond := some uptoSmall }

/-- 'podestalaw13.UnitPlays', WHERE WHAT IT READS IS OF BULK AT MOST 1048576: true; the input reads as it did. -/
def unitPlaysUptoRow : OpenClaim := { program := "ytomnpfbebimpkaagreatdoor", sum := "42bcc4024de15d26caeb2a3c16e1e870a9da4a14888291d82df10874ccb85cfb", func := "podesta/podestalaw13.UnitPlays", spec := "unitPlays", inPlace := ["slices.overlaps[int]"], unfollowed := true, recurses := true, named := ["podesta/head.layouts"], plainKeys := false, apart := false, laid := [("podesta/head.layouts", laid_podesta_head_layouts)], narrowed := true }
def UnitPlaysUptoSaid : Prop := unitPlaysUptoRow.holds Tryz.pinned (OpenSpec.upto unitPlaysSpec)

/-- 'podestalaw13.UnitUndone', WHERE WHAT IT READS IS OF BULK AT MOST 1048576: true; the input reads as it did. -/
def unitUndoneUptoRow : OpenClaim := { program := "ytomnpfbebimpkaagreatdoor", sum := "42bcc4024de15d26caeb2a3c16e1e870a9da4a14888291d82df10874ccb85cfb", func := "podesta/podestalaw13.UnitUndone", spec := "unitUndone", inPlace := ["slices.overlaps[int]"], unfollowed := true, recurses := true, named := ["podesta/head.layouts"], plainKeys := false, apart := false, laid := [("podesta/head.layouts", laid_podesta_head_layouts)], narrowed := true }
def UnitUndoneUptoSaid : Prop := unitUndoneUptoRow.holds Tryz.pinned (OpenSpec.upto unitUndoneSpec)

/-- 'podestalaw13.UnitRoom', WHERE WHAT IT READS IS OF BULK AT MOST 1048576: true; the input reads as it did. -/
def unitRoomUptoRow : OpenClaim := { program := "ytomnpfbebimpkaagreatdoor", sum := "42bcc4024de15d26caeb2a3c16e1e870a9da4a14888291d82df10874ccb85cfb", func := "podesta/podestalaw13.UnitRoom", spec := "unitRoom", inPlace := ["slices.overlaps[int]"], unfollowed := true, recurses := true, named := ["podesta/head.layouts"], plainKeys := false, apart := false, laid := [("podesta/head.layouts", laid_podesta_head_layouts)], narrowed := true }
def UnitRoomUptoSaid : Prop := unitRoomUptoRow.holds Tryz.pinned (OpenSpec.upto unitRoomSpec)

/-- 'podestalaw13.UnitNone', WHERE WHAT IT READS IS OF BULK AT MOST 1048576: true; the input reads as it did. -/
def unitNoneUptoRow : OpenClaim := { program := "ytomnpfbebimpkaagreatdoor", sum := "42bcc4024de15d26caeb2a3c16e1e870a9da4a14888291d82df10874ccb85cfb", func := "podesta/podestalaw13.UnitNone", spec := "unitNone", inPlace := ["slices.overlaps[int]"], unfollowed := true, recurses := true, named := ["podesta/head.layouts"], plainKeys := false, apart := false, laid := [("podesta/head.layouts", laid_podesta_head_layouts)], narrowed := true }
def UnitNoneUptoSaid : Prop := unitNoneUptoRow.holds Tryz.pinned (OpenSpec.upto unitNoneSpec)

/-- 'podestalaw13.UnitCommits', WHERE WHAT IT READS IS OF BULK AT MOST 1048576: true; the input reads as it did. -/
def unitCommitsUptoRow : OpenClaim := { program := "ytomnpfbebimpkaagreatdoor", sum := "42bcc4024de15d26caeb2a3c16e1e870a9da4a14888291d82df10874ccb85cfb", func := "podesta/podestalaw13.UnitCommits", spec := "unitCommits", inPlace := ["slices.overlaps[int]"], unfollowed := true, recurses := true, named := ["podesta/head.layouts"], plainKeys := false, apart := false, laid := [("podesta/head.layouts", laid_podesta_head_layouts)], narrowed := true }
def UnitCommitsUptoSaid : Prop := unitCommitsUptoRow.holds Tryz.pinned (OpenSpec.upto unitCommitsSpec)

/-- 'podestalaw13.UnitTwo', WHERE WHAT IT READS IS OF BULK AT MOST 1048576: true; the input reads as it did. -/
def unitTwoUptoRow : OpenClaim := { program := "ytomnpfbebimpkaagreatdoor", sum := "42bcc4024de15d26caeb2a3c16e1e870a9da4a14888291d82df10874ccb85cfb", func := "podesta/podestalaw13.UnitTwo", spec := "unitTwo", inPlace := ["slices.overlaps[int]"], unfollowed := true, recurses := true, named := ["podesta/head.layouts"], plainKeys := false, apart := false, laid := [("podesta/head.layouts", laid_podesta_head_layouts)], narrowed := true }
def UnitTwoUptoSaid : Prop := unitTwoUptoRow.holds Tryz.pinned (OpenSpec.upto unitTwoSpec)

/-- 'podestalaw13.UnitAsks', WHERE WHAT IT READS IS OF BULK AT MOST 1048576: true; the input reads as it did. -/
def unitAsksUptoRow : OpenClaim := { program := "ytomnpfbebimpkaagreatdoor", sum := "42bcc4024de15d26caeb2a3c16e1e870a9da4a14888291d82df10874ccb85cfb", func := "podesta/podestalaw13.UnitAsks", spec := "unitAsks", inPlace := ["slices.overlaps[int]"], unfollowed := true, recurses := true, named := ["podesta/head.layouts"], plainKeys := false, apart := false, laid := [("podesta/head.layouts", laid_podesta_head_layouts)], narrowed := true }
def UnitAsksUptoSaid : Prop := unitAsksUptoRow.holds Tryz.pinned (OpenSpec.upto unitAsksSpec)

end Rows
end Go.Proofs.YtomnpfbebimpkaaGreatDoor
