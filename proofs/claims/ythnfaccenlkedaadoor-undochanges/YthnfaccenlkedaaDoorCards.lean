/-
  DERIVED. GIVEN WITH THE SEED: THE CARDS: each row of YthnfaccenlkedaaDoorRows.lean that lists a variable, with what it lists TIED to the program's text (the seventh form; the later family's looks); each row that meets fmt, with fmt's text TOLD by the authors' own Lean function (tested against real Go, not proved from fmt's source: count such statements apart). THE CARD IS WHAT COUNTS. Prove the row's statement (the work); the ties are given (YthnfaccenlkedaaDoorTie.lean); close each card by the builder's one call (the guide's Derived/Test/ToyasCard.lean, 'card_holds'). Laid BY PROGRAM, IN A SANDBOX (cutbox-door.mjs). By AI agents, Wed Nov 11 2026. No macro, syntax, notation, axiom, sorry.
-/
import Derived.Test.YthnfaccenlkedaaDoorRows
import GoSem.ClaimSeven
namespace Go.Proofs.YthnfaccenlkedaaDoor
namespace Rows

/-- THE TIED CARD OF 'podestalaw08.UndoDiffs'. -/
def undoDiffsCard : Claim7 := { stood := { row := undoDiffsRow, standIns := [], harness := (true, "e3391fc6f8e73a6abed8c34909d267b7f2cffb97995d9d18152285ce28fd88e2"), looks := false }, kinds := [], alts := [], laidByText := true, laidKinds := [.data], laidTests := true, laidLooks := .later }
def UndoDiffsCardSaid : Prop := Claim7.holds Tryd.pinned (.plain (OpenSpec.ofChange undoDiffsSpec)) undoDiffsCard

/-- THE TIED CARD OF 'podestalaw08.UndoAny'. -/
def undoAnyCard : Claim7 := { stood := { row := undoAnyRow, standIns := [], harness := (true, "e3391fc6f8e73a6abed8c34909d267b7f2cffb97995d9d18152285ce28fd88e2"), looks := false }, kinds := [], alts := [], laidByText := true, laidKinds := [.data], laidTests := true, laidLooks := .later }
def UndoAnyCardSaid : Prop := Claim7.holds Tryd.pinned (.plain (OpenSpec.ofChange undoAnySpec)) undoAnyCard

/-- THE TIED CARD OF 'podestalaw08.UndoChanges'. -/
def undoChangesCard : Claim7 := { stood := { row := undoChangesRow, standIns := [], harness := (true, "e3391fc6f8e73a6abed8c34909d267b7f2cffb97995d9d18152285ce28fd88e2"), looks := false }, kinds := [], alts := [], laidByText := true, laidKinds := [.data], laidTests := true, laidLooks := .later }
def UndoChangesCardSaid : Prop := Claim7.holds Tryd.pinned (.plain (OpenSpec.ofChange undoChangesSpec)) undoChangesCard

/-- THE TIED CARD OF 'podestalaw08.UndoStill'. -/
def undoStillCard : Claim7 := { stood := { row := undoStillRow, standIns := [], harness := (true, "e3391fc6f8e73a6abed8c34909d267b7f2cffb97995d9d18152285ce28fd88e2"), looks := false }, kinds := [], alts := [], laidByText := true, laidKinds := [.data], laidTests := true, laidLooks := .later }
def UndoStillCardSaid : Prop := Claim7.holds Tryd.pinned (.plain (OpenSpec.ofChange undoStillSpec)) undoStillCard

/-- THE TIED CARD OF 'podestalaw08.UndoTwice'. -/
def undoTwiceCard : Claim7 := { stood := { row := undoTwiceRow, standIns := [], harness := (true, "e3391fc6f8e73a6abed8c34909d267b7f2cffb97995d9d18152285ce28fd88e2"), looks := false }, kinds := [], alts := [], laidByText := true, laidKinds := [.data], laidTests := true, laidLooks := .later }
def UndoTwiceCardSaid : Prop := Claim7.holds Tryd.pinned (.plain (OpenSpec.ofChange undoTwiceSpec)) undoTwiceCard

/-- THE SECOND FORM's CARD OF 'podestalaw08.UndoDiffs'. -/
def undoDiffsUptoCard : Claim7 := { stood := { row := undoDiffsUptoRow, standIns := [], harness := (true, "e3391fc6f8e73a6abed8c34909d267b7f2cffb97995d9d18152285ce28fd88e2"), looks := false }, kinds := [], alts := [], laidByText := true, laidKinds := [.data], laidTests := true, laidLooks := .later }
def UndoDiffsUptoCardSaid : Prop := Claim7.holds Tryd.pinned (.plain (OpenSpec.upto undoDiffsSpec)) undoDiffsUptoCard

/-- THE SECOND FORM's CARD OF 'podestalaw08.UndoAny'. -/
def undoAnyUptoCard : Claim7 := { stood := { row := undoAnyUptoRow, standIns := [], harness := (true, "e3391fc6f8e73a6abed8c34909d267b7f2cffb97995d9d18152285ce28fd88e2"), looks := false }, kinds := [], alts := [], laidByText := true, laidKinds := [.data], laidTests := true, laidLooks := .later }
def UndoAnyUptoCardSaid : Prop := Claim7.holds Tryd.pinned (.plain (OpenSpec.upto undoAnySpec)) undoAnyUptoCard

/-- THE SECOND FORM's CARD OF 'podestalaw08.UndoChanges'. -/
def undoChangesUptoCard : Claim7 := { stood := { row := undoChangesUptoRow, standIns := [], harness := (true, "e3391fc6f8e73a6abed8c34909d267b7f2cffb97995d9d18152285ce28fd88e2"), looks := false }, kinds := [], alts := [], laidByText := true, laidKinds := [.data], laidTests := true, laidLooks := .later }
def UndoChangesUptoCardSaid : Prop := Claim7.holds Tryd.pinned (.plain (OpenSpec.upto undoChangesSpec)) undoChangesUptoCard

/-- THE SECOND FORM's CARD OF 'podestalaw08.UndoStill'. -/
def undoStillUptoCard : Claim7 := { stood := { row := undoStillUptoRow, standIns := [], harness := (true, "e3391fc6f8e73a6abed8c34909d267b7f2cffb97995d9d18152285ce28fd88e2"), looks := false }, kinds := [], alts := [], laidByText := true, laidKinds := [.data], laidTests := true, laidLooks := .later }
def UndoStillUptoCardSaid : Prop := Claim7.holds Tryd.pinned (.plain (OpenSpec.upto undoStillSpec)) undoStillUptoCard

/-- THE SECOND FORM's CARD OF 'podestalaw08.UndoTwice'. -/
def undoTwiceUptoCard : Claim7 := { stood := { row := undoTwiceUptoRow, standIns := [], harness := (true, "e3391fc6f8e73a6abed8c34909d267b7f2cffb97995d9d18152285ce28fd88e2"), looks := false }, kinds := [], alts := [], laidByText := true, laidKinds := [.data], laidTests := true, laidLooks := .later }
def UndoTwiceUptoCardSaid : Prop := Claim7.holds Tryd.pinned (.plain (OpenSpec.upto undoTwiceSpec)) undoTwiceUptoCard
end Rows
end Go.Proofs.YthnfaccenlkedaaDoor
