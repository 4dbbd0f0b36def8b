/-
  DERIVED. GIVEN WITH THE SEED: THE CARDS: each row of YtomnpfbebimpkaaGreatDoorRows.lean that lists a variable, with what it lists TIED to the program's text (the seventh form; the later family's looks); each row that meets fmt, with fmt's text TOLD by the authors' own Lean function (tested against real Go, not proved from fmt's source: count such statements apart). THE CARD IS WHAT COUNTS. Prove the row's statement (the work); the ties are given (YtomnpfbebimpkaaGreatDoorTie.lean); close each card by the builder's one call (the guide's Derived/Test/ToyasCard.lean, 'card_holds'). Laid BY PROGRAM, IN A SANDBOX (cutbox-door.mjs). By AI agents, Wed Nov 11 2026. No macro, syntax, notation, axiom, sorry.
-/
import Derived.Test.YtomnpfbebimpkaaGreatDoorRows
import GoSem.ClaimSeven
namespace Go.Proofs.YtomnpfbebimpkaaGreatDoor
namespace Rows

/-- THE TIED CARD OF 'podestalaw13.UnitPlays'. -/
def unitPlaysCard : Claim7 := { stood := { row := unitPlaysRow, standIns := [], harness := (true, "64439353b86c41f49a7bb0cd2b525650c1dcdc9a22570a167de0a0df053f8065"), looks := false }, kinds := [], alts := [], laidByText := true, laidKinds := [.data], laidTests := true, laidLooks := .later }
def UnitPlaysCardSaid : Prop := Claim7.holds Tryz.pinned (.plain (OpenSpec.ofChange unitPlaysSpec)) unitPlaysCard

/-- THE TIED CARD OF 'podestalaw13.UnitUndone'. -/
def unitUndoneCard : Claim7 := { stood := { row := unitUndoneRow, standIns := [], harness := (true, "64439353b86c41f49a7bb0cd2b525650c1dcdc9a22570a167de0a0df053f8065"), looks := false }, kinds := [], alts := [], laidByText := true, laidKinds := [.data], laidTests := true, laidLooks := .later }
def UnitUndoneCardSaid : Prop := Claim7.holds Tryz.pinned (.plain (OpenSpec.ofChange unitUndoneSpec)) unitUndoneCard

/-- THE TIED CARD OF 'podestalaw13.UnitRoom'. -/
def unitRoomCard : Claim7 := { stood := { row := unitRoomRow, standIns := [], harness := (true, "64439353b86c41f49a7bb0cd2b525650c1dcdc9a22570a167de0a0df053f8065"), looks := false }, kinds := [], alts := [], laidByText := true, laidKinds := [.data], laidTests := true, laidLooks := .later }
def UnitRoomCardSaid : Prop := Claim7.holds Tryz.pinned (.plain (OpenSpec.ofChange unitRoomSpec)) unitRoomCard

/-- THE TIED CARD OF 'podestalaw13.UnitNone'. -/
def unitNoneCard : Claim7 := { stood := { row := unitNoneRow, standIns := [], harness := (true, "64439353b86c41f49a7bb0cd2b525650c1dcdc9a22570a167de0a0df053f8065"), looks := false }, kinds := [], alts := [], laidByText := true, laidKinds := [.data], laidTests := true, laidLooks := .later }
def UnitNoneCardSaid : Prop := Claim7.holds Tryz.pinned (.plain (OpenSpec.ofChange unitNoneSpec)) unitNoneCard

/-- THE TIED CARD OF 'podestalaw13.UnitCommits'. -/
def unitCommitsCard : Claim7 := { stood := { row := unitCommitsRow, standIns := [], harness := (true, "64439353b86c41f49a7bb0cd2b525650c1dcdc9a22570a167de0a0df053f8065"), looks := false }, kinds := [], alts := [], laidByText := true, laidKinds := [.data], laidTests := true, laidLooks := .later }
def UnitCommitsCardSaid : Prop := Claim7.holds Tryz.pinned (.plain (OpenSpec.ofChange unitCommitsSpec)) unitCommitsCard

/-- THE TIED CARD OF 'podestalaw13.UnitTwo'. -/
def unitTwoCard : Claim7 := { stood := { row := unitTwoRow, standIns := [], harness := (true, "64439353b86c41f49a7bb0cd2b525650c1dcdc9a22570a167de0a0df053f8065"), looks := false }, kinds := [], alts := [], laidByText := true, laidKinds := [.data], laidTests := true, laidLooks := .later }
def UnitTwoCardSaid : Prop := Claim7.holds Tryz.pinned (.plain (OpenSpec.ofChange unitTwoSpec)) unitTwoCard

/-- THE TIED CARD OF 'podestalaw13.UnitAsks'. -/
def unitAsksCard : Claim7 := { stood := { row := unitAsksRow, standIns := [], harness := (true, "64439353b86c41f49a7bb0cd2b525650c1dcdc9a22570a167de0a0df053f8065"), looks := false }, kinds := [], alts := [], laidByText := true, laidKinds := [.data], laidTests := true, laidLooks := .later }
def UnitAsksCardSaid : Prop := Claim7.holds Tryz.pinned (.plain (OpenSpec.ofChange unitAsksSpec)) unitAsksCard

/-- THE SECOND FORM's CARD OF 'podestalaw13.UnitPlays'. -/
def unitPlaysUptoCard : Claim7 := { stood := { row := unitPlaysUptoRow, standIns := [], harness := (true, "64439353b86c41f49a7bb0cd2b525650c1dcdc9a22570a167de0a0df053f8065"), looks := false }, kinds := [], alts := [], laidByText := true, laidKinds := [.data], laidTests := true, laidLooks := .later }
def UnitPlaysUptoCardSaid : Prop := Claim7.holds Tryz.pinned (.plain (OpenSpec.upto unitPlaysSpec)) unitPlaysUptoCard

/-- THE SECOND FORM's CARD OF 'podestalaw13.UnitUndone'. -/
def unitUndoneUptoCard : Claim7 := { stood := { row := unitUndoneUptoRow, standIns := [], harness := (true, "64439353b86c41f49a7bb0cd2b525650c1dcdc9a22570a167de0a0df053f8065"), looks := false }, kinds := [], alts := [], laidByText := true, laidKinds := [.data], laidTests := true, laidLooks := .later }
def UnitUndoneUptoCardSaid : Prop := Claim7.holds Tryz.pinned (.plain (OpenSpec.upto unitUndoneSpec)) unitUndoneUptoCard

/-- THE SECOND FORM's CARD OF 'podestalaw13.UnitRoom'. -/
def unitRoomUptoCard : Claim7 := { stood := { row := unitRoomUptoRow, standIns := [], harness := (true, "64439353b86c41f49a7bb0cd2b525650c1dcdc9a22570a167de0a0df053f8065"), looks := false }, kinds := [], alts := [], laidByText := true, laidKinds := [.data], laidTests := true, laidLooks := .later }
def UnitRoomUptoCardSaid : Prop := Claim7.holds Tryz.pinned (.plain (OpenSpec.upto unitRoomSpec)) unitRoomUptoCard

/-- THE SECOND FORM's CARD OF 'podestalaw13.UnitNone'. -/
def unitNoneUptoCard : Claim7 := { stood := { row := unitNoneUptoRow, standIns := [], harness := (true, "64439353b86c41f49a7bb0cd2b525650c1dcdc9a22570a167de0a0df053f8065"), looks := false }, kinds := [], alts := [], laidByText := true, laidKinds := [.data], laidTests := true, laidLooks := .later }
def UnitNoneUptoCardSaid : Prop := Claim7.holds Tryz.pinned (.plain (OpenSpec.upto unitNoneSpec)) unitNoneUptoCard

/-- THE SECOND FORM's CARD OF 'podestalaw13.UnitCommits'. -/
def unitCommitsUptoCard : Claim7 := { stood := { row := unitCommitsUptoRow, standIns := [], harness := (true, "64439353b86c41f49a7bb0cd2b525650c1dcdc9a22570a167de0a0df053f8065"), looks := false }, kinds := [], alts := [], laidByText := true, laidKinds := [.data], laidTests := true, laidLooks := .later }
def UnitCommitsUptoCardSaid : Prop := Claim7.holds Tryz.pinned (.plain (OpenSpec.upto unitCommitsSpec)) unitCommitsUptoCard

/-- THE SECOND FORM's CARD OF 'podestalaw13.UnitTwo'. -/
def unitTwoUptoCard : Claim7 := { stood := { row := unitTwoUptoRow, standIns := [], harness := (true, "64439353b86c41f49a7bb0cd2b525650c1dcdc9a22570a167de0a0df053f8065"), looks := false }, kinds := [], alts := [], laidByText := true, laidKinds := [.data], laidTests := true, laidLooks := .later }
def UnitTwoUptoCardSaid : Prop := Claim7.holds Tryz.pinned (.plain (OpenSpec.upto unitTwoSpec)) unitTwoUptoCard

/-- THE SECOND FORM's CARD OF 'podestalaw13.UnitAsks'. -/
def unitAsksUptoCard : Claim7 := { stood := { row := unitAsksUptoRow, standIns := [], harness := (true, "64439353b86c41f49a7bb0cd2b525650c1dcdc9a22570a167de0a0df053f8065"), looks := false }, kinds := [], alts := [], laidByText := true, laidKinds := [.data], laidTests := true, laidLooks := .later }
def UnitAsksUptoCardSaid : Prop := Claim7.holds Tryz.pinned (.plain (OpenSpec.upto unitAsksSpec)) unitAsksUptoCard
end Rows
end Go.Proofs.YtomnpfbebimpkaaGreatDoor
