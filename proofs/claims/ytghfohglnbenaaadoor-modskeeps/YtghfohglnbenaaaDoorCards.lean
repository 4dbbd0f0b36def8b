/-
  DERIVED. GIVEN WITH THE SEED: THE CARDS: each row of YtghfohglnbenaaaDoorRows.lean that lists a variable, with what it lists TIED to the program's text (the seventh form; the later family's looks); each row that meets fmt, with fmt's text TOLD by the authors' own Lean function (tested against real Go, not proved from fmt's source: count such statements apart). THE CARD IS WHAT COUNTS. Prove the row's statement (the work); the ties are given (YtghfohglnbenaaaDoorTie.lean); close each card by the builder's one call (the guide's Derived/Test/ToyasCard.lean, 'card_holds'). Laid BY PROGRAM, IN A SANDBOX (cutbox-door.mjs). By AI agents, Wed Nov 11 2026. No macro, syntax, notation, axiom, sorry.
-/
import Derived.Test.YtghfohglnbenaaaDoorRows
import GoSem.ClaimSeven
namespace Go.Proofs.YtghfohglnbenaaaDoor
namespace Rows

/-- THE TIED CARD OF 'podestalaw07.ModsApply'. -/
def modsApplyCard : Claim7 := { stood := { row := modsApplyRow, standIns := [], harness := (true, "36778c6347efb1b2f2198f53a0e0a828f539b0df193026f6a1690bac1d0f267b"), looks := false }, kinds := [], alts := [], laidByText := true, laidKinds := [.data], laidTests := true, laidLooks := .later }
def ModsApplyCardSaid : Prop := Claim7.holds Tryd.pinned (.plain (OpenSpec.ofChange modsApplySpec)) modsApplyCard

/-- THE TIED CARD OF 'podestalaw07.ModsTouch'. -/
def modsTouchCard : Claim7 := { stood := { row := modsTouchRow, standIns := [], harness := (true, "36778c6347efb1b2f2198f53a0e0a828f539b0df193026f6a1690bac1d0f267b"), looks := false }, kinds := [], alts := [], laidByText := true, laidKinds := [.data], laidTests := true, laidLooks := .later }
def ModsTouchCardSaid : Prop := Claim7.holds Tryd.pinned (.plain (OpenSpec.ofChange modsTouchSpec)) modsTouchCard

/-- THE TIED CARD OF 'podestalaw07.ModsOthers'. -/
def modsOthersCard : Claim7 := { stood := { row := modsOthersRow, standIns := [], harness := (true, "36778c6347efb1b2f2198f53a0e0a828f539b0df193026f6a1690bac1d0f267b"), looks := false }, kinds := [], alts := [], laidByText := true, laidKinds := [.data], laidTests := true, laidLooks := .later }
def ModsOthersCardSaid : Prop := Claim7.holds Tryd.pinned (.plain (OpenSpec.ofChange modsOthersSpec)) modsOthersCard

/-- THE TIED CARD OF 'podestalaw07.ModsTwice'. -/
def modsTwiceCard : Claim7 := { stood := { row := modsTwiceRow, standIns := [], harness := (true, "36778c6347efb1b2f2198f53a0e0a828f539b0df193026f6a1690bac1d0f267b"), looks := false }, kinds := [], alts := [], laidByText := true, laidKinds := [.data], laidTests := true, laidLooks := .later }
def ModsTwiceCardSaid : Prop := Claim7.holds Tryd.pinned (.plain (OpenSpec.ofChange modsTwiceSpec)) modsTwiceCard

/-- THE TIED CARD OF 'podestalaw07.ModsApart'. -/
def modsApartCard : Claim7 := { stood := { row := modsApartRow, standIns := [], harness := (true, "36778c6347efb1b2f2198f53a0e0a828f539b0df193026f6a1690bac1d0f267b"), looks := false }, kinds := [], alts := [], laidByText := true, laidKinds := [.data], laidTests := true, laidLooks := .later }
def ModsApartCardSaid : Prop := Claim7.holds Tryd.pinned (.plain (OpenSpec.ofChange modsApartSpec)) modsApartCard

/-- THE TIED CARD OF 'podestalaw07.ModsRoom'. -/
def modsRoomCard : Claim7 := { stood := { row := modsRoomRow, standIns := [], harness := (true, "36778c6347efb1b2f2198f53a0e0a828f539b0df193026f6a1690bac1d0f267b"), looks := false }, kinds := [], alts := [], laidByText := true, laidKinds := [.data], laidTests := true, laidLooks := .later }
def ModsRoomCardSaid : Prop := Claim7.holds Tryd.pinned (.plain (OpenSpec.ofChange modsRoomSpec)) modsRoomCard

/-- THE TIED CARD OF 'podestalaw07.ModsGone'. -/
def modsGoneCard : Claim7 := { stood := { row := modsGoneRow, standIns := [], harness := (true, "36778c6347efb1b2f2198f53a0e0a828f539b0df193026f6a1690bac1d0f267b"), looks := false }, kinds := [], alts := [], laidByText := true, laidKinds := [.data], laidTests := true, laidLooks := .later }
def ModsGoneCardSaid : Prop := Claim7.holds Tryd.pinned (.plain (OpenSpec.ofChange modsGoneSpec)) modsGoneCard

/-- THE TIED CARD OF 'podestalaw07.ModsKeeps'. -/
def modsKeepsCard : Claim7 := { stood := { row := modsKeepsRow, standIns := [], harness := (true, "36778c6347efb1b2f2198f53a0e0a828f539b0df193026f6a1690bac1d0f267b"), looks := false }, kinds := [], alts := [], laidByText := true, laidKinds := [.data], laidTests := true, laidLooks := .later }
def ModsKeepsCardSaid : Prop := Claim7.holds Tryd.pinned (.plain (OpenSpec.ofChange modsKeepsSpec)) modsKeepsCard

/-- THE TIED CARD OF 'podestalaw07.ModsSame'. -/
def modsSameCard : Claim7 := { stood := { row := modsSameRow, standIns := [], harness := (true, "36778c6347efb1b2f2198f53a0e0a828f539b0df193026f6a1690bac1d0f267b"), looks := false }, kinds := [], alts := [], laidByText := true, laidKinds := [.data], laidTests := true, laidLooks := .later }
def ModsSameCardSaid : Prop := Claim7.holds Tryd.pinned (.plain (OpenSpec.ofChange modsSameSpec)) modsSameCard

/-- THE SECOND FORM's CARD OF 'podestalaw07.ModsApply'. -/
def modsApplyUptoCard : Claim7 := { stood := { row := modsApplyUptoRow, standIns := [], harness := (true, "36778c6347efb1b2f2198f53a0e0a828f539b0df193026f6a1690bac1d0f267b"), looks := false }, kinds := [], alts := [], laidByText := true, laidKinds := [.data], laidTests := true, laidLooks := .later }
def ModsApplyUptoCardSaid : Prop := Claim7.holds Tryd.pinned (.plain (OpenSpec.upto modsApplySpec)) modsApplyUptoCard

/-- THE SECOND FORM's CARD OF 'podestalaw07.ModsTouch'. -/
def modsTouchUptoCard : Claim7 := { stood := { row := modsTouchUptoRow, standIns := [], harness := (true, "36778c6347efb1b2f2198f53a0e0a828f539b0df193026f6a1690bac1d0f267b"), looks := false }, kinds := [], alts := [], laidByText := true, laidKinds := [.data], laidTests := true, laidLooks := .later }
def ModsTouchUptoCardSaid : Prop := Claim7.holds Tryd.pinned (.plain (OpenSpec.upto modsTouchSpec)) modsTouchUptoCard

/-- THE SECOND FORM's CARD OF 'podestalaw07.ModsOthers'. -/
def modsOthersUptoCard : Claim7 := { stood := { row := modsOthersUptoRow, standIns := [], harness := (true, "36778c6347efb1b2f2198f53a0e0a828f539b0df193026f6a1690bac1d0f267b"), looks := false }, kinds := [], alts := [], laidByText := true, laidKinds := [.data], laidTests := true, laidLooks := .later }
def ModsOthersUptoCardSaid : Prop := Claim7.holds Tryd.pinned (.plain (OpenSpec.upto modsOthersSpec)) modsOthersUptoCard

/-- THE SECOND FORM's CARD OF 'podestalaw07.ModsTwice'. -/
def modsTwiceUptoCard : Claim7 := { stood := { row := modsTwiceUptoRow, standIns := [], harness := (true, "36778c6347efb1b2f2198f53a0e0a828f539b0df193026f6a1690bac1d0f267b"), looks := false }, kinds := [], alts := [], laidByText := true, laidKinds := [.data], laidTests := true, laidLooks := .later }
def ModsTwiceUptoCardSaid : Prop := Claim7.holds Tryd.pinned (.plain (OpenSpec.upto modsTwiceSpec)) modsTwiceUptoCard

/-- THE SECOND FORM's CARD OF 'podestalaw07.ModsApart'. -/
def modsApartUptoCard : Claim7 := { stood := { row := modsApartUptoRow, standIns := [], harness := (true, "36778c6347efb1b2f2198f53a0e0a828f539b0df193026f6a1690bac1d0f267b"), looks := false }, kinds := [], alts := [], laidByText := true, laidKinds := [.data], laidTests := true, laidLooks := .later }
def ModsApartUptoCardSaid : Prop := Claim7.holds Tryd.pinned (.plain (OpenSpec.upto modsApartSpec)) modsApartUptoCard

/-- THE SECOND FORM's CARD OF 'podestalaw07.ModsRoom'. -/
def modsRoomUptoCard : Claim7 := { stood := { row := modsRoomUptoRow, standIns := [], harness := (true, "36778c6347efb1b2f2198f53a0e0a828f539b0df193026f6a1690bac1d0f267b"), looks := false }, kinds := [], alts := [], laidByText := true, laidKinds := [.data], laidTests := true, laidLooks := .later }
def ModsRoomUptoCardSaid : Prop := Claim7.holds Tryd.pinned (.plain (OpenSpec.upto modsRoomSpec)) modsRoomUptoCard

/-- THE SECOND FORM's CARD OF 'podestalaw07.ModsGone'. -/
def modsGoneUptoCard : Claim7 := { stood := { row := modsGoneUptoRow, standIns := [], harness := (true, "36778c6347efb1b2f2198f53a0e0a828f539b0df193026f6a1690bac1d0f267b"), looks := false }, kinds := [], alts := [], laidByText := true, laidKinds := [.data], laidTests := true, laidLooks := .later }
def ModsGoneUptoCardSaid : Prop := Claim7.holds Tryd.pinned (.plain (OpenSpec.upto modsGoneSpec)) modsGoneUptoCard

/-- THE SECOND FORM's CARD OF 'podestalaw07.ModsKeeps'. -/
def modsKeepsUptoCard : Claim7 := { stood := { row := modsKeepsUptoRow, standIns := [], harness := (true, "36778c6347efb1b2f2198f53a0e0a828f539b0df193026f6a1690bac1d0f267b"), looks := false }, kinds := [], alts := [], laidByText := true, laidKinds := [.data], laidTests := true, laidLooks := .later }
def ModsKeepsUptoCardSaid : Prop := Claim7.holds Tryd.pinned (.plain (OpenSpec.upto modsKeepsSpec)) modsKeepsUptoCard

/-- THE SECOND FORM's CARD OF 'podestalaw07.ModsSame'. -/
def modsSameUptoCard : Claim7 := { stood := { row := modsSameUptoRow, standIns := [], harness := (true, "36778c6347efb1b2f2198f53a0e0a828f539b0df193026f6a1690bac1d0f267b"), looks := false }, kinds := [], alts := [], laidByText := true, laidKinds := [.data], laidTests := true, laidLooks := .later }
def ModsSameUptoCardSaid : Prop := Claim7.holds Tryd.pinned (.plain (OpenSpec.upto modsSameSpec)) modsSameUptoCard
end Rows
end Go.Proofs.YtghfohglnbenaaaDoor
