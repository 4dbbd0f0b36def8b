/-
  DERIVED. GIVEN WITH THE SEED: THE CARDS: each row of YtpcacgfhjheiiaaDoorRows.lean that lists a variable, with what it lists TIED to the program's text (the seventh form; the later family's looks); each row that meets fmt, with fmt's text TOLD by the authors' own Lean function (tested against real Go, not proved from fmt's source: count such statements apart). THE CARD IS WHAT COUNTS. Prove the row's statement (the work); the ties are given (YtpcacgfhjheiiaaDoorTie.lean); close each card by the builder's one call (the guide's Derived/Test/ToyasCard.lean, 'card_holds'). Laid BY PROGRAM, IN A SANDBOX (cutbox-door.mjs). By AI agents, Wed Nov 11 2026. No macro, syntax, notation, axiom, sorry.
-/
import Derived.Test.YtpcacgfhjheiiaaDoorRows
import GoSem.ClaimSeven
namespace Go.Proofs.YtpcacgfhjheiiaaDoor
namespace Rows

/-- THE TIED CARD OF 'podestalaw04.ActRuns'. -/
def actRunsCard : Claim7 := { stood := { row := actRunsRow, standIns := [], harness := (true, "7001ae0e7c2637f6e254d77ea81afa6d0a92cebff7051dcfc9150437346472ca"), looks := false }, kinds := [], alts := [], laidByText := true, laidKinds := [.data], laidTests := true, laidLooks := .later }
def ActRunsCardSaid : Prop := Claim7.holds Tryd.pinned (.plain (OpenSpec.ofChange actRunsSpec)) actRunsCard

/-- THE TIED CARD OF 'podestalaw04.ActSame'. -/
def actSameCard : Claim7 := { stood := { row := actSameRow, standIns := [], harness := (true, "7001ae0e7c2637f6e254d77ea81afa6d0a92cebff7051dcfc9150437346472ca"), looks := false }, kinds := [], alts := [], laidByText := true, laidKinds := [.data], laidTests := true, laidLooks := .later }
def ActSameCardSaid : Prop := Claim7.holds Tryd.pinned (.plain (OpenSpec.ofChange actSameSpec)) actSameCard

/-- THE TIED CARD OF 'podestalaw04.ActJoins'. -/
def actJoinsCard : Claim7 := { stood := { row := actJoinsRow, standIns := [], harness := (true, "7001ae0e7c2637f6e254d77ea81afa6d0a92cebff7051dcfc9150437346472ca"), looks := false }, kinds := [], alts := [], laidByText := true, laidKinds := [.data], laidTests := true, laidLooks := .later }
def ActJoinsCardSaid : Prop := Claim7.holds Tryd.pinned (.plain (OpenSpec.ofChange actJoinsSpec)) actJoinsCard

/-- THE TIED CARD OF 'podestalaw04.ActPlain'. -/
def actPlainCard : Claim7 := { stood := { row := actPlainRow, standIns := [], harness := (true, "7001ae0e7c2637f6e254d77ea81afa6d0a92cebff7051dcfc9150437346472ca"), looks := false }, kinds := [], alts := [], laidByText := true, laidKinds := [.data], laidTests := true, laidLooks := .later }
def ActPlainCardSaid : Prop := Claim7.holds Tryd.pinned (.plain (OpenSpec.ofChange actPlainSpec)) actPlainCard

/-- THE SECOND FORM's CARD OF 'podestalaw04.ActRuns'. -/
def actRunsUptoCard : Claim7 := { stood := { row := actRunsUptoRow, standIns := [], harness := (true, "7001ae0e7c2637f6e254d77ea81afa6d0a92cebff7051dcfc9150437346472ca"), looks := false }, kinds := [], alts := [], laidByText := true, laidKinds := [.data], laidTests := true, laidLooks := .later }
def ActRunsUptoCardSaid : Prop := Claim7.holds Tryd.pinned (.plain (OpenSpec.upto actRunsSpec)) actRunsUptoCard

/-- THE SECOND FORM's CARD OF 'podestalaw04.ActSame'. -/
def actSameUptoCard : Claim7 := { stood := { row := actSameUptoRow, standIns := [], harness := (true, "7001ae0e7c2637f6e254d77ea81afa6d0a92cebff7051dcfc9150437346472ca"), looks := false }, kinds := [], alts := [], laidByText := true, laidKinds := [.data], laidTests := true, laidLooks := .later }
def ActSameUptoCardSaid : Prop := Claim7.holds Tryd.pinned (.plain (OpenSpec.upto actSameSpec)) actSameUptoCard

/-- THE SECOND FORM's CARD OF 'podestalaw04.ActJoins'. -/
def actJoinsUptoCard : Claim7 := { stood := { row := actJoinsUptoRow, standIns := [], harness := (true, "7001ae0e7c2637f6e254d77ea81afa6d0a92cebff7051dcfc9150437346472ca"), looks := false }, kinds := [], alts := [], laidByText := true, laidKinds := [.data], laidTests := true, laidLooks := .later }
def ActJoinsUptoCardSaid : Prop := Claim7.holds Tryd.pinned (.plain (OpenSpec.upto actJoinsSpec)) actJoinsUptoCard

/-- THE SECOND FORM's CARD OF 'podestalaw04.ActPlain'. -/
def actPlainUptoCard : Claim7 := { stood := { row := actPlainUptoRow, standIns := [], harness := (true, "7001ae0e7c2637f6e254d77ea81afa6d0a92cebff7051dcfc9150437346472ca"), looks := false }, kinds := [], alts := [], laidByText := true, laidKinds := [.data], laidTests := true, laidLooks := .later }
def ActPlainUptoCardSaid : Prop := Claim7.holds Tryd.pinned (.plain (OpenSpec.upto actPlainSpec)) actPlainUptoCard
end Rows
end Go.Proofs.YtpcacgfhjheiiaaDoor
