/-
  DERIVED. GIVEN WITH THE SEED: THE CARDS: each row of YtamjaohoicedfaaDoorRows.lean that lists a variable, with what it lists TIED to the program's text (the seventh form; the later family's looks); each row that meets fmt, with fmt's text TOLD by the authors' own Lean function (tested against real Go, not proved from fmt's source: count such statements apart). THE CARD IS WHAT COUNTS. Prove the row's statement (the work); the ties are given (YtamjaohoicedfaaDoorTie.lean); close each card by the builder's one call (the guide's Derived/Test/ToyasCard.lean, 'card_holds'). Laid BY PROGRAM, IN A SANDBOX (cutbox-door.mjs). By AI agents, Wed Nov 11 2026. No macro, syntax, notation, axiom, sorry.
-/
import Derived.Test.YtamjaohoicedfaaDoorRows
import GoSem.ClaimSeven
namespace Go.Proofs.YtamjaohoicedfaaDoor
namespace Rows

/-- THE TIED CARD OF 'podestalaw03.SpaceIs'. -/
def spaceIsCard : Claim7 := { stood := { row := spaceIsRow, standIns := [], harness := (true, "c70ae785dba32aa9010ae938f97419dc859ea5b5b314391405253976d2eeb539"), looks := false }, kinds := [], alts := [], laidByText := true, laidKinds := [.data], laidTests := true, laidLooks := .later }
def SpaceIsCardSaid : Prop := Claim7.holds Tryd.pinned (.plain (OpenSpec.ofChange spaceIsSpec)) spaceIsCard

/-- THE TIED CARD OF 'podestalaw03.SpaceLaws'. -/
def spaceLawsCard : Claim7 := { stood := { row := spaceLawsRow, standIns := [], harness := (true, "c70ae785dba32aa9010ae938f97419dc859ea5b5b314391405253976d2eeb539"), looks := false }, kinds := [], alts := [], laidByText := true, laidKinds := [.data], laidTests := true, laidLooks := .later }
def SpaceLawsCardSaid : Prop := Claim7.holds Tryd.pinned (.plain (OpenSpec.ofChange spaceLawsSpec)) spaceLawsCard

/-- THE TIED CARD OF 'podestalaw03.SpaceAll'. -/
def spaceAllCard : Claim7 := { stood := { row := spaceAllRow, standIns := [], harness := (true, "c70ae785dba32aa9010ae938f97419dc859ea5b5b314391405253976d2eeb539"), looks := false }, kinds := [], alts := [], laidByText := true, laidKinds := [.data], laidTests := true, laidLooks := .later }
def SpaceAllCardSaid : Prop := Claim7.holds Tryd.pinned (.plain (OpenSpec.ofChange spaceAllSpec)) spaceAllCard

/-- THE TIED CARD OF 'podestalaw03.SpaceKeeps'. -/
def spaceKeepsCard : Claim7 := { stood := { row := spaceKeepsRow, standIns := [], harness := (true, "c70ae785dba32aa9010ae938f97419dc859ea5b5b314391405253976d2eeb539"), looks := false }, kinds := [], alts := [], laidByText := true, laidKinds := [.data], laidTests := true, laidLooks := .later }
def SpaceKeepsCardSaid : Prop := Claim7.holds Tryd.pinned (.plain (OpenSpec.ofChange spaceKeepsSpec)) spaceKeepsCard

/-- THE SECOND FORM's CARD OF 'podestalaw03.SpaceIs'. -/
def spaceIsUptoCard : Claim7 := { stood := { row := spaceIsUptoRow, standIns := [], harness := (true, "c70ae785dba32aa9010ae938f97419dc859ea5b5b314391405253976d2eeb539"), looks := false }, kinds := [], alts := [], laidByText := true, laidKinds := [.data], laidTests := true, laidLooks := .later }
def SpaceIsUptoCardSaid : Prop := Claim7.holds Tryd.pinned (.plain (OpenSpec.upto spaceIsSpec)) spaceIsUptoCard

/-- THE SECOND FORM's CARD OF 'podestalaw03.SpaceLaws'. -/
def spaceLawsUptoCard : Claim7 := { stood := { row := spaceLawsUptoRow, standIns := [], harness := (true, "c70ae785dba32aa9010ae938f97419dc859ea5b5b314391405253976d2eeb539"), looks := false }, kinds := [], alts := [], laidByText := true, laidKinds := [.data], laidTests := true, laidLooks := .later }
def SpaceLawsUptoCardSaid : Prop := Claim7.holds Tryd.pinned (.plain (OpenSpec.upto spaceLawsSpec)) spaceLawsUptoCard

/-- THE SECOND FORM's CARD OF 'podestalaw03.SpaceAll'. -/
def spaceAllUptoCard : Claim7 := { stood := { row := spaceAllUptoRow, standIns := [], harness := (true, "c70ae785dba32aa9010ae938f97419dc859ea5b5b314391405253976d2eeb539"), looks := false }, kinds := [], alts := [], laidByText := true, laidKinds := [.data], laidTests := true, laidLooks := .later }
def SpaceAllUptoCardSaid : Prop := Claim7.holds Tryd.pinned (.plain (OpenSpec.upto spaceAllSpec)) spaceAllUptoCard

/-- THE SECOND FORM's CARD OF 'podestalaw03.SpaceKeeps'. -/
def spaceKeepsUptoCard : Claim7 := { stood := { row := spaceKeepsUptoRow, standIns := [], harness := (true, "c70ae785dba32aa9010ae938f97419dc859ea5b5b314391405253976d2eeb539"), looks := false }, kinds := [], alts := [], laidByText := true, laidKinds := [.data], laidTests := true, laidLooks := .later }
def SpaceKeepsUptoCardSaid : Prop := Claim7.holds Tryd.pinned (.plain (OpenSpec.upto spaceKeepsSpec)) spaceKeepsUptoCard
end Rows
end Go.Proofs.YtamjaohoicedfaaDoor
