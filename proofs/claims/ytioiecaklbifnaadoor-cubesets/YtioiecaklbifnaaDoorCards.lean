/-
  DERIVED. GIVEN WITH THE SEED: THE CARDS: each row of YtioiecaklbifnaaDoorRows.lean that lists a variable, with what it lists TIED to the program's text (the seventh form; the later family's looks); each row that meets fmt, with fmt's text TOLD by the authors' own Lean function (tested against real Go, not proved from fmt's source: count such statements apart). THE CARD IS WHAT COUNTS. Prove the row's statement (the work); the ties are given (YtioiecaklbifnaaDoorTie.lean); close each card by the builder's one call (the guide's Derived/Test/ToyasCard.lean, 'card_holds'). Laid BY PROGRAM, IN A SANDBOX (cutbox-door.mjs). By AI agents, Wed Nov 11 2026. No macro, syntax, notation, axiom, sorry.
-/
import Derived.Test.YtioiecaklbifnaaDoorRows
import GoSem.ClaimSeven
namespace Go.Proofs.YtioiecaklbifnaaDoor
namespace Rows

/-- THE TIED CARD OF 'podestalaw02.CubeMakes'. -/
def cubeMakesCard : Claim7 := { stood := { row := cubeMakesRow, standIns := [], harness := (true, "23cddeb2bb91e26aa147d60e0ddd76405e3798fe6afa594328008e5e3165ec09"), looks := false }, kinds := [], alts := [], laidByText := true, laidKinds := [.data], laidTests := true, laidLooks := .later }
def CubeMakesCardSaid : Prop := Claim7.holds Tryd.pinned (.plain (OpenSpec.ofChange cubeMakesSpec)) cubeMakesCard

/-- THE TIED CARD OF 'podestalaw02.CubeSets'. -/
def cubeSetsCard : Claim7 := { stood := { row := cubeSetsRow, standIns := [], harness := (true, "23cddeb2bb91e26aa147d60e0ddd76405e3798fe6afa594328008e5e3165ec09"), looks := false }, kinds := [], alts := [], laidByText := true, laidKinds := [.data], laidTests := true, laidLooks := .later }
def CubeSetsCardSaid : Prop := Claim7.holds Tryd.pinned (.plain (OpenSpec.ofChange cubeSetsSpec)) cubeSetsCard

/-- THE TIED CARD OF 'podestalaw02.CubeParts'. -/
def cubePartsCard : Claim7 := { stood := { row := cubePartsRow, standIns := [], harness := (true, "23cddeb2bb91e26aa147d60e0ddd76405e3798fe6afa594328008e5e3165ec09"), looks := false }, kinds := [], alts := [], laidByText := true, laidKinds := [.data], laidTests := true, laidLooks := .later }
def CubePartsCardSaid : Prop := Claim7.holds Tryd.pinned (.plain (OpenSpec.ofChange cubePartsSpec)) cubePartsCard

/-- THE TIED CARD OF 'podestalaw02.CubeOrder'. -/
def cubeOrderCard : Claim7 := { stood := { row := cubeOrderRow, standIns := [], harness := (true, "23cddeb2bb91e26aa147d60e0ddd76405e3798fe6afa594328008e5e3165ec09"), looks := false }, kinds := [], alts := [], laidByText := true, laidKinds := [.data], laidTests := true, laidLooks := .later }
def CubeOrderCardSaid : Prop := Claim7.holds Tryd.pinned (.plain (OpenSpec.ofChange cubeOrderSpec)) cubeOrderCard

/-- THE TIED CARD OF 'podestalaw02.CubeThree'. -/
def cubeThreeCard : Claim7 := { stood := { row := cubeThreeRow, standIns := [], harness := (true, "23cddeb2bb91e26aa147d60e0ddd76405e3798fe6afa594328008e5e3165ec09"), looks := false }, kinds := [], alts := [], laidByText := true, laidKinds := [.data], laidTests := true, laidLooks := .later }
def CubeThreeCardSaid : Prop := Claim7.holds Tryd.pinned (.plain (OpenSpec.ofChange cubeThreeSpec)) cubeThreeCard

/-- THE TIED CARD OF 'podestalaw02.CubeNear'. -/
def cubeNearCard : Claim7 := { stood := { row := cubeNearRow, standIns := [], harness := (true, "23cddeb2bb91e26aa147d60e0ddd76405e3798fe6afa594328008e5e3165ec09"), looks := false }, kinds := [], alts := [], laidByText := true, laidKinds := [.data], laidTests := true, laidLooks := .later }
def CubeNearCardSaid : Prop := Claim7.holds Tryd.pinned (.plain (OpenSpec.ofChange cubeNearSpec)) cubeNearCard

/-- THE SECOND FORM's CARD OF 'podestalaw02.CubeMakes'. -/
def cubeMakesUptoCard : Claim7 := { stood := { row := cubeMakesUptoRow, standIns := [], harness := (true, "23cddeb2bb91e26aa147d60e0ddd76405e3798fe6afa594328008e5e3165ec09"), looks := false }, kinds := [], alts := [], laidByText := true, laidKinds := [.data], laidTests := true, laidLooks := .later }
def CubeMakesUptoCardSaid : Prop := Claim7.holds Tryd.pinned (.plain (OpenSpec.upto cubeMakesSpec)) cubeMakesUptoCard

/-- THE SECOND FORM's CARD OF 'podestalaw02.CubeSets'. -/
def cubeSetsUptoCard : Claim7 := { stood := { row := cubeSetsUptoRow, standIns := [], harness := (true, "23cddeb2bb91e26aa147d60e0ddd76405e3798fe6afa594328008e5e3165ec09"), looks := false }, kinds := [], alts := [], laidByText := true, laidKinds := [.data], laidTests := true, laidLooks := .later }
def CubeSetsUptoCardSaid : Prop := Claim7.holds Tryd.pinned (.plain (OpenSpec.upto cubeSetsSpec)) cubeSetsUptoCard

/-- THE SECOND FORM's CARD OF 'podestalaw02.CubeParts'. -/
def cubePartsUptoCard : Claim7 := { stood := { row := cubePartsUptoRow, standIns := [], harness := (true, "23cddeb2bb91e26aa147d60e0ddd76405e3798fe6afa594328008e5e3165ec09"), looks := false }, kinds := [], alts := [], laidByText := true, laidKinds := [.data], laidTests := true, laidLooks := .later }
def CubePartsUptoCardSaid : Prop := Claim7.holds Tryd.pinned (.plain (OpenSpec.upto cubePartsSpec)) cubePartsUptoCard

/-- THE SECOND FORM's CARD OF 'podestalaw02.CubeOrder'. -/
def cubeOrderUptoCard : Claim7 := { stood := { row := cubeOrderUptoRow, standIns := [], harness := (true, "23cddeb2bb91e26aa147d60e0ddd76405e3798fe6afa594328008e5e3165ec09"), looks := false }, kinds := [], alts := [], laidByText := true, laidKinds := [.data], laidTests := true, laidLooks := .later }
def CubeOrderUptoCardSaid : Prop := Claim7.holds Tryd.pinned (.plain (OpenSpec.upto cubeOrderSpec)) cubeOrderUptoCard

/-- THE SECOND FORM's CARD OF 'podestalaw02.CubeThree'. -/
def cubeThreeUptoCard : Claim7 := { stood := { row := cubeThreeUptoRow, standIns := [], harness := (true, "23cddeb2bb91e26aa147d60e0ddd76405e3798fe6afa594328008e5e3165ec09"), looks := false }, kinds := [], alts := [], laidByText := true, laidKinds := [.data], laidTests := true, laidLooks := .later }
def CubeThreeUptoCardSaid : Prop := Claim7.holds Tryd.pinned (.plain (OpenSpec.upto cubeThreeSpec)) cubeThreeUptoCard

/-- THE SECOND FORM's CARD OF 'podestalaw02.CubeNear'. -/
def cubeNearUptoCard : Claim7 := { stood := { row := cubeNearUptoRow, standIns := [], harness := (true, "23cddeb2bb91e26aa147d60e0ddd76405e3798fe6afa594328008e5e3165ec09"), looks := false }, kinds := [], alts := [], laidByText := true, laidKinds := [.data], laidTests := true, laidLooks := .later }
def CubeNearUptoCardSaid : Prop := Claim7.holds Tryd.pinned (.plain (OpenSpec.upto cubeNearSpec)) cubeNearUptoCard
end Rows
end Go.Proofs.YtioiecaklbifnaaDoor
