/-
  DERIVED. GIVEN WITH THE SEED: THE CARDS: each row of YtkjmameaempecaaDoorRows.lean that lists a variable, with what it lists TIED to the program's text (the seventh form; the later family's looks); each row that meets fmt, with fmt's text TOLD by the authors' own Lean function (tested against real Go, not proved from fmt's source: count such statements apart). THE CARD IS WHAT COUNTS. Prove the row's statement (the work); the ties are given (YtkjmameaempecaaDoorTie.lean); close each card by the builder's one call (the guide's Derived/Test/ToyasCard.lean, 'card_holds'). Laid BY PROGRAM, IN A SANDBOX (cutbox-door.mjs). By AI agents, Wed Nov 11 2026. No macro, syntax, notation, axiom, sorry.
-/
import Derived.Test.YtkjmameaempecaaDoorRows
import GoSem.ClaimSeven
namespace Go.Proofs.YtkjmameaempecaaDoor
namespace Rows

/-- THE TIED CARD OF 'podestalaw01.HeadFields'. -/
def headFieldsCard : Claim7 := { stood := { row := headFieldsRow, standIns := [], harness := (true, "62f7a613fac20a3bad980e9fd881c52abbfbd44e622dfbe582f456fb45823466"), looks := false }, kinds := [], alts := [], laidByText := true, laidKinds := [.data], laidTests := true, laidLooks := .later }
def HeadFieldsCardSaid : Prop := Claim7.holds Tryd.pinned (.plain (OpenSpec.ofChange headFieldsSpec)) headFieldsCard

/-- THE TIED CARD OF 'podestalaw01.HeadMasks'. -/
def headMasksCard : Claim7 := { stood := { row := headMasksRow, standIns := [], harness := (true, "62f7a613fac20a3bad980e9fd881c52abbfbd44e622dfbe582f456fb45823466"), looks := false }, kinds := [], alts := [], laidByText := true, laidKinds := [.data], laidTests := true, laidLooks := .later }
def HeadMasksCardSaid : Prop := Claim7.holds Tryd.pinned (.plain (OpenSpec.ofChange headMasksSpec)) headMasksCard

/-- THE TIED CARD OF 'podestalaw01.HeadSets'. -/
def headSetsCard : Claim7 := { stood := { row := headSetsRow, standIns := [], harness := (true, "62f7a613fac20a3bad980e9fd881c52abbfbd44e622dfbe582f456fb45823466"), looks := false }, kinds := [], alts := [], laidByText := true, laidKinds := [.data], laidTests := true, laidLooks := .later }
def HeadSetsCardSaid : Prop := Claim7.holds Tryd.pinned (.plain (OpenSpec.ofChange headSetsSpec)) headSetsCard

/-- THE TIED CARD OF 'podestalaw01.HeadOrder'. -/
def headOrderCard : Claim7 := { stood := { row := headOrderRow, standIns := [], harness := (true, "62f7a613fac20a3bad980e9fd881c52abbfbd44e622dfbe582f456fb45823466"), looks := false }, kinds := [], alts := [], laidByText := true, laidKinds := [.data], laidTests := true, laidLooks := .later }
def HeadOrderCardSaid : Prop := Claim7.holds Tryd.pinned (.plain (OpenSpec.ofChange headOrderSpec)) headOrderCard

/-- THE TIED CARD OF 'podestalaw01.HeadTwice'. -/
def headTwiceCard : Claim7 := { stood := { row := headTwiceRow, standIns := [], harness := (true, "62f7a613fac20a3bad980e9fd881c52abbfbd44e622dfbe582f456fb45823466"), looks := false }, kinds := [], alts := [], laidByText := true, laidKinds := [.data], laidTests := true, laidLooks := .later }
def HeadTwiceCardSaid : Prop := Claim7.holds Tryd.pinned (.plain (OpenSpec.ofChange headTwiceSpec)) headTwiceCard

/-- THE TIED CARD OF 'podestalaw01.HeadMaskSums'. -/
def headMaskSumsCard : Claim7 := { stood := { row := headMaskSumsRow, standIns := [], harness := (true, "62f7a613fac20a3bad980e9fd881c52abbfbd44e622dfbe582f456fb45823466"), looks := false }, kinds := [], alts := [], laidByText := true, laidKinds := [.data], laidTests := true, laidLooks := .later }
def HeadMaskSumsCardSaid : Prop := Claim7.holds Tryd.pinned (.plain (OpenSpec.ofChange headMaskSumsSpec)) headMaskSumsCard

/-- THE SECOND FORM's CARD OF 'podestalaw01.HeadFields'. -/
def headFieldsUptoCard : Claim7 := { stood := { row := headFieldsUptoRow, standIns := [], harness := (true, "62f7a613fac20a3bad980e9fd881c52abbfbd44e622dfbe582f456fb45823466"), looks := false }, kinds := [], alts := [], laidByText := true, laidKinds := [.data], laidTests := true, laidLooks := .later }
def HeadFieldsUptoCardSaid : Prop := Claim7.holds Tryd.pinned (.plain (OpenSpec.upto headFieldsSpec)) headFieldsUptoCard

/-- THE SECOND FORM's CARD OF 'podestalaw01.HeadMasks'. -/
def headMasksUptoCard : Claim7 := { stood := { row := headMasksUptoRow, standIns := [], harness := (true, "62f7a613fac20a3bad980e9fd881c52abbfbd44e622dfbe582f456fb45823466"), looks := false }, kinds := [], alts := [], laidByText := true, laidKinds := [.data], laidTests := true, laidLooks := .later }
def HeadMasksUptoCardSaid : Prop := Claim7.holds Tryd.pinned (.plain (OpenSpec.upto headMasksSpec)) headMasksUptoCard

/-- THE SECOND FORM's CARD OF 'podestalaw01.HeadSets'. -/
def headSetsUptoCard : Claim7 := { stood := { row := headSetsUptoRow, standIns := [], harness := (true, "62f7a613fac20a3bad980e9fd881c52abbfbd44e622dfbe582f456fb45823466"), looks := false }, kinds := [], alts := [], laidByText := true, laidKinds := [.data], laidTests := true, laidLooks := .later }
def HeadSetsUptoCardSaid : Prop := Claim7.holds Tryd.pinned (.plain (OpenSpec.upto headSetsSpec)) headSetsUptoCard

/-- THE SECOND FORM's CARD OF 'podestalaw01.HeadOrder'. -/
def headOrderUptoCard : Claim7 := { stood := { row := headOrderUptoRow, standIns := [], harness := (true, "62f7a613fac20a3bad980e9fd881c52abbfbd44e622dfbe582f456fb45823466"), looks := false }, kinds := [], alts := [], laidByText := true, laidKinds := [.data], laidTests := true, laidLooks := .later }
def HeadOrderUptoCardSaid : Prop := Claim7.holds Tryd.pinned (.plain (OpenSpec.upto headOrderSpec)) headOrderUptoCard

/-- THE SECOND FORM's CARD OF 'podestalaw01.HeadTwice'. -/
def headTwiceUptoCard : Claim7 := { stood := { row := headTwiceUptoRow, standIns := [], harness := (true, "62f7a613fac20a3bad980e9fd881c52abbfbd44e622dfbe582f456fb45823466"), looks := false }, kinds := [], alts := [], laidByText := true, laidKinds := [.data], laidTests := true, laidLooks := .later }
def HeadTwiceUptoCardSaid : Prop := Claim7.holds Tryd.pinned (.plain (OpenSpec.upto headTwiceSpec)) headTwiceUptoCard

/-- THE SECOND FORM's CARD OF 'podestalaw01.HeadMaskSums'. -/
def headMaskSumsUptoCard : Claim7 := { stood := { row := headMaskSumsUptoRow, standIns := [], harness := (true, "62f7a613fac20a3bad980e9fd881c52abbfbd44e622dfbe582f456fb45823466"), looks := false }, kinds := [], alts := [], laidByText := true, laidKinds := [.data], laidTests := true, laidLooks := .later }
def HeadMaskSumsUptoCardSaid : Prop := Claim7.holds Tryd.pinned (.plain (OpenSpec.upto headMaskSumsSpec)) headMaskSumsUptoCard
end Rows
end Go.Proofs.YtkjmameaempecaaDoor
