/-
  DERIVED. GIVEN WITH THE SEED: THE CARDS: each row of YthalpnmejompdaaDoorRows.lean that lists a variable, with what it lists TIED to the program's text (the seventh form; the later family's looks); each row that meets fmt, with fmt's text TOLD by the authors' own Lean function (tested against real Go, not proved from fmt's source: count such statements apart). THE CARD IS WHAT COUNTS. Prove the row's statement (the work); the ties are given (YthalpnmejompdaaDoorTie.lean); close each card by the builder's one call (the guide's Derived/Test/ToyasCard.lean, 'card_holds'). Laid BY PROGRAM, IN A SANDBOX (cutbox-door.mjs). By AI agents, Wed Nov 11 2026. No macro, syntax, notation, axiom, sorry.
-/
import Derived.Test.YthalpnmejompdaaDoorRows
import GoSem.ClaimSeven
namespace Go.Proofs.YthalpnmejompdaaDoor
namespace Rows

/-- THE TIED CARD OF 'podestalaw05.RulePairs'. -/
def rulePairsCard : Claim7 := { stood := { row := rulePairsRow, standIns := [], harness := (true, "44dfce2cc377de24d15567b92e4c43820804d91dc92b7947dbcafeb6b6ec3057"), looks := false }, kinds := [], alts := [], laidByText := true, laidKinds := [.data], laidTests := true, laidLooks := .later }
def RulePairsCardSaid : Prop := Claim7.holds Tryd.pinned (.plain (OpenSpec.ofChange rulePairsSpec)) rulePairsCard

/-- THE TIED CARD OF 'podestalaw05.RuleTables'. -/
def ruleTablesCard : Claim7 := { stood := { row := ruleTablesRow, standIns := [], harness := (true, "44dfce2cc377de24d15567b92e4c43820804d91dc92b7947dbcafeb6b6ec3057"), looks := false }, kinds := [], alts := [], laidByText := true, laidKinds := [.data], laidTests := true, laidLooks := .later }
def RuleTablesCardSaid : Prop := Claim7.holds Tryd.pinned (.plain (OpenSpec.ofChange ruleTablesSpec)) ruleTablesCard

/-- THE TIED CARD OF 'podestalaw05.RuleFinds'. -/
def ruleFindsCard : Claim7 := { stood := { row := ruleFindsRow, standIns := [], harness := (true, "44dfce2cc377de24d15567b92e4c43820804d91dc92b7947dbcafeb6b6ec3057"), looks := false }, kinds := [], alts := [], laidByText := true, laidKinds := [.data], laidTests := true, laidLooks := .later }
def RuleFindsCardSaid : Prop := Claim7.holds Tryd.pinned (.plain (OpenSpec.ofChange ruleFindsSpec)) ruleFindsCard

/-- THE TIED CARD OF 'podestalaw05.RuleSame'. -/
def ruleSameCard : Claim7 := { stood := { row := ruleSameRow, standIns := [], harness := (true, "44dfce2cc377de24d15567b92e4c43820804d91dc92b7947dbcafeb6b6ec3057"), looks := false }, kinds := [], alts := [], laidByText := true, laidKinds := [.data], laidTests := true, laidLooks := .later }
def RuleSameCardSaid : Prop := Claim7.holds Tryd.pinned (.plain (OpenSpec.ofChange ruleSameSpec)) ruleSameCard

/-- THE TIED CARD OF 'podestalaw05.RuleOwn'. -/
def ruleOwnCard : Claim7 := { stood := { row := ruleOwnRow, standIns := [], harness := (true, "44dfce2cc377de24d15567b92e4c43820804d91dc92b7947dbcafeb6b6ec3057"), looks := false }, kinds := [], alts := [], laidByText := true, laidKinds := [.data], laidTests := true, laidLooks := .later }
def RuleOwnCardSaid : Prop := Claim7.holds Tryd.pinned (.plain (OpenSpec.ofChange ruleOwnSpec)) ruleOwnCard

/-- THE TIED CARD OF 'podestalaw05.RuleOrder'. -/
def ruleOrderCard : Claim7 := { stood := { row := ruleOrderRow, standIns := [], harness := (true, "44dfce2cc377de24d15567b92e4c43820804d91dc92b7947dbcafeb6b6ec3057"), looks := false }, kinds := [], alts := [], laidByText := true, laidKinds := [.data], laidTests := true, laidLooks := .later }
def RuleOrderCardSaid : Prop := Claim7.holds Tryd.pinned (.plain (OpenSpec.ofChange ruleOrderSpec)) ruleOrderCard

/-- THE TIED CARD OF 'podestalaw05.RuleJoins'. -/
def ruleJoinsCard : Claim7 := { stood := { row := ruleJoinsRow, standIns := [], harness := (true, "44dfce2cc377de24d15567b92e4c43820804d91dc92b7947dbcafeb6b6ec3057"), looks := false }, kinds := [], alts := [], laidByText := true, laidKinds := [.data], laidTests := true, laidLooks := .later }
def RuleJoinsCardSaid : Prop := Claim7.holds Tryd.pinned (.plain (OpenSpec.ofChange ruleJoinsSpec)) ruleJoinsCard

/-- THE SECOND FORM's CARD OF 'podestalaw05.RulePairs'. -/
def rulePairsUptoCard : Claim7 := { stood := { row := rulePairsUptoRow, standIns := [], harness := (true, "44dfce2cc377de24d15567b92e4c43820804d91dc92b7947dbcafeb6b6ec3057"), looks := false }, kinds := [], alts := [], laidByText := true, laidKinds := [.data], laidTests := true, laidLooks := .later }
def RulePairsUptoCardSaid : Prop := Claim7.holds Tryd.pinned (.plain (OpenSpec.upto rulePairsSpec)) rulePairsUptoCard

/-- THE SECOND FORM's CARD OF 'podestalaw05.RuleTables'. -/
def ruleTablesUptoCard : Claim7 := { stood := { row := ruleTablesUptoRow, standIns := [], harness := (true, "44dfce2cc377de24d15567b92e4c43820804d91dc92b7947dbcafeb6b6ec3057"), looks := false }, kinds := [], alts := [], laidByText := true, laidKinds := [.data], laidTests := true, laidLooks := .later }
def RuleTablesUptoCardSaid : Prop := Claim7.holds Tryd.pinned (.plain (OpenSpec.upto ruleTablesSpec)) ruleTablesUptoCard

/-- THE SECOND FORM's CARD OF 'podestalaw05.RuleFinds'. -/
def ruleFindsUptoCard : Claim7 := { stood := { row := ruleFindsUptoRow, standIns := [], harness := (true, "44dfce2cc377de24d15567b92e4c43820804d91dc92b7947dbcafeb6b6ec3057"), looks := false }, kinds := [], alts := [], laidByText := true, laidKinds := [.data], laidTests := true, laidLooks := .later }
def RuleFindsUptoCardSaid : Prop := Claim7.holds Tryd.pinned (.plain (OpenSpec.upto ruleFindsSpec)) ruleFindsUptoCard

/-- THE SECOND FORM's CARD OF 'podestalaw05.RuleSame'. -/
def ruleSameUptoCard : Claim7 := { stood := { row := ruleSameUptoRow, standIns := [], harness := (true, "44dfce2cc377de24d15567b92e4c43820804d91dc92b7947dbcafeb6b6ec3057"), looks := false }, kinds := [], alts := [], laidByText := true, laidKinds := [.data], laidTests := true, laidLooks := .later }
def RuleSameUptoCardSaid : Prop := Claim7.holds Tryd.pinned (.plain (OpenSpec.upto ruleSameSpec)) ruleSameUptoCard

/-- THE SECOND FORM's CARD OF 'podestalaw05.RuleOwn'. -/
def ruleOwnUptoCard : Claim7 := { stood := { row := ruleOwnUptoRow, standIns := [], harness := (true, "44dfce2cc377de24d15567b92e4c43820804d91dc92b7947dbcafeb6b6ec3057"), looks := false }, kinds := [], alts := [], laidByText := true, laidKinds := [.data], laidTests := true, laidLooks := .later }
def RuleOwnUptoCardSaid : Prop := Claim7.holds Tryd.pinned (.plain (OpenSpec.upto ruleOwnSpec)) ruleOwnUptoCard

/-- THE SECOND FORM's CARD OF 'podestalaw05.RuleOrder'. -/
def ruleOrderUptoCard : Claim7 := { stood := { row := ruleOrderUptoRow, standIns := [], harness := (true, "44dfce2cc377de24d15567b92e4c43820804d91dc92b7947dbcafeb6b6ec3057"), looks := false }, kinds := [], alts := [], laidByText := true, laidKinds := [.data], laidTests := true, laidLooks := .later }
def RuleOrderUptoCardSaid : Prop := Claim7.holds Tryd.pinned (.plain (OpenSpec.upto ruleOrderSpec)) ruleOrderUptoCard

/-- THE SECOND FORM's CARD OF 'podestalaw05.RuleJoins'. -/
def ruleJoinsUptoCard : Claim7 := { stood := { row := ruleJoinsUptoRow, standIns := [], harness := (true, "44dfce2cc377de24d15567b92e4c43820804d91dc92b7947dbcafeb6b6ec3057"), looks := false }, kinds := [], alts := [], laidByText := true, laidKinds := [.data], laidTests := true, laidLooks := .later }
def RuleJoinsUptoCardSaid : Prop := Claim7.holds Tryd.pinned (.plain (OpenSpec.upto ruleJoinsSpec)) ruleJoinsUptoCard
end Rows
end Go.Proofs.YthalpnmejompdaaDoor
