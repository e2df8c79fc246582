/-
  DERIVED. GIVEN WITH THE SEED: THE CARDS: each row of YtnkeohiibninfabDoorRows.lean that lists a variable, with what it lists TIED to the program's text (the seventh form; the later family's looks); each row that meets fmt, with fmt's text TOLD by the authors' own Lean function (tested against real Go, not proved from fmt's source: count such statements apart). THE CARD IS WHAT COUNTS. Prove the row's statement (the work); the ties are given (YtnkeohiibninfabDoorTie.lean); close each card by the builder's one call (the guide's Derived/Test/ToyasCard.lean, 'card_holds'). Laid BY PROGRAM, IN A SANDBOX (cutbox-door.mjs). By AI agents, Wed Nov 11 2026. No macro, syntax, notation, axiom, sorry.
-/
import Derived.Test.YtnkeohiibninfabDoorRows
import GoSem.ClaimSeven
namespace Go.Proofs.YtnkeohiibninfabDoor
namespace Rows

/-- THE TIED CARD OF 'galleylaw06.RuleCuts'. -/
def ruleCutsCard : Claim7 := { stood := { row := ruleCutsRow, standIns := [], harness := (true, "2e0f94bdc95134c0ab4c8c7f552f8416570a6620c570900f6dd1f336a687f476"), looks := false }, kinds := [], alts := [], laidByText := true, laidKinds := [.data], laidTests := true, laidLooks := .later }
def RuleCutsCardSaid : Prop := Claim7.holds Tryd.pinned (.plain (OpenSpec.ofChange ruleCutsSpec)) ruleCutsCard

/-- THE TIED CARD OF 'galleylaw06.RuleTables'. -/
def ruleTablesCard : Claim7 := { stood := { row := ruleTablesRow, standIns := [], harness := (true, "2e0f94bdc95134c0ab4c8c7f552f8416570a6620c570900f6dd1f336a687f476"), looks := false }, kinds := [], alts := [], laidByText := true, laidKinds := [.data], laidTests := true, laidLooks := .later }
def RuleTablesCardSaid : Prop := Claim7.holds Tryd.pinned (.plain (OpenSpec.ofChange ruleTablesSpec)) ruleTablesCard

/-- THE TIED CARD OF 'galleylaw06.RuleBack'. -/
def ruleBackCard : Claim7 := { stood := { row := ruleBackRow, standIns := [], harness := (true, "2e0f94bdc95134c0ab4c8c7f552f8416570a6620c570900f6dd1f336a687f476"), looks := false }, kinds := [], alts := [], laidByText := true, laidKinds := [.data], laidTests := true, laidLooks := .later }
def RuleBackCardSaid : Prop := Claim7.holds Tryd.pinned (.plain (OpenSpec.ofChange ruleBackSpec)) ruleBackCard

/-- THE TIED CARD OF 'galleylaw06.RuleRises'. -/
def ruleRisesCard : Claim7 := { stood := { row := ruleRisesRow, standIns := [], harness := (true, "2e0f94bdc95134c0ab4c8c7f552f8416570a6620c570900f6dd1f336a687f476"), looks := false }, kinds := [], alts := [], laidByText := true, laidKinds := [.data], laidTests := true, laidLooks := .later }
def RuleRisesCardSaid : Prop := Claim7.holds Tryd.pinned (.plain (OpenSpec.ofChange ruleRisesSpec)) ruleRisesCard

/-- THE TIED CARD OF 'galleylaw06.RuleAdds'. -/
def ruleAddsCard : Claim7 := { stood := { row := ruleAddsRow, standIns := [], harness := (true, "2e0f94bdc95134c0ab4c8c7f552f8416570a6620c570900f6dd1f336a687f476"), looks := false }, kinds := [], alts := [], laidByText := true, laidKinds := [.data], laidTests := true, laidLooks := .later }
def RuleAddsCardSaid : Prop := Claim7.holds Tryd.pinned (.plain (OpenSpec.ofChange ruleAddsSpec)) ruleAddsCard

/-- THE TIED CARD OF 'galleylaw06.RuleOwn'. -/
def ruleOwnCard : Claim7 := { stood := { row := ruleOwnRow, standIns := [], harness := (true, "2e0f94bdc95134c0ab4c8c7f552f8416570a6620c570900f6dd1f336a687f476"), looks := false }, kinds := [], alts := [], laidByText := true, laidKinds := [.data], laidTests := true, laidLooks := .later }
def RuleOwnCardSaid : Prop := Claim7.holds Tryd.pinned (.plain (OpenSpec.ofChange ruleOwnSpec)) ruleOwnCard

/-- THE SECOND FORM's CARD OF 'galleylaw06.RuleCuts'. -/
def ruleCutsUptoCard : Claim7 := { stood := { row := ruleCutsUptoRow, standIns := [], harness := (true, "2e0f94bdc95134c0ab4c8c7f552f8416570a6620c570900f6dd1f336a687f476"), looks := false }, kinds := [], alts := [], laidByText := true, laidKinds := [.data], laidTests := true, laidLooks := .later }
def RuleCutsUptoCardSaid : Prop := Claim7.holds Tryd.pinned (.plain (OpenSpec.upto ruleCutsSpec)) ruleCutsUptoCard

/-- THE SECOND FORM's CARD OF 'galleylaw06.RuleTables'. -/
def ruleTablesUptoCard : Claim7 := { stood := { row := ruleTablesUptoRow, standIns := [], harness := (true, "2e0f94bdc95134c0ab4c8c7f552f8416570a6620c570900f6dd1f336a687f476"), looks := false }, kinds := [], alts := [], laidByText := true, laidKinds := [.data], laidTests := true, laidLooks := .later }
def RuleTablesUptoCardSaid : Prop := Claim7.holds Tryd.pinned (.plain (OpenSpec.upto ruleTablesSpec)) ruleTablesUptoCard

/-- THE SECOND FORM's CARD OF 'galleylaw06.RuleBack'. -/
def ruleBackUptoCard : Claim7 := { stood := { row := ruleBackUptoRow, standIns := [], harness := (true, "2e0f94bdc95134c0ab4c8c7f552f8416570a6620c570900f6dd1f336a687f476"), looks := false }, kinds := [], alts := [], laidByText := true, laidKinds := [.data], laidTests := true, laidLooks := .later }
def RuleBackUptoCardSaid : Prop := Claim7.holds Tryd.pinned (.plain (OpenSpec.upto ruleBackSpec)) ruleBackUptoCard

/-- THE SECOND FORM's CARD OF 'galleylaw06.RuleRises'. -/
def ruleRisesUptoCard : Claim7 := { stood := { row := ruleRisesUptoRow, standIns := [], harness := (true, "2e0f94bdc95134c0ab4c8c7f552f8416570a6620c570900f6dd1f336a687f476"), looks := false }, kinds := [], alts := [], laidByText := true, laidKinds := [.data], laidTests := true, laidLooks := .later }
def RuleRisesUptoCardSaid : Prop := Claim7.holds Tryd.pinned (.plain (OpenSpec.upto ruleRisesSpec)) ruleRisesUptoCard

/-- THE SECOND FORM's CARD OF 'galleylaw06.RuleAdds'. -/
def ruleAddsUptoCard : Claim7 := { stood := { row := ruleAddsUptoRow, standIns := [], harness := (true, "2e0f94bdc95134c0ab4c8c7f552f8416570a6620c570900f6dd1f336a687f476"), looks := false }, kinds := [], alts := [], laidByText := true, laidKinds := [.data], laidTests := true, laidLooks := .later }
def RuleAddsUptoCardSaid : Prop := Claim7.holds Tryd.pinned (.plain (OpenSpec.upto ruleAddsSpec)) ruleAddsUptoCard

/-- THE SECOND FORM's CARD OF 'galleylaw06.RuleOwn'. -/
def ruleOwnUptoCard : Claim7 := { stood := { row := ruleOwnUptoRow, standIns := [], harness := (true, "2e0f94bdc95134c0ab4c8c7f552f8416570a6620c570900f6dd1f336a687f476"), looks := false }, kinds := [], alts := [], laidByText := true, laidKinds := [.data], laidTests := true, laidLooks := .later }
def RuleOwnUptoCardSaid : Prop := Claim7.holds Tryd.pinned (.plain (OpenSpec.upto ruleOwnSpec)) ruleOwnUptoCard
end Rows
end Go.Proofs.YtnkeohiibninfabDoor
