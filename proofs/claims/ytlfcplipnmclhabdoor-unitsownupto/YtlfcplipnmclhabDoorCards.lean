/-
  DERIVED. GIVEN WITH THE SEED: THE CARDS: each row of YtlfcplipnmclhabDoorRows.lean that lists a variable, with what it lists TIED to the program's text (the seventh form; the later family's looks); each row that meets fmt, with fmt's text TOLD by the authors' own Lean function (tested against real Go, not proved from fmt's source: count such statements apart). THE CARD IS WHAT COUNTS. Prove the row's statement (the work); the ties are given (YtlfcplipnmclhabDoorTie.lean); close each card by the builder's one call (the guide's Derived/Test/ToyasCard.lean, 'card_holds'). Laid BY PROGRAM, IN A SANDBOX (cutbox-door.mjs). By AI agents, Wed Nov 11 2026. No macro, syntax, notation, axiom, sorry.
-/
import Derived.Test.YtlfcplipnmclhabDoorRows
import GoSem.ClaimSeven
namespace Go.Proofs.YtlfcplipnmclhabDoor
namespace Rows

/-- THE TIED CARD OF 'galleylaw03.UnitsPairs'. -/
def unitsPairsCard : Claim7 := { stood := { row := unitsPairsRow, standIns := [], harness := (true, "110661441968dfcb5072a8c50f6851208e708c7f952f1f0e680087fba73d6dad"), looks := false }, kinds := [], alts := [], laidByText := true, laidKinds := [.data], laidTests := true, laidLooks := .later }
def UnitsPairsCardSaid : Prop := Claim7.holds Tryd.pinned (.plain (OpenSpec.ofChange unitsPairsSpec)) unitsPairsCard

/-- THE TIED CARD OF 'galleylaw03.UnitsOwn'. -/
def unitsOwnCard : Claim7 := { stood := { row := unitsOwnRow, standIns := [], harness := (true, "110661441968dfcb5072a8c50f6851208e708c7f952f1f0e680087fba73d6dad"), looks := false }, kinds := [], alts := [], laidByText := true, laidKinds := [.data], laidTests := true, laidLooks := .later }
def UnitsOwnCardSaid : Prop := Claim7.holds Tryd.pinned (.plain (OpenSpec.ofChange unitsOwnSpec)) unitsOwnCard

/-- THE SECOND FORM's CARD OF 'galleylaw03.UnitsPairs'. -/
def unitsPairsUptoCard : Claim7 := { stood := { row := unitsPairsUptoRow, standIns := [], harness := (true, "110661441968dfcb5072a8c50f6851208e708c7f952f1f0e680087fba73d6dad"), looks := false }, kinds := [], alts := [], laidByText := true, laidKinds := [.data], laidTests := true, laidLooks := .later }
def UnitsPairsUptoCardSaid : Prop := Claim7.holds Tryd.pinned (.plain (OpenSpec.upto unitsPairsSpec)) unitsPairsUptoCard

/-- THE SECOND FORM's CARD OF 'galleylaw03.UnitsOwn'. -/
def unitsOwnUptoCard : Claim7 := { stood := { row := unitsOwnUptoRow, standIns := [], harness := (true, "110661441968dfcb5072a8c50f6851208e708c7f952f1f0e680087fba73d6dad"), looks := false }, kinds := [], alts := [], laidByText := true, laidKinds := [.data], laidTests := true, laidLooks := .later }
def UnitsOwnUptoCardSaid : Prop := Claim7.holds Tryd.pinned (.plain (OpenSpec.upto unitsOwnSpec)) unitsOwnUptoCard
end Rows
end Go.Proofs.YtlfcplipnmclhabDoor
