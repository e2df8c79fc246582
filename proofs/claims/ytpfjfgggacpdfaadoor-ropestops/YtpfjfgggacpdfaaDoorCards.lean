/-
  DERIVED. GIVEN WITH THE SEED: THE CARDS: each row of YtpfjfgggacpdfaaDoorRows.lean that lists a variable, with what it lists TIED to the program's text (the seventh form; the later family's looks); each row that meets fmt, with fmt's text TOLD by the authors' own Lean function (tested against real Go, not proved from fmt's source: count such statements apart). THE CARD IS WHAT COUNTS. Prove the row's statement (the work); the ties are given (YtpfjfgggacpdfaaDoorTie.lean); close each card by the builder's one call (the guide's Derived/Test/ToyasCard.lean, 'card_holds'). Laid BY PROGRAM, IN A SANDBOX (cutbox-door.mjs). By AI agents, Wed Nov 11 2026. No macro, syntax, notation, axiom, sorry.
-/
import Derived.Test.YtpfjfgggacpdfaaDoorRows
import GoSem.ClaimSeven
namespace Go.Proofs.YtpfjfgggacpdfaaDoor
namespace Rows

/-- THE TIED CARD OF 'galleylaw09.RopeOwn'. -/
def ropeOwnCard : Claim7 := { stood := { row := ropeOwnRow, standIns := [], harness := (true, "2e6dfa0f2c916c88157859c1b5c201263a545bac91b89d979e660f727451a532"), looks := true }, kinds := [], alts := [], laidByText := true, laidKinds := [.data, .data, .pinned], laidTests := true, laidLooks := .later }
def RopeOwnCardSaid : Prop := Claim7.holds Tryd.pinned (.plain (OpenSpec.ofChange ropeOwnSpec)) ropeOwnCard

/-- THE TIED CARD OF 'galleylaw09.RopeStops'. -/
def ropeStopsCard : Claim7 := { stood := { row := ropeStopsRow, standIns := [], harness := (true, "2e6dfa0f2c916c88157859c1b5c201263a545bac91b89d979e660f727451a532"), looks := true }, kinds := [], alts := [], laidByText := true, laidKinds := [.data, .data, .pinned], laidTests := true, laidLooks := .later }
def RopeStopsCardSaid : Prop := Claim7.holds Tryd.pinned (.plain (OpenSpec.ofChange ropeStopsSpec)) ropeStopsCard

/-- THE SECOND FORM's CARD OF 'galleylaw09.RopeOwn'. -/
def ropeOwnUptoCard : Claim7 := { stood := { row := ropeOwnUptoRow, standIns := [], harness := (true, "2e6dfa0f2c916c88157859c1b5c201263a545bac91b89d979e660f727451a532"), looks := true }, kinds := [], alts := [], laidByText := true, laidKinds := [.data, .data, .pinned], laidTests := true, laidLooks := .later }
def RopeOwnUptoCardSaid : Prop := Claim7.holds Tryd.pinned (.plain (OpenSpec.upto ropeOwnSpec)) ropeOwnUptoCard

/-- THE SECOND FORM's CARD OF 'galleylaw09.RopeStops'. -/
def ropeStopsUptoCard : Claim7 := { stood := { row := ropeStopsUptoRow, standIns := [], harness := (true, "2e6dfa0f2c916c88157859c1b5c201263a545bac91b89d979e660f727451a532"), looks := true }, kinds := [], alts := [], laidByText := true, laidKinds := [.data, .data, .pinned], laidTests := true, laidLooks := .later }
def RopeStopsUptoCardSaid : Prop := Claim7.holds Tryd.pinned (.plain (OpenSpec.upto ropeStopsSpec)) ropeStopsUptoCard
end Rows
end Go.Proofs.YtpfjfgggacpdfaaDoor
