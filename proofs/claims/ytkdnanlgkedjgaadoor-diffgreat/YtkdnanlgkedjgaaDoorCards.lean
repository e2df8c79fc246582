/-
  DERIVED. GIVEN WITH THE SEED: THE CARDS: each row of YtkdnanlgkedjgaaDoorRows.lean that lists a variable, with what it lists TIED to the program's text (the seventh form; the later family's looks); each row that meets fmt, with fmt's text TOLD by the authors' own Lean function (tested against real Go, not proved from fmt's source: count such statements apart). THE CARD IS WHAT COUNTS. Prove the row's statement (the work); the ties are given (YtkdnanlgkedjgaaDoorTie.lean); close each card by the builder's one call (the guide's Derived/Test/ToyasCard.lean, 'card_holds'). Laid BY PROGRAM, IN A SANDBOX (cutbox-door.mjs). By AI agents, Wed Nov 11 2026. No macro, syntax, notation, axiom, sorry.
-/
import Derived.Test.YtkdnanlgkedjgaaDoorRows
import GoSem.ClaimSeven
namespace Go.Proofs.YtkdnanlgkedjgaaDoor
namespace Rows

/-- THE TIED CARD OF 'galleylaw19.DiffDistance'. -/
def diffDistanceCard : Claim7 := { stood := { row := diffDistanceRow, standIns := [], harness := (true, "517715a1d582b2280d3cced37828dc01ffd2b55822d9c21ab20ce12f9581f84e"), looks := false }, kinds := [], alts := [], laidByText := true, laidKinds := [.data], laidTests := true, laidLooks := .later }
def DiffDistanceCardSaid : Prop := Claim7.holds Tryd.pinned (.plain (OpenSpec.ofChange diffDistanceSpec)) diffDistanceCard

/-- THE TIED CARD OF 'galleylaw19.DiffGreat'. -/
def diffGreatCard : Claim7 := { stood := { row := diffGreatRow, standIns := [], harness := (true, "517715a1d582b2280d3cced37828dc01ffd2b55822d9c21ab20ce12f9581f84e"), looks := false }, kinds := [], alts := [], laidByText := true, laidKinds := [.data], laidTests := true, laidLooks := .later }
def DiffGreatCardSaid : Prop := Claim7.holds Tryd.pinned (.plain (OpenSpec.ofChange diffGreatSpec)) diffGreatCard

/-- THE TIED CARD OF 'galleylaw19.DiffLeast'. -/
def diffLeastCard : Claim7 := { stood := { row := diffLeastRow, standIns := [], harness := (true, "517715a1d582b2280d3cced37828dc01ffd2b55822d9c21ab20ce12f9581f84e"), looks := false }, kinds := [], alts := [], laidByText := true, laidKinds := [.data], laidTests := true, laidLooks := .later }
def DiffLeastCardSaid : Prop := Claim7.holds Tryd.pinned (.plain (OpenSpec.ofChange diffLeastSpec)) diffLeastCard

/-- THE TIED CARD OF 'galleylaw19.DiffLines'. -/
def diffLinesCard : Claim7 := { stood := { row := diffLinesRow, standIns := [], harness := (true, "517715a1d582b2280d3cced37828dc01ffd2b55822d9c21ab20ce12f9581f84e"), looks := false }, kinds := [], alts := [], laidByText := true, laidKinds := [.data], laidTests := true, laidLooks := .later }
def DiffLinesCardSaid : Prop := Claim7.holds Tryd.pinned (.plain (OpenSpec.ofChange diffLinesSpec)) diffLinesCard

/-- THE TIED CARD OF 'galleylaw19.DiffCosts'. -/
def diffCostsCard : Claim7 := { stood := { row := diffCostsRow, standIns := [], harness := (true, "517715a1d582b2280d3cced37828dc01ffd2b55822d9c21ab20ce12f9581f84e"), looks := false }, kinds := [], alts := [], laidByText := true, laidKinds := [.data], laidTests := true, laidLooks := .later }
def DiffCostsCardSaid : Prop := Claim7.holds Tryd.pinned (.plain (OpenSpec.ofChange diffCostsSpec)) diffCostsCard

/-- THE TIED CARD OF 'galleylaw19.DiffMetric'. -/
def diffMetricCard : Claim7 := { stood := { row := diffMetricRow, standIns := [], harness := (true, "517715a1d582b2280d3cced37828dc01ffd2b55822d9c21ab20ce12f9581f84e"), looks := false }, kinds := [], alts := [], laidByText := true, laidKinds := [.data], laidTests := true, laidLooks := .later }
def DiffMetricCardSaid : Prop := Claim7.holds Tryd.pinned (.plain (OpenSpec.ofChange diffMetricSpec)) diffMetricCard

/-- THE SECOND FORM's CARD OF 'galleylaw19.DiffDistance'. -/
def diffDistanceUptoCard : Claim7 := { stood := { row := diffDistanceUptoRow, standIns := [], harness := (true, "517715a1d582b2280d3cced37828dc01ffd2b55822d9c21ab20ce12f9581f84e"), looks := false }, kinds := [], alts := [], laidByText := true, laidKinds := [.data], laidTests := true, laidLooks := .later }
def DiffDistanceUptoCardSaid : Prop := Claim7.holds Tryd.pinned (.plain (OpenSpec.upto diffDistanceSpec)) diffDistanceUptoCard

/-- THE SECOND FORM's CARD OF 'galleylaw19.DiffGreat'. -/
def diffGreatUptoCard : Claim7 := { stood := { row := diffGreatUptoRow, standIns := [], harness := (true, "517715a1d582b2280d3cced37828dc01ffd2b55822d9c21ab20ce12f9581f84e"), looks := false }, kinds := [], alts := [], laidByText := true, laidKinds := [.data], laidTests := true, laidLooks := .later }
def DiffGreatUptoCardSaid : Prop := Claim7.holds Tryd.pinned (.plain (OpenSpec.upto diffGreatSpec)) diffGreatUptoCard

/-- THE SECOND FORM's CARD OF 'galleylaw19.DiffLeast'. -/
def diffLeastUptoCard : Claim7 := { stood := { row := diffLeastUptoRow, standIns := [], harness := (true, "517715a1d582b2280d3cced37828dc01ffd2b55822d9c21ab20ce12f9581f84e"), looks := false }, kinds := [], alts := [], laidByText := true, laidKinds := [.data], laidTests := true, laidLooks := .later }
def DiffLeastUptoCardSaid : Prop := Claim7.holds Tryd.pinned (.plain (OpenSpec.upto diffLeastSpec)) diffLeastUptoCard

/-- THE SECOND FORM's CARD OF 'galleylaw19.DiffLines'. -/
def diffLinesUptoCard : Claim7 := { stood := { row := diffLinesUptoRow, standIns := [], harness := (true, "517715a1d582b2280d3cced37828dc01ffd2b55822d9c21ab20ce12f9581f84e"), looks := false }, kinds := [], alts := [], laidByText := true, laidKinds := [.data], laidTests := true, laidLooks := .later }
def DiffLinesUptoCardSaid : Prop := Claim7.holds Tryd.pinned (.plain (OpenSpec.upto diffLinesSpec)) diffLinesUptoCard

/-- THE SECOND FORM's CARD OF 'galleylaw19.DiffCosts'. -/
def diffCostsUptoCard : Claim7 := { stood := { row := diffCostsUptoRow, standIns := [], harness := (true, "517715a1d582b2280d3cced37828dc01ffd2b55822d9c21ab20ce12f9581f84e"), looks := false }, kinds := [], alts := [], laidByText := true, laidKinds := [.data], laidTests := true, laidLooks := .later }
def DiffCostsUptoCardSaid : Prop := Claim7.holds Tryd.pinned (.plain (OpenSpec.upto diffCostsSpec)) diffCostsUptoCard

/-- THE SECOND FORM's CARD OF 'galleylaw19.DiffMetric'. -/
def diffMetricUptoCard : Claim7 := { stood := { row := diffMetricUptoRow, standIns := [], harness := (true, "517715a1d582b2280d3cced37828dc01ffd2b55822d9c21ab20ce12f9581f84e"), looks := false }, kinds := [], alts := [], laidByText := true, laidKinds := [.data], laidTests := true, laidLooks := .later }
def DiffMetricUptoCardSaid : Prop := Claim7.holds Tryd.pinned (.plain (OpenSpec.upto diffMetricSpec)) diffMetricUptoCard
end Rows
end Go.Proofs.YtkdnanlgkedjgaaDoor
