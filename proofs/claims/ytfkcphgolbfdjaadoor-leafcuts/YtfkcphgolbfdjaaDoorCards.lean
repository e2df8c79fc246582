/-
  DERIVED. GIVEN WITH THE SEED: THE CARDS: each row of YtfkcphgolbfdjaaDoorRows.lean that lists a variable, with what it lists TIED to the program's text (the seventh form; the later family's looks); each row that meets fmt, with fmt's text TOLD by the authors' own Lean function (tested against real Go, not proved from fmt's source: count such statements apart). THE CARD IS WHAT COUNTS. Prove the row's statement (the work); the ties are given (YtfkcphgolbfdjaaDoorTie.lean); close each card by the builder's one call (the guide's Derived/Test/ToyasCard.lean, 'card_holds'). Laid BY PROGRAM, IN A SANDBOX (cutbox-door.mjs). By AI agents, Wed Nov 11 2026. No macro, syntax, notation, axiom, sorry.
-/
import Derived.Test.YtfkcphgolbfdjaaDoorRows
import GoSem.ClaimSeven
namespace Go.Proofs.YtfkcphgolbfdjaaDoor
namespace Rows

/-- THE TIED CARD OF 'galleylaw08.LeafCuts'. -/
def leafCutsCard : Claim7 := { stood := { row := leafCutsRow, standIns := [], harness := (true, "48d541b38d4f57083bdea0c7be8a4ff49e35739082093593d2db5d937c4436f7"), looks := false }, kinds := [], alts := [], laidByText := true, laidKinds := [.data, .data, .pinned], laidTests := true, laidLooks := .later }
def LeafCutsCardSaid : Prop := Claim7.holds Tryd.pinned (.plain (OpenSpec.ofChange leafCutsSpec)) leafCutsCard

/-- THE TIED CARD OF 'galleylaw08.LeafBorders'. -/
def leafBordersCard : Claim7 := { stood := { row := leafBordersRow, standIns := [], harness := (true, "48d541b38d4f57083bdea0c7be8a4ff49e35739082093593d2db5d937c4436f7"), looks := false }, kinds := [], alts := [], laidByText := true, laidKinds := [.data, .data, .pinned], laidTests := true, laidLooks := .later }
def LeafBordersCardSaid : Prop := Claim7.holds Tryd.pinned (.plain (OpenSpec.ofChange leafBordersSpec)) leafBordersCard

/-- THE TIED CARD OF 'galleylaw08.LeafParts'. -/
def leafPartsCard : Claim7 := { stood := { row := leafPartsRow, standIns := [], harness := (true, "48d541b38d4f57083bdea0c7be8a4ff49e35739082093593d2db5d937c4436f7"), looks := false }, kinds := [], alts := [], laidByText := true, laidKinds := [.data, .data, .pinned], laidTests := true, laidLooks := .later }
def LeafPartsCardSaid : Prop := Claim7.holds Tryd.pinned (.plain (OpenSpec.ofChange leafPartsSpec)) leafPartsCard

/-- THE TIED CARD OF 'galleylaw08.LeafMemory'. -/
def leafMemoryCard : Claim7 := { stood := { row := leafMemoryRow, standIns := [], harness := (true, "48d541b38d4f57083bdea0c7be8a4ff49e35739082093593d2db5d937c4436f7"), looks := false }, kinds := [], alts := [], laidByText := true, laidKinds := [.data, .data, .pinned], laidTests := true, laidLooks := .later }
def LeafMemoryCardSaid : Prop := Claim7.holds Tryd.pinned (.plain (OpenSpec.ofChange leafMemorySpec)) leafMemoryCard

/-- THE SECOND FORM's CARD OF 'galleylaw08.LeafCuts'. -/
def leafCutsUptoCard : Claim7 := { stood := { row := leafCutsUptoRow, standIns := [], harness := (true, "48d541b38d4f57083bdea0c7be8a4ff49e35739082093593d2db5d937c4436f7"), looks := false }, kinds := [], alts := [], laidByText := true, laidKinds := [.data, .data, .pinned], laidTests := true, laidLooks := .later }
def LeafCutsUptoCardSaid : Prop := Claim7.holds Tryd.pinned (.plain (OpenSpec.upto leafCutsSpec)) leafCutsUptoCard

/-- THE SECOND FORM's CARD OF 'galleylaw08.LeafBorders'. -/
def leafBordersUptoCard : Claim7 := { stood := { row := leafBordersUptoRow, standIns := [], harness := (true, "48d541b38d4f57083bdea0c7be8a4ff49e35739082093593d2db5d937c4436f7"), looks := false }, kinds := [], alts := [], laidByText := true, laidKinds := [.data, .data, .pinned], laidTests := true, laidLooks := .later }
def LeafBordersUptoCardSaid : Prop := Claim7.holds Tryd.pinned (.plain (OpenSpec.upto leafBordersSpec)) leafBordersUptoCard

/-- THE SECOND FORM's CARD OF 'galleylaw08.LeafParts'. -/
def leafPartsUptoCard : Claim7 := { stood := { row := leafPartsUptoRow, standIns := [], harness := (true, "48d541b38d4f57083bdea0c7be8a4ff49e35739082093593d2db5d937c4436f7"), looks := false }, kinds := [], alts := [], laidByText := true, laidKinds := [.data, .data, .pinned], laidTests := true, laidLooks := .later }
def LeafPartsUptoCardSaid : Prop := Claim7.holds Tryd.pinned (.plain (OpenSpec.upto leafPartsSpec)) leafPartsUptoCard

/-- THE SECOND FORM's CARD OF 'galleylaw08.LeafMemory'. -/
def leafMemoryUptoCard : Claim7 := { stood := { row := leafMemoryUptoRow, standIns := [], harness := (true, "48d541b38d4f57083bdea0c7be8a4ff49e35739082093593d2db5d937c4436f7"), looks := false }, kinds := [], alts := [], laidByText := true, laidKinds := [.data, .data, .pinned], laidTests := true, laidLooks := .later }
def LeafMemoryUptoCardSaid : Prop := Claim7.holds Tryd.pinned (.plain (OpenSpec.upto leafMemorySpec)) leafMemoryUptoCard
end Rows
end Go.Proofs.YtfkcphgolbfdjaaDoor
