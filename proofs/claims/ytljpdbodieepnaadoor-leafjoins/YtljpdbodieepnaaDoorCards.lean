/-
  DERIVED. GIVEN WITH THE SEED: THE CARDS: each row of YtljpdbodieepnaaDoorRows.lean that lists a variable, with what it lists TIED to the program's text (the seventh form; the later family's looks); each row that meets fmt, with fmt's text TOLD by the authors' own Lean function (tested against real Go, not proved from fmt's source: count such statements apart). THE CARD IS WHAT COUNTS. Prove the row's statement (the work); the ties are given (YtljpdbodieepnaaDoorTie.lean); close each card by the builder's one call (the guide's Derived/Test/ToyasCard.lean, 'card_holds'). Laid BY PROGRAM, IN A SANDBOX (cutbox-door.mjs). By AI agents, Wed Nov 11 2026. No macro, syntax, notation, axiom, sorry.
-/
import Derived.Test.YtljpdbodieepnaaDoorRows
import GoSem.ClaimSeven
namespace Go.Proofs.YtljpdbodieepnaaDoor
namespace Rows

/-- THE TIED CARD OF 'galleylaw08.LeafNames'. -/
def leafNamesCard : Claim7 := { stood := { row := leafNamesRow, standIns := [], harness := (true, "88a0df9a547d4f58886455322ae1c2555d4716520e1c47f3e0d484851de04420"), looks := false }, kinds := [], alts := [], laidByText := true, laidKinds := [.data, .data, .pinned], laidTests := true, laidLooks := .later }
def LeafNamesCardSaid : Prop := Claim7.holds Tryd.pinned (.plain (OpenSpec.ofChange leafNamesSpec)) leafNamesCard

/-- THE TIED CARD OF 'galleylaw08.LeafCuts'. -/
def leafCutsCard : Claim7 := { stood := { row := leafCutsRow, standIns := [], harness := (true, "88a0df9a547d4f58886455322ae1c2555d4716520e1c47f3e0d484851de04420"), looks := false }, kinds := [], alts := [], laidByText := true, laidKinds := [.data, .data, .pinned], laidTests := true, laidLooks := .later }
def LeafCutsCardSaid : Prop := Claim7.holds Tryd.pinned (.plain (OpenSpec.ofChange leafCutsSpec)) leafCutsCard

/-- THE TIED CARD OF 'galleylaw08.LeafBorders'. -/
def leafBordersCard : Claim7 := { stood := { row := leafBordersRow, standIns := [], harness := (true, "88a0df9a547d4f58886455322ae1c2555d4716520e1c47f3e0d484851de04420"), looks := false }, kinds := [], alts := [], laidByText := true, laidKinds := [.data, .data, .pinned], laidTests := true, laidLooks := .later }
def LeafBordersCardSaid : Prop := Claim7.holds Tryd.pinned (.plain (OpenSpec.ofChange leafBordersSpec)) leafBordersCard

/-- THE TIED CARD OF 'galleylaw08.LeafParts'. -/
def leafPartsCard : Claim7 := { stood := { row := leafPartsRow, standIns := [], harness := (true, "88a0df9a547d4f58886455322ae1c2555d4716520e1c47f3e0d484851de04420"), looks := false }, kinds := [], alts := [], laidByText := true, laidKinds := [.data, .data, .pinned], laidTests := true, laidLooks := .later }
def LeafPartsCardSaid : Prop := Claim7.holds Tryd.pinned (.plain (OpenSpec.ofChange leafPartsSpec)) leafPartsCard

/-- THE TIED CARD OF 'galleylaw08.LeafJoins'. -/
def leafJoinsCard : Claim7 := { stood := { row := leafJoinsRow, standIns := [], harness := (true, "88a0df9a547d4f58886455322ae1c2555d4716520e1c47f3e0d484851de04420"), looks := false }, kinds := [], alts := [], laidByText := true, laidKinds := [.data, .data, .pinned], laidTests := true, laidLooks := .later }
def LeafJoinsCardSaid : Prop := Claim7.holds Tryd.pinned (.plain (OpenSpec.ofChange leafJoinsSpec)) leafJoinsCard

/-- THE TIED CARD OF 'galleylaw08.LeafNil'. -/
def leafNilCard : Claim7 := { stood := { row := leafNilRow, standIns := [], harness := (true, "88a0df9a547d4f58886455322ae1c2555d4716520e1c47f3e0d484851de04420"), looks := false }, kinds := [], alts := [], laidByText := true, laidKinds := [.data, .data, .pinned], laidTests := true, laidLooks := .later }
def LeafNilCardSaid : Prop := Claim7.holds Tryd.pinned (.plain (OpenSpec.ofChange leafNilSpec)) leafNilCard

/-- THE SECOND FORM's CARD OF 'galleylaw08.LeafNames'. -/
def leafNamesUptoCard : Claim7 := { stood := { row := leafNamesUptoRow, standIns := [], harness := (true, "88a0df9a547d4f58886455322ae1c2555d4716520e1c47f3e0d484851de04420"), looks := false }, kinds := [], alts := [], laidByText := true, laidKinds := [.data, .data, .pinned], laidTests := true, laidLooks := .later }
def LeafNamesUptoCardSaid : Prop := Claim7.holds Tryd.pinned (.plain (OpenSpec.upto leafNamesSpec)) leafNamesUptoCard

/-- THE SECOND FORM's CARD OF 'galleylaw08.LeafCuts'. -/
def leafCutsUptoCard : Claim7 := { stood := { row := leafCutsUptoRow, standIns := [], harness := (true, "88a0df9a547d4f58886455322ae1c2555d4716520e1c47f3e0d484851de04420"), looks := false }, kinds := [], alts := [], laidByText := true, laidKinds := [.data, .data, .pinned], laidTests := true, laidLooks := .later }
def LeafCutsUptoCardSaid : Prop := Claim7.holds Tryd.pinned (.plain (OpenSpec.upto leafCutsSpec)) leafCutsUptoCard

/-- THE SECOND FORM's CARD OF 'galleylaw08.LeafBorders'. -/
def leafBordersUptoCard : Claim7 := { stood := { row := leafBordersUptoRow, standIns := [], harness := (true, "88a0df9a547d4f58886455322ae1c2555d4716520e1c47f3e0d484851de04420"), looks := false }, kinds := [], alts := [], laidByText := true, laidKinds := [.data, .data, .pinned], laidTests := true, laidLooks := .later }
def LeafBordersUptoCardSaid : Prop := Claim7.holds Tryd.pinned (.plain (OpenSpec.upto leafBordersSpec)) leafBordersUptoCard

/-- THE SECOND FORM's CARD OF 'galleylaw08.LeafParts'. -/
def leafPartsUptoCard : Claim7 := { stood := { row := leafPartsUptoRow, standIns := [], harness := (true, "88a0df9a547d4f58886455322ae1c2555d4716520e1c47f3e0d484851de04420"), looks := false }, kinds := [], alts := [], laidByText := true, laidKinds := [.data, .data, .pinned], laidTests := true, laidLooks := .later }
def LeafPartsUptoCardSaid : Prop := Claim7.holds Tryd.pinned (.plain (OpenSpec.upto leafPartsSpec)) leafPartsUptoCard

/-- THE SECOND FORM's CARD OF 'galleylaw08.LeafJoins'. -/
def leafJoinsUptoCard : Claim7 := { stood := { row := leafJoinsUptoRow, standIns := [], harness := (true, "88a0df9a547d4f58886455322ae1c2555d4716520e1c47f3e0d484851de04420"), looks := false }, kinds := [], alts := [], laidByText := true, laidKinds := [.data, .data, .pinned], laidTests := true, laidLooks := .later }
def LeafJoinsUptoCardSaid : Prop := Claim7.holds Tryd.pinned (.plain (OpenSpec.upto leafJoinsSpec)) leafJoinsUptoCard

/-- THE SECOND FORM's CARD OF 'galleylaw08.LeafNil'. -/
def leafNilUptoCard : Claim7 := { stood := { row := leafNilUptoRow, standIns := [], harness := (true, "88a0df9a547d4f58886455322ae1c2555d4716520e1c47f3e0d484851de04420"), looks := false }, kinds := [], alts := [], laidByText := true, laidKinds := [.data, .data, .pinned], laidTests := true, laidLooks := .later }
def LeafNilUptoCardSaid : Prop := Claim7.holds Tryd.pinned (.plain (OpenSpec.upto leafNilSpec)) leafNilUptoCard
end Rows
end Go.Proofs.YtljpdbodieepnaaDoor
