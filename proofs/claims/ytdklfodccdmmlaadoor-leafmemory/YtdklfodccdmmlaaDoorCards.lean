/-
  DERIVED. GIVEN WITH THE SEED: THE CARDS: each row of YtdklfodccdmmlaaDoorRows.lean that lists a variable, with what it lists TIED to the program's text (the seventh form; the later family's looks); each row that meets fmt, with fmt's text TOLD by the authors' own Lean function (tested against real Go, not proved from fmt's source: count such statements apart). THE CARD IS WHAT COUNTS. Prove the row's statement (the work); the ties are given (YtdklfodccdmmlaaDoorTie.lean); close each card by the builder's one call (the guide's Derived/Test/ToyasCard.lean, 'card_holds'). Laid BY PROGRAM, IN A SANDBOX (cutbox-door.mjs). By AI agents, Wed Nov 11 2026. No macro, syntax, notation, axiom, sorry.
-/
import Derived.Test.YtdklfodccdmmlaaDoorRows
import GoSem.ClaimSeven
namespace Go.Proofs.YtdklfodccdmmlaaDoor
namespace Rows

/-- THE TIED CARD OF 'galleylaw08.LeafMemory'. -/
def leafMemoryCard : Claim7 := { stood := { row := leafMemoryRow, standIns := [], harness := (true, "8621787ad72473a7289c29aafe16aa66b6b9da0faa270ff2bea713dd3792b35b"), looks := false }, kinds := [], alts := [], laidByText := true, laidKinds := [.data, .data, .pinned], laidTests := true, laidLooks := .later }
def LeafMemoryCardSaid : Prop := Claim7.holds Tryd.pinned (.plain (OpenSpec.ofChange leafMemorySpec)) leafMemoryCard

/-- THE SECOND FORM's CARD OF 'galleylaw08.LeafMemory'. -/
def leafMemoryUptoCard : Claim7 := { stood := { row := leafMemoryUptoRow, standIns := [], harness := (true, "8621787ad72473a7289c29aafe16aa66b6b9da0faa270ff2bea713dd3792b35b"), looks := false }, kinds := [], alts := [], laidByText := true, laidKinds := [.data, .data, .pinned], laidTests := true, laidLooks := .later }
def LeafMemoryUptoCardSaid : Prop := Claim7.holds Tryd.pinned (.plain (OpenSpec.upto leafMemorySpec)) leafMemoryUptoCard
end Rows
end Go.Proofs.YtdklfodccdmmlaaDoor
