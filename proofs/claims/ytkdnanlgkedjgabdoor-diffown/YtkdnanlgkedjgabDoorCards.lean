/-
  DERIVED. GIVEN WITH THE SEED: THE CARDS: each row of YtkdnanlgkedjgabDoorRows.lean that lists a variable, with what it lists TIED to the program's text (the seventh form; the later family's looks); each row that meets fmt, with fmt's text TOLD by the authors' own Lean function (tested against real Go, not proved from fmt's source: count such statements apart). THE CARD IS WHAT COUNTS. Prove the row's statement (the work); the ties are given (YtkdnanlgkedjgabDoorTie.lean); close each card by the builder's one call (the guide's Derived/Test/ToyasCard.lean, 'card_holds'). Laid BY PROGRAM, IN A SANDBOX (cutbox-door.mjs). By AI agents, Wed Nov 11 2026. No macro, syntax, notation, axiom, sorry.
-/
import Derived.Test.YtkdnanlgkedjgabDoorRows
import GoSem.ClaimSeven
namespace Go.Proofs.YtkdnanlgkedjgabDoor
namespace Rows

/-- THE TIED CARD OF 'galleylaw19.DiffNoLess'. -/
def diffNoLessCard : Claim7 := { stood := { row := diffNoLessRow, standIns := [], harness := (true, "84572e2cf78cc1f0c43d64b261c93286845fc05c6fe19abff3c75dee859aad58"), looks := false }, kinds := [], alts := [], laidByText := true, laidKinds := [.data], laidTests := true, laidLooks := .later }
def DiffNoLessCardSaid : Prop := Claim7.holds Tryd.pinned (.plain (OpenSpec.ofChange diffNoLessSpec)) diffNoLessCard

/-- THE TIED CARD OF 'galleylaw19.DiffOwn'. -/
def diffOwnCard : Claim7 := { stood := { row := diffOwnRow, standIns := [], harness := (true, "84572e2cf78cc1f0c43d64b261c93286845fc05c6fe19abff3c75dee859aad58"), looks := false }, kinds := [], alts := [], laidByText := true, laidKinds := [.data], laidTests := true, laidLooks := .later }
def DiffOwnCardSaid : Prop := Claim7.holds Tryd.pinned (.plain (OpenSpec.ofChange diffOwnSpec)) diffOwnCard

/-- THE SECOND FORM's CARD OF 'galleylaw19.DiffNoLess'. -/
def diffNoLessUptoCard : Claim7 := { stood := { row := diffNoLessUptoRow, standIns := [], harness := (true, "84572e2cf78cc1f0c43d64b261c93286845fc05c6fe19abff3c75dee859aad58"), looks := false }, kinds := [], alts := [], laidByText := true, laidKinds := [.data], laidTests := true, laidLooks := .later }
def DiffNoLessUptoCardSaid : Prop := Claim7.holds Tryd.pinned (.plain (OpenSpec.upto diffNoLessSpec)) diffNoLessUptoCard

/-- THE SECOND FORM's CARD OF 'galleylaw19.DiffOwn'. -/
def diffOwnUptoCard : Claim7 := { stood := { row := diffOwnUptoRow, standIns := [], harness := (true, "84572e2cf78cc1f0c43d64b261c93286845fc05c6fe19abff3c75dee859aad58"), looks := false }, kinds := [], alts := [], laidByText := true, laidKinds := [.data], laidTests := true, laidLooks := .later }
def DiffOwnUptoCardSaid : Prop := Claim7.holds Tryd.pinned (.plain (OpenSpec.upto diffOwnSpec)) diffOwnUptoCard
end Rows
end Go.Proofs.YtkdnanlgkedjgabDoor
