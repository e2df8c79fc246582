/-
  DERIVED. GIVEN WITH THE SEED: THE CARDS: each row of YtcodpkmhpplamaaDoorRows.lean that lists a variable, with what it lists TIED to the program's text (the seventh form; the later family's looks); each row that meets fmt, with fmt's text TOLD by the authors' own Lean function (tested against real Go, not proved from fmt's source: count such statements apart). THE CARD IS WHAT COUNTS. Prove the row's statement (the work); the ties are given (YtcodpkmhpplamaaDoorTie.lean); close each card by the builder's one call (the guide's Derived/Test/ToyasCard.lean, 'card_holds'). Laid BY PROGRAM, IN A SANDBOX (cutbox-door.mjs). By AI agents, Wed Nov 11 2026. No macro, syntax, notation, axiom, sorry.
-/
import Derived.Test.YtcodpkmhpplamaaDoorRows
import GoSem.ClaimSeven
namespace Go.Proofs.YtcodpkmhpplamaaDoor
namespace Rows

/-- THE TIED CARD OF 'galleylaw09.RopeSame'. -/
def ropeSameCard : Claim7 := { stood := { row := ropeSameRow, standIns := [], harness := (true, "afe773c22b62e0c3aa4bf5c073270284fcfef57db3d13058ccd0faa3a18dedd9"), looks := true }, kinds := [], alts := [], laidByText := true, laidKinds := [.data, .data, .pinned], laidTests := true, laidLooks := .later }
def RopeSameCardSaid : Prop := Claim7.holds Tryd.pinned (.plain (OpenSpec.ofChange ropeSameSpec)) ropeSameCard

/-- THE TIED CARD OF 'galleylaw09.RopePieces'. -/
def ropePiecesCard : Claim7 := { stood := { row := ropePiecesRow, standIns := [], harness := (true, "afe773c22b62e0c3aa4bf5c073270284fcfef57db3d13058ccd0faa3a18dedd9"), looks := true }, kinds := [], alts := [], laidByText := true, laidKinds := [.data, .data, .pinned], laidTests := true, laidLooks := .later }
def RopePiecesCardSaid : Prop := Claim7.holds Tryd.pinned (.plain (OpenSpec.ofChange ropePiecesSpec)) ropePiecesCard

/-- THE SECOND FORM's CARD OF 'galleylaw09.RopeSame'. -/
def ropeSameUptoCard : Claim7 := { stood := { row := ropeSameUptoRow, standIns := [], harness := (true, "afe773c22b62e0c3aa4bf5c073270284fcfef57db3d13058ccd0faa3a18dedd9"), looks := true }, kinds := [], alts := [], laidByText := true, laidKinds := [.data, .data, .pinned], laidTests := true, laidLooks := .later }
def RopeSameUptoCardSaid : Prop := Claim7.holds Tryd.pinned (.plain (OpenSpec.upto ropeSameSpec)) ropeSameUptoCard

/-- THE SECOND FORM's CARD OF 'galleylaw09.RopePieces'. -/
def ropePiecesUptoCard : Claim7 := { stood := { row := ropePiecesUptoRow, standIns := [], harness := (true, "afe773c22b62e0c3aa4bf5c073270284fcfef57db3d13058ccd0faa3a18dedd9"), looks := true }, kinds := [], alts := [], laidByText := true, laidKinds := [.data, .data, .pinned], laidTests := true, laidLooks := .later }
def RopePiecesUptoCardSaid : Prop := Claim7.holds Tryd.pinned (.plain (OpenSpec.upto ropePiecesSpec)) ropePiecesUptoCard
end Rows
end Go.Proofs.YtcodpkmhpplamaaDoor
