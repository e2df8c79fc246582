/-
  DERIVED. GIVEN WITH THE SEED: THE CARDS: each row of YtniafnilgohgdabDoorRows.lean that lists a variable, with what it lists TIED to the program's text (the seventh form; the later family's looks); each row that meets fmt, with fmt's text TOLD by the authors' own Lean function (tested against real Go, not proved from fmt's source: count such statements apart). THE CARD IS WHAT COUNTS. Prove the row's statement (the work); the ties are given (YtniafnilgohgdabDoorTie.lean); close each card by the builder's one call (the guide's Derived/Test/ToyasCard.lean, 'card_holds'). Laid BY PROGRAM, IN A SANDBOX (cutbox-door.mjs). By AI agents, Wed Nov 11 2026. No macro, syntax, notation, axiom, sorry.
-/
import Derived.Test.YtniafnilgohgdabDoorRows
import GoSem.ClaimSeven
namespace Go.Proofs.YtniafnilgohgdabDoor
namespace Rows

/-- THE TIED CARD OF 'galleylaw05.WeldBytes'. -/
def weldBytesCard : Claim7 := { stood := { row := weldBytesRow, standIns := [], harness := (true, "4f703c8153c458145a923cf4c63105037d467ddb88b467236a4451c9be093297"), looks := false }, kinds := [], alts := [], laidByText := true, laidKinds := [.data, .data, .pinned], laidTests := true, laidLooks := .later }
def WeldBytesCardSaid : Prop := Claim7.holds Tryd.pinned (.plain (OpenSpec.ofChange weldBytesSpec)) weldBytesCard

/-- THE SECOND FORM's CARD OF 'galleylaw05.WeldBytes'. -/
def weldBytesUptoCard : Claim7 := { stood := { row := weldBytesUptoRow, standIns := [], harness := (true, "4f703c8153c458145a923cf4c63105037d467ddb88b467236a4451c9be093297"), looks := false }, kinds := [], alts := [], laidByText := true, laidKinds := [.data, .data, .pinned], laidTests := true, laidLooks := .later }
def WeldBytesUptoCardSaid : Prop := Claim7.holds Tryd.pinned (.plain (OpenSpec.upto weldBytesSpec)) weldBytesUptoCard
end Rows
end Go.Proofs.YtniafnilgohgdabDoor
