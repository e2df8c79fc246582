/-
  DERIVED. GIVEN WITH THE SEED: THE CARDS: each row of YtcodpkmhpplamaaGreatDoorRows.lean that lists a variable, with what it lists TIED to the program's text (the seventh form; the later family's looks); each row that meets fmt, with fmt's text TOLD by the authors' own Lean function (tested against real Go, not proved from fmt's source: count such statements apart). THE CARD IS WHAT COUNTS. Prove the row's statement (the work); the ties are given (YtcodpkmhpplamaaGreatDoorTie.lean); close each card by the builder's one call (the guide's Derived/Test/ToyasCard.lean, 'card_holds'). Laid BY PROGRAM, IN A SANDBOX (cutbox-door.mjs). By AI agents, Wed Nov 11 2026. No macro, syntax, notation, axiom, sorry.
-/
import Derived.Test.YtcodpkmhpplamaaGreatDoorRows
import GoSem.ClaimSeven
namespace Go.Proofs.YtcodpkmhpplamaaGreatDoor
namespace Rows

/-- THE TIED CARD OF 'galleylaw09.RopeDepth'. -/
def ropeDepthCard : Claim7 := { stood := { row := ropeDepthRow, standIns := [], harness := (true, "1856decf212a5da9f3c36215cdc4698afb4815eff38eca419a7c79f88fce1882"), looks := true }, kinds := [], alts := [], laidByText := true, laidKinds := [.data, .data, .pinned], laidTests := true, laidLooks := .later }
def RopeDepthCardSaid : Prop := Claim7.holds Tryz.pinned (.plain (OpenSpec.ofChange ropeDepthSpec)) ropeDepthCard

/-- THE TIED CARD OF 'galleylaw09.RopeFirst'. -/
def ropeFirstCard : Claim7 := { stood := { row := ropeFirstRow, standIns := [], harness := (true, "1856decf212a5da9f3c36215cdc4698afb4815eff38eca419a7c79f88fce1882"), looks := true }, kinds := [], alts := [], laidByText := true, laidKinds := [.data, .data, .pinned], laidTests := true, laidLooks := .later }
def RopeFirstCardSaid : Prop := Claim7.holds Tryz.pinned (.plain (OpenSpec.ofChange ropeFirstSpec)) ropeFirstCard

/-- THE SECOND FORM's CARD OF 'galleylaw09.RopeDepth'. -/
def ropeDepthUptoCard : Claim7 := { stood := { row := ropeDepthUptoRow, standIns := [], harness := (true, "1856decf212a5da9f3c36215cdc4698afb4815eff38eca419a7c79f88fce1882"), looks := true }, kinds := [], alts := [], laidByText := true, laidKinds := [.data, .data, .pinned], laidTests := true, laidLooks := .later }
def RopeDepthUptoCardSaid : Prop := Claim7.holds Tryz.pinned (.plain (OpenSpec.upto ropeDepthSpec)) ropeDepthUptoCard

/-- THE SECOND FORM's CARD OF 'galleylaw09.RopeFirst'. -/
def ropeFirstUptoCard : Claim7 := { stood := { row := ropeFirstUptoRow, standIns := [], harness := (true, "1856decf212a5da9f3c36215cdc4698afb4815eff38eca419a7c79f88fce1882"), looks := true }, kinds := [], alts := [], laidByText := true, laidKinds := [.data, .data, .pinned], laidTests := true, laidLooks := .later }
def RopeFirstUptoCardSaid : Prop := Claim7.holds Tryz.pinned (.plain (OpenSpec.upto ropeFirstSpec)) ropeFirstUptoCard
end Rows
end Go.Proofs.YtcodpkmhpplamaaGreatDoor
