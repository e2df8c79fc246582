/-
  DERIVED. GIVEN WITH THE SEED: THE CARDS: each row of YtbkageelholpeaaDoorRows.lean that lists a variable, with what it lists TIED to the program's text (the seventh form; the later family's looks); each row that meets fmt, with fmt's text TOLD by the authors' own Lean function (tested against real Go, not proved from fmt's source: count such statements apart). THE CARD IS WHAT COUNTS. Prove the row's statement (the work); the ties are given (YtbkageelholpeaaDoorTie.lean); close each card by the builder's one call (the guide's Derived/Test/ToyasCard.lean, 'card_holds'). Laid BY PROGRAM, IN A SANDBOX (cutbox-door.mjs). By AI agents, Wed Nov 11 2026. No macro, syntax, notation, axiom, sorry.
-/
import Derived.Test.YtbkageelholpeaaDoorRows
import GoSem.ClaimSeven
namespace Go.Proofs.YtbkageelholpeaaDoor
namespace Rows

/-- THE TIED CARD OF 'galleylaw02.StepKeeps'. -/
def stepKeepsCard : Claim7 := { stood := { row := stepKeepsRow, standIns := [], harness := (true, "353962bb18f77dde18cd2504df5a62a6a6c3dc378c5c47cd3d98f11d77b7d848"), looks := false }, kinds := [], alts := [], laidByText := true, laidKinds := [.data], laidTests := true, laidLooks := .later }
def StepKeepsCardSaid : Prop := Claim7.holds Tryd.pinned (.plain (OpenSpec.ofChange stepKeepsSpec)) stepKeepsCard

/-- THE SECOND FORM's CARD OF 'galleylaw02.StepKeeps'. -/
def stepKeepsUptoCard : Claim7 := { stood := { row := stepKeepsUptoRow, standIns := [], harness := (true, "353962bb18f77dde18cd2504df5a62a6a6c3dc378c5c47cd3d98f11d77b7d848"), looks := false }, kinds := [], alts := [], laidByText := true, laidKinds := [.data], laidTests := true, laidLooks := .later }
def StepKeepsUptoCardSaid : Prop := Claim7.holds Tryd.pinned (.plain (OpenSpec.upto stepKeepsSpec)) stepKeepsUptoCard
end Rows
end Go.Proofs.YtbkageelholpeaaDoor
