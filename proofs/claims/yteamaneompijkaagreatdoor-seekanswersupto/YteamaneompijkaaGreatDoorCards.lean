/-
  DERIVED. GIVEN WITH THE SEED: THE CARDS: each row of YteamaneompijkaaGreatDoorRows.lean that lists a variable, with what it lists TIED to the program's text (the seventh form; the later family's looks); each row that meets fmt, with fmt's text TOLD by the authors' own Lean function (tested against real Go, not proved from fmt's source: count such statements apart). THE CARD IS WHAT COUNTS. Prove the row's statement (the work); the ties are given (YteamaneompijkaaGreatDoorTie.lean); close each card by the builder's one call (the guide's Derived/Test/ToyasCard.lean, 'card_holds'). Laid BY PROGRAM, IN A SANDBOX (cutbox-door.mjs). By AI agents, Wed Nov 11 2026. No macro, syntax, notation, axiom, sorry.
-/
import Derived.Test.YteamaneompijkaaGreatDoorRows
import GoSem.ClaimSeven
namespace Go.Proofs.YteamaneompijkaaGreatDoor
namespace Rows

/-- THE TIED CARD OF 'galleylaw10.SeekAnswers'. -/
def seekAnswersCard : Claim7 := { stood := { row := seekAnswersRow, standIns := [], harness := (true, "da5e988a3f639ad922ede877f3f9270b1250da32a349a79b4306d61ff7133092"), looks := true }, kinds := [], alts := [], laidByText := true, laidKinds := [.data, .data, .pinned], laidTests := true, laidLooks := .later }
def SeekAnswersCardSaid : Prop := Claim7.holds Tryz.pinned (.plain (OpenSpec.ofChange seekAnswersSpec)) seekAnswersCard

/-- THE TIED CARD OF 'galleylaw10.SeekLong'. -/
def seekLongCard : Claim7 := { stood := { row := seekLongRow, standIns := [], harness := (true, "da5e988a3f639ad922ede877f3f9270b1250da32a349a79b4306d61ff7133092"), looks := true }, kinds := [], alts := [], laidByText := true, laidKinds := [.data, .data, .pinned], laidTests := true, laidLooks := .later }
def SeekLongCardSaid : Prop := Claim7.holds Tryz.pinned (.plain (OpenSpec.ofChange seekLongSpec)) seekLongCard

/-- THE TIED CARD OF 'galleylaw10.SeekOwn'. -/
def seekOwnCard : Claim7 := { stood := { row := seekOwnRow, standIns := [], harness := (true, "da5e988a3f639ad922ede877f3f9270b1250da32a349a79b4306d61ff7133092"), looks := true }, kinds := [], alts := [], laidByText := true, laidKinds := [.data, .data, .pinned], laidTests := true, laidLooks := .later }
def SeekOwnCardSaid : Prop := Claim7.holds Tryz.pinned (.plain (OpenSpec.ofChange seekOwnSpec)) seekOwnCard

/-- THE SECOND FORM's CARD OF 'galleylaw10.SeekAnswers'. -/
def seekAnswersUptoCard : Claim7 := { stood := { row := seekAnswersUptoRow, standIns := [], harness := (true, "da5e988a3f639ad922ede877f3f9270b1250da32a349a79b4306d61ff7133092"), looks := true }, kinds := [], alts := [], laidByText := true, laidKinds := [.data, .data, .pinned], laidTests := true, laidLooks := .later }
def SeekAnswersUptoCardSaid : Prop := Claim7.holds Tryz.pinned (.plain (OpenSpec.upto seekAnswersSpec)) seekAnswersUptoCard

/-- THE SECOND FORM's CARD OF 'galleylaw10.SeekLong'. -/
def seekLongUptoCard : Claim7 := { stood := { row := seekLongUptoRow, standIns := [], harness := (true, "da5e988a3f639ad922ede877f3f9270b1250da32a349a79b4306d61ff7133092"), looks := true }, kinds := [], alts := [], laidByText := true, laidKinds := [.data, .data, .pinned], laidTests := true, laidLooks := .later }
def SeekLongUptoCardSaid : Prop := Claim7.holds Tryz.pinned (.plain (OpenSpec.upto seekLongSpec)) seekLongUptoCard

/-- THE SECOND FORM's CARD OF 'galleylaw10.SeekOwn'. -/
def seekOwnUptoCard : Claim7 := { stood := { row := seekOwnUptoRow, standIns := [], harness := (true, "da5e988a3f639ad922ede877f3f9270b1250da32a349a79b4306d61ff7133092"), looks := true }, kinds := [], alts := [], laidByText := true, laidKinds := [.data, .data, .pinned], laidTests := true, laidLooks := .later }
def SeekOwnUptoCardSaid : Prop := Claim7.holds Tryz.pinned (.plain (OpenSpec.upto seekOwnSpec)) seekOwnUptoCard
end Rows
end Go.Proofs.YteamaneompijkaaGreatDoor
