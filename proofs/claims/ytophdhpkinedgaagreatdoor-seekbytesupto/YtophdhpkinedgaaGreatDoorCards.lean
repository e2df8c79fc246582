/-
  DERIVED. GIVEN WITH THE SEED: THE CARDS: each row of YtophdhpkinedgaaGreatDoorRows.lean that lists a variable, with what it lists TIED to the program's text (the seventh form; the later family's looks); each row that meets fmt, with fmt's text TOLD by the authors' own Lean function (tested against real Go, not proved from fmt's source: count such statements apart). THE CARD IS WHAT COUNTS. Prove the row's statement (the work); the ties are given (YtophdhpkinedgaaGreatDoorTie.lean); close each card by the builder's one call (the guide's Derived/Test/ToyasCard.lean, 'card_holds'). Laid BY PROGRAM, IN A SANDBOX (cutbox-door.mjs). By AI agents, Wed Nov 11 2026. No macro, syntax, notation, axiom, sorry.
-/
import Derived.Test.YtophdhpkinedgaaGreatDoorRows
import GoSem.ClaimSeven
namespace Go.Proofs.YtophdhpkinedgaaGreatDoor
namespace Rows

/-- THE TIED CARD OF 'galleylaw10.SeekAnswers'. -/
def seekAnswersCard : Claim7 := { stood := { row := seekAnswersRow, standIns := [], harness := (true, "b9d30e6a61a3ab3b0101c3536df95753accf24d6ba8132bcda19f82195da075f"), looks := true }, kinds := [], alts := [], laidByText := true, laidKinds := [.data, .data, .pinned], laidTests := true, laidLooks := .later }
def SeekAnswersCardSaid : Prop := Claim7.holds Tryz.pinned (.plain (OpenSpec.ofChange seekAnswersSpec)) seekAnswersCard

/-- THE TIED CARD OF 'galleylaw10.SeekBytes'. -/
def seekBytesCard : Claim7 := { stood := { row := seekBytesRow, standIns := [], harness := (true, "b9d30e6a61a3ab3b0101c3536df95753accf24d6ba8132bcda19f82195da075f"), looks := true }, kinds := [], alts := [], laidByText := true, laidKinds := [.data, .data, .pinned], laidTests := true, laidLooks := .later }
def SeekBytesCardSaid : Prop := Claim7.holds Tryz.pinned (.plain (OpenSpec.ofChange seekBytesSpec)) seekBytesCard

/-- THE TIED CARD OF 'galleylaw10.SeekLong'. -/
def seekLongCard : Claim7 := { stood := { row := seekLongRow, standIns := [], harness := (true, "b9d30e6a61a3ab3b0101c3536df95753accf24d6ba8132bcda19f82195da075f"), looks := true }, kinds := [], alts := [], laidByText := true, laidKinds := [.data, .data, .pinned], laidTests := true, laidLooks := .later }
def SeekLongCardSaid : Prop := Claim7.holds Tryz.pinned (.plain (OpenSpec.ofChange seekLongSpec)) seekLongCard

/-- THE TIED CARD OF 'galleylaw10.SeekSteps'. -/
def seekStepsCard : Claim7 := { stood := { row := seekStepsRow, standIns := [], harness := (true, "b9d30e6a61a3ab3b0101c3536df95753accf24d6ba8132bcda19f82195da075f"), looks := true }, kinds := [], alts := [], laidByText := true, laidKinds := [.data, .data, .pinned], laidTests := true, laidLooks := .later }
def SeekStepsCardSaid : Prop := Claim7.holds Tryz.pinned (.plain (OpenSpec.ofChange seekStepsSpec)) seekStepsCard

/-- THE TIED CARD OF 'galleylaw10.SeekNil'. -/
def seekNilCard : Claim7 := { stood := { row := seekNilRow, standIns := [], harness := (true, "b9d30e6a61a3ab3b0101c3536df95753accf24d6ba8132bcda19f82195da075f"), looks := true }, kinds := [], alts := [], laidByText := true, laidKinds := [.data, .data, .pinned], laidTests := true, laidLooks := .later }
def SeekNilCardSaid : Prop := Claim7.holds Tryz.pinned (.plain (OpenSpec.ofChange seekNilSpec)) seekNilCard

/-- THE TIED CARD OF 'galleylaw10.SeekOwn'. -/
def seekOwnCard : Claim7 := { stood := { row := seekOwnRow, standIns := [], harness := (true, "b9d30e6a61a3ab3b0101c3536df95753accf24d6ba8132bcda19f82195da075f"), looks := true }, kinds := [], alts := [], laidByText := true, laidKinds := [.data, .data, .pinned], laidTests := true, laidLooks := .later }
def SeekOwnCardSaid : Prop := Claim7.holds Tryz.pinned (.plain (OpenSpec.ofChange seekOwnSpec)) seekOwnCard

/-- THE SECOND FORM's CARD OF 'galleylaw10.SeekAnswers'. -/
def seekAnswersUptoCard : Claim7 := { stood := { row := seekAnswersUptoRow, standIns := [], harness := (true, "b9d30e6a61a3ab3b0101c3536df95753accf24d6ba8132bcda19f82195da075f"), looks := true }, kinds := [], alts := [], laidByText := true, laidKinds := [.data, .data, .pinned], laidTests := true, laidLooks := .later }
def SeekAnswersUptoCardSaid : Prop := Claim7.holds Tryz.pinned (.plain (OpenSpec.upto seekAnswersSpec)) seekAnswersUptoCard

/-- THE SECOND FORM's CARD OF 'galleylaw10.SeekBytes'. -/
def seekBytesUptoCard : Claim7 := { stood := { row := seekBytesUptoRow, standIns := [], harness := (true, "b9d30e6a61a3ab3b0101c3536df95753accf24d6ba8132bcda19f82195da075f"), looks := true }, kinds := [], alts := [], laidByText := true, laidKinds := [.data, .data, .pinned], laidTests := true, laidLooks := .later }
def SeekBytesUptoCardSaid : Prop := Claim7.holds Tryz.pinned (.plain (OpenSpec.upto seekBytesSpec)) seekBytesUptoCard

/-- THE SECOND FORM's CARD OF 'galleylaw10.SeekLong'. -/
def seekLongUptoCard : Claim7 := { stood := { row := seekLongUptoRow, standIns := [], harness := (true, "b9d30e6a61a3ab3b0101c3536df95753accf24d6ba8132bcda19f82195da075f"), looks := true }, kinds := [], alts := [], laidByText := true, laidKinds := [.data, .data, .pinned], laidTests := true, laidLooks := .later }
def SeekLongUptoCardSaid : Prop := Claim7.holds Tryz.pinned (.plain (OpenSpec.upto seekLongSpec)) seekLongUptoCard

/-- THE SECOND FORM's CARD OF 'galleylaw10.SeekSteps'. -/
def seekStepsUptoCard : Claim7 := { stood := { row := seekStepsUptoRow, standIns := [], harness := (true, "b9d30e6a61a3ab3b0101c3536df95753accf24d6ba8132bcda19f82195da075f"), looks := true }, kinds := [], alts := [], laidByText := true, laidKinds := [.data, .data, .pinned], laidTests := true, laidLooks := .later }
def SeekStepsUptoCardSaid : Prop := Claim7.holds Tryz.pinned (.plain (OpenSpec.upto seekStepsSpec)) seekStepsUptoCard

/-- THE SECOND FORM's CARD OF 'galleylaw10.SeekNil'. -/
def seekNilUptoCard : Claim7 := { stood := { row := seekNilUptoRow, standIns := [], harness := (true, "b9d30e6a61a3ab3b0101c3536df95753accf24d6ba8132bcda19f82195da075f"), looks := true }, kinds := [], alts := [], laidByText := true, laidKinds := [.data, .data, .pinned], laidTests := true, laidLooks := .later }
def SeekNilUptoCardSaid : Prop := Claim7.holds Tryz.pinned (.plain (OpenSpec.upto seekNilSpec)) seekNilUptoCard

/-- THE SECOND FORM's CARD OF 'galleylaw10.SeekOwn'. -/
def seekOwnUptoCard : Claim7 := { stood := { row := seekOwnUptoRow, standIns := [], harness := (true, "b9d30e6a61a3ab3b0101c3536df95753accf24d6ba8132bcda19f82195da075f"), looks := true }, kinds := [], alts := [], laidByText := true, laidKinds := [.data, .data, .pinned], laidTests := true, laidLooks := .later }
def SeekOwnUptoCardSaid : Prop := Claim7.holds Tryz.pinned (.plain (OpenSpec.upto seekOwnSpec)) seekOwnUptoCard
end Rows
end Go.Proofs.YtophdhpkinedgaaGreatDoor
