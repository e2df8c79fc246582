/-
  DERIVED. GIVEN WITH THE SEED: THE CARDS: each row of YthpbgeaajehlkaaDoorRows.lean that lists a variable, with what it lists TIED to the program's text (the seventh form; the later family's looks); each row that meets fmt, with fmt's text TOLD by the authors' own Lean function (tested against real Go, not proved from fmt's source: count such statements apart). THE CARD IS WHAT COUNTS. Prove the row's statement (the work); the ties are given (YthpbgeaajehlkaaDoorTie.lean); close each card by the builder's one call (the guide's Derived/Test/ToyasCard.lean, 'card_holds'). Laid BY PROGRAM, IN A SANDBOX (cutbox-door.mjs). By AI agents, Wed Nov 11 2026. No macro, syntax, notation, axiom, sorry.
-/
import Derived.Test.YthpbgeaajehlkaaDoorRows
import GoSem.ClaimSeven
namespace Go.Proofs.YthpbgeaajehlkaaDoor
namespace Rows

/-- THE TIED CARD OF 'galleylaw04.ScanPlays'. -/
def scanPlaysCard : Claim7 := { stood := { row := scanPlaysRow, standIns := [], harness := (true, "ec440f98166f008d0ed5dd6061b38cce5a7303001c35220af299fff4e0b6e531"), looks := false }, kinds := [], alts := [], laidByText := true, laidKinds := [.data], laidTests := true, laidLooks := .later }
def ScanPlaysCardSaid : Prop := Claim7.holds Tryd.pinned (.plain (OpenSpec.ofChange scanPlaysSpec)) scanPlaysCard

/-- THE TIED CARD OF 'galleylaw04.ScanPieces'. -/
def scanPiecesCard : Claim7 := { stood := { row := scanPiecesRow, standIns := [], harness := (true, "ec440f98166f008d0ed5dd6061b38cce5a7303001c35220af299fff4e0b6e531"), looks := false }, kinds := [], alts := [], laidByText := true, laidKinds := [.data], laidTests := true, laidLooks := .later }
def ScanPiecesCardSaid : Prop := Claim7.holds Tryd.pinned (.plain (OpenSpec.ofChange scanPiecesSpec)) scanPiecesCard

/-- THE TIED CARD OF 'galleylaw04.ScanCertain'. -/
def scanCertainCard : Claim7 := { stood := { row := scanCertainRow, standIns := [], harness := (true, "ec440f98166f008d0ed5dd6061b38cce5a7303001c35220af299fff4e0b6e531"), looks := false }, kinds := [], alts := [], laidByText := true, laidKinds := [.data], laidTests := true, laidLooks := .later }
def ScanCertainCardSaid : Prop := Claim7.holds Tryd.pinned (.plain (OpenSpec.ofChange scanCertainSpec)) scanCertainCard

/-- THE TIED CARD OF 'galleylaw04.ScanNil'. -/
def scanNilCard : Claim7 := { stood := { row := scanNilRow, standIns := [], harness := (true, "ec440f98166f008d0ed5dd6061b38cce5a7303001c35220af299fff4e0b6e531"), looks := false }, kinds := [], alts := [], laidByText := true, laidKinds := [.data], laidTests := true, laidLooks := .later }
def ScanNilCardSaid : Prop := Claim7.holds Tryd.pinned (.plain (OpenSpec.ofChange scanNilSpec)) scanNilCard

/-- THE TIED CARD OF 'galleylaw04.ScanOwn'. -/
def scanOwnCard : Claim7 := { stood := { row := scanOwnRow, standIns := [], harness := (true, "ec440f98166f008d0ed5dd6061b38cce5a7303001c35220af299fff4e0b6e531"), looks := false }, kinds := [], alts := [], laidByText := true, laidKinds := [.data], laidTests := true, laidLooks := .later }
def ScanOwnCardSaid : Prop := Claim7.holds Tryd.pinned (.plain (OpenSpec.ofChange scanOwnSpec)) scanOwnCard

/-- THE SECOND FORM's CARD OF 'galleylaw04.ScanPlays'. -/
def scanPlaysUptoCard : Claim7 := { stood := { row := scanPlaysUptoRow, standIns := [], harness := (true, "ec440f98166f008d0ed5dd6061b38cce5a7303001c35220af299fff4e0b6e531"), looks := false }, kinds := [], alts := [], laidByText := true, laidKinds := [.data], laidTests := true, laidLooks := .later }
def ScanPlaysUptoCardSaid : Prop := Claim7.holds Tryd.pinned (.plain (OpenSpec.upto scanPlaysSpec)) scanPlaysUptoCard

/-- THE SECOND FORM's CARD OF 'galleylaw04.ScanPieces'. -/
def scanPiecesUptoCard : Claim7 := { stood := { row := scanPiecesUptoRow, standIns := [], harness := (true, "ec440f98166f008d0ed5dd6061b38cce5a7303001c35220af299fff4e0b6e531"), looks := false }, kinds := [], alts := [], laidByText := true, laidKinds := [.data], laidTests := true, laidLooks := .later }
def ScanPiecesUptoCardSaid : Prop := Claim7.holds Tryd.pinned (.plain (OpenSpec.upto scanPiecesSpec)) scanPiecesUptoCard

/-- THE SECOND FORM's CARD OF 'galleylaw04.ScanCertain'. -/
def scanCertainUptoCard : Claim7 := { stood := { row := scanCertainUptoRow, standIns := [], harness := (true, "ec440f98166f008d0ed5dd6061b38cce5a7303001c35220af299fff4e0b6e531"), looks := false }, kinds := [], alts := [], laidByText := true, laidKinds := [.data], laidTests := true, laidLooks := .later }
def ScanCertainUptoCardSaid : Prop := Claim7.holds Tryd.pinned (.plain (OpenSpec.upto scanCertainSpec)) scanCertainUptoCard

/-- THE SECOND FORM's CARD OF 'galleylaw04.ScanNil'. -/
def scanNilUptoCard : Claim7 := { stood := { row := scanNilUptoRow, standIns := [], harness := (true, "ec440f98166f008d0ed5dd6061b38cce5a7303001c35220af299fff4e0b6e531"), looks := false }, kinds := [], alts := [], laidByText := true, laidKinds := [.data], laidTests := true, laidLooks := .later }
def ScanNilUptoCardSaid : Prop := Claim7.holds Tryd.pinned (.plain (OpenSpec.upto scanNilSpec)) scanNilUptoCard

/-- THE SECOND FORM's CARD OF 'galleylaw04.ScanOwn'. -/
def scanOwnUptoCard : Claim7 := { stood := { row := scanOwnUptoRow, standIns := [], harness := (true, "ec440f98166f008d0ed5dd6061b38cce5a7303001c35220af299fff4e0b6e531"), looks := false }, kinds := [], alts := [], laidByText := true, laidKinds := [.data], laidTests := true, laidLooks := .later }
def ScanOwnUptoCardSaid : Prop := Claim7.holds Tryd.pinned (.plain (OpenSpec.upto scanOwnSpec)) scanOwnUptoCard
end Rows
end Go.Proofs.YthpbgeaajehlkaaDoor
