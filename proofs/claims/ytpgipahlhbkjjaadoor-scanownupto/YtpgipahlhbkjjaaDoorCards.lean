/-
  DERIVED. GIVEN WITH THE SEED: THE CARDS: each row of YtpgipahlhbkjjaaDoorRows.lean that lists a variable, with what it lists TIED to the program's text (the seventh form; the later family's looks); each row that meets fmt, with fmt's text TOLD by the authors' own Lean function (tested against real Go, not proved from fmt's source: count such statements apart). THE CARD IS WHAT COUNTS. Prove the row's statement (the work); the ties are given (YtpgipahlhbkjjaaDoorTie.lean); close each card by the builder's one call (the guide's Derived/Test/ToyasCard.lean, 'card_holds'). Laid BY PROGRAM, IN A SANDBOX (cutbox-door.mjs). By AI agents, Wed Nov 11 2026. No macro, syntax, notation, axiom, sorry.
-/
import Derived.Test.YtpgipahlhbkjjaaDoorRows
import GoSem.ClaimSeven
namespace Go.Proofs.YtpgipahlhbkjjaaDoor
namespace Rows

/-- THE TIED CARD OF 'galleylaw04.ScanPlays'. -/
def scanPlaysCard : Claim7 := { stood := { row := scanPlaysRow, standIns := [], harness := (true, "5a98bb0347d8fe0d1c978c083dec74b5e2e0df8207c741a5fc579a31c2666d9d"), looks := false }, kinds := [], alts := [], laidByText := true, laidKinds := [.data], laidTests := true, laidLooks := .later }
def ScanPlaysCardSaid : Prop := Claim7.holds Tryd.pinned (.plain (OpenSpec.ofChange scanPlaysSpec)) scanPlaysCard

/-- THE TIED CARD OF 'galleylaw04.ScanOwn'. -/
def scanOwnCard : Claim7 := { stood := { row := scanOwnRow, standIns := [], harness := (true, "5a98bb0347d8fe0d1c978c083dec74b5e2e0df8207c741a5fc579a31c2666d9d"), looks := false }, kinds := [], alts := [], laidByText := true, laidKinds := [.data], laidTests := true, laidLooks := .later }
def ScanOwnCardSaid : Prop := Claim7.holds Tryd.pinned (.plain (OpenSpec.ofChange scanOwnSpec)) scanOwnCard

/-- THE SECOND FORM's CARD OF 'galleylaw04.ScanPlays'. -/
def scanPlaysUptoCard : Claim7 := { stood := { row := scanPlaysUptoRow, standIns := [], harness := (true, "5a98bb0347d8fe0d1c978c083dec74b5e2e0df8207c741a5fc579a31c2666d9d"), looks := false }, kinds := [], alts := [], laidByText := true, laidKinds := [.data], laidTests := true, laidLooks := .later }
def ScanPlaysUptoCardSaid : Prop := Claim7.holds Tryd.pinned (.plain (OpenSpec.upto scanPlaysSpec)) scanPlaysUptoCard

/-- THE SECOND FORM's CARD OF 'galleylaw04.ScanOwn'. -/
def scanOwnUptoCard : Claim7 := { stood := { row := scanOwnUptoRow, standIns := [], harness := (true, "5a98bb0347d8fe0d1c978c083dec74b5e2e0df8207c741a5fc579a31c2666d9d"), looks := false }, kinds := [], alts := [], laidByText := true, laidKinds := [.data], laidTests := true, laidLooks := .later }
def ScanOwnUptoCardSaid : Prop := Claim7.holds Tryd.pinned (.plain (OpenSpec.upto scanOwnSpec)) scanOwnUptoCard
end Rows
end Go.Proofs.YtpgipahlhbkjjaaDoor
