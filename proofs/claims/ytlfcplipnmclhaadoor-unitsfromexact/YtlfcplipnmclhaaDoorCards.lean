/-
  DERIVED. GIVEN WITH THE SEED: THE CARDS: each row of YtlfcplipnmclhaaDoorRows.lean that lists a variable, with what it lists TIED to the program's text (the seventh form; the later family's looks); each row that meets fmt, with fmt's text TOLD by the authors' own Lean function (tested against real Go, not proved from fmt's source: count such statements apart). THE CARD IS WHAT COUNTS. Prove the row's statement (the work); the ties are given (YtlfcplipnmclhaaDoorTie.lean); close each card by the builder's one call (the guide's Derived/Test/ToyasCard.lean, 'card_holds'). Laid BY PROGRAM, IN A SANDBOX (cutbox-door.mjs). By AI agents, Wed Nov 11 2026. No macro, syntax, notation, axiom, sorry.
-/
import Derived.Test.YtlfcplipnmclhaaDoorRows
import GoSem.ClaimSeven
namespace Go.Proofs.YtlfcplipnmclhaaDoor
namespace Rows

/-- THE TIED CARD OF 'galleylaw03.UnitsRunes'. -/
def unitsRunesCard : Claim7 := { stood := { row := unitsRunesRow, standIns := [], harness := (true, "d1f6dd3be2b34f037e4e12281a8ec3759d89563d05b2bdff27a91a24dc62c413"), looks := false }, kinds := [], alts := [], laidByText := true, laidKinds := [.data], laidTests := true, laidLooks := .later }
def UnitsRunesCardSaid : Prop := Claim7.holds Tryd.pinned (.plain (OpenSpec.ofChange unitsRunesSpec)) unitsRunesCard

/-- THE TIED CARD OF 'galleylaw03.UnitsTo'. -/
def unitsToCard : Claim7 := { stood := { row := unitsToRow, standIns := [], harness := (true, "d1f6dd3be2b34f037e4e12281a8ec3759d89563d05b2bdff27a91a24dc62c413"), looks := false }, kinds := [], alts := [], laidByText := true, laidKinds := [.data], laidTests := true, laidLooks := .later }
def UnitsToCardSaid : Prop := Claim7.holds Tryd.pinned (.plain (OpenSpec.ofChange unitsToSpec)) unitsToCard

/-- THE TIED CARD OF 'galleylaw03.UnitsFrom'. -/
def unitsFromCard : Claim7 := { stood := { row := unitsFromRow, standIns := [], harness := (true, "d1f6dd3be2b34f037e4e12281a8ec3759d89563d05b2bdff27a91a24dc62c413"), looks := false }, kinds := [], alts := [], laidByText := true, laidKinds := [.data], laidTests := true, laidLooks := .later }
def UnitsFromCardSaid : Prop := Claim7.holds Tryd.pinned (.plain (OpenSpec.ofChange unitsFromSpec)) unitsFromCard

/-- THE TIED CARD OF 'galleylaw03.UnitsFromExact'. -/
def unitsFromExactCard : Claim7 := { stood := { row := unitsFromExactRow, standIns := [], harness := (true, "d1f6dd3be2b34f037e4e12281a8ec3759d89563d05b2bdff27a91a24dc62c413"), looks := false }, kinds := [], alts := [], laidByText := true, laidKinds := [.data], laidTests := true, laidLooks := .later }
def UnitsFromExactCardSaid : Prop := Claim7.holds Tryd.pinned (.plain (OpenSpec.ofChange unitsFromExactSpec)) unitsFromExactCard

/-- THE TIED CARD OF 'galleylaw03.UnitsBack'. -/
def unitsBackCard : Claim7 := { stood := { row := unitsBackRow, standIns := [], harness := (true, "d1f6dd3be2b34f037e4e12281a8ec3759d89563d05b2bdff27a91a24dc62c413"), looks := false }, kinds := [], alts := [], laidByText := true, laidKinds := [.data], laidTests := true, laidLooks := .later }
def UnitsBackCardSaid : Prop := Claim7.holds Tryd.pinned (.plain (OpenSpec.ofChange unitsBackSpec)) unitsBackCard

/-- THE TIED CARD OF 'galleylaw03.UnitsOnly'. -/
def unitsOnlyCard : Claim7 := { stood := { row := unitsOnlyRow, standIns := [], harness := (true, "d1f6dd3be2b34f037e4e12281a8ec3759d89563d05b2bdff27a91a24dc62c413"), looks := false }, kinds := [], alts := [], laidByText := true, laidKinds := [.data], laidTests := true, laidLooks := .later }
def UnitsOnlyCardSaid : Prop := Claim7.holds Tryd.pinned (.plain (OpenSpec.ofChange unitsOnlySpec)) unitsOnlyCard

/-- THE SECOND FORM's CARD OF 'galleylaw03.UnitsRunes'. -/
def unitsRunesUptoCard : Claim7 := { stood := { row := unitsRunesUptoRow, standIns := [], harness := (true, "d1f6dd3be2b34f037e4e12281a8ec3759d89563d05b2bdff27a91a24dc62c413"), looks := false }, kinds := [], alts := [], laidByText := true, laidKinds := [.data], laidTests := true, laidLooks := .later }
def UnitsRunesUptoCardSaid : Prop := Claim7.holds Tryd.pinned (.plain (OpenSpec.upto unitsRunesSpec)) unitsRunesUptoCard

/-- THE SECOND FORM's CARD OF 'galleylaw03.UnitsTo'. -/
def unitsToUptoCard : Claim7 := { stood := { row := unitsToUptoRow, standIns := [], harness := (true, "d1f6dd3be2b34f037e4e12281a8ec3759d89563d05b2bdff27a91a24dc62c413"), looks := false }, kinds := [], alts := [], laidByText := true, laidKinds := [.data], laidTests := true, laidLooks := .later }
def UnitsToUptoCardSaid : Prop := Claim7.holds Tryd.pinned (.plain (OpenSpec.upto unitsToSpec)) unitsToUptoCard

/-- THE SECOND FORM's CARD OF 'galleylaw03.UnitsFrom'. -/
def unitsFromUptoCard : Claim7 := { stood := { row := unitsFromUptoRow, standIns := [], harness := (true, "d1f6dd3be2b34f037e4e12281a8ec3759d89563d05b2bdff27a91a24dc62c413"), looks := false }, kinds := [], alts := [], laidByText := true, laidKinds := [.data], laidTests := true, laidLooks := .later }
def UnitsFromUptoCardSaid : Prop := Claim7.holds Tryd.pinned (.plain (OpenSpec.upto unitsFromSpec)) unitsFromUptoCard

/-- THE SECOND FORM's CARD OF 'galleylaw03.UnitsFromExact'. -/
def unitsFromExactUptoCard : Claim7 := { stood := { row := unitsFromExactUptoRow, standIns := [], harness := (true, "d1f6dd3be2b34f037e4e12281a8ec3759d89563d05b2bdff27a91a24dc62c413"), looks := false }, kinds := [], alts := [], laidByText := true, laidKinds := [.data], laidTests := true, laidLooks := .later }
def UnitsFromExactUptoCardSaid : Prop := Claim7.holds Tryd.pinned (.plain (OpenSpec.upto unitsFromExactSpec)) unitsFromExactUptoCard

/-- THE SECOND FORM's CARD OF 'galleylaw03.UnitsBack'. -/
def unitsBackUptoCard : Claim7 := { stood := { row := unitsBackUptoRow, standIns := [], harness := (true, "d1f6dd3be2b34f037e4e12281a8ec3759d89563d05b2bdff27a91a24dc62c413"), looks := false }, kinds := [], alts := [], laidByText := true, laidKinds := [.data], laidTests := true, laidLooks := .later }
def UnitsBackUptoCardSaid : Prop := Claim7.holds Tryd.pinned (.plain (OpenSpec.upto unitsBackSpec)) unitsBackUptoCard

/-- THE SECOND FORM's CARD OF 'galleylaw03.UnitsOnly'. -/
def unitsOnlyUptoCard : Claim7 := { stood := { row := unitsOnlyUptoRow, standIns := [], harness := (true, "d1f6dd3be2b34f037e4e12281a8ec3759d89563d05b2bdff27a91a24dc62c413"), looks := false }, kinds := [], alts := [], laidByText := true, laidKinds := [.data], laidTests := true, laidLooks := .later }
def UnitsOnlyUptoCardSaid : Prop := Claim7.holds Tryd.pinned (.plain (OpenSpec.upto unitsOnlySpec)) unitsOnlyUptoCard
end Rows
end Go.Proofs.YtlfcplipnmclhaaDoor
