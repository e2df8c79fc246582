/-
  DERIVED. GIVEN WITH THE SEED: THE CARDS: each row of YtpfjfgggacpdfaaGreatDoorRows.lean that lists a variable, with what it lists TIED to the program's text (the seventh form; the later family's looks); each row that meets fmt, with fmt's text TOLD by the authors' own Lean function (tested against real Go, not proved from fmt's source: count such statements apart). THE CARD IS WHAT COUNTS. Prove the row's statement (the work); the ties are given (YtpfjfgggacpdfaaGreatDoorTie.lean); close each card by the builder's one call (the guide's Derived/Test/ToyasCard.lean, 'card_holds'). Laid BY PROGRAM, IN A SANDBOX (cutbox-door.mjs). By AI agents, Wed Nov 11 2026. No macro, syntax, notation, axiom, sorry.
-/
import Derived.Test.YtpfjfgggacpdfaaGreatDoorRows
import GoSem.ClaimSeven
namespace Go.Proofs.YtpfjfgggacpdfaaGreatDoor
namespace Rows

/-- THE TIED CARD OF 'galleylaw09.RopeScripts'. -/
def ropeScriptsCard : Claim7 := { stood := { row := ropeScriptsRow, standIns := [], harness := (true, "6f7bcff050e6a7ed11f9aa7a0b3cf1b718c57d7c1258116e68fffcf74444d900"), looks := true }, kinds := [], alts := [], laidByText := true, laidKinds := [.data, .data, .pinned], laidTests := true, laidLooks := .later }
def RopeScriptsCardSaid : Prop := Claim7.holds Tryz.pinned (.plain (OpenSpec.ofChange ropeScriptsSpec)) ropeScriptsCard

/-- THE TIED CARD OF 'galleylaw09.RopeAny'. -/
def ropeAnyCard : Claim7 := { stood := { row := ropeAnyRow, standIns := [], harness := (true, "6f7bcff050e6a7ed11f9aa7a0b3cf1b718c57d7c1258116e68fffcf74444d900"), looks := true }, kinds := [], alts := [], laidByText := true, laidKinds := [.data, .data, .pinned], laidTests := true, laidLooks := .later }
def RopeAnyCardSaid : Prop := Claim7.holds Tryz.pinned (.plain (OpenSpec.ofChange ropeAnySpec)) ropeAnyCard

/-- THE SECOND FORM's CARD OF 'galleylaw09.RopeScripts'. -/
def ropeScriptsUptoCard : Claim7 := { stood := { row := ropeScriptsUptoRow, standIns := [], harness := (true, "6f7bcff050e6a7ed11f9aa7a0b3cf1b718c57d7c1258116e68fffcf74444d900"), looks := true }, kinds := [], alts := [], laidByText := true, laidKinds := [.data, .data, .pinned], laidTests := true, laidLooks := .later }
def RopeScriptsUptoCardSaid : Prop := Claim7.holds Tryz.pinned (.plain (OpenSpec.upto ropeScriptsSpec)) ropeScriptsUptoCard

/-- THE SECOND FORM's CARD OF 'galleylaw09.RopeAny'. -/
def ropeAnyUptoCard : Claim7 := { stood := { row := ropeAnyUptoRow, standIns := [], harness := (true, "6f7bcff050e6a7ed11f9aa7a0b3cf1b718c57d7c1258116e68fffcf74444d900"), looks := true }, kinds := [], alts := [], laidByText := true, laidKinds := [.data, .data, .pinned], laidTests := true, laidLooks := .later }
def RopeAnyUptoCardSaid : Prop := Claim7.holds Tryz.pinned (.plain (OpenSpec.upto ropeAnySpec)) ropeAnyUptoCard
end Rows
end Go.Proofs.YtpfjfgggacpdfaaGreatDoor
