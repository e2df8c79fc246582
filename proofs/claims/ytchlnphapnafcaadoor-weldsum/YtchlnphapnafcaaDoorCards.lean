/-
  DERIVED. GIVEN WITH THE SEED: THE CARDS: each row of YtchlnphapnafcaaDoorRows.lean that lists a variable, with what it lists TIED to the program's text (the seventh form; the later family's looks); each row that meets fmt, with fmt's text TOLD by the authors' own Lean function (tested against real Go, not proved from fmt's source: count such statements apart). THE CARD IS WHAT COUNTS. Prove the row's statement (the work); the ties are given (YtchlnphapnafcaaDoorTie.lean); close each card by the builder's one call (the guide's Derived/Test/ToyasCard.lean, 'card_holds'). Laid BY PROGRAM, IN A SANDBOX (cutbox-door.mjs). By AI agents, Wed Nov 11 2026. No macro, syntax, notation, axiom, sorry.
-/
import Derived.Test.YtchlnphapnafcaaDoorRows
import GoSem.ClaimSeven
namespace Go.Proofs.YtchlnphapnafcaaDoor
namespace Rows

/-- THE TIED CARD OF 'galleylaw05.WeldAny'. -/
def weldAnyCard : Claim7 := { stood := { row := weldAnyRow, standIns := [], harness := (true, "ba6b59ede6bdaeaea428831158eb95940bb646711dbafc0af045a82115d35a9b"), looks := false }, kinds := [], alts := [], laidByText := true, laidKinds := [.data, .data, .pinned], laidTests := true, laidLooks := .later }
def WeldAnyCardSaid : Prop := Claim7.holds Tryd.pinned (.plain (OpenSpec.ofChange weldAnySpec)) weldAnyCard

/-- THE TIED CARD OF 'galleylaw05.WeldSum'. -/
def weldSumCard : Claim7 := { stood := { row := weldSumRow, standIns := [], harness := (true, "ba6b59ede6bdaeaea428831158eb95940bb646711dbafc0af045a82115d35a9b"), looks := false }, kinds := [], alts := [], laidByText := true, laidKinds := [.data, .data, .pinned], laidTests := true, laidLooks := .later }
def WeldSumCardSaid : Prop := Claim7.holds Tryd.pinned (.plain (OpenSpec.ofChange weldSumSpec)) weldSumCard

/-- THE SECOND FORM's CARD OF 'galleylaw05.WeldAny'. -/
def weldAnyUptoCard : Claim7 := { stood := { row := weldAnyUptoRow, standIns := [], harness := (true, "ba6b59ede6bdaeaea428831158eb95940bb646711dbafc0af045a82115d35a9b"), looks := false }, kinds := [], alts := [], laidByText := true, laidKinds := [.data, .data, .pinned], laidTests := true, laidLooks := .later }
def WeldAnyUptoCardSaid : Prop := Claim7.holds Tryd.pinned (.plain (OpenSpec.upto weldAnySpec)) weldAnyUptoCard

/-- THE SECOND FORM's CARD OF 'galleylaw05.WeldSum'. -/
def weldSumUptoCard : Claim7 := { stood := { row := weldSumUptoRow, standIns := [], harness := (true, "ba6b59ede6bdaeaea428831158eb95940bb646711dbafc0af045a82115d35a9b"), looks := false }, kinds := [], alts := [], laidByText := true, laidKinds := [.data, .data, .pinned], laidTests := true, laidLooks := .later }
def WeldSumUptoCardSaid : Prop := Claim7.holds Tryd.pinned (.plain (OpenSpec.upto weldSumSpec)) weldSumUptoCard
end Rows
end Go.Proofs.YtchlnphapnafcaaDoor
