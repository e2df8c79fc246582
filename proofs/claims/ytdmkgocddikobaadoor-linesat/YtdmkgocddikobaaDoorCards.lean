/-
  DERIVED. GIVEN WITH THE SEED: THE CARDS: each row of YtdmkgocddikobaaDoorRows.lean that lists a variable, with what it lists TIED to the program's text (the seventh form; the later family's looks); each row that meets fmt, with fmt's text TOLD by the authors' own Lean function (tested against real Go, not proved from fmt's source: count such statements apart). THE CARD IS WHAT COUNTS. Prove the row's statement (the work); the ties are given (YtdmkgocddikobaaDoorTie.lean); close each card by the builder's one call (the guide's Derived/Test/ToyasCard.lean, 'card_holds'). Laid BY PROGRAM, IN A SANDBOX (cutbox-door.mjs). By AI agents, Wed Nov 11 2026. No macro, syntax, notation, axiom, sorry.
-/
import Derived.Test.YtdmkgocddikobaaDoorRows
import GoSem.ClaimSeven
namespace Go.Proofs.YtdmkgocddikobaaDoor
namespace Rows

/-- THE TIED CARD OF 'galleylaw07.LinesWhere'. -/
def linesWhereCard : Claim7 := { stood := { row := linesWhereRow, standIns := [], harness := (true, "0e6a8dec39095285bd494bd334c16ba8e6eac9d8cd857847884e39208be53692"), looks := false }, kinds := [], alts := [], laidByText := true, laidKinds := [.data], laidTests := true, laidLooks := .later }
def LinesWhereCardSaid : Prop := Claim7.holds Tryd.pinned (.plain (OpenSpec.ofChange linesWhereSpec)) linesWhereCard

/-- THE TIED CARD OF 'galleylaw07.LinesAt'. -/
def linesAtCard : Claim7 := { stood := { row := linesAtRow, standIns := [], harness := (true, "0e6a8dec39095285bd494bd334c16ba8e6eac9d8cd857847884e39208be53692"), looks := false }, kinds := [], alts := [], laidByText := true, laidKinds := [.data], laidTests := true, laidLooks := .later }
def LinesAtCardSaid : Prop := Claim7.holds Tryd.pinned (.plain (OpenSpec.ofChange linesAtSpec)) linesAtCard

/-- THE SECOND FORM's CARD OF 'galleylaw07.LinesWhere'. -/
def linesWhereUptoCard : Claim7 := { stood := { row := linesWhereUptoRow, standIns := [], harness := (true, "0e6a8dec39095285bd494bd334c16ba8e6eac9d8cd857847884e39208be53692"), looks := false }, kinds := [], alts := [], laidByText := true, laidKinds := [.data], laidTests := true, laidLooks := .later }
def LinesWhereUptoCardSaid : Prop := Claim7.holds Tryd.pinned (.plain (OpenSpec.upto linesWhereSpec)) linesWhereUptoCard

/-- THE SECOND FORM's CARD OF 'galleylaw07.LinesAt'. -/
def linesAtUptoCard : Claim7 := { stood := { row := linesAtUptoRow, standIns := [], harness := (true, "0e6a8dec39095285bd494bd334c16ba8e6eac9d8cd857847884e39208be53692"), looks := false }, kinds := [], alts := [], laidByText := true, laidKinds := [.data], laidTests := true, laidLooks := .later }
def LinesAtUptoCardSaid : Prop := Claim7.holds Tryd.pinned (.plain (OpenSpec.upto linesAtSpec)) linesAtUptoCard
end Rows
end Go.Proofs.YtdmkgocddikobaaDoor
