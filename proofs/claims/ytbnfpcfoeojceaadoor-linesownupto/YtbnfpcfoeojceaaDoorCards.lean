/-
  DERIVED. GIVEN WITH THE SEED: THE CARDS: each row of YtbnfpcfoeojceaaDoorRows.lean that lists a variable, with what it lists TIED to the program's text (the seventh form; the later family's looks); each row that meets fmt, with fmt's text TOLD by the authors' own Lean function (tested against real Go, not proved from fmt's source: count such statements apart). THE CARD IS WHAT COUNTS. Prove the row's statement (the work); the ties are given (YtbnfpcfoeojceaaDoorTie.lean); close each card by the builder's one call (the guide's Derived/Test/ToyasCard.lean, 'card_holds'). Laid BY PROGRAM, IN A SANDBOX (cutbox-door.mjs). By AI agents, Wed Nov 11 2026. No macro, syntax, notation, axiom, sorry.
-/
import Derived.Test.YtbnfpcfoeojceaaDoorRows
import GoSem.ClaimSeven
namespace Go.Proofs.YtbnfpcfoeojceaaDoor
namespace Rows

/-- THE TIED CARD OF 'galleylaw07.LinesRows'. -/
def linesRowsCard : Claim7 := { stood := { row := linesRowsRow, standIns := [], harness := (true, "413942119b16eb23bfee3d1cc9f51ae4492154bc301521778bd9251927c2b605"), looks := false }, kinds := [], alts := [], laidByText := true, laidKinds := [.data], laidTests := true, laidLooks := .later }
def LinesRowsCardSaid : Prop := Claim7.holds Tryd.pinned (.plain (OpenSpec.ofChange linesRowsSpec)) linesRowsCard

/-- THE TIED CARD OF 'galleylaw07.LinesWhere'. -/
def linesWhereCard : Claim7 := { stood := { row := linesWhereRow, standIns := [], harness := (true, "413942119b16eb23bfee3d1cc9f51ae4492154bc301521778bd9251927c2b605"), looks := false }, kinds := [], alts := [], laidByText := true, laidKinds := [.data], laidTests := true, laidLooks := .later }
def LinesWhereCardSaid : Prop := Claim7.holds Tryd.pinned (.plain (OpenSpec.ofChange linesWhereSpec)) linesWhereCard

/-- THE TIED CARD OF 'galleylaw07.LinesAt'. -/
def linesAtCard : Claim7 := { stood := { row := linesAtRow, standIns := [], harness := (true, "413942119b16eb23bfee3d1cc9f51ae4492154bc301521778bd9251927c2b605"), looks := false }, kinds := [], alts := [], laidByText := true, laidKinds := [.data], laidTests := true, laidLooks := .later }
def LinesAtCardSaid : Prop := Claim7.holds Tryd.pinned (.plain (OpenSpec.ofChange linesAtSpec)) linesAtCard

/-- THE TIED CARD OF 'galleylaw07.LinesColumns'. -/
def linesColumnsCard : Claim7 := { stood := { row := linesColumnsRow, standIns := [], harness := (true, "413942119b16eb23bfee3d1cc9f51ae4492154bc301521778bd9251927c2b605"), looks := false }, kinds := [], alts := [], laidByText := true, laidKinds := [.data], laidTests := true, laidLooks := .later }
def LinesColumnsCardSaid : Prop := Claim7.holds Tryd.pinned (.plain (OpenSpec.ofChange linesColumnsSpec)) linesColumnsCard

/-- THE TIED CARD OF 'galleylaw07.LinesModes'. -/
def linesModesCard : Claim7 := { stood := { row := linesModesRow, standIns := [], harness := (true, "413942119b16eb23bfee3d1cc9f51ae4492154bc301521778bd9251927c2b605"), looks := false }, kinds := [], alts := [], laidByText := true, laidKinds := [.data], laidTests := true, laidLooks := .later }
def LinesModesCardSaid : Prop := Claim7.holds Tryd.pinned (.plain (OpenSpec.ofChange linesModesSpec)) linesModesCard

/-- THE TIED CARD OF 'galleylaw07.LinesOwn'. -/
def linesOwnCard : Claim7 := { stood := { row := linesOwnRow, standIns := [], harness := (true, "413942119b16eb23bfee3d1cc9f51ae4492154bc301521778bd9251927c2b605"), looks := false }, kinds := [], alts := [], laidByText := true, laidKinds := [.data], laidTests := true, laidLooks := .later }
def LinesOwnCardSaid : Prop := Claim7.holds Tryd.pinned (.plain (OpenSpec.ofChange linesOwnSpec)) linesOwnCard

/-- THE SECOND FORM's CARD OF 'galleylaw07.LinesRows'. -/
def linesRowsUptoCard : Claim7 := { stood := { row := linesRowsUptoRow, standIns := [], harness := (true, "413942119b16eb23bfee3d1cc9f51ae4492154bc301521778bd9251927c2b605"), looks := false }, kinds := [], alts := [], laidByText := true, laidKinds := [.data], laidTests := true, laidLooks := .later }
def LinesRowsUptoCardSaid : Prop := Claim7.holds Tryd.pinned (.plain (OpenSpec.upto linesRowsSpec)) linesRowsUptoCard

/-- THE SECOND FORM's CARD OF 'galleylaw07.LinesWhere'. -/
def linesWhereUptoCard : Claim7 := { stood := { row := linesWhereUptoRow, standIns := [], harness := (true, "413942119b16eb23bfee3d1cc9f51ae4492154bc301521778bd9251927c2b605"), looks := false }, kinds := [], alts := [], laidByText := true, laidKinds := [.data], laidTests := true, laidLooks := .later }
def LinesWhereUptoCardSaid : Prop := Claim7.holds Tryd.pinned (.plain (OpenSpec.upto linesWhereSpec)) linesWhereUptoCard

/-- THE SECOND FORM's CARD OF 'galleylaw07.LinesAt'. -/
def linesAtUptoCard : Claim7 := { stood := { row := linesAtUptoRow, standIns := [], harness := (true, "413942119b16eb23bfee3d1cc9f51ae4492154bc301521778bd9251927c2b605"), looks := false }, kinds := [], alts := [], laidByText := true, laidKinds := [.data], laidTests := true, laidLooks := .later }
def LinesAtUptoCardSaid : Prop := Claim7.holds Tryd.pinned (.plain (OpenSpec.upto linesAtSpec)) linesAtUptoCard

/-- THE SECOND FORM's CARD OF 'galleylaw07.LinesColumns'. -/
def linesColumnsUptoCard : Claim7 := { stood := { row := linesColumnsUptoRow, standIns := [], harness := (true, "413942119b16eb23bfee3d1cc9f51ae4492154bc301521778bd9251927c2b605"), looks := false }, kinds := [], alts := [], laidByText := true, laidKinds := [.data], laidTests := true, laidLooks := .later }
def LinesColumnsUptoCardSaid : Prop := Claim7.holds Tryd.pinned (.plain (OpenSpec.upto linesColumnsSpec)) linesColumnsUptoCard

/-- THE SECOND FORM's CARD OF 'galleylaw07.LinesModes'. -/
def linesModesUptoCard : Claim7 := { stood := { row := linesModesUptoRow, standIns := [], harness := (true, "413942119b16eb23bfee3d1cc9f51ae4492154bc301521778bd9251927c2b605"), looks := false }, kinds := [], alts := [], laidByText := true, laidKinds := [.data], laidTests := true, laidLooks := .later }
def LinesModesUptoCardSaid : Prop := Claim7.holds Tryd.pinned (.plain (OpenSpec.upto linesModesSpec)) linesModesUptoCard

/-- THE SECOND FORM's CARD OF 'galleylaw07.LinesOwn'. -/
def linesOwnUptoCard : Claim7 := { stood := { row := linesOwnUptoRow, standIns := [], harness := (true, "413942119b16eb23bfee3d1cc9f51ae4492154bc301521778bd9251927c2b605"), looks := false }, kinds := [], alts := [], laidByText := true, laidKinds := [.data], laidTests := true, laidLooks := .later }
def LinesOwnUptoCardSaid : Prop := Claim7.holds Tryd.pinned (.plain (OpenSpec.upto linesOwnSpec)) linesOwnUptoCard
end Rows
end Go.Proofs.YtbnfpcfoeojceaaDoor
