/-
  DERIVED. GIVEN WITH THE SEED: THE CARDS: each row of YthkdnmekfldloaaDoorRows.lean that lists a variable, with what it lists TIED to the program's text (the seventh form; the later family's looks); each row that meets fmt, with fmt's text TOLD by the authors' own Lean function (tested against real Go, not proved from fmt's source: count such statements apart). THE CARD IS WHAT COUNTS. Prove the row's statement (the work); the ties are given (YthkdnmekfldloaaDoorTie.lean); close each card by the builder's one call (the guide's Derived/Test/ToyasCard.lean, 'card_holds'). Laid BY PROGRAM, IN A SANDBOX (cutbox-door.mjs). By AI agents, Wed Nov 11 2026. No macro, syntax, notation, axiom, sorry.
-/
import Derived.Test.YthkdnmekfldloaaDoorRows
import GoSem.ClaimSeven
namespace Go.Proofs.YthkdnmekfldloaaDoor
namespace Rows

/-- THE TIED CARD OF 'galleylaw09.RopeGrows'. -/
def ropeGrowsCard : Claim7 := { stood := { row := ropeGrowsRow, standIns := [], harness := (true, "1a6bcdb0879f6f7b67a89fae82e5f400eb2c735746b47d9135c096003263e839"), looks := true }, kinds := [], alts := [], laidByText := true, laidKinds := [.data, .data, .pinned], laidTests := true, laidLooks := .later }
def RopeGrowsCardSaid : Prop := Claim7.holds Tryd.pinned (.plain (OpenSpec.ofChange ropeGrowsSpec)) ropeGrowsCard

/-- THE TIED CARD OF 'galleylaw09.RopeSame'. -/
def ropeSameCard : Claim7 := { stood := { row := ropeSameRow, standIns := [], harness := (true, "1a6bcdb0879f6f7b67a89fae82e5f400eb2c735746b47d9135c096003263e839"), looks := true }, kinds := [], alts := [], laidByText := true, laidKinds := [.data, .data, .pinned], laidTests := true, laidLooks := .later }
def RopeSameCardSaid : Prop := Claim7.holds Tryd.pinned (.plain (OpenSpec.ofChange ropeSameSpec)) ropeSameCard

/-- THE TIED CARD OF 'galleylaw09.RopeNil'. -/
def ropeNilCard : Claim7 := { stood := { row := ropeNilRow, standIns := [], harness := (true, "1a6bcdb0879f6f7b67a89fae82e5f400eb2c735746b47d9135c096003263e839"), looks := true }, kinds := [], alts := [], laidByText := true, laidKinds := [.data, .data, .pinned], laidTests := true, laidLooks := .later }
def RopeNilCardSaid : Prop := Claim7.holds Tryd.pinned (.plain (OpenSpec.ofChange ropeNilSpec)) ropeNilCard

/-- THE TIED CARD OF 'galleylaw09.RopeOwn'. -/
def ropeOwnCard : Claim7 := { stood := { row := ropeOwnRow, standIns := [], harness := (true, "1a6bcdb0879f6f7b67a89fae82e5f400eb2c735746b47d9135c096003263e839"), looks := true }, kinds := [], alts := [], laidByText := true, laidKinds := [.data, .data, .pinned], laidTests := true, laidLooks := .later }
def RopeOwnCardSaid : Prop := Claim7.holds Tryd.pinned (.plain (OpenSpec.ofChange ropeOwnSpec)) ropeOwnCard

/-- THE SECOND FORM's CARD OF 'galleylaw09.RopeGrows'. -/
def ropeGrowsUptoCard : Claim7 := { stood := { row := ropeGrowsUptoRow, standIns := [], harness := (true, "1a6bcdb0879f6f7b67a89fae82e5f400eb2c735746b47d9135c096003263e839"), looks := true }, kinds := [], alts := [], laidByText := true, laidKinds := [.data, .data, .pinned], laidTests := true, laidLooks := .later }
def RopeGrowsUptoCardSaid : Prop := Claim7.holds Tryd.pinned (.plain (OpenSpec.upto ropeGrowsSpec)) ropeGrowsUptoCard

/-- THE SECOND FORM's CARD OF 'galleylaw09.RopeSame'. -/
def ropeSameUptoCard : Claim7 := { stood := { row := ropeSameUptoRow, standIns := [], harness := (true, "1a6bcdb0879f6f7b67a89fae82e5f400eb2c735746b47d9135c096003263e839"), looks := true }, kinds := [], alts := [], laidByText := true, laidKinds := [.data, .data, .pinned], laidTests := true, laidLooks := .later }
def RopeSameUptoCardSaid : Prop := Claim7.holds Tryd.pinned (.plain (OpenSpec.upto ropeSameSpec)) ropeSameUptoCard

/-- THE SECOND FORM's CARD OF 'galleylaw09.RopeNil'. -/
def ropeNilUptoCard : Claim7 := { stood := { row := ropeNilUptoRow, standIns := [], harness := (true, "1a6bcdb0879f6f7b67a89fae82e5f400eb2c735746b47d9135c096003263e839"), looks := true }, kinds := [], alts := [], laidByText := true, laidKinds := [.data, .data, .pinned], laidTests := true, laidLooks := .later }
def RopeNilUptoCardSaid : Prop := Claim7.holds Tryd.pinned (.plain (OpenSpec.upto ropeNilSpec)) ropeNilUptoCard

/-- THE SECOND FORM's CARD OF 'galleylaw09.RopeOwn'. -/
def ropeOwnUptoCard : Claim7 := { stood := { row := ropeOwnUptoRow, standIns := [], harness := (true, "1a6bcdb0879f6f7b67a89fae82e5f400eb2c735746b47d9135c096003263e839"), looks := true }, kinds := [], alts := [], laidByText := true, laidKinds := [.data, .data, .pinned], laidTests := true, laidLooks := .later }
def RopeOwnUptoCardSaid : Prop := Claim7.holds Tryd.pinned (.plain (OpenSpec.upto ropeOwnSpec)) ropeOwnUptoCard
end Rows
end Go.Proofs.YthkdnmekfldloaaDoor
