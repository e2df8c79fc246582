/-
  NARROWER THAN 'FOR EVERY INPUT', by the rows' own cells (each row's printed sentence says how): RuleCuts: laid · RuleTables: laid · RuleBack: laid · RuleRises: laid · RuleAdds: laid · RuleOwn: laid.
  DERIVED. THE GIVEN ROWS OF THIS SEAT. 6 by the template 'for every input the law returns true; each argument reads behind the call as it read before'; 0 by the template 'total and deterministic' (their statements: YtnkeohiibninfabDoorTotals.lean).
  GIVEN WITH THE SEED: the statements are not yours to turn. If you find one false, say at which input.
  Laid BY PROGRAM, IN A SANDBOX (cutbox-rows.mjs): the forced cells as the released guide's own fill.sh prints them over the translation 2bcf4372b9275da7… (all of the seat's roots in one cut). By AI agents, Wed Nov 11 2026. No macro, syntax, notation, axiom, sorry.
-/
import Derived.Test.YtnkeohiibninfabDoorChecked
import GoSem.Claim
import GoSem.ClaimJoined
import GoSem.ClaimMapViews
import Derived.JoinedTies
import Derived.KernelRfl
namespace Go.Proofs.YtnkeohiibninfabDoor
/- THE CELL 'sum', in the pinned program and in every row, IS THE sha256 OF THE DUMP (.gsa) THAT YtnkeohiibninfabDoorProg.lean LOADS. Nothing in Lean hashes anything: it is a label: what it is worth is what the hold of that sum in a sandbox is worth. -/
noncomputable def Tryd.pinned : Pinned := { name := "ytnkeohiibninfabdoor", sum := "2bcf4372b9275da7f922b4d7dd1ca90ce1e7fe0619c638b2b940995c12d8619c", checked := Tryd.checked }
namespace Rows
def none {H : Type} : Left H := { results := [], args := [] }

/- WHAT THE LISTED PACKAGE-LEVEL VARIABLES READ AS WHEN THE CALL BEGINS. Each datum BY PROGRAM (the guide's laid-datum.mjs) off the statement by which the dump's own 'gosem.cut.vars' lays the variable. In a bare row this is a premise. The card (YtnkeohiibninfabDoorCards.lean) ties it to the program's text. -/
def laid_galley_octet_classes {H : Type} : DataW H := .agg [.lit (.int .u8 1), .lit (.int .u8 1), .lit (.int .u8 1), .lit (.int .u8 1), .lit (.int .u8 1), .lit (.int .u8 1), .lit (.int .u8 1), .lit (.int .u8 1), .lit (.int .u8 1), .lit (.int .u8 1), .lit (.int .u8 1), .lit (.int .u8 1), .lit (.int .u8 1), .lit (.int .u8 1), .lit (.int .u8 1), .lit (.int .u8 1), .lit (.int .u8 1), .lit (.int .u8 1), .lit (.int .u8 1), .lit (.int .u8 1), .lit (.int .u8 1), .lit (.int .u8 1), .lit (.int .u8 1), .lit (.int .u8 1), .lit (.int .u8 1), .lit (.int .u8 1), .lit (.int .u8 1), .lit (.int .u8 1), .lit (.int .u8 1), .lit (.int .u8 1), .lit (.int .u8 1), .lit (.int .u8 1), .lit (.int .u8 1), .lit (.int .u8 1), .lit (.int .u8 1), .lit (.int .u8 1), .lit (.int .u8 1), .lit (.int .u8 1), .lit (.int .u8 1), .lit (.int .u8 1), .lit (.int .u8 1), .lit (.int .u8 1), .lit (.int .u8 1), .lit (.int .u8 1), .lit (.int .u8 1), .lit (.int .u8 1), .lit (.int .u8 1), .lit (.int .u8 1), .lit (.int .u8 1), .lit (.int .u8 1), .lit (.int .u8 1), .lit (.int .u8 1), .lit (.int .u8 1), .lit (.int .u8 1), .lit (.int .u8 1), .lit (.int .u8 1), .lit (.int .u8 1), .lit (.int .u8 1), .lit (.int .u8 1), .lit (.int .u8 1), .lit (.int .u8 1), .lit (.int .u8 1), .lit (.int .u8 1), .lit (.int .u8 1), .lit (.int .u8 1), .lit (.int .u8 1), .lit (.int .u8 1), .lit (.int .u8 1), .lit (.int .u8 1), .lit (.int .u8 1), .lit (.int .u8 1), .lit (.int .u8 1), .lit (.int .u8 1), .lit (.int .u8 1), .lit (.int .u8 1), .lit (.int .u8 1), .lit (.int .u8 1), .lit (.int .u8 1), .lit (.int .u8 1), .lit (.int .u8 1), .lit (.int .u8 1), .lit (.int .u8 1), .lit (.int .u8 1), .lit (.int .u8 1), .lit (.int .u8 1), .lit (.int .u8 1), .lit (.int .u8 1), .lit (.int .u8 1), .lit (.int .u8 1), .lit (.int .u8 1), .lit (.int .u8 1), .lit (.int .u8 1), .lit (.int .u8 1), .lit (.int .u8 1), .lit (.int .u8 1), .lit (.int .u8 1), .lit (.int .u8 1), .lit (.int .u8 1), .lit (.int .u8 1), .lit (.int .u8 1), .lit (.int .u8 1), .lit (.int .u8 1), .lit (.int .u8 1), .lit (.int .u8 1), .lit (.int .u8 1), .lit (.int .u8 1), .lit (.int .u8 1), .lit (.int .u8 1), .lit (.int .u8 1), .lit (.int .u8 1), .lit (.int .u8 1), .lit (.int .u8 1), .lit (.int .u8 1), .lit (.int .u8 1), .lit (.int .u8 1), .lit (.int .u8 1), .lit (.int .u8 1), .lit (.int .u8 1), .lit (.int .u8 1), .lit (.int .u8 1), .lit (.int .u8 1), .lit (.int .u8 1), .lit (.int .u8 1), .lit (.int .u8 1), .lit (.int .u8 1), .lit (.int .u8 1), .lit (.int .u8 1), .lit (.int .u8 1), .lit (.int .u8 2), .lit (.int .u8 2), .lit (.int .u8 2), .lit (.int .u8 2), .lit (.int .u8 2), .lit (.int .u8 2), .lit (.int .u8 2), .lit (.int .u8 2), .lit (.int .u8 2), .lit (.int .u8 2), .lit (.int .u8 2), .lit (.int .u8 2), .lit (.int .u8 2), .lit (.int .u8 2), .lit (.int .u8 2), .lit (.int .u8 2), .lit (.int .u8 2), .lit (.int .u8 2), .lit (.int .u8 2), .lit (.int .u8 2), .lit (.int .u8 2), .lit (.int .u8 2), .lit (.int .u8 2), .lit (.int .u8 2), .lit (.int .u8 2), .lit (.int .u8 2), .lit (.int .u8 2), .lit (.int .u8 2), .lit (.int .u8 2), .lit (.int .u8 2), .lit (.int .u8 2), .lit (.int .u8 2), .lit (.int .u8 2), .lit (.int .u8 2), .lit (.int .u8 2), .lit (.int .u8 2), .lit (.int .u8 2), .lit (.int .u8 2), .lit (.int .u8 2), .lit (.int .u8 2), .lit (.int .u8 2), .lit (.int .u8 2), .lit (.int .u8 2), .lit (.int .u8 2), .lit (.int .u8 2), .lit (.int .u8 2), .lit (.int .u8 2), .lit (.int .u8 2), .lit (.int .u8 2), .lit (.int .u8 2), .lit (.int .u8 2), .lit (.int .u8 2), .lit (.int .u8 2), .lit (.int .u8 2), .lit (.int .u8 2), .lit (.int .u8 2), .lit (.int .u8 2), .lit (.int .u8 2), .lit (.int .u8 2), .lit (.int .u8 2), .lit (.int .u8 2), .lit (.int .u8 2), .lit (.int .u8 2), .lit (.int .u8 2), .lit (.int .u8 6), .lit (.int .u8 6), .lit (.int .u8 3), .lit (.int .u8 3), .lit (.int .u8 3), .lit (.int .u8 3), .lit (.int .u8 3), .lit (.int .u8 3), .lit (.int .u8 3), .lit (.int .u8 3), .lit (.int .u8 3), .lit (.int .u8 3), .lit (.int .u8 3), .lit (.int .u8 3), .lit (.int .u8 3), .lit (.int .u8 3), .lit (.int .u8 3), .lit (.int .u8 3), .lit (.int .u8 3), .lit (.int .u8 3), .lit (.int .u8 3), .lit (.int .u8 3), .lit (.int .u8 3), .lit (.int .u8 3), .lit (.int .u8 3), .lit (.int .u8 3), .lit (.int .u8 3), .lit (.int .u8 3), .lit (.int .u8 3), .lit (.int .u8 3), .lit (.int .u8 3), .lit (.int .u8 3), .lit (.int .u8 4), .lit (.int .u8 4), .lit (.int .u8 4), .lit (.int .u8 4), .lit (.int .u8 4), .lit (.int .u8 4), .lit (.int .u8 4), .lit (.int .u8 4), .lit (.int .u8 4), .lit (.int .u8 4), .lit (.int .u8 4), .lit (.int .u8 4), .lit (.int .u8 4), .lit (.int .u8 4), .lit (.int .u8 4), .lit (.int .u8 4), .lit (.int .u8 5), .lit (.int .u8 5), .lit (.int .u8 5), .lit (.int .u8 5), .lit (.int .u8 5)]

/-- 'galleylaw06.RuleCuts': WHATEVER THE INPUT: true; the input reads as it did. -/
def ruleCutsSpec : ChangeSpec := { name := "ruleCuts", fn := fun _ => fun
  | [d1, d2, d3] => { results := [.lit (.bool true)], args := [d1, d2, d3] }
  | _ => none }
def ruleCutsRow : OpenClaim := { program := "ytnkeohiibninfabdoor", sum := "2bcf4372b9275da7f922b4d7dd1ca90ce1e7fe0619c638b2b940995c12d8619c", func := "galley/galleylaw06.RuleCuts", spec := "ruleCuts", unfollowed := true, recurses := true, named := ["galley/octet.classes"], apart := false, laid := [("galley/octet.classes", laid_galley_octet_classes)] }
def RuleCutsSaid : Prop := ruleCutsRow.holds Tryd.pinned (OpenSpec.ofChange ruleCutsSpec)

/-- ITS FALSE NEIGHBOUR: 'it returns false'. Refute it at one input. -/
def ruleCutsWrong : ChangeSpec := { name := "ruleCuts", fn := fun _ => fun
  | [d1, d2, d3] => { results := [.lit (.bool false)], args := [d1, d2, d3] }
  | _ => none }
def RuleCutsWrongFalsely : Prop := ruleCutsRow.holds Tryd.pinned (OpenSpec.ofChange ruleCutsWrong)

/-- 'galleylaw06.RuleTables': WHATEVER THE INPUT: true; the input reads as it did. -/
def ruleTablesSpec : ChangeSpec := { name := "ruleTables", fn := fun _ => fun
  | [d] => { results := [.lit (.bool true)], args := [d] }
  | _ => none }
def ruleTablesRow : OpenClaim := { program := "ytnkeohiibninfabdoor", sum := "2bcf4372b9275da7f922b4d7dd1ca90ce1e7fe0619c638b2b940995c12d8619c", func := "galley/galleylaw06.RuleTables", spec := "ruleTables", unfollowed := true, recurses := true, named := ["galley/octet.classes"], apart := false, laid := [("galley/octet.classes", laid_galley_octet_classes)] }
def RuleTablesSaid : Prop := ruleTablesRow.holds Tryd.pinned (OpenSpec.ofChange ruleTablesSpec)

/-- ITS FALSE NEIGHBOUR: 'it returns false'. Refute it at one input. -/
def ruleTablesWrong : ChangeSpec := { name := "ruleTables", fn := fun _ => fun
  | [d] => { results := [.lit (.bool false)], args := [d] }
  | _ => none }
def RuleTablesWrongFalsely : Prop := ruleTablesRow.holds Tryd.pinned (OpenSpec.ofChange ruleTablesWrong)

/-- 'galleylaw06.RuleBack': WHATEVER THE INPUT: true; the input reads as it did. -/
def ruleBackSpec : ChangeSpec := { name := "ruleBack", fn := fun _ => fun
  | [d1, d2, d3] => { results := [.lit (.bool true)], args := [d1, d2, d3] }
  | _ => none }
def ruleBackRow : OpenClaim := { program := "ytnkeohiibninfabdoor", sum := "2bcf4372b9275da7f922b4d7dd1ca90ce1e7fe0619c638b2b940995c12d8619c", func := "galley/galleylaw06.RuleBack", spec := "ruleBack", unfollowed := true, recurses := true, named := ["galley/octet.classes"], apart := false, laid := [("galley/octet.classes", laid_galley_octet_classes)] }
def RuleBackSaid : Prop := ruleBackRow.holds Tryd.pinned (OpenSpec.ofChange ruleBackSpec)

/-- ITS FALSE NEIGHBOUR: 'it returns false'. Refute it at one input. -/
def ruleBackWrong : ChangeSpec := { name := "ruleBack", fn := fun _ => fun
  | [d1, d2, d3] => { results := [.lit (.bool false)], args := [d1, d2, d3] }
  | _ => none }
def RuleBackWrongFalsely : Prop := ruleBackRow.holds Tryd.pinned (OpenSpec.ofChange ruleBackWrong)

/-- 'galleylaw06.RuleRises': WHATEVER THE INPUT: true; the input reads as it did. -/
def ruleRisesSpec : ChangeSpec := { name := "ruleRises", fn := fun _ => fun
  | [d1, d2, d3] => { results := [.lit (.bool true)], args := [d1, d2, d3] }
  | _ => none }
def ruleRisesRow : OpenClaim := { program := "ytnkeohiibninfabdoor", sum := "2bcf4372b9275da7f922b4d7dd1ca90ce1e7fe0619c638b2b940995c12d8619c", func := "galley/galleylaw06.RuleRises", spec := "ruleRises", unfollowed := true, recurses := true, named := ["galley/octet.classes"], apart := false, laid := [("galley/octet.classes", laid_galley_octet_classes)] }
def RuleRisesSaid : Prop := ruleRisesRow.holds Tryd.pinned (OpenSpec.ofChange ruleRisesSpec)

/-- ITS FALSE NEIGHBOUR: 'it returns false'. Refute it at one input. -/
def ruleRisesWrong : ChangeSpec := { name := "ruleRises", fn := fun _ => fun
  | [d1, d2, d3] => { results := [.lit (.bool false)], args := [d1, d2, d3] }
  | _ => none }
def RuleRisesWrongFalsely : Prop := ruleRisesRow.holds Tryd.pinned (OpenSpec.ofChange ruleRisesWrong)

/-- 'galleylaw06.RuleAdds': WHATEVER THE INPUT: true; the input reads as it did. -/
def ruleAddsSpec : ChangeSpec := { name := "ruleAdds", fn := fun _ => fun
  | [d1, d2, d3] => { results := [.lit (.bool true)], args := [d1, d2, d3] }
  | _ => none }
def ruleAddsRow : OpenClaim := { program := "ytnkeohiibninfabdoor", sum := "2bcf4372b9275da7f922b4d7dd1ca90ce1e7fe0619c638b2b940995c12d8619c", func := "galley/galleylaw06.RuleAdds", spec := "ruleAdds", unfollowed := true, recurses := true, named := ["galley/octet.classes"], apart := false, laid := [("galley/octet.classes", laid_galley_octet_classes)] }
def RuleAddsSaid : Prop := ruleAddsRow.holds Tryd.pinned (OpenSpec.ofChange ruleAddsSpec)

/-- ITS FALSE NEIGHBOUR: 'it returns false'. Refute it at one input. -/
def ruleAddsWrong : ChangeSpec := { name := "ruleAdds", fn := fun _ => fun
  | [d1, d2, d3] => { results := [.lit (.bool false)], args := [d1, d2, d3] }
  | _ => none }
def RuleAddsWrongFalsely : Prop := ruleAddsRow.holds Tryd.pinned (OpenSpec.ofChange ruleAddsWrong)

/-- 'galleylaw06.RuleOwn': WHATEVER THE INPUT: true; the input reads as it did. -/
def ruleOwnSpec : ChangeSpec := { name := "ruleOwn", fn := fun _ => fun
  | [d1, d2, d3] => { results := [.lit (.bool true)], args := [d1, d2, d3] }
  | _ => none }
def ruleOwnRow : OpenClaim := { program := "ytnkeohiibninfabdoor", sum := "2bcf4372b9275da7f922b4d7dd1ca90ce1e7fe0619c638b2b940995c12d8619c", func := "galley/galleylaw06.RuleOwn", spec := "ruleOwn", unfollowed := true, recurses := true, named := ["galley/octet.classes"], apart := false, laid := [("galley/octet.classes", laid_galley_octet_classes)] }
def RuleOwnSaid : Prop := ruleOwnRow.holds Tryd.pinned (OpenSpec.ofChange ruleOwnSpec)

/-- ITS FALSE NEIGHBOUR: 'it returns false'. Refute it at one input. -/
def ruleOwnWrong : ChangeSpec := { name := "ruleOwn", fn := fun _ => fun
  | [d1, d2, d3] => { results := [.lit (.bool false)], args := [d1, d2, d3] }
  | _ => none }
def RuleOwnWrongFalsely : Prop := ruleOwnRow.holds Tryd.pinned (OpenSpec.ofChange ruleOwnWrong)

/- THE SECOND FORM. 'bulk': how many values and letters a reading holds, each counted each time it is reached (what is shared counts as often as it is met; a slice's spare places count too). A statement '..UptoSaid' is the law's where the arguments, and the package variables that the reading takes, are together of bulk at most 1048576: NARROWER than '..Said'. Prove '..Said' where nothing that the law and all that it calls make is longer than what came in: it says more and counts as full. Else prove '..UptoSaid'. A law counts once. -/
mutual
def uptoBulk {H : Type} : DataW H → Nat
  | .lit (.string bytes) => bytes.length + 1
  | .lit _ => 1
  | .nil => 1
  | .ptr d => uptoBulk d + 1
  | .slice elems spare => uptoBulkAll elems + uptoBulkAll spare + 1
  | .agg parts => uptoBulkAll parts + 1
  | .iface _ d => uptoBulk d + 1
  | .map entries => uptoBulkEntries entries + 1
  | .held _ => 1
def uptoBulkAll {H : Type} : List (DataW H) → Nat
  | [] => 0
  | d :: r => uptoBulk d + uptoBulkAll r
def uptoBulkEntries {H : Type} : List (Lit × DataW H) → Nat
  | [] => 0
  | x :: r => uptoBulkEntry x + uptoBulkEntries r
def uptoBulkEntry {H : Type} : Lit × DataW H → Nat
  | (.string bytes, d) => bytes.length + uptoBulk d + 1
  | (_, d) => uptoBulk d + 1
 end
def uptoSmall : (H : Type) → List (DataW H) → Bool := fun _ ds => decide (uptoBulkAll ds ≤ 1048576)
def OpenSpec.upto (s : _root_.Go.ChangeSpec) : _root_.Go.OpenSpec := { _root_.Go.OpenSpec.ofChange s with cond := some uptoSmall }

/-- 'galleylaw06.RuleCuts', WHERE WHAT IT READS IS OF BULK AT MOST 1048576: true; the input reads as it did. -/
def ruleCutsUptoRow : OpenClaim := { program := "ytnkeohiibninfabdoor", sum := "2bcf4372b9275da7f922b4d7dd1ca90ce1e7fe0619c638b2b940995c12d8619c", func := "galley/galleylaw06.RuleCuts", spec := "ruleCuts", unfollowed := true, recurses := true, named := ["galley/octet.classes"], apart := false, laid := [("galley/octet.classes", laid_galley_octet_classes)], narrowed := true }
def RuleCutsUptoSaid : Prop := ruleCutsUptoRow.holds Tryd.pinned (OpenSpec.upto ruleCutsSpec)

/-- 'galleylaw06.RuleTables', WHERE WHAT IT READS IS OF BULK AT MOST 1048576: true; the input reads as it did. -/
def ruleTablesUptoRow : OpenClaim := { program := "ytnkeohiibninfabdoor", sum := "2bcf4372b9275da7f922b4d7dd1ca90ce1e7fe0619c638b2b940995c12d8619c", func := "galley/galleylaw06.RuleTables", spec := "ruleTables", unfollowed := true, recurses := true, named := ["galley/octet.classes"], apart := false, laid := [("galley/octet.classes", laid_galley_octet_classes)], narrowed := true }
def RuleTablesUptoSaid : Prop := ruleTablesUptoRow.holds Tryd.pinned (OpenSpec.upto ruleTablesSpec)

/-- 'galleylaw06.RuleBack', WHERE WHAT IT READS IS OF BULK AT MOST 1048576: true; the input reads as it did. -/
def ruleBackUptoRow : OpenClaim := { program := "ytnkeohiibninfabdoor", sum := "2bcf4372b9275da7f922b4d7dd1ca90ce1e7fe0619c638b2b940995c12d8619c", func := "galley/galleylaw06.RuleBack", spec := "ruleBack", unfollowed := true, recurses := true, named := ["galley/octet.classes"], apart := false, laid := [("galley/octet.classes", laid_galley_octet_classes)], narrowed := true }
def RuleBackUptoSaid : Prop := ruleBackUptoRow.holds Tryd.pinned (OpenSpec.upto ruleBackSpec)

/-- 'galleylaw06.RuleRises', WHERE WHAT IT READS IS OF BULK AT MOST 1048576: true; the input reads as it did. -/
def ruleRisesUptoRow : OpenClaim := { program := "ytnkeohiibninfabdoor", sum := "2bcf4372b9275da7f922b4d7dd1ca90ce1e7fe0619c638b2b940995c12d8619c", func := "galley/galleylaw06.RuleRises", spec := "ruleRises", unfollowed := true, recurses := true, named := ["galley/octet.classes"], apart := false, laid := [("galley/octet.classes", laid_galley_octet_classes)], narrowed := true }
def RuleRisesUptoSaid : Prop := ruleRisesUptoRow.holds Tryd.pinned (OpenSpec.upto ruleRisesSpec)

/-- 'galleylaw06.RuleAdds', WHERE WHAT IT READS IS OF BULK AT MOST 1048576: true; the input reads as it did. -/
def ruleAddsUptoRow : OpenClaim := { program := "ytnkeohiibninfabdoor", sum := "2bcf4372b9275da7f922b4d7dd1ca90ce1e7fe0619c638b2b940995c12d8619c", func := "galley/galleylaw06.RuleAdds", spec := "ruleAdds", unfollowed := true, recurses := true, named := ["galley/octet.classes"], apart := false, laid := [("galley/octet.classes", laid_galley_octet_classes)], narrowed := true }
def RuleAddsUptoSaid : Prop := ruleAddsUptoRow.holds Tryd.pinned (OpenSpec.upto ruleAddsSpec)

/-- 'galleylaw06.RuleOwn', WHERE WHAT IT READS IS OF BULK AT MOST 1048576: true; the input reads as it did. -/
def ruleOwnUptoRow : OpenClaim := { program := "ytnkeohiibninfabdoor", sum := "2bcf4372b9275da7f922b4d7dd1ca90ce1e7fe0619c638b2b940995c12d8619c", func := "galley/galleylaw06.RuleOwn", spec := "ruleOwn", unfollowed := true, recurses := true, named := ["galley/octet.classes"], apart := false, laid := [("galley/octet.classes", laid_galley_octet_classes)], narrowed := true }
def RuleOwnUptoSaid : Prop := ruleOwnUptoRow.holds Tryd.pinned (OpenSpec.upto ruleOwnSpec)

end Rows
end Go.Proofs.YtnkeohiibninfabDoor
