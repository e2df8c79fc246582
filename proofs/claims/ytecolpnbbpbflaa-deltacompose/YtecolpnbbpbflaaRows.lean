/-
  No cell of these rows narrows 'for every input' (looked for: loops, veiled, ifaces, maps, wideKeys, modest, calm, conditions, laid).
  DERIVED. THE GIVEN ROWS OF THIS SEAT. 6 by the template 'for every input the law returns true; each argument reads behind the call as it read before'; 0 by the template 'total and deterministic' (their statements: YtecolpnbbpbflaaTotals.lean).
  GIVEN WITH THE SEED: the statements are not yours to turn. If you find one false, say at which input.
  Laid BY PROGRAM, IN A SANDBOX (cutbox-rows.mjs): the forced cells as the released guide's own fill.sh prints them over the translation c6b244b79cba9b5a… (all of the seat's roots in one cut). By AI agents, Wed Nov 11 2026. No macro, syntax, notation, axiom, sorry.
-/
import Derived.Test.YtecolpnbbpbflaaChecked
import GoSem.Claim
import GoSem.ClaimJoined
import GoSem.ClaimMapViews
import Derived.JoinedTies
import Derived.KernelRfl
namespace Go.Proofs.Ytecolpnbbpbflaa
/- THE CELL 'sum', in the pinned program and in every row, IS THE sha256 OF THE DUMP (.gsa) THAT YtecolpnbbpbflaaProg.lean LOADS. Nothing in Lean hashes anything: it is a label: what it is worth is what the hold of that sum in a sandbox is worth. -/
noncomputable def Try.pinned : Pinned := { name := "ytecolpnbbpbflaa", sum := "c6b244b79cba9b5a881a8f8878e94e6a49d312c6bef67aee42e9261609ce9c5f", checked := Try.checked }
namespace Rows
def none {H : Type} : Left H := { results := [], args := [] }

/-- 'galleylaw13.DeltaCanon': WHATEVER THE INPUT: true; the input reads as it did. -/
def deltaCanonSpec : ChangeSpec := { name := "deltaCanon", fn := fun _ => fun
  | [d] => { results := [.lit (.bool true)], args := [d] }
  | _ => none }
def deltaCanonRow : OpenClaim := { program := "ytecolpnbbpbflaa", sum := "c6b244b79cba9b5a881a8f8878e94e6a49d312c6bef67aee42e9261609ce9c5f", func := "galley/galleylaw13.DeltaCanon", spec := "deltaCanon", inPlace := ["internal/abi.NoEscape", "internal/bytealg.MakeNoZero"], unfollowed := true, recurses := true, apart := false }
def DeltaCanonSaid : Prop := deltaCanonRow.holds Try.pinned (OpenSpec.ofChange deltaCanonSpec)

/-- ITS FALSE NEIGHBOUR: 'it returns false'. Refute it at one input. -/
def deltaCanonWrong : ChangeSpec := { name := "deltaCanon", fn := fun _ => fun
  | [d] => { results := [.lit (.bool false)], args := [d] }
  | _ => none }
def DeltaCanonWrongFalsely : Prop := deltaCanonRow.holds Try.pinned (OpenSpec.ofChange deltaCanonWrong)

/-- 'galleylaw13.DeltaOf': WHATEVER THE INPUT: true; the input reads as it did. -/
def deltaOfSpec : ChangeSpec := { name := "deltaOf", fn := fun _ => fun
  | [d1, d2] => { results := [.lit (.bool true)], args := [d1, d2] }
  | _ => none }
def deltaOfRow : OpenClaim := { program := "ytecolpnbbpbflaa", sum := "c6b244b79cba9b5a881a8f8878e94e6a49d312c6bef67aee42e9261609ce9c5f", func := "galley/galleylaw13.DeltaOf", spec := "deltaOf", inPlace := ["internal/abi.NoEscape", "internal/bytealg.MakeNoZero"], unfollowed := true, recurses := true, apart := false }
def DeltaOfSaid : Prop := deltaOfRow.holds Try.pinned (OpenSpec.ofChange deltaOfSpec)

/-- ITS FALSE NEIGHBOUR: 'it returns false'. Refute it at one input. -/
def deltaOfWrong : ChangeSpec := { name := "deltaOf", fn := fun _ => fun
  | [d1, d2] => { results := [.lit (.bool false)], args := [d1, d2] }
  | _ => none }
def DeltaOfWrongFalsely : Prop := deltaOfRow.holds Try.pinned (OpenSpec.ofChange deltaOfWrong)

/-- 'galleylaw13.DeltaApply': WHATEVER THE INPUT: true; the input reads as it did. -/
def deltaApplySpec : ChangeSpec := { name := "deltaApply", fn := fun _ => fun
  | [d1, d2] => { results := [.lit (.bool true)], args := [d1, d2] }
  | _ => none }
def deltaApplyRow : OpenClaim := { program := "ytecolpnbbpbflaa", sum := "c6b244b79cba9b5a881a8f8878e94e6a49d312c6bef67aee42e9261609ce9c5f", func := "galley/galleylaw13.DeltaApply", spec := "deltaApply", inPlace := ["internal/abi.NoEscape", "internal/bytealg.MakeNoZero"], unfollowed := true, recurses := true, apart := false }
def DeltaApplySaid : Prop := deltaApplyRow.holds Try.pinned (OpenSpec.ofChange deltaApplySpec)

/-- ITS FALSE NEIGHBOUR: 'it returns false'. Refute it at one input. -/
def deltaApplyWrong : ChangeSpec := { name := "deltaApply", fn := fun _ => fun
  | [d1, d2] => { results := [.lit (.bool false)], args := [d1, d2] }
  | _ => none }
def DeltaApplyWrongFalsely : Prop := deltaApplyRow.holds Try.pinned (OpenSpec.ofChange deltaApplyWrong)

/-- 'galleylaw13.DeltaCompose': WHATEVER THE INPUT: true; the input reads as it did. -/
def deltaComposeSpec : ChangeSpec := { name := "deltaCompose", fn := fun _ => fun
  | [d1, d2] => { results := [.lit (.bool true)], args := [d1, d2] }
  | _ => none }
def deltaComposeRow : OpenClaim := { program := "ytecolpnbbpbflaa", sum := "c6b244b79cba9b5a881a8f8878e94e6a49d312c6bef67aee42e9261609ce9c5f", func := "galley/galleylaw13.DeltaCompose", spec := "deltaCompose", inPlace := ["internal/abi.NoEscape", "internal/bytealg.MakeNoZero"], unfollowed := true, recurses := true, apart := false }
def DeltaComposeSaid : Prop := deltaComposeRow.holds Try.pinned (OpenSpec.ofChange deltaComposeSpec)

/-- ITS FALSE NEIGHBOUR: 'it returns false'. Refute it at one input. -/
def deltaComposeWrong : ChangeSpec := { name := "deltaCompose", fn := fun _ => fun
  | [d1, d2] => { results := [.lit (.bool false)], args := [d1, d2] }
  | _ => none }
def DeltaComposeWrongFalsely : Prop := deltaComposeRow.holds Try.pinned (OpenSpec.ofChange deltaComposeWrong)

/-- 'galleylaw13.DeltaDoes': WHATEVER THE INPUT: true; the input reads as it did. -/
def deltaDoesSpec : ChangeSpec := { name := "deltaDoes", fn := fun _ => fun
  | [d1, d2, d3] => { results := [.lit (.bool true)], args := [d1, d2, d3] }
  | _ => none }
def deltaDoesRow : OpenClaim := { program := "ytecolpnbbpbflaa", sum := "c6b244b79cba9b5a881a8f8878e94e6a49d312c6bef67aee42e9261609ce9c5f", func := "galley/galleylaw13.DeltaDoes", spec := "deltaDoes", inPlace := ["internal/abi.NoEscape", "internal/bytealg.MakeNoZero"], unfollowed := true, recurses := true, apart := false }
def DeltaDoesSaid : Prop := deltaDoesRow.holds Try.pinned (OpenSpec.ofChange deltaDoesSpec)

/-- ITS FALSE NEIGHBOUR: 'it returns false'. Refute it at one input. -/
def deltaDoesWrong : ChangeSpec := { name := "deltaDoes", fn := fun _ => fun
  | [d1, d2, d3] => { results := [.lit (.bool false)], args := [d1, d2, d3] }
  | _ => none }
def DeltaDoesWrongFalsely : Prop := deltaDoesRow.holds Try.pinned (OpenSpec.ofChange deltaDoesWrong)

/-- 'galleylaw13.DeltaAssoc': WHATEVER THE INPUT: true; the input reads as it did. -/
def deltaAssocSpec : ChangeSpec := { name := "deltaAssoc", fn := fun _ => fun
  | [d1, d2] => { results := [.lit (.bool true)], args := [d1, d2] }
  | _ => none }
def deltaAssocRow : OpenClaim := { program := "ytecolpnbbpbflaa", sum := "c6b244b79cba9b5a881a8f8878e94e6a49d312c6bef67aee42e9261609ce9c5f", func := "galley/galleylaw13.DeltaAssoc", spec := "deltaAssoc", inPlace := ["internal/abi.NoEscape", "internal/bytealg.MakeNoZero"], unfollowed := true, recurses := true, apart := false }
def DeltaAssocSaid : Prop := deltaAssocRow.holds Try.pinned (OpenSpec.ofChange deltaAssocSpec)

/-- ITS FALSE NEIGHBOUR: 'it returns false'. Refute it at one input. -/
def deltaAssocWrong : ChangeSpec := { name := "deltaAssoc", fn := fun _ => fun
  | [d1, d2] => { results := [.lit (.bool false)], args := [d1, d2] }
  | _ => none }
def DeltaAssocWrongFalsely : Prop := deltaAssocRow.holds Try.pinned (OpenSpec.ofChange deltaAssocWrong)

/- THE SECOND FORM. 'bulk': how many values and letters a reading holds, each counted each time it is reached (what is shared counts as often as it is met; a slice's spare places count too). A statement '..UptoSaid' is the law's where the arguments, and the package variables that the reading takes, are together of bulk at most 1048576: NARROWER than '..Said'. Prove '..Said' where nothing that the law and all that it calls make is longer than what came in: it says more and counts as full. Else prove '..UptoSaid'. A law counts once. -/
mutual
def uptoBulk {H : Type} : DataW H → Nat
  | .lit (.string bytes) => bytes.length + 1
  | .lit _ => 1
  | .nil => 1
  | .ptr d => uptoBulk d + 1
  | .slice elems spare => uptoBulkAll elems + uptoBulkAll spare + 1
  | .agg parts => uptoBulkAll parts + 1
  | .iface _ d => uptoBulk d + 1
  | .map entries => uptoBulkEntries entries + 1
  | .held _ => 1
def uptoBulkAll {H : Type} : List (DataW H) → Nat
  | [] => 0
  | d :: r => uptoBulk d + uptoBulkAll r
def uptoBulkEntries {H : Type} : List (Lit × DataW H) → Nat
  | [] => 0
  | x :: r => uptoBulkEntry x + uptoBulkEntries r
def uptoBulkEntry {H : Type} : Lit × DataW H → Nat
  | (.string bytes, d) => bytes.length + uptoBulk d + 1
  | (_, d) => uptoBulk d + 1
 end
def uptoSmall : (H : Type) → List (DataW H) → Bool := fun _ ds => decide (uptoBulkAll ds ≤ 1048576)
def OpenSpec.upto (s : _root_.Go.ChangeSpec) : _root_.Go.OpenSpec := { _root_.Go.OpenSpec.ofChange s with cond := some uptoSmall }

/-- 'galleylaw13.DeltaCanon', WHERE WHAT IT READS IS OF BULK AT MOST 1048576: true; the input reads as it did. -/
def deltaCanonUptoRow : OpenClaim := { program := "ytecolpnbbpbflaa", sum := "c6b244b79cba9b5a881a8f8878e94e6a49d312c6bef67aee42e9261609ce9c5f", func := "galley/galleylaw13.DeltaCanon", spec := "deltaCanon", inPlace := ["internal/abi.NoEscape", "internal/bytealg.MakeNoZero"], unfollowed := true, recurses := true, apart := false, narrowed := true }
def DeltaCanonUptoSaid : Prop := deltaCanonUptoRow.holds Try.pinned (OpenSpec.upto deltaCanonSpec)

/-- 'galleylaw13.DeltaOf', WHERE WHAT IT READS IS OF BULK AT MOST 1048576: true; the input reads as it did. -/
def deltaOfUptoRow : OpenClaim := { program := "ytecolpnbbpbflaa", sum := "c6b244b79cba9b5a881a8f8878e94e6a49d312c6bef67aee42e9261609ce9c5f", func := "galley/galleylaw13.DeltaOf", spec := "deltaOf", inPlace := ["internal/abi.NoEscape", "internal/bytealg.MakeNoZero"], unfollowed := true, recurses := true, apart := false, narrowed := true }
def DeltaOfUptoSaid : Prop := deltaOfUptoRow.holds Try.pinned (OpenSpec.upto deltaOfSpec)

/-- 'galleylaw13.DeltaApply', WHERE WHAT IT READS IS OF BULK AT MOST 1048576: true; the input reads as it did. -/
def deltaApplyUptoRow : OpenClaim := { program := "ytecolpnbbpbflaa", sum := "c6b244b79cba9b5a881a8f8878e94e6a49d312c6bef67aee42e9261609ce9c5f", func := "galley/galleylaw13.DeltaApply", spec := "deltaApply", inPlace := ["internal/abi.NoEscape", "internal/bytealg.MakeNoZero"], unfollowed := true, recurses := true, apart := false, narrowed := true }
def DeltaApplyUptoSaid : Prop := deltaApplyUptoRow.holds Try.pinned (OpenSpec.upto deltaApplySpec)

/-- 'galleylaw13.DeltaCompose', WHERE WHAT IT READS IS OF BULK AT MOST 1048576: true; the input reads as it did. -/
def deltaComposeUptoRow : OpenClaim := { program := "ytecolpnbbpbflaa", sum := "c6b244b79cba9b5a881a8f8878e94e6a49d312c6bef67aee42e9261609ce9c5f", func := "galley/galleylaw13.DeltaCompose", spec := "deltaCompose", inPlace := ["internal/abi.NoEscape", "internal/bytealg.MakeNoZero"], unfollowed := true, recurses := true, apart := false, narrowed := true }
def DeltaComposeUptoSaid : Prop := deltaComposeUptoRow.holds Try.pinned (OpenSpec.upto deltaComposeSpec)

/-- 'galleylaw13.DeltaDoes', WHERE WHAT IT READS IS OF BULK AT MOST 1048576: true; the input reads as it did. -/
def deltaDoesUptoRow : OpenClaim := { program := "ytecolpnbbpbflaa", sum := "c6b244b79cba9b5a881a8f8878e94e6a49d312c6bef67aee42e9261609ce9c5f", func := "galley/galleylaw13.DeltaDoes", spec := "deltaDoes", inPlace := ["internal/abi.NoEscape", "internal/bytealg.MakeNoZero"], unfollowed := true, recurses := true, apart := false, narrowed := true }
def DeltaDoesUptoSaid : Prop := deltaDoesUptoRow.holds Try.pinned (OpenSpec.upto deltaDoesSpec)

/-- 'galleylaw13.DeltaAssoc', WHERE WHAT IT READS IS OF BULK AT MOST 1048576: true; the input reads as it did. -/
def deltaAssocUptoRow : OpenClaim := { program := "ytecolpnbbpbflaa", sum := "c6b244b79cba9b5a881a8f8878e94e6a49d312c6bef67aee42e9261609ce9c5f", func := "galley/galleylaw13.DeltaAssoc", spec := "deltaAssoc", inPlace := ["internal/abi.NoEscape", "internal/bytealg.MakeNoZero"], unfollowed := true, recurses := true, apart := false, narrowed := true }
def DeltaAssocUptoSaid : Prop := deltaAssocUptoRow.holds Try.pinned (OpenSpec.upto deltaAssocSpec)

end Rows
end Go.Proofs.Ytecolpnbbpbflaa
