/-
  No cell of these rows narrows 'for every input' (looked for: loops, veiled, ifaces, maps, wideKeys, modest, calm, conditions, laid).
  DERIVED. THE GIVEN ROWS OF THIS SEAT. 6 by the template 'for every input the law returns true; each argument reads behind the call as it read before'; 0 by the template 'total and deterministic' (their statements: YthikhnlgpljbpaaTotals.lean).
  GIVEN WITH THE SEED: the statements are not yours to turn. If you find one false, say at which input.
  Laid BY PROGRAM, IN A SANDBOX (cutbox-rows.mjs): the forced cells as the released guide's own fill.sh prints them over the translation 1d607ea9d620d8a6… (all of the seat's roots in one cut). By AI agents, Wed Nov 11 2026. No macro, syntax, notation, axiom, sorry.
-/
import Derived.Test.YthikhnlgpljbpaaChecked
import GoSem.Claim
import GoSem.ClaimJoined
import GoSem.ClaimMapViews
import Derived.JoinedTies
import Derived.KernelRfl
namespace Go.Proofs.Ythikhnlgpljbpaa
/- THE CELL 'sum', in the pinned program and in every row, IS THE sha256 OF THE DUMP (.gsa) THAT YthikhnlgpljbpaaProg.lean LOADS. Nothing in Lean hashes anything: it is a label: what it is worth is what the hold of that sum in a sandbox is worth. -/
noncomputable def Try.pinned : Pinned := { name := "ythikhnlgpljbpaa", sum := "1d607ea9d620d8a6ce79d58e76231ee5c3383ddf80b560374739468d8c931e68", checked := Try.checked }
namespace Rows
def none {H : Type} : Left H := { results := [], args := [] }

/-- 'galleylaw14.ShiftNames': WHATEVER THE INPUT: true; the input reads as it did. -/
def shiftNamesSpec : ChangeSpec := { name := "shiftNames", fn := fun _ => fun
  | [] => { results := [.lit (.bool true)], args := [] }
  | _ => none }
def shiftNamesRow : OpenClaim := { program := "ythikhnlgpljbpaa", sum := "1d607ea9d620d8a6ce79d58e76231ee5c3383ddf80b560374739468d8c931e68", func := "galley/galleylaw14.ShiftNames", spec := "shiftNames", inPlace := ["internal/abi.NoEscape", "internal/bytealg.MakeNoZero"], unfollowed := true, recurses := true, apart := false }
def ShiftNamesSaid : Prop := shiftNamesRow.holds Try.pinned (OpenSpec.ofChange shiftNamesSpec)

/-- ITS FALSE NEIGHBOUR: 'it returns false'. Refute it at one input. -/
def shiftNamesWrong : ChangeSpec := { name := "shiftNames", fn := fun _ => fun
  | [] => { results := [.lit (.bool false)], args := [] }
  | _ => none }
def ShiftNamesWrongFalsely : Prop := shiftNamesRow.holds Try.pinned (OpenSpec.ofChange shiftNamesWrong)

/-- 'galleylaw14.ShiftPlaces': WHATEVER THE INPUT: true; the input reads as it did. -/
def shiftPlacesSpec : ChangeSpec := { name := "shiftPlaces", fn := fun _ => fun
  | [d1, d2, d3] => { results := [.lit (.bool true)], args := [d1, d2, d3] }
  | _ => none }
def shiftPlacesRow : OpenClaim := { program := "ythikhnlgpljbpaa", sum := "1d607ea9d620d8a6ce79d58e76231ee5c3383ddf80b560374739468d8c931e68", func := "galley/galleylaw14.ShiftPlaces", spec := "shiftPlaces", inPlace := ["internal/abi.NoEscape", "internal/bytealg.MakeNoZero"], unfollowed := true, recurses := true, apart := false }
def ShiftPlacesSaid : Prop := shiftPlacesRow.holds Try.pinned (OpenSpec.ofChange shiftPlacesSpec)

/-- ITS FALSE NEIGHBOUR: 'it returns false'. Refute it at one input. -/
def shiftPlacesWrong : ChangeSpec := { name := "shiftPlaces", fn := fun _ => fun
  | [d1, d2, d3] => { results := [.lit (.bool false)], args := [d1, d2, d3] }
  | _ => none }
def ShiftPlacesWrongFalsely : Prop := shiftPlacesRow.holds Try.pinned (OpenSpec.ofChange shiftPlacesWrong)

/-- 'galleylaw14.ShiftOver': WHATEVER THE INPUT: true; the input reads as it did. -/
def shiftOverSpec : ChangeSpec := { name := "shiftOver", fn := fun _ => fun
  | [d1, d2, d3] => { results := [.lit (.bool true)], args := [d1, d2, d3] }
  | _ => none }
def shiftOverRow : OpenClaim := { program := "ythikhnlgpljbpaa", sum := "1d607ea9d620d8a6ce79d58e76231ee5c3383ddf80b560374739468d8c931e68", func := "galley/galleylaw14.ShiftOver", spec := "shiftOver", inPlace := ["internal/abi.NoEscape", "internal/bytealg.MakeNoZero"], unfollowed := true, recurses := true, apart := false }
def ShiftOverSaid : Prop := shiftOverRow.holds Try.pinned (OpenSpec.ofChange shiftOverSpec)

/-- ITS FALSE NEIGHBOUR: 'it returns false'. Refute it at one input. -/
def shiftOverWrong : ChangeSpec := { name := "shiftOver", fn := fun _ => fun
  | [d1, d2, d3] => { results := [.lit (.bool false)], args := [d1, d2, d3] }
  | _ => none }
def ShiftOverWrongFalsely : Prop := shiftOverRow.holds Try.pinned (OpenSpec.ofChange shiftOverWrong)

/-- 'galleylaw14.ShiftChain': WHATEVER THE INPUT: true; the input reads as it did. -/
def shiftChainSpec : ChangeSpec := { name := "shiftChain", fn := fun _ => fun
  | [d1, d2] => { results := [.lit (.bool true)], args := [d1, d2] }
  | _ => none }
def shiftChainRow : OpenClaim := { program := "ythikhnlgpljbpaa", sum := "1d607ea9d620d8a6ce79d58e76231ee5c3383ddf80b560374739468d8c931e68", func := "galley/galleylaw14.ShiftChain", spec := "shiftChain", inPlace := ["internal/abi.NoEscape", "internal/bytealg.MakeNoZero"], unfollowed := true, recurses := true, apart := false }
def ShiftChainSaid : Prop := shiftChainRow.holds Try.pinned (OpenSpec.ofChange shiftChainSpec)

/-- ITS FALSE NEIGHBOUR: 'it returns false'. Refute it at one input. -/
def shiftChainWrong : ChangeSpec := { name := "shiftChain", fn := fun _ => fun
  | [d1, d2] => { results := [.lit (.bool false)], args := [d1, d2] }
  | _ => none }
def ShiftChainWrongFalsely : Prop := shiftChainRow.holds Try.pinned (OpenSpec.ofChange shiftChainWrong)

/-- 'galleylaw14.ShiftMeets': WHATEVER THE INPUT: true; the input reads as it did. -/
def shiftMeetsSpec : ChangeSpec := { name := "shiftMeets", fn := fun _ => fun
  | [d1, d2, d3] => { results := [.lit (.bool true)], args := [d1, d2, d3] }
  | _ => none }
def shiftMeetsRow : OpenClaim := { program := "ythikhnlgpljbpaa", sum := "1d607ea9d620d8a6ce79d58e76231ee5c3383ddf80b560374739468d8c931e68", func := "galley/galleylaw14.ShiftMeets", spec := "shiftMeets", inPlace := ["internal/abi.NoEscape", "internal/bytealg.MakeNoZero"], unfollowed := true, recurses := true, apart := false }
def ShiftMeetsSaid : Prop := shiftMeetsRow.holds Try.pinned (OpenSpec.ofChange shiftMeetsSpec)

/-- ITS FALSE NEIGHBOUR: 'it returns false'. Refute it at one input. -/
def shiftMeetsWrong : ChangeSpec := { name := "shiftMeets", fn := fun _ => fun
  | [d1, d2, d3] => { results := [.lit (.bool false)], args := [d1, d2, d3] }
  | _ => none }
def ShiftMeetsWrongFalsely : Prop := shiftMeetsRow.holds Try.pinned (OpenSpec.ofChange shiftMeetsWrong)

/-- 'galleylaw14.ShiftChains': WHATEVER THE INPUT: true; the input reads as it did. -/
def shiftChainsSpec : ChangeSpec := { name := "shiftChains", fn := fun _ => fun
  | [d1, d2] => { results := [.lit (.bool true)], args := [d1, d2] }
  | _ => none }
def shiftChainsRow : OpenClaim := { program := "ythikhnlgpljbpaa", sum := "1d607ea9d620d8a6ce79d58e76231ee5c3383ddf80b560374739468d8c931e68", func := "galley/galleylaw14.ShiftChains", spec := "shiftChains", inPlace := ["internal/abi.NoEscape", "internal/bytealg.MakeNoZero"], unfollowed := true, recurses := true, apart := false }
def ShiftChainsSaid : Prop := shiftChainsRow.holds Try.pinned (OpenSpec.ofChange shiftChainsSpec)

/-- ITS FALSE NEIGHBOUR: 'it returns false'. Refute it at one input. -/
def shiftChainsWrong : ChangeSpec := { name := "shiftChains", fn := fun _ => fun
  | [d1, d2] => { results := [.lit (.bool false)], args := [d1, d2] }
  | _ => none }
def ShiftChainsWrongFalsely : Prop := shiftChainsRow.holds Try.pinned (OpenSpec.ofChange shiftChainsWrong)

/- THE SECOND FORM. 'bulk': how many values and letters a reading holds, each counted each time it is reached (what is shared counts as often as it is met; a slice's spare places count too). A statement '..UptoSaid' is the law's where the arguments, and the package variables that the reading takes, are together of bulk at most 1048576: NARROWER than '..Said'. Prove '..Said' where nothing that the law and all that it calls make is longer than what came in: it says more and counts as full. Else prove '..UptoSaid'. A law counts once. -/
mutual
def uptoBulk {H : Type} : DataW H → Nat
  | .lit (.string bytes) => bytes.length + 1
  | .lit _ => 1
  | .nil => 1
  | .ptr d => uptoBulk d + 1
  | .slice elems spare => uptoBulkAll elems + uptoBulkAll spare + 1
  | .agg parts => uptoBulkAll parts + 1
  | .iface _ d => uptoBulk d + 1
  | .map entries => uptoBulkEntries entries + 1
  | .held _ => 1
def uptoBulkAll {H : Type} : List (DataW H) → Nat
  | [] => 0
  | d :: r => uptoBulk d + uptoBulkAll r
def uptoBulkEntries {H : Type} : List (Lit × DataW H) → Nat
  | [] => 0
  | x :: r => uptoBulkEntry x + uptoBulkEntries r
def uptoBulkEntry {H : Type} : Lit × DataW H → Nat
  | (.string bytes, d) => bytes.length + uptoBulk d + 1
  | (_, d) => uptoBulk d + 1
 end
def uptoSmall : (H : Type) → List (DataW H) → Bool := fun _ ds => decide (uptoBulkAll ds ≤ 1048576)
def OpenSpec.upto (s : _root_.Go.ChangeSpec) : _root_.Go.OpenSpec := { _root_.Go.OpenSpec.ofChange s with cond := some uptoSmall }

/-- 'galleylaw14.ShiftNames', WHERE WHAT IT READS IS OF BULK AT MOST 1048576: true; the input reads as it did. -/
def shiftNamesUptoRow : OpenClaim := { program := "ythikhnlgpljbpaa", sum := "1d607ea9d620d8a6ce79d58e76231ee5c3383ddf80b560374739468d8c931e68", func := "galley/galleylaw14.ShiftNames", spec := "shiftNames", inPlace := ["internal/abi.NoEscape", "internal/bytealg.MakeNoZero"], unfollowed := true, recurses := true, apart := false, narrowed := true }
def ShiftNamesUptoSaid : Prop := shiftNamesUptoRow.holds Try.pinned (OpenSpec.upto shiftNamesSpec)

/-- 'galleylaw14.ShiftPlaces', WHERE WHAT IT READS IS OF BULK AT MOST 1048576: true; the input reads as it did. -/
def shiftPlacesUptoRow : OpenClaim := { program := "ythikhnlgpljbpaa", sum := "1d607ea9d620d8a6ce79d58e76231ee5c3383ddf80b560374739468d8c931e68", func := "galley/galleylaw14.ShiftPlaces", spec := "shiftPlaces", inPlace := ["internal/abi.NoEscape", "internal/bytealg.MakeNoZero"], unfollowed := true, recurses := true, apart := false, narrowed := true }
def ShiftPlacesUptoSaid : Prop := shiftPlacesUptoRow.holds Try.pinned (OpenSpec.upto shiftPlacesSpec)

/-- 'galleylaw14.ShiftOver', WHERE WHAT IT READS IS OF BULK AT MOST 1048576: true; the input reads as it did. -/
def shiftOverUptoRow : OpenClaim := { program := "ythikhnlgpljbpaa", sum := "1d607ea9d620d8a6ce79d58e76231ee5c3383ddf80b560374739468d8c931e68", func := "galley/galleylaw14.ShiftOver", spec := "shiftOver", inPlace := ["internal/abi.NoEscape", "internal/bytealg.MakeNoZero"], unfollowed := true, recurses := true, apart := false, narrowed := true }
def ShiftOverUptoSaid : Prop := shiftOverUptoRow.holds Try.pinned (OpenSpec.upto shiftOverSpec)

/-- 'galleylaw14.ShiftChain', WHERE WHAT IT READS IS OF BULK AT MOST 1048576: true; the input reads as it did. -/
def shiftChainUptoRow : OpenClaim := { program := "ythikhnlgpljbpaa", sum := "1d607ea9d620d8a6ce79d58e76231ee5c3383ddf80b560374739468d8c931e68", func := "galley/galleylaw14.ShiftChain", spec := "shiftChain", inPlace := ["internal/abi.NoEscape", "internal/bytealg.MakeNoZero"], unfollowed := true, recurses := true, apart := false, narrowed := true }
def ShiftChainUptoSaid : Prop := shiftChainUptoRow.holds Try.pinned (OpenSpec.upto shiftChainSpec)

/-- 'galleylaw14.ShiftMeets', WHERE WHAT IT READS IS OF BULK AT MOST 1048576: true; the input reads as it did. -/
def shiftMeetsUptoRow : OpenClaim := { program := "ythikhnlgpljbpaa", sum := "1d607ea9d620d8a6ce79d58e76231ee5c3383ddf80b560374739468d8c931e68", func := "galley/galleylaw14.ShiftMeets", spec := "shiftMeets", inPlace := ["internal/abi.NoEscape", "internal/bytealg.MakeNoZero"], unfollowed := true, recurses := true, apart := false, narrowed := true }
def ShiftMeetsUptoSaid : Prop := shiftMeetsUptoRow.holds Try.pinned (OpenSpec.upto shiftMeetsSpec)

/-- 'galleylaw14.ShiftChains', WHERE WHAT IT READS IS OF BULK AT MOST 1048576: true; the input reads as it did. -/
def shiftChainsUptoRow : OpenClaim := { program := "ythikhnlgpljbpaa", sum := "1d607ea9d620d8a6ce79d58e76231ee5c3383ddf80b560374739468d8c931e68", func := "galley/galleylaw14.ShiftChains", spec := "shiftChains", inPlace := ["internal/abi.NoEscape", "internal/bytealg.MakeNoZero"], unfollowed := true, recurses := true, apart := false, narrowed := true }
def ShiftChainsUptoSaid : Prop := shiftChainsUptoRow.holds Try.pinned (OpenSpec.upto shiftChainsSpec)

end Rows
end Go.Proofs.Ythikhnlgpljbpaa
