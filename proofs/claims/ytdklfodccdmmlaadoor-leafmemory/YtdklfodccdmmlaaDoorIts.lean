/- Contracts of step.All and of the iterator that it answers: the steps with their places, from the first on, for every loop body that keeps what lay below. -/
import Derived.Test.YtdklfodccdmmlaaDoorVld
import Derived.RangeFuncNested
import Derived.RangeFuncBound
import Derived.RangeFuncCalls
import Derived.RangeFuncLeaves
import Derived.Shelf.Abstract
import Derived.Shelf.RegionOpen
import Derived.WalkKit
import Derived.OwnWalkIn
import Derived.TacticsInMore
import Derived.LoopNIn
import Derived.LoopIn
namespace Go.Proofs.YtdklfodccdmmlaaDoor
open Go.ChangeShapes Go.WideShapes Go.ChangeAt Go.RowKit
attribute [local go_sem] Oper.semAt_some

/-- what a round that goes on keeps: what lay below n₀, and what is ranged over -/
def Kp (n₀ : Nat) (A B : World) : Prop := Below n₀ A B ∧ KeepsWalks A B
theorem kp_t {n₀ : Nat} {A B C : World} (h : Kp n₀ A B) (k : Kp n₀ B C) : Kp n₀ A C := ⟨h.1.trans k.1, h.2.trans k.2⟩
theorem kp_b {n₀ : Nat} {w : World} (hn : n₀ ≤ w.heap.size) (W : World) (l : Nat) (_o o' : Obj) (hl : w.heap.size ≤ l) (h : W.heap[l]? = some _o) (hc : _o.isCells = false) (hw : _o.isWalk = false) : Kp n₀ W (W.putObj l o') :=
  ⟨belowK_b hn W l _ o' hl h hc hw, walksK_b (w := w) W l _ o' hl h hc hw⟩
theorem grown_below {W W' : World} (row : Option Nat) (h : Below W.heap.size W W') : W.grownBy W' row := ⟨h.os, h.tape, h.output, h.size, fun k hk _ => h.block k hk⟩
theorem walks_below {W W' : World} (h : Below W.heap.size W W') : KeepsWalks W W' := ⟨h.size, fun k _ hk _ => (h.block k (heap_lt hk)).trans hk⟩

/-- what is yielded at a place -/
def encS (l : List Int) (p : Nat) : Array Value := #[.int .i64 p, .agg #[.int .i32 (first (l.drop p)).1, .int .i64 (wid (l.drop p)), .bool (whl (l.drop p))]]

end Go.Proofs.YtdklfodccdmmlaaDoor
