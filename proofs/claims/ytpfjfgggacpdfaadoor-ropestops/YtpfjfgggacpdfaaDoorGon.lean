/- Contract of galleylaw02.gone: what an iterator gives, in two lists of the call's own. -/
import Derived.Test.YtpfjfgggacpdfaaDoorBrg
import Derived.RangeFuncBox
import Derived.Maps.AppendAt
import Derived.Deep.AppendLies
namespace Go.Proofs.YtpfjfgggacpdfaaDoor
open Go.ChangeShapes Go.WideShapes Go.ChangeAt Go.RowKit
attribute [local go_sem] Oper.semAt_some

def cel (l : List Int) (p : Nat) : List Value := [.int .i32 (first (l.drop p)).1, .int .i64 (wid (l.drop p)), .bool (whl (l.drop p))]
def ints (ps : List Nat) : List Value := ps.map fun (p : Nat) => .int .i64 (p : Int)
def stps (l : List Int) (ps : List Nat) : List Value := ps.flatMap (cel l)
theorem ints_snoc (ps : List Nat) (p : Nat) : ints (ps ++ [p]) = ints ps ++ [.int .i64 p] := by simp [ints]
theorem stps_snoc (l : List Int) (ps : List Nat) (p : Nat) : stps l (ps ++ [p]) = stps l ps ++ cel l p := by simp [stps]

/-- a struct of three cells, not frozen -/
def Box3 (W : World) (B : Nat) (t : TypeId) (a b c : Value) : Prop := W.heap[B]? = some (.cells #[a, b, c] t (0, 0))
theorem Box3.lt {W : World} {B : Nat} {t : TypeId} {a b c : Value} (h : Box3 W B t a b c) : B < W.heap.size := (Array.getElem?_eq_some_iff.1 h).1
theorem Box3.cells {W : World} {B : Nat} {t : TypeId} {a b c : Value} (h : Box3 W B t a b c) : W.cell? ⟨B, 0, none⟩ = some a ∧ W.cell? ⟨B, 1, none⟩ = some b ∧ W.cell? ⟨B, 2, none⟩ = some c := by
  refine ⟨?_, ?_, ?_⟩ <;> simp [World.cell?, show W.heap[B]? = _ from h]
theorem Box3.new (W : World) (t : TypeId) (a b c : Value) : Box3 (W.alloc (.cells #[a, b, c] t)) W.heap.size t a b c := World.alloc_heap_new W _
theorem Box3.kept {W W' : World} {row : Option Nat} {B : Nat} {t : TypeId} {a b c : Value} (h : Box3 W B t a b c) (hg : W.grownBy W' row) (hne : some B ≠ row) : Box3 W' B t a b c := (hg.block B h.lt hne).trans h

theorem row_ne {W : World} {n₀ e e' s s' : Nat} {v v' : Value} {n n' : Nat} {xs xs' : List Value} (h : W.ownsRow n₀ e s v n xs) (h' : W.ownsRow n₀ e' s' v' n' xs') (hne : e ≠ e') : v.ownBlock = none ∨ v.ownBlock ≠ v'.ownBlock := by
  rcases h.2 with ⟨rfl, _⟩ | ⟨g, cap, cur, rfl, _, hg, _⟩
  · exact Or.inl rfl
  · right
    rcases h'.2 with ⟨rfl, _⟩ | ⟨g', cap', cur', rfl, _, hg', _⟩
    · simp [Value.ownBlock]
    · intro e
      simp [Value.ownBlock] at e
      subst e
      rw [hg] at hg'
      cases hg'
      exact hne rfl

set_option maxRecDepth 100000 in
theorem info_int : ∃ i, Tryd.prog.info? 3 = some i ∧ i.zero = some (.int .i64 0) ∧ i.size = 1 ∧ i.bytes = 8 := by
  refine ⟨_, rfl, ?_, ?_, ?_⟩ <;> rfl
set_option maxRecDepth 100000 in
theorem info_step : ∃ i, Tryd.prog.info? 126 = some i ∧ i.zero = some (.agg #[.int .i32 0, .int .i64 0, .bool false]) ∧ i.size = 3 ∧ i.bytes = 24 := by
  refine ⟨_, rfl, ?_, ?_, ?_⟩ <;> rfl

theorem box_facts {W : World} {B : Nat} {t : TypeId} {v : Value} (h : Boxed W B t v) : W.cell? ⟨B, 0, none⟩ = some v ∧ W.frozen? ⟨B, 0, none⟩ = false := ⟨h.cell, h.frozen⟩
theorem Box3.not_row {W : World} {B : Nat} {t e : TypeId} {a b c : Value} (h : Box3 W B t a b c) (hte : t ≠ e) {base size k : Nat} {v : Value} {xs : List Value} (hr : W.ownsRow base e size v k xs) : some B ≠ v.ownBlock := by
  rcases hr.2 with ⟨rfl, _⟩ | ⟨g, cap, cur, rfl, _, hg, _⟩
  · simp [Value.ownBlock]
  · intro e
    simp [Value.ownBlock] at e
    subst e
    rw [show W.heap[B]? = _ from h] at hg
    cases hg
    exact hte rfl

/-- what has come about since W: nothing below n₀ has turned, nor what is no cells -/
structure Run (n₀ : Nat) (W W1 : World) : Prop where
  below : Below n₀ W W1
  others : KeepsOthers W W1
  size : n₀ ≤ W1.heap.size
theorem Run.alloc {n₀ : Nat} {W W1 : World} (h : Run n₀ W W1) (o : Obj) : Run n₀ W (W1.alloc o) := ⟨h.below.alloc h.size o, h.others.trans (KeepsOthers.alloc _ _), by have := h.size; simp; omega⟩
theorem Run.row {n₀ : Nat} {W W1 W2 : World} {e s n : Nat} {v : Value} {xs : List Value} (h : Run n₀ W W1) (hr : W1.ownsRow n₀ e s v n xs) (hg : W1.grownBy W2 v.ownBlock) : Run n₀ W W2 := by
  refine ⟨h.below.grown hg h.size (fun k hk => (hr.lt k hk).1), h.others.trans ⟨hg.size, fun k o hk ho => ?_⟩, Nat.le_trans h.size hg.size⟩
  refine (hg.block k (heap_lt hk) (fun e => ?_)).trans hk
  rcases hr.2 with ⟨rfl, _⟩ | ⟨g, cap, cur, rfl, _, hgg, _⟩
  · simp [Value.ownBlock] at e
  · simp [Value.ownBlock] at e
    subst e
    rw [hk] at hgg
    cases hgg
    cases ho
theorem Run.set {n₀ B : Nat} {W W1 : World} (h : Run n₀ W W1) (hB : n₀ ≤ B) (v : Value) : Run n₀ W (W1.setCell ⟨B, 0, none⟩ v) :=
  ⟨h.below.setCell (p := ⟨B, 0, none⟩) hB v, h.others.trans (KeepsOthers.setCell _ _ _), by have := h.size; simpa [World.setCell] using this⟩
theorem Run.walks {n₀ : Nat} {W W1 : World} (h : Run n₀ W W1) : Kp n₀ W W1 :=
  ⟨h.below, h.others.size, fun k o hk ho => h.others.same k o hk (by cases o <;> first | rfl | cases ho)⟩

def RP (n₀ : Nat) (vp : Value) (pre : List Nat) (W : World) : Prop := W.ownsRow n₀ 3 1 vp pre.length (ints pre)
def RS (n₀ : Nat) (l : List Int) (vs : Value) (pre : List Nat) (W : World) : Prop := W.ownsRow n₀ 126 3 vs pre.length (stps l pre)
def EP (g x : Nat) (W : World) : Prop := Boxed W g 3 (.int .i64 x)
def ES (l : List Int) (g x : Nat) (W : World) : Prop := Box3 W g 126 (.int .i32 (first (l.drop x)).1) (.int .i64 (wid (l.drop x))) (.bool (whl (l.drop x)))

theorem kept_alloc {n₀ : Nat} {l : List Int} {W : World} (o : Obj) : (∀ v p, RP n₀ v p W → RP n₀ v p (W.alloc o)) ∧ (∀ v p, RS n₀ l v p W → RS n₀ l v p (W.alloc o)) ∧ (∀ g x, EP g x W → EP g x (W.alloc o)) ∧ (∀ g x, ES l g x W → ES l g x (W.alloc o)) :=
  ⟨fun _ _ h => World.ownsRow.alloc h o, fun _ _ h => World.ownsRow.alloc h o, fun _ _ h => Boxed.alloc h o, fun _ _ h => Box3.kept h (World.grownBy_alloc W o none) (by simp)⟩
end Go.Proofs.YtpfjfgggacpdfaaDoor
