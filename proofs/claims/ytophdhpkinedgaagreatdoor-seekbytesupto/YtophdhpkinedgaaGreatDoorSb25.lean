/- Contract of galleylaw02.gone: what an iterator gives, in two lists of the call's own. · Contract of galleylaw02.fixed: the answers that the document gives. · Lists of places and of steps as they lie in memory, and what the plain functions say of the places of a step. · Rows of bytes that the call itself made: how they stay, are written, and grow by one byte. · Rows that may be written and grown whatever they hold; bytes are appended to one's own. -/
import Derived.Test.YtophdhpkinedgaaGreatDoorSb08
import Derived.RangeFuncBox
import Derived.Maps.AppendAt
import Derived.Deep.AppendLies
import Derived.Test.YtophdhpkinedgaaGreatDoorSb06
import Derived.Test.YtophdhpkinedgaaGreatDoorSb05
import Derived.Lib.SlBytesConst
import Derived.Laws.AppendOwn
import Derived.Deep.AppendSrc

section
namespace Go.Proofs.YtophdhpkinedgaaGreatDoor
open Go.ChangeShapes Go.WideShapes Go.ChangeAt Go.RowKit
attribute [local go_sem] Oper.semAt_some

def cel (l : List Int) (p : Nat) : List Value := [.int .i32 (first (l.drop p)).1, .int .i64 (wid (l.drop p)), .bool (whl (l.drop p))]
def ints (ps : List Nat) : List Value := ps.map fun (p : Nat) => .int .i64 (p : Int)
def stps (l : List Int) (ps : List Nat) : List Value := ps.flatMap (cel l)
/-- a struct of three cells, not frozen -/
def Box3 (W : World) (B : Nat) (t : TypeId) (a b c : Value) : Prop := W.heap[B]? = some (.cells #[a, b, c] t (0, 0))
theorem Box3.lt {W : World} {B : Nat} {t : TypeId} {a b c : Value} (h : Box3 W B t a b c) : B < W.heap.size := (Array.getElem?_eq_some_iff.1 h).1
theorem Box3.cells {W : World} {B : Nat} {t : TypeId} {a b c : Value} (h : Box3 W B t a b c) : W.cell? ⟨B, 0, none⟩ = some a ∧ W.cell? ⟨B, 1, none⟩ = some b ∧ W.cell? ⟨B, 2, none⟩ = some c := by
  refine ⟨?_, ?_, ?_⟩ <;> simp [World.cell?, show W.heap[B]? = _ from h]
theorem Box3.new (W : World) (t : TypeId) (a b c : Value) : Box3 (W.alloc (.cells #[a, b, c] t)) W.heap.size t a b c := World.alloc_heap_new W _
theorem Box3.kept {W W' : World} {row : Option Nat} {B : Nat} {t : TypeId} {a b c : Value} (h : Box3 W B t a b c) (hg : W.grownBy W' row) (hne : some B ≠ row) : Box3 W' B t a b c := (hg.block B h.lt hne).trans h

/-- what the two boxes hold, and the rows -/
structure Mid (n₀ BP BS : Nat) (vp vs : Value) (l : List Int) (pre : List Nat) (W : World) : Prop where
  bp : Boxed W BP 55 vp
  bs : Boxed W BS 78 vs
  rp : W.ownsRow n₀ 3 1 vp pre.length (ints pre)
  rs : W.ownsRow n₀ 68 3 vs pre.length (stps l pre)

theorem Mid.kept {n₀ BP BS : Nat} {vp vs : Value} {l : List Int} {pre : List Nat} {W W' : World} {row : Option Nat} (h : Mid n₀ BP BS vp vs l pre W) (hg : W.grownBy W' row)
    (hr : ∀ r, row = some r → ∃ o : Obj, W.heap[r]? = some o ∧ o.isCells = false) : Mid n₀ BP BS vp vs l pre W' := by
  have ne : ∀ {k : Nat} {cur : Array Value} {t : TypeId} {m : Nat × Nat}, W.heap[k]? = some (.cells cur t m) → some k ≠ row := fun hk e => by
    obtain ⟨o, ho, hc⟩ := hr _ e.symm
    rw [hk] at ho
    cases ho
    cases hc
  have nr : ∀ {e s : Nat} {v : Value} {n : Nat} {xs : List Value}, W.ownsRow n₀ e s v n xs → v.ownBlock = none ∨ v.ownBlock ≠ row := fun h => by
    rcases h.2 with ⟨rfl, _⟩ | ⟨g, cap, cur, rfl, _, hg, _⟩
    · exact Or.inl rfl
    · exact Or.inr (ne hg)
  exact ⟨h.bp.kept hg (ne h.bp), h.bs.kept hg (ne h.bs), h.rp.kept hg (nr h.rp), h.rs.kept hg (nr h.rs)⟩
theorem Mid.alloc {n₀ BP BS : Nat} {vp vs : Value} {l : List Int} {pre : List Nat} {W : World} (h : Mid n₀ BP BS vp vs l pre W) (o : Obj) : Mid n₀ BP BS vp vs l pre (W.alloc o) := h.kept (World.grownBy_alloc W o none) (fun r e => by cases e)
theorem Mid.drew {n₀ BP BS : Nat} {vp vs : Value} {l : List Int} {pre : List Nat} {W : World} (h : Mid n₀ BP BS vp vs l pre W) : Mid n₀ BP BS vp vs l pre W.drew := h.kept (row := none) ⟨rfl, rfl, rfl, Nat.le_refl _, fun _ _ _ => rfl⟩ (fun r e => by cases e)

theorem Box3.not_row {W : World} {B : Nat} {t e : TypeId} {a b c : Value} (h : Box3 W B t a b c) (hte : t ≠ e) {base size k : Nat} {v : Value} {xs : List Value} (hr : W.ownsRow base e size v k xs) : some B ≠ v.ownBlock := by
  rcases hr.2 with ⟨rfl, _⟩ | ⟨g, cap, cur, rfl, _, hg, _⟩
  · simp [Value.ownBlock]
  · intro e
    simp [Value.ownBlock] at e
    subst e
    rw [show W.heap[B]? = _ from h] at hg
    cases hg
    exact hte rfl

/-- what has come about since W: nothing below n₀ has turned, nor what is no cells -/
structure Run (n₀ : Nat) (W W1 : World) : Prop where
  below : Below n₀ W W1
  others : KeepsOthers W W1
  size : n₀ ≤ W1.heap.size
theorem Run.alloc {n₀ : Nat} {W W1 : World} (h : Run n₀ W W1) (o : Obj) : Run n₀ W (W1.alloc o) := ⟨h.below.alloc h.size o, h.others.trans (KeepsOthers.alloc _ _), by have := h.size; simp; omega⟩
theorem Run.row {n₀ : Nat} {W W1 W2 : World} {e s n : Nat} {v : Value} {xs : List Value} (h : Run n₀ W W1) (hr : W1.ownsRow n₀ e s v n xs) (hg : W1.grownBy W2 v.ownBlock) : Run n₀ W W2 := by
  refine ⟨h.below.grown hg h.size (fun k hk => (hr.lt k hk).1), h.others.trans ⟨hg.size, fun k o hk ho => ?_⟩, Nat.le_trans h.size hg.size⟩
  refine (hg.block k (heap_lt hk) (fun e => ?_)).trans hk
  rcases hr.2 with ⟨rfl, _⟩ | ⟨g, cap, cur, rfl, _, hgg, _⟩
  · simp [Value.ownBlock] at e
  · simp [Value.ownBlock] at e
    subst e
    rw [hk] at hgg
    cases hgg
    cases ho
theorem Run.set {n₀ B : Nat} {W W1 : World} (h : Run n₀ W W1) (hB : n₀ ≤ B) (v : Value) : Run n₀ W (W1.setCell ⟨B, 0, none⟩ v) :=
  ⟨h.below.setCell (p := ⟨B, 0, none⟩) hB v, h.others.trans (KeepsOthers.setCell _ _ _), by have := h.size; simpa [World.setCell] using this⟩
/-- between two operations: the boxes, and the step's own block -/
structure St (n₀ Bx : Nat) (vp vs : Value) (l : List Int) (x : Nat) (W W1 : World) : Prop where
  run : Run n₀ W W1
  bp : Boxed W1 n₀ 55 vp
  bs : Boxed W1 (n₀ + 1) 78 vs
  bx : Box3 W1 Bx 68 (.int .i32 (first (l.drop x)).1) (.int .i64 (wid (l.drop x))) (.bool (whl (l.drop x)))
  ne : vs.ownBlock ≠ some Bx
def RP (n₀ : Nat) (vp : Value) (pre : List Nat) (W : World) : Prop := W.ownsRow n₀ 3 1 vp pre.length (ints pre)
def RS (n₀ : Nat) (l : List Int) (vs : Value) (pre : List Nat) (W : World) : Prop := W.ownsRow n₀ 68 3 vs pre.length (stps l pre)
theorem St.alloc {n₀ Bx : Nat} {vp vs : Value} {l : List Int} {x : Nat} {W W1 : World} (h : St n₀ Bx vp vs l x W W1) (o : Obj) : St n₀ Bx vp vs l x W (W1.alloc o) :=
  ⟨h.run.alloc o, h.bp.alloc o, h.bs.alloc o, h.bx.kept (World.grownBy_alloc W1 o none) (by simp), h.ne⟩
/-- both are stored -/
theorem St.done {n₀ Bx : Nat} {vp vs vp' vs' : Value} {l : List Int} {ps : List Nat} {x : Nat} {W W1 : World} (h : St n₀ Bx vp vs l x W W1) (hp : RP n₀ vp' ps W1) (hs : RS n₀ l vs' ps W1) :
    Run n₀ W ((W1.setCell ⟨n₀, 0, none⟩ vp').setCell ⟨n₀ + 1, 0, none⟩ vs') ∧ Mid n₀ n₀ (n₀ + 1) vp' vs' l ps ((W1.setCell ⟨n₀, 0, none⟩ vp').setCell ⟨n₀ + 1, 0, none⟩ vs') := by
  have b1 : Boxed (W1.setCell ⟨n₀, 0, none⟩ vp') n₀ 55 vp' := h.bp.set vp'
  have b2 : Boxed (W1.setCell ⟨n₀, 0, none⟩ vp') (n₀ + 1) 78 vs := h.bs.kept (grownBy_setCell' W1 n₀ vp') (by simp)
  have p1 : RP n₀ vp' ps (W1.setCell ⟨n₀, 0, none⟩ vp') := World.ownsRow.kept hp (grownBy_setCell' W1 n₀ vp') (Or.inr (h.bp.not_row (by decide) hp).symm)
  have s1 : RS n₀ l vs' ps (W1.setCell ⟨n₀, 0, none⟩ vp') := World.ownsRow.kept hs (grownBy_setCell' W1 n₀ vp') (Or.inr (h.bp.not_row (by decide) hs).symm)
  refine ⟨(h.run.set (Nat.le_refl _) _).set (by omega) _, b1.kept (grownBy_setCell' _ (n₀ + 1) vs') (by simp), b2.set vs', ?_, ?_⟩
  · exact World.ownsRow.kept p1 (grownBy_setCell' _ (n₀ + 1) vs') (Or.inr (b2.not_row (by decide) p1).symm)
  · exact World.ownsRow.kept s1 (grownBy_setCell' _ (n₀ + 1) vs') (Or.inr (b2.not_row (by decide) s1).symm)

end Go.Proofs.YtophdhpkinedgaaGreatDoor
end

section
namespace Go.Proofs.YtophdhpkinedgaaGreatDoor
open Go.ChangeShapes Go.WideShapes Go.ChangeAt Go.RowKit

/-- a struct of three cells lies in a block -/
def Three (w : World) (g : Nat) (a b c : Value) : Prop := w.cell? ⟨g, 0, none⟩ = some a ∧ w.cell? ⟨g, 1, none⟩ = some b ∧ w.cell? ⟨g, 2, none⟩ = some c
theorem Three.below {w w' : World} {B g : Nat} {a b c : Value} (h : Three w g a b c) (hb : Below B w w') (hg : g < B) : Three w' g a b c :=
  ⟨(hb.cell (p := ⟨g, 0, none⟩) hg).trans h.1, (hb.cell (p := ⟨g, 1, none⟩) hg).trans h.2.1, (hb.cell (p := ⟨g, 2, none⟩) hg).trans h.2.2⟩
end Go.Proofs.YtophdhpkinedgaaGreatDoor
end

section
namespace Go.Proofs.YtophdhpkinedgaaGreatDoor
open Go.ChangeShapes Go.WideShapes Go.ChangeAt Go.RowKit

/-- a []int that lies in memory -/
def IntsAt (W : World) (a : Option Addr) (ps : List Nat) : Prop := ps = [] ∨ ∃ g, a = some ⟨g, 0, none⟩ ∧ g < W.heap.size ∧ ∀ k, k < ps.length → W.cell? ⟨g, k, none⟩ = some (.int .i64 (ps.getD k 0 : Nat))
/-- a []api.Step that lies in memory -/
def StepsAt (W : World) (l : List Int) (a : Option Addr) (ps : List Nat) : Prop := ps = [] ∨ ∃ g, a = some ⟨g, 0, none⟩ ∧ g < W.heap.size ∧ ∀ k, k < ps.length →
  W.cell? ⟨g, k * 3, none⟩ = some (.int .i32 (first (l.drop (ps.getD k 0))).1) ∧ W.cell? ⟨g, k * 3 + 1, none⟩ = some (.int .i64 (wid (l.drop (ps.getD k 0)))) ∧ W.cell? ⟨g, k * 3 + 2, none⟩ = some (.bool (whl (l.drop (ps.getD k 0))))
theorem IntsAt.below {W W' : World} {B : Nat} {a : Option Addr} {ps : List Nat} (h : IntsAt W a ps) (hb : Below B W W') (hB : W.heap.size ≤ B) : IntsAt W' a ps := by
  rcases h with h | ⟨g, h1, h2, h3⟩
  · exact Or.inl h
  · exact Or.inr ⟨g, h1, Nat.lt_of_lt_of_le h2 hb.size, fun k hk => (hb.cell (p := ⟨g, k, none⟩) (Nat.lt_of_lt_of_le h2 hB)).trans (h3 k hk)⟩
theorem StepsAt.below {W W' : World} {B : Nat} {l : List Int} {a : Option Addr} {ps : List Nat} (h : StepsAt W l a ps) (hb : Below B W W') (hB : W.heap.size ≤ B) : StepsAt W' l a ps := by
  rcases h with h | ⟨g, h1, h2, h3⟩
  · exact Or.inl h
  · exact Or.inr ⟨g, h1, Nat.lt_of_lt_of_le h2 hb.size, fun k hk => ⟨(hb.cell (p := ⟨g, k * 3, none⟩) (Nat.lt_of_lt_of_le h2 hB)).trans (h3 k hk).1, (hb.cell (p := ⟨g, k * 3 + 1, none⟩) (Nat.lt_of_lt_of_le h2 hB)).trans (h3 k hk).2.1, (hb.cell (p := ⟨g, k * 3 + 2, none⟩) (Nat.lt_of_lt_of_le h2 hB)).trans (h3 k hk).2.2⟩⟩

end Go.Proofs.YtophdhpkinedgaaGreatDoor
end

section
namespace Go.Proofs.YtophdhpkinedgaaGreatDoor
open Go.ChangeShapes Go.WideShapes Go.ChangeAt Go.RowKit

/-- v is a []byte of the call's own, from block B on, that holds the bytes l -/
def Own (w : World) (B : Nat) (v : Value) (l : List Int) : Prop := w.ownsRow B 5 1 v l.length (l.map (Value.int .u8))

theorem Lies.lt {w : World} {g off : Nat} {l : List Int} (h : Lies w g off l) (hl : 0 < l.length) : g < w.heap.size := by
  have := (h 0 hl).1
  rcases Nat.lt_or_ge g w.heap.size with h' | h'
  · exact h'
  · simp [World.cell?, Array.getElem?_eq_none h'] at this
theorem Lies.grown {w w' : World} {row : Option Nat} {g off : Nat} {l : List Int} (h : Lies w g off l) (hg : w.grownBy w' row) (hne : some g ≠ row) : Lies w' g off l :=
  fun i hi => ⟨hg.cell (a := ⟨g, off + i, none⟩) (h i hi).1 hne, (h i hi).2⟩
theorem Lies.pre {w : World} {g off : Nat} {l m : List Int} (h : Lies w g off (l ++ m)) : Lies w g off l := by
  intro i hi
  have := h i (by simp; omega)
  rwa [show (l ++ m).getD i 0 = l.getD i 0 by simp [List.getD, List.getElem?_append_left hi]] at this

theorem Own.lies {w : World} {B g cap n : Nat} {l : List Int} (h : Own w B (.slice (some ⟨g, 0, none⟩) n cap) l) (hl : ∀ x ∈ l, 0 ≤ x ∧ x ≤ 255) : Lies w g 0 l := by
  intro i hi
  refine ⟨?_, ?_⟩
  · have := World.ownsRow.cells h rfl i (.int .u8 (l.getD i 0)) (by simp [List.getElem?_eq_getElem hi, List.getD])
    rwa [Addr.add_lit] at this
  · have := hl _ (List.getElem_mem hi)
    simpa [List.getD, List.getElem?_eq_getElem hi] using this
theorem Own.form {w : World} {B : Nat} {v : Value} {l : List Int} (h : Own w B v l) (hn : 0 < l.length) : ∃ g cap, v = .slice (some ⟨g, 0, none⟩) l.length cap ∧ B ≤ g ∧ g < w.heap.size ∧ l.length ≤ cap := by
  rcases h.2 with ⟨_, h0⟩ | ⟨g, cap, cur, hv, hb, hg, hc, _⟩
  · omega
  · refine ⟨g, cap, hv, hb, ?_, hc⟩
    rcases Nat.lt_or_ge g w.heap.size with hlt | hge
    · exact hlt
    · rw [Array.getElem?_eq_none hge] at hg; cases hg
theorem Own.kept {w w' : World} {B : Nat} {v : Value} {l : List Int} {row : Option Nat} (h : Own w B v l) (hg : w.grownBy w' row) (hne : v.ownBlock = none ∨ v.ownBlock ≠ row) : Own w' B v l := World.ownsRow.kept h hg hne

/-- one cell of the own row is written -/
theorem Own.cell {w : World} {B g cap n : Nat} {l : List Int} (h : Own w B (.slice (some ⟨g, 0, none⟩) n cap) l) (k : Nat) (hk : k < l.length) : (w.cell? ⟨g, k, none⟩).isSome = true ∧ w.frozen? ⟨g, k, none⟩ = false := by
  rcases h.2 with ⟨h0, _⟩ | ⟨g', cap', cur, hv, _, hg, hc, _, hs, _⟩
  · cases h0
  · cases hv
    refine ⟨?_, ?_⟩
    · simp only [World.cell?, hg]
      simp; omega
    · simp [World.frozen?, hg]
theorem Own.set {w : World} {B g cap n : Nat} {l : List Int} (h : Own w B (.slice (some ⟨g, 0, none⟩) n cap) l) (k : Nat) (x : Int) : Own (w.setCell ⟨g, k, none⟩ (.int .u8 x)) B (.slice (some ⟨g, 0, none⟩) n cap) (l.set k x) := by
  have hh := h
  rcases h.2 with ⟨h0, _⟩ | ⟨g', cap', cur, hv, hb, hg, hc, hm, hs, ht⟩
  · cases h0
  · cases hv
    refine ⟨by simp, Or.inr ⟨g, cap, cur.setIfInBounds k (.int .u8 x), ?_, hb, ?_, ?_, hm, by simpa using hs, ?_⟩⟩
    · simp
    · have hlt : g < w.heap.size := by
        rcases Nat.lt_or_ge g w.heap.size with h' | h'
        · exact h'
        · rw [Array.getElem?_eq_none h'] at hg; cases hg
      simp only [World.setCell, Array.getElem?_modify, if_true, hg, Option.map_some]
      simp
    · simpa using hc
    · simp only [Nat.mul_one, List.length_set] at ht ⊢
      rw [Array.toList_setIfInBounds, List.take_set, ht, List.map_set]

end Go.Proofs.YtophdhpkinedgaaGreatDoor
end

section
namespace Go.Proofs.YtophdhpkinedgaaGreatDoor
open Go.ChangeShapes Go.WideShapes Go.ChangeAt Go.RowKit

theorem setCells_one (w : World) (b o : Nat) (v : Value) : w.setCells b o [v] = w.setCell ⟨b, o, none⟩ v := rfl
theorem cell_set {w : World} {g k : Nat} {v : Value} (h : (w.cell? ⟨g, k, none⟩).isSome = true) (j : Nat) : (w.setCell ⟨g, k, none⟩ v).cell? ⟨g, j, none⟩ = if j = k then some v else w.cell? ⟨g, j, none⟩ := by
  rw [← setCells_one]
  by_cases hjk : j = k
  · subst hjk
    rw [if_pos rfl]
    have := World.cell?_setCells_in g [v] j w (fun i hi => by obtain rfl : i = 0 := by simpa using hi
                                                              exact h) 0 (by simp)
    simpa using this
  · rw [if_neg hjk]
    exact World.cell?_setCells_out g [v] k w ⟨g, j, none⟩ (fun _ _ => by simp; omega)
theorem frozen_set {w : World} {g k : Nat} {v : Value} (j : Nat) : (w.setCell ⟨g, k, none⟩ v).frozen? ⟨g, j, none⟩ = w.frozen? ⟨g, j, none⟩ := by
  rw [← setCells_one]
  exact World.frozen?_setCells g [v] k w ⟨g, j, none⟩
theorem size_set (w : World) (a : Addr) (v : Value) : (w.setCell a v).heap.size = w.heap.size := by simp [World.setCell]
theorem Own.below {w w' : World} {B : Nat} {v : Value} {l : List Int} (h : Own w B v l) (hb : Below w.heap.size w w') : Own w' B v l := h.kept (row := none) ⟨hb.os, hb.tape, hb.output, hb.size, fun k hk _ => hb.block k hk⟩ (Classical.em _)

end Go.Proofs.YtophdhpkinedgaaGreatDoor
end
