/- Layer 5: the document's units and Sizes. -/
import Derived.Test.YtchlnphapnafcaaDoorWof
import Derived.Test.YtchlnphapnafcaaDoorWmc
import Derived.Test.YtchlnphapnafcaaDoorRf2T
namespace Go.Proofs.YtchlnphapnafcaaDoor
open Go.ChangeShapes Go.WideShapes Go.ChangeAt Go.RowKit
attribute [local go_sem] Oper.semAt_some

def H4 (W : World) (g : Nat) (t : TypeId) (x y z u : Value) : Prop := W.heap[g]? = some (.cells #[x, y, z, u] t (0, 0))
theorem H4.lt {W : World} {g : Nat} {t : TypeId} {x y z u : Value} (h : H4 W g t x y z u) : g < W.heap.size := (Array.getElem?_eq_some_iff.1 h).1
theorem H4.cells {W : World} {g : Nat} {t : TypeId} {x y z u : Value} (h : H4 W g t x y z u) : W.cell? ⟨g, 0, none⟩ = some x ∧ W.cell? ⟨g, 1, none⟩ = some y ∧ W.cell? ⟨g, 2, none⟩ = some z ∧ W.cell? ⟨g, 3, none⟩ = some u ∧ ∀ i, W.frozen? ⟨g, i, none⟩ = false := by
  unfold H4 at h
  refine ⟨by simp only [World.cell?, h]; rfl, by simp only [World.cell?, h]; rfl, by simp only [World.cell?, h]; rfl, by simp only [World.cell?, h]; rfl, fun i => by simp only [World.frozen?, h]; simp⟩
theorem H4.on {W W' : World} {g : Nat} {t : TypeId} {x y z u : Value} (h : H4 W g t x y z u) (hb : Below W.heap.size W W') : H4 W' g t x y z u := (hb.block g h.lt).trans h
theorem H4.set1 {W : World} {g : Nat} {t : TypeId} {x y z u : Value} (h : H4 W g t x y z u) (v : Value) : H4 (W.setCell ⟨g, 1, none⟩ v) g t x v z u := heap_setCell_same W g 1 _ t v h
theorem H4.set2 {W : World} {g : Nat} {t : TypeId} {x y z u : Value} (h : H4 W g t x y z u) (v : Value) : H4 (W.setCell ⟨g, 2, none⟩ v) g t x y v u := heap_setCell_same W g 2 _ t v h
theorem H4.set3 {W : World} {g : Nat} {t : TypeId} {x y z u : Value} (h : H4 W g t x y z u) (v : Value) : H4 (W.setCell ⟨g, 3, none⟩ v) g t x y z v := heap_setCell_same W g 3 _ t v h
theorem H4.all {W : World} {g : Nat} {t : TypeId} {x y z u : Value} (h : H4 W g t x y z u) (a b c d : Value) : H4 ((((W.setCell ⟨g, 0, none⟩ a).setCell ⟨g, 1, none⟩ b).setCell ⟨g, 2, none⟩ c).setCell ⟨g, 3, none⟩ d) g t a b c d :=
  have h0 := heap_setCell_same W g 0 #[x, y, z, u] t a h
  have h1 := heap_setCell_same _ g 1 _ t b h0
  have h2 := heap_setCell_same _ g 2 _ t c h1
  heap_setCell_same _ g 3 _ t d h2
theorem H4.other {W : World} {g g' i : Nat} {t : TypeId} {x y z u v : Value} (h : H4 W g t x y z u) (hne : g ≠ g') : H4 (W.setCell ⟨g', i, none⟩ v) g t x y z u := (Below.heap_setCell W ⟨g', i, none⟩ v g hne).trans h

set_option maxRecDepth 100000 in
theorem Runits_at (r : Int) (wd : Int) (b : Bool) (w : World) :
    Calls Tryd.prog 28 #[.agg #[.int .i32 r, .int .i64 wd, .bool b]] w fun y w' => y = .returned (.int .i64 (uni1 r)) ∧ Below w.heap.size w w' := by
  have b0 := (Below.refl w.heap.size w).alloc (Nat.le_refl _) (.cells #[.int .i32 r, .int .i64 wd, .bool b] 58)
  have c0 : (w.alloc (.cells #[.int .i32 r, .int .i64 wd, .bool b] 58)).cell? ⟨w.heap.size, 0, none⟩ = some (.int .i32 r) := (World.cell?_alloc_mark w _ _ (0, 0) 0).trans rfl
  go_enter Tryd.func28, Tryd.ntmps28
  by_cases h : 65535 < r
  · have HV : Hid (uni1 r = 2) := hide (by unfold uni1; rw [if_pos h])
    have t1 : decide (r > 65535) = true := decide_eq_true h
    have t2 : decide (65535 < r) = true := decide_eq_true h
    go_wp2_with fail
    go_ret
    exact ⟨ret_int (by rw [unhide HV]), b0⟩
  · have HV : Hid (uni1 r = 1) := hide (by unfold uni1; rw [if_neg h])
    have t1 : decide (r > 65535) = false := decide_eq_false h
    have t2 : decide (65535 < r) = false := decide_eq_false h
    go_wp2_with fail
    go_ret
    exact ⟨ret_int (by rw [unhide HV]), b0⟩
theorem ends_snoc (a : List Int) (x : Int) : endsN (a ++ [x]) = endsN a + (if (x = 10 ∧ ¬ a.getLast? = some 13) ∨ x = 13 then 1 else 0) := by
  unfold endsN
  rw [crlf_app, List.count_append, List.count_append]
  have h0 : crlf [x] = 0 := by simp [crlf]
  rw [h0]
  have h1 : ([x].count 13 : Int) = if x = 13 then 1 else 0 := by by_cases h : x = 13 <;> simp [h]
  have h2 : ([x].count 10 : Int) = if x = 10 then 1 else 0 := by by_cases h : x = 10 <;> simp [h]
  simp only [Int.natCast_add, h1, h2, List.head?_cons, Option.some.injEq]
  by_cases e1 : x = 13
  · subst e1; simp; omega
  · by_cases e2 : x = 10
    · subst e2
      by_cases e3 : a.getLast? = some 13 <;> simp [e3] <;> omega
    · simp [e1, e2]
theorem usum_snoc (l : List Int) (ps : List Nat) (p : Nat) : usum l (ps ++ [p]) = usum l ps + uni1 (first (l.drop p)).1 := by simp [usum]

end Go.Proofs.YtchlnphapnafcaaDoor
