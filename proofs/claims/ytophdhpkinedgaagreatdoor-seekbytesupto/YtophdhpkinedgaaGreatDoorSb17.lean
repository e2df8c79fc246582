/- Layer 5: Of; mayBe, told, Valid. -/
import Derived.Test.YtophdhpkinedgaaGreatDoorSb16
import Derived.BigQuiet

namespace Go.Proofs.YtophdhpkinedgaaGreatDoor
open Go.ChangeShapes Go.WideShapes Go.ChangeAt Go.RowKit

def ofL (l : List Int) : We := ⟨szL l, l.take 3, tail3 l⟩
theorem cells6 {W : World} {g : Nat} {x y z u s r : Value} {t : TypeId} (h : W.heap[g]? = some (.cells #[x, y, z, u, s, r] t (0, 0))) : W.cell? ⟨g, 0, none⟩ = some x ∧ W.cell? ⟨g, 1, none⟩ = some y ∧ W.cell? ⟨g, 2, none⟩ = some z ∧ W.cell? ⟨g, 3, none⟩ = some u ∧ W.cell? ⟨g, 4, none⟩ = some s ∧ W.cell? ⟨g, 5, none⟩ = some r ∧ ∀ i, W.frozen? ⟨g, i, none⟩ = false := by
  refine ⟨by simp only [World.cell?, h]; rfl, by simp only [World.cell?, h]; rfl, by simp only [World.cell?, h]; rfl, by simp only [World.cell?, h]; rfl, by simp only [World.cell?, h]; rfl, by simp only [World.cell?, h]; rfl, fun i => by simp only [World.frozen?, h]; simp⟩
theorem box6_all {W : World} {g : Nat} {x y z u s r : Value} {t : TypeId} (h : W.heap[g]? = some (.cells #[x, y, z, u, s, r] t (0, 0))) (a b c d e f : Value) :
    ((((((W.setCell ⟨g, 0, none⟩ a).setCell ⟨g, 1, none⟩ b).setCell ⟨g, 2, none⟩ c).setCell ⟨g, 3, none⟩ d).setCell ⟨g, 4, none⟩ e).setCell ⟨g, 5, none⟩ f).heap[g]? = some (.cells #[a, b, c, d, e, f] t (0, 0)) := by
  have h0 := heap_setCell_same W g 0 #[x, y, z, u, s, r] t a h
  have h1 := heap_setCell_same _ g 1 _ t b h0
  have h2 := heap_setCell_same _ g 2 _ t c h1
  have h3 := heap_setCell_same _ g 3 _ t d h2
  have h4 := heap_setCell_same _ g 4 _ t e h3
  exact heap_setCell_same _ g 5 _ t f h4
theorem below6 {w W : World} {g : Nat} (h : Below w.heap.size w W) (hg : w.heap.size ≤ g) (a b c d e f : Value) : Below w.heap.size w ((((((W.setCell ⟨g, 0, none⟩ a).setCell ⟨g, 1, none⟩ b).setCell ⟨g, 2, none⟩ c).setCell ⟨g, 3, none⟩ d).setCell ⟨g, 4, none⟩ e).setCell ⟨g, 5, none⟩ f) :=
  (((((h.setCell (p := ⟨g, 0, none⟩) hg _).setCell (p := ⟨g, 1, none⟩) hg _).setCell (p := ⟨g, 2, none⟩) hg _).setCell (p := ⟨g, 3, none⟩) hg _).setCell (p := ⟨g, 4, none⟩) hg _).setCell (p := ⟨g, 5, none⟩) hg _
theorem below4 {w W : World} {g : Nat} (h : Below w.heap.size w W) (hg : w.heap.size ≤ g) (a b c d : Value) : Below w.heap.size w ((((W.setCell ⟨g, 0, none⟩ a).setCell ⟨g, 1, none⟩ b).setCell ⟨g, 2, none⟩ c).setCell ⟨g, 3, none⟩ d) :=
  (((h.setCell (p := ⟨g, 0, none⟩) hg _).setCell (p := ⟨g, 1, none⟩) hg _).setCell (p := ⟨g, 2, none⟩) hg _).setCell (p := ⟨g, 3, none⟩) hg _
theorem push_get (w : World) (o : Obj) : (w.alloc o).heap[w.heap.size]? = some o := by show (w.heap.push o)[w.heap.size]? = some o; simp

set_option maxRecDepth 100000 in
set_option maxHeartbeats 2000000 in
theorem Of_at (a0 : Option Addr) (cap : Nat) (l : List Int) (w : World) (hB : IsN w a0 cap l) (hl : l.length ≤ 268435456) (hW : Wt w) :
    Calls Tryz.prog 129 #[.slice a0 l.length cap] w fun e w' => e = .returned (weV (ofL l)) ∧ Below w.heap.size w w' := by
  have b0 : Below w.heap.size w (w.alloc (.cells #[.int .i64 0, .int .i64 0, .int .i64 0, .int .i64 0, .string ⟨#[]⟩, .string ⟨#[]⟩] 61)) := (Below.refl _ _).alloc (Nat.le_refl _) _
  have g0 := push_get w (.cells #[.int .i64 0, .int .i64 0, .int .i64 0, .int .i64 0, .string ⟨#[]⟩, .string ⟨#[]⟩] 61)
  have z0 : w.heap.size < (w.alloc (.cells #[.int .i64 0, .int .i64 0, .int .i64 0, .int .i64 0, .string ⟨#[]⟩, .string ⟨#[]⟩] 61)).heap.size := by simp
  have hle : ¬ ((268435456 : Int) < (l.length : Int)) := by omega
  go_enter Tryz.func129, Tryz.ntmps129
  go_wp2_with fail
  generalize (w.alloc (.cells #[.int .i64 0, .int .i64 0, .int .i64 0, .int .i64 0, .string ⟨#[]⟩, .string ⟨#[]⟩] 61)) = w1 at *
  refine (Sizes_at a0 cap l w1 (hB.below b0 (Nat.le_refl _)) hl (hW.below b0)).mono ?_
  unfold szV
  rintro e w2 ⟨rfl, b2⟩
  dsimp only
  have bb2 : Below w.heap.size w w2 := b0.trans (b2.mono b0.size)
  have x2 := (b2.block w.heap.size z0).trans g0
  go_wp2_with fail
  refine (head_at a0 cap l w2 (hB.1.below bb2 (Nat.le_refl _))).mono ?_
  rintro e w3 ⟨rfl, n3, rfl⟩
  dsimp only
  have bb3 : Below w.heap.size w (w2.drewN n3) := Below.drewN bb2 n3
  have x3 : (w2.drewN n3).heap[w.heap.size]? = _ := x2
  generalize w2.drewN n3 = w3 at *
  go_wp2_with fail
  refine (tail_at a0 cap l w3 (hB.1.below bb3 (Nat.le_refl _))).mono ?_
  rintro e w4 ⟨rfl, n4, rfl⟩
  dsimp only
  have bb4 : Below w.heap.size w (w3.drewN n4) := Below.drewN bb3 n4
  have x4 : (w3.drewN n4).heap[w.heap.size]? = _ := x3
  generalize w3.drewN n4 = w4 at *
  obtain ⟨c0, c1, c2, c3, c4, c5, f⟩ := cells6 x4
  have f0 := f 0
  have f1 := f 1
  have f2 := f 2
  have f3 := f 3
  have f4 := f 4
  have f5 := f 5
  clear f
  have xf := box6_all x4 (.int .i64 (szL l).b) (.int .i64 (szL l).r) (.int .i64 (szL l).u) (.int .i64 (szL l).e) (.string (strOfNums (l.take 3))) (.string (strOfNums (tail3 l)))
  have bf := below6 bb4 (Nat.le_refl _) (.int .i64 (szL l).b) (.int .i64 (szL l).r) (.int .i64 (szL l).u) (.int .i64 (szL l).e) (.string (strOfNums (l.take 3))) (.string (strOfNums (tail3 l)))
  have hof : weV (ofL l) = .agg #[.int .i64 (szL l).b, .int .i64 (szL l).r, .int .i64 (szL l).u, .int .i64 (szL l).e, .string (strOfNums (l.take 3)), .string (strOfNums (tail3 l))] := rfl
  have HO := hide hof
  clear hof
  generalize strOfNums (l.take 3) = sh at *
  generalize strOfNums (tail3 l) = st at *
  generalize (szL l).b = zb at *
  generalize (szL l).r = zr at *
  generalize (szL l).u = zu at *
  generalize (szL l).e = ze at *
  go_wp2_with fail
  clear c0 c1 c2 c3 c4 c5 f0 f1 f2 f3 f4 f5
  generalize ((((((w4.setCell ⟨w.heap.size, 0, none⟩ (.int .i64 zb)).setCell ⟨w.heap.size, 1, none⟩ (.int .i64 zr)).setCell ⟨w.heap.size, 2, none⟩ (.int .i64 zu)).setCell ⟨w.heap.size, 3, none⟩ (.int .i64 ze)).setCell ⟨w.heap.size, 4, none⟩ (.string sh)).setCell ⟨w.heap.size, 5, none⟩ (.string st)) = wf at *
  obtain ⟨q0, q1, q2, q3, q4, q5, _⟩ := cells6 xf
  refine bodyPost_ret (v := .agg #[.int .i64 zb, .int .i64 zr, .int .i64 zu, .int .i64 ze, .string sh, .string st]) (by simp [results, Tryz.results129, go_sem, q0, q1, q2, q3, q4, q5]) rfl ⟨by rw [unhide HO], bf⟩

/-- could steps have these sizes? -/
def mayB (z : Sz) : Bool := decide (0 ≤ z.r ∧ z.r ≤ z.u ∧ z.u ≤ z.b) && (decide (0 ≤ z.r - (z.u - z.r)) && (decide (z.r - (z.u - z.r) ≤ z.b - 4 * (z.u - z.r)) && (decide (z.b - 4 * (z.u - z.r) ≤ 3 * (z.r - (z.u - z.r))) && (decide (0 ≤ z.e) && decide (z.e ≤ z.r)))))
set_option maxRecDepth 100000 in
set_option maxHeartbeats 2000000 in
theorem mayBe_at (b r u e : Int) (w : World) (hb : 0 ≤ b ∧ b ≤ 268435456) :
    Calls Tryz.prog 161 #[.agg #[.int .i64 b, .int .i64 r, .int .i64 u, .int .i64 e]] w fun x w' => x = .returned (.bool (mayB ⟨b, r, u, e⟩)) ∧ Below w.heap.size w w' := by
  have b0 : Below w.heap.size w (w.alloc (.cells #[.int .i64 b, .int .i64 r, .int .i64 u, .int .i64 e] 59)) := (Below.refl _ _).alloc (Nat.le_refl _) _
  obtain ⟨c0, c1, c2, c3, _⟩ := cells4 (push_get w (.cells #[.int .i64 b, .int .i64 r, .int .i64 u, .int .i64 e] 59))
  have hm : mayB ⟨b, r, u, e⟩ = (decide (0 ≤ r ∧ r ≤ u ∧ u ≤ b) && (decide (0 ≤ r - (u - r)) && (decide (r - (u - r) ≤ b - 4 * (u - r)) && (decide (b - 4 * (u - r) ≤ 3 * (r - (u - r))) && (decide (0 ≤ e) && decide (e ≤ r)))))) := rfl
  rw [hm]
  clear hm
  by_cases hin : 0 ≤ r ∧ r ≤ u ∧ u ≤ b
  · rw [decide_eq_true hin, Bool.true_and]
    have h1 : ¬ r < 0 := by omega
    have h2 : ¬ u < r := by omega
    have h3 : ¬ b < u := by omega
    go_enter Tryz.func161, Tryz.ntmps161
    go_wp2_with fail
    all_goals (go_ret; exact ⟨by (simp_all) <;> omega, b0⟩)
  · rw [decide_eq_false hin, Bool.false_and]
    go_enter Tryz.func161, Tryz.ntmps161
    rcases Int.lt_or_le r 0 with h1 | h1
    · go_wp2_with fail
      go_ret
      exact ⟨rfl, b0⟩
    · rcases Int.lt_or_le u r with h2 | h2
      · go_wp2_with fail
        go_ret
        exact ⟨rfl, b0⟩
      · have h3 : b < u := by omega
        go_wp2_with fail
        go_ret
        exact ⟨rfl, b0⟩
end Go.Proofs.YtophdhpkinedgaaGreatDoor
