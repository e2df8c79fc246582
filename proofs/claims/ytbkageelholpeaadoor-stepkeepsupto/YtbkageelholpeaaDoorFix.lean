/- Contract of galleylaw02.fixed: the answers that the document gives. -/
import Derived.Test.YtbkageelholpeaaDoorVld
import Derived.Test.YtbkageelholpeaaDoorStpC
import Derived.Lib.SlBytesConst
namespace Go.Proofs.YtbkageelholpeaaDoor
open Go.ChangeShapes Go.WideShapes Go.ChangeAt Go.RowKit

def lit6 : List Int := [97, 240, 159, 152, 128, 98]
theorem lit6_bytes : ∀ x ∈ lit6, 0 ≤ x ∧ x ≤ 255 := by decide
theorem at6_1 : atV lit6 1 = .tuple #[.agg #[.int .i32 128512, .int .i64 4, .bool true], .int .i64 0] := by
  have h : inside lit6 1 = false := by decide
  have hs : stp (lit6.drop 1) = stepV 128512 4 true := by simp [lit6, stp, wid, whl, first, lng, need, whole, sec, isTail, value, fold, lead]
  rw [atV, if_neg (by simp [lit6])]
  show (if inside lit6 1 = true then _ else Value.tuple #[stp (lit6.drop 1), .int .i64 0]) = _
  rw [h, hs]; rfl
theorem at6_2 : atV lit6 2 = .tuple #[.agg #[.int .i32 0, .int .i64 0, .bool false], .int .i64 4] := by
  have h : inside lit6 2 = true := by decide
  rw [atV, if_neg (by simp [lit6])]
  show (if inside lit6 2 = true then _ else _) = _
  rw [h]; rfl
theorem floor6 : floorV lit6 3 = .tuple #[.int .i64 1, .int .i64 0] := by
  have h : flr lit6 3 = 1 := by decide
  rw [floorV, if_neg (by simp [lit6])]
  show Value.tuple #[.int .i64 (flr lit6 3), .int .i64 0] = _
  rw [h]; rfl
theorem edge6 : edgeB lit6 4 = false := by
  have h : inside lit6 4 = true := by decide
  show (decide (0 ≤ (4 : Int) ∧ 4 ≤ (lit6.length : Int)) && !inside lit6 4) = false
  rw [h]; rfl
theorem valid6 : valid lit6 = true := by decide
theorem valid1 : valid [195] = false := by decide

theorem isB_lit (w : World) (l : List Int) (m : Nat × Nat) (hl : ∀ x ∈ l, 0 ≤ x ∧ x ≤ 255) (h : l.length ≤ 140737488351232) : IsB (w.alloc (.cells (l.map (Value.int .u8)).toArray 5 m)) (some ⟨w.heap.size, 0, none⟩) l.length l :=
  IsB.of (lies_new w l m hl) (Nat.le_refl _) h

/-- a struct of three cells lies in a block -/
def Three (w : World) (g : Nat) (a b c : Value) : Prop := w.cell? ⟨g, 0, none⟩ = some a ∧ w.cell? ⟨g, 1, none⟩ = some b ∧ w.cell? ⟨g, 2, none⟩ = some c
theorem Three.below {w w' : World} {B g : Nat} {a b c : Value} (h : Three w g a b c) (hb : Below B w w') (hg : g < B) : Three w' g a b c :=
  ⟨(hb.cell (p := ⟨g, 0, none⟩) hg).trans h.1, (hb.cell (p := ⟨g, 1, none⟩) hg).trans h.2.1, (hb.cell (p := ⟨g, 2, none⟩) hg).trans h.2.2⟩
theorem three_new (w : World) (a b c : Value) {t : TypeId} : Three (w.alloc (.cells #[a, b, c] t)) w.heap.size a b c := by
  refine ⟨?_, ?_, ?_⟩
  · exact (World.cell?_alloc_mark w #[a, b, c] t (0, 0) 0).trans rfl
  · exact (World.cell?_alloc_mark w #[a, b, c] t (0, 0) 1).trans rfl
  · exact (World.cell?_alloc_mark w #[a, b, c] t (0, 0) 2).trans rfl

theorem At_lit (g : Nat) (p : Int) {v : Value} (w : World) (hB : IsB w (some ⟨g, 0, none⟩) 6 lit6) (hT : Tab w) (hv : atV lit6 p = v) :
    Calls Tryd.prog 13 #[.slice (some ⟨g, 0, none⟩) 6 6, .int .i64 p] w fun e w' => e = .returned v ∧ Below w.heap.size w w' := by
  subst hv
  exact At_at (some ⟨g, 0, none⟩) 6 p lit6 w hB hT
theorem Floor_lit (g : Nat) (p : Int) {v : Value} (w : World) (hB : IsB w (some ⟨g, 0, none⟩) 6 lit6) (hT : Tab w) (hv : floorV lit6 p = v) :
    Calls Tryd.prog 9 #[.slice (some ⟨g, 0, none⟩) 6 6, .int .i64 p] w fun e w' => e = .returned v ∧ Below w.heap.size w w' := by
  subst hv
  exact Floor_at (some ⟨g, 0, none⟩) 6 p lit6 w hB hT
theorem Edge_lit (g : Nat) (p : Int) {v : Bool} (w : World) (hB : IsB w (some ⟨g, 0, none⟩) 6 lit6) (hT : Tab w) (hv : edgeB lit6 p = v) :
    Calls Tryd.prog 14 #[.slice (some ⟨g, 0, none⟩) 6 6, .int .i64 p] w fun e w' => e = .returned (.bool v) ∧ Below w.heap.size w w' := by
  subst hv
  exact Edge_at (some ⟨g, 0, none⟩) 6 p lit6 w hB hT
theorem Valid_lit (g n : Nat) (l : List Int) {v : Bool} (w : World) (hB : IsB w (some ⟨g, 0, none⟩) n l) (hn : l.length = n) (hT : Tab w) (hv : valid l = v) :
    Calls Tryd.prog 8 #[.slice (some ⟨g, 0, none⟩) n n] w fun e w' => e = .returned (.bool v) ∧ Below w.heap.size w w' := by
  subst hv hn
  exact Valid_at (some ⟨g, 0, none⟩) l.length l w hB hT

set_option maxHeartbeats 1000000 in
theorem fixed_any (w : World) (hT : Tab w) :
    Calls Tryd.prog 4 #[] w fun e w' => e = .returned (.bool true) ∧ Below w.heap.size w w' := by
  have kc := fun (w : World) (C : Array Value) (n c : Nat) => Lib.run_convert_bytes_const (P := Tryd.prog) w 22 5 C n c Tryd.underlying22 Tryd.underlying5
  have hB0 := isB_lit w lit6 (6, 7) lit6_bytes (by decide)
  have hT0 := hT.alloc (.cells (lit6.map (Value.int .u8)).toArray 5 (6, 7))
  have b0 := (Below.refl w.heap.size w).alloc (Nat.le_refl _) (.cells (lit6.map (Value.int .u8)).toArray 5 (6, 7))
  have s0 : (w.alloc (.cells (lit6.map (Value.int .u8)).toArray 5 (6, 7))).heap.size = w.heap.size + 1 := by simp
  go_enter Tryd.func4, Tryd.ntmps4
  go_wp2_with fail
  change Calls _ _ _ (w.alloc (.cells (lit6.map (Value.int .u8)).toArray 5 (6, 7))) _
  generalize w.alloc (.cells (lit6.map (Value.int .u8)).toArray 5 (6, 7)) = w0 at *
  refine (At_lit _ 1 _ hB0 hT0 at6_1).mono ?_
  rintro e w1 ⟨rfl, b1⟩
  have hB1 := hB0.below b1 (Nat.le_refl _)
  have hT1 := hT0.below b1 hT0.size
  have c1 := b0.trans (b1.mono (by omega))
  have s1 := c1.size
  clear b1 hB0 hT0 b0 s0
  go_wp2_with fail
  have d1 := (Below.refl w1.heap.size w1).alloc (Nat.le_refl _) (.cells #[.int .i32 128512, .int .i64 4, .bool true] 41)
  refine (At_lit _ 2 _ (hB1.below d1 (Nat.le_refl _)) (hT1.alloc _) at6_2).mono ?_
  rintro e w2 ⟨rfl, b2⟩
  have hB2 := (hB1.below d1 (Nat.le_refl _)).below b2 (Nat.le_refl _)
  have hT2 := (hT1.alloc (.cells #[.int .i32 128512, .int .i64 4, .bool true] 41)).below b2 (hT1.alloc _).size
  have c2 := c1.trans ((d1.trans (b2.mono (by simp))).mono s1)
  have z2 : w1.heap.size < w2.heap.size := by have := b2.size; simp at this; omega
  have k2 := (three_new w1 (.int .i32 128512) (.int .i64 4) (.bool true)).below b2 (by simp)
  generalize w1.heap.size = g1 at *
  clear b2 d1 hB1 hT1 c1 s1
  go_wp2_with fail
  have d2 := (Below.refl w2.heap.size w2).alloc (Nat.le_refl _) (.cells #[.int .i32 0, .int .i64 0, .bool false] 41)
  refine (Floor_lit _ 3 _ (hB2.below d2 (Nat.le_refl _)) (hT2.alloc _) floor6).mono ?_
  rintro e w3 ⟨rfl, b3⟩
  have e3 := d2.trans (b3.mono (by simp))
  have hB3 := hB2.below e3 (Nat.le_refl _)
  have hT3 := hT2.below e3 hT2.size
  have s2 := c2.size
  have c3 := c2.trans (e3.mono s2)
  have k3 := k2.below e3 z2
  have z3 : g1 < w3.heap.size := by have := e3.size; omega
  generalize w2.heap.size = g2 at *
  clear b3 d2 hB2 hT2 c2 k2 z2 e3 s2
  obtain ⟨q0, q1, q2⟩ := k3
  go_wp2_with fail
  refine (Edge_lit _ 4 _ hB3 hT3 edge6).mono ?_
  rintro e w4 ⟨rfl, b4⟩
  have hB4 := hB3.below b4 (Nat.le_refl _)
  have hT4 := hT3.below b4 hT3.size
  have s3 := c3.size
  have c4 := c3.trans (b4.mono s3)
  clear b4 hB3 hT3 c3 s3 q0 q1 q2 z3
  go_wp2_with fail
  refine (Valid_lit _ 6 lit6 _ hB4 rfl hT4 valid6).mono ?_
  rintro e w5 ⟨rfl, b5⟩
  have hT5 := hT4.below b5 hT4.size
  have s4 := c4.size
  have c5 := c4.trans (b5.mono s4)
  clear b5 hB4 hT4 c4 s4
  go_wp2_with fail
  refine (Valid_lit _ 1 [195] _ (isB_lit w5 [195] (1, 2) (by decide) (by decide)) rfl (hT5.alloc _) valid1).mono ?_
  rintro e w6 ⟨rfl, b6⟩
  have d5 := (Below.refl w5.heap.size w5).alloc (Nat.le_refl _) (.cells #[.int .u8 195] 5 (1, 2))
  have s5 := c5.size
  have c6 := c5.trans ((d5.trans (b6.mono (by simp))).mono s5)
  clear b6 hT5 c5 s5 d5
  go_wp2_with fail
  go_ret
  exact ⟨rfl, c6⟩

end Go.Proofs.YtbkageelholpeaaDoor
