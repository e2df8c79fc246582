/- The walk of StepPlaces: it answers true wherever the table holds the classes, and changes nothing that was there. -/
import Derived.Test.YtffancemlpoebaaDoorFix
import Derived.Test.YtffancemlpoebaaDoorRf2D
namespace Go.Proofs.YtffancemlpoebaaDoor
open Go.ChangeShapes Go.WideShapes Go.ChangeAt Go.RowKit

theorem atV_shape (l : List Int) (p : Int) : ∃ (r n e : Int) (b : Bool), atV l p = .tuple #[.agg #[.int .i32 r, .int .i64 n, .bool b], .int .i64 e] := by
  unfold atV
  repeat' split
  · exact ⟨_, _, _, _, rfl⟩
  · exact ⟨_, _, _, _, rfl⟩
  · exact ⟨_, _, _, _, rfl⟩
theorem beforeV_shape (l : List Int) (p : Int) : ∃ (r n e : Int) (b : Bool), beforeV l p = .tuple #[.agg #[.int .i32 r, .int .i64 n, .bool b], .int .i64 e] := by
  unfold beforeV
  repeat' split
  · exact ⟨_, _, _, _, rfl⟩
  · exact ⟨_, _, _, _, rfl⟩
  · exact ⟨_, _, _, _, rfl⟩
theorem floorV_shape (l : List Int) (p : Int) : ∃ (r e : Int), floorV l p = .tuple #[.int .i64 r, .int .i64 e] := by
  unfold floorV
  split
  · exact ⟨_, _, rfl⟩
  · exact ⟨_, _, rfl⟩
theorem ceilV_shape (l : List Int) (p : Int) : ∃ (r e : Int), ceilV l p = .tuple #[.int .i64 r, .int .i64 e] := by
  unfold ceilV
  split
  · exact ⟨_, _, rfl⟩
  · exact ⟨_, _, rfl⟩

set_option maxHeartbeats 1000000 in
theorem StepPlaces_any (a0 : Option Addr) (cap : Nat) (l : List Int) (p : Int) (w : World) (hB : IsB w a0 cap l) (_hp : (Lit.int .i64 p).wf = true) (hT : Tab w) :
    Calls Tryd.prog 4 #[.slice a0 l.length cap, .int .i64 p] w fun e w' => e = .returned (.bool true) ∧ Below w.heap.size w w' := by
  obtain ⟨r1, n1, e1, b1, h1⟩ := atV_shape l p
  obtain ⟨r2, n2, e2, b2, h2⟩ := beforeV_shape l p
  obtain ⟨r3, e3, h3⟩ := floorV_shape l p
  obtain ⟨r4, e4, h4⟩ := ceilV_shape l p
  have H1 := hide h1
  have H2 := hide h2
  have H3 := hide h3
  have H4 := hide h4
  clear h1 h2 h3 h4
  go_enter Tryd.func4, Tryd.ntmps4
  go_wp2_with fail
  refine (fixed_any w hT).mono ?_
  rintro e w1 ⟨rfl, x1⟩
  have hB1 := hB.below x1 (Nat.le_refl _)
  have hT1 := hT.below x1 hT.size
  clear hB hT
  go_wp2_with fail
  refine (At_at a0 cap p l w1 hB1 hT1).mono ?_
  rw [unhide H1]
  rintro e w2 ⟨rfl, x2⟩
  have hB2 := hB1.below x2 (Nat.le_refl _)
  have hT2 := hT1.below x2 hT1.size
  have c2 := x1.trans (x2.mono x1.size)
  clear hB1 hT1 x1 x2
  go_wp2_with fail
  have d2 := (Below.refl w2.heap.size w2).alloc (Nat.le_refl _) (.cells #[.int .i32 r1, .int .i64 n1, .bool b1] 30)
  have k2 := three_new w2 (.int .i32 r1) (.int .i64 n1) (.bool b1) (t := 30)
  have z2 : w2.heap.size < (w2.alloc (.cells #[.int .i32 r1, .int .i64 n1, .bool b1] 30)).heap.size := by simp
  have hB3 := hB2.below d2 (Nat.le_refl _)
  have hT3 := hT2.below d2 hT2.size
  have c3 := c2.trans (d2.mono c2.size)
  generalize w2.alloc (.cells #[.int .i32 r1, .int .i64 n1, .bool b1] 30) = w3 at *
  generalize w2.heap.size = g2 at *
  clear hB2 hT2 c2 d2
  refine (RAt_at a0 cap p l w3 hB3).mono ?_
  rw [unhide H1]
  rintro e w4 ⟨rfl, x4⟩
  have hB4 := hB3.below x4 (Nat.le_refl _)
  have hT4 := hT3.below x4 hT3.size
  have c4 := c3.trans (x4.mono c3.size)
  have k4 := k2.below x4 z2
  have z4 : g2 < w4.heap.size := Nat.lt_of_lt_of_le z2 x4.size
  clear hB3 hT3 c3 x4 k2 z2
  go_wp2_with fail
  have d4 := (Below.refl w4.heap.size w4).alloc (Nat.le_refl _) (.cells #[.int .i32 r1, .int .i64 n1, .bool b1] 30)
  have m5 := three_new w4 (.int .i32 r1) (.int .i64 n1) (.bool b1) (t := 30)
  have y5 : w4.heap.size < (w4.alloc (.cells #[.int .i32 r1, .int .i64 n1, .bool b1] 30)).heap.size := by simp
  have hB5 := hB4.below d4 (Nat.le_refl _)
  have hT5 := hT4.below d4 hT4.size
  have c5 := c4.trans (d4.mono c4.size)
  have k5 := k4.below d4 z4
  have z5 := Nat.lt_trans z4 y5
  generalize w4.alloc (.cells #[.int .i32 r1, .int .i64 n1, .bool b1] 30) = w5 at *
  generalize w4.heap.size = g4 at *
  clear hB4 hT4 c4 d4 k4 z4
  refine (Before_at a0 cap p l w5 hB5 hT5).mono ?_
  rw [unhide H2]
  rintro e w6 ⟨rfl, x6⟩
  have hB6 := hB5.below x6 (Nat.le_refl _)
  have hT6 := hT5.below x6 hT5.size
  have c6 := c5.trans (x6.mono c5.size)
  have k6 := k5.below x6 z5
  have m6 := m5.below x6 y5
  have z6 : g2 < w6.heap.size := Nat.lt_of_lt_of_le z5 x6.size
  have y6 : g4 < w6.heap.size := Nat.lt_of_lt_of_le y5 x6.size
  clear hB5 hT5 c5 x6 k5 z5 m5 y5
  go_wp2_with fail
  have d6 := (Below.refl w6.heap.size w6).alloc (Nat.le_refl _) (.cells #[.int .i32 r2, .int .i64 n2, .bool b2] 30)
  have i7 := three_new w6 (.int .i32 r2) (.int .i64 n2) (.bool b2) (t := 30)
  have u7 : w6.heap.size < (w6.alloc (.cells #[.int .i32 r2, .int .i64 n2, .bool b2] 30)).heap.size := by simp
  have hB7 := hB6.below d6 (Nat.le_refl _)
  have hT7 := hT6.below d6 hT6.size
  have c7 := c6.trans (d6.mono c6.size)
  have k7 := k6.below d6 z6
  have m7 := m6.below d6 y6
  have z7 := Nat.lt_trans z6 u7
  have y7 := Nat.lt_trans y6 u7
  generalize w6.alloc (.cells #[.int .i32 r2, .int .i64 n2, .bool b2] 30) = w7 at *
  generalize w6.heap.size = g6 at *
  clear hB6 hT6 c6 d6 k6 z6 m6 y6
  refine (RBefore_at a0 cap p l w7 hB7).mono ?_
  rw [unhide H2]
  rintro e w8 ⟨rfl, x8⟩
  have hB8 := hB7.below x8 (Nat.le_refl _)
  have hT8 := hT7.below x8 hT7.size
  have c8 := c7.trans (x8.mono c7.size)
  have k8 := k7.below x8 z7
  have m8 := m7.below x8 y7
  have i8 := i7.below x8 u7
  have z8 : g2 < w8.heap.size := Nat.lt_of_lt_of_le z7 x8.size
  have y8 : g4 < w8.heap.size := Nat.lt_of_lt_of_le y7 x8.size
  have u8 : g6 < w8.heap.size := Nat.lt_of_lt_of_le u7 x8.size
  clear hB7 hT7 c7 x8 k7 z7 m7 y7 i7 u7
  obtain ⟨k80, k81, k82⟩ := k8
  obtain ⟨m80, m81, m82⟩ := m8
  obtain ⟨i80, i81, i82⟩ := i8
  go_wp2_with fail
  have d8 := (Below.refl w8.heap.size w8).alloc (Nat.le_refl _) (.cells #[.int .i32 r2, .int .i64 n2, .bool b2] 30)
  have hB9 := hB8.below d8 (Nat.le_refl _)
  have hT9 := hT8.below d8 hT8.size
  have c9 := c8.trans (d8.mono c8.size)
  clear k80 k81 k82 m80 m81 m82 i80 i81 i82 hB8 hT8 c8 z8 y8 u8 d8
  generalize w8.alloc (.cells #[.int .i32 r2, .int .i64 n2, .bool b2] 30) = w9 at *
  generalize w8.heap.size = g8
  refine (Edge_at a0 cap p l w9 hB9 hT9).mono ?_
  rintro e w10 ⟨rfl, x10⟩
  have hB10 := hB9.below x10 (Nat.le_refl _)
  have hT10 := hT9.below x10 hT9.size
  have c10 := c9.trans (x10.mono c9.size)
  clear hB9 hT9 c9 x10
  go_wp2_with fail
  refine (REdge_at a0 cap p l w10 hB10).mono ?_
  rintro e w11 ⟨rfl, rfl⟩
  go_wp2_with fail
  refine (Floor_at a0 cap p l _ hB10 hT10).mono ?_
  rw [unhide H3]
  rintro e w12 ⟨rfl, x12⟩
  have hB12 := hB10.below x12 (Nat.le_refl _)
  have hT12 := hT10.below x12 hT10.size
  have c12 := c10.trans (x12.mono c10.size)
  clear hB10 hT10 c10 x12
  go_wp2_with fail
  refine (RFloor_at a0 cap p l _ hB12).mono ?_
  rw [unhide H3]
  rintro e w13 ⟨rfl, rfl⟩
  go_wp2_with fail
  refine (Ceil_at a0 cap p l _ hB12 hT12).mono ?_
  rw [unhide H4]
  rintro e w14 ⟨rfl, x14⟩
  have hB14 := hB12.below x14 (Nat.le_refl _)
  have c14 := c12.trans (x14.mono c12.size)
  clear hB12 hT12 c12 x14
  go_wp2_with fail
  refine (RCeil_at a0 cap p l _ hB14).mono ?_
  rw [unhide H4]
  rintro e w15 ⟨rfl, rfl⟩
  go_wp2_with fail
  go_ret
  exact ⟨rfl, c14⟩

end Go.Proofs.YtffancemlpoebaaDoor
