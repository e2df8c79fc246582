/- Layer 5: fixed, of the law. -/
import Derived.Test.YtchlnphapnafcaaDoorWjs
namespace Go.Proofs.YtchlnphapnafcaaDoor
open Go.ChangeShapes Go.WideShapes Go.ChangeAt Go.RowKit

def wA : We := ⟨⟨2, 2, 2, 0⟩, [240, 159], [240, 159]⟩
def wB : We := ⟨⟨3, 3, 3, 1⟩, [152, 128, 13], [152, 128, 13]⟩
def wJ : We := ⟨⟨5, 2, 3, 1⟩, [240, 159, 152], [152, 128, 13]⟩
theorem ofA : ofL [240, 159] = wA := by decide
theorem ofB : ofL [152, 128, 13] = wB := by decide
theorem joinAB : joinL wA wB = (wJ, ⟨0, 3, 2, 0⟩, 0) := by decide
theorem validJ : validB wJ = true := by decide
theorem bywA : Byw wA := ⟨by decide, by decide⟩
theorem bywB : Byw wB := ⟨by decide, by decide⟩
theorem bywJ : Byw wJ := ⟨by decide, by decide⟩
theorem vA : weV wA = .agg #[.int .i64 2, .int .i64 2, .int .i64 2, .int .i64 0, .string ⟨#[240, 159]⟩, .string ⟨#[240, 159]⟩] := rfl
theorem vB : weV wB = .agg #[.int .i64 3, .int .i64 3, .int .i64 3, .int .i64 1, .string ⟨#[152, 128, 13]⟩, .string ⟨#[152, 128, 13]⟩] := rfl
theorem vJ : weV wJ = .agg #[.int .i64 5, .int .i64 2, .int .i64 3, .int .i64 1, .string ⟨#[240, 159, 152]⟩, .string ⟨#[152, 128, 13]⟩] := rfl

set_option maxRecDepth 100000 in
set_option maxHeartbeats 2000000 in
theorem fixed5_at (w : World) (hW : Wt w) : Calls Tryd.prog 5 #[] w fun y w' => y = .returned (.bool true) ∧ Below w.heap.size w w' := by
  have hcv := conv_litW w #[.int .u8 240, .int .u8 159] 2
  go_enter Tryd.func5, Tryd.ntmps5
  go_wp2_with fail
  clear hcv
  have b1 : Below w.heap.size w (w.alloc (.cells #[.int .u8 240, .int .u8 159] 5 (2, 3))) := (Below.refl _ _).alloc (Nat.le_refl _) _
  have i1 : IsB (w.alloc (.cells #[.int .u8 240, .int .u8 159] 5 (2, 3))) (some ⟨w.heap.size, 0, none⟩) 2 [240, 159] := lit_isW w [240, 159] (2, 3) (by decide) (by decide)
  generalize (w.alloc (.cells #[.int .u8 240, .int .u8 159] 5 (2, 3))) = w1 at *
  refine (Of_at (some ⟨w.heap.size, 0, none⟩) 2 [240, 159] w1 ⟨i1, fun e => by cases e⟩ (by decide) (hW.below b1)).mono ?_
  rw [ofA, vA]
  rintro y w2 ⟨rfl, q2⟩
  have b2 := b1.trans (q2.mono b1.size)
  clear i1 b1 q2
  dsimp only
  have hcv := conv_litW w2 #[.int .u8 152, .int .u8 128, .int .u8 13] 3
  go_wp2_with fail
  clear hcv
  have q3 : Below w2.heap.size w2 (w2.alloc (.cells #[.int .u8 152, .int .u8 128, .int .u8 13] 5 (3, 4))) := (Below.refl _ _).alloc (Nat.le_refl _) _
  have i3 : IsB (w2.alloc (.cells #[.int .u8 152, .int .u8 128, .int .u8 13] 5 (3, 4))) (some ⟨w2.heap.size, 0, none⟩) 3 [152, 128, 13] := lit_isW w2 [152, 128, 13] (3, 4) (by decide) (by decide)
  have b3 := b2.trans (q3.mono b2.size)
  generalize (w2.alloc (.cells #[.int .u8 152, .int .u8 128, .int .u8 13] 5 (3, 4))) = w3 at *
  refine (Of_at (some ⟨w2.heap.size, 0, none⟩) 3 [152, 128, 13] w3 ⟨i3, fun e => by cases e⟩ (by decide) (hW.below b3)).mono ?_
  rw [ofB, vB]
  rintro y w4 ⟨rfl, q4⟩
  have b4 := b3.trans (q4.mono b3.size)
  clear i3 b3 q4 b2 q3
  dsimp only
  go_wp2_with fail
  have q5 : Below w4.heap.size w4 ((w4.alloc (.cells #[.int .i64 2, .int .i64 2, .int .i64 2, .int .i64 0, .string ⟨#[240, 159]⟩, .string ⟨#[240, 159]⟩] 25)).alloc (.cells #[.int .i64 3, .int .i64 3, .int .i64 3, .int .i64 1, .string ⟨#[152, 128, 13]⟩, .string ⟨#[152, 128, 13]⟩] 25)) := ((Below.refl _ _).alloc (Nat.le_refl _) _).alloc (by rw [World.size_alloc]; omega) _
  have xa : ((w4.alloc (.cells #[.int .i64 2, .int .i64 2, .int .i64 2, .int .i64 0, .string ⟨#[240, 159]⟩, .string ⟨#[240, 159]⟩] 25)).alloc (.cells #[.int .i64 3, .int .i64 3, .int .i64 3, .int .i64 1, .string ⟨#[152, 128, 13]⟩, .string ⟨#[152, 128, 13]⟩] 25)).heap[w4.heap.size]? = some (.cells #[.int .i64 2, .int .i64 2, .int .i64 2, .int .i64 0, .string ⟨#[240, 159]⟩, .string ⟨#[240, 159]⟩] 25 (0, 0)) := (heap_alloc_old _ _ (by rw [World.size_alloc]; omega)).trans (push_get w4 _)
  have xb : ((w4.alloc (.cells #[.int .i64 2, .int .i64 2, .int .i64 2, .int .i64 0, .string ⟨#[240, 159]⟩, .string ⟨#[240, 159]⟩] 25)).alloc (.cells #[.int .i64 3, .int .i64 3, .int .i64 3, .int .i64 1, .string ⟨#[152, 128, 13]⟩, .string ⟨#[152, 128, 13]⟩] 25)).heap[w4.heap.size + 1]? = some (.cells #[.int .i64 3, .int .i64 3, .int .i64 3, .int .i64 1, .string ⟨#[152, 128, 13]⟩, .string ⟨#[152, 128, 13]⟩] 25 (0, 0)) := by
    have := push_get (w4.alloc (.cells #[.int .i64 2, .int .i64 2, .int .i64 2, .int .i64 0, .string ⟨#[240, 159]⟩, .string ⟨#[240, 159]⟩] 25)) (.cells #[.int .i64 3, .int .i64 3, .int .i64 3, .int .i64 1, .string ⟨#[152, 128, 13]⟩, .string ⟨#[152, 128, 13]⟩] 25)
    rwa [World.size_alloc] at this
  have zab : w4.heap.size < ((w4.alloc (.cells #[.int .i64 2, .int .i64 2, .int .i64 2, .int .i64 0, .string ⟨#[240, 159]⟩, .string ⟨#[240, 159]⟩] 25)).alloc (.cells #[.int .i64 3, .int .i64 3, .int .i64 3, .int .i64 1, .string ⟨#[152, 128, 13]⟩, .string ⟨#[152, 128, 13]⟩] 25)).heap.size ∧ w4.heap.size + 1 < ((w4.alloc (.cells #[.int .i64 2, .int .i64 2, .int .i64 2, .int .i64 0, .string ⟨#[240, 159]⟩, .string ⟨#[240, 159]⟩] 25)).alloc (.cells #[.int .i64 3, .int .i64 3, .int .i64 3, .int .i64 1, .string ⟨#[152, 128, 13]⟩, .string ⟨#[152, 128, 13]⟩] 25)).heap.size := by rw [World.size_alloc, World.size_alloc]; omega
  have b5 := b4.trans (q5.mono b4.size)
  generalize ((w4.alloc (.cells #[.int .i64 2, .int .i64 2, .int .i64 2, .int .i64 0, .string ⟨#[240, 159]⟩, .string ⟨#[240, 159]⟩] 25)).alloc (.cells #[.int .i64 3, .int .i64 3, .int .i64 3, .int .i64 1, .string ⟨#[152, 128, 13]⟩, .string ⟨#[152, 128, 13]⟩] 25)) = w5 at *
  generalize w4.heap.size + 1 = gb at *
  generalize w4.heap.size = ga at *
  clear q5 b4
  refine (Join_at wA wB w5 (hW.below b5) bywA bywB).mono ?_
  rw [joinAB]
  dsimp only
  rw [vJ]
  rintro y w6 ⟨rfl, q6⟩
  have b6 := b5.trans (q6.mono b5.size)
  have xa6 := (q6.block ga zab.1).trans xa
  have xb6 := (q6.block gb zab.2).trans xb
  have z6 := q6.size
  have q7 : Below w6.heap.size w6 (w6.alloc (.cells #[.int .i64 5, .int .i64 2, .int .i64 3, .int .i64 1, .string ⟨#[240, 159, 152]⟩, .string ⟨#[152, 128, 13]⟩] 25)) := (Below.refl _ _).alloc (Nat.le_refl _) _
  have xj := push_get w6 (.cells #[.int .i64 5, .int .i64 2, .int .i64 3, .int .i64 1, .string ⟨#[240, 159, 152]⟩, .string ⟨#[152, 128, 13]⟩] 25)
  have z7 : w6.heap.size < (w6.alloc (.cells #[.int .i64 5, .int .i64 2, .int .i64 3, .int .i64 1, .string ⟨#[240, 159, 152]⟩, .string ⟨#[152, 128, 13]⟩] 25)).heap.size := by rw [World.size_alloc]; omega
  clear xa xb q6 b5
  dsimp only
  go_upto_region 3 with fail
  have b7 := b6.trans (q7.mono b6.size)
  have xa7 := (q7.block ga (by omega)).trans xa6
  have xb7 := (q7.block gb (by omega)).trans xb6
  generalize (w6.alloc (.cells #[.int .i64 5, .int .i64 2, .int .i64 3, .int .i64 1, .string ⟨#[240, 159, 152]⟩, .string ⟨#[152, 128, 13]⟩] 25)) = w7 at *
  have zj : ga < w7.heap.size ∧ gb < w7.heap.size ∧ w6.heap.size < w7.heap.size := by omega
  generalize w6.heap.size = gj at *
  clear xa6 xb6 q7 b6 z7
  obtain ⟨a0, a1, a2, a3, a4, a5, _⟩ := cells6 xa7
  obtain ⟨c0, c1, c2, c3, c4, c5, _⟩ := cells6 xb7
  go_wp2_with fail
  clear a0 a1 a2 a3 a4 a5 c0 c1 c2 c3 c4 c5
  refine (SeamX_at wA wB w7 (hW.below b7) bywA bywB).mono ?_
  rw [joinAB]
  dsimp only
  unfold szV
  rintro y w8 ⟨rfl, q8⟩
  have b8 := b7.trans (q8.mono b7.size)
  have xa8 := (q8.block ga zj.1).trans xa7
  have xj8 := (q8.block gj zj.2.2).trans xj
  have z8 := q8.size
  have q9 : Below w8.heap.size w8 (w8.alloc (.cells #[.int .i64 0, .int .i64 3, .int .i64 2, .int .i64 0] 23)) := (Below.refl _ _).alloc (Nat.le_refl _) _
  have xs := push_get w8 (.cells #[.int .i64 0, .int .i64 3, .int .i64 2, .int .i64 0] 23)
  have z9 : w8.heap.size < (w8.alloc (.cells #[.int .i64 0, .int .i64 3, .int .i64 2, .int .i64 0] 23)).heap.size := by rw [World.size_alloc]; omega
  clear xa7 xb7 xj q8 b7
  dsimp only
  go_upto_region 4 with fail
  have b9 := b8.trans (q9.mono b8.size)
  have xa9 := (q9.block ga (by omega)).trans xa8
  have xj9 := (q9.block gj (by omega)).trans xj8
  generalize (w8.alloc (.cells #[.int .i64 0, .int .i64 3, .int .i64 2, .int .i64 0] 23)) = w9 at *
  generalize w8.heap.size = gs at *
  clear xa8 xj8 q9 b8
  obtain ⟨a0, a1, a2, a3, a4, a5, _⟩ := cells6 xa9
  obtain ⟨c0, c1, c2, c3, c4, c5, _⟩ := cells6 xj9
  obtain ⟨d0, d1, d2, d3, _⟩ := cells4 xs
  go_wp2_with fail
  refine (ValidW_at wJ w9 (hW.below b9) bywJ).mono ?_
  rw [validJ]
  rintro y w10 ⟨rfl, q10⟩
  dsimp only
  go_wp2_with fail
  go_ret
  exact ⟨rfl, b9.trans (q10.mono b9.size)⟩
end Go.Proofs.YtchlnphapnafcaaDoor
