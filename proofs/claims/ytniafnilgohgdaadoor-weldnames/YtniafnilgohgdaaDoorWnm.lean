/- The walk of WeldNames. -/
import Derived.Test.YtniafnilgohgdaaDoorWfx
namespace Go.Proofs.YtniafnilgohgdaaDoor
open Go.ChangeShapes Go.WideShapes Go.ChangeAt Go.RowKit

def no0 : We := ⟨⟨1, 1, 1, 0⟩, [195], [169]⟩
theorem vno0 : validB no0 = false := by decide
theorem byno0 : Byw no0 := ⟨by decide, by decide⟩
def no1 : We := ⟨⟨2, 1, 1, 0⟩, [195, 97], [195, 97]⟩
theorem vno1 : validB no1 = false := by decide
theorem byno1 : Byw no1 := ⟨by decide, by decide⟩
def no2 : We := ⟨⟨7, 1, 1, 0⟩, [97, 97, 97], [97, 97, 97]⟩
theorem vno2 : validB no2 = false := by decide
theorem byno2 : Byw no2 := ⟨by decide, by decide⟩
def yes : We := ⟨⟨8, 2, 4, 0⟩, [240, 159, 152], [159, 152, 128]⟩
theorem vyes : validB yes = true := by decide
theorem byyes : Byw yes := ⟨by decide, by decide⟩
theorem vzero : validB zeroWe = true := by decide
theorem byzero : Byw zeroWe := ⟨by decide, by decide⟩

set_option maxRecDepth 100000 in
set_option maxHeartbeats 2000000 in
theorem WeldNames_any (w : World) (hW : Wt w) : Calls Tryd.prog 3 #[] w fun y w' => y = .returned (.bool true) ∧ Below w.heap.size w w' := by
  go_enter Tryd.func3, Tryd.ntmps3
  go_wp2_with fail
  refine (fixed5_at w hW).mono ?_
  rintro y w1 ⟨rfl, b1⟩
  dsimp only
  have q2 : Below w1.heap.size w1 (w1.alloc (.cells #[.int .i64 1, .int .i64 1, .int .i64 1, .int .i64 0, .string ⟨#[195]⟩, .string ⟨#[169]⟩, .int .i64 2, .int .i64 1, .int .i64 1, .int .i64 0, .string ⟨#[195, 97]⟩, .string ⟨#[195, 97]⟩, .int .i64 7, .int .i64 1, .int .i64 1, .int .i64 0, .string ⟨#[97, 97, 97]⟩, .string ⟨#[97, 97, 97]⟩] 26)) := (Below.refl _ _).alloc (Nat.le_refl _) _
  have x2 := push_get w1 (.cells #[.int .i64 1, .int .i64 1, .int .i64 1, .int .i64 0, .string ⟨#[195]⟩, .string ⟨#[169]⟩, .int .i64 2, .int .i64 1, .int .i64 1, .int .i64 0, .string ⟨#[195, 97]⟩, .string ⟨#[195, 97]⟩, .int .i64 7, .int .i64 1, .int .i64 1, .int .i64 0, .string ⟨#[97, 97, 97]⟩, .string ⟨#[97, 97, 97]⟩] 26)
  have z2 : w1.heap.size < (w1.alloc (.cells #[.int .i64 1, .int .i64 1, .int .i64 1, .int .i64 0, .string ⟨#[195]⟩, .string ⟨#[169]⟩, .int .i64 2, .int .i64 1, .int .i64 1, .int .i64 0, .string ⟨#[195, 97]⟩, .string ⟨#[195, 97]⟩, .int .i64 7, .int .i64 1, .int .i64 1, .int .i64 0, .string ⟨#[97, 97, 97]⟩, .string ⟨#[97, 97, 97]⟩] 26)).heap.size := by rw [World.size_alloc]; omega
  have b2 := b1.trans (q2.mono b1.size)
  go_wp2_with fail
  generalize (w1.alloc (.cells #[.int .i64 1, .int .i64 1, .int .i64 1, .int .i64 0, .string ⟨#[195]⟩, .string ⟨#[169]⟩, .int .i64 2, .int .i64 1, .int .i64 1, .int .i64 0, .string ⟨#[195, 97]⟩, .string ⟨#[195, 97]⟩, .int .i64 7, .int .i64 1, .int .i64 1, .int .i64 0, .string ⟨#[97, 97, 97]⟩, .string ⟨#[97, 97, 97]⟩] 26)) = w2 at *
  generalize w1.heap.size = gn at *
  clear b1 q2
  go_loopw [17] (fun i wx => ∃ k : Nat, k ≤ 3 ∧ i = .int .i64 k ∧ Hid (wx.heap[gn]? = some (.cells #[.int .i64 1, .int .i64 1, .int .i64 1, .int .i64 0, .string ⟨#[195]⟩, .string ⟨#[169]⟩, .int .i64 2, .int .i64 1, .int .i64 1, .int .i64 0, .string ⟨#[195, 97]⟩, .string ⟨#[195, 97]⟩, .int .i64 7, .int .i64 1, .int .i64 1, .int .i64 0, .string ⟨#[97, 97, 97]⟩, .string ⟨#[97, 97, 97]⟩] 26 (0, 0))) ∧ gn < wx.heap.size ∧ Below w.heap.size w wx) (fun i _ => 3 - (intOf i).toNat)
  case atStart => exact ⟨0, by omega, rfl, hide x2, z2, b2⟩
  case round =>
    obtain ⟨k, hk, rfl, hx, hz, hb⟩ := hrel
    have hcell : ∀ j v, #[.int .i64 1, .int .i64 1, .int .i64 1, .int .i64 0, .string ⟨#[195]⟩, .string ⟨#[169]⟩, .int .i64 2, .int .i64 1, .int .i64 1, .int .i64 0, .string ⟨#[195, 97]⟩, .string ⟨#[195, 97]⟩, .int .i64 7, .int .i64 1, .int .i64 1, .int .i64 0, .string ⟨#[97, 97, 97]⟩, .string ⟨#[97, 97, 97]⟩][j]? = some v → wr.cell? ⟨gn, j, none⟩ = some v := fun j v hv => by simp only [World.cell?, unhide hx]; exact hv
    match k, hk with
    | 0, _ =>
      have c0 := hcell 0 (.int .i64 1) rfl
      have c1 := hcell 1 (.int .i64 1) rfl
      have c2 := hcell 2 (.int .i64 1) rfl
      have c3 := hcell 3 (.int .i64 0) rfl
      have c4 := hcell 4 (.string ⟨#[195]⟩) rfl
      have c5 := hcell 5 (.string ⟨#[169]⟩) rfl
      clear hcell
      have q3 : Below wr.heap.size wr (wr.alloc (.cells #[.int .i64 1, .int .i64 1, .int .i64 1, .int .i64 0, .string ⟨#[195]⟩, .string ⟨#[169]⟩] 26)) := (Below.refl _ _).alloc (Nat.le_refl _) _
      have b3 := hb.trans (q3.mono hb.size)
      have x3 := (q3.block gn hz).trans (unhide hx)
      have z3 : gn < (wr.alloc (.cells #[.int .i64 1, .int .i64 1, .int .i64 1, .int .i64 0, .string ⟨#[195]⟩, .string ⟨#[169]⟩] 26)).heap.size := by rw [World.size_alloc]; omega
      have HQ := hide q3
      have HX3 := hide x3
      clear q3 x3
      go_wp2_with fail
      generalize (wr.alloc (.cells #[.int .i64 1, .int .i64 1, .int .i64 1, .int .i64 0, .string ⟨#[195]⟩, .string ⟨#[169]⟩] 26)) = w3 at *
      refine (ValidW_at no0 w3 (hW.below b3) byno0).mono ?_
      rw [vno0]
      rintro y w4 ⟨rfl, q4⟩
      dsimp only
      have b4 := b3.trans (q4.mono b3.size)
      have x4 := hide ((q4.block gn z3).trans (unhide HX3))
      have z4 := q4.size
      go_wp2_with fail
      exact ⟨⟨1, by omega, by go_num, x4, by omega, b4⟩, by simp [intOf]⟩
    | 1, _ =>
      have c0 := hcell 6 (.int .i64 2) rfl
      have c1 := hcell 7 (.int .i64 1) rfl
      have c2 := hcell 8 (.int .i64 1) rfl
      have c3 := hcell 9 (.int .i64 0) rfl
      have c4 := hcell 10 (.string ⟨#[195, 97]⟩) rfl
      have c5 := hcell 11 (.string ⟨#[195, 97]⟩) rfl
      clear hcell
      have q3 : Below wr.heap.size wr (wr.alloc (.cells #[.int .i64 2, .int .i64 1, .int .i64 1, .int .i64 0, .string ⟨#[195, 97]⟩, .string ⟨#[195, 97]⟩] 26)) := (Below.refl _ _).alloc (Nat.le_refl _) _
      have b3 := hb.trans (q3.mono hb.size)
      have x3 := (q3.block gn hz).trans (unhide hx)
      have z3 : gn < (wr.alloc (.cells #[.int .i64 2, .int .i64 1, .int .i64 1, .int .i64 0, .string ⟨#[195, 97]⟩, .string ⟨#[195, 97]⟩] 26)).heap.size := by rw [World.size_alloc]; omega
      have HQ := hide q3
      have HX3 := hide x3
      clear q3 x3
      go_wp2_with fail
      generalize (wr.alloc (.cells #[.int .i64 2, .int .i64 1, .int .i64 1, .int .i64 0, .string ⟨#[195, 97]⟩, .string ⟨#[195, 97]⟩] 26)) = w3 at *
      refine (ValidW_at no1 w3 (hW.below b3) byno1).mono ?_
      rw [vno1]
      rintro y w4 ⟨rfl, q4⟩
      dsimp only
      have b4 := b3.trans (q4.mono b3.size)
      have x4 := hide ((q4.block gn z3).trans (unhide HX3))
      have z4 := q4.size
      go_wp2_with fail
      exact ⟨⟨2, by omega, by go_num, x4, by omega, b4⟩, by simp [intOf]⟩
    | 2, _ =>
      have c0 := hcell 12 (.int .i64 7) rfl
      have c1 := hcell 13 (.int .i64 1) rfl
      have c2 := hcell 14 (.int .i64 1) rfl
      have c3 := hcell 15 (.int .i64 0) rfl
      have c4 := hcell 16 (.string ⟨#[97, 97, 97]⟩) rfl
      have c5 := hcell 17 (.string ⟨#[97, 97, 97]⟩) rfl
      clear hcell
      have q3 : Below wr.heap.size wr (wr.alloc (.cells #[.int .i64 7, .int .i64 1, .int .i64 1, .int .i64 0, .string ⟨#[97, 97, 97]⟩, .string ⟨#[97, 97, 97]⟩] 26)) := (Below.refl _ _).alloc (Nat.le_refl _) _
      have b3 := hb.trans (q3.mono hb.size)
      have x3 := (q3.block gn hz).trans (unhide hx)
      have z3 : gn < (wr.alloc (.cells #[.int .i64 7, .int .i64 1, .int .i64 1, .int .i64 0, .string ⟨#[97, 97, 97]⟩, .string ⟨#[97, 97, 97]⟩] 26)).heap.size := by rw [World.size_alloc]; omega
      have HQ := hide q3
      have HX3 := hide x3
      clear q3 x3
      go_wp2_with fail
      generalize (wr.alloc (.cells #[.int .i64 7, .int .i64 1, .int .i64 1, .int .i64 0, .string ⟨#[97, 97, 97]⟩, .string ⟨#[97, 97, 97]⟩] 26)) = w3 at *
      refine (ValidW_at no2 w3 (hW.below b3) byno2).mono ?_
      rw [vno2]
      rintro y w4 ⟨rfl, q4⟩
      dsimp only
      have b4 := b3.trans (q4.mono b3.size)
      have x4 := hide ((q4.block gn z3).trans (unhide HX3))
      have z4 := q4.size
      go_wp2_with fail
      exact ⟨⟨3, by omega, by go_num, x4, by omega, b4⟩, by simp [intOf]⟩
    | 3, _ =>
      clear hcell
      go_wp2_with fail
      refine (ValidW_at yes wr (hW.below hb) byyes).mono ?_
      rw [vyes]
      rintro y w4 ⟨rfl, q4⟩
      have b4 := hb.trans (q4.mono hb.size)
      dsimp only
      go_wp2_with fail
      refine (ValidW_at zeroWe w4 (hW.below b4) byzero).mono ?_
      rw [vzero]
      rintro y w5 ⟨rfl, q5⟩
      dsimp only
      go_wp2_with fail
      go_ret
      exact ⟨rfl, b4.trans (q5.mono b4.size)⟩
end Go.Proofs.YtniafnilgohgdaaDoor
