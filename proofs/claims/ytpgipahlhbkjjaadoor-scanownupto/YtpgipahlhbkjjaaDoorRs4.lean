/- The document's answer of layer 4: Might. -/
import Derived.Test.YtpgipahlhbkjjaaDoorRs3
namespace Go.Proofs.YtpgipahlhbkjjaaDoor
open Go.ChangeShapes Go.WideShapes Go.ChangeAt Go.RowKit

theorem begins_fits {h : List Int} (hp : prop h = true) (y : Int) : begins (h ++ [y]) = fits h y := by
  rcases prop_cases hp with ⟨a, rfl, hn⟩ | ⟨a, b, rfl, hn, hs⟩ | ⟨a, b, d, rfl, hn, hs, ht⟩
  · show begins [a, y] = sec a y
    rw [begins_more (by simp; omega)]; simp
  · show begins [a, b, y] = isTail y
    rw [begins_more (by simp; omega), hs]; simp
  · show begins [a, b, d, y] = isTail y
    rw [begins_more (by simp; omega), hs]; simp [ht]
theorem fits_range {h : List Int} (hp : prop h = true) (y : Int) : fits h y = decide ((mightV h).1 ≤ y ∧ y ≤ (mightV h).2.1) := by
  rcases prop_cases hp with ⟨a, rfl, hn⟩ | ⟨a, b, rfl, hn, hs⟩ | ⟨a, b, d, rfl, hn, hs, ht⟩
  · exact sec_range hn
  · show isTail y = decide (128 ≤ y ∧ y ≤ 191)
    simp only [isTail]; rw [decide_eq_decide]; omega
  · show isTail y = decide (128 ≤ y ∧ y ≤ 191)
    simp only [isTail]; rw [decide_eq_decide]; omega

set_option maxHeartbeats 1000000 in
theorem RMight_none (aH : Option Addr) (cH : Nat) (pl : Int) (w : World) :
    Calls Tryd.prog 16 #[.agg #[.slice aH 0 cH, .int .i64 pl]] w fun e w' => e = .returned (.tuple #[.int .u8 0, .int .u8 0, .bool false]) ∧ Below w.heap.size w w' := by
  go_enter Tryd.func16, Tryd.ntmps16
  have hb : Below w.heap.size w (w.alloc (.cells #[.slice aH 0 cH, .int .i64 pl] 28)) := (Below.refl _ _).alloc (Nat.le_refl _) _
  obtain ⟨c0, c1, _, _⟩ := cells2 (alloc_get w (.cells #[.slice aH 0 cH, .int .i64 pl] 28))
  go_wp2_with fail
  generalize (w.alloc (.cells #[.slice aH 0 cH, .int .i64 pl] 28)) = w1 at *
  go_loopw [5, 6, 7, 8] (fun lo hi ok i wx => lo = .int .i64 256 ∧ hi = .int .i64 (-1) ∧ ok = .bool false ∧ i = .int .i64 0 ∧ wx = w1) (fun _ _ _ _ _ => 0)
  case atStart => exact ⟨rfl, rfl, rfl, rfl, rfl⟩
  case round =>
    obtain ⟨rfl, rfl, rfl, rfl, rfl⟩ := hrel
    go_wp2_with fail
    exact bodyPost_ret (v := .tuple #[.int .u8 0, .int .u8 0, .bool false]) (by simp [results, Tryd.results16]) rfl ⟨rfl, hb⟩

end Go.Proofs.YtpgipahlhbkjjaaDoor
