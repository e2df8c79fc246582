/- Two lists alike are found alike: galleyref02.Same, Alike. -/
import Derived.Test.YtnkeohiibninfabDoorLst
import Derived.Deep.QuietTactic
import Derived.BigQuiet
namespace Go.Proofs.YtnkeohiibninfabDoor
open Go.ChangeShapes Go.WideShapes Go.ChangeAt Go.RowKit

set_option maxHeartbeats 400000 in
theorem Same_some (g g' c c' m : Nat) (r n : Nat → Int) (b : Nat → Bool) (w : World) (h : ∀ k, k < m → w.cell? ⟨g, k * 3, none⟩ = some (.int .i32 (r k)) ∧ w.cell? ⟨g, k * 3 + 1, none⟩ = some (.int .i64 (n k)) ∧ w.cell? ⟨g, k * 3 + 2, none⟩ = some (.bool (b k)))
    (h' : ∀ k, k < m → w.cell? ⟨g', k * 3, none⟩ = some (.int .i32 (r k)) ∧ w.cell? ⟨g', k * 3 + 1, none⟩ = some (.int .i64 (n k)) ∧ w.cell? ⟨g', k * 3 + 2, none⟩ = some (.bool (b k))) (hm : m ≤ 4194304) :
    Calls Tryd.prog 20 #[.slice (some ⟨g, 0, none⟩) m c, .slice (some ⟨g', 0, none⟩) m c'] w fun e w' => e = .returned (.bool true) ∧ ∃ n, w' = w.drewN n := by
  go_enter Tryd.func20, Tryd.ntmps20
  go_wp2
  go_loopw [5] (fun i wx => ∃ k n : Nat, k ≤ m ∧ i = .int .i64 k ∧ wx = w.drewN n) (fun i _ => m - (intOf i).toNat)
  case atStart => exact ⟨0, 0, Nat.zero_le _, rfl, rfl⟩
  case round =>
    obtain ⟨k, j, hk, rfl, rfl⟩ := hrel
    by_cases hlt : k < m
    · obtain ⟨c1, c2, c3⟩ := h k hlt
      obtain ⟨d1, d2, d3⟩ := h' k hlt
      generalize r k = x at *
      generalize n k = y at *
      generalize b k = z at *
      clear h h'
      go_wp2
      go_quiet (fail)
      go_wp2
      go_roundw
      case rel => exact ⟨k + 1, j + _, by omega, by go_num, by simp [World.drewN]; rfl⟩
      case measure => simp [intOf]; omega
    · go_wp2
      go_ret
      exact ⟨rfl, j, rfl⟩
theorem Same_none (a b : Option Addr) (c c' : Nat) (w : World) :
    Calls Tryd.prog 20 #[.slice a 0 c, .slice b 0 c'] w fun e w' => e = .returned (.bool true) ∧ ∃ n, w' = w.drewN n := by
  go_enter Tryd.func20, Tryd.ntmps20
  go_wp2
  go_loop [5] (fun i => i = .int .i64 0) (fun _ => 0)
  case atStart => rfl
  case round =>
    subst hrel
    go_wp2
    go_ret
    exact ⟨rfl, 0, rfl⟩
theorem Same_at (a b : Option Addr) (c c' : Nat) (l : List Int) (ps : List Nat) (w : World) (h : StepsAt w l a ps) (h' : StepsAt w l b ps) (hm : ps.length ≤ 4194304) :
    Calls Tryd.prog 20 #[.slice a ps.length c, .slice b ps.length c'] w fun e w' => e = .returned (.bool true) ∧ ∃ n, w' = w.drewN n := by
  rcases h with rfl | ⟨g, rfl, _, h⟩
  · exact Same_none a b c c' w
  · rcases h' with rfl | ⟨g', rfl, _, h'⟩
    · exact Same_none _ b c c' w
    · exact Same_some g g' c c' ps.length (fun k => (first (l.drop (ps.getD k 0))).1) (fun k => (wid (l.drop (ps.getD k 0)) : Nat)) (fun k => whl (l.drop (ps.getD k 0))) w h h' hm


end Go.Proofs.YtnkeohiibninfabDoor
