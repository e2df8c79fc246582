/- The walk of OctetTable: it answers true wherever the table holds the classes, and changes nothing that was there. -/
import Derived.Test.YtgebpboimecdhaaDoorAwa
namespace Go.Proofs.YtgebpboimecdhaaDoor
open Go.ChangeShapes Go.WideShapes Go.ChangeAt Go.RowKit

set_option maxRecDepth 100000 in
set_option maxHeartbeats 1000000 in
theorem OctetTable_any (w : World) (hT : Tab w) :
    Calls Tryd.prog 3 #[] w fun e w' => e = .returned (.bool true) ∧ Below w.heap.size w w' := by
  go_enter Tryd.func3, Tryd.ntmps3
  go_wp2_with (go_at_call 9; refine (awake_any _ hT).mono ?_; rintro e w1 ⟨rfl, b1⟩)
  have hT1 := hT.below b1 hT.size
  go_loop [1] (fun i => ∃ k : Nat, k ≤ 256 ∧ i = .int .i64 k) (fun i => 256 - (intOf i).toNat)
  case atStart => exact ⟨0, Nat.zero_le _, rfl⟩
  case round =>
    obtain ⟨k, hk, rfl⟩ := hrel
    by_cases hlt : k < 256
    · go_wp2_with (first
        | (go_at_call 10; refine (Class_any _ _ (by omega) (by omega) hT1).mono ?_; rintro e w' ⟨rfl, rfl⟩)
        | (go_at_call 11; refine (RClass_any _ _ (by omega) (by omega)).mono ?_; rintro e w' ⟨rfl, rfl⟩)
        | (go_at_call 12; refine (Need_any _ _ (by omega) (by omega) hT1).mono ?_; rintro e w' ⟨rfl, rfl⟩)
        | (go_at_call 13; refine (RNeed_any _ _ (by omega) (by omega)).mono ?_; rintro e w' ⟨rfl, rfl⟩))
      go_loop [2] (fun i => ∃ j : Nat, j ≤ 256 ∧ i = .int .i64 j) (fun i => 256 - (intOf i).toNat)
      case atStart => exact ⟨0, Nat.zero_le _, rfl⟩
      case round =>
        obtain ⟨j, hj, rfl⟩ := hrel
        by_cases hjl : j < 256
        · go_wp2_with (first
            | (go_at_call 14; refine (Second_any _ _ _ (by omega) (by omega) (by omega) (by omega) hT1).mono ?_; rintro e w' ⟨rfl, rfl⟩)
            | (go_at_call 15; refine (RSecond_any _ _ _ (by omega) (by omega) (by omega) (by omega)).mono ?_; rintro e w' ⟨rfl, rfl⟩))
          exact ⟨⟨j + 1, by omega, by go_num⟩, by simp [intOf]; omega⟩
        · go_wp2
          exact ⟨⟨k + 1, by omega, by go_num⟩, by simp [intOf]; omega⟩
    · go_wp2
      go_ret
      exact ⟨rfl, b1⟩

end Go.Proofs.YtgebpboimecdhaaDoor
