/- The walk of ScanNil. -/
import Derived.Test.YthpbgeaajehlkaaDoorSaw
namespace Go.Proofs.YthpbgeaajehlkaaDoor
open Go.ChangeShapes Go.WideShapes Go.ChangeAt Go.RowKit

theorem Feed_nil (v : Value) (w : World) : Calls Tryd.prog 13 #[.pointer none, v] w fun e w' => e = .returned (.slice none 0 0) ∧ w' = w := by
  go_enter Tryd.func13, Tryd.ntmps13
  go_wp2
  go_ret
  exact ⟨rfl, rfl⟩
theorem End_nil (w : World) : Calls Tryd.prog 11 #[.pointer none] w fun e w' => e = .returned (.slice none 0 0) ∧ w' = w := by
  go_enter Tryd.func11, Tryd.ntmps11
  go_wp2
  go_ret
  exact ⟨rfl, rfl⟩
theorem Held_nil (w : World) : Calls Tryd.prog 16 #[.pointer none] w fun e w' => e = .returned (.int .i64 0) ∧ w' = w := by
  go_enter Tryd.func16, Tryd.ntmps16
  go_wp2
  go_ret
  exact ⟨rfl, rfl⟩
theorem Place_nil (w : World) : Calls Tryd.prog 15 #[.pointer none] w fun e w' => e = .returned (.int .i64 0) ∧ w' = w := by
  go_enter Tryd.func15, Tryd.ntmps15
  go_wp2
  go_ret
  exact ⟨rfl, rfl⟩
theorem Might_nil (w : World) : Calls Tryd.prog 18 #[.pointer none] w fun e w' => e = .returned (.tuple #[.int .u8 0, .int .u8 0, .bool false]) ∧ w' = w := by
  go_enter Tryd.func18, Tryd.ntmps18
  go_wp2
  exact bodyPost_ret (v := .tuple #[.int .u8 0, .int .u8 0, .bool false]) (by simp [results, Tryd.results18]) rfl ⟨rfl, rfl⟩

set_option maxHeartbeats 1000000 in
theorem ScanNil_any (a0 : Option Addr) (cap : Nat) (l : List Int) (w : World) (hB : IsB w a0 cap l) (hT : Tab w) :
    Calls Tryd.prog 6 #[.slice a0 l.length cap] w fun e w' => e = .returned (.bool true) ∧ Below w.heap.size w w' := by
  go_enter Tryd.func6, Tryd.ntmps6
  go_wp2_with fail
  refine (awake4_any w hT).mono ?_
  rintro e w1 ⟨rfl, b1⟩
  obtain ⟨a1, c1, w2, r1, x1, y1, z1⟩ := run_copy w1 a0 cap l 26 (hB.below b1 (Nat.le_refl _))
  have R1 := hide r1
  clear r1
  dsimp only
  go_wp2_with (first
    | (go_at_call 18; refine (Might_nil _).mono ?_; rintro e w3 ⟨rfl, rfl⟩; dsimp only)
    | (at_builtin; refine wpList_append_known rfl _ _ 26 26 rfl _ _ rfl rfl _ _ (unhide R1) ?_)
    | (go_at_call 13; refine (Feed_nil _ _).mono ?_; rintro e w3 ⟨rfl, rfl⟩; dsimp only)
    | (go_at_call 11; refine (End_nil _).mono ?_; rintro e w3 ⟨rfl, rfl⟩; dsimp only)
    | (go_at_call 16; refine (Held_nil _).mono ?_; rintro e w3 ⟨rfl, rfl⟩; dsimp only)
    | (go_at_call 15; refine (Place_nil _).mono ?_; rintro e w3 ⟨rfl, rfl⟩; dsimp only))
  go_ret
  exact ⟨rfl, b1.trans (z1.mono b1.size)⟩
end Go.Proofs.YthpbgeaajehlkaaDoor
