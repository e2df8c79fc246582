/- The walk of UnitsRunes: it answers true wherever the table holds the classes, and changes nothing that was there. -/
import Derived.Test.YtlfcplipnmclhaaDoorWak
namespace Go.Proofs.YtlfcplipnmclhaaDoor
open Go.ChangeShapes Go.WideShapes Go.ChangeAt Go.RowKit

set_option maxHeartbeats 1000000 in
theorem UnitsRunes_any (r a b : Int) (w : World) (wr : (Lit.int .i32 r).wf = true) (wa : (Lit.int .u16 a).wf = true) (wb : (Lit.int .u16 b).wf = true) (hT : Tab w) :
    Calls Tryd.prog 3 #[.int .i32 r, .int .u16 a, .int .u16 b] w fun e w' => e = .returned (.bool true) ∧ Below w.heap.size w w' := by
  obtain ⟨r0, r1⟩ := bounds_i32 wr
  obtain ⟨a0, a1⟩ := bounds_u16 wa
  obtain ⟨b0, b1⟩ := bounds_u16 wb
  obtain ⟨x, y, z, hs⟩ : ∃ x y z, splitV r = .tuple #[.int .u16 x, .int .u16 y, .bool z] := by
    unfold splitV; split <;> exact ⟨_, _, _, rfl⟩
  obtain ⟨s, t, hj⟩ : ∃ s t, joinV a b = .tuple #[.int .i32 s, .bool t] := by
    unfold joinV; split <;> exact ⟨_, _, rfl⟩
  have HS := hide hs
  have HJ := hide hj
  clear hs hj
  go_enter Tryd.func3, Tryd.ntmps3
  go_wp2_with (first
    | (go_at_call 9; refine (wakes_any _ hT).mono ?_; rintro e w1 ⟨rfl, x1⟩)
    | (go_at_call 10; refine (Split_any r _ r0 r1).mono ?_; rw [unhide HS]; rintro e w1 ⟨rfl, rfl⟩)
    | (go_at_call 11; refine (RSplit_any r _ r0 r1).mono ?_; rw [unhide HS]; rintro e w1 ⟨rfl, rfl⟩)
    | (go_at_call 12; refine (Join_any a b _ a0 a1 b0 b1).mono ?_; rw [unhide HJ]; rintro e w1 ⟨rfl, rfl⟩)
    | (go_at_call 13; refine (RJoin_any a b _ a0 a1 b0 b1).mono ?_; rw [unhide HJ]; rintro e w1 ⟨rfl, rfl⟩)
    | (go_at_call 14; refine (Len_any r _ r0 r1).mono ?_; rintro e w1 ⟨rfl, rfl⟩)
    | (go_at_call 15; refine (RLen_any r _ r0 r1).mono ?_; rintro e w1 ⟨rfl, rfl⟩))
  go_ret
  exact ⟨ret_bool (by simp), x1⟩

end Go.Proofs.YtlfcplipnmclhaaDoor
