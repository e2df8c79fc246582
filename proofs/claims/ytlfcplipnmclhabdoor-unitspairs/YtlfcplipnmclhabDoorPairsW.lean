/- The walk of UnitsPairs: it answers true wherever the table holds the classes, and changes nothing that was there. -/
import Derived.Test.YtlfcplipnmclhabDoorWak
namespace Go.Proofs.YtlfcplipnmclhabDoor
open Go.ChangeShapes Go.WideShapes Go.ChangeAt Go.RowKit

set_option maxHeartbeats 1000000 in
theorem UnitsPairs_any (a b : Int) (w : World) (wa : (Lit.int .u16 a).wf = true) (wb : (Lit.int .u16 b).wf = true) (hT : Tab w) :
    Calls Tryd.prog 3 #[.int .u16 a, .int .u16 b] w fun e w' => e = .returned (.bool true) ∧ Below w.heap.size w w' := by
  obtain ⟨a0, a1⟩ := bounds_u16 wa
  obtain ⟨b0, b1⟩ := bounds_u16 wb
  cases h : (isHi a && isLo b) with
  | true =>
    have HJ : Hid (joinV a b = .tuple #[.int .i32 (joinR a b), .bool true]) := hide (by rw [joinV, if_pos h])
    simp only [Bool.and_eq_true] at h
    have h3 : 55296 ≤ a ∧ a < 56320 := of_decide_eq_true h.1
    have h4 : 56320 ≤ b ∧ b ≤ 57343 := of_decide_eq_true h.2
    have h5 : 65536 ≤ joinR a b ∧ joinR a b ≤ 1114111 := by unfold joinR; omega
    have h6 : two (joinR a b) = true := decide_eq_true h5
    have HS : Hid (splitV (joinR a b) = .tuple #[.int .u16 a, .int .u16 b, .bool true]) := hide (by
      rw [splitV, if_pos h6, show hiU (joinR a b) = a by unfold joinR hiU; omega, show loU (joinR a b) = b by unfold joinR loU; omega])
    have HL : Hid (ulen (joinR a b) = 2) := hide (by rw [ulen_two, h6])
    obtain ⟨q0, q1⟩ := h5
    have HJA := hide (fun w => Join_any a b w a0 a1 b0 b1)
    rw [unhide HJ] at HJA
    have HSA := hide (fun w => Split_any (joinR a b) w (by omega) (by omega))
    rw [unhide HS] at HSA
    have HLA := hide (fun w => Len_any (joinR a b) w (by omega) (by omega))
    rw [unhide HL] at HLA
    clear h h3 h4 h6 HJ HS HL
    generalize joinR a b = r at *
    go_enter Tryd.func3, Tryd.ntmps3
    go_wp2_with (first
      | (go_at_call 5; refine (wakes_any _ hT).mono ?_; rintro e w1 ⟨rfl, x1⟩)
      | (go_at_call 6; refine (unhide HJA _).mono ?_; rintro e w1 ⟨rfl, rfl⟩)
      | (go_at_call 7; refine (unhide HSA _).mono ?_; rintro e w1 ⟨rfl, rfl⟩)
      | (go_at_call 8; refine (unhide HLA _).mono ?_; rintro e w1 ⟨rfl, rfl⟩))
    all_goals go_ret
    all_goals exact ⟨ret_bool (by simp <;> omega), x1⟩
  | false =>
    have HJ : Hid (joinV a b = .tuple #[.int .i32 0, .bool false]) := hide (by rw [joinV, if_neg (by rw [h]; decide)])
    have h3 : a < 55296 ∨ a > 56319 ∨ b < 56320 ∨ b > 57343 := by
      rcases Bool.and_eq_false_iff.1 h with h1 | h1
      · have : ¬ (55296 ≤ a ∧ a < 56320) := of_decide_eq_false h1; omega
      · have : ¬ (56320 ≤ b ∧ b ≤ 57343) := of_decide_eq_false h1; omega
    have HJA := hide (fun w => Join_any a b w a0 a1 b0 b1)
    rw [unhide HJ] at HJA
    clear h HJ
    go_enter Tryd.func3, Tryd.ntmps3
    go_wp2_with (first
      | (go_at_call 5; refine (wakes_any _ hT).mono ?_; rintro e w1 ⟨rfl, x1⟩)
      | (go_at_call 6; refine (unhide HJA _).mono ?_; rintro e w1 ⟨rfl, rfl⟩))
    all_goals go_ret
    all_goals exact ⟨ret_bool (by simp <;> omega), x1⟩

end Go.Proofs.YtlfcplipnmclhabDoor
