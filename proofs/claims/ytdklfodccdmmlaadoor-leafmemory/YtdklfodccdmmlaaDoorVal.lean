/- Contracts of leadBits and Value of the program over a []byte that lies in memory: each answers by the plain functions; Value only draws. -/
import Derived.Test.YtdklfodccdmmlaaDoorSli
namespace Go.Proofs.YtdklfodccdmmlaaDoor
open Go.ChangeShapes Go.WideShapes Go.ChangeAt Go.RowKit

theorem lead_ways {a v : Int} (h : (need a == 2) = true ∧ v = a % 32 ∨ (need a == 2) = false ∧ ((need a == 3) = true ∧ v = a % 16 ∨ (need a == 3) = false ∧ ((need a == 4) = true ∧ v = a % 8 ∨ (need a == 4) = false ∧ v = a))) : v = lead a := by
  simp only [beq_iff_eq, beq_eq_false_iff_ne] at h
  rcases h with ⟨h, rfl⟩ | ⟨h2, ⟨h, rfl⟩ | ⟨h3, ⟨h, rfl⟩ | ⟨h4, rfl⟩⟩⟩
  · exact (lead_2 h).symm
  · exact (lead_3 h).symm
  · exact (lead_4 h).symm
  · exact (lead_1 h2 h3 h4).symm

theorem leadBits_any (a : Int) (w : World) (h0 : 0 ≤ a) (h1 : a ≤ 255) (hT : Tab w) :
    Calls Tryd.prog 52 #[.int .u8 a] w fun e w' => e = .returned (.int .i32 (lead a)) ∧ w' = w := by
  go_enter Tryd.func52, Tryd.ntmps52
  go_wp2_with (go_at_call 42; refine (Need_any _ _ h0 h1 hT).mono ?_; rintro e w' ⟨rfl, rfl⟩)
  all_goals go_ret
  all_goals refine ⟨ret_int (lead_ways ?_), rfl⟩
  all_goals simp [*]

theorem whole_need {a : Int} {r : List Int} (h : whole (a :: r) = true) : (r.length : Int) + 1 = need a := by
  by_cases hn : (r.length : Int) + 1 = need a
  · exact hn
  · rw [whole_len hn] at h; cases h

set_option maxHeartbeats 400000 in
theorem Value_no (a0 : Option Addr) (cap : Nat) (l : List Int) (w : World) (hm : l.length ≤ maxLen) (hcap : l.length ≤ cap) (hB : Bs w a0 l) (hT : Tab w) (h : whole l = false) :
    Calls Tryd.prog 45 #[.slice a0 l.length cap] w fun e w' => e = .returned (.int .i32 (-1)) ∧ ∃ n, w' = w.drewN n := by
  have hw := Whole_at a0 cap l w hm hcap hB hT
  rw [h] at hw
  have HW := hide hw
  clear hw h hB
  unfold maxLen at hm
  generalize l.length = n at *
  go_enter Tryd.func45, Tryd.ntmps45
  go_wp2_with (go_at_call 43; refine (unhide HW).mono ?_; rintro e w' ⟨rfl, n, rfl⟩)
  go_ret
  exact ⟨rfl, _, rfl⟩

set_option maxHeartbeats 400000 in
theorem Value_one (g off cap : Nat) (a : Int) (w : World) (hcap : 1 ≤ cap) (hL : Lies w g off [a]) (hT : Tab w) (h : whole [a] = true) :
    Calls Tryd.prog 45 #[.slice (some ⟨g, off, none⟩) 1 cap] w fun e w' => e = .returned (.int .i32 (lead a)) ∧ ∃ n, w' = w.drewN n := by
  have hw := Whole_at (some ⟨g, off, none⟩) cap [a] w (by simp [maxLen]) hcap (Or.inr ⟨g, off, rfl, hL⟩) hT
  rw [h] at hw
  have HW := hide hw
  clear hw h
  obtain ⟨hc, x0, x1⟩ := hL.head
  go_enter Tryd.func45, Tryd.ntmps45
  go_wp2_with (first
    | (go_at_call 43; refine (unhide HW).mono ?_; rintro e w' ⟨rfl, n, rfl⟩)
    | (go_at_call 52; refine (leadBits_any _ _ x0 x1 (Tab.drewN hT _)).mono ?_; rintro e w' ⟨rfl, rfl⟩))
  all_goals
    go_loop [3, 16] (fun v i => v = .int .i32 (lead a) ∧ i = .int .i64 0) (fun _ _ => 0)
    case atStart => exact ⟨rfl, rfl⟩
    case round =>
      obtain ⟨rfl, rfl⟩ := hrel
      go_wp2
      go_ret
      exact ⟨rfl, _, rfl⟩

set_option maxHeartbeats 400000 in
theorem Value_more (g off cap : Nat) (a : Int) (r : List Int) (w : World) (hm : r.length + 1 ≤ maxLen) (hcap : r.length + 1 ≤ cap) (hr : 0 < r.length) (hL : Lies w g off (a :: r)) (hT : Tab w) (h : whole (a :: r) = true) :
    Calls Tryd.prog 45 #[.slice (some ⟨g, off, none⟩) (r.length + 1) cap] w fun e w' => e = .returned (.int .i32 (fold (lead a) r)) ∧ ∃ n, w' = w.drewN n := by
  have hw := Whole_at (some ⟨g, off, none⟩) cap (a :: r) w hm hcap (Or.inr ⟨g, off, rfl, hL⟩) hT
  rw [h] at hw
  have HW := hide hw
  have hn := whole_need h
  have HN := hide hn
  clear hw h hn
  obtain ⟨hc, x0, x1⟩ := hL.head
  have hL1 := hL.tail
  have hc1 : ¬ cap = 1 := by omega
  unfold maxLen at hm
  simp only [List.length_cons] at HW
  generalize hlen : r.length = m at *
  have Hlen := hide hlen
  clear hlen
  go_enter Tryd.func45, Tryd.ntmps45
  go_wp2_with (first
    | (go_at_call 43; refine (unhide HW).mono ?_; rintro e w' ⟨rfl, n, rfl⟩)
    | (go_at_call 52; refine (leadBits_any _ _ x0 x1 (Tab.drewN hT _)).mono ?_; rintro e w' ⟨rfl, rfl⟩))
  go_loop [3, 16] (fun v i => ∃ k : Nat, k ≤ m ∧ i = .int .i64 k ∧ v = .int .i32 (fold (lead a) (r.take k))) (fun _ i => m - (intOf i).toNat)
  case atStart => exact ⟨0, Nat.zero_le _, rfl, rfl⟩
  case round =>
    obtain ⟨k, hk, rfl, rfl⟩ := hrel
    by_cases hlt : k < m
    · obtain ⟨hc, y0, y1⟩ := hL1 k (by rw [unhide Hlen]; exact hlt)
      have hft := fold_take (lead a) r k (by rw [unhide Hlen]; exact hlt)
      obtain ⟨b0, b1⟩ := fold_small (a := a) (r := r) (by rw [unhide Hlen]; exact unhide HN) k (by rw [unhide Hlen]; exact hlt)
      have HFT := hide hft
      clear hft
      generalize hv : fold (lead a) (r.take k) = v at b0 b1 ⊢
      have HV := hide hv
      clear hv
      generalize hy : r.getD k 0 = y at hc y0 y1
      have HY := hide hy
      clear hy
      go_wp2
      exact ⟨⟨k + 1, by omega, by go_num, by rw [unhide HFT, unhide HV, unhide HY]⟩, by simp [intOf]; omega⟩
    · go_wp2
      go_ret
      exact ⟨ret_int (by rw [List.take_of_length_le (by rw [unhide Hlen]; omega)]), _, rfl⟩

theorem value_no {l : List Int} (h : whole l = false) : value l = -1 := by
  cases l with
  | nil => rfl
  | cons a r => simp [value, h]
theorem value_yes {a : Int} {r : List Int} (h : whole (a :: r) = true) : value (a :: r) = fold (lead a) r := by simp [value, h]

theorem Value_at (a0 : Option Addr) (cap : Nat) (l : List Int) (w : World) (hm : l.length ≤ maxLen) (hcap : l.length ≤ cap) (hB : Bs w a0 l) (hT : Tab w) :
    Calls Tryd.prog 45 #[.slice a0 l.length cap] w fun e w' => e = .returned (.int .i32 (value l)) ∧ ∃ n, w' = w.drewN n := by
  cases h : whole l with
  | false => rw [value_no h]; exact Value_no a0 cap l w hm hcap hB hT h
  | true =>
    match l with
    | [] => cases h
    | [a] =>
      rcases hB with hn | ⟨g, off, rfl, hL⟩
      · cases hn
      rw [value_yes h]
      exact Value_one g off cap a w hcap hL hT h
    | a :: b :: t =>
      rcases hB with hn | ⟨g, off, rfl, hL⟩
      · cases hn
      rw [value_yes h]
      exact Value_more g off cap a (b :: t) w hm hcap (by simp) hL hT h

end Go.Proofs.YtdklfodccdmmlaaDoor
