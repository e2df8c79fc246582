/- Contracts of the document's answer: Value, Is and Bytes of layer 1: each answers by the plain functions; Value only draws, Bytes answers in new memory. -/
import Derived.Test.YtdmkgocddikobaaDoorRef
namespace Go.Proofs.YtdmkgocddikobaaDoor
open Go.ChangeShapes Go.WideShapes Go.ChangeAt Go.RowKit

set_option maxHeartbeats 400000 in
theorem RValue_no (a0 : Option Addr) (cap : Nat) (l : List Int) (w : World) (hm : l.length ≤ maxLen) (hB : Bs w a0 l) (h : whole l = false) :
    Calls Tryd.prog 56 #[.slice a0 l.length cap] w fun e w' => e = .returned (.int .i32 (-1)) ∧ ∃ n, w' = w.drewN n := by
  have hw := RWhole_at a0 cap l w hm hB
  rw [h] at hw
  have HW := hide hw
  clear hw h hB
  unfold maxLen at hm
  generalize l.length = n at *
  go_enter Tryd.func56, Tryd.ntmps56
  go_wp2_with (go_at_call 48; refine (unhide HW).mono ?_; rintro e w' ⟨rfl, n, rfl⟩)
  go_ret
  exact ⟨rfl, _, rfl⟩

theorem len_ways {a : Int} {m : Nat} (h : (m : Int) + 1 = need a) :
    ((m : Int) + 1 == 2) = true ∧ lead a = a % 32 ∨ ((m : Int) + 1 == 2) = false ∧ ((m : Int) + 1 == 3) = true ∧ lead a = a % 16 ∨
    ((m : Int) + 1 == 2) = false ∧ ((m : Int) + 1 == 3) = false ∧ ((m : Int) + 1 == 4) = true ∧ lead a = a % 8 ∨
    ((m : Int) + 1 == 2) = false ∧ ((m : Int) + 1 == 3) = false ∧ ((m : Int) + 1 == 4) = false ∧ lead a = a := by
  simp only [beq_iff_eq, beq_eq_false_iff_ne, h]
  by_cases h2 : need a = 2
  · exact Or.inl ⟨h2, lead_2 h2⟩
  · by_cases h3 : need a = 3
    · exact Or.inr (Or.inl ⟨h2, h3, lead_3 h3⟩)
    · by_cases h4 : need a = 4
      · exact Or.inr (Or.inr (Or.inl ⟨h2, h3, h4, lead_4 h4⟩))
      · exact Or.inr (Or.inr (Or.inr ⟨h2, h3, h4, lead_1 h2 h3 h4⟩))

set_option maxHeartbeats 1000000 in
theorem RValue_yes (g off cap : Nat) (a : Int) (r : List Int) (w : World) (hm : r.length + 1 ≤ maxLen) (hL : Lies w g off (a :: r)) (h : whole (a :: r) = true) :
    Calls Tryd.prog 56 #[.slice (some ⟨g, off, none⟩) (r.length + 1) cap] w fun e w' => e = .returned (.int .i32 (fold (lead a) r)) ∧ ∃ n, w' = w.drewN n := by
  have hw := RWhole_at (some ⟨g, off, none⟩) cap (a :: r) w hm (Or.inr ⟨g, off, rfl, hL⟩)
  rw [h] at hw
  have HW := hide hw
  have hn := whole_need h
  have HN := hide hn
  clear hw h
  obtain ⟨hc, x0, x1⟩ := hL.head
  obtain ⟨f0, f1⟩ := fold_wide x0 hn
  unfold maxLen at hm
  simp only [List.length_cons] at HW
  have hways := len_ways hn
  clear hn
  generalize hlen : r.length = m at *
  have Hlen := hide hlen
  clear hlen
  rcases hways with ⟨e2, hl⟩ | ⟨e2, e3, hl⟩ | ⟨e2, e3, e4, hl⟩ | ⟨e2, e3, e4, hl⟩
  all_goals
    have HLd := hide hl
    clear hl
    go_enter Tryd.func56, Tryd.ntmps56
    go_wp2_with (go_at_call 48; refine (unhide HW).mono ?_; rintro e w' ⟨rfl, n, rfl⟩)
    go_loop [4, 5] (fun v i => ∃ k : Nat, 1 ≤ k ∧ k ≤ m + 1 ∧ i = .int .i64 k ∧ v = .int .i64 (fold (lead a) (r.take (k - 1)))) (fun _ i => m + 1 - (intOf i).toNat)
    case atStart => exact ⟨1, by omega, by omega, rfl, by rw [unhide HLd]; rfl⟩
    case round =>
      obtain ⟨k, hk1, hk, rfl, rfl⟩ := hrel
      by_cases hlt : k < m + 1
      · obtain ⟨hc, y0, y1⟩ := hL k (by simp only [List.length_cons, unhide Hlen]; exact hlt)
        have hx : (a :: r).getD k 0 = r.getD (k - 1) 0 := by
          obtain ⟨j, rfl⟩ : ∃ j, k = j + 1 := ⟨k - 1, by omega⟩
          simp
        rw [hx] at hc y0 y1
        clear hx
        have hft := fold_take (lead a) r (k - 1) (by rw [unhide Hlen]; omega)
        obtain ⟨b0, b1⟩ := fold_small (a := a) (r := r) (by rw [unhide Hlen]; exact unhide HN) (k - 1) (by rw [unhide Hlen]; omega)
        rw [show k - 1 + 1 = k by omega] at hft
        have HFT := hide hft
        clear hft
        generalize hv : fold (lead a) (r.take (k - 1)) = v at b0 b1 ⊢
        have HV := hide hv
        clear hv
        generalize hy : r.getD (k - 1) 0 = y at hc y0 y1
        have HY := hide hy
        clear hy
        go_wp2
        exact ⟨⟨k + 1, by omega, by omega, by go_num, by rw [show k + 1 - 1 = k by omega, unhide HFT, unhide HV, unhide HY]⟩, by simp [intOf]; omega⟩
      · have hall : r.take (k - 1) = r := List.take_of_length_le (by rw [unhide Hlen]; omega)
        rw [hall]
        clear hall
        go_wp2
        go_ret
        exact ⟨rfl, _, rfl⟩

theorem RValue_at (a0 : Option Addr) (cap : Nat) (l : List Int) (w : World) (hm : l.length ≤ maxLen) (hB : Bs w a0 l) :
    Calls Tryd.prog 56 #[.slice a0 l.length cap] w fun e w' => e = .returned (.int .i32 (value l)) ∧ ∃ n, w' = w.drewN n := by
  cases h : whole l with
  | false => rw [value_no h]; exact RValue_no a0 cap l w hm hB h
  | true =>
    match l with
    | [] => cases h
    | a :: r =>
      rcases hB with hn | ⟨g, off, rfl, hL⟩
      · cases hn
      rw [value_yes h]
      exact RValue_yes g off cap a r w hm hL h

end Go.Proofs.YtdmkgocddikobaaDoor
