/- Might: the least and the greatest byte that may stand behind what is held. -/
import Derived.Test.YtpgipahlhbkjjaaDoorSaw
namespace Go.Proofs.YtpgipahlhbkjjaaDoor
open Go.ChangeShapes Go.WideShapes Go.ChangeAt Go.RowKit

def loA (a : Int) : Int := if a = 224 then 160 else if a = 240 then 144 else 128
def hiA (a : Int) : Int := if a = 237 then 159 else if a = 244 then 143 else 191
def mightV : List Int → Int × Int × Bool
  | [] => (0, 0, false)
  | [a] => (loA a, hiA a, true)
  | _ => (128, 191, true)
theorem loA_in (a : Int) : 128 ≤ loA a ∧ loA a ≤ 160 := by unfold loA; split <;> (try split) <;> omega
theorem hiA_in (a : Int) : 143 ≤ hiA a ∧ hiA a ≤ 191 := by unfold hiA; split <;> (try split) <;> omega
theorem lo_hi (a : Int) : loA a ≤ hiA a := by unfold loA hiA; repeat (split; try omega)
                                              all_goals (try omega)
                                              all_goals (split <;> omega)
theorem need_lead {a : Int} (h : 2 ≤ need a) : 194 ≤ a ∧ a < 245 := by
  have := need_two a
  by_cases h2 : a < 194 ∨ 245 ≤ a
  · rw [← this] at h2; omega
  · omega
theorem sec_range {a x : Int} (h : 2 ≤ need a) : sec a x = decide (loA a ≤ x ∧ x ≤ hiA a) := by
  obtain ⟨h1, h2⟩ := need_lead h
  simp only [sec]
  rw [decide_eq_decide]
  unfold loA hiA
  by_cases e1 : a = 224
  · subst e1; simp; omega
  · by_cases e2 : a = 237
    · subst e2; simp; omega
    · by_cases e3 : a = 240
      · subst e3; simp; omega
      · by_cases e4 : a = 244
        · subst e4; simp; omega
        · simp [e1, e2, e3, e4]; omega

set_option maxHeartbeats 1000000 in
theorem Might_zero (g : Nat) (fed : Int) (w : World) (hS : Sca w g [] fed) :
    Calls Tryd.prog 15 #[.pointer (some ⟨g, 0, none⟩)] w fun e w' => e = .returned (.tuple #[.int .u8 0, .int .u8 0, .bool false]) ∧ ∃ n, w' = w.drewN n := by
  have hc := hS.2.2.2.2.2.1
  simp only [List.length_nil] at hc
  clear hS
  go_enter Tryd.func15, Tryd.ntmps15
  go_wp2
  exact bodyPost_ret (v := .tuple #[.int .u8 0, .int .u8 0, .bool false]) (by simp [results, Tryd.results15]) rfl ⟨rfl, 0, rfl⟩
set_option maxHeartbeats 1000000 in
theorem Might_more (g : Nat) (h : List Int) (fed : Int) (w : World) (hS : Sca w g h fed) (h2 : 2 ≤ h.length) :
    Calls Tryd.prog 15 #[.pointer (some ⟨g, 0, none⟩)] w fun e w' => e = .returned (.tuple #[.int .u8 128, .int .u8 191, .bool true]) ∧ ∃ n, w' = w.drewN n := by
  have hc := hS.2.2.2.2.2.1
  have e0 : ((h.length : Int) == 0) = false := by rw [beq_eq_false_iff_ne]; omega
  have e1 : decide ((1 : Int) < (h.length : Int)) = true := decide_eq_true (by omega)
  have e2 : decide ((h.length : Int) > (1 : Int)) = true := decide_eq_true (by omega)
  clear hS
  go_enter Tryd.func15, Tryd.ntmps15
  go_wp2
  exact bodyPost_ret (v := .tuple #[.int .u8 128, .int .u8 191, .bool true]) (by simp [results, Tryd.results15]) rfl ⟨rfl, 0, rfl⟩
set_option maxHeartbeats 1000000 in
theorem Might_one (g : Nat) (a fed : Int) (w : World) (hS : Sca w g [a] fed) (ha : 2 ≤ need a) (hT : Tab w) :
    Calls Tryd.prog 15 #[.pointer (some ⟨g, 0, none⟩)] w fun e w' => e = .returned (.tuple #[.int .u8 (loA a), .int .u8 (hiA a), .bool true]) ∧ ∃ n, w' = w.drewN n := by
  have hc := hS.2.2.2.2.2.1
  obtain ⟨h0, ha0, ha1⟩ := hS.2.2.1.head
  simp only [List.length_cons, List.length_nil] at hc
  clear hS
  have hl := loA_in a
  have hh := hiA_in a
  have hlh := lo_hi a
  have HSR := hide (fun x => sec_range (a := a) (x := x) ha)
  go_enter Tryd.func15, Tryd.ntmps15
  go_wp2_with fail
  go_loopw [2] (fun u wx => ∃ x : Int, u = .int .u8 x ∧ 128 ≤ x ∧ x ≤ loA a ∧ wx = w) (fun u _ => (200 - intOf u).toNat)
  case atStart => exact ⟨128, rfl, by omega, by omega, rfl⟩
  case round =>
    obtain ⟨x, rfl, hx0, hx1, rfl⟩ := hrel
    have e1 : decide (x < 191) = true := decide_eq_true (by omega)
    by_cases hx : x < loA a
    · have hs : sec a x = false := by rw [unhide HSR]; exact decide_eq_false (by omega)
      go_wp2_with (go_at_call 21; refine (Second_at _ _ _ ha0 ha1 (by omega) (by omega) hT hs).mono ?_; rintro e w3 ⟨rfl, rfl⟩; dsimp only)
      go_roundw
      case rel => exact ⟨x + 1, by go_num, by omega, by omega, by first | rfl | trivial⟩
      case measure => simp [intOf]; omega
    · obtain rfl : x = loA a := by omega
      have hs : sec a (loA a) = true := by rw [unhide HSR]; exact decide_eq_true ⟨by omega, by omega⟩
      go_wp2_with (go_at_call 21; refine (Second_at _ _ _ ha0 ha1 (by omega) (by omega) hT hs).mono ?_; rintro e w3 ⟨rfl, rfl⟩; dsimp only)
      have hge := lo_hi a
      go_loopw [3] (fun u wx => ∃ x : Int, u = .int .u8 x ∧ hiA a ≤ x ∧ x ≤ 191 ∧ wx = w3) (fun u _ => (intOf u).toNat)
      case atStart => exact ⟨191, rfl, by omega, by omega, rfl⟩
      case round =>
        obtain ⟨y, rfl, hy0, hy1, rfl⟩ := hrel
        by_cases hy : hiA a < y
        · have e2 : decide (y > loA a) = true := decide_eq_true (by omega)
          have e3 : decide (loA a < y) = true := decide_eq_true (by omega)
          have hs2 : sec a y = false := by rw [unhide HSR]; exact decide_eq_false (by omega)
          go_wp2_with (go_at_call 21; refine (Second_at _ _ _ ha0 ha1 (by omega) (by omega) hT hs2).mono ?_; rintro e w4 ⟨rfl, rfl⟩; dsimp only)
          go_roundw
          case rel => exact ⟨y - 1, by go_num, by omega, by omega, by first | rfl | trivial⟩
          case measure => simp [intOf]; omega
        · obtain rfl : y = hiA a := by omega
          have hs2 : sec a (hiA a) = true := by rw [unhide HSR]; exact decide_eq_true ⟨by omega, by omega⟩
          go_wp2_with (go_at_call 21; refine (Second_at _ _ _ ha0 ha1 (by omega) (by omega) hT hs2).mono ?_; rintro e w4 ⟨rfl, rfl⟩; dsimp only)
          all_goals exact bodyPost_ret (v := .tuple #[.int .u8 (loA a), .int .u8 (hiA a), .bool true]) (by simp [results, Tryd.results15]) rfl ⟨rfl, 0, rfl⟩

theorem Might_at (g : Nat) (h : List Int) (fed : Int) (w : World) (hS : Sca w g h fed) (hH : Hel h) (hT : Tab w) :
    Calls Tryd.prog 15 #[.pointer (some ⟨g, 0, none⟩)] w fun e w' => e = .returned (.tuple #[.int .u8 (mightV h).1, .int .u8 (mightV h).2.1, .bool (mightV h).2.2]) ∧ ∃ n, w' = w.drewN n := by
  match h, hS, hH with
  | [], hS, _ => exact Might_zero g fed w hS
  | [a], hS, hH =>
    refine Might_one g a fed w hS ?_ hT
    rcases hH with h | h
    · cases h
    · exact (prop_lead h).1
  | a :: b :: t, hS, _ => exact Might_more g _ fed w hS (by simp)
end Go.Proofs.YtpgipahlhbkjjaaDoor
