/- Contracts of the document's answer: Begins, Whole, Value, Is and Bytes of layer 1, over a []byte that lies in memory: each answers by the plain functions; they only draw, and Bytes answers in new memory. -/
import Derived.Test.YtdmkgocddikobaaDoorByt
namespace Go.Proofs.YtdmkgocddikobaaDoor
open Go.ChangeShapes Go.WideShapes Go.ChangeAt Go.RowKit

def begins : List Int → Bool
  | [] => false
  | a :: r => decide ((r.length : Int) + 1 ≤ need a) && (match r with | [] => true | b :: t => sec a b && t.all isTail)
theorem begins_long {a : Int} {r : List Int} (h : need a < (r.length : Int) + 1) : begins (a :: r) = false := by simp [begins, show ¬ (r.length : Int) + 1 ≤ need a by omega]
theorem begins_one {a : Int} (h : 1 ≤ need a) : begins [a] = true := by simp [begins, h]
theorem begins_more {a b : Int} {t : List Int} (h : (t.length : Int) + 2 ≤ need a) : begins (a :: b :: t) = (sec a b && t.all isTail) := by
  have : ((b :: t).length : Int) + 1 ≤ need a := by simp only [List.length_cons]; omega
  simp only [begins, this, decide_true, Bool.true_and]

theorem RSecond_at (l b : Int) {v : Bool} (w : World) (hl0 : 0 ≤ l) (hl1 : l ≤ 255) (h0 : 0 ≤ b) (h1 : b ≤ 255) (h : sec l b = v) :
    Calls Tryd.prog 66 #[.int .u8 l, .int .u8 b] w fun e w' => e = .returned (.bool v) ∧ w' = w := by
  subst h
  exact RSecond_any l b w hl0 hl1 h0 h1

theorem Begins_none (a0 : Option Addr) (cap : Nat) (w : World) :
    Calls Tryd.prog 58 #[.slice a0 0 cap] w fun e w' => e = .returned (.bool false) ∧ w' = w := by
  go_enter Tryd.func58, Tryd.ntmps58
  go_wp2
  go_ret
  exact ⟨rfl, rfl⟩

set_option maxHeartbeats 400000 in
theorem Begins_long (g off cap : Nat) (a : Int) (r : List Int) (w : World) (hm : r.length + 1 ≤ maxLen) (hL : Lies w g off (a :: r)) (h : need a < (r.length : Int) + 1) :
    Calls Tryd.prog 58 #[.slice (some ⟨g, off, none⟩) (r.length + 1) cap] w fun e w' => e = .returned (.bool false) ∧ w' = w := by
  unfold maxLen at hm
  obtain ⟨hc, x0, x1⟩ := hL.head
  go_enter Tryd.func58, Tryd.ntmps58
  go_wp2_with (go_at_call 47; refine (RNeed_any _ _ x0 x1).mono ?_; rintro e w' ⟨rfl, rfl⟩)
  go_ret
  exact ⟨rfl, rfl⟩

set_option maxHeartbeats 400000 in
theorem Begins_one (g off cap : Nat) (a : Int) (w : World) (hL : Lies w g off [a]) (h : 1 ≤ need a) :
    Calls Tryd.prog 58 #[.slice (some ⟨g, off, none⟩) 1 cap] w fun e w' => e = .returned (.bool true) ∧ w' = w := by
  obtain ⟨hc, x0, x1⟩ := hL.head
  have hn : ¬ need a < 1 := by omega
  go_enter Tryd.func58, Tryd.ntmps58
  go_wp2_with (go_at_call 47; refine (RNeed_any _ _ x0 x1).mono ?_; rintro e w' ⟨rfl, rfl⟩)
  go_loop [4] (fun i => i = .int .i64 2) (fun _ => 0)
  case atStart => rfl
  case round =>
    subst hrel
    go_wp2
    go_ret
    exact ⟨rfl, rfl⟩

set_option maxHeartbeats 400000 in
theorem Begins_no (g off cap : Nat) (a b : Int) (t : List Int) (w : World) (hm : t.length + 2 ≤ maxLen) (hL : Lies w g off (a :: b :: t)) (h : (t.length : Int) + 2 ≤ need a) (hs : sec a b = false) :
    Calls Tryd.prog 58 #[.slice (some ⟨g, off, none⟩) (t.length + 2) cap] w fun e w' => e = .returned (.bool false) ∧ ∃ n, w' = w.drewN n := by
  unfold maxLen at hm
  obtain ⟨hc, x0, x1⟩ := hL.head
  obtain ⟨hd, y0, y1⟩ := hL.tail.head
  have i1 : (1 : Int) < (t.length : Int) + 2 := by omega
  have hz : ((t.length : Int) + 2 == 0) = false := beq_eq_false_iff_ne.2 (by omega)
  have hn : decide (need a < (t.length : Int) + 2) = false := decide_eq_false (by omega)
  have HS := hide hs
  clear hs
  go_enter Tryd.func58, Tryd.ntmps58
  go_wp2_with (go_at_call 47; refine (RNeed_any _ _ x0 x1).mono ?_; rintro e w' ⟨rfl, rfl⟩)
  go_quiet ((go_at_call 66; exact Calls.quiet_of_same (RSecond_at _ _ _ x0 x1 y0 y1 (unhide HS))))
  go_wp2
  go_ret
  exact ⟨rfl, _, rfl⟩

set_option maxHeartbeats 400000 in
theorem Begins_more (g off cap : Nat) (a b : Int) (t : List Int) (w : World) (hm : t.length + 2 ≤ maxLen) (hL : Lies w g off (a :: b :: t)) (h : (t.length : Int) + 2 ≤ need a) (hs : sec a b = true) :
    Calls Tryd.prog 58 #[.slice (some ⟨g, off, none⟩) (t.length + 2) cap] w fun e w' => e = .returned (.bool (t.all isTail)) ∧ ∃ n, w' = w.drewN n := by
  unfold maxLen at hm
  obtain ⟨hc, x0, x1⟩ := hL.head
  obtain ⟨hd, y0, y1⟩ := hL.tail.head
  generalize hlen : t.length = m at *
  have Hlen := hide hlen
  clear hlen
  have i1 : (1 : Int) < (m : Int) + 2 := by omega
  have hz : ((m : Int) + 2 == 0) = false := beq_eq_false_iff_ne.2 (by omega)
  have hn : decide (need a < (m : Int) + 2) = false := decide_eq_false (by omega)
  have HS := hide hs
  clear hs
  go_enter Tryd.func58, Tryd.ntmps58
  go_wp2_with (go_at_call 47; refine (RNeed_any _ _ x0 x1).mono ?_; rintro e w' ⟨rfl, rfl⟩)
  go_quiet ((go_at_call 66; exact Calls.quiet_of_same (RSecond_at _ _ _ x0 x1 y0 y1 (unhide HS))))
  go_wp2
  go_loop [4] (fun i => ∃ k : Nat, 2 ≤ k ∧ k ≤ m + 2 ∧ i = .int .i64 k ∧ ∀ j, j + 2 < k → isTail (t.getD j 0) = true) (fun i => m + 2 - (intOf i).toNat)
  case atStart => exact ⟨2, by omega, by omega, rfl, fun j hj => absurd hj (by omega)⟩
  case round =>
    obtain ⟨k, hk2, hk, rfl, hall⟩ := hrel
    have Hall := hide hall
    clear hall
    by_cases hlt : k < m + 2
    · obtain ⟨hc, z0, z1⟩ := hL k (by simp only [List.length_cons, unhide Hlen]; exact hlt)
      have hx : (a :: b :: t).getD k 0 = t.getD (k - 2) 0 := by
        obtain ⟨j, rfl⟩ : ∃ j, k = j + 2 := ⟨k - 2, by omega⟩
        simp
      rw [hx] at hc z0 z1
      clear hx
      generalize hx : t.getD (k - 2) 0 = x at hc z0 z1
      have Hx := hide hx
      clear hx
      go_wp2_with (go_at_call 57; refine (RClass_any _ _ z0 z1).mono ?_; rintro e w' ⟨rfl, rfl⟩)
      · go_ret
        exact ⟨ret_bool (all_not (k := k - 2) (by have := unhide Hlen; omega) (by rw [unhide Hx, isTail_cls]; simp [*])).symm, _, rfl⟩
      · refine ⟨⟨k + 1, by omega, by omega, by go_num, fun j hj => ?_⟩, by simp [intOf]; omega⟩
        by_cases hjk : j + 2 < k
        · exact unhide Hall j hjk
        · obtain rfl : j = k - 2 := by omega
          rw [unhide Hx, isTail_cls]; simp [*]
    · go_wp2
      go_ret
      exact ⟨ret_bool (all_upto (fun j hj => unhide Hall j (by have := unhide Hlen; omega))).symm, _, rfl⟩

theorem Begins_at (a0 : Option Addr) (cap : Nat) (l : List Int) (w : World) (hm : l.length ≤ maxLen) (hB : Bs w a0 l) :
    Calls Tryd.prog 58 #[.slice a0 l.length cap] w fun e w' => e = .returned (.bool (begins l)) ∧ ∃ n, w' = w.drewN n := by
  match l with
  | [] => exact (Begins_none a0 cap w).mono fun e w' ⟨h1, h2⟩ => ⟨h1, 0, h2⟩
  | a :: r =>
    rcases hB with h | ⟨g, off, rfl, hL⟩
    · cases h
    by_cases h : need a < (r.length : Int) + 1
    · rw [begins_long h]
      exact (Begins_long g off cap a r w hm hL h).mono fun e w' ⟨h1, h2⟩ => ⟨h1, 0, h2⟩
    · match r with
      | [] =>
        have h1 : 1 ≤ need a := by simp at h; omega
        rw [begins_one h1]
        exact (Begins_one g off cap a w hL h1).mono fun e w' ⟨h1, h2⟩ => ⟨h1, 0, h2⟩
      | b :: t =>
        have h2 : (t.length : Int) + 2 ≤ need a := by simp only [List.length_cons] at h; omega
        rw [begins_more h2]
        cases hs : sec a b with
        | false => exact Begins_no g off cap a b t w hm hL h2 hs
        | true => exact Begins_more g off cap a b t w hm hL h2 hs

theorem begins_whole {a : Int} {r : List Int} : (begins (a :: r) && ((r.length : Int) + 1 == need a)) = whole (a :: r) := by
  by_cases h : (r.length : Int) + 1 = need a
  · have h1 : ((r.length : Int) + 1 == need a) = true := beq_iff_eq.2 h
    rw [h1, Bool.and_true]
    simp only [begins, whole, h, Int.le_refl, decide_true, Bool.true_and]
    cases r <;> rfl
  · have h1 : ((r.length : Int) + 1 == need a) = false := beq_eq_false_iff_ne.2 h
    rw [h1, Bool.and_false, whole_len h]

set_option maxHeartbeats 400000 in
theorem RWhole_some (g off cap : Nat) (a : Int) (r : List Int) (w : World) (hm : r.length + 1 ≤ maxLen) (hL : Lies w g off (a :: r)) :
    Calls Tryd.prog 48 #[.slice (some ⟨g, off, none⟩) (r.length + 1) cap] w fun e w' => e = .returned (.bool (begins (a :: r) && ((r.length : Int) + 1 == need a))) ∧ ∃ n, w' = w.drewN n := by
  have hw := Begins_at (some ⟨g, off, none⟩) cap (a :: r) w hm (Or.inr ⟨g, off, rfl, hL⟩)
  simp only [List.length_cons] at hw
  obtain ⟨hc, x0, x1⟩ := hL.head
  unfold maxLen at hm
  cases hb : begins (a :: r) with
  | false =>
    rw [hb] at hw
    have HW := hide hw
    clear hw hb
    go_enter Tryd.func48, Tryd.ntmps48
    go_wp2_with (go_at_call 58; refine (unhide HW).mono ?_; rintro e w' ⟨rfl, n, rfl⟩)
    go_ret
    exact ⟨rfl, _, rfl⟩
  | true =>
    rw [hb] at hw
    have HW := hide hw
    clear hw hb
    go_enter Tryd.func48, Tryd.ntmps48
    go_wp2_with (first
      | (go_at_call 58; refine (unhide HW).mono ?_; rintro e w' ⟨rfl, n, rfl⟩)
      | (go_at_call 47; refine (RNeed_any _ _ x0 x1).mono ?_; rintro e w' ⟨rfl, rfl⟩))
    go_ret
    exact ⟨rfl, _, rfl⟩

theorem RWhole_none (a0 : Option Addr) (cap : Nat) (w : World) :
    Calls Tryd.prog 48 #[.slice a0 0 cap] w fun e w' => e = .returned (.bool false) ∧ w' = w := by
  go_enter Tryd.func48, Tryd.ntmps48
  go_wp2_with (go_at_call 58; refine (Begins_none a0 cap w).mono ?_; rintro e w' ⟨rfl, rfl⟩)
  go_ret
  exact ⟨rfl, rfl⟩

theorem RWhole_at (a0 : Option Addr) (cap : Nat) (l : List Int) (w : World) (hm : l.length ≤ maxLen) (hB : Bs w a0 l) :
    Calls Tryd.prog 48 #[.slice a0 l.length cap] w fun e w' => e = .returned (.bool (whole l)) ∧ ∃ n, w' = w.drewN n := by
  match l with
  | [] => exact (RWhole_none a0 cap w).mono fun e w' ⟨h1, h2⟩ => ⟨h1, 0, h2⟩
  | a :: r =>
    rcases hB with h | ⟨g, off, rfl, hL⟩
    · cases h
    rw [← begins_whole]
    exact RWhole_some g off cap a r w hm hL

end Go.Proofs.YtdmkgocddikobaaDoor
