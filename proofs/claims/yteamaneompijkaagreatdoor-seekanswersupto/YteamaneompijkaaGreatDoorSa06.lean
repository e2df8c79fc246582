/- Contracts of the document's answer: Begins, Whole, Value, Is and Bytes of layer 1, over a []byte that lies in memory: each answers by the plain functions; they only draw, and Bytes answers in new memory. · Scanning in plain functions: what is told and held behind each byte; it is the steps of all bytes, whatever the pieces. -/
import Derived.Test.YteamaneompijkaaGreatDoorSa01
import Derived.Test.YteamaneompijkaaGreatDoorSa05
namespace Go.Proofs.YteamaneompijkaaGreatDoor
open Go.ChangeShapes Go.WideShapes Go.ChangeAt Go.RowKit
set_option maxRecDepth 100000
set_option maxHeartbeats 8000000
section
def begins : List Int → Bool
  | [] => false
  | a :: r => decide ((r.length : Int) + 1 ≤ need a) && (match r with | [] => true | b :: t => sec a b && t.all isTail)
theorem begins_long {a : Int} {r : List Int} (h : need a < (r.length : Int) + 1) : begins (a :: r) = false := by simp [begins, show ¬ (r.length : Int) + 1 ≤ need a by omega]
theorem begins_one {a : Int} (h : 1 ≤ need a) : begins [a] = true := by simp [begins, h]
theorem begins_more {a b : Int} {t : List Int} (h : (t.length : Int) + 2 ≤ need a) : begins (a :: b :: t) = (sec a b && t.all isTail) := by
  have : ((b :: t).length : Int) + 1 ≤ need a := by simp only [List.length_cons]; omega
  simp only [begins, this, decide_true, Bool.true_and]
theorem RSecond_at (l b : Int) {v : Bool} (w : World) (hl0 : 0 ≤ l) (hl1 : l ≤ 255) (h0 : 0 ≤ b) (h1 : b ≤ 255) (h : sec l b = v) :
    Calls Tryz.prog 128 #[.int .u8 l, .int .u8 b] w fun e w' => e = .returned (.bool v) ∧ w' = w := by
  subst h
  exact RSecond_any l b w hl0 hl1 h0 h1
theorem Begins_none (a0 : Option Addr) (cap : Nat) (w : World) :
    Calls Tryz.prog 110 #[.slice a0 0 cap] w fun e w' => e = .returned (.bool false) ∧ w' = w := by
  go_enter Tryz.func110, Tryz.ntmps110
  go_wp2
  go_ret
  exact ⟨rfl, rfl⟩
theorem Begins_long (g off cap : Nat) (a : Int) (r : List Int) (w : World) (hm : r.length + 1 ≤ maxLen) (hL : Lies w g off (a :: r)) (h : need a < (r.length : Int) + 1) :
    Calls Tryz.prog 110 #[.slice (some ⟨g, off, none⟩) (r.length + 1) cap] w fun e w' => e = .returned (.bool false) ∧ w' = w := by
  unfold maxLen at hm
  obtain ⟨hc, x0, x1⟩ := hL.head
  go_enter Tryz.func110, Tryz.ntmps110
  go_wp2_with (go_at_call 109; refine (RNeed_any _ _ x0 x1).mono ?_; rintro e w' ⟨rfl, rfl⟩)
  go_ret
  exact ⟨rfl, rfl⟩
theorem Begins_one (g off cap : Nat) (a : Int) (w : World) (hL : Lies w g off [a]) (h : 1 ≤ need a) :
    Calls Tryz.prog 110 #[.slice (some ⟨g, off, none⟩) 1 cap] w fun e w' => e = .returned (.bool true) ∧ w' = w := by
  obtain ⟨hc, x0, x1⟩ := hL.head
  have hn : ¬ need a < 1 := by omega
  go_enter Tryz.func110, Tryz.ntmps110
  go_wp2_with (go_at_call 109; refine (RNeed_any _ _ x0 x1).mono ?_; rintro e w' ⟨rfl, rfl⟩)
  go_loop [4] (fun i => i = .int .i64 2) (fun _ => 0)
  case atStart => rfl
  case round =>
    subst hrel
    go_wp2
    go_ret
    exact ⟨rfl, rfl⟩
theorem Begins_no (g off cap : Nat) (a b : Int) (t : List Int) (w : World) (hm : t.length + 2 ≤ maxLen) (hL : Lies w g off (a :: b :: t)) (h : (t.length : Int) + 2 ≤ need a) (hs : sec a b = false) :
    Calls Tryz.prog 110 #[.slice (some ⟨g, off, none⟩) (t.length + 2) cap] w fun e w' => e = .returned (.bool false) ∧ ∃ n, w' = w.drewN n := by
  unfold maxLen at hm
  obtain ⟨hc, x0, x1⟩ := hL.head
  obtain ⟨hd, y0, y1⟩ := hL.tail.head
  have i1 : (1 : Int) < (t.length : Int) + 2 := by omega
  have hz : ((t.length : Int) + 2 == 0) = false := beq_eq_false_iff_ne.2 (by omega)
  have hn : decide (need a < (t.length : Int) + 2) = false := decide_eq_false (by omega)
  have HS := hide hs
  clear hs
  go_enter Tryz.func110, Tryz.ntmps110
  go_wp2_with (go_at_call 109; refine (RNeed_any _ _ x0 x1).mono ?_; rintro e w' ⟨rfl, rfl⟩)
  go_quiet ((go_at_call 128; exact Calls.quiet_of_same (RSecond_at _ _ _ x0 x1 y0 y1 (unhide HS))))
  go_wp2
  go_ret
  exact ⟨rfl, _, rfl⟩
theorem Begins_more (g off cap : Nat) (a b : Int) (t : List Int) (w : World) (hm : t.length + 2 ≤ maxLen) (hL : Lies w g off (a :: b :: t)) (h : (t.length : Int) + 2 ≤ need a) (hs : sec a b = true) :
    Calls Tryz.prog 110 #[.slice (some ⟨g, off, none⟩) (t.length + 2) cap] w fun e w' => e = .returned (.bool (t.all isTail)) ∧ ∃ n, w' = w.drewN n := by
  unfold maxLen at hm
  obtain ⟨hc, x0, x1⟩ := hL.head
  obtain ⟨hd, y0, y1⟩ := hL.tail.head
  generalize hlen : t.length = m at *
  have Hlen := hide hlen
  clear hlen
  have i1 : (1 : Int) < (m : Int) + 2 := by omega
  have hz : ((m : Int) + 2 == 0) = false := beq_eq_false_iff_ne.2 (by omega)
  have hn : decide (need a < (m : Int) + 2) = false := decide_eq_false (by omega)
  have HS := hide hs
  clear hs
  go_enter Tryz.func110, Tryz.ntmps110
  go_wp2_with (go_at_call 109; refine (RNeed_any _ _ x0 x1).mono ?_; rintro e w' ⟨rfl, rfl⟩)
  go_quiet ((go_at_call 128; exact Calls.quiet_of_same (RSecond_at _ _ _ x0 x1 y0 y1 (unhide HS))))
  go_wp2
  go_loop [4] (fun i => ∃ k : Nat, 2 ≤ k ∧ k ≤ m + 2 ∧ i = .int .i64 k ∧ ∀ j, j + 2 < k → isTail (t.getD j 0) = true) (fun i => m + 2 - (intOf i).toNat)
  case atStart => exact ⟨2, by omega, by omega, rfl, fun j hj => absurd hj (by omega)⟩
  case round =>
    obtain ⟨k, hk2, hk, rfl, hall⟩ := hrel
    have Hall := hide hall
    clear hall
    by_cases hlt : k < m + 2
    · obtain ⟨hc, z0, z1⟩ := hL k (by simp only [List.length_cons, unhide Hlen]; exact hlt)
      have hx : (a :: b :: t).getD k 0 = t.getD (k - 2) 0 := by
        obtain ⟨j, rfl⟩ : ∃ j, k = j + 2 := ⟨k - 2, by omega⟩
        simp
      rw [hx] at hc z0 z1
      clear hx
      generalize hx : t.getD (k - 2) 0 = x at hc z0 z1
      have Hx := hide hx
      clear hx
      go_wp2_with (go_at_call 127; refine (RClass_any _ _ z0 z1).mono ?_; rintro e w' ⟨rfl, rfl⟩)
      · go_ret
        exact ⟨ret_bool (all_not (k := k - 2) (by have := unhide Hlen; omega) (by rw [unhide Hx, isTail_cls]; simp [*])).symm, _, rfl⟩
      · refine ⟨⟨k + 1, by omega, by omega, by go_num, fun j hj => ?_⟩, by simp [intOf]; omega⟩
        by_cases hjk : j + 2 < k
        · exact unhide Hall j hjk
        · obtain rfl : j = k - 2 := by omega
          rw [unhide Hx, isTail_cls]; simp [*]
    · go_wp2
      go_ret
      exact ⟨ret_bool (all_upto (fun j hj => unhide Hall j (by have := unhide Hlen; omega))).symm, _, rfl⟩
theorem Begins_at (a0 : Option Addr) (cap : Nat) (l : List Int) (w : World) (hm : l.length ≤ maxLen) (hB : Bs w a0 l) :
    Calls Tryz.prog 110 #[.slice a0 l.length cap] w fun e w' => e = .returned (.bool (begins l)) ∧ ∃ n, w' = w.drewN n := by
  match l with
  | [] => exact (Begins_none a0 cap w).mono fun e w' ⟨h1, h2⟩ => ⟨h1, 0, h2⟩
  | a :: r =>
    rcases hB with h | ⟨g, off, rfl, hL⟩
    · cases h
    by_cases h : need a < (r.length : Int) + 1
    · rw [begins_long h]
      exact (Begins_long g off cap a r w hm hL h).mono fun e w' ⟨h1, h2⟩ => ⟨h1, 0, h2⟩
    · match r with
      | [] =>
        have h1 : 1 ≤ need a := by simp at h; omega
        rw [begins_one h1]
        exact (Begins_one g off cap a w hL h1).mono fun e w' ⟨h1, h2⟩ => ⟨h1, 0, h2⟩
      | b :: t =>
        have h2 : (t.length : Int) + 2 ≤ need a := by simp only [List.length_cons] at h; omega
        rw [begins_more h2]
        cases hs : sec a b with
        | false => exact Begins_no g off cap a b t w hm hL h2 hs
        | true => exact Begins_more g off cap a b t w hm hL h2 hs
theorem begins_whole {a : Int} {r : List Int} : (begins (a :: r) && ((r.length : Int) + 1 == need a)) = whole (a :: r) := by
  by_cases h : (r.length : Int) + 1 = need a
  · have h1 : ((r.length : Int) + 1 == need a) = true := beq_iff_eq.2 h
    rw [h1, Bool.and_true]
    simp only [begins, whole, h, Int.le_refl, decide_true, Bool.true_and]
    cases r <;> rfl
  · have h1 : ((r.length : Int) + 1 == need a) = false := beq_eq_false_iff_ne.2 h
    rw [h1, Bool.and_false, whole_len h]
theorem RWhole_some (g off cap : Nat) (a : Int) (r : List Int) (w : World) (hm : r.length + 1 ≤ maxLen) (hL : Lies w g off (a :: r)) :
    Calls Tryz.prog 85 #[.slice (some ⟨g, off, none⟩) (r.length + 1) cap] w fun e w' => e = .returned (.bool (begins (a :: r) && ((r.length : Int) + 1 == need a))) ∧ ∃ n, w' = w.drewN n := by
  have hw := Begins_at (some ⟨g, off, none⟩) cap (a :: r) w hm (Or.inr ⟨g, off, rfl, hL⟩)
  simp only [List.length_cons] at hw
  obtain ⟨hc, x0, x1⟩ := hL.head
  unfold maxLen at hm
  cases hb : begins (a :: r) with
  | false =>
    rw [hb] at hw
    have HW := hide hw
    clear hw hb
    go_enter Tryz.func85, Tryz.ntmps85
    go_wp2_with (go_at_call 110; refine (unhide HW).mono ?_; rintro e w' ⟨rfl, n, rfl⟩)
    go_ret
    exact ⟨rfl, _, rfl⟩
  | true =>
    rw [hb] at hw
    have HW := hide hw
    clear hw hb
    go_enter Tryz.func85, Tryz.ntmps85
    go_wp2_with (first
      | (go_at_call 110; refine (unhide HW).mono ?_; rintro e w' ⟨rfl, n, rfl⟩)
      | (go_at_call 109; refine (RNeed_any _ _ x0 x1).mono ?_; rintro e w' ⟨rfl, rfl⟩))
    go_ret
    exact ⟨rfl, _, rfl⟩
theorem RWhole_none (a0 : Option Addr) (cap : Nat) (w : World) :
    Calls Tryz.prog 85 #[.slice a0 0 cap] w fun e w' => e = .returned (.bool false) ∧ w' = w := by
  go_enter Tryz.func85, Tryz.ntmps85
  go_wp2_with (go_at_call 110; refine (Begins_none a0 cap w).mono ?_; rintro e w' ⟨rfl, rfl⟩)
  go_ret
  exact ⟨rfl, rfl⟩
theorem RWhole_at (a0 : Option Addr) (cap : Nat) (l : List Int) (w : World) (hm : l.length ≤ maxLen) (hB : Bs w a0 l) :
    Calls Tryz.prog 85 #[.slice a0 l.length cap] w fun e w' => e = .returned (.bool (whole l)) ∧ ∃ n, w' = w.drewN n := by
  match l with
  | [] => exact (RWhole_none a0 cap w).mono fun e w' ⟨h1, h2⟩ => ⟨h1, 0, h2⟩
  | a :: r =>
    rcases hB with h | ⟨g, off, rfl, hL⟩
    · cases h
    rw [← begins_whole]
    exact RWhole_some g off cap a r w hm hL
end
section
def tri (l : List Int) : Tri := ((first l).1, wid l, whl l)
def stepsL (l : List Int) : List Tri := (spots l 0).map fun p => tri (l.drop p)
theorem stepsL_nil : stepsL [] = [] := by simp [stepsL, spots_end (l := []) (p := 0) (by simp)]
theorem steps_from : ∀ (n : Nat) (l : List Int) (p : Nat), l.length - p ≤ n → (spots l p).map (fun q => tri (l.drop q)) = stepsL (l.drop p)
  | n, l, p, hn => by
    by_cases hp : p < l.length
    · obtain ⟨k, rfl⟩ : ∃ k, n = k + 1 := ⟨n - 1, by omega⟩
      have hw := wid_pos hp
      have hm : 0 < (l.drop p).length := by simp; omega
      have h1 := steps_from k l (p + wid (l.drop p)) (by omega)
      have h2 := steps_from k (l.drop p) (wid (l.drop p)) (by simp; omega)
      rw [spots_cons hp, stepsL, spots_cons hm]
      simp only [List.map_cons, List.drop_zero, Nat.zero_add]
      rw [h1, h2, List.drop_drop]
    · rw [spots_end hp, List.drop_of_length_le (by omega), stepsL_nil]; rfl
theorem stepsL_cons {l : List Int} (h : 0 < l.length) : stepsL l = tri l :: stepsL (l.drop (wid l)) := by
  have h2 := steps_from l.length l (wid l) (by omega)
  conv => lhs; rw [stepsL, spots_cons h]
  simp only [List.map_cons, List.drop_zero, Nat.zero_add]
  rw [h2]
theorem lng_zero {a : Int} {r : List Int} (h : whole ((a :: r).take (need a).toNat) = false) : lng (a :: r) = 0 := by simp [lng, h]
theorem tri_bad {a : Int} {r : List Int} (h : lng (a :: r) = 0) : tri (a :: r) = badT ∧ wid (a :: r) = 1 := by
  have hw : wid (a :: r) = 1 := by rw [wid_lng, if_pos h]
  have hf : (first (a :: r)).1 = 65533 := by
    simp only [first]
    split
    · rename_i hw
      simp only [lng, if_pos hw] at h
      rw [h] at hw
      cases hw
    · rfl
  exact ⟨by simp [tri, badT, hw, hf, whl, h], hw⟩
theorem steps_bad {a : Int} {r : List Int} (h : lng (a :: r) = 0) : stepsL (a :: r) = badT :: stepsL r := by
  rw [stepsL_cons (by simp), (tri_bad h).1, (tri_bad h).2]; rfl
theorem steps_whole {h c : List Int} (hw : whole h = true) : stepsL (h ++ c) = (value h, h.length, true) :: stepsL c := by
  cases h with
  | nil => cases hw
  | cons a r =>
    have hn := whole_need hw
    have e : (a :: (r ++ c)).take (need a).toNat = a :: r := by
      rw [← hn, show ((r.length : Int) + 1).toNat = r.length + 1 by omega]; simp
    have hl : lng (a :: (r ++ c)) = r.length + 1 := by
      show (if whole ((a :: (r ++ c)).take (need a).toNat) = true then (need a).toNat else 0) = _
      rw [e, if_pos hw]; omega
    have hv : first (a :: (r ++ c)) = (value (a :: r), r.length + 1) := by
      show (if whole ((a :: (r ++ c)).take (need a).toNat) = true then (value ((a :: (r ++ c)).take (need a).toNat), (need a).toNat) else (65533, 1)) = _
      rw [e, if_pos hw, show (need a).toNat = r.length + 1 by omega]
    rw [List.cons_append, stepsL_cons (by simp)]
    simp [tri, wid, whl, hl, hv]
def prop (h : List Int) : Bool := begins h && !whole h
theorem prop_1 {a : Int} (h : 2 ≤ need a) : prop [a] = true := by
  rw [prop, begins_one (by omega), whole_len (by simp; omega)]; rfl
theorem prop_2 {a b : Int} (h : 3 ≤ need a) (hs : sec a b = true) : prop [a, b] = true := by
  rw [prop, begins_more (by simp; omega), whole_len (by simp; omega), hs]; rfl
theorem prop_3 {a b c : Int} (h : need a = 4) (hs : sec a b = true) (ht : isTail c = true) : prop [a, b, c] = true := by
  rw [prop, begins_more (by simp; omega), whole_len (by simp; omega), hs]; simp [ht]
theorem prop_cases {h : List Int} (hp : prop h = true) : (∃ a, h = [a] ∧ 2 ≤ need a) ∨ (∃ a b, h = [a, b] ∧ 3 ≤ need a ∧ sec a b = true) ∨ (∃ a b c, h = [a, b, c] ∧ need a = 4 ∧ sec a b = true ∧ isTail c = true) := by
  simp only [prop, Bool.and_eq_true, Bool.not_eq_true'] at hp
  obtain ⟨hb, hw⟩ := hp
  cases h with
  | nil => cases hb
  | cons a r =>
    have hle : (r.length : Int) + 1 ≤ need a := by
      simp only [begins, Bool.and_eq_true, decide_eq_true_eq] at hb; exact hb.1
    have hne : ¬ (r.length : Int) + 1 = need a := fun e => by
      have := @begins_whole a r
      rw [hw, hb, beq_iff_eq.2 e] at this
      cases this
    have hn := need_hi a
    match r, hle, hne, hb with
    | [], hle, hne, _ => exact Or.inl ⟨a, rfl, by simp at hle hne; omega⟩
    | [b], hle, hne, hb =>
      simp at hle hne
      rw [begins_more (by simp; omega)] at hb
      simp at hb
      exact Or.inr (Or.inl ⟨a, b, rfl, by omega, hb⟩)
    | [b, c], hle, hne, hb =>
      simp at hle hne
      rw [begins_more (by simp; omega)] at hb
      simp at hb
      exact Or.inr (Or.inr ⟨a, b, c, rfl, by omega, hb.1, hb.2⟩)
    | b :: c :: d :: t, hle, hne, _ => simp at hle hne; omega
theorem prop_len {h : List Int} (hp : prop h = true) : 1 ≤ h.length ∧ h.length ≤ 3 := by
  rcases prop_cases hp with ⟨a, rfl, _⟩ | ⟨a, b, rfl, _⟩ | ⟨a, b, c, rfl, _⟩ <;> simp
def fits : List Int → Int → Bool
  | [], _ => false
  | [a], x => sec a x
  | _, x => isTail x
def one (x : Int) : List Tri × List Int := if need x = 0 then ([badT], []) else if need x = 1 then ([(value [x], 1, true)], []) else ([], [x])
def stepS (h : List Int) (x : Int) : List Tri × List Int :=
  if h = [] then one x else if fits h x then (if need (h.getD 0 0) = (h.length : Int) + 1 then ([(value (h ++ [x]), h.length + 1, true)], []) else ([], h ++ [x]))
  else (List.replicate h.length badT ++ (one x).1, (one x).2)
def scanS : List Int → List Int → List Tri × List Int
  | h, [] => ([], h)
  | h, x :: b => ((stepS h x).1 ++ (scanS (stepS h x).2 b).1, (scanS (stepS h x).2 b).2)
theorem sec_tail {a b : Int} (h : sec a b = true) : isTail b = true := by
  simp only [sec, decide_eq_true_eq] at h
  simp only [isTail, decide_eq_true_eq]
  omega
theorem whole_inv {a b : Int} {t : List Int} (h : whole (a :: b :: t) = true) : (t.length : Int) + 2 = need a ∧ sec a b = true ∧ t.all isTail = true := by
  have hn := whole_need h
  simp only [List.length_cons] at hn
  have hn' : (t.length : Int) + 2 = need a := by omega
  rw [whole_more hn'] at h
  simp only [Bool.and_eq_true] at h
  exact ⟨hn', h.1, h.2⟩
theorem steps_broken {h c : List Int} {x : Int} (hp : prop h = true) (hf : fits h x = false) : stepsL (h ++ x :: c) = List.replicate h.length badT ++ stepsL (x :: c) := by
  rcases prop_cases hp with ⟨a, rfl, hn⟩ | ⟨a, b, rfl, hn, hs⟩ | ⟨a, b, d, rfl, hn, hs, ht⟩
  · simp only [fits] at hf
    have h0 : lng (a :: x :: c) = 0 := lng_zero (by
      obtain ⟨k, hk⟩ : ∃ k : Nat, (need a).toNat = k + 2 := ⟨(need a).toNat - 2, by omega⟩
      rw [hk]
      refine Bool.eq_false_iff.2 fun hw => ?_
      have := (whole_inv hw).2.1
      rw [hf] at this; cases this)
    simp [steps_bad h0]
  · simp only [fits] at hf
    have h0 : lng (a :: b :: x :: c) = 0 := lng_zero (by
      obtain ⟨k, hk⟩ : ∃ k : Nat, (need a).toNat = k + 3 := ⟨(need a).toNat - 3, by omega⟩
      rw [hk]
      refine Bool.eq_false_iff.2 fun hw => ?_
      have := (whole_inv hw).2.2
      simp [hf] at this)
    have h1 : lng (b :: x :: c) = 0 := lng_of_tail (by simpa using sec_tail hs)
    simp [steps_bad h0, steps_bad h1]
  · simp only [fits] at hf
    have h0 : lng (a :: b :: d :: x :: c) = 0 := lng_zero (by
      rw [hn]
      refine Bool.eq_false_iff.2 fun hw => ?_
      have := (whole_inv hw).2.2
      simp [hf] at this)
    have h1 : lng (b :: d :: x :: c) = 0 := lng_of_tail (by simpa using sec_tail hs)
    have h2 : lng (d :: x :: c) = 0 := lng_of_tail (by simpa using ht)
    simp [steps_bad h0, steps_bad h1, steps_bad h2, List.replicate]
theorem steps_prop {h : List Int} (hp : prop h = true) : stepsL h = List.replicate h.length badT := by
  rcases prop_cases hp with ⟨a, rfl, hn⟩ | ⟨a, b, rfl, hn, hs⟩ | ⟨a, b, d, rfl, hn, hs, ht⟩
  · have h0 : lng [a] = 0 := lng_zero (by rw [List.take_of_length_le (by simp; omega)]; exact whole_len (by simp; omega))
    simp [steps_bad h0, stepsL_nil]
  · have h0 : lng [a, b] = 0 := lng_zero (by rw [List.take_of_length_le (by simp; omega)]; exact whole_len (by simp; omega))
    have h1 : lng [b] = 0 := lng_of_tail (by simpa using sec_tail hs)
    simp [steps_bad h0, steps_bad h1, stepsL_nil]
  · have h0 : lng [a, b, d] = 0 := lng_zero (by rw [List.take_of_length_le (by simp; omega)]; exact whole_len (by simp; omega))
    have h1 : lng [b, d] = 0 := lng_of_tail (by simpa using sec_tail hs)
    have h2 : lng [d] = 0 := lng_of_tail (by simpa using ht)
    simp [steps_bad h0, steps_bad h1, steps_bad h2, stepsL_nil, List.replicate]
end
end Go.Proofs.YteamaneompijkaaGreatDoor
