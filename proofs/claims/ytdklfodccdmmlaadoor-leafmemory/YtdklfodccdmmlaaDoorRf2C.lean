/- The document's answer for layer 2: Inside, Of, Edge, At, Before, Floor, Ceil. -/
import Derived.Test.YtdklfodccdmmlaaDoorRf2P
namespace Go.Proofs.YtdklfodccdmmlaaDoor
open Go.ChangeShapes Go.WideShapes Go.ChangeAt Go.RowKit

theorem inside_f {l : List Int} {p : Nat} (hno : ∀ j, 1 ≤ j → j ≤ 3 → j ≤ p → ¬ j < lng (l.drop (p - j))) : inside l p = false := by
  have := flr_no hno
  rwa [flr_inside] at this
theorem inside_t {l : List Int} {q k : Nat} (h1 : 1 ≤ k) (h : k < lng (l.drop q)) : inside l (q + k) = true := (inside_iff _ _).2 ⟨q, by omega, by omega⟩

set_option maxHeartbeats 400000 in
theorem Inside_at (a0 : Option Addr) (cap p : Nat) (l : List Int) (w : World) (hB : IsB w a0 cap l) (hp : p ≤ l.length) :
    Calls Tryd.prog 15 #[.slice a0 l.length cap, .int .i64 p] w fun e w' => e = .returned (.bool (inside l p)) ∧ w' = w := by
  have hl : l.length ≤ 140737488351232 := by obtain ⟨h1, h2, _⟩ := hB; omega
  go_enter Tryd.func15, Tryd.ntmps15
  go_wp2
  go_loop [5] (fun i => ∃ k : Nat, 1 ≤ k ∧ k ≤ 4 ∧ i = .int .i64 k ∧ (∀ j, 1 ≤ j → j < k → j ≤ p → ¬ j < lng (l.drop (p - j)))) (fun i => 4 - (intOf i).toNat)
  case atStart => exact ⟨1, by omega, by omega, rfl, fun j h1 h2 => absurd h1 (by omega)⟩
  case round =>
    obtain ⟨k, hk1, hk4, rfl, hno⟩ := hrel
    have Hno := hide hno
    clear hno
    by_cases hk3 : k ≤ 3
    · by_cases hkp : k ≤ p
      · obtain ⟨q, hq⟩ : ∃ q, p = q + k := ⟨p - k, by omega⟩
        have hqk : (p : Int) - (k : Int) = (q : Int) := by omega
        have hql : q ≤ l.length := by omega
        have hpq : p - k = q := by omega
        have d0 : decide (0 ≤ (q : Int)) = true := decide_eq_true (by omega)
        by_cases hlk : k < lng (l.drop q)
        · have HE : Hid (inside l p = true) := hide (by rw [hq]; exact inside_t hk1 hlk)
          clear hq hpq
          go_wp2_with (go_at_call 21; refine (Long_at a0 cap q l _ hB hql).mono ?_; rintro e w' ⟨rfl, rfl⟩)
          all_goals go_ret
          all_goals exact ⟨ret_bool (unhide HE).symm, rfl⟩
        · have HK := hide hlk
          have HP := hide hpq
          clear hq hpq
          go_wp2_with (go_at_call 21; refine (Long_at a0 cap q l _ hB hql).mono ?_; rintro e w' ⟨rfl, rfl⟩)
          refine ⟨⟨k + 1, by omega, by omega, by go_num, fun j h1 h2 h3 => ?_⟩, by simp [intOf]; omega⟩
          by_cases hj : j = k
          · subst hj; rw [unhide HP]; exact unhide HK
          · exact unhide Hno j h1 (by omega) h3
      · have hneg : (p : Int) - (k : Int) < 0 := by omega
        have d0 : decide (0 ≤ (p : Int) - (k : Int)) = false := decide_eq_false (by omega)
        go_wp2
        refine ⟨⟨k + 1, by omega, by omega, by go_num, fun j h1 h2 h3 => ?_⟩, by simp [intOf]; omega⟩
        exact unhide Hno j h1 (by omega) h3
    · have HE : Hid (inside l p = false) := hide (inside_f (fun j h1 h2 h3 => unhide Hno j h1 (by omega) h3))
      go_wp2
      all_goals go_ret
      all_goals exact ⟨ret_bool (unhide HE).symm, rfl⟩

theorem Inside_is (a0 : Option Addr) (cap p : Nat) (l : List Int) {v : Bool} (w : World) (hB : IsB w a0 cap l) (hp : p ≤ l.length) (h : inside l p = v) :
    Calls Tryd.prog 15 #[.slice a0 l.length cap, .int .i64 p] w fun e w' => e = .returned (.bool v) ∧ w' = w := by
  subst h
  exact Inside_at a0 cap p l w hB hp

/-- where an encoding begins, its parts -/
theorem lng_parts {l : List Int} {p n : Nat} (h : lng (l.drop p) = n + 1) : ∃ a r, l.drop p = a :: r ∧ need a = ((n + 1 : Nat) : Int) ∧ whole (a :: r.take n) = true ∧ n ≤ r.length := by
  cases hd : l.drop p with
  | nil => rw [hd] at h; simp [lng] at h
  | cons a r =>
    rw [hd] at h
    have hlen := lng_len (a :: r)
    rw [h] at hlen
    simp only [lng] at h
    split at h
    · rename_i hw
      have := need_lo a
      rw [h, List.take_succ_cons] at hw
      refine ⟨a, r, rfl, by omega, hw, by simpa using hlen⟩
    · omega
theorem stp_bad {l : List Int} (h : lng l = 0) : stp l = stepV 65533 1 false := by
  cases l with
  | nil => simp [stp, wid, whl, first, lng]
  | cons a r =>
    have hw : wid (a :: r) = 1 := by rw [wid_lng, if_pos h]
    have hf : (first (a :: r)).1 = 65533 := by
      simp only [first]
      split
      · rename_i hw
        simp only [lng, if_pos hw] at h
        rw [h] at hw
        cases hw
      · rfl
    simp [stp, hw, hf, whl, h]
theorem stp_whole {l : List Int} {a : Int} {r : List Int} {n : Nat} (hl : l = a :: r) (hn : need a = ((n + 1 : Nat) : Int)) (hw : whole (a :: r.take n) = true) : stp l = stepV (fold (lead a) (r.take n)) (n + 1) true := by
  subst hl
  have e : (a :: r).take (need a).toNat = a :: r.take n := by rw [hn]; rfl
  have hl : lng (a :: r) = n + 1 := by
    show (if whole ((a :: r).take (need a).toNat) = true then (need a).toNat else 0) = n + 1
    rw [e, if_pos hw, hn]; rfl
  have hv : first (a :: r) = (fold (lead a) (r.take n), n + 1) := by
    show (if whole ((a :: r).take (need a).toNat) = true then (value ((a :: r).take (need a).toNat), (need a).toNat) else (65533, 1)) = _
    rw [e, if_pos hw, hn, value_yes hw]; rfl
  simp [stp, wid, whl, hl, hv]

set_option maxHeartbeats 1000000 in
theorem Of_whole (g off cap p n : Nat) (l : List Int) (a : Int) (r : List Int) (w : World) (hB : IsB w (some ⟨g, off, none⟩) cap l) (hL : Lies w g off l) (hg : g < w.heap.size) (hp : p < l.length) (hd : l.drop p = a :: r)
    (hn : need a = ((n + 1 : Nat) : Int)) (hw : whole (a :: r.take n) = true) (hnr : n ≤ r.length) (hlg : lng (l.drop p) = n + 1) :
    Calls Tryd.prog 39 #[.slice (some ⟨g, off, none⟩) l.length cap, .int .i64 p] w fun e w' => e = .returned (stepV (fold (lead a) (r.take n)) (n + 1) true) ∧ Below w.heap.size w w' := by
  have hl : l.length ≤ 140737488351232 := by obtain ⟨h1, h2, _⟩ := hB; omega
  have hlen : p + (r.length + 1) = l.length := by have := congrArg List.length hd; simp at this; omega
  have hbyte : ∀ k, k ≤ r.length → l.getD (p + k) 0 = (a :: r).getD k 0 := fun k _ => by rw [← getD_drop', hd]
  have n4 := need_hi a
  have hft : (((r.take n).length : Nat) : Int) + 1 = need a := by rw [hn, List.length_take]; omega
  obtain ⟨hc0, x0, x1⟩ := hL p hp
  have e0 : l.getD p 0 = a := by have := hbyte 0 (by omega); simpa using this
  rw [e0] at hc0 x0 x1
  have hbnd := fold_wide (a := a) (r := r.take n) x0 hft
  have hsm := fun k hk => fold_small (a := a) (r := r.take n) hft k hk
  have hBn := hB.below ((Below.refl _ w).alloc (Nat.le_refl _) (.cells #[.int .i32 0, .int .i64 0, .bool false] 64)) (Nat.le_refl _)
  have hLn : Lies (w.alloc (.cells #[.int .i32 0, .int .i64 0, .bool false] 64)) g off l := hL.below ((Below.refl _ w).alloc (Nat.le_refl _) _) hg
  have HL := hide hlg
  have hne : ((n : Int) + 1 == 0) = false := by rw [beq_eq_false_iff_ne]; omega
  have hw' := hide hw
  have hlead : (((n : Int) + 1 == 2) = true ∧ lead a = a % 32) ∨ (((n : Int) + 1 == 2) = false ∧ ((n : Int) + 1 == 3) = true ∧ lead a = a % 16) ∨ (((n : Int) + 1 == 2) = false ∧ ((n : Int) + 1 == 3) = false ∧ ((n : Int) + 1 == 4) = true ∧ lead a = a % 8) ∨ (((n : Int) + 1 == 2) = false ∧ ((n : Int) + 1 == 3) = false ∧ ((n : Int) + 1 == 4) = false ∧ lead a = a) := by
    have : n = 0 ∨ n = 1 ∨ n = 2 ∨ n = 3 := by omega
    rcases this with rfl | rfl | rfl | rfl
    · exact Or.inr (Or.inr (Or.inr ⟨rfl, rfl, rfl, lead_1 (by omega) (by omega) (by omega)⟩))
    · exact Or.inl ⟨rfl, lead_2 hn⟩
    · exact Or.inr (Or.inl ⟨rfl, rfl, lead_3 hn⟩)
    · exact Or.inr (Or.inr (Or.inl ⟨rfl, rfl, rfl, lead_4 hn⟩))
  have Hn := hide hn
  have Hft := hide hft
  clear hn hft hw hlg hd e0
  rcases hlead with ⟨d2, hle⟩ | ⟨d2, d3, hle⟩ | ⟨d2, d3, d4, hle⟩ | ⟨d2, d3, d4, hle⟩
  all_goals
    have Hle := hide hle
    clear hle
    go_enter Tryd.func39, Tryd.ntmps39
    go_wp2_with (go_at_call 21; refine (Long_at _ cap p l _ hBn (by omega)).mono ?_; rw [unhide HL]; rintro e w' ⟨rfl, rfl⟩)
    go_loop [6, 7] (fun v i => ∃ k : Nat, k ≤ n ∧ i = .int .i64 ((k : Int) + 1) ∧ v = .int .i64 (fold (lead a) ((r.take n).take k))) (fun _ i => n + 1 - (intOf i).toNat)
    case atStart => exact ⟨0, by omega, rfl, by rw [List.take_zero, fold, unhide Hle]⟩
    case round =>
      obtain ⟨k, hk, rfl, rfl⟩ := hrel
      by_cases hlt : k < n
      · obtain ⟨hc, y0, y1⟩ := hLn (p + (k + 1)) (by omega)
        have e1 : l.getD (p + (k + 1)) 0 = (r.take n).getD k 0 := by
          rw [hbyte (k + 1) (by omega), List.getD_cons_succ]
          simp [List.getD, hlt]
        rw [e1] at hc y0 y1
        have hfk := fold_take (lead a) (r.take n) k (by simp; omega)
        obtain ⟨b0, b1⟩ := hsm k (by simp; omega)
        have HFK := hide hfk
        clear hfk e1
        generalize hv : fold (lead a) ((r.take n).take k) = v at b0 b1 ⊢
        have HV := hide hv
        clear hv
        generalize hy : (r.take n).getD k 0 = y at hc y0 y1
        have HY := hide hy
        clear hy
        have hpk : (p : Int) + ((k : Int) + 1) < (l.length : Int) := by omega
        go_wp2
        exact ⟨⟨k + 1, by omega, by go_num, by rw [unhide HFK, unhide HV, unhide HY]⟩, by simp [intOf]; omega⟩
      · obtain rfl : k = n := by omega
        rw [List.take_of_length_le (show (r.take k).length ≤ k by simp; omega)]
        generalize hv : fold (lead a) (r.take k) = v at hbnd ⊢
        obtain ⟨b0, b1⟩ := hbnd
        go_wp2
        exact bodyPost_ret (v := stepV v (k + 1) true) (by simp [results, Tryd.results39, go_sem, stepV]) rfl ⟨rfl, (Below.refl _ _).alloc (Nat.le_refl _) _⟩

end Go.Proofs.YtdklfodccdmmlaaDoor
