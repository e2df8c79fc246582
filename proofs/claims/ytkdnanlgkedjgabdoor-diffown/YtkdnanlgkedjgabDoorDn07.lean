/- Contracts of step.bad, step.first, step.floor: the step with which bytes begin; the last edge at or ahead of a place. -/
import Derived.Test.YtkdnanlgkedjgabDoorDn03
import Derived.Test.YtkdnanlgkedjgabDoorDn06

namespace Go.Proofs.YtkdnanlgkedjgabDoor
open Go.ChangeShapes Go.WideShapes Go.ChangeAt Go.RowKit

def stepV (r : Int) (n : Nat) (b : Bool) : Value := .agg #[.int .i32 r, .int .i64 n, .bool b]
def whl (l : List Int) : Bool := decide (lng l ≠ 0)
def stp (l : List Int) : Value := stepV (first l).1 (wid l) (whl l)

theorem bad_any (w : World) :
    Calls Tryd.prog 73 #[] w fun e w' => e = .returned (stepV 65533 1 false) ∧ Below w.heap.size w w' := by
  go_enter Tryd.func73, Tryd.ntmps73
  go_wp2
  exact bodyPost_ret (v := stepV 65533 1 false) (by simp [results, Tryd.results73, go_sem, stepV]) rfl ⟨rfl, (Below.refl _ _).alloc (Nat.le_refl _) _⟩

theorem Lies.take {w : World} {g off : Nat} {l : List Int} (h : Lies w g off l) (n : Nat) : Lies w g off (l.take n) := by
  intro i hi
  have h1 : i < l.length := by simp at hi; omega
  have h2 : i < n := by simp at hi; omega
  have e : (l.take n).getD i 0 = l.getD i 0 := by simp [List.getD, h2]
  rw [e]
  exact h i h1
theorem Lies.drop {w : World} {g off : Nat} {l : List Int} (h : Lies w g off l) (n : Nat) : Lies w g (off + n) (l.drop n) := by
  intro i hi
  have h1 : n + i < l.length := by simp at hi; omega
  have e : (l.drop n).getD i 0 = l.getD (n + i) 0 := by simp [List.getD]
  rw [e, Nat.add_assoc]
  exact h (n + i) h1
theorem WholeN (g off cap n : Nat) (l : List Int) {v : Bool} (w : World) (hn : n ≤ l.length) (hm : l.length ≤ maxLen) (hcap : l.length ≤ cap) (hL : Lies w g off l) (hT : Tab w) (hv : whole (l.take n) = v) :
    Calls Tryd.prog 72 #[.slice (some ⟨g, off, none⟩) n cap] w fun e w' => e = .returned (.bool v) ∧ Below w.heap.size w w' := by
  have := Whole_at (some ⟨g, off, none⟩) cap (l.take n) w (by simp; omega) (by simp; omega) (Or.inr ⟨g, off, rfl, hL.take n⟩) hT
  rw [List.length_take, Nat.min_eq_left hn, hv] at this
  exact this.mono fun e w' ⟨h1, h2⟩ => ⟨h1, quiet_below h2 _⟩
theorem ValueN (g off cap n : Nat) (l : List Int) {v : Int} (w : World) (hn : n ≤ l.length) (hm : l.length ≤ maxLen) (hcap : l.length ≤ cap) (hL : Lies w g off l) (hT : Tab w) (hv : value (l.take n) = v) :
    Calls Tryd.prog 74 #[.slice (some ⟨g, off, none⟩) n cap] w fun e w' => e = .returned (.int .i32 v) ∧ Below w.heap.size w w' := by
  have := Value_at (some ⟨g, off, none⟩) cap (l.take n) w (by simp; omega) (by simp; omega) (Or.inr ⟨g, off, rfl, hL.take n⟩) hT
  rw [List.length_take, Nat.min_eq_left hn, hv] at this
  exact this.mono fun e w' ⟨h1, h2⟩ => ⟨h1, quiet_below h2 _⟩

theorem need_nat (a : Int) : ∃ n : Nat, need a = n := ⟨(need a).toNat, by have := need_lo a; omega⟩
theorem Lies.size {w : World} {g off : Nat} {a : Int} {r : List Int} (hL : Lies w g off (a :: r)) : g < w.heap.size := by
  have hc := hL.head.1
  rcases Nat.lt_or_ge g w.heap.size with h | h
  · exact h
  · simp [World.cell?, Array.getElem?_eq_none h] at hc
theorem bcell {W w1 : World} (hb : Below W.heap.size W w1) : (∀ b o, b < W.heap.size → w1.cell? ⟨b, o, none⟩ = W.cell? ⟨b, o, none⟩) ∧ (∀ b o, b < W.heap.size → w1.frozen? ⟨b, o, none⟩ = W.frozen? ⟨b, o, none⟩) :=
  ⟨fun b o h => hb.cell (p := ⟨b, o, none⟩) h, fun b o h => hb.frozen (p := ⟨b, o, none⟩) h⟩

theorem stores3 {w W : World} {B : Nat} (hb : Below w.heap.size w W) (hB : w.heap.size ≤ B) (x y z : Value) :
    Below w.heap.size w (((W.setCell ⟨B, 0, none⟩ x).setCell ⟨B, 1, none⟩ y).setCell ⟨B, 2, none⟩ z) :=
  ((hb.setCell (p := ⟨B, 0, none⟩) hB _).setCell (p := ⟨B, 1, none⟩) hB _).setCell (p := ⟨B, 2, none⟩) hB _

set_option maxHeartbeats 400000 in
/-- too short: bad -/
theorem first_s (g off cap : Nat) (a : Int) (r : List Int) (w : World) (hL : Lies w g off (a :: r)) (hT : Tab w) (h : (r.length : Int) + 1 < need a) :
    Calls Tryd.prog 56 #[.slice (some ⟨g, off, none⟩) (r.length + 1) cap] w fun e w' => e = .returned (stepV 65533 1 false) ∧ Below w.heap.size w w' := by
  obtain ⟨hc, x0, x1⟩ := hL.head
  have hg := hL.size
  obtain ⟨n, hn⟩ := need_nat a
  rw [hn] at h
  have hgt : decide ((r.length : Int) + 1 < n) = true := decide_eq_true h
  clear h
  go_enter Tryd.func56, Tryd.ntmps56
  go_wp2_with (first
    | (go_at_call 71; refine (Need_any _ _ x0 x1 (hT.alloc _)).mono ?_; rw [hn]; rintro e w' ⟨rfl, rfl⟩)
    | (go_at_call 73; refine (bad_any _).mono ?_; unfold stepV; rintro e w' ⟨rfl, hb⟩; obtain ⟨hc1, hf1⟩ := bcell hb))
  refine bodyPost_ret (v := stepV 65533 1 false) (by simp [results, Tryd.results56, go_sem, stepV, hc1]) rfl ⟨rfl, ?_⟩
  exact stores3 (((Below.refl _ w).alloc (Nat.le_refl _) _).trans (hb.mono (by simp))) (Nat.le_refl _) _ _ _

set_option maxHeartbeats 400000 in
/-- not whole: bad -/
theorem first_n (g off cap : Nat) (a : Int) (r : List Int) (w : World) (hm : r.length + 1 ≤ maxLen) (hcap : r.length + 1 ≤ cap) (hL : Lies w g off (a :: r)) (hT : Tab w) (h : ¬ (r.length : Int) + 1 < need a)
    (hw : whole ((a :: r).take (need a).toNat) = false) :
    Calls Tryd.prog 56 #[.slice (some ⟨g, off, none⟩) (r.length + 1) cap] w fun e w' => e = .returned (stepV 65533 1 false) ∧ Below w.heap.size w w' := by
  have hm' := hm
  unfold maxLen at hm
  obtain ⟨hc, x0, x1⟩ := hL.head
  have hg := hL.size
  obtain ⟨n, hn⟩ := need_nat a
  rw [hn] at h hw
  have hgt : decide ((r.length : Int) + 1 < n) = false := decide_eq_false h
  have hle : n ≤ r.length + 1 := by omega
  have hnc : n ≤ cap := by omega
  have HW : Hid (whole ((a :: r).take n) = false) := hide hw
  clear h hw
  go_enter Tryd.func56, Tryd.ntmps56
  go_wp2_with (first
    | (go_at_call 71; refine (Need_any _ _ x0 x1 (hT.alloc _)).mono ?_; rw [hn]; rintro e w' ⟨rfl, rfl⟩)
    | (go_at_call 72; refine (WholeN g off cap n (a :: r) _ hle hm' hcap (hL.below ((Below.refl _ _).alloc (Nat.le_refl _) _) hg) (hT.alloc _) (unhide HW)).mono ?_; rintro e w' ⟨rfl, hb⟩; obtain ⟨hc1, hf1⟩ := bcell hb; have hz1 : w.heap.size < w'.heap.size := by have := hb.size; simp at this; omega)
    | (go_at_call 73; refine (bad_any _).mono ?_; unfold stepV; rintro e w'' ⟨rfl, hb2⟩; obtain ⟨hc2, hf2⟩ := bcell hb2))
  refine bodyPost_ret (v := stepV 65533 1 false) (by simp [results, Tryd.results56, go_sem, stepV, hc1, hc2, hz1]) rfl ⟨rfl, ?_⟩
  exact stores3 ((((Below.refl _ w).alloc (Nat.le_refl _) _).trans (hb.mono (by simp))).trans (hb2.mono (by omega))) (Nat.le_refl _) _ _ _

theorem take_cut (a : Int) (r : List Int) {n : Nat} (hn : need a = n) (hw : whole ((a :: r).take n) = true) : n ≤ r.length + 1 := by
  cases n with
  | zero => omega
  | succ m =>
    rw [List.take_succ_cons] at hw
    have := whole_need hw
    simp only [List.length_take] at this
    omega

set_option maxHeartbeats 400000 in
/-- whole -/
theorem first_w (g off cap : Nat) (a : Int) (r : List Int) (w : World) (hm : r.length + 1 ≤ maxLen) (hcap : r.length + 1 ≤ cap) (hL : Lies w g off (a :: r)) (hT : Tab w)
    (hw : whole ((a :: r).take (need a).toNat) = true) :
    Calls Tryd.prog 56 #[.slice (some ⟨g, off, none⟩) (r.length + 1) cap] w fun e w' => e = .returned (stepV (value ((a :: r).take (need a).toNat)) (need a).toNat true) ∧ Below w.heap.size w w' := by
  have hm' := hm
  unfold maxLen at hm
  obtain ⟨hc, x0, x1⟩ := hL.head
  have hg := hL.size
  obtain ⟨n, hn⟩ := need_nat a
  rw [hn, Int.toNat_natCast] at hw ⊢
  have hle := take_cut a r hn hw
  have hgt : decide ((r.length : Int) + 1 < n) = false := decide_eq_false (by omega)
  have hnc : n ≤ cap := by omega
  have HW : Hid (whole ((a :: r).take n) = true) := hide hw
  clear hw
  generalize hv : value ((a :: r).take n) = v
  have HV := hide hv
  clear hv
  go_enter Tryd.func56, Tryd.ntmps56
  go_wp2_with (first
    | (go_at_call 71; refine (Need_any _ _ x0 x1 (hT.alloc _)).mono ?_; rw [hn]; rintro e w' ⟨rfl, rfl⟩)
    | (go_at_call 72; refine (WholeN g off cap n (a :: r) _ hle hm' hcap (hL.below ((Below.refl _ _).alloc (Nat.le_refl _) _) hg) (hT.alloc _) (unhide HW)).mono ?_; rintro e w' ⟨rfl, hb⟩; obtain ⟨hc1, hf1⟩ := bcell hb; have hz1 : w.heap.size < w'.heap.size := by have := hb.size; simp at this; omega)
    | (go_at_call 74
       refine (ValueN g off cap n (a :: r) _ hle hm' hcap (hL.below (((Below.refl _ w).alloc (Nat.le_refl _) _).trans (hb.mono (by simp))) hg) (hT.below (((Below.refl _ w).alloc (Nat.le_refl _) _).trans (hb.mono (by simp))) hT.size) (unhide HV)).mono ?_
       rintro e w'' ⟨rfl, hb2⟩; obtain ⟨hc2, hf2⟩ := bcell hb2))
  refine bodyPost_ret (v := stepV v n true) (by simp [results, Tryd.results56, go_sem, stepV, hc1, hc2, hz1]) rfl ⟨rfl, ?_⟩
  exact stores3 ((((Below.refl _ w).alloc (Nat.le_refl _) _).trans (hb.mono (by simp))).trans (hb2.mono (by omega))) (Nat.le_refl _) _ _ _

theorem first_at (g off cap : Nat) (l : List Int) (w : World) (h0 : 0 < l.length) (hm : l.length ≤ maxLen) (hcap : l.length ≤ cap) (hL : Lies w g off l) (hT : Tab w) :
    Calls Tryd.prog 56 #[.slice (some ⟨g, off, none⟩) l.length cap] w fun e w' => e = .returned (stp l) ∧ Below w.heap.size w w' := by
  match l with
  | a :: r =>
    by_cases h : (r.length : Int) + 1 < need a
    · have e : stp (a :: r) = stepV 65533 1 false := by
        have hw : whole ((a :: r).take (need a).toNat) = false := by
          rw [List.take_of_length_le (by simp; omega), whole_len (by omega)]
        simp only [stp, wid, whl, first, lng, hw]; rfl
      rw [e]
      exact first_s g off cap a r w hL hT h
    · cases hw : whole ((a :: r).take (need a).toNat) with
      | false =>
        have e : stp (a :: r) = stepV 65533 1 false := by simp only [stp, wid, whl, first, lng, hw]; rfl
        rw [e]
        exact first_n g off cap a r w hm hcap hL hT h hw
      | true =>
        have hn : ¬ (need a).toNat = 0 := fun e => by rw [e] at hw; cases hw
        have e : stp (a :: r) = stepV (value ((a :: r).take (need a).toNat)) (need a).toNat true := by simp [stp, wid, whl, first, lng, hw, hn]
        rw [e]
        exact first_w g off cap a r w hm hcap hL hT hw


/-- the same, of the bytes from a place on -/
theorem first_from (g off cap q : Nat) (l : List Int) (w : World) (h0 : q < l.length) (hm : l.length ≤ maxLen) (hcap : l.length ≤ cap) (hL : Lies w g off l) (hT : Tab w) :
    Calls Tryd.prog 56 #[.slice (some ⟨g, off + q, none⟩) (l.length - q) (cap - q)] w fun e w' => e = .returned (stp (l.drop q)) ∧ Below w.heap.size w w' := by
  have := first_at g (off + q) (cap - q) (l.drop q) w (by simp; omega) (by simp; omega) (by simp; omega) (hL.drop q) hT
  rwa [List.length_drop] at this

theorem fld0 (a b c : Value) (w : World) : (Instr.field 96 (.agg #[a, b, c]) 0).run Tryd.prog w = .ok a w := by kernel_rfl
theorem fld1 (a b c : Value) (w : World) : (Instr.field 96 (.agg #[a, b, c]) 1).run Tryd.prog w = .ok b w := by kernel_rfl
theorem fld2 (a b c : Value) (w : World) : (Instr.field 96 (.agg #[a, b, c]) 2).run Tryd.prog w = .ok c w := by kernel_rfl

/-- the last edge at or ahead of a place -/
def flr (l : List Int) (p : Nat) : Nat :=
  if 1 ≤ p ∧ 1 < lng (l.drop (p - 1)) then p - 1 else if 2 ≤ p ∧ 2 < lng (l.drop (p - 2)) then p - 2 else if 3 ≤ p ∧ 3 < lng (l.drop (p - 3)) then p - 3 else p
theorem flr_at {l : List Int} {p k : Nat} (h1 : 1 ≤ k) (hk : k ≤ p) (hl : k < lng (l.drop (p - k))) (hno : ∀ j, 1 ≤ j → j < k → ¬ j < lng (l.drop (p - j))) : flr l p = p - k := by
  have h4 := lng_le (l.drop (p - k))
  have : k = 1 ∨ k = 2 ∨ k = 3 := by omega
  unfold flr
  rcases this with rfl | rfl | rfl
  · rw [if_pos ⟨by omega, hl⟩]
  · rw [if_neg (fun h => hno 1 (by omega) (by omega) h.2), if_pos ⟨by omega, hl⟩]
  · rw [if_neg (fun h => hno 1 (by omega) (by omega) h.2), if_neg (fun h => hno 2 (by omega) (by omega) h.2), if_pos ⟨by omega, hl⟩]
theorem flr_no {l : List Int} {p : Nat} (hno : ∀ j, 1 ≤ j → j ≤ 3 → j ≤ p → ¬ j < lng (l.drop (p - j))) : flr l p = p := by
  unfold flr
  rw [if_neg (fun h => hno 1 (by omega) (by omega) h.1 h.2), if_neg (fun h => hno 2 (by omega) (by omega) h.1 h.2), if_neg (fun h => hno 3 (by omega) (by omega) h.1 h.2)]
theorem wid_gt {l : List Int} {k : Nat} (h : 1 ≤ k) : (k < wid l) = (k < lng l) := by
  cases l with
  | nil => simp [wid, first, lng]; omega
  | cons a r =>
    rw [wid_lng]
    split
    · rename_i e
      rw [e]
      simp; omega
    · rfl

set_option maxHeartbeats 400000 in
theorem floor_some (g off cap p : Nat) (l : List Int) (w : World) (hp : p ≤ l.length) (h0 : 0 < l.length) (hm : l.length ≤ maxLen) (hcap : l.length ≤ cap) (hL : Lies w g off l) (hT : Tab w) (hg : g < w.heap.size) :
    Calls Tryd.prog 40 #[.slice (some ⟨g, off, none⟩) l.length cap, .int .i64 p] w fun e w' => e = .returned (.int .i64 (flr l p)) ∧ Below w.heap.size w w' := by
  have hm' := hm
  unfold maxLen at hm
  go_enter Tryd.func40, Tryd.ntmps40
  go_wp2
  go_loopw [5] (fun i wr => ∃ k : Nat, 1 ≤ k ∧ k ≤ 4 ∧ i = .int .i64 k ∧ (∀ j, 1 ≤ j → j < k → j ≤ p → ¬ j < lng (l.drop (p - j))) ∧ Below w.heap.size w wr) (fun i _ => 4 - (intOf i).toNat)
  case atStart => exact ⟨1, by omega, by omega, rfl, fun j h1 h2 => absurd h1 (by omega), Below.refl _ _⟩
  case round =>
    obtain ⟨k, hk1, hk4, rfl, hno, hb⟩ := hrel
    have Hno := hide hno
    clear hno
    by_cases hle : k ≤ 3 ∧ k ≤ p
    · obtain ⟨hk3, hkp⟩ := hle
      obtain ⟨q, hq⟩ : ∃ q, p = q + k := ⟨p - k, by omega⟩
      subst hq
      have hqk : ((q + k : Nat) : Int) - (k : Int) = (q : Nat) := by omega
      have hql : q < l.length := by omega
      have hqc : ¬ cap = q := by omega
      have hf := fld1
      by_cases hwk : k < wid (l.drop q)
      · have hwi : (k : Int) < (wid (l.drop q) : Nat) := by omega
        have HE : Hid (flr l (q + k) = q) := hide (by
          have := flr_at (l := l) (p := q + k) (k := k) hk1 (by omega) (by rw [Nat.add_sub_cancel, ← wid_gt hk1]; exact hwk) (fun j h1 h2 => unhide Hno j h1 h2 (by omega))
          rwa [Nat.add_sub_cancel] at this)
        clear hwk
        go_wp2_with (go_at_call 56; refine (first_from g off cap q l _ hql hm' hcap (hL.below hb hg) (hT.below hb hT.size)).mono ?_; unfold stp stepV; rintro e w' ⟨rfl, hb1⟩)
        all_goals go_ret
        all_goals exact ⟨ret_int (by rw [unhide HE]), hb.trans (hb1.mono hb.size)⟩
      · have hwi : ¬ (k : Int) < (wid (l.drop q) : Nat) := by omega
        rw [wid_gt hk1] at hwk
        have HK := hide hwk
        clear hwk
        go_wp2_with (go_at_call 56; refine (first_from g off cap q l _ hql hm' hcap (hL.below hb hg) (hT.below hb hT.size)).mono ?_; unfold stp stepV; rintro e w' ⟨rfl, hb1⟩)
        all_goals
          refine ⟨⟨k + 1, by omega, by omega, by omega, fun j h1 h2 h3 => ?_, hb.trans (hb1.mono hb.size)⟩, by simp [intOf]; omega⟩
          by_cases hj : j = k
          · subst hj; rw [Nat.add_sub_cancel]; exact Nat.le_of_not_lt (unhide HK)
          · exact Nat.le_of_not_lt (unhide Hno j h1 (by omega) h3)
    · have HE : Hid (flr l p = p) := hide (flr_no (fun j h1 h2 h3 => unhide Hno j h1 (by omega) h3))
      by_cases hk3 : k ≤ 3
      · have hkp : ¬ k ≤ p := fun h => hle ⟨hk3, h⟩
        clear hle
        go_wp2
        all_goals go_ret
        all_goals exact ⟨ret_int (by rw [unhide HE]), hb⟩
      · clear hle
        go_wp2
        all_goals go_ret
        all_goals exact ⟨ret_int (by rw [unhide HE]), hb⟩

set_option maxHeartbeats 400000 in
theorem floor_zero (a0 : Option Addr) (n cap : Nat) (w : World) :
    Calls Tryd.prog 40 #[.slice a0 n cap, .int .i64 0] w fun e w' => e = .returned (.int .i64 0) ∧ Below w.heap.size w w' := by
  go_enter Tryd.func40, Tryd.ntmps40
  go_wp2
  go_loop [5] (fun i => i = .int .i64 1) (fun _ => 0)
  case atStart => rfl
  case round =>
    subst hrel
    go_wp2
    go_ret
    exact ⟨rfl, Below.refl _ _⟩

theorem Bs.lies {w : World} {a0 : Option Addr} {l : List Int} (h : Bs w a0 l) (h0 : 0 < l.length) : ∃ g off, a0 = some ⟨g, off, none⟩ ∧ Lies w g off l ∧ g < w.heap.size := by
  rcases h with rfl | ⟨g, off, rfl, hL⟩
  · cases h0
  · cases l with
    | nil => cases h0
    | cons a r => exact ⟨g, off, rfl, hL, hL.size⟩

theorem floor_at (a0 : Option Addr) (cap p : Nat) (l : List Int) (w : World) (hp : p ≤ l.length) (hB : IsB w a0 cap l) (hT : Tab w) :
    Calls Tryd.prog 40 #[.slice a0 l.length cap, .int .i64 p] w fun e w' => e = .returned (.int .i64 (flr l p)) ∧ Below w.heap.size w w' := by
  obtain ⟨h1, h2, h3, _⟩ := hB
  rcases Nat.eq_zero_or_pos p with rfl | hp0
  · have : flr l 0 = 0 := by simp [flr]
    rw [this]
    exact floor_zero a0 l.length cap w
  · obtain ⟨g, off, rfl, hL, hg⟩ := h3.lies (by omega)
    exact floor_some g off cap p l w hp (by omega) (by unfold maxLen; omega) h1 hL hT hg

theorem IsB.of {w : World} {g off cap : Nat} {l : List Int} (h : Lies w g off l) (h1 : l.length ≤ cap) (h2 : l.length ≤ 140737488351232) : IsB w (some ⟨g, off, none⟩) cap l := by
  refine ⟨h1, h2, Or.inr ⟨g, off, rfl, h⟩, fun x hx => ?_⟩
  obtain ⟨i, hi, rfl⟩ := List.getElem_of_mem hx
  have := (h i hi).2
  simpa [List.getD, List.getElem?_eq_getElem hi] using this

end Go.Proofs.YtkdnanlgkedjgabDoor
