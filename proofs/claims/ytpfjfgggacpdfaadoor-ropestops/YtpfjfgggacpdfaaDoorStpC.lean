/- Contracts of step.isPlace, At, Before, Edge, Floor, Ceil: each of any bytes at any place. -/
import Derived.Test.YtpfjfgggacpdfaaDoorStp
import Derived.Test.YtpfjfgggacpdfaaDoorCopy
namespace Go.Proofs.YtpfjfgggacpdfaaDoor
open Go.ChangeShapes Go.WideShapes Go.ChangeAt Go.RowKit

theorem flr_inside (l : List Int) (p : Nat) : (flr l p = p) = (inside l p = false) := by
  unfold flr inside
  by_cases h1 : 1 ≤ p ∧ 1 < lng (l.drop (p - 1))
  · rw [if_pos h1]
    simp only [decide_eq_true h1.1, decide_eq_true h1.2, Bool.and_self, Bool.true_or]
    simp; omega
  · rw [if_neg h1]
    by_cases h2 : 2 ≤ p ∧ 2 < lng (l.drop (p - 2))
    · rw [if_pos h2]
      simp only [decide_eq_true h2.1, decide_eq_true h2.2, Bool.and_self, Bool.true_or, Bool.or_true]
      simp; omega
    · rw [if_neg h2]
      by_cases h3 : 3 ≤ p ∧ 3 < lng (l.drop (p - 3))
      · rw [if_pos h3]
        simp only [decide_eq_true h3.1, decide_eq_true h3.2, Bool.and_self, Bool.or_true]
        simp; omega
      · rw [if_neg h3]
        refine propext ⟨fun _ => ?_, fun _ => rfl⟩
        simp only [Bool.or_eq_false_iff, ← Bool.decide_and, decide_eq_false_iff_not]
        exact ⟨h1, h2, h3⟩
theorem flr_le (l : List Int) (p : Nat) : flr l p ≤ p := by
  unfold flr
  repeat' split
  all_goals omega
theorem flr_ne {l : List Int} {p : Nat} (h : inside l p = true) : ¬ flr l p = p := by rw [flr_inside, h]; simp
theorem flr_eq {l : List Int} {p : Nat} (h : inside l p = false) : flr l p = p := by rw [flr_inside]; exact h
/-- the floor of a place that is inside: an encoding begins there and goes over the place -/
theorem flr_over {l : List Int} {p : Nat} (h : inside l p = true) : flr l p < p ∧ p < flr l p + lng (l.drop (flr l p)) := by
  have hne := flr_ne h
  unfold flr at hne ⊢
  by_cases h1 : 1 ≤ p ∧ 1 < lng (l.drop (p - 1))
  · rw [if_pos h1]; omega
  · rw [if_neg h1] at hne ⊢
    by_cases h2 : 2 ≤ p ∧ 2 < lng (l.drop (p - 2))
    · rw [if_pos h2]; omega
    · rw [if_neg h2] at hne ⊢
      by_cases h3 : 3 ≤ p ∧ 3 < lng (l.drop (p - 3))
      · rw [if_pos h3]; omega
      · rw [if_neg h3] at hne; exact absurd rfl hne
theorem flr_wid {l : List Int} {p : Nat} (h : inside l p = true) : flr l p < p ∧ p < flr l p + wid (l.drop (flr l p)) := by
  obtain ⟨h1, h2⟩ := flr_over h
  refine ⟨h1, ?_⟩
  have := wid_gt (l := l.drop (flr l p)) (k := p - flr l p) (by omega)
  have h3 : p - flr l p < wid (l.drop (flr l p)) := by rw [this]; omega
  omega
/-- the floor is an edge -/
theorem flr_edge (l : List Int) (p : Nat) : inside l (flr l p) = false := by
  cases h : inside l p with
  | false => rw [flr_eq h]; exact h
  | true =>
    obtain ⟨h1, h2⟩ := flr_over h
    rw [← Bool.not_eq_true, inside_iff]
    rintro ⟨q, hq, hq2⟩
    have := lng_cross (l := l) hq hq2
    omega

def zeroV : Value := stepV 0 0 false
def atV (l : List Int) (p : Int) : Value :=
  if p < 0 ∨ (l.length : Int) ≤ p then .tuple #[zeroV, .int .i64 2] else if inside l p.toNat then .tuple #[zeroV, .int .i64 4] else .tuple #[stp (l.drop p.toNat), .int .i64 0]
def beforeV (l : List Int) (p : Int) : Value :=
  if p < 1 ∨ (l.length : Int) < p then .tuple #[zeroV, .int .i64 2] else if inside l p.toNat then .tuple #[zeroV, .int .i64 4] else .tuple #[stp (l.drop (flr l (p.toNat - 1))), .int .i64 0]
def edgeB (l : List Int) (p : Int) : Bool := decide (0 ≤ p ∧ p ≤ (l.length : Int)) && !inside l p.toNat
def floorV (l : List Int) (p : Int) : Value := if p < 0 ∨ (l.length : Int) < p then .tuple #[.int .i64 0, .int .i64 2] else .tuple #[.int .i64 (flr l p.toNat), .int .i64 0]
def ceil (l : List Int) (p : Nat) : Nat := if inside l p then flr l p + wid (l.drop (flr l p)) else p
def ceilV (l : List Int) (p : Int) : Value := if p < 0 ∨ (l.length : Int) < p then .tuple #[.int .i64 0, .int .i64 2] else .tuple #[.int .i64 (ceil l p.toNat), .int .i64 0]

theorem isPlace_any (a0 : Option Addr) (cap n : Nat) (p : Int) (w : World) :
    Calls Tryd.prog 65 #[.slice a0 n cap, .int .i64 p] w fun e w' => e = .returned (.bool (decide (0 ≤ p ∧ p ≤ (n : Int)))) ∧ w' = w := by
  by_cases h0 : 0 ≤ p
  · have e : decide (0 ≤ p ∧ p ≤ (n : Int)) = decide (p ≤ (n : Int)) := by simp [h0]
    rw [e]
    have d0 : decide (0 ≤ p) = true := decide_eq_true h0
    go_enter Tryd.func65, Tryd.ntmps65
    go_wp2
    all_goals go_ret
    all_goals exact ⟨rfl, rfl⟩
  · have e : decide (0 ≤ p ∧ p ≤ (n : Int)) = false := by simp; omega
    rw [e]
    have d0 : decide (0 ≤ p) = false := decide_eq_false h0
    go_enter Tryd.func65, Tryd.ntmps65
    go_wp2
    all_goals go_ret
    all_goals exact ⟨rfl, rfl⟩

theorem isPlace_at (a0 : Option Addr) (cap n : Nat) (p : Int) {v : Bool} (w : World) (h : decide (0 ≤ p ∧ p ≤ (n : Int)) = v) :
    Calls Tryd.prog 65 #[.slice a0 n cap, .int .i64 p] w fun e w' => e = .returned (.bool v) ∧ w' = w := by
  subst h
  exact isPlace_any a0 cap n p w

set_option maxHeartbeats 400000 in
theorem Floor_at (a0 : Option Addr) (cap : Nat) (p : Int) (l : List Int) (w : World) (hB : IsB w a0 cap l) (hT : Tab w) :
    Calls Tryd.prog 60 #[.slice a0 l.length cap, .int .i64 p] w fun e w' => e = .returned (floorV l p) ∧ Below w.heap.size w w' := by
  cases hp : decide (0 ≤ p ∧ p ≤ (l.length : Int)) with
  | false =>
    have e : floorV l p = .tuple #[.int .i64 0, .int .i64 2] := by have := of_decide_eq_false hp; rw [floorV, if_pos (by omega)]
    rw [e]
    have HP := hide hp
    clear hp
    go_enter Tryd.func60, Tryd.ntmps60
    go_wp2_with (go_at_call 65; refine (isPlace_at a0 cap l.length p w (unhide HP)).mono ?_; rintro e w' ⟨rfl, rfl⟩)
    go_ret2
    exact ⟨rfl, Below.refl _ _⟩
  | true =>
    have hp' := of_decide_eq_true hp
    have e : floorV l p = .tuple #[.int .i64 (flr l p.toNat), .int .i64 0] := by rw [floorV, if_neg (by omega)]
    rw [e]
    obtain ⟨n, rfl⟩ : ∃ n : Nat, p = n := ⟨p.toNat, by omega⟩
    have HP := hide hp
    clear hp
    have hn : n ≤ l.length := by omega
    rw [Int.toNat_natCast]
    clear hp'
    go_enter Tryd.func60, Tryd.ntmps60
    go_wp2_with (first
      | (go_at_call 65; refine (isPlace_at a0 cap l.length _ w (unhide HP)).mono ?_; rintro e w' ⟨rfl, rfl⟩)
      | (go_at_call 66; refine (floor_at a0 cap n l _ hn hB hT).mono ?_; rintro e w' ⟨rfl, hb⟩))
    go_ret2
    exact ⟨rfl, hb⟩

set_option maxHeartbeats 400000 in
theorem At_at (a0 : Option Addr) (cap : Nat) (p : Int) (l : List Int) (w : World) (hB : IsB w a0 cap l) (hT : Tab w) :
    Calls Tryd.prog 78 #[.slice a0 l.length cap, .int .i64 p] w fun e w' => e = .returned (atV l p) ∧ Below w.heap.size w w' := by
  by_cases hp : p < 0 ∨ (l.length : Int) ≤ p
  · rw [show atV l p = .tuple #[zeroV, .int .i64 2] by rw [atV, if_pos hp]]
    by_cases h0 : p < 0
    · have d0 : decide (p < 0) = true := decide_eq_true h0
      clear hp
      go_enter Tryd.func78, Tryd.ntmps78
      go_wp2
      exact bodyPost_ret (v := .tuple #[zeroV, .int .i64 2]) (by simp [results, Tryd.results78, go_sem, zeroV, stepV]) rfl ⟨rfl, (Below.refl _ _).alloc (Nat.le_refl _) _⟩
    · have d0 : decide (p < 0) = false := decide_eq_false h0
      have h1 : (l.length : Int) ≤ p := by omega
      clear hp
      go_enter Tryd.func78, Tryd.ntmps78
      go_wp2
      exact bodyPost_ret (v := .tuple #[zeroV, .int .i64 2]) (by simp [results, Tryd.results78, go_sem, zeroV, stepV]) rfl ⟨rfl, (Below.refl _ _).alloc (Nat.le_refl _) _⟩
  · obtain ⟨n, rfl⟩ : ∃ n : Nat, p = n := ⟨p.toNat, by omega⟩
    have hn : n < l.length := by omega
    have h1 : ¬ (l.length : Int) ≤ (n : Int) := by omega
    have d0 : decide ((n : Int) < 0) = false := decide_eq_false (by omega)
    have hBn := hB.below ((Below.refl _ w).alloc (Nat.le_refl _) (.cells #[.int .i32 0, .int .i64 0, .bool false] 126)) (Nat.le_refl _)
    cases hi : inside l n with
    | true =>
      rw [show atV l n = .tuple #[zeroV, .int .i64 4] by rw [atV, if_neg hp, Int.toNat_natCast, hi]; rfl]
      have hne : ((flr l n : Int) != (n : Int)) = true := by have := flr_ne hi; simp; omega
      clear hp hi
      go_enter Tryd.func78, Tryd.ntmps78
      go_wp2_with (go_at_call 66; refine (floor_at a0 cap n l _ (by omega) hBn (hT.alloc _)).mono ?_; rintro e w' ⟨rfl, hb⟩; obtain ⟨hc1, hf1⟩ := bcell hb)
      refine bodyPost_ret (v := .tuple #[zeroV, .int .i64 4]) (by simp [results, Tryd.results78, go_sem, zeroV, stepV, hc1]) rfl ⟨rfl, ?_⟩
      exact stores3 (((Below.refl _ w).alloc (Nat.le_refl _) _).trans (hb.mono (by simp))) (Nat.le_refl _) _ _ _
    | false =>
      rw [show atV l n = .tuple #[stp (l.drop n), .int .i64 0] by rw [atV, if_neg hp, Int.toNat_natCast, hi]; rfl]
      have hne : ((flr l n : Int) != (n : Int)) = false := by have := flr_eq hi; simp [this]
      have hB' := hB
      obtain ⟨b1, b2, b3, _⟩ := hB
      obtain ⟨g, off, rfl, hL, hg⟩ := b3.lies (by omega)
      have hnc : ¬ cap = n := by omega
      have hnc2 : n ≤ cap := by omega
      have hm : l.length ≤ maxLen := by unfold maxLen; omega
      clear hp hi
      go_enter Tryd.func78, Tryd.ntmps78
      go_wp2_with (first
        | (go_at_call 66; refine (floor_at _ cap n l _ (by omega) hBn (hT.alloc _)).mono ?_; rintro e w' ⟨rfl, hb⟩; obtain ⟨hc1, hf1⟩ := bcell hb; have hz1 : w.heap.size < w'.heap.size := by have := hb.size; simp at this; omega)
        | (go_at_call 73; refine (first_from g off cap n l _ hn hm b1 (hL.below (((Below.refl _ w).alloc (Nat.le_refl _) _).trans (hb.mono (by simp))) hg) (hT.below (((Below.refl _ w).alloc (Nat.le_refl _) _).trans (hb.mono (by simp))) hT.size)).mono ?_
           unfold stp stepV; rintro e w'' ⟨rfl, hb2⟩; obtain ⟨hc2, hf2⟩ := bcell hb2))
      refine bodyPost_ret (v := .tuple #[stp (l.drop n), .int .i64 0]) (by simp [results, Tryd.results78, go_sem, stp, stepV, hc1, hc2, hz1]) rfl ⟨rfl, ?_⟩
      exact stores3 ((((Below.refl _ w).alloc (Nat.le_refl _) _).trans (hb.mono (by simp))).trans (hb2.mono (by omega))) (Nat.le_refl _) _ _ _

end Go.Proofs.YtpfjfgggacpdfaaDoor
