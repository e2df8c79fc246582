/- The document's answer for layer 2: Of, At, Before, Floor, Ceil. -/
import Derived.Test.YtffancemlpoebaaDoorRf2C
namespace Go.Proofs.YtffancemlpoebaaDoor
open Go.ChangeShapes Go.WideShapes Go.ChangeAt Go.RowKit

set_option maxHeartbeats 400000 in
theorem Of_bad (a0 : Option Addr) (cap p : Nat) (l : List Int) (w : World) (hB : IsB w a0 cap l) (hp : p < l.length) (hlg : lng (l.drop p) = 0) :
    Calls Tryd.prog 36 #[.slice a0 l.length cap, .int .i64 p] w fun e w' => e = .returned (stepV 65533 1 false) ∧ Below w.heap.size w w' := by
  have hBn := hB.below ((Below.refl _ w).alloc (Nat.le_refl _) (.cells #[.int .i32 0, .int .i64 0, .bool false] 30)) (Nat.le_refl _)
  have HL := hide hlg
  clear hlg
  go_enter Tryd.func36, Tryd.ntmps36
  go_wp2_with (go_at_call 45; refine (Long_at _ cap p l _ hBn (by omega)).mono ?_; rw [unhide HL]; rintro e w' ⟨rfl, rfl⟩)
  exact bodyPost_ret (v := stepV 65533 1 false) (by simp [results, Tryd.results36, go_sem, stepV]) rfl ⟨rfl, (Below.refl _ _).alloc (Nat.le_refl _) _⟩

theorem Of_at (a0 : Option Addr) (cap p : Nat) (l : List Int) (w : World) (hB : IsB w a0 cap l) (hp : p < l.length) :
    Calls Tryd.prog 36 #[.slice a0 l.length cap, .int .i64 p] w fun e w' => e = .returned (stp (l.drop p)) ∧ Below w.heap.size w w' := by
  cases hlg : lng (l.drop p) with
  | zero => rw [stp_bad hlg]; exact Of_bad a0 cap p l w hB hp hlg
  | succ n =>
    obtain ⟨a, r, hd, hn, hw, hnr⟩ := lng_parts hlg
    rw [stp_whole hd hn hw]
    obtain ⟨g, off, rfl, hL, hg⟩ := hB.2.2.1.lies (by omega)
    exact Of_whole g off cap p n l a r w hB hL hg hp hd hn hw hnr hlg

theorem flr_last {l : List Int} {p q : Nat} (h1 : flr l p ≤ q) (h2 : q ≤ p) (h : inside l q = false) : q = flr l p := by
  cases hi : inside l p with
  | false => rw [flr_eq hi] at h1 ⊢; omega
  | true =>
    obtain ⟨a, b⟩ := flr_over hi
    rcases Nat.eq_or_lt_of_le h1 with e | e
    · exact e.symm
    · have := (inside_iff l q).2 ⟨flr l p, e, by omega⟩
      rw [h] at this; cases this
theorem flr_more {l : List Int} {p q : Nat} (h1 : flr l p ≤ q) (h : inside l q = true) : flr l p ≤ q - 1 ∧ 1 ≤ q := by
  have he := flr_edge l p
  rcases Nat.eq_or_lt_of_le h1 with e | e
  · rw [e, h] at he; cases he
  · omega
theorem ceil_ge (l : List Int) (p : Nat) : p ≤ ceil l p := by
  unfold ceil
  split
  · rename_i h; have := flr_wid h; omega
  · exact Nat.le_refl _
theorem ceil_le {l : List Int} {p : Nat} (hp : p ≤ l.length) : ceil l p ≤ l.length := by
  unfold ceil
  split
  · rename_i h; have := flr_wid h; exact wid_len (by omega)
  · exact hp
theorem ceil_edge {l : List Int} {p : Nat} (hp : p ≤ l.length) : inside l (ceil l p) = false := by
  unfold ceil
  cases h : inside l p with
  | false => simpa using h
  | true => have := flr_wid h; simp only [if_true]; exact edge_next (flr_edge l p) (by omega)
theorem ceil_last {l : List Int} {p q : Nat} (hp : p ≤ l.length) (h1 : p ≤ q) (h2 : q ≤ ceil l p) (h : inside l q = false) : q = ceil l p := by
  unfold ceil at h2 ⊢
  cases hi : inside l p with
  | false => rw [hi] at h2; simp at h2 ⊢; omega
  | true =>
    rw [hi] at h2
    simp only [if_true] at h2 ⊢
    obtain ⟨a, b⟩ := flr_wid hi
    rcases Nat.eq_or_lt_of_le h2 with e | e
    · exact e
    · have := edge_between (l := l) (p := flr l p) (k := q - flr l p) (by omega) (by omega) (by omega)
      rw [show flr l p + (q - flr l p) = q by omega, h] at this; cases this
theorem ceil_more {l : List Int} {p q : Nat} (hp : p ≤ l.length) (h2 : q ≤ ceil l p) (h : inside l q = true) : q + 1 ≤ ceil l p := by
  have he := ceil_edge hp
  rcases Nat.eq_or_lt_of_le h2 with e | e
  · rw [← e, h] at he; cases he
  · omega

set_option maxHeartbeats 400000 in
theorem RFloor_at (a0 : Option Addr) (cap : Nat) (p : Int) (l : List Int) (w : World) (hB : IsB w a0 cap l) :
    Calls Tryd.prog 19 #[.slice a0 l.length cap, .int .i64 p] w fun e w' => e = .returned (floorV l p) ∧ w' = w := by
  have hl : l.length ≤ 140737488351232 := by obtain ⟨h1, h2, _⟩ := hB; omega
  by_cases hp : p < 0 ∨ (l.length : Int) < p
  · rw [show floorV l p = .tuple #[.int .i64 0, .int .i64 2] by rw [floorV, if_pos hp]]
    by_cases h0 : p < 0
    · have d0 : decide (p < 0) = true := decide_eq_true h0
      clear hp
      go_enter Tryd.func19, Tryd.ntmps19
      go_wp2
      go_ret2
      exact ⟨rfl, rfl⟩
    · have d0 : decide (p < 0) = false := decide_eq_false h0
      have h1 : (l.length : Int) < p := by omega
      clear hp
      go_enter Tryd.func19, Tryd.ntmps19
      go_wp2
      go_ret2
      exact ⟨rfl, rfl⟩
  · obtain ⟨n, rfl⟩ : ∃ n : Nat, p = n := ⟨p.toNat, by omega⟩
    rw [show floorV l n = .tuple #[.int .i64 (flr l n), .int .i64 0] by rw [floorV, if_neg hp]; rfl]
    have hn : n ≤ l.length := by omega
    have h1 : ¬ (l.length : Int) < (n : Int) := by omega
    have d0 : decide ((n : Int) < 0) = false := decide_eq_false (by omega)
    clear hp
    go_enter Tryd.func19, Tryd.ntmps19
    go_wp2
    go_loop [1] (fun i => ∃ q : Nat, flr l n ≤ q ∧ q ≤ n ∧ i = .int .i64 q) (fun i => (intOf i).toNat)
    case atStart => exact ⟨n, flr_le l n, Nat.le_refl _, rfl⟩
    case round =>
      obtain ⟨q, hq1, hq2, rfl⟩ := hrel
      cases hi : inside l q with
      | true =>
        obtain ⟨m1, m2⟩ := flr_more hq1 hi
        have HI := hide hi
        clear hi
        go_wp2_with (go_at_call 35; refine (Inside_is a0 cap q l _ hB (by omega) (unhide HI)).mono ?_; rintro e w' ⟨rfl, rfl⟩)
        exact ⟨⟨q - 1, by omega, by omega, by go_num⟩, by simp [intOf]; omega⟩
      | false =>
        have HE := hide (flr_last hq1 hq2 hi)
        have HI := hide hi
        clear hi
        go_wp2_with (go_at_call 35; refine (Inside_is a0 cap q l _ hB (by omega) (unhide HI)).mono ?_; rintro e w' ⟨rfl, rfl⟩)
        rw [← unhide HE]
        go_ret2
        exact ⟨rfl, rfl⟩

set_option maxHeartbeats 400000 in
theorem RCeil_at (a0 : Option Addr) (cap : Nat) (p : Int) (l : List Int) (w : World) (hB : IsB w a0 cap l) :
    Calls Tryd.prog 21 #[.slice a0 l.length cap, .int .i64 p] w fun e w' => e = .returned (ceilV l p) ∧ w' = w := by
  have hl : l.length ≤ 140737488351232 := by obtain ⟨h1, h2, _⟩ := hB; omega
  by_cases hp : p < 0 ∨ (l.length : Int) < p
  · rw [show ceilV l p = .tuple #[.int .i64 0, .int .i64 2] by rw [ceilV, if_pos hp]]
    by_cases h0 : p < 0
    · have d0 : decide (p < 0) = true := decide_eq_true h0
      clear hp
      go_enter Tryd.func21, Tryd.ntmps21
      go_wp2
      go_ret2
      exact ⟨rfl, rfl⟩
    · have d0 : decide (p < 0) = false := decide_eq_false h0
      have h1 : (l.length : Int) < p := by omega
      clear hp
      go_enter Tryd.func21, Tryd.ntmps21
      go_wp2
      go_ret2
      exact ⟨rfl, rfl⟩
  · obtain ⟨n, rfl⟩ : ∃ n : Nat, p = n := ⟨p.toNat, by omega⟩
    rw [show ceilV l n = .tuple #[.int .i64 (ceil l n), .int .i64 0] by rw [ceilV, if_neg hp]; rfl]
    have hn : n ≤ l.length := by omega
    have h1 : ¬ (l.length : Int) < (n : Int) := by omega
    have d0 : decide ((n : Int) < 0) = false := decide_eq_false (by omega)
    have hcl := ceil_le hn
    clear hp
    go_enter Tryd.func21, Tryd.ntmps21
    go_wp2
    go_loop [1] (fun i => ∃ q : Nat, n ≤ q ∧ q ≤ ceil l n ∧ i = .int .i64 q) (fun i => ceil l n - (intOf i).toNat)
    case atStart => exact ⟨n, Nat.le_refl _, ceil_ge l n, rfl⟩
    case round =>
      obtain ⟨q, hq1, hq2, rfl⟩ := hrel
      cases hi : inside l q with
      | true =>
        have m1 := ceil_more hn hq2 hi
        have HI := hide hi
        clear hi
        go_wp2_with (go_at_call 35; refine (Inside_is a0 cap q l _ hB (by omega) (unhide HI)).mono ?_; rintro e w' ⟨rfl, rfl⟩)
        exact ⟨⟨q + 1, by omega, by omega, by go_num⟩, by simp [intOf]; omega⟩
      | false =>
        have HE := hide (ceil_last hn hq1 hq2 hi)
        have HI := hide hi
        clear hi
        go_wp2_with (go_at_call 35; refine (Inside_is a0 cap q l _ hB (by omega) (unhide HI)).mono ?_; rintro e w' ⟨rfl, rfl⟩)
        rw [← unhide HE]
        go_ret2
        exact ⟨rfl, rfl⟩

set_option maxHeartbeats 400000 in
theorem RAt_at (a0 : Option Addr) (cap : Nat) (p : Int) (l : List Int) (w : World) (hB : IsB w a0 cap l) :
    Calls Tryd.prog 13 #[.slice a0 l.length cap, .int .i64 p] w fun e w' => e = .returned (atV l p) ∧ Below w.heap.size w w' := by
  by_cases hp : p < 0 ∨ (l.length : Int) ≤ p
  · rw [show atV l p = .tuple #[zeroV, .int .i64 2] by rw [atV, if_pos hp]]
    by_cases h0 : p < 0
    · have d0 : decide (p < 0) = true := decide_eq_true h0
      clear hp
      go_enter Tryd.func13, Tryd.ntmps13
      go_wp2
      exact bodyPost_ret (v := .tuple #[zeroV, .int .i64 2]) (by simp [results, Tryd.results13, go_sem, zeroV, stepV]) rfl ⟨rfl, (Below.refl _ _).alloc (Nat.le_refl _) _⟩
    · have d0 : decide (p < 0) = false := decide_eq_false h0
      have h1 : (l.length : Int) ≤ p := by omega
      clear hp
      go_enter Tryd.func13, Tryd.ntmps13
      go_wp2
      exact bodyPost_ret (v := .tuple #[zeroV, .int .i64 2]) (by simp [results, Tryd.results13, go_sem, zeroV, stepV]) rfl ⟨rfl, (Below.refl _ _).alloc (Nat.le_refl _) _⟩
  · obtain ⟨n, rfl⟩ : ∃ n : Nat, p = n := ⟨p.toNat, by omega⟩
    have hn : n < l.length := by omega
    have h1 : ¬ (l.length : Int) ≤ (n : Int) := by omega
    have d0 : decide ((n : Int) < 0) = false := decide_eq_false (by omega)
    have hBn := hB.below ((Below.refl _ w).alloc (Nat.le_refl _) (.cells #[.int .i32 0, .int .i64 0, .bool false] 30)) (Nat.le_refl _)
    cases hi : inside l n with
    | true =>
      rw [show atV l n = .tuple #[zeroV, .int .i64 4] by rw [atV, if_neg hp, Int.toNat_natCast, hi]; rfl]
      have HI := hide hi
      clear hp hi
      go_enter Tryd.func13, Tryd.ntmps13
      go_wp2_with (go_at_call 35; refine (Inside_is a0 cap n l _ hBn (by omega) (unhide HI)).mono ?_; rintro e w' ⟨rfl, rfl⟩)
      exact bodyPost_ret (v := .tuple #[zeroV, .int .i64 4]) (by simp [results, Tryd.results13, go_sem, zeroV, stepV]) rfl ⟨rfl, (Below.refl _ _).alloc (Nat.le_refl _) _⟩
    | false =>
      rw [show atV l n = .tuple #[stp (l.drop n), .int .i64 0] by rw [atV, if_neg hp, Int.toNat_natCast, hi]; rfl]
      have HI := hide hi
      clear hp hi
      go_enter Tryd.func13, Tryd.ntmps13
      go_wp2_with (first
        | (go_at_call 35; refine (Inside_is a0 cap n l _ hBn (by omega) (unhide HI)).mono ?_; rintro e w' ⟨rfl, rfl⟩)
        | (go_at_call 36; refine (Of_at a0 cap n l _ hBn hn).mono ?_; unfold stp stepV; rintro e w' ⟨rfl, hb⟩; obtain ⟨hc1, hf1⟩ := bcell hb))
      refine bodyPost_ret (v := .tuple #[stp (l.drop n), .int .i64 0]) (by simp [results, Tryd.results13, go_sem, stp, stepV, hc1]) rfl ⟨rfl, ?_⟩
      exact stores3 (((Below.refl _ w).alloc (Nat.le_refl _) _).trans (hb.mono (by simp))) (Nat.le_refl _) _ _ _

set_option maxHeartbeats 400000 in
theorem RBefore_at (a0 : Option Addr) (cap : Nat) (p : Int) (l : List Int) (w : World) (hB : IsB w a0 cap l) :
    Calls Tryd.prog 15 #[.slice a0 l.length cap, .int .i64 p] w fun e w' => e = .returned (beforeV l p) ∧ Below w.heap.size w w' := by
  have hl : l.length ≤ 140737488351232 := by obtain ⟨h1, h2, _⟩ := hB; omega
  by_cases hp : p < 1 ∨ (l.length : Int) < p
  · rw [show beforeV l p = .tuple #[zeroV, .int .i64 2] by rw [beforeV, if_pos hp]]
    by_cases h0 : p < 1
    · have d0 : decide (p < 1) = true := decide_eq_true h0
      clear hp
      go_enter Tryd.func15, Tryd.ntmps15
      go_wp2
      exact bodyPost_ret (v := .tuple #[zeroV, .int .i64 2]) (by simp [results, Tryd.results15, go_sem, zeroV, stepV]) rfl ⟨rfl, (Below.refl _ _).alloc (Nat.le_refl _) _⟩
    · have d0 : decide (p < 1) = false := decide_eq_false h0
      have h1 : (l.length : Int) < p := by omega
      clear hp
      go_enter Tryd.func15, Tryd.ntmps15
      go_wp2
      exact bodyPost_ret (v := .tuple #[zeroV, .int .i64 2]) (by simp [results, Tryd.results15, go_sem, zeroV, stepV]) rfl ⟨rfl, (Below.refl _ _).alloc (Nat.le_refl _) _⟩
  · obtain ⟨m, hm⟩ : ∃ m : Nat, p = ((m + 1 : Nat) : Int) := ⟨p.toNat - 1, by omega⟩
    obtain ⟨n, hnm⟩ : ∃ n : Nat, n = m + 1 := ⟨_, rfl⟩
    rw [← hnm] at hm
    subst hm
    have hn : n ≤ l.length := by omega
    have hn1 : (n : Int) - 1 = (m : Int) := by omega
    have h1 : ¬ (l.length : Int) < (n : Int) := by omega
    have d0 : decide ((n : Int) < 1) = false := decide_eq_false (by omega)
    have hBn := hB.below ((Below.refl _ w).alloc (Nat.le_refl _) (.cells #[.int .i32 0, .int .i64 0, .bool false] 30)) (Nat.le_refl _)
    cases hi : inside l n with
    | true =>
      rw [show beforeV l n = .tuple #[zeroV, .int .i64 4] by rw [beforeV, if_neg hp, Int.toNat_natCast, hi]; rfl]
      have HI := hide hi
      clear hp hi hnm
      go_enter Tryd.func15, Tryd.ntmps15
      go_wp2_with (go_at_call 35; refine (Inside_is a0 cap n l _ hBn (by omega) (unhide HI)).mono ?_; rintro e w' ⟨rfl, rfl⟩)
      exact bodyPost_ret (v := .tuple #[zeroV, .int .i64 4]) (by simp [results, Tryd.results15, go_sem, zeroV, stepV]) rfl ⟨rfl, (Below.refl _ _).alloc (Nat.le_refl _) _⟩
    | false =>
      rw [show beforeV l n = .tuple #[stp (l.drop (flr l m)), .int .i64 0] by rw [beforeV, if_neg hp, Int.toNat_natCast, hi, if_neg (by simp), show n - 1 = m by omega]]
      have HI := hide hi
      clear hp hi hnm
      go_enter Tryd.func15, Tryd.ntmps15
      go_wp2_with (go_at_call 35; refine (Inside_is a0 cap n l _ hBn (by omega) (unhide HI)).mono ?_; rintro e w' ⟨rfl, rfl⟩)
      go_loop [6] (fun i => ∃ q : Nat, flr l m ≤ q ∧ q ≤ m ∧ i = .int .i64 q) (fun i => (intOf i).toNat)
      case atStart => exact ⟨m, flr_le l m, Nat.le_refl _, rfl⟩
      case round =>
        obtain ⟨q, hq1, hq2, rfl⟩ := hrel
        cases hi : inside l q with
        | true =>
          obtain ⟨m1, m2⟩ := flr_more hq1 hi
          have HQ := hide hi
          clear hi
          go_wp2_with (go_at_call 35; refine (Inside_is a0 cap q l _ hBn (by omega) (unhide HQ)).mono ?_; rintro e w' ⟨rfl, rfl⟩)
          exact ⟨⟨q - 1, by omega, by omega, by go_num⟩, by simp [intOf]; omega⟩
        | false =>
          have HE := hide (flr_last hq1 hq2 hi)
          have HQ := hide hi
          clear hi
          go_wp2_with (first
            | (go_at_call 35; refine (Inside_is a0 cap q l _ hBn (by omega) (unhide HQ)).mono ?_; rintro e w' ⟨rfl, rfl⟩)
            | (go_at_call 36; refine (Of_at a0 cap q l _ hBn (by omega)).mono ?_; unfold stp stepV; rintro e w' ⟨rfl, hb⟩; obtain ⟨hc1, hf1⟩ := bcell hb))
          rw [← unhide HE]
          refine bodyPost_ret (v := .tuple #[stp (l.drop q), .int .i64 0]) (by simp [results, Tryd.results15, go_sem, stp, stepV, hc1]) rfl ⟨rfl, ?_⟩
          exact stores3 (((Below.refl _ w).alloc (Nat.le_refl _) _).trans (hb.mono (by simp))) (Nat.le_refl _) _ _ _

end Go.Proofs.YtffancemlpoebaaDoor
