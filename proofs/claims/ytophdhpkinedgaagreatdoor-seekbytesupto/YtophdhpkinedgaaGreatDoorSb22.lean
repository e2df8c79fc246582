/- Layer 5, plain: the sizes of two texts, one behind the other. -/
import Derived.Test.YtophdhpkinedgaaGreatDoorSb21

namespace Go.Proofs.YtophdhpkinedgaaGreatDoor

theorem lng_pre1 {x : List Int} (y : List Int) (h : lng x ≠ 0) : lng (x ++ y) = lng x := by
  cases x with
  | nil => exact absurd rfl h
  | cons a r =>
    have hl := lng_len (a :: r)
    have hw : whole ((a :: r).take (need a).toNat) = true := by
      rcases Bool.eq_false_or_eq_true (whole ((a :: r).take (need a).toNat)) with h1 | h1
      · exact h1
      · exfalso; apply h; simp [lng, h1]
    have e : lng (a :: r) = (need a).toNat := by simp only [lng]; rw [if_pos hw]
    rw [e] at hl ⊢
    show (if whole (((a :: r) ++ y).take (need a).toNat) then (need a).toNat else 0) = _
    rw [List.take_append_of_le_length hl, if_pos hw]
theorem lng_pre2 {x y : List Int} (h : lng (x ++ y) ≤ x.length) (h0 : lng (x ++ y) ≠ 0) : lng x = lng (x ++ y) := by
  cases x with
  | nil => exact absurd (Nat.le_zero.1 h) h0
  | cons a r =>
    have hw : whole (((a :: r) ++ y).take (need a).toNat) = true := by
      rcases Bool.eq_false_or_eq_true (whole (((a :: r) ++ y).take (need a).toNat)) with h1 | h1
      · exact h1
      · exfalso; apply h0; show (if whole (((a :: r) ++ y).take (need a).toNat) then (need a).toNat else 0) = 0; rw [h1]; rfl
    have e : lng ((a :: r) ++ y) = (need a).toNat := by show (if whole (((a :: r) ++ y).take (need a).toNat) then (need a).toNat else 0) = _; rw [if_pos hw]
    rw [e] at h ⊢
    rw [List.take_append_of_le_length h] at hw
    simp only [lng]
    rw [if_pos hw]
section
variable {a b : List Int}
theorem drop_l {s : Nat} (h : s ≤ a.length) : (a ++ b).drop s = a.drop s ++ b := List.drop_append_of_le_length h
theorem drop_r (s : Nat) : (a ++ b).drop (a.length + s) = b.drop s := by rw [← List.drop_drop]; simp
theorem left_in {q : Nat} (hq : q < a.length) : inside (a ++ b) q = true ↔ inside a q = true ∨ ∃ s, s < q ∧ a.length < s + lng ((a ++ b).drop s) := by
  rw [inside_iff, inside_iff]
  constructor
  · rintro ⟨s, h1, h2⟩
    rcases Nat.lt_or_ge a.length (s + lng ((a ++ b).drop s)) with h | h
    · exact Or.inr ⟨s, h1, h⟩
    · left
      refine ⟨s, h1, ?_⟩
      rw [drop_l (by omega)] at h h2
      have := lng_pre2 (x := a.drop s) (y := b) (by simp; omega) (by omega)
      omega
  · rintro (⟨s, h1, h2⟩ | ⟨s, h1, h2⟩)
    · refine ⟨s, h1, ?_⟩
      rw [drop_l (by omega), lng_pre1 b (by omega)]
      exact h2
    · exact ⟨s, h1, by omega⟩
theorem right_in (i : Nat) : inside (a ++ b) (a.length + i) = true ↔ inside b i = true ∨ ∃ s, s < a.length ∧ a.length + i < s + lng ((a ++ b).drop s) := by
  rw [inside_iff, inside_iff]
  constructor
  · rintro ⟨s, h1, h2⟩
    rcases Nat.lt_or_ge s a.length with h | h
    · exact Or.inr ⟨s, h, h2⟩
    · left
      obtain ⟨k, rfl⟩ : ∃ k, s = a.length + k := ⟨s - a.length, by omega⟩
      rw [drop_r] at h2
      exact ⟨k, by omega, by omega⟩
  · rintro (⟨s, h1, h2⟩ | ⟨s, h1, h2⟩)
    · refine ⟨a.length + s, by omega, ?_⟩
      rw [drop_r]
      omega
    · exact ⟨s, by omega, h2⟩
theorem eP_eq {l m : List Int} {q k : Nat} (h : inside l q = true ↔ inside m k = true) : eP l q = eP m k := by
  unfold eP
  rw [Bool.eq_iff_iff.2 h]
/-- no encoding goes over the place -/
theorem counts_no (hn : inside (a ++ b) a.length = false) : cI (eP (a ++ b)) (a ++ b).length = cI (eP a) a.length + cI (eP b) b.length ∧ cI (qP (a ++ b)) (a ++ b).length = cI (qP a) a.length + cI (qP b) b.length := by
  rw [inside_not] at hn
  rw [List.length_append, cI_add, cI_add]
  refine ⟨?_, ?_⟩
  · congr 1
    · refine cI_congr fun q hq => eP_eq ?_
      rw [left_in hq]
      refine ⟨fun h => ?_, Or.inl⟩
      rcases h with h | ⟨s, h1, h2⟩
      · exact h
      · have := hn s (by omega); omega
    · refine cI_congr fun i hi => eP_eq ?_
      rw [right_in]
      refine ⟨fun h => ?_, Or.inl⟩
      rcases h with h | ⟨s, h1, h2⟩
      · exact h
      · have := hn s h1; omega
  · congr 1
    · refine cI_congr fun q hq => ?_
      have hq' := hn q hq
      unfold qP
      rw [decide_eq_decide, drop_l (by omega)]
      rw [drop_l (by omega)] at hq'
      constructor
      · intro h
        rw [lng_pre2 (x := a.drop q) (y := b) (by simp; omega) (by omega)]
        exact h
      · intro h
        rw [lng_pre1 b (by omega)]
        exact h
    · refine cI_congr fun i hi => ?_
      unfold qP
      rw [drop_r]
/-- one goes over it -/
theorem counts_yes {f n : Nat} (hf : f < a.length) (hn : lng ((a ++ b).drop f) = n) (hfn : a.length < f + n) : cI (eP (a ++ b)) (a ++ b).length + (n - 1) = cI (eP a) a.length + cI (eP b) b.length ∧ cI (qP (a ++ b)) (a ++ b).length = cI (qP a) a.length + cI (qP b) b.length + (if n = 4 then 1 else 0) := by
  have hlen : f + n ≤ a.length + b.length := by
    have := lng_len ((a ++ b).drop f)
    rw [hn] at this
    simp at this
    omega
  have huniq : ∀ s, s < a.length → a.length < s + lng ((a ++ b).drop s) → s = f := by
    intro s h1 h2
    rcases Nat.lt_trichotomy s f with h | h | h
    · have := lng_cross (l := a ++ b) (p := s) (q := f) h (by omega); omega
    · exact h
    · have := lng_cross (l := a ++ b) (p := f) (q := s) h (by omega); omega
  have hzero : ∀ s, f < s → s < f + n → lng ((a ++ b).drop s) = 0 := fun s h1 h2 => lng_cross (p := f) h1 (by omega)
  have hnoA : ∀ q, f < q → q < a.length → inside a q = false := by
    intro q h1 h2
    rw [inside_not]
    intro s hs
    rcases Nat.lt_or_ge q (s + lng (a.drop s)) with h | h
    · exfalso
      have e : lng ((a ++ b).drop s) = lng (a.drop s) := by rw [drop_l (by omega)]; exact lng_pre1 b (by omega)
      have hl := lng_len (a.drop s)
      rw [List.length_drop] at hl
      rcases Nat.lt_trichotomy s f with h' | h' | h'
      · have := lng_cross (l := a ++ b) (p := s) (q := f) h' (by omega); omega
      · subst h'; omega
      · have := hzero s h' (by omega); omega
    · exact h
  have hnoB : ∀ i, a.length + i < f + n → inside b i = false := by
    intro i h1
    rw [inside_not]
    intro s hs
    rcases Nat.lt_or_ge i (s + lng (b.drop s)) with h | h
    · exfalso
      have := hzero (a.length + s) (by omega) (by omega)
      rw [drop_r] at this
      omega
    · exact h
  rw [List.length_append, cI_add, cI_add]
  refine ⟨?_, ?_⟩
  · have c1 := cI_cut (P := eP (a ++ b)) (P' := eP a) (lo := f + 1) (hi := a.length) (by omega) a.length (fun q hq => by
      have hl := left_in (a := a) (b := b) hq
      unfold eP
      by_cases hin : f + 1 ≤ q ∧ q < a.length
      · rw [decide_eq_true hin, (inside_iff (a ++ b) q).2 ⟨f, by omega, by omega⟩]
        simp
      · rw [decide_eq_false hin, Bool.not_false, Bool.and_true]
        congr 1
        rw [Bool.eq_iff_iff, hl]
        refine ⟨fun h => ?_, Or.inl⟩
        rcases h with h | ⟨s, h1, h2⟩
        · exact h
        · have := huniq s (by omega) h2; omega) (fun q hq h1 h2 => by unfold eP; rw [hnoA q (by omega) h2]; rfl)
    have c2 := cI_cut (P := fun i => eP (a ++ b) (a.length + i)) (P' := eP b) (lo := 0) (hi := f + n - a.length) (by omega) b.length (fun i hi => by
      have hr := right_in (a := a) (b := b) i
      unfold eP
      by_cases hin : 0 ≤ i ∧ i < f + n - a.length
      · rw [decide_eq_true hin, (inside_iff (a ++ b) (a.length + i)).2 ⟨f, by omega, by omega⟩]
        simp
      · rw [decide_eq_false hin, Bool.not_false, Bool.and_true]
        congr 1
        rw [Bool.eq_iff_iff, hr]
        refine ⟨fun h => ?_, Or.inl⟩
        rcases h with h | ⟨s, h1, h2⟩
        · exact h
        · have := huniq s h1 (by omega); subst this; omega) (fun i hi h1 h2 => by unfold eP; rw [hnoB i (by omega)]; rfl)
    omega
  · have hQb : cI (fun i => qP (a ++ b) (a.length + i)) b.length = cI (qP b) b.length := cI_congr fun i hi => by unfold qP; rw [drop_r]
    have haf : lng (a.drop f) = 0 := by
      rcases Nat.eq_zero_or_pos (lng (a.drop f)) with h | h
      · exact h
      · have e := lng_pre1 (x := a.drop f) b (by omega)
        rw [← drop_l (by omega), hn] at e
        have := lng_len (a.drop f)
        rw [List.length_drop] at this
        omega
    have hq : ∀ q, q < a.length → q ≠ f → qP (a ++ b) q = qP a q := by
      intro q hq hne
      unfold qP
      rw [decide_eq_decide]
      have hle : q + lng ((a ++ b).drop q) ≤ a.length := by
        rcases Nat.lt_or_ge a.length (q + lng ((a ++ b).drop q)) with h | h
        · exact absurd (huniq q hq h) hne
        · exact h
      rw [drop_l (by omega)] at hle ⊢
      constructor
      · intro h
        rw [lng_pre2 (x := a.drop q) (y := b) (by simp; omega) (by omega)]
        exact h
      · intro h
        rw [lng_pre1 b (by omega)]
        exact h
    rw [hQb]
    by_cases h4 : n = 4
    · have := cI_one (P := qP (a ++ b)) (P' := qP a) (k := f) a.length (fun q hq' => by
        by_cases hqf : q = f
        · subst hqf
          unfold qP
          rw [hn, h4, haf]
          simp
        · rw [hq q hq' hqf, decide_eq_false hqf, Bool.or_false]) (fun _ => by unfold qP; rw [haf]; rfl)
      rw [this, if_pos hf, if_pos h4]
      omega
    · rw [cI_congr (P := qP (a ++ b)) (P' := qP a) (fun q hq' => by
        by_cases hqf : q = f
        · subst hqf
          unfold qP
          rw [hn, haf, decide_eq_false h4]
          rfl
        · exact hq q hq' hqf), if_neg h4]
      omega
end
end Go.Proofs.YtophdhpkinedgaaGreatDoor
