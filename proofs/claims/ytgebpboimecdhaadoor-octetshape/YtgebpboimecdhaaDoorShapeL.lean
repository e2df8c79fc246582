/- Plain facts for OctetShape: how many steps ranging meets, and what the last of them is, tells whether the bytes are whole. -/
import Derived.Test.YtgebpboimecdhaaDoorDec
namespace Go.Proofs.YtgebpboimecdhaaDoor

/-- after cnt steps, at place pos -/
def Seen (l : List Int) (pos cnt : Nat) (o : Bool) : Prop :=
  cnt ≤ pos ∧ ((pos = 0 ∧ cnt = 0 ∧ o = false) ∨ (cnt = 1 ∧ pos = (first l).2 ∧ o = (decide ((first l).1 ≠ 65533) || decide (l = [239, 191, 189]))) ∨ (2 ≤ cnt ∧ (first l).2 < l.length))

theorem first_of_whole {l : List Int} (h : whole l = true) : first l = (value l, l.length) := by
  match l with
  | [] => cases h
  | a :: r =>
    have hn := (whole_first h).2
    have e : (a :: r).take (need a).toNat = a :: r := List.take_of_length_le (by simp; omega)
    simp only [first]
    rw [e, if_pos h]
    simp only [Prod.mk.injEq, true_and, List.length_cons]
    omega
theorem first_width (a : Int) (r : List Int) : 1 ≤ (first (a :: r)).2 := by
  simp only [first]
  split
  · rename_i h
    have hn := need_lo a
    by_cases h0 : need a = 0
    · rw [h0] at h; cases h
    · show 1 ≤ (need a).toNat
      omega
  · exact Nat.le_refl _

theorem seen_end {l : List Int} {pos cnt : Nat} {o : Bool} (hl : ∀ x ∈ l, 0 ≤ x ∧ x ≤ 255) (h : Seen l pos cnt o) (hp : ¬ pos < l.length) : (cnt = 1 ∧ o = whole l) ∨ (¬ cnt = 1 ∧ whole l = false) := by
  obtain ⟨_, h⟩ := h
  rcases h with ⟨rfl, rfl, rfl⟩ | ⟨rfl, rfl, rfl⟩ | ⟨h2, h3⟩
  · right
    have : l = [] := List.length_eq_zero_iff.1 (by omega)
    subst this
    exact ⟨by omega, rfl⟩
  · left
    refine ⟨rfl, ?_⟩
    cases hw : whole l with
    | true =>
      rw [first_of_whole hw]
      by_cases hv : value l = 65533
      · have := enc_value hw hl
        rw [hv] at this
        have e : l = [239, 191, 189] := by rw [← this]; rfl
        simp [e]
      · simp [hv]
    | false =>
      match l with
      | [] => simp at hp; rfl
      | a :: r =>
        have hu : first (a :: r) = if whole ((a :: r).take (need a).toNat) then (value ((a :: r).take (need a).toNat), (need a).toNat) else (65533, 1) := rfl
        rw [hu] at hp
        split at hp
        · rename_i hw2
          exfalso
          have hln := need_hi a
          have e : (a :: r).take (need a).toNat = a :: r := List.take_of_length_le (by omega)
          rw [e, hw] at hw2
          cases hw2
        · rename_i hw2
          rw [if_neg hw2] at hu
          have hr : r = [] := by
            have : r.length = 0 := by have h1 : ¬ 1 < r.length + 1 := hp; omega
            exact List.length_eq_zero_iff.1 this
          subst hr
          simp [hu]
  · right
    refine ⟨by omega, ?_⟩
    cases hw : whole l with
    | false => rfl
    | true => rw [first_of_whole hw] at h3; omega

theorem seen_start (l : List Int) : Seen l 0 0 false := ⟨Nat.le_refl _, Or.inl ⟨rfl, rfl, rfl⟩⟩
theorem seen_next {l : List Int} (hl : ∀ x ∈ l, 0 ≤ x ∧ x ≤ 255) {pos cnt : Nat} {o : Bool} (h : Seen l pos cnt o) (hp : pos < l.length) :
    1 ≤ (Utf8.decode (strOfNums l) pos).2 ∧ Seen l (pos + (Utf8.decode (strOfNums l) pos).2) (cnt + 1) (decide (((Utf8.decode (strOfNums l) pos).1 : Int) ≠ 65533) || decide (l = [239, 191, 189])) := by
  obtain ⟨a, r, hd⟩ : ∃ a r, l.drop pos = a :: r := by
    cases hd : l.drop pos with
    | nil => have := congrArg List.length hd; simp at this; omega
    | cons a r => exact ⟨a, r, rfl⟩
  have hf := decode_first l hl pos a r hd
  have hw : 1 ≤ (Utf8.decode (strOfNums l) pos).2 := by
    have := congrArg Prod.snd hf
    simp only at this
    rw [this]
    exact first_width a r
  obtain ⟨hc, h⟩ := h
  refine ⟨hw, by omega, ?_⟩
  rcases h with ⟨rfl, rfl, rfl⟩ | ⟨rfl, rfl, rfl⟩ | ⟨h2, h3⟩
  · right; left
    rw [List.drop_zero] at hd
    rw [hd] at hf ⊢
    have e1 := congrArg Prod.fst hf
    have e2 := congrArg Prod.snd hf
    simp only at e1 e2
    refine ⟨rfl, by rw [e2]; omega, by rw [e1]⟩
  · right; right
    exact ⟨by omega, hp⟩
  · right; right
    exact ⟨by omega, h3⟩

end Go.Proofs.YtgebpboimecdhaaDoor
