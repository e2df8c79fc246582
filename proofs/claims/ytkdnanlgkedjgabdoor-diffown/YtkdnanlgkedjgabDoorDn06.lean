/- Plain facts about edges: a place is inside just if an encoding begins ahead of it and ends behind it; from an edge the first step leads to the next edge. -/
import Derived.Test.YtkdnanlgkedjgabDoorDn05

namespace Go.Proofs.YtkdnanlgkedjgabDoor

/-- how many bytes the encoding has that these bytes begin with; 0: none -/
def lng : List Int → Nat
  | [] => 0
  | a :: r => if whole ((a :: r).take (need a).toNat) then (need a).toNat else 0
def inside (l : List Int) (p : Nat) : Bool := (decide (1 ≤ p) && decide (1 < lng (l.drop (p - 1)))) || ((decide (2 ≤ p) && decide (2 < lng (l.drop (p - 2)))) || (decide (3 ≤ p) && decide (3 < lng (l.drop (p - 3)))))
/-- the first step's width -/
def wid (l : List Int) : Nat := (first l).2

theorem lng_le (l : List Int) : lng l ≤ 4 := by
  cases l with
  | nil => simp [lng]
  | cons a r =>
    simp only [lng]
    have := need_hi a
    split <;> omega
theorem lng_len (l : List Int) : lng l ≤ l.length := by
  cases l with
  | nil => simp [lng]
  | cons a r =>
    simp only [lng]
    split
    · rename_i h
      cases ht : (a :: r).take (need a).toNat with
      | nil => rw [ht] at h; cases h
      | cons b t =>
        have e : b = a := by
          have := congrArg (fun x : List Int => x.head?) ht
          cases hn : (need a).toNat with
          | zero => rw [hn] at ht; cases ht
          | succ k => rw [hn] at ht; simp at ht; exact ht.1.symm
        rw [ht] at h
        have h2 := (whole_first h).2
        rw [e] at h2
        have h3 := congrArg List.length ht
        simp only [List.length_take, List.length_cons] at h3 ⊢
        omega
    · omega
theorem wid_lng (a : Int) (r : List Int) : wid (a :: r) = if lng (a :: r) = 0 then 1 else lng (a :: r) := by
  simp only [wid, first, lng]
  by_cases h : whole ((a :: r).take (need a).toNat) = true
  · simp only [if_pos h]
    have hn : ¬ (need a).toNat = 0 := fun e => by rw [e] at h; cases h
    rw [if_neg hn]
  · simp only [if_neg h, if_true]
/-- within an encoding stand Tails -/
theorem lng_tail {l : List Int} {k : Nat} (h1 : 1 ≤ k) (h2 : k < lng l) : isTail (l.getD k 0) = true := by
  cases l with
  | nil => simp [lng] at h2
  | cons a r =>
    simp only [lng] at h2
    split at h2
    · rename_i h
      have hlen : (need a).toNat ≤ (a :: r).length := by have := lng_len (a :: r); simp only [lng, if_pos h] at this; exact this
      cases ht : (a :: r).take (need a).toNat with
      | nil => rw [ht] at h; cases h
      | cons b t =>
        rw [ht] at h
        have hl := congrArg List.length ht
        simp only [List.length_take, List.length_cons] at hl
        obtain ⟨j, rfl⟩ : ∃ j, k = j + 1 := ⟨k - 1, by omega⟩
        have hj : j < t.length := by simp only [List.length_cons] at hlen; omega
        have := whole_tails h t[j] (List.getElem_mem hj)
        have e : (a :: r).getD (j + 1) 0 = t[j] := by
          have h3 : ((a :: r).take (need a).toNat).getD (j + 1) 0 = (a :: r).getD (j + 1) 0 := by
            simp only [List.getD, List.getElem?_take, h2, if_true]
          rw [← h3, ht]
          simp [List.getD, List.getElem?_eq_getElem hj]
        rw [e]; exact this
    · omega
theorem lng_of_tail {l : List Int} (h : isTail (l.getD 0 0) = true) : lng l = 0 := by
  cases l with
  | nil => rfl
  | cons a r =>
    have ha : 128 ≤ a ∧ a < 192 := of_decide_eq_true h
    simp only [lng, need_0' (a := a) (Or.inl (by omega))]
    rfl

theorem inside_iff (l : List Int) (p : Nat) : inside l p = true ↔ ∃ q, q < p ∧ p < q + lng (l.drop q) := by
  simp only [inside, Bool.or_eq_true, Bool.and_eq_true, decide_eq_true_eq]
  constructor
  · rintro (⟨h1, h2⟩ | ⟨h1, h2⟩ | ⟨h1, h2⟩)
    · exact ⟨p - 1, by omega, by omega⟩
    · exact ⟨p - 2, by omega, by omega⟩
    · exact ⟨p - 3, by omega, by omega⟩
  · rintro ⟨q, h1, h2⟩
    have h4 := lng_le (l.drop q)
    have : p - q = 1 ∨ p - q = 2 ∨ p - q = 3 := by omega
    rcases this with h | h | h
    · left; rw [show p - 1 = q by omega]; omega
    · right; left; rw [show p - 2 = q by omega]; omega
    · right; right; rw [show p - 3 = q by omega]; omega
theorem inside_not (l : List Int) (p : Nat) : inside l p = false ↔ ∀ q, q < p → q + lng (l.drop q) ≤ p := by
  rw [← Bool.not_eq_true, inside_iff]
  constructor
  · intro h q hq
    rcases Nat.lt_or_ge p (q + lng (l.drop q)) with h' | h'
    · exact absurd ⟨q, hq, h'⟩ h
    · exact h'
  · rintro h ⟨q, hq, h'⟩
    have := h q hq
    omega
theorem getD_drop' (l : List Int) (q k : Nat) : (l.drop q).getD k 0 = l.getD (q + k) 0 := by simp [List.getD]

theorem edge_zero (l : List Int) : inside l 0 = false := (inside_not l 0).2 fun _ h => absurd h (Nat.not_lt_zero _)
theorem edge_len (l : List Int) : inside l l.length = false := (inside_not l _).2 fun q h => by
  have := lng_len (l.drop q)
  rw [List.length_drop] at this
  omega
/-- two encodings do not cross -/
theorem lng_cross {l : List Int} {p q : Nat} (h1 : p < q) (h2 : q < p + lng (l.drop p)) : lng (l.drop q) = 0 := by
  apply lng_of_tail
  rw [getD_drop', Nat.add_zero]
  have := lng_tail (l := l.drop p) (k := q - p) (by omega) (by omega)
  rwa [getD_drop', show p + (q - p) = q by omega] at this
/-- the first step of an edge leads to the next edge, and all between is inside -/
theorem edge_next {l : List Int} {p : Nat} (he : inside l p = false) (hp : p < l.length) : inside l (p + wid (l.drop p)) = false := by
  rw [inside_not] at he ⊢
  intro q hq
  obtain ⟨a, r, hd⟩ : ∃ a r, l.drop p = a :: r := by
    cases hd : l.drop p with
    | nil => have := congrArg List.length hd; simp at this; omega
    | cons a r => exact ⟨a, r, rfl⟩
  have hw : wid (l.drop p) = if lng (l.drop p) = 0 then 1 else lng (l.drop p) := by rw [hd]; exact wid_lng a r
  rcases Nat.lt_or_ge q p with h | h
  · have := he q h
    omega
  · rcases Nat.eq_or_lt_of_le h with h | h
    · subst h
      split at hw <;> omega
    · have hn : ¬ lng (l.drop p) = 0 := fun e => by rw [if_pos e] at hw; omega
      rw [if_neg hn] at hw
      have := lng_cross (l := l) h (by omega)
      omega
theorem edge_between {l : List Int} {p k : Nat} (h1 : 1 ≤ k) (h2 : k < wid (l.drop p)) (hp : p < l.length) : inside l (p + k) = true := by
  rw [inside_iff]
  obtain ⟨a, r, hd⟩ : ∃ a r, l.drop p = a :: r := by
    cases hd : l.drop p with
    | nil => have := congrArg List.length hd; simp at this; omega
    | cons a r => exact ⟨a, r, rfl⟩
  have hw : wid (l.drop p) = if lng (l.drop p) = 0 then 1 else lng (l.drop p) := by rw [hd]; exact wid_lng a r
  refine ⟨p, by omega, ?_⟩
  split at hw <;> omega

/-- the steps from a place on: where each begins; f: at most so many -/
def places (l : List Int) : Nat → Nat → List Nat
  | 0, _ => []
  | f + 1, p => if p < l.length then p :: places l f (p + wid (l.drop p)) else []

theorem wid_pos {l : List Int} {p : Nat} (hp : p < l.length) : 1 ≤ wid (l.drop p) := by
  obtain ⟨a, r, hd⟩ : ∃ a r, l.drop p = a :: r := by
    cases hd : l.drop p with
    | nil => have := congrArg List.length hd; simp at this; omega
    | cons a r => exact ⟨a, r, rfl⟩
  rw [hd, wid_lng]
  split <;> omega
theorem wid_len {l : List Int} {p : Nat} (hp : p < l.length) : p + wid (l.drop p) ≤ l.length := by
  obtain ⟨a, r, hd⟩ : ∃ a r, l.drop p = a :: r := by
    cases hd : l.drop p with
    | nil => have := congrArg List.length hd; simp at this; omega
    | cons a r => exact ⟨a, r, rfl⟩
  have h1 := lng_len (l.drop p)
  have hw : wid (l.drop p) = if lng (l.drop p) = 0 then 1 else lng (l.drop p) := by rw [hd]; exact wid_lng a r
  rw [List.length_drop] at h1
  split at hw <;> omega
theorem wid_four (l : List Int) : wid l ≤ 4 := by
  cases l with
  | nil => simp [wid, first]
  | cons a r =>
    have := lng_le (a :: r)
    rw [wid_lng]
    split <;> omega

/-- whether a place is an edge hangs on three bytes on each side -/
theorem lng_take (l : List Int) (n : Nat) (h : 4 ≤ n) : lng (l.take n) = lng l := by
  cases l with
  | nil => simp [lng]
  | cons a r =>
    obtain ⟨m, rfl⟩ : ∃ m, n = m + 1 := ⟨n - 1, by omega⟩
    have := need_hi a
    simp only [List.take_succ_cons, lng]
    rw [show (a :: r.take m) = (a :: r).take (m + 1) from rfl, List.take_take, show min (need a).toNat (m + 1) = (need a).toNat by omega]

end Go.Proofs.YtkdnanlgkedjgabDoor
