/- Plain facts about edges: a place is inside just if an encoding begins ahead of it and ends behind it; from an edge the first step leads to the next edge. · Contracts of step.bad, step.first, step.floor: the step with which bytes begin; the last edge at or ahead of a place. -/
import Derived.Test.YtdemagijhmbdcaaDo06
import Derived.Test.YtdemagijhmbdcaaDo03

section
namespace Go.Proofs.Ytdemagijhmbdcaa

/-- how many bytes the encoding has that these bytes begin with; 0: none -/
def lng : List Int → Nat
  | [] => 0
  | a :: r => if whole ((a :: r).take (need a).toNat) then (need a).toNat else 0
def inside (l : List Int) (p : Nat) : Bool := (decide (1 ≤ p) && decide (1 < lng (l.drop (p - 1)))) || ((decide (2 ≤ p) && decide (2 < lng (l.drop (p - 2)))) || (decide (3 ≤ p) && decide (3 < lng (l.drop (p - 3)))))
/-- the first step's width -/
def wid (l : List Int) : Nat := (first l).2

theorem lng_le (l : List Int) : lng l ≤ 4 := by
  cases l with
  | nil => simp [lng]
  | cons a r =>
    simp only [lng]
    have := need_hi a
    split <;> omega
theorem lng_len (l : List Int) : lng l ≤ l.length := by
  cases l with
  | nil => simp [lng]
  | cons a r =>
    simp only [lng]
    split
    · rename_i h
      cases ht : (a :: r).take (need a).toNat with
      | nil => rw [ht] at h; cases h
      | cons b t =>
        have e : b = a := by
          have := congrArg (fun x : List Int => x.head?) ht
          cases hn : (need a).toNat with
          | zero => rw [hn] at ht; cases ht
          | succ k => rw [hn] at ht; simp at ht; exact ht.1.symm
        rw [ht] at h
        have h2 := (whole_first h).2
        rw [e] at h2
        have h3 := congrArg List.length ht
        simp only [List.length_take, List.length_cons] at h3 ⊢
        omega
    · omega
theorem wid_lng (a : Int) (r : List Int) : wid (a :: r) = if lng (a :: r) = 0 then 1 else lng (a :: r) := by
  simp only [wid, first, lng]
  by_cases h : whole ((a :: r).take (need a).toNat) = true
  · simp only [if_pos h]
    have hn : ¬ (need a).toNat = 0 := fun e => by rw [e] at h; cases h
    rw [if_neg hn]
  · simp only [if_neg h, if_true]
/-- within an encoding stand Tails -/
theorem lng_tail {l : List Int} {k : Nat} (h1 : 1 ≤ k) (h2 : k < lng l) : isTail (l.getD k 0) = true := by
  cases l with
  | nil => simp [lng] at h2
  | cons a r =>
    simp only [lng] at h2
    split at h2
    · rename_i h
      have hlen : (need a).toNat ≤ (a :: r).length := by have := lng_len (a :: r); simp only [lng, if_pos h] at this; exact this
      cases ht : (a :: r).take (need a).toNat with
      | nil => rw [ht] at h; cases h
      | cons b t =>
        rw [ht] at h
        have hl := congrArg List.length ht
        simp only [List.length_take, List.length_cons] at hl
        obtain ⟨j, rfl⟩ : ∃ j, k = j + 1 := ⟨k - 1, by omega⟩
        have hj : j < t.length := by simp only [List.length_cons] at hlen; omega
        have := whole_tails h t[j] (List.getElem_mem hj)
        have e : (a :: r).getD (j + 1) 0 = t[j] := by
          have h3 : ((a :: r).take (need a).toNat).getD (j + 1) 0 = (a :: r).getD (j + 1) 0 := by
            simp only [List.getD, List.getElem?_take, h2, if_true]
          rw [← h3, ht]
          simp [List.getD, List.getElem?_eq_getElem hj]
        rw [e]; exact this
    · omega
theorem lng_of_tail {l : List Int} (h : isTail (l.getD 0 0) = true) : lng l = 0 := by
  cases l with
  | nil => rfl
  | cons a r =>
    have ha : 128 ≤ a ∧ a < 192 := of_decide_eq_true h
    simp only [lng, need_0' (a := a) (Or.inl (by omega))]
    rfl

theorem inside_iff (l : List Int) (p : Nat) : inside l p = true ↔ ∃ q, q < p ∧ p < q + lng (l.drop q) := by
  simp only [inside, Bool.or_eq_true, Bool.and_eq_true, decide_eq_true_eq]
  constructor
  · rintro (⟨h1, h2⟩ | ⟨h1, h2⟩ | ⟨h1, h2⟩)
    · exact ⟨p - 1, by omega, by omega⟩
    · exact ⟨p - 2, by omega, by omega⟩
    · exact ⟨p - 3, by omega, by omega⟩
  · rintro ⟨q, h1, h2⟩
    have h4 := lng_le (l.drop q)
    have : p - q = 1 ∨ p - q = 2 ∨ p - q = 3 := by omega
    rcases this with h | h | h
    · left; rw [show p - 1 = q by omega]; omega
    · right; left; rw [show p - 2 = q by omega]; omega
    · right; right; rw [show p - 3 = q by omega]; omega
theorem inside_not (l : List Int) (p : Nat) : inside l p = false ↔ ∀ q, q < p → q + lng (l.drop q) ≤ p := by
  rw [← Bool.not_eq_true, inside_iff]
  constructor
  · intro h q hq
    rcases Nat.lt_or_ge p (q + lng (l.drop q)) with h' | h'
    · exact absurd ⟨q, hq, h'⟩ h
    · exact h'
  · rintro h ⟨q, hq, h'⟩
    have := h q hq
    omega
theorem getD_drop' (l : List Int) (q k : Nat) : (l.drop q).getD k 0 = l.getD (q + k) 0 := by simp [List.getD]

theorem edge_zero (l : List Int) : inside l 0 = false := (inside_not l 0).2 fun _ h => absurd h (Nat.not_lt_zero _)
theorem edge_len (l : List Int) : inside l l.length = false := (inside_not l _).2 fun q h => by
  have := lng_len (l.drop q)
  rw [List.length_drop] at this
  omega
/-- two encodings do not cross -/
theorem lng_cross {l : List Int} {p q : Nat} (h1 : p < q) (h2 : q < p + lng (l.drop p)) : lng (l.drop q) = 0 := by
  apply lng_of_tail
  rw [getD_drop', Nat.add_zero]
  have := lng_tail (l := l.drop p) (k := q - p) (by omega) (by omega)
  rwa [getD_drop', show p + (q - p) = q by omega] at this
/-- the first step of an edge leads to the next edge, and all between is inside -/
theorem edge_next {l : List Int} {p : Nat} (he : inside l p = false) (hp : p < l.length) : inside l (p + wid (l.drop p)) = false := by
  rw [inside_not] at he ⊢
  intro q hq
  obtain ⟨a, r, hd⟩ : ∃ a r, l.drop p = a :: r := by
    cases hd : l.drop p with
    | nil => have := congrArg List.length hd; simp at this; omega
    | cons a r => exact ⟨a, r, rfl⟩
  have hw : wid (l.drop p) = if lng (l.drop p) = 0 then 1 else lng (l.drop p) := by rw [hd]; exact wid_lng a r
  rcases Nat.lt_or_ge q p with h | h
  · have := he q h
    omega
  · rcases Nat.eq_or_lt_of_le h with h | h
    · subst h
      split at hw <;> omega
    · have hn : ¬ lng (l.drop p) = 0 := fun e => by rw [if_pos e] at hw; omega
      rw [if_neg hn] at hw
      have := lng_cross (l := l) h (by omega)
      omega
theorem edge_between {l : List Int} {p k : Nat} (h1 : 1 ≤ k) (h2 : k < wid (l.drop p)) (hp : p < l.length) : inside l (p + k) = true := by
  rw [inside_iff]
  obtain ⟨a, r, hd⟩ : ∃ a r, l.drop p = a :: r := by
    cases hd : l.drop p with
    | nil => have := congrArg List.length hd; simp at this; omega
    | cons a r => exact ⟨a, r, rfl⟩
  have hw : wid (l.drop p) = if lng (l.drop p) = 0 then 1 else lng (l.drop p) := by rw [hd]; exact wid_lng a r
  refine ⟨p, by omega, ?_⟩
  split at hw <;> omega

/-- the steps from a place on: where each begins; f: at most so many -/
def places (l : List Int) : Nat → Nat → List Nat
  | 0, _ => []
  | f + 1, p => if p < l.length then p :: places l f (p + wid (l.drop p)) else []

theorem wid_pos {l : List Int} {p : Nat} (hp : p < l.length) : 1 ≤ wid (l.drop p) := by
  obtain ⟨a, r, hd⟩ : ∃ a r, l.drop p = a :: r := by
    cases hd : l.drop p with
    | nil => have := congrArg List.length hd; simp at this; omega
    | cons a r => exact ⟨a, r, rfl⟩
  rw [hd, wid_lng]
  split <;> omega
theorem wid_len {l : List Int} {p : Nat} (hp : p < l.length) : p + wid (l.drop p) ≤ l.length := by
  obtain ⟨a, r, hd⟩ : ∃ a r, l.drop p = a :: r := by
    cases hd : l.drop p with
    | nil => have := congrArg List.length hd; simp at this; omega
    | cons a r => exact ⟨a, r, rfl⟩
  have h1 := lng_len (l.drop p)
  have hw : wid (l.drop p) = if lng (l.drop p) = 0 then 1 else lng (l.drop p) := by rw [hd]; exact wid_lng a r
  rw [List.length_drop] at h1
  split at hw <;> omega
theorem wid_four (l : List Int) : wid l ≤ 4 := by
  cases l with
  | nil => simp [wid, first]
  | cons a r =>
    have := lng_le (a :: r)
    rw [wid_lng]
    split <;> omega

/-- whether a place is an edge hangs on three bytes on each side -/
theorem lng_take (l : List Int) (n : Nat) (h : 4 ≤ n) : lng (l.take n) = lng l := by
  cases l with
  | nil => simp [lng]
  | cons a r =>
    obtain ⟨m, rfl⟩ : ∃ m, n = m + 1 := ⟨n - 1, by omega⟩
    have := need_hi a
    simp only [List.take_succ_cons, lng]
    rw [show (a :: r.take m) = (a :: r).take (m + 1) from rfl, List.take_take, show min (need a).toNat (m + 1) = (need a).toNat by omega]

end Go.Proofs.Ytdemagijhmbdcaa
end

section
namespace Go.Proofs.Ytdemagijhmbdcaa
open Go.ChangeShapes Go.WideShapes Go.ChangeAt Go.RowKit

def stepV (r : Int) (n : Nat) (b : Bool) : Value := .agg #[.int .i32 r, .int .i64 n, .bool b]
def whl (l : List Int) : Bool := decide (lng l ≠ 0)
def stp (l : List Int) : Value := stepV (first l).1 (wid l) (whl l)

theorem Lies.take {w : World} {g off : Nat} {l : List Int} (h : Lies w g off l) (n : Nat) : Lies w g off (l.take n) := by
  intro i hi
  have h1 : i < l.length := by simp at hi; omega
  have h2 : i < n := by simp at hi; omega
  have e : (l.take n).getD i 0 = l.getD i 0 := by simp [List.getD, h2]
  rw [e]
  exact h i h1
theorem Lies.drop {w : World} {g off : Nat} {l : List Int} (h : Lies w g off l) (n : Nat) : Lies w g (off + n) (l.drop n) := by
  intro i hi
  have h1 : n + i < l.length := by simp at hi; omega
  have e : (l.drop n).getD i 0 = l.getD (n + i) 0 := by simp [List.getD]
  rw [e, Nat.add_assoc]
  exact h (n + i) h1
theorem need_nat (a : Int) : ∃ n : Nat, need a = n := ⟨(need a).toNat, by have := need_lo a; omega⟩
theorem Lies.size {w : World} {g off : Nat} {a : Int} {r : List Int} (hL : Lies w g off (a :: r)) : g < w.heap.size := by
  have hc := hL.head.1
  rcases Nat.lt_or_ge g w.heap.size with h | h
  · exact h
  · simp [World.cell?, Array.getElem?_eq_none h] at hc
theorem bcell {W w1 : World} (hb : Below W.heap.size W w1) : (∀ b o, b < W.heap.size → w1.cell? ⟨b, o, none⟩ = W.cell? ⟨b, o, none⟩) ∧ (∀ b o, b < W.heap.size → w1.frozen? ⟨b, o, none⟩ = W.frozen? ⟨b, o, none⟩) :=
  ⟨fun b o h => hb.cell (p := ⟨b, o, none⟩) h, fun b o h => hb.frozen (p := ⟨b, o, none⟩) h⟩

theorem stores3 {w W : World} {B : Nat} (hb : Below w.heap.size w W) (hB : w.heap.size ≤ B) (x y z : Value) :
    Below w.heap.size w (((W.setCell ⟨B, 0, none⟩ x).setCell ⟨B, 1, none⟩ y).setCell ⟨B, 2, none⟩ z) :=
  ((hb.setCell (p := ⟨B, 0, none⟩) hB _).setCell (p := ⟨B, 1, none⟩) hB _).setCell (p := ⟨B, 2, none⟩) hB _

theorem take_cut (a : Int) (r : List Int) {n : Nat} (hn : need a = n) (hw : whole ((a :: r).take n) = true) : n ≤ r.length + 1 := by
  cases n with
  | zero => omega
  | succ m =>
    rw [List.take_succ_cons] at hw
    have := whole_need hw
    simp only [List.length_take] at this
    omega

/-- the last edge at or ahead of a place -/
def flr (l : List Int) (p : Nat) : Nat :=
  if 1 ≤ p ∧ 1 < lng (l.drop (p - 1)) then p - 1 else if 2 ≤ p ∧ 2 < lng (l.drop (p - 2)) then p - 2 else if 3 ≤ p ∧ 3 < lng (l.drop (p - 3)) then p - 3 else p
theorem flr_at {l : List Int} {p k : Nat} (h1 : 1 ≤ k) (hk : k ≤ p) (hl : k < lng (l.drop (p - k))) (hno : ∀ j, 1 ≤ j → j < k → ¬ j < lng (l.drop (p - j))) : flr l p = p - k := by
  have h4 := lng_le (l.drop (p - k))
  have : k = 1 ∨ k = 2 ∨ k = 3 := by omega
  unfold flr
  rcases this with rfl | rfl | rfl
  · rw [if_pos ⟨by omega, hl⟩]
  · rw [if_neg (fun h => hno 1 (by omega) (by omega) h.2), if_pos ⟨by omega, hl⟩]
  · rw [if_neg (fun h => hno 1 (by omega) (by omega) h.2), if_neg (fun h => hno 2 (by omega) (by omega) h.2), if_pos ⟨by omega, hl⟩]
theorem flr_no {l : List Int} {p : Nat} (hno : ∀ j, 1 ≤ j → j ≤ 3 → j ≤ p → ¬ j < lng (l.drop (p - j))) : flr l p = p := by
  unfold flr
  rw [if_neg (fun h => hno 1 (by omega) (by omega) h.1 h.2), if_neg (fun h => hno 2 (by omega) (by omega) h.1 h.2), if_neg (fun h => hno 3 (by omega) (by omega) h.1 h.2)]
theorem wid_gt {l : List Int} {k : Nat} (h : 1 ≤ k) : (k < wid l) = (k < lng l) := by
  cases l with
  | nil => simp [wid, first, lng]; omega
  | cons a r =>
    rw [wid_lng]
    split
    · rename_i e
      rw [e]
      simp; omega
    · rfl

theorem Bs.lies {w : World} {a0 : Option Addr} {l : List Int} (h : Bs w a0 l) (h0 : 0 < l.length) : ∃ g off, a0 = some ⟨g, off, none⟩ ∧ Lies w g off l ∧ g < w.heap.size := by
  rcases h with rfl | ⟨g, off, rfl, hL⟩
  · cases h0
  · cases l with
    | nil => cases h0
    | cons a r => exact ⟨g, off, rfl, hL, hL.size⟩

theorem IsB.of {w : World} {g off cap : Nat} {l : List Int} (h : Lies w g off l) (h1 : l.length ≤ cap) (h2 : l.length ≤ 140737488351232) : IsB w (some ⟨g, off, none⟩) cap l := by
  refine ⟨h1, h2, Or.inr ⟨g, off, rfl, h⟩, fun x hx => ?_⟩
  obtain ⟨i, hi, rfl⟩ := List.getElem_of_mem hx
  have := (h i hi).2
  simpa [List.getD, List.getElem?_eq_getElem hi] using this

end Go.Proofs.Ytdemagijhmbdcaa
end
