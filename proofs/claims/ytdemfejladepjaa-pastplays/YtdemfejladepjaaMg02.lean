/- Plain facts about edges: a place is inside just if an encoding begins ahead of it and ends behind it; from an edge the first step leads to the next edge. · Contracts of step.bad, step.first, step.floor: the step with which bytes begin; the last edge at or ahead of a place. · append([]byte{}, b...) of a []byte that came in: a []byte of the same bytes, in memory that was not there before. · Contracts of step.isPlace, At, Before, Edge, Floor, Ceil: each of any bytes at any place. -/
import Derived.Test.YtdemfejladepjaaMg01
import Derived.Test.YtdemfejladepjaaMg00
import Derived.Deep.AppendSrc

section
namespace Go.Proofs.Ytdemfejladepjaa

/-- how many bytes the encoding has that these bytes begin with; 0: none -/
def lng : List Int → Nat
  | [] => 0
  | a :: r => if whole ((a :: r).take (need a).toNat) then (need a).toNat else 0
def inside (l : List Int) (p : Nat) : Bool := (decide (1 ≤ p) && decide (1 < lng (l.drop (p - 1)))) || ((decide (2 ≤ p) && decide (2 < lng (l.drop (p - 2)))) || (decide (3 ≤ p) && decide (3 < lng (l.drop (p - 3)))))
/-- the first step's width -/
def wid (l : List Int) : Nat := (first l).2

theorem lng_le (l : List Int) : lng l ≤ 4 := by
  cases l with
  | nil => simp [lng]
  | cons a r =>
    simp only [lng]
    have := need_hi a
    split <;> omega
theorem lng_len (l : List Int) : lng l ≤ l.length := by
  cases l with
  | nil => simp [lng]
  | cons a r =>
    simp only [lng]
    split
    · rename_i h
      cases ht : (a :: r).take (need a).toNat with
      | nil => rw [ht] at h; cases h
      | cons b t =>
        have e : b = a := by
          have := congrArg (fun x : List Int => x.head?) ht
          cases hn : (need a).toNat with
          | zero => rw [hn] at ht; cases ht
          | succ k => rw [hn] at ht; simp at ht; exact ht.1.symm
        rw [ht] at h
        have h2 := (whole_first h).2
        rw [e] at h2
        have h3 := congrArg List.length ht
        simp only [List.length_take, List.length_cons] at h3 ⊢
        omega
    · omega
theorem wid_lng (a : Int) (r : List Int) : wid (a :: r) = if lng (a :: r) = 0 then 1 else lng (a :: r) := by
  simp only [wid, first, lng]
  by_cases h : whole ((a :: r).take (need a).toNat) = true
  · simp only [if_pos h]
    have hn : ¬ (need a).toNat = 0 := fun e => by rw [e] at h; cases h
    rw [if_neg hn]
  · simp only [if_neg h, if_true]
/-- within an encoding stand Tails -/
theorem lng_tail {l : List Int} {k : Nat} (h1 : 1 ≤ k) (h2 : k < lng l) : isTail (l.getD k 0) = true := by
  cases l with
  | nil => simp [lng] at h2
  | cons a r =>
    simp only [lng] at h2
    split at h2
    · rename_i h
      have hlen : (need a).toNat ≤ (a :: r).length := by have := lng_len (a :: r); simp only [lng, if_pos h] at this; exact this
      cases ht : (a :: r).take (need a).toNat with
      | nil => rw [ht] at h; cases h
      | cons b t =>
        rw [ht] at h
        have hl := congrArg List.length ht
        simp only [List.length_take, List.length_cons] at hl
        obtain ⟨j, rfl⟩ : ∃ j, k = j + 1 := ⟨k - 1, by omega⟩
        have hj : j < t.length := by simp only [List.length_cons] at hlen; omega
        have := whole_tails h t[j] (List.getElem_mem hj)
        have e : (a :: r).getD (j + 1) 0 = t[j] := by
          have h3 : ((a :: r).take (need a).toNat).getD (j + 1) 0 = (a :: r).getD (j + 1) 0 := by
            simp only [List.getD, List.getElem?_take, h2, if_true]
          rw [← h3, ht]
          simp [List.getD, List.getElem?_eq_getElem hj]
        rw [e]; exact this
    · omega
theorem lng_of_tail {l : List Int} (h : isTail (l.getD 0 0) = true) : lng l = 0 := by
  cases l with
  | nil => rfl
  | cons a r =>
    have ha : 128 ≤ a ∧ a < 192 := of_decide_eq_true h
    simp only [lng, need_0' (a := a) (Or.inl (by omega))]
    rfl

theorem inside_iff (l : List Int) (p : Nat) : inside l p = true ↔ ∃ q, q < p ∧ p < q + lng (l.drop q) := by
  simp only [inside, Bool.or_eq_true, Bool.and_eq_true, decide_eq_true_eq]
  constructor
  · rintro (⟨h1, h2⟩ | ⟨h1, h2⟩ | ⟨h1, h2⟩)
    · exact ⟨p - 1, by omega, by omega⟩
    · exact ⟨p - 2, by omega, by omega⟩
    · exact ⟨p - 3, by omega, by omega⟩
  · rintro ⟨q, h1, h2⟩
    have h4 := lng_le (l.drop q)
    have : p - q = 1 ∨ p - q = 2 ∨ p - q = 3 := by omega
    rcases this with h | h | h
    · left; rw [show p - 1 = q by omega]; omega
    · right; left; rw [show p - 2 = q by omega]; omega
    · right; right; rw [show p - 3 = q by omega]; omega
theorem inside_not (l : List Int) (p : Nat) : inside l p = false ↔ ∀ q, q < p → q + lng (l.drop q) ≤ p := by
  rw [← Bool.not_eq_true, inside_iff]
  constructor
  · intro h q hq
    rcases Nat.lt_or_ge p (q + lng (l.drop q)) with h' | h'
    · exact absurd ⟨q, hq, h'⟩ h
    · exact h'
  · rintro h ⟨q, hq, h'⟩
    have := h q hq
    omega
theorem getD_drop' (l : List Int) (q k : Nat) : (l.drop q).getD k 0 = l.getD (q + k) 0 := by simp [List.getD]

theorem edge_zero (l : List Int) : inside l 0 = false := (inside_not l 0).2 fun _ h => absurd h (Nat.not_lt_zero _)
theorem edge_len (l : List Int) : inside l l.length = false := (inside_not l _).2 fun q h => by
  have := lng_len (l.drop q)
  rw [List.length_drop] at this
  omega
/-- two encodings do not cross -/
theorem lng_cross {l : List Int} {p q : Nat} (h1 : p < q) (h2 : q < p + lng (l.drop p)) : lng (l.drop q) = 0 := by
  apply lng_of_tail
  rw [getD_drop', Nat.add_zero]
  have := lng_tail (l := l.drop p) (k := q - p) (by omega) (by omega)
  rwa [getD_drop', show p + (q - p) = q by omega] at this
/-- the first step of an edge leads to the next edge, and all between is inside -/
theorem edge_next {l : List Int} {p : Nat} (he : inside l p = false) (hp : p < l.length) : inside l (p + wid (l.drop p)) = false := by
  rw [inside_not] at he ⊢
  intro q hq
  obtain ⟨a, r, hd⟩ : ∃ a r, l.drop p = a :: r := by
    cases hd : l.drop p with
    | nil => have := congrArg List.length hd; simp at this; omega
    | cons a r => exact ⟨a, r, rfl⟩
  have hw : wid (l.drop p) = if lng (l.drop p) = 0 then 1 else lng (l.drop p) := by rw [hd]; exact wid_lng a r
  rcases Nat.lt_or_ge q p with h | h
  · have := he q h
    omega
  · rcases Nat.eq_or_lt_of_le h with h | h
    · subst h
      split at hw <;> omega
    · have hn : ¬ lng (l.drop p) = 0 := fun e => by rw [if_pos e] at hw; omega
      rw [if_neg hn] at hw
      have := lng_cross (l := l) h (by omega)
      omega
theorem edge_between {l : List Int} {p k : Nat} (h1 : 1 ≤ k) (h2 : k < wid (l.drop p)) (hp : p < l.length) : inside l (p + k) = true := by
  rw [inside_iff]
  obtain ⟨a, r, hd⟩ : ∃ a r, l.drop p = a :: r := by
    cases hd : l.drop p with
    | nil => have := congrArg List.length hd; simp at this; omega
    | cons a r => exact ⟨a, r, rfl⟩
  have hw : wid (l.drop p) = if lng (l.drop p) = 0 then 1 else lng (l.drop p) := by rw [hd]; exact wid_lng a r
  refine ⟨p, by omega, ?_⟩
  split at hw <;> omega

/-- the steps from a place on: where each begins; f: at most so many -/
def places (l : List Int) : Nat → Nat → List Nat
  | 0, _ => []
  | f + 1, p => if p < l.length then p :: places l f (p + wid (l.drop p)) else []

theorem wid_pos {l : List Int} {p : Nat} (hp : p < l.length) : 1 ≤ wid (l.drop p) := by
  obtain ⟨a, r, hd⟩ : ∃ a r, l.drop p = a :: r := by
    cases hd : l.drop p with
    | nil => have := congrArg List.length hd; simp at this; omega
    | cons a r => exact ⟨a, r, rfl⟩
  rw [hd, wid_lng]
  split <;> omega
theorem wid_len {l : List Int} {p : Nat} (hp : p < l.length) : p + wid (l.drop p) ≤ l.length := by
  obtain ⟨a, r, hd⟩ : ∃ a r, l.drop p = a :: r := by
    cases hd : l.drop p with
    | nil => have := congrArg List.length hd; simp at this; omega
    | cons a r => exact ⟨a, r, rfl⟩
  have h1 := lng_len (l.drop p)
  have hw : wid (l.drop p) = if lng (l.drop p) = 0 then 1 else lng (l.drop p) := by rw [hd]; exact wid_lng a r
  rw [List.length_drop] at h1
  split at hw <;> omega
theorem wid_four (l : List Int) : wid l ≤ 4 := by
  cases l with
  | nil => simp [wid, first]
  | cons a r =>
    have := lng_le (a :: r)
    rw [wid_lng]
    split <;> omega

/-- whether a place is an edge hangs on three bytes on each side -/
theorem lng_take (l : List Int) (n : Nat) (h : 4 ≤ n) : lng (l.take n) = lng l := by
  cases l with
  | nil => simp [lng]
  | cons a r =>
    obtain ⟨m, rfl⟩ : ∃ m, n = m + 1 := ⟨n - 1, by omega⟩
    have := need_hi a
    simp only [List.take_succ_cons, lng]
    rw [show (a :: r.take m) = (a :: r).take (m + 1) from rfl, List.take_take, show min (need a).toNat (m + 1) = (need a).toNat by omega]

end Go.Proofs.Ytdemfejladepjaa
end

section
namespace Go.Proofs.Ytdemfejladepjaa
open Go.ChangeShapes Go.WideShapes Go.ChangeAt Go.RowKit

def stepV (r : Int) (n : Nat) (b : Bool) : Value := .agg #[.int .i32 r, .int .i64 n, .bool b]
def whl (l : List Int) : Bool := decide (lng l ≠ 0)
def stp (l : List Int) : Value := stepV (first l).1 (wid l) (whl l)

theorem Lies.take {w : World} {g off : Nat} {l : List Int} (h : Lies w g off l) (n : Nat) : Lies w g off (l.take n) := by
  intro i hi
  have h1 : i < l.length := by simp at hi; omega
  have h2 : i < n := by simp at hi; omega
  have e : (l.take n).getD i 0 = l.getD i 0 := by simp [List.getD, h2]
  rw [e]
  exact h i h1
theorem Lies.drop {w : World} {g off : Nat} {l : List Int} (h : Lies w g off l) (n : Nat) : Lies w g (off + n) (l.drop n) := by
  intro i hi
  have h1 : n + i < l.length := by simp at hi; omega
  have e : (l.drop n).getD i 0 = l.getD (n + i) 0 := by simp [List.getD]
  rw [e, Nat.add_assoc]
  exact h (n + i) h1
theorem need_nat (a : Int) : ∃ n : Nat, need a = n := ⟨(need a).toNat, by have := need_lo a; omega⟩
theorem Lies.size {w : World} {g off : Nat} {a : Int} {r : List Int} (hL : Lies w g off (a :: r)) : g < w.heap.size := by
  have hc := hL.head.1
  rcases Nat.lt_or_ge g w.heap.size with h | h
  · exact h
  · simp [World.cell?, Array.getElem?_eq_none h] at hc
theorem bcell {W w1 : World} (hb : Below W.heap.size W w1) : (∀ b o, b < W.heap.size → w1.cell? ⟨b, o, none⟩ = W.cell? ⟨b, o, none⟩) ∧ (∀ b o, b < W.heap.size → w1.frozen? ⟨b, o, none⟩ = W.frozen? ⟨b, o, none⟩) :=
  ⟨fun b o h => hb.cell (p := ⟨b, o, none⟩) h, fun b o h => hb.frozen (p := ⟨b, o, none⟩) h⟩

theorem stores3 {w W : World} {B : Nat} (hb : Below w.heap.size w W) (hB : w.heap.size ≤ B) (x y z : Value) :
    Below w.heap.size w (((W.setCell ⟨B, 0, none⟩ x).setCell ⟨B, 1, none⟩ y).setCell ⟨B, 2, none⟩ z) :=
  ((hb.setCell (p := ⟨B, 0, none⟩) hB _).setCell (p := ⟨B, 1, none⟩) hB _).setCell (p := ⟨B, 2, none⟩) hB _

theorem take_cut (a : Int) (r : List Int) {n : Nat} (hn : need a = n) (hw : whole ((a :: r).take n) = true) : n ≤ r.length + 1 := by
  cases n with
  | zero => omega
  | succ m =>
    rw [List.take_succ_cons] at hw
    have := whole_need hw
    simp only [List.length_take] at this
    omega

/-- the last edge at or ahead of a place -/
def flr (l : List Int) (p : Nat) : Nat :=
  if 1 ≤ p ∧ 1 < lng (l.drop (p - 1)) then p - 1 else if 2 ≤ p ∧ 2 < lng (l.drop (p - 2)) then p - 2 else if 3 ≤ p ∧ 3 < lng (l.drop (p - 3)) then p - 3 else p
theorem flr_at {l : List Int} {p k : Nat} (h1 : 1 ≤ k) (hk : k ≤ p) (hl : k < lng (l.drop (p - k))) (hno : ∀ j, 1 ≤ j → j < k → ¬ j < lng (l.drop (p - j))) : flr l p = p - k := by
  have h4 := lng_le (l.drop (p - k))
  have : k = 1 ∨ k = 2 ∨ k = 3 := by omega
  unfold flr
  rcases this with rfl | rfl | rfl
  · rw [if_pos ⟨by omega, hl⟩]
  · rw [if_neg (fun h => hno 1 (by omega) (by omega) h.2), if_pos ⟨by omega, hl⟩]
  · rw [if_neg (fun h => hno 1 (by omega) (by omega) h.2), if_neg (fun h => hno 2 (by omega) (by omega) h.2), if_pos ⟨by omega, hl⟩]
theorem flr_no {l : List Int} {p : Nat} (hno : ∀ j, 1 ≤ j → j ≤ 3 → j ≤ p → ¬ j < lng (l.drop (p - j))) : flr l p = p := by
  unfold flr
  rw [if_neg (fun h => hno 1 (by omega) (by omega) h.1 h.2), if_neg (fun h => hno 2 (by omega) (by omega) h.1 h.2), if_neg (fun h => hno 3 (by omega) (by omega) h.1 h.2)]
theorem wid_gt {l : List Int} {k : Nat} (h : 1 ≤ k) : (k < wid l) = (k < lng l) := by
  cases l with
  | nil => simp [wid, first, lng]; omega
  | cons a r =>
    rw [wid_lng]
    split
    · rename_i e
      rw [e]
      simp; omega
    · rfl

theorem Bs.lies {w : World} {a0 : Option Addr} {l : List Int} (h : Bs w a0 l) (h0 : 0 < l.length) : ∃ g off, a0 = some ⟨g, off, none⟩ ∧ Lies w g off l ∧ g < w.heap.size := by
  rcases h with rfl | ⟨g, off, rfl, hL⟩
  · cases h0
  · cases l with
    | nil => cases h0
    | cons a r => exact ⟨g, off, rfl, hL, hL.size⟩

theorem IsB.of {w : World} {g off cap : Nat} {l : List Int} (h : Lies w g off l) (h1 : l.length ≤ cap) (h2 : l.length ≤ 140737488351232) : IsB w (some ⟨g, off, none⟩) cap l := by
  refine ⟨h1, h2, Or.inr ⟨g, off, rfl, h⟩, fun x hx => ?_⟩
  obtain ⟨i, hi, rfl⟩ := List.getElem_of_mem hx
  have := (h i hi).2
  simpa [List.getD, List.getElem?_eq_getElem hi] using this

end Go.Proofs.Ytdemfejladepjaa
end

section
namespace Go.Proofs.Ytdemfejladepjaa
open Go.ChangeShapes Go.WideShapes Go.ChangeAt Go.RowKit

theorem IsB.below {w w' : World} {B : Nat} {a0 : Option Addr} {cap : Nat} {l : List Int} (h : IsB w a0 cap l) (hb : Below B w w') (hB : w.heap.size ≤ B) : IsB w' a0 cap l := by
  obtain ⟨h1, h2, h3, h4⟩ := h
  refine ⟨h1, h2, ?_, h4⟩
  rcases h3 with h3 | ⟨g, off, rfl, hL⟩
  · exact Or.inl h3
  · cases l with
    | nil => exact Or.inl rfl
    | cons a r =>
      have hlt : g < w.heap.size := by
        have := hL.head.1
        rcases Nat.lt_or_ge g w.heap.size with h | h
        · exact h
        · simp [World.cell?, Array.getElem?_eq_none h] at this
      exact Or.inr ⟨g, off, rfl, hL.below hb (by omega)⟩

set_option maxRecDepth 100000 in
theorem info_u8 : ∃ i, Try.prog.info? 5 = some i ∧ i.zero = some (.int .u8 0) ∧ i.size = 1 ∧ i.bytes = 1 := by
  refine ⟨_, rfl, ?_, ?_, ?_⟩ <;> rfl

theorem src_none (W : World) (a0 : Option Addr) (cap : Nat) : Src Try.prog 1 118 (.slice a0 0 cap) 0 [] W := by
  cases a0 with
  | none => exact Src.ofNil W Try.underlying118 cap
  | some a => exact Src.ofSlice W Try.underlying118 a 0 cap [] rfl (fun j u h => by simp at h) (fun u h => by cases h)
theorem src_some (W : World) (g off cap : Nat) (l : List Int) (hL : Lies W g off l) : Src Try.prog 1 118 (.slice (some ⟨g, off, none⟩) l.length cap) l.length (l.map (Value.int .u8)) W := by
  refine Src.ofSlice W Try.underlying118 ⟨g, off, none⟩ l.length cap (l.map (Value.int .u8)) (by simp) (fun j u h => ?_) (fun u h => ?_)
  · have hj : j < l.length := by
      rcases Nat.lt_or_ge j l.length with h' | h'
      · exact h'
      · rw [List.getElem?_eq_none (by simpa using h')] at h; cases h
    rw [Addr.add_lit, (hL j hj).1]
    simp [List.getElem?_eq_getElem hj] at h
    simp [List.getD, List.getElem?_eq_getElem hj, h]
  · obtain ⟨x, _, rfl⟩ := List.mem_map.1 h
    rfl

theorem run_copy (w : World) (a0 : Option Addr) (cap : Nat) (l : List Int) (ty : TypeId) (hB : IsB w a0 cap l) :
    ∃ a' cap' w', (Builtin.append_ #[118, 118] ty #[.slice (some ⟨w.heap.size, 0, none⟩) 0 0, .slice a0 l.length cap]).run Try.prog (w.alloc (.cells #[] 5)) = .ok (.slice a' l.length cap') w' ∧
      l.length ≤ cap' ∧ Bs w' a' l ∧ Below w.heap.size w w' := by
  obtain ⟨i, hi, hz, hs, hby⟩ := info_u8
  have hb0 : Below w.heap.size w (w.alloc (.cells #[] 5)) := (Below.refl _ _).alloc (Nat.le_refl _) _
  obtain ⟨h1, h2, h3, h4⟩ := hB.below hb0 (Nat.le_refl _)
  rcases Nat.eq_zero_or_pos l.length with h0 | h0
  · obtain rfl : l = [] := List.length_eq_zero_iff.1 h0
    refine ⟨some ⟨w.heap.size, 0, none⟩, 0, _, ?_, Nat.le_refl _, Or.inl rfl, hb0⟩
    have := run_append_room_src (P := Try.prog) (w.alloc (.cells #[] 5)) 118 118 ty 5 i Try.underlying118 hi w.heap.size 0 0 0 (.slice a0 0 cap) 0 [] (by rw [hs]; exact src_none _ a0 cap) (Nat.le_refl _) (fun j hj => absurd hj (Nat.not_lt_zero _)) (fun j hj => absurd hj (Nat.not_lt_zero _))
    exact this
  · rcases h3 with h3 | ⟨g, off, rfl, hL⟩
    · rw [h3] at h0; cases h0
    have hcap : Builtin.nextslicecap (0 + l.length) 0 = l.length := by unfold Builtin.nextslicecap; rw [if_pos (by omega)]; omega
    have := run_append_grow_src (P := Try.prog) (w.alloc (.cells #[] 5)) 118 118 ty 5 i (.int .u8 0) Try.underlying118 hi hz (some ⟨w.heap.size, 0, none⟩) 0 0 []
      (by rw [hs]; exact run_firstCells_some _ 1 0 _ 0 0 [] rfl (fun j v h => by simp at h)) (.slice (some ⟨g, off, none⟩) l.length cap) l.length (l.map (Value.int .u8)) (by rw [hs]; exact src_some _ g off cap l hL) (by omega) (by omega)
      (by rw [hcap, hby]; omega)
    rw [Nat.zero_add, List.nil_append] at this
    refine ⟨_, _, _, this, ?_, Or.inr ⟨_, 0, rfl, ?_⟩, ?_⟩
    · exact grownCap_ge _ _ _ _
    · intro j hj
      refine ⟨?_, (hL j hj).2⟩
      rw [Nat.zero_add]
      refine (World.cell?_alloc_mark (w.alloc (.cells #[] 5)).drew _ 5 (0, 0) j).trans ?_
      rw [Array.getElem?_append_left (by simpa using hj)]
      simp [List.getElem?_eq_getElem hj, List.getD]
    · exact (hb0.drew).alloc (by simp) _

/-- an append whose run is known, guarded or not -/
theorem wpList_append_known {P : Program} {ops : Array Oper} {rest : List Oper} {o : Oper} {a : Act} {Q : Exit → Act → World → Prop} {w : World} (hw : Region.wanted o (yielded ops a.tmps) = true) (s x : Operand) (t tx : TypeId)
    (ho : o.op = .call { callee := .builtin .append, args := #[s, x], argTypes := #[t, tx] }) (v u : Value) (hs : a.eval s = v) (hx : a.eval x = u) (v' : Value) (w' : World)
    (hr : (Builtin.append_ #[t, tx] o.type #[v, u]).run P w = .ok v' w') (h : wpList P ops Q rest (a.put o.dst v') w') : wpList P ops Q (o :: rest) a w := by
  unfold wpList
  rw [if_pos hw]
  left
  unfold Oper.wp execOp
  simp only [ho, resolve, invoke, builtin, Sem.run_bind, Sem.run_pure, Result.andThen_ok, List.map_toArray, List.map_cons, List.map_nil, hs, hx, hr]
  exact h

end Go.Proofs.Ytdemfejladepjaa
end

section
namespace Go.Proofs.Ytdemfejladepjaa
open Go.ChangeShapes Go.WideShapes Go.ChangeAt Go.RowKit

theorem flr_inside (l : List Int) (p : Nat) : (flr l p = p) = (inside l p = false) := by
  unfold flr inside
  by_cases h1 : 1 ≤ p ∧ 1 < lng (l.drop (p - 1))
  · rw [if_pos h1]
    simp only [decide_eq_true h1.1, decide_eq_true h1.2, Bool.and_self, Bool.true_or]
    simp; omega
  · rw [if_neg h1]
    by_cases h2 : 2 ≤ p ∧ 2 < lng (l.drop (p - 2))
    · rw [if_pos h2]
      simp only [decide_eq_true h2.1, decide_eq_true h2.2, Bool.and_self, Bool.true_or, Bool.or_true]
      simp; omega
    · rw [if_neg h2]
      by_cases h3 : 3 ≤ p ∧ 3 < lng (l.drop (p - 3))
      · rw [if_pos h3]
        simp only [decide_eq_true h3.1, decide_eq_true h3.2, Bool.and_self, Bool.or_true]
        simp; omega
      · rw [if_neg h3]
        refine propext ⟨fun _ => ?_, fun _ => rfl⟩
        simp only [Bool.or_eq_false_iff, ← Bool.decide_and, decide_eq_false_iff_not]
        exact ⟨h1, h2, h3⟩
theorem flr_le (l : List Int) (p : Nat) : flr l p ≤ p := by
  unfold flr
  repeat' split
  all_goals omega
theorem flr_ne {l : List Int} {p : Nat} (h : inside l p = true) : ¬ flr l p = p := by rw [flr_inside, h]; simp
theorem flr_eq {l : List Int} {p : Nat} (h : inside l p = false) : flr l p = p := by rw [flr_inside]; exact h
/-- the floor of a place that is inside: an encoding begins there and goes over the place -/
theorem flr_over {l : List Int} {p : Nat} (h : inside l p = true) : flr l p < p ∧ p < flr l p + lng (l.drop (flr l p)) := by
  have hne := flr_ne h
  unfold flr at hne ⊢
  by_cases h1 : 1 ≤ p ∧ 1 < lng (l.drop (p - 1))
  · rw [if_pos h1]; omega
  · rw [if_neg h1] at hne ⊢
    by_cases h2 : 2 ≤ p ∧ 2 < lng (l.drop (p - 2))
    · rw [if_pos h2]; omega
    · rw [if_neg h2] at hne ⊢
      by_cases h3 : 3 ≤ p ∧ 3 < lng (l.drop (p - 3))
      · rw [if_pos h3]; omega
      · rw [if_neg h3] at hne; exact absurd rfl hne
theorem flr_wid {l : List Int} {p : Nat} (h : inside l p = true) : flr l p < p ∧ p < flr l p + wid (l.drop (flr l p)) := by
  obtain ⟨h1, h2⟩ := flr_over h
  refine ⟨h1, ?_⟩
  have := wid_gt (l := l.drop (flr l p)) (k := p - flr l p) (by omega)
  have h3 : p - flr l p < wid (l.drop (flr l p)) := by rw [this]; omega
  omega
/-- the floor is an edge -/
theorem flr_edge (l : List Int) (p : Nat) : inside l (flr l p) = false := by
  cases h : inside l p with
  | false => rw [flr_eq h]; exact h
  | true =>
    obtain ⟨h1, h2⟩ := flr_over h
    rw [← Bool.not_eq_true, inside_iff]
    rintro ⟨q, hq, hq2⟩
    have := lng_cross (l := l) hq hq2
    omega

def zeroV : Value := stepV 0 0 false
def atV (l : List Int) (p : Int) : Value :=
  if p < 0 ∨ (l.length : Int) ≤ p then .tuple #[zeroV, .int .i64 2] else if inside l p.toNat then .tuple #[zeroV, .int .i64 4] else .tuple #[stp (l.drop p.toNat), .int .i64 0]
def beforeV (l : List Int) (p : Int) : Value :=
  if p < 1 ∨ (l.length : Int) < p then .tuple #[zeroV, .int .i64 2] else if inside l p.toNat then .tuple #[zeroV, .int .i64 4] else .tuple #[stp (l.drop (flr l (p.toNat - 1))), .int .i64 0]
def edgeB (l : List Int) (p : Int) : Bool := decide (0 ≤ p ∧ p ≤ (l.length : Int)) && !inside l p.toNat
def floorV (l : List Int) (p : Int) : Value := if p < 0 ∨ (l.length : Int) < p then .tuple #[.int .i64 0, .int .i64 2] else .tuple #[.int .i64 (flr l p.toNat), .int .i64 0]
def ceil (l : List Int) (p : Nat) : Nat := if inside l p then flr l p + wid (l.drop (flr l p)) else p
def ceilV (l : List Int) (p : Int) : Value := if p < 0 ∨ (l.length : Int) < p then .tuple #[.int .i64 0, .int .i64 2] else .tuple #[.int .i64 (ceil l p.toNat), .int .i64 0]

end Go.Proofs.Ytdemfejladepjaa
end
