/- Contracts of step.isPlace, At, Before, Edge, Floor, Ceil: each of any bytes at any place. · Contracts of strings.HasPrefix at the stand-in's own encoding, and of step.told. · The steps' places, one behind the other; ranging over a string whose block lies anywhere; contract of step.Valid. -/
import Derived.Test.YtdemagijhmbdcaaDo07
import Derived.Test.YtdemagijhmbdcaaDo03
import Derived.Test.YtdemagijhmbdcaaDo04
import Derived.Laws.RangeAny
import Derived.RangeFuncRecord

section
namespace Go.Proofs.Ytdemagijhmbdcaa
open Go.ChangeShapes Go.WideShapes Go.ChangeAt Go.RowKit

theorem flr_inside (l : List Int) (p : Nat) : (flr l p = p) = (inside l p = false) := by
  unfold flr inside
  by_cases h1 : 1 ≤ p ∧ 1 < lng (l.drop (p - 1))
  · rw [if_pos h1]
    simp only [decide_eq_true h1.1, decide_eq_true h1.2, Bool.and_self, Bool.true_or]
    simp; omega
  · rw [if_neg h1]
    by_cases h2 : 2 ≤ p ∧ 2 < lng (l.drop (p - 2))
    · rw [if_pos h2]
      simp only [decide_eq_true h2.1, decide_eq_true h2.2, Bool.and_self, Bool.true_or, Bool.or_true]
      simp; omega
    · rw [if_neg h2]
      by_cases h3 : 3 ≤ p ∧ 3 < lng (l.drop (p - 3))
      · rw [if_pos h3]
        simp only [decide_eq_true h3.1, decide_eq_true h3.2, Bool.and_self, Bool.or_true]
        simp; omega
      · rw [if_neg h3]
        refine propext ⟨fun _ => ?_, fun _ => rfl⟩
        simp only [Bool.or_eq_false_iff, ← Bool.decide_and, decide_eq_false_iff_not]
        exact ⟨h1, h2, h3⟩
theorem flr_le (l : List Int) (p : Nat) : flr l p ≤ p := by
  unfold flr
  repeat' split
  all_goals omega
theorem flr_ne {l : List Int} {p : Nat} (h : inside l p = true) : ¬ flr l p = p := by rw [flr_inside, h]; simp
theorem flr_eq {l : List Int} {p : Nat} (h : inside l p = false) : flr l p = p := by rw [flr_inside]; exact h
/-- the floor of a place that is inside: an encoding begins there and goes over the place -/
theorem flr_over {l : List Int} {p : Nat} (h : inside l p = true) : flr l p < p ∧ p < flr l p + lng (l.drop (flr l p)) := by
  have hne := flr_ne h
  unfold flr at hne ⊢
  by_cases h1 : 1 ≤ p ∧ 1 < lng (l.drop (p - 1))
  · rw [if_pos h1]; omega
  · rw [if_neg h1] at hne ⊢
    by_cases h2 : 2 ≤ p ∧ 2 < lng (l.drop (p - 2))
    · rw [if_pos h2]; omega
    · rw [if_neg h2] at hne ⊢
      by_cases h3 : 3 ≤ p ∧ 3 < lng (l.drop (p - 3))
      · rw [if_pos h3]; omega
      · rw [if_neg h3] at hne; exact absurd rfl hne
theorem flr_wid {l : List Int} {p : Nat} (h : inside l p = true) : flr l p < p ∧ p < flr l p + wid (l.drop (flr l p)) := by
  obtain ⟨h1, h2⟩ := flr_over h
  refine ⟨h1, ?_⟩
  have := wid_gt (l := l.drop (flr l p)) (k := p - flr l p) (by omega)
  have h3 : p - flr l p < wid (l.drop (flr l p)) := by rw [this]; omega
  omega
/-- the floor is an edge -/
theorem flr_edge (l : List Int) (p : Nat) : inside l (flr l p) = false := by
  cases h : inside l p with
  | false => rw [flr_eq h]; exact h
  | true =>
    obtain ⟨h1, h2⟩ := flr_over h
    rw [← Bool.not_eq_true, inside_iff]
    rintro ⟨q, hq, hq2⟩
    have := lng_cross (l := l) hq hq2
    omega

def zeroV : Value := stepV 0 0 false
def atV (l : List Int) (p : Int) : Value :=
  if p < 0 ∨ (l.length : Int) ≤ p then .tuple #[zeroV, .int .i64 2] else if inside l p.toNat then .tuple #[zeroV, .int .i64 4] else .tuple #[stp (l.drop p.toNat), .int .i64 0]
def beforeV (l : List Int) (p : Int) : Value :=
  if p < 1 ∨ (l.length : Int) < p then .tuple #[zeroV, .int .i64 2] else if inside l p.toNat then .tuple #[zeroV, .int .i64 4] else .tuple #[stp (l.drop (flr l (p.toNat - 1))), .int .i64 0]
def edgeB (l : List Int) (p : Int) : Bool := decide (0 ≤ p ∧ p ≤ (l.length : Int)) && !inside l p.toNat
def floorV (l : List Int) (p : Int) : Value := if p < 0 ∨ (l.length : Int) < p then .tuple #[.int .i64 0, .int .i64 2] else .tuple #[.int .i64 (flr l p.toNat), .int .i64 0]
def ceil (l : List Int) (p : Nat) : Nat := if inside l p then flr l p + wid (l.drop (flr l p)) else p
def ceilV (l : List Int) (p : Int) : Value := if p < 0 ∨ (l.length : Int) < p then .tuple #[.int .i64 0, .int .i64 2] else .tuple #[.int .i64 (ceil l p.toNat), .int .i64 0]

end Go.Proofs.Ytdemagijhmbdcaa
end

section
namespace Go.Proofs.Ytdemagijhmbdcaa
open Go.ChangeShapes Go.WideShapes Go.ChangeAt Go.RowKit

theorem str_extract (l : List Int) (i j : Nat) : (strOfNums l).extract i j = strOfNums ((l.drop i).take (j - i)) := by
  apply ByteArray.ext
  rw [ByteArray.data_extract]
  simp only [strOfNums]
  apply Array.ext'
  rw [Array.toList_extract]
  simp [List.extract, List.map_drop, List.map_take]

theorem fffd_lng {m : List Int} (h : m.take 3 = [239, 191, 189]) : lng m = 3 ∧ (first m).1 = 65533 := by
  match m with
  | [] => cases h
  | [_] => cases h
  | [_, _] => cases h
  | a :: b :: c :: t =>
    simp only [List.take_succ_cons, List.take_zero, List.cons.injEq, and_true] at h
    obtain ⟨rfl, rfl, rfl⟩ := h
    exact ⟨by simp [lng, need, whole, sec, isTail], by simp [first, need, whole, sec, isTail, value, fold, lead]⟩
theorem lng_fffd {m : List Int} (hm : ∀ x ∈ m, 0 ≤ x ∧ x ≤ 255) (h : lng m ≠ 0) (hr : (first m).1 = 65533) : m.take 3 = [239, 191, 189] := by
  match m with
  | [] => simp [lng] at h
  | a :: r =>
    simp only [lng] at h
    split at h
    · rename_i hw
      simp only [first, if_pos hw] at hr
      have he := enc_value hw (fun x hx => hm x (List.mem_of_mem_take hx))
      rw [hr, enc_3 (by decide) (by decide) (by decide)] at he
      have hn : (need a).toNat = 3 ∨ ¬ (need a).toNat = 3 := by omega
      have hl := congrArg List.length he
      have h4 := need_hi a
      simp only [List.length_take, List.length_cons, List.length_nil] at hl
      have e3 : ((a :: r).take (need a).toNat).take 3 = (a :: r).take 3 := by rw [List.take_take, show min 3 (need a).toNat = 3 by omega]
      rw [← e3, ← he]
      decide
    · exact absurd rfl h

theorem str_fffd {l : List Int} (hl : ∀ x ∈ l, 0 ≤ x ∧ x ≤ 255) : ((strOfNums l).toList == ([239, 191, 189] : List UInt8)) = decide (l = [239, 191, 189]) := by
  have h := str_beq (m := [239, 191, 189]) hl (by decide)
  rw [Lib.strOfNums_toList, Lib.strOfNums_toList] at h
  rw [Lib.strOfNums_toList]
  exact h

theorem first_bad {l : List Int} (h : lng l = 0) : (first l).1 = 65533 := by
  cases l with
  | nil => rfl
  | cons a r =>
    simp only [first]
    split
    · rename_i hw
      simp only [lng, if_pos hw] at h
      rw [h] at hw
      cases hw
    · rfl
theorem stp_bad' {l : List Int} (h : lng l = 0) : stp l = stepV 65533 1 false := by
  cases l with
  | nil => simp [stp, wid, whl, first, lng]
  | cons a r =>
    have hw : wid (a :: r) = 1 := by rw [wid_lng, if_pos h]
    simp [stp, hw, first_bad h, whl, h]
theorem need_of_lng {a : Int} {r : List Int} (h : lng (a :: r) ≠ 0) : need a = ((lng (a :: r) : Nat) : Int) ∧ wid (a :: r) = lng (a :: r) ∧ whl (a :: r) = true := by
  refine ⟨?_, by rw [wid_lng, if_neg h], by simp [whl, h]⟩
  have := need_lo a
  simp only [lng] at h ⊢
  split at h
  · rename_i hw; rw [if_pos hw]; omega
  · exact absurd rfl h

end Go.Proofs.Ytdemagijhmbdcaa
end

section
namespace Go.Proofs.Ytdemagijhmbdcaa
open Go.ChangeShapes Go.WideShapes Go.ChangeAt Go.RowKit

theorem places_end (l : List Int) (f p : Nat) (h : ¬ p < l.length) : places l f p = [] := by
  cases f with
  | zero => rfl
  | succ f => simp only [places, if_neg h]
theorem places_fuel (l : List Int) : ∀ (f f' p : Nat), l.length - p ≤ f → l.length - p ≤ f' → places l f p = places l f' p
  | 0, f', p, h, _ => by rw [places_end l f' p (by omega)]; rfl
  | f + 1, 0, p, _, h => by rw [places_end l (f + 1) p (by omega)]; rfl
  | f + 1, f' + 1, p, h, h' => by
    simp only [places]
    by_cases hp : p < l.length
    · rw [if_pos hp, if_pos hp]
      have := wid_pos hp
      rw [places_fuel l f f' (p + wid (l.drop p)) (by omega) (by omega)]
    · rw [if_neg hp, if_neg hp]
/-- where the steps begin, from a place on -/
def spots (l : List Int) (p : Nat) : List Nat := places l (l.length - p) p
theorem spots_end {l : List Int} {p : Nat} (h : ¬ p < l.length) : spots l p = [] := places_end l _ p h
theorem spots_cons {l : List Int} {p : Nat} (h : p < l.length) : spots l p = p :: spots l (p + wid (l.drop p)) := by
  unfold spots
  obtain ⟨f, hf⟩ : ∃ f, l.length - p = f + 1 := ⟨l.length - p - 1, by omega⟩
  have := wid_pos h
  rw [hf]
  simp only [places, if_pos h]
  rw [places_fuel l f (l.length - (p + wid (l.drop p))) _ (by omega) (by omega)]
def valid (l : List Int) : Bool := (spots l 0).all fun p => whl (l.drop p)

/-- the next rune of a string that is ranged over, wherever its block lies -/
theorem next_in {P : Program} (w : World) (k : Nat) (s : ByteArray) (pos : Nat) (ty : TypeId) (hk : w.heap[k]? = some (.stringIter s pos)) (h : pos < s.size) :
    (Instr.next (.pointer (some ⟨k, 0, none⟩)) true ty).run P w = .ok (.tuple #[.bool true, .int .i64 pos, .int .i32 (Utf8.decode s pos).1]) (w.putObj k (.stringIter s (pos + (Utf8.decode s pos).2))) := by
  simp only [Instr.next, getObj, setObj, Sem.run_bind, Sem.run, hk, Result.andThen, h, if_true]
  simp [goInt, World.putObj]
theorem next_out {P : Program} (w : World) (k : Nat) (s : ByteArray) (pos : Nat) (ty : TypeId) (hk : w.heap[k]? = some (.stringIter s pos)) (h : ¬ pos < s.size) :
    (Instr.next (.pointer (some ⟨k, 0, none⟩)) true ty).run P w = .ok (.tuple #[.bool false]) w := by
  simp [Instr.next, getObj, Sem.run, hk, h]
theorem below_put {B k : Nat} {a w : World} {o : Obj} (h : Below B a w) (hk : B ≤ k) : Below B a (w.putObj k o) := by
  refine ⟨h.os, h.tape, h.output, by simpa using h.size, fun j hj => ?_⟩
  rw [World.putObj_heap_other (by omega)]
  exact h.block j hj
theorem heap_lt {w : World} {k : Nat} {o : Obj} (h : w.heap[k]? = some o) : k < w.heap.size := by
  rcases Nat.lt_or_ge k w.heap.size with h' | h'
  · exact h'
  · rw [Array.getElem?_eq_none h'] at h; cases h
theorem pos_in {w : World} {k : Nat} {s : ByteArray} {pos : Nat} (h : w.heap[k]? = some (.stringIter s pos)) : w.iterPos k = pos := by simp [World.iterPos, h]

/-- what ranging tells at an edge -/
theorem decode_stp {l : List Int} (hl : ∀ x ∈ l, 0 ≤ x ∧ x ≤ 255) {p : Nat} (hp : p < l.length) : ((Utf8.decode (strOfNums l) p).1 : Int) = (first (l.drop p)).1 ∧ (Utf8.decode (strOfNums l) p).2 = wid (l.drop p) := by
  cases hd : l.drop p with
  | nil => have := congrArg List.length hd; simp at this; omega
  | cons a r =>
    have := decode_first l hl p a r hd
    exact ⟨congrArg Prod.fst this, congrArg Prod.snd this⟩

end Go.Proofs.Ytdemagijhmbdcaa
end
