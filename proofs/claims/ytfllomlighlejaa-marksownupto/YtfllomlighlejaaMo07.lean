/- The steps' places, one behind the other; ranging over a string whose block lies anywhere; contract of step.Valid. -/
import Derived.Test.YtfllomlighlejaaMo06
import Derived.Laws.RangeAny
import Derived.RangeFuncRecord

namespace Go.Proofs.Ytfllomlighlejaa
open Go.ChangeShapes Go.WideShapes Go.ChangeAt Go.RowKit

theorem places_end (l : List Int) (f p : Nat) (h : ¬ p < l.length) : places l f p = [] := by
  cases f with
  | zero => rfl
  | succ f => simp only [places, if_neg h]
theorem places_fuel (l : List Int) : ∀ (f f' p : Nat), l.length - p ≤ f → l.length - p ≤ f' → places l f p = places l f' p
  | 0, f', p, h, _ => by rw [places_end l f' p (by omega)]; rfl
  | f + 1, 0, p, _, h => by rw [places_end l (f + 1) p (by omega)]; rfl
  | f + 1, f' + 1, p, h, h' => by
    simp only [places]
    by_cases hp : p < l.length
    · rw [if_pos hp, if_pos hp]
      have := wid_pos hp
      rw [places_fuel l f f' (p + wid (l.drop p)) (by omega) (by omega)]
    · rw [if_neg hp, if_neg hp]
/-- where the steps begin, from a place on -/
def spots (l : List Int) (p : Nat) : List Nat := places l (l.length - p) p
theorem spots_end {l : List Int} {p : Nat} (h : ¬ p < l.length) : spots l p = [] := places_end l _ p h
theorem spots_cons {l : List Int} {p : Nat} (h : p < l.length) : spots l p = p :: spots l (p + wid (l.drop p)) := by
  unfold spots
  obtain ⟨f, hf⟩ : ∃ f, l.length - p = f + 1 := ⟨l.length - p - 1, by omega⟩
  have := wid_pos h
  rw [hf]
  simp only [places, if_pos h]
  rw [places_fuel l f (l.length - (p + wid (l.drop p))) _ (by omega) (by omega)]
def valid (l : List Int) : Bool := (spots l 0).all fun p => whl (l.drop p)

/-- the next rune of a string that is ranged over, wherever its block lies -/
theorem next_in {P : Program} (w : World) (k : Nat) (s : ByteArray) (pos : Nat) (ty : TypeId) (hk : w.heap[k]? = some (.stringIter s pos)) (h : pos < s.size) :
    (Instr.next (.pointer (some ⟨k, 0, none⟩)) true ty).run P w = .ok (.tuple #[.bool true, .int .i64 pos, .int .i32 (Utf8.decode s pos).1]) (w.putObj k (.stringIter s (pos + (Utf8.decode s pos).2))) := by
  simp only [Instr.next, getObj, setObj, Sem.run_bind, Sem.run, hk, Result.andThen, h, if_true]
  simp [goInt, World.putObj]
theorem next_out {P : Program} (w : World) (k : Nat) (s : ByteArray) (pos : Nat) (ty : TypeId) (hk : w.heap[k]? = some (.stringIter s pos)) (h : ¬ pos < s.size) :
    (Instr.next (.pointer (some ⟨k, 0, none⟩)) true ty).run P w = .ok (.tuple #[.bool false]) w := by
  simp [Instr.next, getObj, Sem.run, hk, h]
theorem below_put {B k : Nat} {a w : World} {o : Obj} (h : Below B a w) (hk : B ≤ k) : Below B a (w.putObj k o) := by
  refine ⟨h.os, h.tape, h.output, by simpa using h.size, fun j hj => ?_⟩
  rw [World.putObj_heap_other (by omega)]
  exact h.block j hj
theorem heap_lt {w : World} {k : Nat} {o : Obj} (h : w.heap[k]? = some o) : k < w.heap.size := by
  rcases Nat.lt_or_ge k w.heap.size with h' | h'
  · exact h'
  · rw [Array.getElem?_eq_none h'] at h; cases h
theorem pos_in {w : World} {k : Nat} {s : ByteArray} {pos : Nat} (h : w.heap[k]? = some (.stringIter s pos)) : w.iterPos k = pos := by simp [World.iterPos, h]

/-- what ranging tells at an edge -/
theorem decode_stp {l : List Int} (hl : ∀ x ∈ l, 0 ≤ x ∧ x ≤ 255) {p : Nat} (hp : p < l.length) : ((Utf8.decode (strOfNums l) p).1 : Int) = (first (l.drop p)).1 ∧ (Utf8.decode (strOfNums l) p).2 = wid (l.drop p) := by
  cases hd : l.drop p with
  | nil => have := congrArg List.length hd; simp at this; omega
  | cons a r =>
    have := decode_first l hl p a r hd
    exact ⟨congrArg Prod.fst this, congrArg Prod.snd this⟩

end Go.Proofs.Ytfllomlighlejaa
