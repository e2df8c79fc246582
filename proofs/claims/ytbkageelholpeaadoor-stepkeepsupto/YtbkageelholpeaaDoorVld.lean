/- The steps' places, one behind the other; ranging over a string whose block lies anywhere; contract of step.Valid. -/
import Derived.Test.YtbkageelholpeaaDoorTold
import Derived.Test.YtbkageelholpeaaDoorNew
import Derived.Laws.RangeAny
import Derived.RangeFuncRecord
namespace Go.Proofs.YtbkageelholpeaaDoor
open Go.ChangeShapes Go.WideShapes Go.ChangeAt Go.RowKit

theorem places_end (l : List Int) (f p : Nat) (h : ¬ p < l.length) : places l f p = [] := by
  cases f with
  | zero => rfl
  | succ f => simp only [places, if_neg h]
theorem places_fuel (l : List Int) : ∀ (f f' p : Nat), l.length - p ≤ f → l.length - p ≤ f' → places l f p = places l f' p
  | 0, f', p, h, _ => by rw [places_end l f' p (by omega)]; rfl
  | f + 1, 0, p, _, h => by rw [places_end l (f + 1) p (by omega)]; rfl
  | f + 1, f' + 1, p, h, h' => by
    simp only [places]
    by_cases hp : p < l.length
    · rw [if_pos hp, if_pos hp]
      have := wid_pos hp
      rw [places_fuel l f f' (p + wid (l.drop p)) (by omega) (by omega)]
    · rw [if_neg hp, if_neg hp]
/-- where the steps begin, from a place on -/
def spots (l : List Int) (p : Nat) : List Nat := places l (l.length - p) p
theorem spots_end {l : List Int} {p : Nat} (h : ¬ p < l.length) : spots l p = [] := places_end l _ p h
theorem spots_cons {l : List Int} {p : Nat} (h : p < l.length) : spots l p = p :: spots l (p + wid (l.drop p)) := by
  unfold spots
  obtain ⟨f, hf⟩ : ∃ f, l.length - p = f + 1 := ⟨l.length - p - 1, by omega⟩
  have := wid_pos h
  rw [hf]
  simp only [places, if_pos h]
  rw [places_fuel l f (l.length - (p + wid (l.drop p))) _ (by omega) (by omega)]
def valid (l : List Int) : Bool := (spots l 0).all fun p => whl (l.drop p)

/-- the next rune of a string that is ranged over, wherever its block lies -/
theorem next_in {P : Program} (w : World) (k : Nat) (s : ByteArray) (pos : Nat) (ty : TypeId) (hk : w.heap[k]? = some (.stringIter s pos)) (h : pos < s.size) :
    (Instr.next (.pointer (some ⟨k, 0, none⟩)) true ty).run P w = .ok (.tuple #[.bool true, .int .i64 pos, .int .i32 (Utf8.decode s pos).1]) (w.putObj k (.stringIter s (pos + (Utf8.decode s pos).2))) := by
  simp only [Instr.next, getObj, setObj, Sem.run_bind, Sem.run, hk, Result.andThen, h, if_true]
  simp [goInt, World.putObj]
theorem next_out {P : Program} (w : World) (k : Nat) (s : ByteArray) (pos : Nat) (ty : TypeId) (hk : w.heap[k]? = some (.stringIter s pos)) (h : ¬ pos < s.size) :
    (Instr.next (.pointer (some ⟨k, 0, none⟩)) true ty).run P w = .ok (.tuple #[.bool false]) w := by
  simp [Instr.next, getObj, Sem.run, hk, h]
theorem below_put {B k : Nat} {a w : World} {o : Obj} (h : Below B a w) (hk : B ≤ k) : Below B a (w.putObj k o) := by
  refine ⟨h.os, h.tape, h.output, by simpa using h.size, fun j hj => ?_⟩
  rw [World.putObj_heap_other (by omega)]
  exact h.block j hj
theorem heap_lt {w : World} {k : Nat} {o : Obj} (h : w.heap[k]? = some o) : k < w.heap.size := by
  rcases Nat.lt_or_ge k w.heap.size with h' | h'
  · exact h'
  · rw [Array.getElem?_eq_none h'] at h; cases h
theorem pos_in {w : World} {k : Nat} {s : ByteArray} {pos : Nat} (h : w.heap[k]? = some (.stringIter s pos)) : w.iterPos k = pos := by simp [World.iterPos, h]

/-- what ranging tells at an edge -/
theorem decode_stp {l : List Int} (hl : ∀ x ∈ l, 0 ≤ x ∧ x ≤ 255) {p : Nat} (hp : p < l.length) : ((Utf8.decode (strOfNums l) p).1 : Int) = (first (l.drop p)).1 ∧ (Utf8.decode (strOfNums l) p).2 = wid (l.drop p) := by
  cases hd : l.drop p with
  | nil => have := congrArg List.length hd; simp at this; omega
  | cons a r =>
    have := decode_first l hl p a r hd
    exact ⟨congrArg Prod.fst this, congrArg Prod.snd this⟩

set_option maxHeartbeats 1000000 in
theorem Valid_at (a0 : Option Addr) (cap : Nat) (l : List Int) (w : World) (hB : IsB w a0 cap l) (hT : Tab w) :
    Calls Tryd.prog 8 #[.slice a0 l.length cap] w fun e w' => e = .returned (.bool (valid l)) ∧ Below w.heap.size w w' := by
  have hlb := hB.2.2.2
  have hm : l.length ≤ maxLen := by have := hB.1; have := hB.2.1; unfold maxLen; omega
  have kb := str_bs w a0 cap l hB.2.2.1
  have hsz : (strOfNums l).size = l.length := strOfNums_size l
  have HSZ := hide hsz
  have HLB := hide hlb
  have hm' := hm
  unfold maxLen at hm'
  clear hlb hsz
  go_enter Tryd.func8, Tryd.ntmps8
  go_wp2
  go_loopw [4, 5] (fun _ _ wx => ∃ pos : Nat, wx.heap[w.heap.size]? = some (.stringIter (strOfNums l) pos) ∧ pos ≤ l.length ∧ Hid (valid l = (spots l pos).all fun p => whl (l.drop p)) ∧ Below w.heap.size w wx) (fun _ _ wx => (strOfNums l).size - wx.iterPos w.heap.size)
  case atStart => exact ⟨0, World.iter_heap w _ 0, Nat.zero_le _, rfl, (Below.refl _ w).alloc (Nat.le_refl _) _⟩
  case round =>
    obtain ⟨pos, hk, hpl, hv, hb⟩ := hrel
    by_cases hp : pos < l.length
    · have hps : pos < (strOfNums l).size := by rw [unhide HSZ]; exact hp
      have hnx : ∀ ty, (Instr.next (.pointer (some ⟨w.heap.size, 0, none⟩)) true ty).run Tryd.prog wr = _ := fun ty => next_in wr w.heap.size (strOfNums l) pos ty hk hps
      obtain ⟨e1, e2⟩ := decode_stp (unhide HLB) hp
      rw [e1, e2] at hnx
      have hx := str_extract l pos l.length
      rw [List.take_of_length_le (by simp)] at hx
      have hf := fld2
      have hb1 := below_put (o := .stringIter (strOfNums l) (pos + wid (l.drop pos))) hb (Nat.le_refl _)
      have hT1 := hT.below hb1 hT.size
      have HSP := hide (spots_cons hp)
      clear e1 e2
      have hsz := unhide HSZ
      have hlt := heap_lt hk
      have hk1 : (wr.putObj w.heap.size (.stringIter (strOfNums l) (pos + wid (l.drop pos)))).heap[w.heap.size]? = some (.stringIter (strOfNums l) (pos + wid (l.drop pos))) := World.putObj_heap_same hlt
      have hwl := wid_len hp
      have hwp := wid_pos hp
      have hip := pos_in hk
      have HK := hide hk
      have HK1 := hide hk1
      clear hk hk1
      cases hwh : whl (l.drop pos) with
      | true =>
        have HVV : Hid (valid l = (spots l (pos + wid (l.drop pos))).all fun p => whl (l.drop p)) := hide (by
          rw [unhide hv, unhide HSP, List.all_cons, hwh, Bool.true_and])
        clear hv
        go_wp2_with (go_at_call 16; refine (told_at (l.drop pos) _ (by simp; omega) (fun x hx => unhide HLB x (List.mem_of_mem_drop hx)) (by simp; omega) hT1).mono ?_; unfold stp stepV; rw [hwh]; rintro e w' ⟨rfl, hb2⟩)
        have hb3 := hb2.block w.heap.size (by simpa using hlt)
        rw [unhide HK1] at hb3
        go_roundw
        case rel => exact ⟨pos + wid (l.drop pos), hb3, hwl, HVV, hb1.trans (hb2.mono hb1.size)⟩
        case measure => rw [pos_in hb3, hip]; omega
      | false =>
        have HVV : Hid (valid l = false) := hide (by rw [unhide hv, unhide HSP, List.all_cons, hwh, Bool.false_and])
        clear hv
        go_wp2_with (go_at_call 16; refine (told_at (l.drop pos) _ (by simp; omega) (fun x hx => unhide HLB x (List.mem_of_mem_drop hx)) (by simp; omega) hT1).mono ?_; unfold stp stepV; rw [hwh]; rintro e w' ⟨rfl, hb2⟩)
        go_ret
        exact ⟨ret_bool (unhide HVV).symm, hb1.trans (hb2.mono hb1.size)⟩
    · have hps : ¬ pos < (strOfNums l).size := by rw [unhide HSZ]; exact hp
      have hnx : ∀ ty, (Instr.next (.pointer (some ⟨w.heap.size, 0, none⟩)) true ty).run Tryd.prog wr = _ := fun ty => next_out wr w.heap.size (strOfNums l) pos ty hk hps
      have HVV : Hid (valid l = true) := hide (by rw [unhide hv, spots_end hp]; rfl)
      clear hv hk
      go_wp2
      go_ret
      exact ⟨ret_bool (unhide HVV).symm, hb⟩

end Go.Proofs.YtbkageelholpeaaDoor
