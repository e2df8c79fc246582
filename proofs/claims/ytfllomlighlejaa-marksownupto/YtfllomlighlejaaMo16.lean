/- Rows of structs that are sorted: what one owns behind slices.SortFunc. -/
import Derived.Test.YtfllomlighlejaaProg
import Derived.WalkKit
import Derived.Below
import Derived.Carry
import Derived.ChangeAt
import Derived.Shelf.SlSortCmp.WholeK

namespace Go.Proofs.Ytfllomlighlejaa
open Go.ChangeShapes Go.WideShapes Go.ChangeAt Go.RowKit
open Go.Sort (grow putRow putRowK HoldsK flatK Holds putCells mapBlock)

section
variable {α : Type} [Inhabited α]
theorem flat_at (enc : α → List Value) (k : Nat) (hk : ∀ x, (enc x).length = k) : ∀ (l : List α) (i j : Nat), i < l.length → j < k → (l.flatMap enc)[i * k + j]? = (enc l[i]!)[j]?
  | [], i, _, hi, _ => absurd hi (by simp)
  | x :: l, 0, j, _, hj => by
    rw [List.flatMap_cons, Nat.zero_mul, Nat.zero_add, List.getElem?_append_left (by rw [hk]; exact hj)]; rfl
  | x :: l, i + 1, j, hi, hj => by
    have ih := flat_at enc k hk l i j (by simpa using hi) hj
    rw [List.flatMap_cons, List.getElem?_append_right (by rw [hk, Nat.succ_mul]; omega), hk, show (i + 1) * k + j - k = i * k + j by rw [Nat.succ_mul]; omega, ih]
    rfl
theorem flat_len {β : Type} (enc : β → List Value) (k : Nat) (hk : ∀ x, (enc x).length = k) : ∀ l : List β, (l.flatMap enc).length = l.length * k
  | [] => by simp
  | x :: l => by rw [List.flatMap_cons, List.length_append, flat_len enc k hk l, hk, List.length_cons, Nat.succ_mul]; omega
theorem flat_eq (enc : α → List Value) (k : Nat) (hk : ∀ x, (enc x).length = k) (h0 : 0 < k) (l : List α) (t : Nat) (ht : t < l.length * k) : (l.flatMap enc)[t]? = some (flatK enc k l.toArray)[t]! := by
  have hi : t / k < l.length := Nat.div_lt_of_lt_mul (by rw [Nat.mul_comm]; exact ht)
  have hj : t % k < k := Nat.mod_lt _ h0
  rw [Go.Sort.get_flatK enc k l.toArray t (by simpa using ht)]
  have e := flat_at enc k hk l (t / k) (t % k) hi hj
  rw [Nat.div_add_mod'] at e
  have hj' : t % k < (enc l[t / k]!).length := by rw [hk]; exact hj
  rw [e, List.getElem?_eq_getElem hj']
  have e2 : l.toArray[t / k]! = l[t / k]! := by simp
  rw [e2, getElem!_pos (enc l[t / k]!) (t % k) hj']
theorem own_holdsK (enc : α → List Value) (k : Nat) (hk : ∀ x, (enc x).length = k) (h0 : 0 < k) {w : World} {B g c : Nat} {t : TypeId} {l : List α} (h : w.ownsRow B t k (.slice (some ⟨g, 0, none⟩) l.length c) l.length (l.flatMap enc)) : HoldsK enc k w g 0 l.toArray := fun j hj => by
  have hj' : j < l.length * k := by simpa using hj
  have e := World.ownsRow.cells h rfl j _ (flat_eq enc k hk h0 l j hj')
  rw [Addr.add_lit] at e
  refine ⟨e, ?_⟩
  rcases h.2 with ⟨e1, _⟩ | ⟨g', c', cur, e1, _, hg, _⟩
  · cases e1
  · cases e1
    simp [World.frozen?, hg]
theorem sort_own (enc : α → List Value) (k : Nat) (hk : ∀ x, (enc x).length = k) (h0 : 0 < k) {w : World} {B g c : Nat} {t : TypeId} {l : List α} (h : w.ownsRow B t k (.slice (some ⟨g, 0, none⟩) l.length c) l.length (l.flatMap enc)) (l' : List α) (hl : l'.length = l.length) (m : Nat) (os : Array Obj) :
    (sortWorldK enc k w g 0 m l'.toArray os).ownsRow B t k (.slice (some ⟨g, 0, none⟩) l.length c) l.length (l'.flatMap enc) ∧ (∀ i, i < w.heap.size → i ≠ g → (sortWorldK enc k w g 0 m l'.toArray os).heap[i]? = w.heap[i]?) ∧ (∀ N, N ≤ g → N ≤ w.heap.size → Below N w (sortWorldK enc k w g 0 m l'.toArray os)) := by
  have hother : ∀ i, i < w.heap.size → i ≠ g → (sortWorldK enc k w g 0 m l'.toArray os).heap[i]? = w.heap[i]? := fun i h1 h2 => by
    show (w.heap.modify g _ ++ os)[i]? = _
    rw [Array.getElem?_append_left (by rw [Array.size_modify]; exact h1), Array.getElem?_modify, if_neg (Ne.symm h2)]
  refine ⟨?_, hother, fun N hN hw => ⟨rfl, rfl, rfl, ?_, fun i hi => hother i (by omega) (by omega)⟩⟩
  · rcases h.2 with ⟨e1, _⟩ | ⟨g', c', cur, e1, hb, hg, hn, hm, hs, ht⟩
    · cases e1
    · cases e1
      refine ⟨by rw [flat_len enc k hk, hl], .inr ⟨g, c, putCells id 0 (flatK enc k l'.toArray) cur, rfl, hb, ?_, hn, hm, ?_, ?_⟩⟩
      · have hlt := (Array.getElem?_eq_some_iff.1 hg).1
        show (w.heap.modify g _ ++ os)[g]? = _
        rw [Array.getElem?_append_left (by rw [Array.size_modify]; exact hlt), Array.getElem?_modify, if_pos rfl]
        have : (Go.Sort.ahead w m).heap[g]? = some (.cells cur t (0, 0)) := hg
        rw [hg]; rfl
      · simp only [putCells, Array.size_mapIdx]; exact hs
      · have hnk : l.length * k ≤ cur.size := by rw [hs]; exact Nat.mul_le_mul_right _ hn
        apply List.ext_getElem?
        intro i
        rcases Nat.lt_or_ge i (l.length * k) with hi | hi
        · rw [List.getElem?_take_of_lt hi, Array.getElem?_toList, flat_eq enc k hk h0 l' i (by rw [hl]; exact hi)]
          have hic : i < cur.size := by omega
          simp only [putCells, Array.getElem?_mapIdx, Array.getElem?_eq_getElem hic, Option.map_some]
          rw [if_pos ⟨Nat.zero_le _, by simp [hl, hi]⟩]
          rfl
        · rw [List.getElem?_take_eq_none hi, List.getElem?_eq_none (by rw [flat_len enc k hk, hl]; exact hi)]
  · show _ ≤ (w.heap.modify g _ ++ os).size
    rw [Array.size_append, Array.size_modify]; omega
/-- a comparison whose world has only new blocks, and perhaps draws: of the form that the sort asks for -/
theorem grown_of {W w' : World} (hb : Below W.heap.size W w') (hd : ∃ q, w'.drawn = W.drawn + q) : ∃ q os, w' = grow (W.drewN q) os := by
  obtain ⟨q, hq⟩ := hd
  refine ⟨q, w'.heap.extract W.heap.size w'.heap.size, ?_⟩
  have hh : w'.heap = W.heap ++ w'.heap.extract W.heap.size w'.heap.size := by
    apply Array.ext_getElem?
    intro i
    rcases Nat.lt_or_ge i W.heap.size with hi | hi
    · rw [Array.getElem?_append_left hi]; exact hb.block i hi
    · rw [Array.getElem?_append_right hi, Array.getElem?_extract]
      have := hb.size
      rcases Nat.lt_or_ge i w'.heap.size with h2 | h2
      · rw [if_pos (by omega), show W.heap.size + (i - W.heap.size) = i by omega]
      · rw [if_neg (by omega), Array.getElem?_eq_none h2]
  obtain ⟨os, tape, outp, size, _⟩ := hb
  cases w'
  cases W
  simp only at *
  subst os tape outp hq
  simp only [grow, World.drewN]
  rw [← hh]
end
end Go.Proofs.Ytfllomlighlejaa
