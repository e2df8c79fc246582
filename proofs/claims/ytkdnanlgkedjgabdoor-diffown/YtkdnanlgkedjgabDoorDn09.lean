/- Contracts of strings.HasPrefix at the stand-in's own encoding, and of step.told. · Bytes answers in new memory, told without naming the world; and the string of bytes that lie in memory. · The steps' places, one behind the other; ranging over a string whose block lies anywhere; contract of step.Valid. -/
import Derived.Test.YtkdnanlgkedjgabDoorDn08
import Derived.Test.YtkdnanlgkedjgabDoorDn03
import Derived.Test.YtkdnanlgkedjgabDoorDn04
import Derived.Laws.RangeAny
import Derived.RangeFuncRecord

section
namespace Go.Proofs.YtkdnanlgkedjgabDoor
open Go.ChangeShapes Go.WideShapes Go.ChangeAt Go.RowKit

theorem str_extract (l : List Int) (i j : Nat) : (strOfNums l).extract i j = strOfNums ((l.drop i).take (j - i)) := by
  apply ByteArray.ext
  rw [ByteArray.data_extract]
  simp only [strOfNums]
  apply Array.ext'
  rw [Array.toList_extract]
  simp [List.extract, List.map_drop, List.map_take]

theorem fffd_lng {m : List Int} (h : m.take 3 = [239, 191, 189]) : lng m = 3 ∧ (first m).1 = 65533 := by
  match m with
  | [] => cases h
  | [_] => cases h
  | [_, _] => cases h
  | a :: b :: c :: t =>
    simp only [List.take_succ_cons, List.take_zero, List.cons.injEq, and_true] at h
    obtain ⟨rfl, rfl, rfl⟩ := h
    exact ⟨by simp [lng, need, whole, sec, isTail], by simp [first, need, whole, sec, isTail, value, fold, lead]⟩
theorem lng_fffd {m : List Int} (hm : ∀ x ∈ m, 0 ≤ x ∧ x ≤ 255) (h : lng m ≠ 0) (hr : (first m).1 = 65533) : m.take 3 = [239, 191, 189] := by
  match m with
  | [] => simp [lng] at h
  | a :: r =>
    simp only [lng] at h
    split at h
    · rename_i hw
      simp only [first, if_pos hw] at hr
      have he := enc_value hw (fun x hx => hm x (List.mem_of_mem_take hx))
      rw [hr, enc_3 (by decide) (by decide) (by decide)] at he
      have hn : (need a).toNat = 3 ∨ ¬ (need a).toNat = 3 := by omega
      have hl := congrArg List.length he
      have h4 := need_hi a
      simp only [List.length_take, List.length_cons, List.length_nil] at hl
      have e3 : ((a :: r).take (need a).toNat).take 3 = (a :: r).take 3 := by rw [List.take_take, show min 3 (need a).toNat = 3 by omega]
      rw [← e3, ← he]
      decide
    · exact absurd rfl h

theorem str_fffd {l : List Int} (hl : ∀ x ∈ l, 0 ≤ x ∧ x ≤ 255) : ((strOfNums l).toList == ([239, 191, 189] : List UInt8)) = decide (l = [239, 191, 189]) := by
  have h := str_beq (m := [239, 191, 189]) hl (by decide)
  rw [Lib.strOfNums_toList, Lib.strOfNums_toList] at h
  rw [Lib.strOfNums_toList]
  exact h

theorem HasPrefix_at (m : List Int) {v : Bool} (w : World) (hm : ∀ x ∈ m, 0 ≤ x ∧ x ≤ 255) (hl : m.length ≤ maxLen) (hv : decide (m.take 3 = [239, 191, 189]) = v) :
    Calls Tryd.prog 83 #[.string (strOfNums m), .string ⟨#[239, 191, 189]⟩] w fun e w' => e = .returned (.bool v) ∧ w' = w := by
  unfold maxLen at hl
  have hsz : (strOfNums m).size = m.length := strOfNums_size m
  have hsl : (⟨#[239, 191, 189]⟩ : ByteArray).size = 3 := rfl
  by_cases h3 : 3 ≤ m.length
  · have d3 : decide ((3 : Int) ≤ (m.length : Int)) = true := decide_eq_true (by omega)
    have hx := str_extract m 0 3
    simp only [List.drop_zero, Nat.sub_zero] at hx
    go_enter Tryd.func83, Tryd.ntmps83
    go_wp2
    go_ret
    exact ⟨ret_bool (by rw [← hv]; exact str_fffd (fun x hx => hm x (List.mem_of_mem_take hx))), rfl⟩
  · have d3 : decide ((3 : Int) ≤ (m.length : Int)) = false := decide_eq_false (by omega)
    go_enter Tryd.func83, Tryd.ntmps83
    go_wp2
    go_ret
    exact ⟨ret_bool (by rw [← hv]; exact (decide_eq_false fun e => by have := congrArg List.length e; simp at this; omega).symm), rfl⟩

theorem Prefix_at (m : List Int) {v : Bool} (w : World) (hm : ∀ x ∈ m, 0 ≤ x ∧ x ≤ 255) (hl : m.length ≤ maxLen) (hv : decide (m.take 3 = [239, 191, 189]) = v) :
    Calls Tryd.prog 75 #[.string (strOfNums m), .string ⟨#[239, 191, 189]⟩] w fun e w' => e = .returned (.bool v) ∧ w' = w := by
  go_enter Tryd.func75, Tryd.ntmps75
  go_wp2_with (go_at_call 83; refine (HasPrefix_at m _ hm hl hv).mono ?_; rintro e w' ⟨rfl, rfl⟩)
  go_ret
  exact ⟨rfl, rfl⟩

theorem first_bad {l : List Int} (h : lng l = 0) : (first l).1 = 65533 := by
  cases l with
  | nil => rfl
  | cons a r =>
    simp only [first]
    split
    · rename_i hw
      simp only [lng, if_pos hw] at h
      rw [h] at hw
      cases hw
    · rfl
theorem stp_bad' {l : List Int} (h : lng l = 0) : stp l = stepV 65533 1 false := by
  cases l with
  | nil => simp [stp, wid, whl, first, lng]
  | cons a r =>
    have hw : wid (a :: r) = 1 := by rw [wid_lng, if_pos h]
    simp [stp, hw, first_bad h, whl, h]
theorem need_of_lng {a : Int} {r : List Int} (h : lng (a :: r) ≠ 0) : need a = ((lng (a :: r) : Nat) : Int) ∧ wid (a :: r) = lng (a :: r) ∧ whl (a :: r) = true := by
  refine ⟨?_, by rw [wid_lng, if_neg h], by simp [whl, h]⟩
  have := need_lo a
  simp only [lng] at h ⊢
  split at h
  · rename_i hw; rw [if_pos hw]; omega
  · exact absurd rfl h

theorem Need_is {x b : Int} (hx : x = b) (w : World) (h0 : 0 ≤ b) (h1 : b ≤ 255) (hT : Tab w) :
    Calls Tryd.prog 71 #[.int .u8 x] w fun e w' => e = .returned (.int .i64 (need b)) ∧ w' = w := by
  subst hx
  exact Need_any _ w h0 h1 hT

set_option maxHeartbeats 400000 in
theorem told_at (m : List Int) (w : World) (h0 : 0 < m.length) (hm : ∀ x ∈ m, 0 ≤ x ∧ x ≤ 255) (hl : m.length ≤ maxLen) (hT : Tab w) :
    Calls Tryd.prog 58 #[.string (strOfNums m), .int .i32 (first m).1] w fun e w' => e = .returned (stp m) ∧ Below w.heap.size w w' := by
  match m with
  | a :: r =>
  have hm' := hm
  have hl' := hl
  unfold maxLen at hl
  obtain ⟨x0, x1⟩ := hm a (by simp)
  have hsz : (strOfNums (a :: r)).size = r.length + 1 := by rw [strOfNums_size]; rfl
  have hix : Hid (∀ (h : 0 < (strOfNums (a :: r)).size), (((strOfNums (a :: r))[0]'h).toNat : Int) = a) := hide fun h => by
    have e := get_str (a :: r) 0
    rw [show (strOfNums (a :: r)).get! 0 = (strOfNums (a :: r))[0]'h from getElem!_pos (strOfNums (a :: r)).data 0 h] at e
    rw [e]
    simp; omega
  by_cases hlg : lng (a :: r) = 0
  · rw [stp_bad' hlg]
    have hr : (first (a :: r)).1 = 65533 := first_bad hlg
    have hv : decide ((a :: r).take 3 = [239, 191, 189]) = false := decide_eq_false fun e => by have := (fffd_lng e).1; omega
    rw [hr]
    have HV := hide hv
    clear hm hr hv hlg
    go_enter Tryd.func58, Tryd.ntmps58
    go_wp2_with (first
      | (go_at_call 75; refine (Prefix_at (a :: r) _ hm' hl' (unhide HV)).mono ?_; rintro e w' ⟨rfl, rfl⟩)
      | (go_at_call 73; refine (bad_any _).mono ?_; unfold stepV; rintro e w' ⟨rfl, hb⟩; obtain ⟨hc1, hf1⟩ := bcell hb))
    refine bodyPost_ret (v := stepV 65533 1 false) (by simp [results, Tryd.results58, go_sem, stepV, hc1]) rfl ⟨rfl, ?_⟩
    exact stores3 (((Below.refl _ w).alloc (Nat.le_refl _) _).trans (hb.mono (by simp))) (Nat.le_refl _) _ _ _
  · obtain ⟨hn, hw, hb⟩ := need_of_lng hlg
    by_cases hr : (first (a :: r)).1 = 65533
    · have hv : decide ((a :: r).take 3 = [239, 191, 189]) = true := decide_eq_true (lng_fffd hm hlg hr)
      rw [show stp (a :: r) = stepV 65533 (lng (a :: r)) true by rw [stp, hw, hb, hr], hr]
      have HV := hide hv
      generalize lng (a :: r) = n at hn
      have HN := hide hn
      clear hm hr hv hlg hn
      go_enter Tryd.func58, Tryd.ntmps58
      go_wp2_with (first
        | (go_at_call 75; refine (Prefix_at (a :: r) _ hm' hl' (unhide HV)).mono ?_; rintro e w' ⟨rfl, rfl⟩)
        | (go_at_call 71; refine (Need_is (unhide hix _) _ x0 x1 (hT.alloc _)).mono ?_; rw [unhide HN]; rintro e w' ⟨rfl, rfl⟩))
      exact bodyPost_ret (v := stepV 65533 n true) (by simp [results, Tryd.results58, go_sem, stepV]) rfl ⟨rfl, (Below.refl _ _).alloc (Nat.le_refl _) _⟩
    · rw [show stp (a :: r) = stepV (first (a :: r)).1 (lng (a :: r)) true by rw [stp, hw, hb]]
      have hne : ((first (a :: r)).1 == 65533) = false := by rw [beq_eq_false_iff_ne]; exact hr
      generalize (first (a :: r)).1 = v at hne
      generalize lng (a :: r) = n at hn
      have HN := hide hn
      clear hm hr hlg hn
      go_enter Tryd.func58, Tryd.ntmps58
      go_wp2_with (go_at_call 71; refine (Need_is (unhide hix _) _ x0 x1 (hT.alloc _)).mono ?_; rw [unhide HN]; rintro e w' ⟨rfl, rfl⟩)
      exact bodyPost_ret (v := stepV v n true) (by simp [results, Tryd.results58, go_sem, stepV]) rfl ⟨rfl, (Below.refl _ _).alloc (Nat.le_refl _) _⟩

end Go.Proofs.YtkdnanlgkedjgabDoor
end

section
namespace Go.Proofs.YtkdnanlgkedjgabDoor
open Go.ChangeShapes Go.WideShapes Go.ChangeAt Go.RowKit

theorem made_size (w : World) (l : List Int) : (madeW w l).heap.size = w.heap.size + 1 := by simp [madeW]
theorem str_lies (w : World) (g off cap : Nat) (l : List Int) (h : Lies w g off l) :
    (convert 22 9 (.slice (some ⟨g, off, none⟩) l.length cap)).run Tryd.prog w = .ok (.string (strOfNums l)) w :=
  run_convert_bytes_arg w 22 5 Tryd.underlying22 Tryd.underlying5 g off l.length cap l rfl (fun i hi => (h i hi).1) 9 Tryd.underlying9
theorem str_bs (w : World) (a0 : Option Addr) (cap : Nat) (l : List Int) (h : Bs w a0 l) :
    (convert 22 9 (.slice a0 l.length cap)).run Tryd.prog w = .ok (.string (strOfNums l)) w := by
  rcases h with rfl | ⟨g, off, rfl, hL⟩
  · cases a0 with
    | none => exact run_convert_bytes_nil w 22 5 Tryd.underlying22 Tryd.underlying5 0 cap 9 Tryd.underlying9
    | some a =>
      obtain ⟨g, off, spot⟩ := a
      have hl : (loadCells ⟨g, off, spot⟩ 0).run Tryd.prog w = .ok (([] : List Int).map (Value.int .u8)).toArray w := by
        have := run_loadCells_list (P := Tryd.prog) w ⟨g, off, spot⟩ [] (fun j v hj => by simp at hj)
        simpa using this
      show (convert 22 9 (.slice (some ⟨g, off, spot⟩) 0 cap)).run Tryd.prog w = _
      rw [run_convert_bytes_string w 22 9 5 _ 0 cap Tryd.underlying22 Tryd.underlying5 Tryd.underlying9, run_bytesToString w _ 0 cap [] hl]
      rfl
  · exact str_lies w g off cap l hL

end Go.Proofs.YtkdnanlgkedjgabDoor
end

section
namespace Go.Proofs.YtkdnanlgkedjgabDoor
open Go.ChangeShapes Go.WideShapes Go.ChangeAt Go.RowKit

theorem places_end (l : List Int) (f p : Nat) (h : ¬ p < l.length) : places l f p = [] := by
  cases f with
  | zero => rfl
  | succ f => simp only [places, if_neg h]
theorem places_fuel (l : List Int) : ∀ (f f' p : Nat), l.length - p ≤ f → l.length - p ≤ f' → places l f p = places l f' p
  | 0, f', p, h, _ => by rw [places_end l f' p (by omega)]; rfl
  | f + 1, 0, p, _, h => by rw [places_end l (f + 1) p (by omega)]; rfl
  | f + 1, f' + 1, p, h, h' => by
    simp only [places]
    by_cases hp : p < l.length
    · rw [if_pos hp, if_pos hp]
      have := wid_pos hp
      rw [places_fuel l f f' (p + wid (l.drop p)) (by omega) (by omega)]
    · rw [if_neg hp, if_neg hp]
/-- where the steps begin, from a place on -/
def spots (l : List Int) (p : Nat) : List Nat := places l (l.length - p) p
theorem spots_end {l : List Int} {p : Nat} (h : ¬ p < l.length) : spots l p = [] := places_end l _ p h
theorem spots_cons {l : List Int} {p : Nat} (h : p < l.length) : spots l p = p :: spots l (p + wid (l.drop p)) := by
  unfold spots
  obtain ⟨f, hf⟩ : ∃ f, l.length - p = f + 1 := ⟨l.length - p - 1, by omega⟩
  have := wid_pos h
  rw [hf]
  simp only [places, if_pos h]
  rw [places_fuel l f (l.length - (p + wid (l.drop p))) _ (by omega) (by omega)]
def valid (l : List Int) : Bool := (spots l 0).all fun p => whl (l.drop p)

/-- the next rune of a string that is ranged over, wherever its block lies -/
theorem next_in {P : Program} (w : World) (k : Nat) (s : ByteArray) (pos : Nat) (ty : TypeId) (hk : w.heap[k]? = some (.stringIter s pos)) (h : pos < s.size) :
    (Instr.next (.pointer (some ⟨k, 0, none⟩)) true ty).run P w = .ok (.tuple #[.bool true, .int .i64 pos, .int .i32 (Utf8.decode s pos).1]) (w.putObj k (.stringIter s (pos + (Utf8.decode s pos).2))) := by
  simp only [Instr.next, getObj, setObj, Sem.run_bind, Sem.run, hk, Result.andThen, h, if_true]
  simp [goInt, World.putObj]
theorem next_out {P : Program} (w : World) (k : Nat) (s : ByteArray) (pos : Nat) (ty : TypeId) (hk : w.heap[k]? = some (.stringIter s pos)) (h : ¬ pos < s.size) :
    (Instr.next (.pointer (some ⟨k, 0, none⟩)) true ty).run P w = .ok (.tuple #[.bool false]) w := by
  simp [Instr.next, getObj, Sem.run, hk, h]
theorem below_put {B k : Nat} {a w : World} {o : Obj} (h : Below B a w) (hk : B ≤ k) : Below B a (w.putObj k o) := by
  refine ⟨h.os, h.tape, h.output, by simpa using h.size, fun j hj => ?_⟩
  rw [World.putObj_heap_other (by omega)]
  exact h.block j hj
theorem heap_lt {w : World} {k : Nat} {o : Obj} (h : w.heap[k]? = some o) : k < w.heap.size := by
  rcases Nat.lt_or_ge k w.heap.size with h' | h'
  · exact h'
  · rw [Array.getElem?_eq_none h'] at h; cases h
theorem pos_in {w : World} {k : Nat} {s : ByteArray} {pos : Nat} (h : w.heap[k]? = some (.stringIter s pos)) : w.iterPos k = pos := by simp [World.iterPos, h]

/-- what ranging tells at an edge -/
theorem decode_stp {l : List Int} (hl : ∀ x ∈ l, 0 ≤ x ∧ x ≤ 255) {p : Nat} (hp : p < l.length) : ((Utf8.decode (strOfNums l) p).1 : Int) = (first (l.drop p)).1 ∧ (Utf8.decode (strOfNums l) p).2 = wid (l.drop p) := by
  cases hd : l.drop p with
  | nil => have := congrArg List.length hd; simp at this; omega
  | cons a r =>
    have := decode_first l hl p a r hd
    exact ⟨congrArg Prod.fst this, congrArg Prod.snd this⟩

end Go.Proofs.YtkdnanlgkedjgabDoor
end
