/- append([]byte{}, b...) of a []byte that came in: a []byte of the same bytes, in memory that was not there before. · Contracts of step.isPlace, At, Before, Edge, Floor, Ceil: each of any bytes at any place. · Contracts of strings.HasPrefix at the stand-in's own encoding, and of step.told. · Bytes answers in new memory, told without naming the world; and the string of bytes that lie in memory. -/
import Derived.Test.YtfllomlighlejaaMo03
import Derived.Deep.AppendSrc
import Derived.Test.YtfllomlighlejaaMo05

section
namespace Go.Proofs.Ytfllomlighlejaa
open Go.ChangeShapes Go.WideShapes Go.ChangeAt Go.RowKit

theorem IsB.below {w w' : World} {B : Nat} {a0 : Option Addr} {cap : Nat} {l : List Int} (h : IsB w a0 cap l) (hb : Below B w w') (hB : w.heap.size ≤ B) : IsB w' a0 cap l := by
  obtain ⟨h1, h2, h3, h4⟩ := h
  refine ⟨h1, h2, ?_, h4⟩
  rcases h3 with h3 | ⟨g, off, rfl, hL⟩
  · exact Or.inl h3
  · cases l with
    | nil => exact Or.inl rfl
    | cons a r =>
      have hlt : g < w.heap.size := by
        have := hL.head.1
        rcases Nat.lt_or_ge g w.heap.size with h | h
        · exact h
        · simp [World.cell?, Array.getElem?_eq_none h] at this
      exact Or.inr ⟨g, off, rfl, hL.below hb (by omega)⟩

set_option maxRecDepth 100000 in
theorem info_u8 : ∃ i, Try.prog.info? 5 = some i ∧ i.zero = some (.int .u8 0) ∧ i.size = 1 ∧ i.bytes = 1 := by
  refine ⟨_, rfl, ?_, ?_, ?_⟩ <;> rfl

theorem src_none (W : World) (a0 : Option Addr) (cap : Nat) : Src Try.prog 1 120 (.slice a0 0 cap) 0 [] W := by
  cases a0 with
  | none => exact Src.ofNil W Try.underlying120 cap
  | some a => exact Src.ofSlice W Try.underlying120 a 0 cap [] rfl (fun j u h => by simp at h) (fun u h => by cases h)
theorem src_some (W : World) (g off cap : Nat) (l : List Int) (hL : Lies W g off l) : Src Try.prog 1 120 (.slice (some ⟨g, off, none⟩) l.length cap) l.length (l.map (Value.int .u8)) W := by
  refine Src.ofSlice W Try.underlying120 ⟨g, off, none⟩ l.length cap (l.map (Value.int .u8)) (by simp) (fun j u h => ?_) (fun u h => ?_)
  · have hj : j < l.length := by
      rcases Nat.lt_or_ge j l.length with h' | h'
      · exact h'
      · rw [List.getElem?_eq_none (by simpa using h')] at h; cases h
    rw [Addr.add_lit, (hL j hj).1]
    simp [List.getElem?_eq_getElem hj] at h
    simp [List.getD, List.getElem?_eq_getElem hj, h]
  · obtain ⟨x, _, rfl⟩ := List.mem_map.1 h
    rfl

theorem run_copy (w : World) (a0 : Option Addr) (cap : Nat) (l : List Int) (ty : TypeId) (hB : IsB w a0 cap l) :
    ∃ a' cap' w', (Builtin.append_ #[120, 120] ty #[.slice (some ⟨w.heap.size, 0, none⟩) 0 0, .slice a0 l.length cap]).run Try.prog (w.alloc (.cells #[] 5)) = .ok (.slice a' l.length cap') w' ∧
      l.length ≤ cap' ∧ Bs w' a' l ∧ Below w.heap.size w w' := by
  obtain ⟨i, hi, hz, hs, hby⟩ := info_u8
  have hb0 : Below w.heap.size w (w.alloc (.cells #[] 5)) := (Below.refl _ _).alloc (Nat.le_refl _) _
  obtain ⟨h1, h2, h3, h4⟩ := hB.below hb0 (Nat.le_refl _)
  rcases Nat.eq_zero_or_pos l.length with h0 | h0
  · obtain rfl : l = [] := List.length_eq_zero_iff.1 h0
    refine ⟨some ⟨w.heap.size, 0, none⟩, 0, _, ?_, Nat.le_refl _, Or.inl rfl, hb0⟩
    have := run_append_room_src (P := Try.prog) (w.alloc (.cells #[] 5)) 120 120 ty 5 i Try.underlying120 hi w.heap.size 0 0 0 (.slice a0 0 cap) 0 [] (by rw [hs]; exact src_none _ a0 cap) (Nat.le_refl _) (fun j hj => absurd hj (Nat.not_lt_zero _)) (fun j hj => absurd hj (Nat.not_lt_zero _))
    exact this
  · rcases h3 with h3 | ⟨g, off, rfl, hL⟩
    · rw [h3] at h0; cases h0
    have hcap : Builtin.nextslicecap (0 + l.length) 0 = l.length := by unfold Builtin.nextslicecap; rw [if_pos (by omega)]; omega
    have := run_append_grow_src (P := Try.prog) (w.alloc (.cells #[] 5)) 120 120 ty 5 i (.int .u8 0) Try.underlying120 hi hz (some ⟨w.heap.size, 0, none⟩) 0 0 []
      (by rw [hs]; exact run_firstCells_some _ 1 0 _ 0 0 [] rfl (fun j v h => by simp at h)) (.slice (some ⟨g, off, none⟩) l.length cap) l.length (l.map (Value.int .u8)) (by rw [hs]; exact src_some _ g off cap l hL) (by omega) (by omega)
      (by rw [hcap, hby]; omega)
    rw [Nat.zero_add, List.nil_append] at this
    refine ⟨_, _, _, this, ?_, Or.inr ⟨_, 0, rfl, ?_⟩, ?_⟩
    · exact grownCap_ge _ _ _ _
    · intro j hj
      refine ⟨?_, (hL j hj).2⟩
      rw [Nat.zero_add]
      refine (World.cell?_alloc_mark (w.alloc (.cells #[] 5)).drew _ 5 (0, 0) j).trans ?_
      rw [Array.getElem?_append_left (by simpa using hj)]
      simp [List.getElem?_eq_getElem hj, List.getD]
    · exact (hb0.drew).alloc (by simp) _

/-- an append whose run is known, guarded or not -/
theorem wpList_append_known {P : Program} {ops : Array Oper} {rest : List Oper} {o : Oper} {a : Act} {Q : Exit → Act → World → Prop} {w : World} (hw : Region.wanted o (yielded ops a.tmps) = true) (s x : Operand) (t tx : TypeId)
    (ho : o.op = .call { callee := .builtin .append, args := #[s, x], argTypes := #[t, tx] }) (v u : Value) (hs : a.eval s = v) (hx : a.eval x = u) (v' : Value) (w' : World)
    (hr : (Builtin.append_ #[t, tx] o.type #[v, u]).run P w = .ok v' w') (h : wpList P ops Q rest (a.put o.dst v') w') : wpList P ops Q (o :: rest) a w := by
  unfold wpList
  rw [if_pos hw]
  left
  unfold Oper.wp execOp
  simp only [ho, resolve, invoke, builtin, Sem.run_bind, Sem.run_pure, Result.andThen_ok, List.map_toArray, List.map_cons, List.map_nil, hs, hx, hr]
  exact h

end Go.Proofs.Ytfllomlighlejaa
end

section
namespace Go.Proofs.Ytfllomlighlejaa
open Go.ChangeShapes Go.WideShapes Go.ChangeAt Go.RowKit

theorem flr_inside (l : List Int) (p : Nat) : (flr l p = p) = (inside l p = false) := by
  unfold flr inside
  by_cases h1 : 1 ≤ p ∧ 1 < lng (l.drop (p - 1))
  · rw [if_pos h1]
    simp only [decide_eq_true h1.1, decide_eq_true h1.2, Bool.and_self, Bool.true_or]
    simp; omega
  · rw [if_neg h1]
    by_cases h2 : 2 ≤ p ∧ 2 < lng (l.drop (p - 2))
    · rw [if_pos h2]
      simp only [decide_eq_true h2.1, decide_eq_true h2.2, Bool.and_self, Bool.true_or, Bool.or_true]
      simp; omega
    · rw [if_neg h2]
      by_cases h3 : 3 ≤ p ∧ 3 < lng (l.drop (p - 3))
      · rw [if_pos h3]
        simp only [decide_eq_true h3.1, decide_eq_true h3.2, Bool.and_self, Bool.or_true]
        simp; omega
      · rw [if_neg h3]
        refine propext ⟨fun _ => ?_, fun _ => rfl⟩
        simp only [Bool.or_eq_false_iff, ← Bool.decide_and, decide_eq_false_iff_not]
        exact ⟨h1, h2, h3⟩
theorem flr_le (l : List Int) (p : Nat) : flr l p ≤ p := by
  unfold flr
  repeat' split
  all_goals omega
theorem flr_ne {l : List Int} {p : Nat} (h : inside l p = true) : ¬ flr l p = p := by rw [flr_inside, h]; simp
theorem flr_eq {l : List Int} {p : Nat} (h : inside l p = false) : flr l p = p := by rw [flr_inside]; exact h
/-- the floor of a place that is inside: an encoding begins there and goes over the place -/
theorem flr_over {l : List Int} {p : Nat} (h : inside l p = true) : flr l p < p ∧ p < flr l p + lng (l.drop (flr l p)) := by
  have hne := flr_ne h
  unfold flr at hne ⊢
  by_cases h1 : 1 ≤ p ∧ 1 < lng (l.drop (p - 1))
  · rw [if_pos h1]; omega
  · rw [if_neg h1] at hne ⊢
    by_cases h2 : 2 ≤ p ∧ 2 < lng (l.drop (p - 2))
    · rw [if_pos h2]; omega
    · rw [if_neg h2] at hne ⊢
      by_cases h3 : 3 ≤ p ∧ 3 < lng (l.drop (p - 3))
      · rw [if_pos h3]; omega
      · rw [if_neg h3] at hne; exact absurd rfl hne
theorem flr_wid {l : List Int} {p : Nat} (h : inside l p = true) : flr l p < p ∧ p < flr l p + wid (l.drop (flr l p)) := by
  obtain ⟨h1, h2⟩ := flr_over h
  refine ⟨h1, ?_⟩
  have := wid_gt (l := l.drop (flr l p)) (k := p - flr l p) (by omega)
  have h3 : p - flr l p < wid (l.drop (flr l p)) := by rw [this]; omega
  omega
/-- the floor is an edge -/
theorem flr_edge (l : List Int) (p : Nat) : inside l (flr l p) = false := by
  cases h : inside l p with
  | false => rw [flr_eq h]; exact h
  | true =>
    obtain ⟨h1, h2⟩ := flr_over h
    rw [← Bool.not_eq_true, inside_iff]
    rintro ⟨q, hq, hq2⟩
    have := lng_cross (l := l) hq hq2
    omega

def zeroV : Value := stepV 0 0 false
def atV (l : List Int) (p : Int) : Value :=
  if p < 0 ∨ (l.length : Int) ≤ p then .tuple #[zeroV, .int .i64 2] else if inside l p.toNat then .tuple #[zeroV, .int .i64 4] else .tuple #[stp (l.drop p.toNat), .int .i64 0]
def beforeV (l : List Int) (p : Int) : Value :=
  if p < 1 ∨ (l.length : Int) < p then .tuple #[zeroV, .int .i64 2] else if inside l p.toNat then .tuple #[zeroV, .int .i64 4] else .tuple #[stp (l.drop (flr l (p.toNat - 1))), .int .i64 0]
def edgeB (l : List Int) (p : Int) : Bool := decide (0 ≤ p ∧ p ≤ (l.length : Int)) && !inside l p.toNat
def floorV (l : List Int) (p : Int) : Value := if p < 0 ∨ (l.length : Int) < p then .tuple #[.int .i64 0, .int .i64 2] else .tuple #[.int .i64 (flr l p.toNat), .int .i64 0]
def ceil (l : List Int) (p : Nat) : Nat := if inside l p then flr l p + wid (l.drop (flr l p)) else p
def ceilV (l : List Int) (p : Int) : Value := if p < 0 ∨ (l.length : Int) < p then .tuple #[.int .i64 0, .int .i64 2] else .tuple #[.int .i64 (ceil l p.toNat), .int .i64 0]

end Go.Proofs.Ytfllomlighlejaa
end

section
namespace Go.Proofs.Ytfllomlighlejaa
open Go.ChangeShapes Go.WideShapes Go.ChangeAt Go.RowKit

theorem str_extract (l : List Int) (i j : Nat) : (strOfNums l).extract i j = strOfNums ((l.drop i).take (j - i)) := by
  apply ByteArray.ext
  rw [ByteArray.data_extract]
  simp only [strOfNums]
  apply Array.ext'
  rw [Array.toList_extract]
  simp [List.extract, List.map_drop, List.map_take]

theorem fffd_lng {m : List Int} (h : m.take 3 = [239, 191, 189]) : lng m = 3 ∧ (first m).1 = 65533 := by
  match m with
  | [] => cases h
  | [_] => cases h
  | [_, _] => cases h
  | a :: b :: c :: t =>
    simp only [List.take_succ_cons, List.take_zero, List.cons.injEq, and_true] at h
    obtain ⟨rfl, rfl, rfl⟩ := h
    exact ⟨by simp [lng, need, whole, sec, isTail], by simp [first, need, whole, sec, isTail, value, fold, lead]⟩
theorem lng_fffd {m : List Int} (hm : ∀ x ∈ m, 0 ≤ x ∧ x ≤ 255) (h : lng m ≠ 0) (hr : (first m).1 = 65533) : m.take 3 = [239, 191, 189] := by
  match m with
  | [] => simp [lng] at h
  | a :: r =>
    simp only [lng] at h
    split at h
    · rename_i hw
      simp only [first, if_pos hw] at hr
      have he := enc_value hw (fun x hx => hm x (List.mem_of_mem_take hx))
      rw [hr, enc_3 (by decide) (by decide) (by decide)] at he
      have hn : (need a).toNat = 3 ∨ ¬ (need a).toNat = 3 := by omega
      have hl := congrArg List.length he
      have h4 := need_hi a
      simp only [List.length_take, List.length_cons, List.length_nil] at hl
      have e3 : ((a :: r).take (need a).toNat).take 3 = (a :: r).take 3 := by rw [List.take_take, show min 3 (need a).toNat = 3 by omega]
      rw [← e3, ← he]
      decide
    · exact absurd rfl h

theorem str_fffd {l : List Int} (hl : ∀ x ∈ l, 0 ≤ x ∧ x ≤ 255) : ((strOfNums l).toList == ([239, 191, 189] : List UInt8)) = decide (l = [239, 191, 189]) := by
  have h := str_beq (m := [239, 191, 189]) hl (by decide)
  rw [Lib.strOfNums_toList, Lib.strOfNums_toList] at h
  rw [Lib.strOfNums_toList]
  exact h

theorem first_bad {l : List Int} (h : lng l = 0) : (first l).1 = 65533 := by
  cases l with
  | nil => rfl
  | cons a r =>
    simp only [first]
    split
    · rename_i hw
      simp only [lng, if_pos hw] at h
      rw [h] at hw
      cases hw
    · rfl
theorem stp_bad' {l : List Int} (h : lng l = 0) : stp l = stepV 65533 1 false := by
  cases l with
  | nil => simp [stp, wid, whl, first, lng]
  | cons a r =>
    have hw : wid (a :: r) = 1 := by rw [wid_lng, if_pos h]
    simp [stp, hw, first_bad h, whl, h]
theorem need_of_lng {a : Int} {r : List Int} (h : lng (a :: r) ≠ 0) : need a = ((lng (a :: r) : Nat) : Int) ∧ wid (a :: r) = lng (a :: r) ∧ whl (a :: r) = true := by
  refine ⟨?_, by rw [wid_lng, if_neg h], by simp [whl, h]⟩
  have := need_lo a
  simp only [lng] at h ⊢
  split at h
  · rename_i hw; rw [if_pos hw]; omega
  · exact absurd rfl h

end Go.Proofs.Ytfllomlighlejaa
end

section
namespace Go.Proofs.Ytfllomlighlejaa
open Go.ChangeShapes Go.WideShapes Go.ChangeAt Go.RowKit

theorem made_size (w : World) (l : List Int) : (madeW w l).heap.size = w.heap.size + 1 := by simp [madeW]
theorem str_lies (w : World) (g off cap : Nat) (l : List Int) (h : Lies w g off l) :
    (convert 120 9 (.slice (some ⟨g, off, none⟩) l.length cap)).run Try.prog w = .ok (.string (strOfNums l)) w :=
  run_convert_bytes_arg w 120 5 Try.underlying120 Try.underlying5 g off l.length cap l rfl (fun i hi => (h i hi).1) 9 Try.underlying9
theorem str_bs (w : World) (a0 : Option Addr) (cap : Nat) (l : List Int) (h : Bs w a0 l) :
    (convert 120 9 (.slice a0 l.length cap)).run Try.prog w = .ok (.string (strOfNums l)) w := by
  rcases h with rfl | ⟨g, off, rfl, hL⟩
  · cases a0 with
    | none => exact run_convert_bytes_nil w 120 5 Try.underlying120 Try.underlying5 0 cap 9 Try.underlying9
    | some a =>
      obtain ⟨g, off, spot⟩ := a
      have hl : (loadCells ⟨g, off, spot⟩ 0).run Try.prog w = .ok (([] : List Int).map (Value.int .u8)).toArray w := by
        have := run_loadCells_list (P := Try.prog) w ⟨g, off, spot⟩ [] (fun j v hj => by simp at hj)
        simpa using this
      show (convert 120 9 (.slice (some ⟨g, off, spot⟩) 0 cap)).run Try.prog w = _
      rw [run_convert_bytes_string w 120 9 5 _ 0 cap Try.underlying120 Try.underlying5 Try.underlying9, run_bytesToString w _ 0 cap [] hl]
      rfl
  · exact str_lies w g off cap l hL

end Go.Proofs.Ytfllomlighlejaa
end
