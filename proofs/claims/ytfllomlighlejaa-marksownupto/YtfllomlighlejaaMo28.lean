/- Layer 13: fits; the writer. · Layer 13: Apply. -/
import Derived.Test.YtfllomlighlejaaMo25
import Derived.Lib.AppendStr
import Derived.Test.YtfllomlighlejaaMo19
import Derived.Test.YtfllomlighlejaaMo26

section
namespace Go.Proofs.Ytfllomlighlejaa
open Go.ChangeShapes Go.WideShapes Go.ChangeAt Go.RowKit
attribute [local go_sem] Oper.semAt_some

/-- what fits says -/
def fitE (d : List Dop) (n : Nat) : Int := if valB d then (if frD d = n then 0 else 131) else 130
theorem fit_cases (d : List Dop) (n : Nat) : (valB d = false ∧ fitE d n = 130) ∨ (valB d = true ∧ frD d ≠ n ∧ fitE d n = 131 ∧ ((frD d : Int) != (n : Int)) = true ∧ (frD d == n) = false) ∨ (valB d = true ∧ frD d = n ∧ fitE d n = 0) := by
  unfold fitE
  cases valB d with
  | false => exact .inl ⟨rfl, by simp⟩
  | true =>
    by_cases h : frD d = n
    · exact .inr (.inr ⟨rfl, h, by simp [h]⟩)
    · exact .inr (.inl ⟨rfl, h, by simp [h], by simp; omega, by simpa using h⟩)
theorem IsB.takeD {w : World} {a0 : Option Addr} {cap : Nat} {l : List Int} {n : Nat} (h : IsB w a0 cap l) : IsB w a0 cap (l.take n) := by
  obtain ⟨h1, h2, h3, h4⟩ := h
  refine ⟨by simp; omega, by simp; omega, ?_, fun x hx => h4 x (List.mem_of_mem_take hx)⟩
  rcases h3 with h3 | ⟨g', off', rfl, hL⟩
  · exact Or.inl (by rw [h3]; simp)
  · exact Or.inr ⟨g', off', rfl, hL.take n⟩
theorem IsB.loD {w : World} {a : Option Addr} {cap : Nat} {l : List Int} {n : Nat} (h : IsB w a cap l) : IsB w (if cap = n then a else a.map (·.add n)) (cap - n) (l.drop n) := by
  obtain ⟨h1, h2, h3, h4⟩ := h
  refine ⟨by simp; omega, by simp; omega, ?_, fun x hx => h4 x (List.mem_of_mem_drop hx)⟩
  rcases Nat.lt_or_ge n l.length with hlt | hge
  · rcases h3 with h3 | ⟨g', off', rfl, hL⟩
    · rw [h3] at hlt; simp at hlt
    · rw [if_neg (by omega)]
      exact Or.inr ⟨g', off' + n, by simp [Addr.add_lit], hL.drop n⟩
  · exact Or.inl (by simp; omega)
theorem strCells_nums {t : List Int} (ht : ∀ x ∈ t, 0 ≤ x ∧ x ≤ 255) : Lib.strCells (strOfNums t) = t.map (Value.int .u8) := by
  unfold Lib.strCells strOfNums
  simp only [List.map_map]
  refine List.map_congr_left fun x hx => ?_
  have := ht x hx
  simp
  omega
/-- append(v, s...) where v is the call's own -/
theorem run_more_str (w : World) (B g c : Nat) (l t : List Int) (ty : TypeId) (h : Own w B (.slice (some ⟨g, 0, none⟩) l.length c) l) (ht : ∀ x ∈ t, 0 ≤ x ∧ x ≤ 255) (hB : B ≤ w.heap.size) (hn : l.length + t.length ≤ 140737488355328) :
    ∃ g' c' w', (Builtin.append_ #[120, 9] ty #[.slice (some ⟨g, 0, none⟩) l.length c, .string (strOfNums t)]).run Try.prog w = .ok (.slice (some ⟨g', 0, none⟩) (l ++ t).length c') w' ∧
      Own w' B (.slice (some ⟨g', 0, none⟩) (l ++ t).length c') (l ++ t) ∧ w.grownBy w' (some g) ∧ Below B w w' := by
  obtain ⟨i, hi, hz, hs, hby⟩ := info_u8
  have hsz := strOfNums_size t
  obtain ⟨v', w', hr, ho, hg, hiff⟩ := Lib.run_append_own_string (P := Try.prog) w B 120 9 ty 5 i Try.underlying120 Try.underlying9 hi hz hs hby _ l.length _ h (strOfNums t) (by unfold maxLen; omega) (by omega) hB
  rw [hsz, strCells_nums ht] at ho
  have hown : Own w' B v' (l ++ t) := by unfold Own; simpa using ho
  rcases hown.2 with ⟨hv, _⟩ | ⟨g', c', cur, rfl, _⟩
  · have := hiff.1 hv
    cases this.1
  · exact ⟨g', c', w', hr, hown, hg, (Below.refl B w).grown hg hB (fun k e => by cases e; exact (World.ownsRow.lt h g rfl).1)⟩
/-- append(v, b...) where v is the call's own, and what stays -/
theorem run_moreG (w : World) (B g c : Nat) (l m : List Int) (a0 : Option Addr) (cap : Nat) (ty : TypeId) (h : Own w B (.slice (some ⟨g, 0, none⟩) l.length c) l) (hm : IsB w a0 cap m) (hB : B ≤ w.heap.size) (hn : l.length + m.length ≤ 140737488355328) :
    ∃ g' c' w', (Builtin.append_ #[120, 120] ty #[.slice (some ⟨g, 0, none⟩) l.length c, .slice a0 m.length cap]).run Try.prog w = .ok (.slice (some ⟨g', 0, none⟩) (l ++ m).length c') w' ∧
      Own w' B (.slice (some ⟨g', 0, none⟩) (l ++ m).length c') (l ++ m) ∧ w.grownBy w' (some g) ∧ Below B w w' := by
  obtain ⟨i, hi, hz, hs, hby⟩ := info_u8
  have hgB : B ≤ g ∧ g < w.heap.size := World.ownsRow.lt h g rfl
  rcases Nat.eq_zero_or_pos m.length with h0 | h0
  · obtain rfl : m = [] := List.length_eq_zero_iff.1 h0
    have hlc : l.length ≤ c := by
      rcases h.2 with ⟨hv, _⟩ | ⟨g1, cap1, cur, hv, _, _, hc, _⟩
      · cases hv
      · cases hv; exact hc
    rw [List.append_nil]
    refine ⟨g, c, w, ?_, h, grown_refl _ _, Below.refl _ _⟩
    exact run_append_room_src (P := Try.prog) w 120 120 ty 5 i Try.underlying120 hi g 0 l.length c (.slice a0 0 cap) 0 [] (by rw [hs]; exact src_none _ a0 cap) (by omega) (fun j hj => absurd hj (Nat.not_lt_zero _)) (fun j hj => absurd hj (Nat.not_lt_zero _))
  · rcases hm.2.2.1 with h3 | ⟨g0, off, rfl, hL⟩
    · rw [h3] at h0; cases h0
    obtain ⟨g', c', w', hr, ho, hg, hat, hlt⟩ := run_append_lies (P := Try.prog) w 120 ty B 5 i (.int .u8 0) 1 1 Try.underlying120 hi hz hs hby rfl (by decide)
      _ l.length (l.map (Value.int .u8)) h ⟨g0, off, none⟩ m.length cap (m.map (Value.int .u8)) (by simp) (src_cells hL) (src_some _ g0 off cap m hL).one h0 (by unfold maxLen; omega) (by omega) hB (w.heap.size) (by omega)
    have hown : Own w' B (.slice (some ⟨g', 0, none⟩) (l.length + m.length) c') (l ++ m) := by
      unfold Own
      simpa using ho
    rw [← List.length_append] at hr hown
    exact ⟨g', c', w', hr, hown, hg, (Below.refl B w).grown hg hB (fun k e => by cases e; exact hgB.1)⟩
end Go.Proofs.Ytfllomlighlejaa
end

section
namespace Go.Proofs.Ytfllomlighlejaa
open Go.ChangeShapes Go.WideShapes Go.ChangeAt Go.RowKit
attribute [local go_sem] Oper.semAt_some

theorem make_u8D (w : World) (c : Nat) (hc : c ≤ 70368744177664) : ∃ w', (Instr.makeSlice 120 (.int .i64 0) (.int .i64 (c : Int))).run Try.prog w = .ok (.slice (some ⟨w.heap.size, 0, none⟩) 0 c) w' ∧ Own w' w.heap.size (.slice (some ⟨w.heap.size, 0, none⟩) 0 c) [] ∧ Below w.heap.size w w' := by
  obtain ⟨i, hi, hz, hs, hby⟩ := info_u8
  obtain ⟨w', h1, h2, h3⟩ := run_make_own (P := Try.prog) w w.heap.size 120 5 i (.int .u8 0) 1 Try.underlying120 hi hz hs .i64 .i64 c (by rw [hby]; omega) (by unfold maxLen; omega) (Nat.le_refl _)
  exact ⟨w', h1, h2, (Below.refl _ w).grown h3 (Nat.le_refl _) (fun k e => by cases e)⟩
set_option maxRecDepth 100000 in
theorem fldZ (a b : Value) (w : World) : (Instr.field 84 (.agg #[a, b]) 1).run Try.prog w = .ok b w := by kernel_rfl
attribute [local go_sem] fldZ
/-- what waits, and what is written, behind one operation more -/
def stW (s : List Int × List Int) (o : Dop) : List Int × List Int := if o.k = 1 then (s.1.drop o.n.toNat, s.2 ++ s.1.take o.n.toNat) else if o.k = 2 then (s.1, s.2 ++ o.t) else (s.1.drop o.n.toNat, s.2)
def runW (b : List Int) (d : List Dop) : List Int × List Int := d.foldl stW (b, [])
def apD (b : List Int) (d : List Dop) : List Int := (runW b d).2
theorem runW_take (b : List Int) (d : List Dop) {k : Nat} (hk : k < d.length) : runW b (d.take (k + 1)) = stW (runW b (d.take k)) (d.getD k opZ) := by
  unfold runW
  rw [List.take_add_one, List.getElem?_eq_getElem hk, Option.toList_some, List.foldl_append]
  simp [List.getD_eq_getElem?_getD, List.getElem?_eq_getElem hk]
/-- lengths, while the delta fits -/
theorem runW_len {b : List Int} {d : List Dop} (hv : valB d = true) (hf : frD d = b.length) : ∀ k, k ≤ d.length → (runW b (d.take k)).1.length + frD (d.take k) = b.length ∧ (runW b (d.take k)).2.length = toD (d.take k)
  | 0, _ => by simp [runW, frD, toD]
  | k + 1, hk => by
    have ih := runW_len hv hf k (by omega)
    have hx := valB_op hv (getD_memD (d := d) (k := k) (by omega))
    have e1 := frD_take d (k := k) (by omega)
    have e2 := toD_take d (k := k) (by omega)
    have e3 := (frD_le d (k + 1)).1
    rw [runW_take b d (by omega)]
    generalize runW b (d.take k) = s at *
    generalize d.getD k opZ = x at *
    obtain ⟨xk, xn, xt⟩ := x
    dsimp only at hx
    rcases hx with ⟨rfl | rfl, hn, rfl⟩ | ⟨rfl, rfl, hn⟩
    · simp [stW, frN, toN] at e1 e2 ⊢; omega
    · simp [stW, frN, toN] at e1 e2 ⊢; omega
    · simp [stW, frN, toN] at e1 e2 ⊢; omega
theorem ap_len {b : List Int} {d : List Dop} (hv : valB d = true) (hf : frD d = b.length) : (apD b d).length = toD d := by
  have := (runW_len hv hf d.length (Nat.le_refl _)).2
  rwa [List.take_length] at this
end Go.Proofs.Ytfllomlighlejaa
end
