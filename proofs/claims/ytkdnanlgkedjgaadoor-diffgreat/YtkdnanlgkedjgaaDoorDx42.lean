/- Layer 13: fits; the writer. · Layer 13, the document's Valid. · Layer 13, the document's Lens. · Layer 13: Apply. · Layer 13: the lister and Changes (written by wip/tools/dmo.py). · Layer 13: Changes. · Layer 19, plain: what a delta costs, by its changes and by its operations. -/
import Derived.Test.YtkdnanlgkedjgaaDoorDx40
import Derived.Lib.AppendStr
import Derived.Test.YtkdnanlgkedjgaaDoorDx37
import Derived.Test.YtkdnanlgkedjgaaDoorDx41
import Derived.Deep.QuietTactic
import Derived.BigQuiet
import Derived.WalkSmall

section
namespace Go.Proofs.YtkdnanlgkedjgaaDoor
open Go.ChangeShapes Go.WideShapes Go.ChangeAt Go.RowKit
attribute [local go_sem] Oper.semAt_some

/-- what fits says -/
def fitE (d : List Dop) (n : Nat) : Int := if valB d then (if frD d = n then 0 else 131) else 130
theorem fit_cases (d : List Dop) (n : Nat) : (valB d = false ∧ fitE d n = 130) ∨ (valB d = true ∧ frD d ≠ n ∧ fitE d n = 131 ∧ ((frD d : Int) != (n : Int)) = true ∧ (frD d == n) = false) ∨ (valB d = true ∧ frD d = n ∧ fitE d n = 0) := by
  unfold fitE
  cases valB d with
  | false => exact .inl ⟨rfl, by simp⟩
  | true =>
    by_cases h : frD d = n
    · exact .inr (.inr ⟨rfl, h, by simp [h]⟩)
    · exact .inr (.inl ⟨rfl, h, by simp [h], by simp; omega, by simpa using h⟩)
theorem IsB.takeD {w : World} {a0 : Option Addr} {cap : Nat} {l : List Int} {n : Nat} (h : IsB w a0 cap l) : IsB w a0 cap (l.take n) := by
  obtain ⟨h1, h2, h3, h4⟩ := h
  refine ⟨by simp; omega, by simp; omega, ?_, fun x hx => h4 x (List.mem_of_mem_take hx)⟩
  rcases h3 with h3 | ⟨g', off', rfl, hL⟩
  · exact Or.inl (by rw [h3]; simp)
  · exact Or.inr ⟨g', off', rfl, hL.take n⟩
theorem IsB.loD {w : World} {a : Option Addr} {cap : Nat} {l : List Int} {n : Nat} (h : IsB w a cap l) : IsB w (if cap = n then a else a.map (·.add n)) (cap - n) (l.drop n) := by
  obtain ⟨h1, h2, h3, h4⟩ := h
  refine ⟨by simp; omega, by simp; omega, ?_, fun x hx => h4 x (List.mem_of_mem_drop hx)⟩
  rcases Nat.lt_or_ge n l.length with hlt | hge
  · rcases h3 with h3 | ⟨g', off', rfl, hL⟩
    · rw [h3] at hlt; simp at hlt
    · rw [if_neg (by omega)]
      exact Or.inr ⟨g', off' + n, by simp [Addr.add_lit], hL.drop n⟩
  · exact Or.inl (by simp; omega)
theorem strCells_nums {t : List Int} (ht : ∀ x ∈ t, 0 ≤ x ∧ x ≤ 255) : Lib.strCells (strOfNums t) = t.map (Value.int .u8) := by
  unfold Lib.strCells strOfNums
  simp only [List.map_map]
  refine List.map_congr_left fun x hx => ?_
  have := ht x hx
  simp
  omega
/-- append(v, s...) where v is the call's own -/
theorem run_more_str (w : World) (B g c : Nat) (l t : List Int) (ty : TypeId) (h : Own w B (.slice (some ⟨g, 0, none⟩) l.length c) l) (ht : ∀ x ∈ t, 0 ≤ x ∧ x ≤ 255) (hB : B ≤ w.heap.size) (hn : l.length + t.length ≤ 140737488355328) :
    ∃ g' c' w', (Builtin.append_ #[22, 9] ty #[.slice (some ⟨g, 0, none⟩) l.length c, .string (strOfNums t)]).run Tryd.prog w = .ok (.slice (some ⟨g', 0, none⟩) (l ++ t).length c') w' ∧
      Own w' B (.slice (some ⟨g', 0, none⟩) (l ++ t).length c') (l ++ t) ∧ w.grownBy w' (some g) ∧ Below B w w' := by
  obtain ⟨i, hi, hz, hs, hby⟩ := info_u8
  have hsz := strOfNums_size t
  obtain ⟨v', w', hr, ho, hg, hiff⟩ := Lib.run_append_own_string (P := Tryd.prog) w B 22 9 ty 5 i Tryd.underlying22 Tryd.underlying9 hi hz hs hby _ l.length _ h (strOfNums t) (by unfold maxLen; omega) (by omega) hB
  rw [hsz, strCells_nums ht] at ho
  have hown : Own w' B v' (l ++ t) := by unfold Own; simpa using ho
  rcases hown.2 with ⟨hv, _⟩ | ⟨g', c', cur, rfl, _⟩
  · have := hiff.1 hv
    cases this.1
  · exact ⟨g', c', w', hr, hown, hg, (Below.refl B w).grown hg hB (fun k e => by cases e; exact (World.ownsRow.lt h g rfl).1)⟩
/-- append(v, b...) where v is the call's own, and what stays -/
theorem run_moreG (w : World) (B g c : Nat) (l m : List Int) (a0 : Option Addr) (cap : Nat) (ty : TypeId) (h : Own w B (.slice (some ⟨g, 0, none⟩) l.length c) l) (hm : IsB w a0 cap m) (hB : B ≤ w.heap.size) (hn : l.length + m.length ≤ 140737488355328) :
    ∃ g' c' w', (Builtin.append_ #[22, 22] ty #[.slice (some ⟨g, 0, none⟩) l.length c, .slice a0 m.length cap]).run Tryd.prog w = .ok (.slice (some ⟨g', 0, none⟩) (l ++ m).length c') w' ∧
      Own w' B (.slice (some ⟨g', 0, none⟩) (l ++ m).length c') (l ++ m) ∧ w.grownBy w' (some g) ∧ Below B w w' := by
  obtain ⟨i, hi, hz, hs, hby⟩ := info_u8
  have hgB : B ≤ g ∧ g < w.heap.size := World.ownsRow.lt h g rfl
  rcases Nat.eq_zero_or_pos m.length with h0 | h0
  · obtain rfl : m = [] := List.length_eq_zero_iff.1 h0
    have hlc : l.length ≤ c := by
      rcases h.2 with ⟨hv, _⟩ | ⟨g1, cap1, cur, hv, _, _, hc, _⟩
      · cases hv
      · cases hv; exact hc
    rw [List.append_nil]
    refine ⟨g, c, w, ?_, h, grown_refl _ _, Below.refl _ _⟩
    exact run_append_room_src (P := Tryd.prog) w 22 22 ty 5 i Tryd.underlying22 hi g 0 l.length c (.slice a0 0 cap) 0 [] (by rw [hs]; exact src_none _ a0 cap) (by omega) (fun j hj => absurd hj (Nat.not_lt_zero _)) (fun j hj => absurd hj (Nat.not_lt_zero _))
  · rcases hm.2.2.1 with h3 | ⟨g0, off, rfl, hL⟩
    · rw [h3] at h0; cases h0
    obtain ⟨g', c', w', hr, ho, hg, hat, hlt⟩ := run_append_lies (P := Tryd.prog) w 22 ty B 5 i (.int .u8 0) 1 1 Tryd.underlying22 hi hz hs hby rfl (by decide)
      _ l.length (l.map (Value.int .u8)) h ⟨g0, off, none⟩ m.length cap (m.map (Value.int .u8)) (by simp) (src_cells hL) (src_some _ g0 off cap m hL).one h0 (by unfold maxLen; omega) (by omega) hB (w.heap.size) (by omega)
    have hown : Own w' B (.slice (some ⟨g', 0, none⟩) (l.length + m.length) c') (l ++ m) := by
      unfold Own
      simpa using ho
    rw [← List.length_append] at hr hown
    exact ⟨g', c', w', hr, hown, hg, (Below.refl B w).grown hg hB (fun k e => by cases e; exact hgB.1)⟩
end Go.Proofs.YtkdnanlgkedjgaaDoor
end

section
namespace Go.Proofs.YtkdnanlgkedjgaaDoor
open Go.ChangeShapes Go.WideShapes Go.ChangeAt Go.RowKit
attribute [local go_sem] Oper.semAt_some

theorem val_pl {d : List Dop} (h : d.all plB = false) : valB d = false := by unfold valB; rw [h]; rfl
theorem val_ap {d : List Dop} (h : apL 7 d = false) : valB d = false := by unfold valB; rw [h]; cases d.all plB <;> rfl
theorem val_lo {d : List Dop} (h : 268435456 < frD d ∨ 268435456 < toD d) : valB d = false := by
  unfold valB; rw [show lonB d = true from decide_eq_true h]; cases d.all plB <;> cases apL 7 d <;> rfl
/-- the tests of one operation that keeps or drops -/
theorem kd_cases (n : Int) (t : List Int) : (n < 1 ∧ decide (n < 1) = true) ∨ (¬ n < 1 ∧ 268435456 < n ∧ decide (n < 1) = false ∧ decide (n > 268435456) = true ∧ decide (268435456 < n) = true) ∨
    (¬ n < 1 ∧ t.isEmpty = false ∧ decide (n < 1) = false ∧ decide (n > 268435456) = false ∧ decide (268435456 < n) = false) ∨
    (¬ n < 1 ∧ n ≤ 268435456 ∧ t.isEmpty = true ∧ decide (n < 1) = false ∧ decide (n > 268435456) = false ∧ decide (268435456 < n) = false) := by
  by_cases h1 : n < 1
  · exact .inl ⟨h1, decide_eq_true h1⟩
  by_cases h2 : 268435456 < n
  · exact .inr (.inl ⟨h1, h2, decide_eq_false h1, decide_eq_true h2, decide_eq_true h2⟩)
  cases h3 : t.isEmpty with
  | false => exact .inr (.inr (.inl ⟨h1, rfl, decide_eq_false h1, decide_eq_false h2, decide_eq_false h2⟩))
  | true => exact .inr (.inr (.inr ⟨h1, by omega, rfl, decide_eq_false h1, decide_eq_false h2, decide_eq_false h2⟩))
theorem put_cases (n : Int) (t : List Int) : (¬ n = 0 ∧ (n != 0) = true) ∨ (n = 0 ∧ (n != 0) = false ∧ t.isEmpty = true) ∨ (n = 0 ∧ (n != 0) = false ∧ t.isEmpty = false) := by
  by_cases h1 : n = 0
  · cases h3 : t.isEmpty with
    | true => exact .inr (.inl ⟨h1, by simp [h1], rfl⟩)
    | false => exact .inr (.inr ⟨h1, by simp [h1], rfl⟩)
  · exact .inl ⟨h1, by simpa using h1⟩
theorem kind_cases (k : Int) : k = 1 ∨ k = 2 ∨ k = 3 ∨ (¬ k = 1 ∧ ¬ k = 2 ∧ ¬ k = 3 ∧ (k == 1) = false ∧ (k == 2) = false ∧ (k == 3) = false ∧ thisN k = 0) := by
  by_cases h1 : k = 1
  · exact .inl h1
  by_cases h2 : k = 2
  · exact .inr (.inl h2)
  by_cases h3 : k = 3
  · exact .inr (.inr (.inl h3))
  refine .inr (.inr (.inr ⟨h1, h2, h3, by simpa using h1, by simpa using h2, by simpa using h3, ?_⟩))
  unfold thisN; simp [h1, h2, h3]
def prM (d : List Dop) (k : Nat) : Int := if k = 0 then 7 else nextN (d.getD (k - 1) opZ).k
theorem prM_s (d : List Dop) (k : Nat) : prM d (k + 1) = nextN (d.getD k opZ).k := by simp [prM]
theorem k_pos {k j n : Nat} (h : k = j + 1) (hl : k < 4611686018427387904) (hn : k < n) : (0 < k ∧ decide (0 < k) = true ∧ decide ((0 : Int) < (k : Int)) = true ∧ decide ((k : Int) > 0) = true ∧ (0 : Int) < (k : Int)) ∧ (j : Int) < (n : Int) ∧ (k : Int) < (n : Int) ∧ (0 : Int) ≤ (j : Int) ∧ wrap64 ((k : Int) - 1) = (j : Int) ∧ (k : Int) - 1 = (j : Int) ∧ wrap64 (j : Int) = (j : Int) :=
  ⟨⟨by omega, decide_eq_true (by omega), decide_eq_true (by omega), decide_eq_true (by omega), by omega⟩, by omega, by omega, by omega, by rw [wrapD _ (by omega) (by omega)]; omega, by omega, wrapD _ (by omega) (by omega)⟩
def VaI (d : List Dop) (k f t : Nat) : Prop := f = frD (d.take k) ∧ t = toD (d.take k) ∧ f ≤ 268435456 ∧ t ≤ 268435456 ∧ (d.take k).all plB = true ∧ apL 7 d = apL (prM d k) (d.drop k) ∧ (k = 0 ∨ (d.getD (k - 1) opZ).k = 1 ∨ (d.getD (k - 1) opZ).k = 2 ∨ (d.getD (k - 1) opZ).k = 3)
end Go.Proofs.YtkdnanlgkedjgaaDoor
end

section
namespace Go.Proofs.YtkdnanlgkedjgaaDoor
open Go.ChangeShapes Go.WideShapes Go.ChangeAt Go.RowKit
attribute [local go_sem] Oper.semAt_some

theorem apL_kinds : ∀ (m : Int) (d : List Dop), apL m d = true → ∀ o ∈ d, o.k = 1 ∨ o.k = 2 ∨ o.k = 3
  | _, [], _, o, ho => by cases ho
  | m, x :: r, h, o, ho => by
    simp only [apL, Bool.and_eq_true] at h
    rcases List.mem_cons.1 ho with rfl | ho
    · rcases kind_cases o.k with h1 | h1 | h1 | ⟨_, _, _, _, _, _, h1⟩
      · exact .inl h1
      · exact .inr (.inl h1)
      · exact .inr (.inr h1)
      · rw [h1] at h; simp [apB] at h
    · exact apL_kinds _ r h.2 o ho
theorem valB_k {d : List Dop} (h : valB d = true) : ∀ o ∈ d, o.k = 1 ∨ o.k = 2 ∨ o.k = 3 := by
  unfold valB at h
  simp only [Bool.and_eq_true] at h
  exact apL_kinds 7 d h.2.1
/-- what a valid delta's operations are -/
theorem valB_op {d : List Dop} (h : valB d = true) {o : Dop} (ho : o ∈ d) : ((o.k = 1 ∨ o.k = 3) ∧ 1 ≤ o.n ∧ o.t = []) ∨ (o.k = 2 ∧ o.n = 0 ∧ o.t ≠ []) := by
  have hk := valB_k h o ho
  unfold valB at h
  simp only [Bool.and_eq_true] at h
  have hp := List.all_eq_true.1 h.1 o ho
  unfold plB at hp
  rcases hk with h1 | h1 | h1
  · simp [h1] at hp; exact .inl ⟨.inl h1, hp.2, hp.1⟩
  · simp [h1] at hp; exact .inr ⟨h1, hp.2, hp.1⟩
  · simp [h1] at hp; exact .inl ⟨.inr h1, hp.2, hp.1⟩
structure LeI (d : List Dop) (k f t : Nat) : Prop where
  ef : f = frD (d.take k)
  et : t = toD (d.take k)
  z : f ≤ 268435456 ∧ t ≤ 268435456
end Go.Proofs.YtkdnanlgkedjgaaDoor
end

section
namespace Go.Proofs.YtkdnanlgkedjgaaDoor
open Go.ChangeShapes Go.WideShapes Go.ChangeAt Go.RowKit
attribute [local go_sem] Oper.semAt_some

theorem make_u8D (w : World) (c : Nat) (hc : c ≤ 70368744177664) : ∃ w', (Instr.makeSlice 22 (.int .i64 0) (.int .i64 (c : Int))).run Tryd.prog w = .ok (.slice (some ⟨w.heap.size, 0, none⟩) 0 c) w' ∧ Own w' w.heap.size (.slice (some ⟨w.heap.size, 0, none⟩) 0 c) [] ∧ Below w.heap.size w w' := by
  obtain ⟨i, hi, hz, hs, hby⟩ := info_u8
  obtain ⟨w', h1, h2, h3⟩ := run_make_own (P := Tryd.prog) w w.heap.size 22 5 i (.int .u8 0) 1 Tryd.underlying22 hi hz hs .i64 .i64 c (by rw [hby]; omega) (by unfold maxLen; omega) (Nat.le_refl _)
  exact ⟨w', h1, h2, (Below.refl _ w).grown h3 (Nat.le_refl _) (fun k e => by cases e)⟩
set_option maxRecDepth 100000 in
theorem fldZ (a b : Value) (w : World) : (Instr.field 90 (.agg #[a, b]) 1).run Tryd.prog w = .ok b w := by kernel_rfl
attribute [local go_sem] fldZ
/-- what waits, and what is written, behind one operation more -/
def stW (s : List Int × List Int) (o : Dop) : List Int × List Int := if o.k = 1 then (s.1.drop o.n.toNat, s.2 ++ s.1.take o.n.toNat) else if o.k = 2 then (s.1, s.2 ++ o.t) else (s.1.drop o.n.toNat, s.2)
def runW (b : List Int) (d : List Dop) : List Int × List Int := d.foldl stW (b, [])
def apD (b : List Int) (d : List Dop) : List Int := (runW b d).2
theorem runW_take (b : List Int) (d : List Dop) {k : Nat} (hk : k < d.length) : runW b (d.take (k + 1)) = stW (runW b (d.take k)) (d.getD k opZ) := by
  unfold runW
  rw [List.take_add_one, List.getElem?_eq_getElem hk, Option.toList_some, List.foldl_append]
  simp [List.getD_eq_getElem?_getD, List.getElem?_eq_getElem hk]
/-- lengths, while the delta fits -/
theorem runW_len {b : List Int} {d : List Dop} (hv : valB d = true) (hf : frD d = b.length) : ∀ k, k ≤ d.length → (runW b (d.take k)).1.length + frD (d.take k) = b.length ∧ (runW b (d.take k)).2.length = toD (d.take k)
  | 0, _ => by simp [runW, frD, toD]
  | k + 1, hk => by
    have ih := runW_len hv hf k (by omega)
    have hx := valB_op hv (getD_memD (d := d) (k := k) (by omega))
    have e1 := frD_take d (k := k) (by omega)
    have e2 := toD_take d (k := k) (by omega)
    have e3 := (frD_le d (k + 1)).1
    rw [runW_take b d (by omega)]
    generalize runW b (d.take k) = s at *
    generalize d.getD k opZ = x at *
    obtain ⟨xk, xn, xt⟩ := x
    dsimp only at hx
    rcases hx with ⟨rfl | rfl, hn, rfl⟩ | ⟨rfl, rfl, hn⟩
    · simp [stW, frN, toN] at e1 e2 ⊢; omega
    · simp [stW, frN, toN] at e1 e2 ⊢; omega
    · simp [stW, frN, toN] at e1 e2 ⊢; omega
theorem ap_len {b : List Int} {d : List Dop} (hv : valB d = true) (hf : frD d = b.length) : (apD b d).length = toD d := by
  have := (runW_len hv hf d.length (Nat.le_refl _)).2
  rwa [List.take_length] at this
end Go.Proofs.YtkdnanlgkedjgaaDoor
end

section
namespace Go.Proofs.YtkdnanlgkedjgaaDoor
open Go.ChangeShapes Go.WideShapes Go.ChangeAt Go.RowKit
attribute [local go_sem] Oper.semAt_some

/-- the change that stands here: the last one if it ends here, else a new one -/
def herL (m : Nat) (cs : List Dop) : List Dop := if cs.getLast?.map Dop.n = some (m : Int) then cs else cs ++ [⟨m, m, []⟩]
def upL (f : Dop → Dop) (l : List Dop) : List Dop := l.dropLast ++ (l.getLast?.map f).toList
theorem upL_snoc (f : Dop → Dop) (e : List Dop) (x : Dop) : upL f (e ++ [x]) = e ++ [f x] := by simp [upL]
def stL (s : Nat × List Dop) (o : Dop) : Nat × List Dop := if o.k = 1 then (s.1 + o.n.toNat, s.2) else if o.k = 2 then (s.1, upL (fun x => ⟨x.k, x.n, o.t⟩) (herL s.1 s.2)) else (s.1 + o.n.toNat, upL (fun x => ⟨x.k, x.n + o.n.toNat, x.t⟩) (herL s.1 s.2))
def runL (d : List Dop) : Nat × List Dop := d.foldl stL (0, [])
theorem runL_take (d : List Dop) {k : Nat} (hk : k < d.length) : runL (d.take (k + 1)) = stL (runL (d.take k)) (d.getD k opZ) := by
  unfold runL
  rw [List.take_add_one, List.foldl_append]
  simp [List.getElem?_eq_getElem hk, List.getD]
set_option maxRecDepth 100000 in
theorem info_ch : ∃ i, Tryd.prog.info? 71 = some i ∧ i.zero = some (.agg #[.int .i64 0, .int .i64 0, .string ⟨#[]⟩]) ∧ i.size = 3 ∧ i.bytes = 32 := by
  refine ⟨_, rfl, ?_, ?_, ?_⟩ <;> rfl
/-- one more change -/
theorem push_ch (W : World) (B n : Nat) (v : Value) (xs : List Value) (a b : Int) (s : ByteArray) (ty : TypeId) (h : W.ownsRow B 71 3 v n xs) (hn : n ≤ 1099511627776) (hB : B ≤ W.heap.size) :
    ∃ g k W', (Builtin.append_ #[67, 67] ty #[v, .slice (some ⟨W.heap.size, 0, none⟩) 1 1]).run Tryd.prog (W.alloc (.cells #[.int .i64 a, .int .i64 b, .string s] 71)) = .ok (.slice (some ⟨g, 0, none⟩) (n + 1) k) W' ∧
      W'.ownsRow B 71 3 (.slice (some ⟨g, 0, none⟩) (n + 1) k) (n + 1) (xs ++ [.int .i64 a, .int .i64 b, .string s]) ∧ W.grownBy W' v.ownBlock ∧ Below B W W' := by
  obtain ⟨i, hi, hz, hs, hby⟩ := info_ch
  have hr := World.ownsRow.alloc h (.cells #[.int .i64 a, .int .i64 b, .string s] 71)
  obtain ⟨c0, c1, c2⟩ := three_nwD W (.int .i64 a) (.int .i64 b) (.string s) (t := 71)
  obtain ⟨g, k, W', hrun, ho, hg, _, _⟩ := run_append_lies (P := Tryd.prog) (W.alloc (.cells #[.int .i64 a, .int .i64 b, .string s] 71)) 67 ty B 71 i (.agg #[.int .i64 0, .int .i64 0, .string ⟨#[]⟩]) 3 32 Tryd.underlying67 hi hz hs hby rfl (by decide)
    v n xs hr ⟨W.heap.size, 0, none⟩ 1 1 [.int .i64 a, .int .i64 b, .string s] rfl
    (fun j u hj => by
      match j with
      | 0 => simp at hj; subst hj; rw [Addr.add_lit]; exact c0
      | 1 => simp at hj; subst hj; rw [Addr.add_lit]; exact c1
      | 2 => simp at hj; subst hj; rw [Addr.add_lit]; exact c2
      | j + 3 => simp at hj)
    (fun u hu => by simp at hu; rcases hu with rfl | rfl | rfl <;> rfl) (by decide) (by unfold maxLen; omega) (by omega) (by simp; omega) _ rfl
  have ha := World.grownBy_alloc W (.cells #[.int .i64 a, .int .i64 b, .string s] 71) none
  refine ⟨g, k, W', hrun, ho, ⟨hg.os.trans ha.os, hg.tape.trans ha.tape, hg.output.trans ha.output, Nat.le_trans ha.size hg.size, fun k hk hne => ?_⟩, ((Below.refl B W).alloc hB _).grown hg (by simp; omega) (fun k hk => (hr.lt k hk).1)⟩
  exact (hg.block k (Nat.lt_of_lt_of_le hk ha.size) hne).trans (ha.block k hk (by simp))
/-- the lister: its place, its changes (in a row of the call's own) -/
structure IsLv (B : Nat) (w X : World) (g m : Nat) (v : Value) (cs : List Dop) : Prop where
  a : Cls X g 93 #[.int .i64 (m : Int), v]
  r : X.ownsRow B 71 3 v cs.length (opsV cs)
  d : Below B w X
  z : B ≤ g
  b : B ≤ w.heap.size
theorem IsLv.on {B : Nat} {w X Y : World} {g m : Nat} {v : Value} {cs : List Dop} (h : IsLv B w X g m v cs) (hb : Below X.heap.size X Y) : IsLv B w Y g m v cs :=
  ⟨h.a.below hb h.a.lt, rowD_below h.r hb (Nat.le_refl _), h.d.trans (hb.mono (Nat.le_trans h.b h.d.size)), h.z, h.b⟩
theorem IsLv.ne {B : Nat} {w X : World} {g m : Nat} {v : Value} {cs : List Dop} (h : IsLv B w X g m v cs) {G : Nat} (hG : v.ownBlock = some G) : g ≠ G := by
  obtain ⟨_, cur, hc⟩ := rowD_block h.r hG
  exact typeD_ne h.a hc (by decide)
/-- a cell of the changes is written -/
theorem IsLv.put {B : Nat} {w X : World} {g m G c : Nat} {cs cs' : List Dop} (h : IsLv B w X g m (.slice (some ⟨G, 0, none⟩) cs.length c) cs) (j : Nat) (u : Value) (he : (opsV cs).set j u = opsV cs') (hl : cs'.length = cs.length) : IsLv B w (X.setCell ⟨G, j, none⟩ u) g m (.slice (some ⟨G, 0, none⟩) cs'.length c) cs' := by
  have hne := h.ne (G := G) rfl
  have hr := rowD_set h.r j u
  have hB := (rowD_block h.r (G := G) rfl).1
  rw [he] at hr
  refine ⟨?_, by rw [hl]; exact hr, h.d.setCell (p := ⟨G, j, none⟩) hB u, h.z, h.b⟩
  rw [hl]
  exact h.a.other ⟨G, j, none⟩ u hne
theorem IsLv.goes {B : Nat} {w X : World} {g m : Nat} {v : Value} {cs : List Dop} (h : IsLv B w X g m v cs) (m' : Nat) : IsLv B w (X.setCell ⟨g, 0, none⟩ (.int .i64 (m' : Int))) g m' v cs := by
  refine ⟨h.a.set 0 (.int .i64 (m' : Int)), rowD_on h.r fun G hG => ?_, h.d.setCell (p := ⟨g, 0, none⟩) h.z _, h.z, h.b⟩
  exact Below.heap_setCell X ⟨g, 0, none⟩ _ G (fun e => h.ne hG e.symm)
theorem ls_push {B : Nat} {w X : World} {g m : Nat} {v : Value} {cs : List Dop} (h : IsLv B w X g m v cs) (hn : cs.length ≤ 1073741824) :
    ∃ G k W2, (Builtin.append_ #[67, 67] 67 #[v, .slice (some ⟨X.heap.size, 0, none⟩) 1 1]).run Tryd.prog (X.alloc (.cells #[.int .i64 (m : Int), .int .i64 (m : Int), .string ⟨#[]⟩] 71)) = .ok (.slice (some ⟨G, 0, none⟩) (cs.length + 1) k) W2 ∧
      Cls (X.alloc (.cells #[.int .i64 (m : Int), .int .i64 (m : Int), .string ⟨#[]⟩] 71)) g 93 #[.int .i64 (m : Int), v] ∧ Cls W2 g 93 #[.int .i64 (m : Int), v] ∧
      IsLv B w (W2.setCell ⟨g, 1, none⟩ (.slice (some ⟨G, 0, none⟩) (cs.length + 1) k)) g m (.slice (some ⟨G, 0, none⟩) (cs.length + 1) k) (cs ++ [⟨m, m, []⟩]) ∧ Below B X (W2.setCell ⟨g, 1, none⟩ (.slice (some ⟨G, 0, none⟩) (cs.length + 1) k)) := by
  obtain ⟨G, k, W2, r2, o2, gr2, b2⟩ := push_ch X B cs.length v (opsV cs) (m : Int) (m : Int) ⟨#[]⟩ 67 h.r (by omega) (Nat.le_trans h.b h.d.size)
  have ba : Below X.heap.size X (X.alloc (.cells #[.int .i64 (m : Int), .int .i64 (m : Int), .string ⟨#[]⟩] 71)) := (Below.refl _ _).alloc (Nat.le_refl _) _
  have hgb : W2.heap[g]? = X.heap[g]? := gr2.block g h.a.lt (fun e => h.ne e.symm rfl)
  have k1 : Cls W2 g 93 #[.int .i64 (m : Int), v] := h.a.same hgb
  have he : opsV cs ++ [.int .i64 (m : Int), .int .i64 (m : Int), .string ⟨#[]⟩] = opsV (cs ++ [⟨m, m, []⟩]) := by rw [opsV_app, opsV_one]; rfl
  rw [he] at o2
  refine ⟨G, k, W2, r2, h.a.below ba h.a.lt, k1, ⟨k1.set 1 _, ?_, (h.d.trans b2).setCell (p := ⟨g, 1, none⟩) h.z _, h.z, h.b⟩, b2.setCell (p := ⟨g, 1, none⟩) h.z _⟩
  have hne : g ≠ G := by
    obtain ⟨_, cur, hc⟩ := rowD_block o2 (G := G) rfl
    exact typeD_ne k1 hc (by decide)
  have o3 : W2.ownsRow B 71 3 (.slice (some ⟨G, 0, none⟩) (cs.length + 1) k) (cs ++ [(⟨m, m, []⟩ : Dop)]).length (opsV (cs ++ [⟨m, m, []⟩])) := by
    rw [show (cs ++ [(⟨m, m, []⟩ : Dop)]).length = cs.length + 1 by simp]; exact o2
  refine rowD_on o3 fun G' hG => ?_
  obtain rfl : G = G' := by simpa [Value.ownBlock] using hG
  exact Below.heap_setCell W2 ⟨g, 1, none⟩ _ G (fun e => hne e.symm)
/-- keep -/
theorem lkeep_at (B : Nat) (w X : World) (g m n : Nat) (v : Value) (cs : List Dop) (h : IsLv B w X g m v cs) (hn : m + n ≤ 4611686018427387904) :
    Calls Tryd.prog 54 #[.pointer (some ⟨g, 0, none⟩), .int .i64 (n : Int)] X fun y X' => y = .returned (.tuple #[]) ∧ IsLv B w X' g (m + n) v cs := by
  have HR := hide (h.goes (m + n))
  have c0 : X.cell? ⟨g, 0, none⟩ = some (.int .i64 (m : Int)) := h.a.cell 0
  have f0 := h.a.frozen 0
  have e1 : wrap64 ((m : Int) + (n : Int)) = ((m + n : Nat) : Int) := by rw [wrapD _ (by omega) (by omega)]; omega
  clear h
  generalize m + n = M at *
  go_enter Tryd.func54, Tryd.ntmps54
  go_wp2_with fail
  exact bodyPost_end (v := .tuple #[]) (results_none Tryd.results54 _ _ _) rfl ⟨rfl, unhide HR⟩
theorem her_cases (m : Nat) (cs : List Dop) : (cs = [] ∧ herL m cs = [⟨m, m, []⟩]) ∨ (∃ e x, cs = e ++ [x] ∧ ¬ x.n = (m : Int) ∧ herL m cs = cs ++ [⟨m, m, []⟩]) ∨ (∃ e x, cs = e ++ [x] ∧ x.n = (m : Int) ∧ herL m cs = cs) := by
  by_cases hc : cs = []
  · subst hc; exact .inl ⟨rfl, rfl⟩
  · obtain ⟨e, x, rfl⟩ := list_snoc hc
    by_cases hx : x.n = (m : Int)
    · exact .inr (.inr ⟨e, x, rfl, hx, by simp [herL, hx]⟩)
    · exact .inr (.inl ⟨e, x, rfl, hx, by simp [herL, hx]⟩)
set_option maxRecDepth 100000 in
set_option maxHeartbeats 1000000 in
theorem here_at (B : Nat) (w X : World) (g m : Nat) (v : Value) (cs : List Dop) (h : IsLv B w X g m v cs) (hn : cs.length ≤ 1073741820) :
    Calls Tryd.prog 78 #[.pointer (some ⟨g, 0, none⟩)] X fun y X' => ∃ G c e x, herL m cs = e ++ [x] ∧ x.n = (m : Int) ∧ y = .returned (.pointer (some ⟨G, e.length * 3, none⟩)) ∧ IsLv B w X' g m (.slice (some ⟨G, 0, none⟩) (e.length + 1) c) (e ++ [x]) := by
  have HD := hide fun (n : Nat) => h.on (Y := X.drewN n) (below_drewN (Below.refl _ _) n)
  have HQ : Hid (∀ e x, herL m cs = e ++ [x] → e.length ≤ 1073741824) := hide fun e x hH => by
    have := congrArg List.length hH
    unfold herL at this
    split at this <;> simp at this <;> omega
  obtain ⟨av, cv, rfl, hcv⟩ := rowD_form h.r
  have c0 : X.cell? ⟨g, 0, none⟩ = some (.int .i64 (m : Int)) := h.a.cell 0
  obtain ⟨N, hN⟩ : ∃ N, N = cs.length := ⟨_, rfl⟩
  have c1 : X.cell? ⟨g, 1, none⟩ = some (.slice av N cv) := by rw [hN]; exact h.a.cell 1
  rcases her_cases m cs with ⟨hcs, hH⟩ | ⟨e, x, hcs, hx, hH⟩ | ⟨e, x, hcs, hx, hH⟩
  · have t1 : ((N : Int) == 0) = true := by rw [hN, hcs]; rfl
    have HH : Hid (herL m cs = cs ++ [⟨m, m, []⟩]) := hide (by rw [hH, hcs]; rfl)
    rw [← hN] at HD
    clear h hcv hcs hH hN
    go_enter Tryd.func78, Tryd.ntmps78
    go_upto_region 2 with fail
    go_quiet (fail)
    have HI1 := hide (unhide HD nq)
    clear HD
    generalize X.drewN nq = wc at *
    clear c0 c1
    go_upto_if 26 with fail
    go_cut [0] (fun v wz => v = .pointer (some ⟨g, 0, none⟩) ∧ Hid (∃ G c e x, herL m cs = e ++ [x] ∧ x.n = (m : Int) ∧ IsLv B w wz g m (.slice (some ⟨G, 0, none⟩) (e.length + 1) c) (e ++ [x])))
    case first =>
      obtain ⟨G, k, W2, r2, kA, k1, hI2, b2⟩ := ls_push ((unhide HI1).on (Y := wc.drew) (Below.refl _ _).drew) (by omega)
      have k0 := ((unhide HI1).on (Y := wc.drew) (Below.refl _ _).drew).a
      have R2 := hide r2
      have HR : Hid (∃ G' c e x, herL m cs = e ++ [x] ∧ x.n = (m : Int) ∧ IsLv B w (W2.setCell ⟨g, 1, none⟩ (.slice (some ⟨G, 0, none⟩) (cs.length + 1) k)) g m (.slice (some ⟨G', 0, none⟩) (e.length + 1) c) (e ++ [x])) :=
        hide ⟨G, k, cs, ⟨m, m, []⟩, unhide HH, rfl, hI2⟩
      have HS0 : Hid (wc.drew.cell? ⟨g, 0, none⟩ = some (.int .i64 (m : Int)) ∧ wc.drew.cell? ⟨g, 1, none⟩ = some (.slice av N cv)) := hide ⟨k0.cell 0, k0.cell 1⟩
      have HSA : Hid ((wc.drew.alloc (.cells #[.int .i64 (m : Int), .int .i64 (m : Int), .string ⟨#[]⟩] 71)).cell? ⟨g, 0, none⟩ = some (.int .i64 (m : Int)) ∧ (wc.drew.alloc (.cells #[.int .i64 (m : Int), .int .i64 (m : Int), .string ⟨#[]⟩] 71)).cell? ⟨g, 1, none⟩ = some (.slice av N cv)) := hide ⟨kA.cell 0, kA.cell 1⟩
      have HS2 : Hid (W2.cell? ⟨g, 0, none⟩ = some (.int .i64 (m : Int)) ∧ W2.cell? ⟨g, 1, none⟩ = some (.slice av N cv)) := hide ⟨k1.cell 0, k1.cell 1⟩
      have e0 : W2.cell? ⟨g, 1, none⟩ = some (.slice av N cv) := k1.cell 1
      have f0 := k1.frozen 1
      clear HI1 hn r2 kA k1 hI2 b2 k0 HH HQ
      generalize cs.length + 1 = M2 at *
      go_upto_region 3 with fail
      refine regionL (S := fun w' => w'.cell? ⟨g, 0, none⟩ = some (.int .i64 (m : Int)) ∧ w'.cell? ⟨g, 1, none⟩ = some (.slice av N cv)) (fun i => i == 18) (by kernel_rfl) ?_
      refine anyL_take (i := 0) (v := ?vpa10) rfl (by kernel_rfl) (by kernel_rfl) (by kernel_rfl) (by kernel_rfl) (fun _ _ _ h => h) (Or.inl ⟨by rfl, ?hpa10⟩) (unhide HS0) ?_
      case hpa10 => (intro w hSw; (try dsimp only at hSw); go_simp) <;> with_reducible rfl
      simp only [Act.put, List.getElem_toArray, List.getElem_cons_zero, List.setIfInBounds_toArray, List.set_cons_zero, List.set_cons_succ]
      refine anyL_take (i := 1) (v := ?vpa11) rfl (by kernel_rfl) (by kernel_rfl) (by kernel_rfl) (by kernel_rfl) (fun _ _ _ h => h) (Or.inl ⟨by rfl, ?hpa11⟩) (unhide HS0) ?_
      case hpa11 => (intro w hSw; (try dsimp only at hSw); go_simp) <;> with_reducible rfl
      simp only [Act.put, List.getElem_toArray, List.getElem_cons_zero, List.getElem_cons_succ, List.setIfInBounds_toArray, List.set_cons_zero, List.set_cons_succ]
      refine anyL_take (i := 2) (v := ?vpa12) rfl (by kernel_rfl) (by kernel_rfl) (by kernel_rfl) (by kernel_rfl) (fun _ _ _ h => h) (Or.inl ⟨by rfl, ?hpa12⟩) (unhide HS0) ?_
      case hpa12 => (intro w hSw; (try dsimp only at hSw); go_simp) <;> with_reducible rfl
      simp only [Act.put, List.getElem_toArray, List.getElem_cons_zero, List.getElem_cons_succ, List.setIfInBounds_toArray, List.set_cons_zero, List.set_cons_succ]
      refine anyL_take (i := 3) (v := ?vpa13) rfl (by kernel_rfl) (by kernel_rfl) (by kernel_rfl) (by kernel_rfl) (fun _ _ _ h => h) (Or.inl ⟨by rfl, ?hpa13⟩) (unhide HS0) ?_
      case hpa13 => (intro w hSw; (try dsimp only at hSw); go_simp) <;> with_reducible rfl
      simp only [Act.put, List.getElem_toArray, List.getElem_cons_zero, List.getElem_cons_succ, List.setIfInBounds_toArray, List.set_cons_zero, List.set_cons_succ]
      refine anyL_take (i := 4) (v := ?vpa14) rfl (by kernel_rfl) (by kernel_rfl) (by kernel_rfl) (by kernel_rfl) (fun _ _ _ h => h) (Or.inl ⟨by rfl, ?hpa14⟩) (unhide HS0) ?_
      case hpa14 => (intro w hSw; (try dsimp only at hSw); go_simp) <;> with_reducible rfl
      simp only [Act.put, List.getElem_toArray, List.getElem_cons_zero, List.getElem_cons_succ, List.setIfInBounds_toArray, List.set_cons_zero, List.set_cons_succ]
      refine anyL_take (i := 5) (v := ?vpa15) rfl (by kernel_rfl) (by kernel_rfl) (by kernel_rfl) (by kernel_rfl) (fun _ _ _ h => h) (Or.inl ⟨by rfl, ?hpa15⟩) (unhide HS0) ?_
      case hpa15 => (intro w hSw; (try dsimp only at hSw); go_simp) <;> with_reducible rfl
      simp only [Act.put, List.getElem_toArray, List.getElem_cons_zero, List.getElem_cons_succ, List.setIfInBounds_toArray, List.set_cons_zero, List.set_cons_succ]
      refine anyL_take (i := 6) (v := ?vpa16) rfl (by kernel_rfl) (by kernel_rfl) (by kernel_rfl) (by kernel_rfl) (fun _ _ _ h => h) (Or.inl ⟨by rfl, ?hpa16⟩) (unhide HS0) ?_
      case hpa16 => (intro w hSw; (try dsimp only at hSw); go_simp) <;> with_reducible rfl
      simp only [Act.put, List.getElem_toArray, List.getElem_cons_zero, List.getElem_cons_succ, List.setIfInBounds_toArray, List.set_cons_zero, List.set_cons_succ]
      refine anyL_take (i := 7) (v := ?vpa17) rfl (by kernel_rfl) (by kernel_rfl) (by kernel_rfl) (by kernel_rfl) (fun _ _ _ h => h) (Or.inl ⟨by rfl, ?hpa17⟩) (unhide HS0) ?_
      case hpa17 => (intro w hSw; (try dsimp only at hSw); go_simp) <;> with_reducible rfl
      simp only [Act.put, List.getElem_toArray, List.getElem_cons_zero, List.getElem_cons_succ, List.setIfInBounds_toArray, List.set_cons_zero, List.set_cons_succ]
      refine anyL_take (i := 8) (v := ?vpa18) rfl (by kernel_rfl) (by kernel_rfl) (by kernel_rfl) (by kernel_rfl) (fun _ _ _ h => h) (Or.inl ⟨by rfl, ?hpa18⟩) (unhide HS0) ?_
      case hpa18 => (intro w hSw; (try dsimp only at hSw); go_simp) <;> with_reducible rfl
      simp only [Act.put, List.getElem_toArray, List.getElem_cons_zero, List.getElem_cons_succ, List.setIfInBounds_toArray, List.set_cons_zero, List.set_cons_succ]
      refine anyL_take (i := 9) (v := ?vpa19) rfl (by kernel_rfl) (by kernel_rfl) (by kernel_rfl) (by kernel_rfl) (fun _ _ _ h => h) (Or.inl ⟨by rfl, ?hpa19⟩) (unhide HS0) ?_
      case hpa19 => (intro w hSw; (try dsimp only at hSw); go_simp) <;> with_reducible rfl
      simp only [Act.put, List.getElem_toArray, List.getElem_cons_zero, List.getElem_cons_succ, List.setIfInBounds_toArray, List.set_cons_zero, List.set_cons_succ]
      refine anyL_take (i := 10) (v := ?vpa110) rfl (by kernel_rfl) (by kernel_rfl) (by kernel_rfl) (by kernel_rfl) (fun _ _ _ h => h) (Or.inl ⟨by rfl, ?hpa110⟩) (unhide HS0) ?_
      case hpa110 => (intro w hSw; (try dsimp only at hSw); go_simp) <;> with_reducible rfl
      simp only [Act.put, List.getElem_toArray, List.getElem_cons_zero, List.getElem_cons_succ, List.setIfInBounds_toArray, List.set_cons_zero, List.set_cons_succ]
      refine anyL_take (i := 11) (v := ?vpa111) rfl (by kernel_rfl) (by kernel_rfl) (by kernel_rfl) (by kernel_rfl) (fun _ _ _ h => h) (Or.inl ⟨by rfl, ?hpa111⟩) (unhide HS0) ?_
      case hpa111 => (intro w hSw; (try dsimp only at hSw); go_simp) <;> with_reducible rfl
      simp only [Act.put, List.getElem_toArray, List.getElem_cons_zero, List.getElem_cons_succ, List.setIfInBounds_toArray, List.set_cons_zero, List.set_cons_succ]
      refine anyL_take (i := 12) (v := ?vpa112) rfl (by kernel_rfl) (by kernel_rfl) (by kernel_rfl) (by kernel_rfl) (fun _ _ _ h => h) (Or.inl ⟨by rfl, ?hpa112⟩) (unhide HS0) ?_
      case hpa112 => (intro w hSw; (try dsimp only at hSw); go_simp) <;> with_reducible rfl
      simp only [Act.put, List.getElem_toArray, List.getElem_cons_zero, List.getElem_cons_succ, List.setIfInBounds_toArray, List.set_cons_zero, List.set_cons_succ]
      refine anyL_take (i := 13) (v := ?vpa113) rfl (by kernel_rfl) (by kernel_rfl) (by kernel_rfl) (by kernel_rfl) (fun _ _ _ h => h) (Or.inl ⟨by rfl, ?hpa113⟩) (unhide HS0) ?_
      case hpa113 => (intro w hSw; (try dsimp only at hSw); go_simp) <;> with_reducible rfl
      simp only [Act.put, List.getElem_toArray, List.getElem_cons_zero, List.getElem_cons_succ, List.setIfInBounds_toArray, List.set_cons_zero, List.set_cons_succ]
      refine anyL_ready (rs := [14]) (by kernel_rfl) (by simp) ?_
      refine AllL.cons rfl (fun K hK => ?_) AllL.nil
      go_simp
      refine unhide hK _ _ (fun _ => unhide HSA) ?_
      clear hK K
      refine anyL_ready (rs := [15]) (by kernel_rfl) (by simp) ?_
      refine AllL.cons rfl (fun K hK => ?_) AllL.nil
      refine step_append_in rfl _ _ 67 67 rfl _ _ rfl rfl _ _ (unhide R2) ?_
      go_simp
      clear R2
      refine unhide hK _ _ (fun _ => unhide HS2) ?_
      clear hK K
      refine anyL_take (i := 16) (v := ?vpa114) rfl (by kernel_rfl) (by kernel_rfl) (by kernel_rfl) (by kernel_rfl) (fun _ _ _ h => h) (Or.inl ⟨by rfl, ?hpa114⟩) (unhide HS2) ?_
      case hpa114 => (intro w hSw; (try dsimp only at hSw); go_simp) <;> with_reducible rfl
      simp only [Act.put, List.getElem_toArray, List.getElem_cons_zero, List.getElem_cons_succ, List.setIfInBounds_toArray, List.set_cons_zero, List.set_cons_succ]
      refine anyL_take (i := 17) (v := ?vpa115) rfl (by kernel_rfl) (by kernel_rfl) (by kernel_rfl) (by kernel_rfl) (fun _ _ _ h => h) (Or.inl ⟨by rfl, ?hpa115⟩) (unhide HS2) ?_
      case hpa115 => (intro w hSw; (try dsimp only at hSw); go_simp) <;> with_reducible rfl
      simp only [Act.put, List.getElem_toArray, List.getElem_cons_zero, List.getElem_cons_succ, List.setIfInBounds_toArray, List.set_cons_zero, List.set_cons_succ]
      refine anyL_ready (rs := [18]) (by kernel_rfl) (by simp) ?_
      refine AllL.cons rfl (fun K hK => ?_) AllL.nil
      go_simp
      refine unhide hK _ _ (fun h => by cases h) ?_
      clear hK K
      refine anyL_done (by kernel_rfl) ?_ _
      go_wp2_with fail
      go_meet
      case rel => exact ⟨rfl, HR⟩
    case rest =>
      obtain ⟨rfl, HR⟩ := hcut
      clear HI1
      obtain ⟨G, c, e, x, hH, hx, hi⟩ := unhide HR
      have c1 : wc.cell? ⟨g, 1, none⟩ = some (.slice (some ⟨G, 0, none⟩) (e.length + 1) c) := hi.a.cell 1
      have hq : e.length ≤ 1073741824 := unhide HQ e x hH
      have HF := hide fun (n : Nat) => (⟨G, c, e, x, hH, hx, rfl, hi.on (Y := wc.drewN n) (below_drewN (Below.refl _ _) n)⟩ : ∃ G' c' e' x', herL m cs = e' ++ [x'] ∧ x'.n = (m : Int) ∧ (.returned (.pointer (some ⟨G, e.length * 3, none⟩)) : Ending) = .returned (.pointer (some ⟨G', e'.length * 3, none⟩)) ∧ IsLv B w (wc.drewN n) g m (.slice (some ⟨G', 0, none⟩) (e'.length + 1) c') (e' ++ [x']))
      obtain ⟨e1, e2, e3, t9, t9', hlt⟩ := last_arith hq
      have hcc : e.length + 1 ≤ c := by obtain ⟨_, _, he, hc⟩ := rowD_form hi.r; simp at he; obtain ⟨_, rfl⟩ := he; simpa using hc
      clear HR hi hH hx hq HQ
      generalize e.length = q at *
      generalize hQ1 : q + 1 = Q1 at *
      have hq1 : q < Q1 := by omega
      clear hQ1
      go_upto_region 4 with fail
      go_quiet (fail)
      go_wp2_with fail
      refine bodyPost_ret (results_tmp rfl _ _ _) rfl ?_
      exact unhide HF _
  · obtain ⟨l0, l1, l2⟩ := opsV_last e x
    have hr := h.r
    have hle : N = e.length + 1 := by rw [hN, hcs]; simp
    have t1 : ((N : Int) == 0) = false := by rw [hle]; simp; omega
    have hlt' : e.length < N := by omega
    obtain ⟨G0, c, he, hG⟩ := rowD_some hr (by omega)
    simp only [Value.slice.injEq] at he
    obtain ⟨rfl, -, -⟩ := he
    rw [hcs] at hr
    obtain ⟨m1, z1⟩ := rowD_cell (n := (e ++ [x]).length) hr l1
    obtain ⟨e1, e2, e3, t9, t9', hlt⟩ := last_arith (m := e.length) (by omega)
    have HH := hide hH
    rw [← hle] at e1 hlt
    have t2 : (x.n != (m : Int)) = true := by simpa using hx
    rw [← hN] at HD
    clear h hr l0 l1 l2 z1 hcs hH hx t9 t9' e2 hcv hle hN
    obtain ⟨xk, xn, xt⟩ := x
    dsimp only at *
    generalize e.length = q at *
    go_enter Tryd.func78, Tryd.ntmps78
    go_upto_region 2 with fail
    go_quiet (fail)
    clear e1 e3 hlt hlt' t1 t2 m1 c1 hG
    generalize (some (⟨G0, 0, none⟩ : Addr)) = av at *
    have HI1 := hide (unhide HD nq)
    clear HD
    generalize X.drewN nq = wc at *
    clear c0
    go_upto_if 26 with fail
    go_cut [0] (fun v wz => v = .pointer (some ⟨g, 0, none⟩) ∧ Hid (∃ G c e x, herL m cs = e ++ [x] ∧ x.n = (m : Int) ∧ IsLv B w wz g m (.slice (some ⟨G, 0, none⟩) (e.length + 1) c) (e ++ [x])))
    case first =>
      obtain ⟨G, k, W2, r2, kA, k1, hI2, b2⟩ := ls_push ((unhide HI1).on (Y := wc.drew) (Below.refl _ _).drew) (by omega)
      have k0 := ((unhide HI1).on (Y := wc.drew) (Below.refl _ _).drew).a
      have R2 := hide r2
      have HR : Hid (∃ G' c e x, herL m cs = e ++ [x] ∧ x.n = (m : Int) ∧ IsLv B w (W2.setCell ⟨g, 1, none⟩ (.slice (some ⟨G, 0, none⟩) (cs.length + 1) k)) g m (.slice (some ⟨G', 0, none⟩) (e.length + 1) c) (e ++ [x])) :=
        hide ⟨G, k, cs, ⟨m, m, []⟩, unhide HH, rfl, hI2⟩
      have HS0 : Hid (wc.drew.cell? ⟨g, 0, none⟩ = some (.int .i64 (m : Int)) ∧ wc.drew.cell? ⟨g, 1, none⟩ = some (.slice av N cv)) := hide ⟨k0.cell 0, k0.cell 1⟩
      have HSA : Hid ((wc.drew.alloc (.cells #[.int .i64 (m : Int), .int .i64 (m : Int), .string ⟨#[]⟩] 71)).cell? ⟨g, 0, none⟩ = some (.int .i64 (m : Int)) ∧ (wc.drew.alloc (.cells #[.int .i64 (m : Int), .int .i64 (m : Int), .string ⟨#[]⟩] 71)).cell? ⟨g, 1, none⟩ = some (.slice av N cv)) := hide ⟨kA.cell 0, kA.cell 1⟩
      have HS2 : Hid (W2.cell? ⟨g, 0, none⟩ = some (.int .i64 (m : Int)) ∧ W2.cell? ⟨g, 1, none⟩ = some (.slice av N cv)) := hide ⟨k1.cell 0, k1.cell 1⟩
      have e0 : W2.cell? ⟨g, 1, none⟩ = some (.slice av N cv) := k1.cell 1
      have f0 := k1.frozen 1
      clear HI1 hn r2 kA k1 hI2 b2 k0 HH HQ
      generalize cs.length + 1 = M2 at *
      go_upto_region 3 with fail
      refine regionL (S := fun w' => w'.cell? ⟨g, 0, none⟩ = some (.int .i64 (m : Int)) ∧ w'.cell? ⟨g, 1, none⟩ = some (.slice av N cv)) (fun i => i == 18) (by kernel_rfl) ?_
      refine anyL_take (i := 0) (v := ?vpa216) rfl (by kernel_rfl) (by kernel_rfl) (by kernel_rfl) (by kernel_rfl) (fun _ _ _ h => h) (Or.inl ⟨by rfl, ?hpa216⟩) (unhide HS0) ?_
      case hpa216 => (intro w hSw; (try dsimp only at hSw); go_simp) <;> with_reducible rfl
      simp only [Act.put, List.getElem_toArray, List.getElem_cons_zero, List.setIfInBounds_toArray, List.set_cons_zero, List.set_cons_succ]
      refine anyL_take (i := 1) (v := ?vpa217) rfl (by kernel_rfl) (by kernel_rfl) (by kernel_rfl) (by kernel_rfl) (fun _ _ _ h => h) (Or.inl ⟨by rfl, ?hpa217⟩) (unhide HS0) ?_
      case hpa217 => (intro w hSw; (try dsimp only at hSw); go_simp) <;> with_reducible rfl
      simp only [Act.put, List.getElem_toArray, List.getElem_cons_zero, List.getElem_cons_succ, List.setIfInBounds_toArray, List.set_cons_zero, List.set_cons_succ]
      refine anyL_take (i := 2) (v := ?vpa218) rfl (by kernel_rfl) (by kernel_rfl) (by kernel_rfl) (by kernel_rfl) (fun _ _ _ h => h) (Or.inl ⟨by rfl, ?hpa218⟩) (unhide HS0) ?_
      case hpa218 => (intro w hSw; (try dsimp only at hSw); go_simp) <;> with_reducible rfl
      simp only [Act.put, List.getElem_toArray, List.getElem_cons_zero, List.getElem_cons_succ, List.setIfInBounds_toArray, List.set_cons_zero, List.set_cons_succ]
      refine anyL_take (i := 3) (v := ?vpa219) rfl (by kernel_rfl) (by kernel_rfl) (by kernel_rfl) (by kernel_rfl) (fun _ _ _ h => h) (Or.inl ⟨by rfl, ?hpa219⟩) (unhide HS0) ?_
      case hpa219 => (intro w hSw; (try dsimp only at hSw); go_simp) <;> with_reducible rfl
      simp only [Act.put, List.getElem_toArray, List.getElem_cons_zero, List.getElem_cons_succ, List.setIfInBounds_toArray, List.set_cons_zero, List.set_cons_succ]
      refine anyL_take (i := 4) (v := ?vpa220) rfl (by kernel_rfl) (by kernel_rfl) (by kernel_rfl) (by kernel_rfl) (fun _ _ _ h => h) (Or.inl ⟨by rfl, ?hpa220⟩) (unhide HS0) ?_
      case hpa220 => (intro w hSw; (try dsimp only at hSw); go_simp) <;> with_reducible rfl
      simp only [Act.put, List.getElem_toArray, List.getElem_cons_zero, List.getElem_cons_succ, List.setIfInBounds_toArray, List.set_cons_zero, List.set_cons_succ]
      refine anyL_take (i := 5) (v := ?vpa221) rfl (by kernel_rfl) (by kernel_rfl) (by kernel_rfl) (by kernel_rfl) (fun _ _ _ h => h) (Or.inl ⟨by rfl, ?hpa221⟩) (unhide HS0) ?_
      case hpa221 => (intro w hSw; (try dsimp only at hSw); go_simp) <;> with_reducible rfl
      simp only [Act.put, List.getElem_toArray, List.getElem_cons_zero, List.getElem_cons_succ, List.setIfInBounds_toArray, List.set_cons_zero, List.set_cons_succ]
      refine anyL_take (i := 6) (v := ?vpa222) rfl (by kernel_rfl) (by kernel_rfl) (by kernel_rfl) (by kernel_rfl) (fun _ _ _ h => h) (Or.inl ⟨by rfl, ?hpa222⟩) (unhide HS0) ?_
      case hpa222 => (intro w hSw; (try dsimp only at hSw); go_simp) <;> with_reducible rfl
      simp only [Act.put, List.getElem_toArray, List.getElem_cons_zero, List.getElem_cons_succ, List.setIfInBounds_toArray, List.set_cons_zero, List.set_cons_succ]
      refine anyL_take (i := 7) (v := ?vpa223) rfl (by kernel_rfl) (by kernel_rfl) (by kernel_rfl) (by kernel_rfl) (fun _ _ _ h => h) (Or.inl ⟨by rfl, ?hpa223⟩) (unhide HS0) ?_
      case hpa223 => (intro w hSw; (try dsimp only at hSw); go_simp) <;> with_reducible rfl
      simp only [Act.put, List.getElem_toArray, List.getElem_cons_zero, List.getElem_cons_succ, List.setIfInBounds_toArray, List.set_cons_zero, List.set_cons_succ]
      refine anyL_take (i := 8) (v := ?vpa224) rfl (by kernel_rfl) (by kernel_rfl) (by kernel_rfl) (by kernel_rfl) (fun _ _ _ h => h) (Or.inl ⟨by rfl, ?hpa224⟩) (unhide HS0) ?_
      case hpa224 => (intro w hSw; (try dsimp only at hSw); go_simp) <;> with_reducible rfl
      simp only [Act.put, List.getElem_toArray, List.getElem_cons_zero, List.getElem_cons_succ, List.setIfInBounds_toArray, List.set_cons_zero, List.set_cons_succ]
      refine anyL_take (i := 9) (v := ?vpa225) rfl (by kernel_rfl) (by kernel_rfl) (by kernel_rfl) (by kernel_rfl) (fun _ _ _ h => h) (Or.inl ⟨by rfl, ?hpa225⟩) (unhide HS0) ?_
      case hpa225 => (intro w hSw; (try dsimp only at hSw); go_simp) <;> with_reducible rfl
      simp only [Act.put, List.getElem_toArray, List.getElem_cons_zero, List.getElem_cons_succ, List.setIfInBounds_toArray, List.set_cons_zero, List.set_cons_succ]
      refine anyL_take (i := 10) (v := ?vpa226) rfl (by kernel_rfl) (by kernel_rfl) (by kernel_rfl) (by kernel_rfl) (fun _ _ _ h => h) (Or.inl ⟨by rfl, ?hpa226⟩) (unhide HS0) ?_
      case hpa226 => (intro w hSw; (try dsimp only at hSw); go_simp) <;> with_reducible rfl
      simp only [Act.put, List.getElem_toArray, List.getElem_cons_zero, List.getElem_cons_succ, List.setIfInBounds_toArray, List.set_cons_zero, List.set_cons_succ]
      refine anyL_take (i := 11) (v := ?vpa227) rfl (by kernel_rfl) (by kernel_rfl) (by kernel_rfl) (by kernel_rfl) (fun _ _ _ h => h) (Or.inl ⟨by rfl, ?hpa227⟩) (unhide HS0) ?_
      case hpa227 => (intro w hSw; (try dsimp only at hSw); go_simp) <;> with_reducible rfl
      simp only [Act.put, List.getElem_toArray, List.getElem_cons_zero, List.getElem_cons_succ, List.setIfInBounds_toArray, List.set_cons_zero, List.set_cons_succ]
      refine anyL_take (i := 12) (v := ?vpa228) rfl (by kernel_rfl) (by kernel_rfl) (by kernel_rfl) (by kernel_rfl) (fun _ _ _ h => h) (Or.inl ⟨by rfl, ?hpa228⟩) (unhide HS0) ?_
      case hpa228 => (intro w hSw; (try dsimp only at hSw); go_simp) <;> with_reducible rfl
      simp only [Act.put, List.getElem_toArray, List.getElem_cons_zero, List.getElem_cons_succ, List.setIfInBounds_toArray, List.set_cons_zero, List.set_cons_succ]
      refine anyL_take (i := 13) (v := ?vpa229) rfl (by kernel_rfl) (by kernel_rfl) (by kernel_rfl) (by kernel_rfl) (fun _ _ _ h => h) (Or.inl ⟨by rfl, ?hpa229⟩) (unhide HS0) ?_
      case hpa229 => (intro w hSw; (try dsimp only at hSw); go_simp) <;> with_reducible rfl
      simp only [Act.put, List.getElem_toArray, List.getElem_cons_zero, List.getElem_cons_succ, List.setIfInBounds_toArray, List.set_cons_zero, List.set_cons_succ]
      refine anyL_ready (rs := [14]) (by kernel_rfl) (by simp) ?_
      refine AllL.cons rfl (fun K hK => ?_) AllL.nil
      go_simp
      refine unhide hK _ _ (fun _ => unhide HSA) ?_
      clear hK K
      refine anyL_ready (rs := [15]) (by kernel_rfl) (by simp) ?_
      refine AllL.cons rfl (fun K hK => ?_) AllL.nil
      refine step_append_in rfl _ _ 67 67 rfl _ _ rfl rfl _ _ (unhide R2) ?_
      go_simp
      clear R2
      refine unhide hK _ _ (fun _ => unhide HS2) ?_
      clear hK K
      refine anyL_take (i := 16) (v := ?vpa230) rfl (by kernel_rfl) (by kernel_rfl) (by kernel_rfl) (by kernel_rfl) (fun _ _ _ h => h) (Or.inl ⟨by rfl, ?hpa230⟩) (unhide HS2) ?_
      case hpa230 => (intro w hSw; (try dsimp only at hSw); go_simp) <;> with_reducible rfl
      simp only [Act.put, List.getElem_toArray, List.getElem_cons_zero, List.getElem_cons_succ, List.setIfInBounds_toArray, List.set_cons_zero, List.set_cons_succ]
      refine anyL_take (i := 17) (v := ?vpa231) rfl (by kernel_rfl) (by kernel_rfl) (by kernel_rfl) (by kernel_rfl) (fun _ _ _ h => h) (Or.inl ⟨by rfl, ?hpa231⟩) (unhide HS2) ?_
      case hpa231 => (intro w hSw; (try dsimp only at hSw); go_simp) <;> with_reducible rfl
      simp only [Act.put, List.getElem_toArray, List.getElem_cons_zero, List.getElem_cons_succ, List.setIfInBounds_toArray, List.set_cons_zero, List.set_cons_succ]
      refine anyL_ready (rs := [18]) (by kernel_rfl) (by simp) ?_
      refine AllL.cons rfl (fun K hK => ?_) AllL.nil
      go_simp
      refine unhide hK _ _ (fun h => by cases h) ?_
      clear hK K
      refine anyL_done (by kernel_rfl) ?_ _
      go_wp2_with fail
      go_meet
      case rel => exact ⟨rfl, HR⟩
    case rest =>
      obtain ⟨rfl, HR⟩ := hcut
      clear HI1
      obtain ⟨G, c, e, x, hH, hx, hi⟩ := unhide HR
      have c1 : wc.cell? ⟨g, 1, none⟩ = some (.slice (some ⟨G, 0, none⟩) (e.length + 1) c) := hi.a.cell 1
      have hq : e.length ≤ 1073741824 := unhide HQ e x hH
      have HF := hide fun (n : Nat) => (⟨G, c, e, x, hH, hx, rfl, hi.on (Y := wc.drewN n) (below_drewN (Below.refl _ _) n)⟩ : ∃ G' c' e' x', herL m cs = e' ++ [x'] ∧ x'.n = (m : Int) ∧ (.returned (.pointer (some ⟨G, e.length * 3, none⟩)) : Ending) = .returned (.pointer (some ⟨G', e'.length * 3, none⟩)) ∧ IsLv B w (wc.drewN n) g m (.slice (some ⟨G', 0, none⟩) (e'.length + 1) c') (e' ++ [x']))
      obtain ⟨e1, e2, e3, t9, t9', hlt⟩ := last_arith hq
      have hcc : e.length + 1 ≤ c := by obtain ⟨_, _, he, hc⟩ := rowD_form hi.r; simp at he; obtain ⟨_, rfl⟩ := he; simpa using hc
      clear HR hi hH hx hq HQ
      generalize e.length = q at *
      generalize hQ1 : q + 1 = Q1 at *
      have hq1 : q < Q1 := by omega
      clear hQ1
      go_upto_region 4 with fail
      go_quiet (fail)
      go_wp2_with fail
      refine bodyPost_ret (results_tmp rfl _ _ _) rfl ?_
      exact unhide HF _
  · obtain ⟨l0, l1, l2⟩ := opsV_last e x
    have hr := h.r
    have hle : N = e.length + 1 := by rw [hN, hcs]; simp
    have t1 : ((N : Int) == 0) = false := by rw [hle]; simp; omega
    have hlt' : e.length < N := by omega
    obtain ⟨G, c, he, hG⟩ := rowD_some hr (by omega)
    simp only [Value.slice.injEq] at he
    obtain ⟨rfl, -, -⟩ := he
    rw [hcs] at hr
    obtain ⟨m1, z1⟩ := rowD_cell (n := (e ++ [x]).length) hr l1
    obtain ⟨e1, e2, e3, t9, t9', hlt⟩ := last_arith (m := e.length) (by omega)
    have hi : IsLv B w X g m (.slice (some ⟨G, 0, none⟩) (e.length + 1) cv) (e ++ [x]) := by
      rw [← hN, hle, hcs] at h
      exact h
    have HY : Hid (∀ n, ∃ G c e x, herL m cs = e ++ [x] ∧ x.n = (m : Int) ∧ IsLv B w (X.drewN n) g m (.slice (some ⟨G, 0, none⟩) (e.length + 1) c) (e ++ [x])) := hide fun n => ⟨G, cv, e, x, hH.trans hcs, hx, hi.on (below_drewN (Below.refl _ _) n)⟩
    clear hi
    rw [← hle] at e1 hlt
    have t2 : (x.n != (m : Int)) = false := by simpa using hx
    rw [← hN] at HD
    clear h hr l0 l1 l2 z1 hcs hH hx t9 t9' e2 hcv hle hN
    generalize x.n = xn at *
    generalize e.length = q at *
    go_enter Tryd.func78, Tryd.ntmps78
    go_upto_region 2 with fail
    go_quiet (fail)
    clear e1 e3 hlt hlt' t1 t2 m1
    have HR : Hid (∃ G c e x, herL m cs = e ++ [x] ∧ x.n = (m : Int) ∧ IsLv B w (X.drewN nq) g m (.slice (some ⟨G, 0, none⟩) (e.length + 1) c) (e ++ [x])) := hide (unhide HY nq)
    clear HY
    have HI1 := hide (unhide HD nq)
    clear HD
    generalize X.drewN nq = wc at *
    clear c0 c1
    go_upto_if 26 with fail
    go_cut [0] (fun v wz => v = .pointer (some ⟨g, 0, none⟩) ∧ Hid (∃ G c e x, herL m cs = e ++ [x] ∧ x.n = (m : Int) ∧ IsLv B w wz g m (.slice (some ⟨G, 0, none⟩) (e.length + 1) c) (e ++ [x])))
    case first =>
      go_wp2_with fail
      go_meet
      case rel => exact ⟨rfl, HR⟩
    case rest =>
      obtain ⟨rfl, HR⟩ := hcut
      clear HI1
      obtain ⟨G, c, e, x, hH, hx, hi⟩ := unhide HR
      have c1 : wc.cell? ⟨g, 1, none⟩ = some (.slice (some ⟨G, 0, none⟩) (e.length + 1) c) := hi.a.cell 1
      have hq : e.length ≤ 1073741824 := unhide HQ e x hH
      have HF := hide fun (n : Nat) => (⟨G, c, e, x, hH, hx, rfl, hi.on (Y := wc.drewN n) (below_drewN (Below.refl _ _) n)⟩ : ∃ G' c' e' x', herL m cs = e' ++ [x'] ∧ x'.n = (m : Int) ∧ (.returned (.pointer (some ⟨G, e.length * 3, none⟩)) : Ending) = .returned (.pointer (some ⟨G', e'.length * 3, none⟩)) ∧ IsLv B w (wc.drewN n) g m (.slice (some ⟨G', 0, none⟩) (e'.length + 1) c') (e' ++ [x']))
      obtain ⟨e1, e2, e3, t9, t9', hlt⟩ := last_arith hq
      have hcc : e.length + 1 ≤ c := by obtain ⟨_, _, he, hc⟩ := rowD_form hi.r; simp at he; obtain ⟨_, rfl⟩ := he; simpa using hc
      clear HR hi hH hx hq HQ
      generalize e.length = q at *
      generalize hQ1 : q + 1 = Q1 at *
      have hq1 : q < Q1 := by omega
      clear hQ1
      go_upto_region 4 with fail
      go_quiet (fail)
      go_wp2_with fail
      refine bodyPost_ret (results_tmp rfl _ _ _) rfl ?_
      exact unhide HF _

set_option maxRecDepth 100000 in
theorem lput_at (B : Nat) (w X : World) (g m : Nat) (v : Value) (cs : List Dop) (t : List Int) (h : IsLv B w X g m v cs) (hn : cs.length ≤ 1073741820) :
    Calls Tryd.prog 55 #[.pointer (some ⟨g, 0, none⟩), .string (strOfNums t)] X fun y X' => y = .returned (.tuple #[]) ∧ ∃ v', IsLv B w X' g m v' (upL (fun x => ⟨x.k, x.n, t⟩) (herL m cs)) := by
  have HH := hide (here_at B w X g m v cs h hn)
  clear h
  go_enter Tryd.func55, Tryd.ntmps55
  go_wp2_with fail
  refine (unhide HH).mono ?_
  rintro y Y ⟨G, c, e, x, hH, hx, rfl, hi⟩
  dsimp only
  clear HH
  have HEQ : Hid (upL (fun x => ⟨x.k, x.n, t⟩) (herL m cs) = e ++ [(⟨x.k, x.n, t⟩ : Dop)]) := hide (by rw [hH, upL_snoc])
  obtain ⟨l0, l1, l2⟩ := opsV_last e x
  have hi' : IsLv B w Y g m (.slice (some ⟨G, 0, none⟩) (e ++ [x]).length c) (e ++ [x]) := by simpa using hi
  obtain ⟨m1, z1⟩ := rowD_cell (n := (e ++ [x]).length) hi'.r l2
  have HR := hide (hi'.put (e.length * 3 + 2) (.string (strOfNums t)) (opsV_set2 e x t) (by simp))
  clear hi hi' l0 l1 l2 hH hx
  generalize (e ++ [(⟨x.k, x.n, t⟩ : Dop)]).length = L at *
  generalize e ++ [(⟨x.k, x.n, t⟩ : Dop)] = E at *
  generalize e.length * 3 = q at *
  generalize strOfNums t = st at *
  go_wp2_with fail
  exact bodyPost_end (v := .tuple #[]) (results_none Tryd.results55 _ _ _) rfl ⟨rfl, _, by rw [unhide HEQ]; exact unhide HR⟩
set_option maxRecDepth 100000 in
theorem ldrop_at (B : Nat) (w X : World) (g m n : Nat) (v : Value) (cs : List Dop) (h : IsLv B w X g m v cs) (hn : cs.length ≤ 1073741820) (hm : m + n ≤ 4611686018427387904) :
    Calls Tryd.prog 56 #[.pointer (some ⟨g, 0, none⟩), .int .i64 (n : Int)] X fun y X' => y = .returned (.tuple #[]) ∧ ∃ v', IsLv B w X' g (m + n) v' (upL (fun x => ⟨x.k, x.n + n, x.t⟩) (herL m cs)) := by
  have HH := hide (here_at B w X g m v cs h hn)
  have e1 : wrap64 ((m : Int) + (n : Int)) = ((m + n : Nat) : Int) := by rw [wrapD _ (by omega) (by omega)]; omega
  have HM : Hid ((m : Int) + (n : Int) = ((m + n : Nat) : Int)) := hide (by omega)
  clear h hm
  generalize m + n = M at *
  go_enter Tryd.func56, Tryd.ntmps56
  go_wp2_with fail
  refine (unhide HH).mono ?_
  rintro y Y ⟨G, c, e, x, hH, hx, rfl, hi⟩
  dsimp only
  clear HH
  have HEQ : Hid (upL (fun x => ⟨x.k, x.n + n, x.t⟩) (herL m cs) = e ++ [(⟨x.k, (M : Int), x.t⟩ : Dop)]) := hide (by rw [hH, upL_snoc, hx, unhide HM])
  obtain ⟨l0, l1, l2⟩ := opsV_last e x
  have hi' : IsLv B w Y g m (.slice (some ⟨G, 0, none⟩) (e ++ [x]).length c) (e ++ [x]) := by simpa using hi
  obtain ⟨m1, z1⟩ := rowD_cell (n := (e ++ [x]).length) hi'.r l1
  rw [hx] at m1
  have hR := hi'.put (e.length * 3 + 1) (.int .i64 (M : Int)) (opsV_set1 e x (M : Int)) (by simp)
  have HR := hide (hR.goes M)
  have c0 : (Y.setCell ⟨G, e.length * 3 + 1, none⟩ (.int .i64 (M : Int))).cell? ⟨g, 0, none⟩ = some (.int .i64 (m : Int)) := hR.a.cell 0
  have f0 := hR.a.frozen 0
  clear hi hi' l0 l1 l2 hH hx hR HM
  generalize (e ++ [(⟨x.k, (M : Int), x.t⟩ : Dop)]).length = L at *
  generalize e ++ [(⟨x.k, (M : Int), x.t⟩ : Dop)] = E at *
  generalize e.length * 3 = q at *
  go_upto_region 1 with fail
  clear m1 z1
  generalize Y.setCell ⟨G, q + 1, none⟩ (.int .i64 (M : Int)) = Z at *
  go_wp2_with fail
  exact bodyPost_end (v := .tuple #[]) (results_none Tryd.results56 _ _ _) rfl ⟨rfl, _, by rw [unhide HEQ]; exact unhide HR⟩

end Go.Proofs.YtkdnanlgkedjgaaDoor
end

section
namespace Go.Proofs.YtkdnanlgkedjgaaDoor
open Go.ChangeShapes Go.WideShapes Go.ChangeAt Go.RowKit
attribute [local go_sem] Oper.semAt_some

theorem upL_len (f : Dop → Dop) (l : List Dop) : (upL f l).length = l.length := by
  by_cases h : l = []
  · subst h; rfl
  · obtain ⟨e, x, rfl⟩ := list_snoc h; rw [upL_snoc]; simp
theorem her_len (m : Nat) (cs : List Dop) : (herL m cs).length ≤ cs.length + 1 := by unfold herL; split <;> simp
theorem stL_len (s : Nat × List Dop) (o : Dop) : (stL s o).2.length ≤ s.2.length + 1 := by
  unfold stL
  split
  · simp
  · split
    · simp only [upL_len]; exact her_len _ _
    · simp only [upL_len]; exact her_len _ _
theorem runL_len (d : List Dop) : ∀ k, k ≤ d.length → (runL (d.take k)).2.length ≤ k
  | 0, _ => by simp [runL]
  | k + 1, hk => by
    rw [runL_take d (by omega)]
    have := stL_len (runL (d.take k)) (d.getD k opZ)
    have := runL_len d k (by omega)
    omega
theorem runL_at {d : List Dop} (hv : valB d = true) : ∀ k, k ≤ d.length → (runL (d.take k)).1 = frD (d.take k)
  | 0, _ => by simp [runL, frD]
  | k + 1, hk => by
    rw [runL_take d (by omega), frD_take d (by omega), ← runL_at hv k (by omega)]
    have hx := valB_op hv (getD_memD (d := d) (k := k) (by omega))
    generalize d.getD k opZ = x at *
    unfold stL frN
    rcases hx with ⟨h1 | h1, _, _⟩ | ⟨h1, _, _⟩ <;> simp [h1]
theorem val_len {d : List Dop} (hv : valB d = true) : d.length ≤ 536870912 := by
  have h1 := can_len (d := d) (fun o ho => by
    rcases valB_op hv ho with ⟨h1, h2, h3⟩ | ⟨h1, h2, h3⟩
    · exact .inl ⟨h1, h2, h3⟩
    · exact .inr ⟨h1, h2, h3⟩)
  have h2 := dA_len (valB_k hv)
  have h3 := (valB_nn hv).2
  omega
set_option maxRecDepth 100000 in
theorem each_l (a : Option Addr) (c B g : Nat) (d : List Dop) (X : World) (hO : ∀ Y, Below B X Y → IsO Y a d) (v : Value) (hX : IsLv B X X g 0 v []) (hl : d.length ≤ 4611686018427387904) (hv : valB d = true) :
    Calls Tryd.prog 53 #[.slice a d.length c, .func (.func 54) #[.pointer (some ⟨g, 0, none⟩)] #[], .func (.func 55) #[.pointer (some ⟨g, 0, none⟩)] #[], .func (.func 56) #[.pointer (some ⟨g, 0, none⟩)] #[]] X
      fun y X' => y = .returned (.tuple #[]) ∧ ∃ v', IsLv B X X' g (runL d).1 v' (runL d).2 := by
  have hz := (valB_nn hv).2
  have hdl := val_len hv
  have := each_at a c B d X 54 55 56 (.pointer (some ⟨g, 0, none⟩))
    (fun k Y => ∃ v', IsLv B X Y g (runL (d.take k)).1 v' (runL (d.take k)).2)
    (enters_of Tryd.func54 (by kernel_rfl) rfl) (enters_of Tryd.func55 (by kernel_rfl) rfl) (enters_of Tryd.func56 (by kernel_rfl) rfl)
    hO (fun k Y ⟨_, hY⟩ => hY.d) (fun k Y o ⟨v', hY⟩ => ⟨v', hY.on ((Below.refl _ _).alloc (Nat.le_refl _) o)⟩) ⟨v, hX⟩ hl
    (fun k Y hlt h1 ⟨v', hY⟩ => by
      have hx := valB_op hv (getD_memD hlt)
      have e0 := runL_at hv k (by omega)
      have e1 := frD_take d hlt
      have e3 := frD_le d (k + 1)
      rw [runL_take d hlt]
      generalize runL (d.take k) = s at *
      generalize d.getD k opZ = x at *
      obtain ⟨xk, xn, xt⟩ := x
      dsimp only at hx h1
      subst h1
      rcases hx with ⟨_, hn, rfl⟩ | ⟨h2, _⟩
      · obtain ⟨m, rfl⟩ : ∃ m : Nat, xn = (m : Int) := ⟨xn.toNat, by omega⟩
        simp [frN] at e1
        refine (lkeep_at B X Y g s.1 m v' s.2 hY (by omega)).mono fun y Z ⟨e, hZ⟩ => ⟨e, v', ?_⟩
        simp only [stL, if_true, Int.toNat_natCast]
        exact hZ
      · omega)
    (fun k Y hlt h1 ⟨v', hY⟩ => by
      have hln := runL_len d k (by omega)
      have hx := valB_op hv (getD_memD hlt)
      rw [runL_take d hlt]
      generalize runL (d.take k) = s at *
      generalize d.getD k opZ = x at *
      obtain ⟨xk, xn, xt⟩ := x
      dsimp only at hx h1
      subst h1
      refine (lput_at B X Y g s.1 v' s.2 xt hY (by omega)).mono fun y Z ⟨e, v2, hZ⟩ => ⟨e, v2, ?_⟩
      simp only [stL, show ¬ ((2 : Int) = 1) by decide, if_false, if_true]
      exact hZ)
    (fun k Y hlt h1 ⟨v', hY⟩ => by
      have hln := runL_len d k (by omega)
      have hx := valB_op hv (getD_memD hlt)
      have e0 := runL_at hv k (by omega)
      have e1 := frD_take d hlt
      have e3 := frD_le d (k + 1)
      rw [runL_take d hlt]
      generalize runL (d.take k) = s at *
      generalize d.getD k opZ = x at *
      obtain ⟨xk, xn, xt⟩ := x
      dsimp only at hx h1
      subst h1
      rcases hx with ⟨_, hn, rfl⟩ | ⟨h2, _⟩
      · obtain ⟨m, rfl⟩ : ∃ m : Nat, xn = (m : Int) := ⟨xn.toNat, by omega⟩
        simp [frN] at e1
        refine (ldrop_at B X Y g s.1 m v' s.2 hY (by omega) (by omega)).mono fun y Z ⟨e, v2, hZ⟩ => ⟨e, v2, ?_⟩
        simp only [stL, show ¬ ((3 : Int) = 1) by decide, show ¬ ((3 : Int) = 2) by decide, if_false, Int.toNat_natCast]
        exact hZ
      · omega)
    (fun k Y hlt h1 h2 h3 _ => by rcases valB_k hv _ (getD_memD hlt) with h | h | h <;> contradiction)
  rw [List.take_length] at this
  exact this
/-- what Changes answers -/
def chD (d : List Dop) : List Dop × Int := if valB d then ((runL d).2, 0) else ([], 130)
set_option maxRecDepth 100000 in
set_option maxHeartbeats 1000000 in
theorem Changes_at (a : Option Addr) (c : Nat) (d : List Dop) (w : World) (h : IsO w a d) (hl : d.length ≤ 4611686018427387904) :
    Calls Tryd.prog 37 #[.slice a d.length c] w fun y w' => ∃ v, y = .returned (.tuple #[v, .int .i64 (chD d).2]) ∧ w'.ownsRow w.heap.size 71 3 v (chD d).1.length (opsV (chD d).1) ∧ Below w.heap.size w w' := by
  have HV := hide (Valid_atD a c d w h hl)
  cases hv : valB d with
  | false =>
    rw [hv] at HV
    unfold chD
    rw [hv]
    simp only [Bool.false_eq_true, if_false]
    clear hv h hl
    go_enter Tryd.func37, Tryd.ntmps37
    go_wp2_with fail
    refine (unhide HV).mono ?_
    rintro y w1 ⟨rfl, x1⟩
    dsimp only
    clear HV
    go_wp2_with fail
    refine bodyPost_ret (results_tmp2 rfl _ _ _) rfl ⟨.slice none 0 0, rfl, World.ownsRow_nil _ _ _ _, x1⟩
  | true =>
    rw [hv] at HV
    unfold chD
    rw [hv]
    simp only [if_true]
    go_enter Tryd.func37, Tryd.ntmps37
    go_wp2_with fail
    refine (unhide HV).mono ?_
    rintro y w1 ⟨rfl, x1⟩
    dsimp only
    have hW : IsLv w.heap.size (w1.alloc (.cells #[.int .i64 0, .slice none 0 0] 93)) (w1.alloc (.cells #[.int .i64 0, .slice none 0 0] 93)) w1.heap.size 0 (.slice none 0 0) [] :=
      ⟨Cls.new _ _ _, World.ownsRow_nil _ _ _ _, Below.refl _ _, x1.size, by have := x1.size; simp; omega⟩
    have HE := hide (each_l a c w.heap.size w1.heap.size d _ (fun Y hY => h.below ((x1.alloc x1.size _).trans hY) (Nat.le_refl _)) _ hW hl hv)
    have HX := hide (x1.alloc x1.size (.cells #[.int .i64 0, .slice none 0 0] 93))
    clear HV hW h hl hv x1
    go_upto_region 4 with fail
    generalize w1.alloc (.cells #[.int .i64 0, .slice none 0 0] 93) = w4 at *
    generalize w1.heap.size = g at *
    go_wp2_with fail
    refine (unhide HE).mono ?_
    rintro y w5 ⟨rfl, v5, h5⟩
    dsimp only
    have e1 : w5.cell? ⟨g, 1, none⟩ = some v5 := h5.a.cell 1
    have HOw := hide h5.r
    have HXX := hide ((unhide HX).trans h5.d)
    clear HE h5 HX
    go_wp2_with fail
    refine bodyPost_ret (results_tmp2 rfl _ _ _) rfl ⟨_, rfl, unhide HOw, unhide HXX⟩

end Go.Proofs.YtkdnanlgkedjgaaDoor
end

section
namespace Go.Proofs.YtkdnanlgkedjgaaDoor

/-- a part of a text -/
def subL (l : List Int) (a b : Nat) : List Int := (l.drop a).take (b - a)
theorem subL_no (l : List Int) (a : Nat) : subL l a a = [] := by simp [subL]
section
variable (E : Nat → Prop) (S : List Int → Nat) (l : List Int)
def okP (cs : List Dop) : Prop := ∀ c ∈ cs, E c.k.toNat ∧ E c.n.toNat
def sumP (cs : List Dop) : Nat := (cs.map fun c => S (subL l c.k.toNat c.n.toNat) + S c.t).sum
def okRf : Nat → List Dop → Prop
  | _, [] => True
  | m, o :: r => if o.k = 2 then okRf m r else E (m + o.n.toNat) ∧ okRf (m + o.n.toNat) r
def sumRf : Nat → List Dop → Nat
  | _, [] => 0
  | m, o :: r => if o.k = 2 then S o.t + sumRf m r else (if o.k = 3 then S (subL l m (m + o.n.toNat)) else 0) + sumRf (m + o.n.toNat) r
end
variable {E : Nat → Prop} {S : List Int → Nat} {l : List Int}
/-- what is known ahead of an operation -/
def Sta (q : Int) (m : Nat) (cs : List Dop) : Prop :=
  (q = 7 ∧ m = 0 ∧ cs = []) ∨ (q = 6 ∧ ∀ x, cs.getLast? = some x → x.n < (m : Int)) ∨ (q = 5 ∧ ∃ e t, cs = e ++ [⟨m, m, t⟩]) ∨ (q = 1 ∧ ∃ e x, cs = e ++ [x] ∧ x.n = (m : Int))
theorem okP_app (a b : List Dop) : okP E (a ++ b) ↔ okP E a ∧ okP E b := by
  unfold okP
  constructor
  · intro h; exact ⟨fun c hc => h c (by simp [hc]), fun c hc => h c (by simp [hc])⟩
  · rintro ⟨h1, h2⟩ c hc
    rcases List.mem_append.1 hc with hc | hc
    · exact h1 c hc
    · exact h2 c hc
theorem okP_one (c : Dop) : okP E [c] ↔ E c.k.toNat ∧ E c.n.toNat := by unfold okP; simp
theorem sumP_app (a b : List Dop) : sumP S l (a ++ b) = sumP S l a + sumP S l b := by simp [sumP]
theorem sumP_one (c : Dop) : sumP S l [c] = S (subL l c.k.toNat c.n.toNat) + S c.t := by simp [sumP]
theorem her_new {m : Nat} {cs : List Dop} (h : ∀ x, cs.getLast? = some x → x.n ≠ (m : Int)) : herL m cs = cs ++ [⟨m, m, []⟩] := by
  unfold herL
  rw [if_neg]
  intro e
  cases hc : cs.getLast? with
  | none => rw [hc] at e; cases e
  | some x => rw [hc] at e; exact h x hc (by simpa using e)
theorem her_on {m : Nat} {e : List Dop} {x : Dop} (h : x.n = (m : Int)) : herL m (e ++ [x]) = e ++ [x] := by
  unfold herL
  rw [if_pos (by simp [h])]
theorem cost_both (h0 : S [] = 0) (hE : E 0) : ∀ (d : List Dop) (q : Int) (m : Nat) (cs : List Dop), Sta q m cs → apL q d = true → (∀ o ∈ d, ((o.k = 1 ∨ o.k = 3) ∧ 1 ≤ o.n) ∨ o.k = 2) →
    ((okP E cs ∧ E m ∧ okRf E m d) ↔ (okP E (d.foldl stL (m, cs)).2 ∧ E (d.foldl stL (m, cs)).1)) ∧ sumP S l (d.foldl stL (m, cs)).2 = sumP S l cs + sumRf S l m d
  | [], q, m, cs, _, _, _ => by simp [okRf, sumRf]
  | o :: r, q, m, cs, hs, ha, hp => by
    have ho := hp o (by simp)
    have hr : ∀ o ∈ r, ((o.k = 1 ∨ o.k = 3) ∧ 1 ≤ o.n) ∨ o.k = 2 := fun x hx => hp x (by simp [hx])
    rw [apL, Bool.and_eq_true] at ha
    obtain ⟨ha1, ha2⟩ := ha
    obtain ⟨k, n, t⟩ := o
    dsimp only at ho ha1 ha2
    rw [List.foldl_cons]
    rcases ho with ⟨rfl | rfl, hn⟩ | rfl
    · -- keep
      obtain ⟨n, rfl⟩ := Int.eq_ofNat_of_zero_le (show 0 ≤ n by omega)
      have e : stL (m, cs) ⟨1, (n : Int), t⟩ = (m + n, cs) := by simp [stL]
      have hs' : Sta (nextN 1) (m + n) cs := by
        refine .inr (.inl ⟨by simp [nextN], fun x hx => ?_⟩)
        rcases hs with ⟨_, _, rfl⟩ | ⟨rfl, _⟩ | ⟨_, e', t', rfl⟩ | ⟨_, e', x', rfl, hx'⟩
        · cases hx
        · simp [apB, thisN] at ha1
        · simp at hx; subst hx; dsimp only; omega
        · simp at hx; subst hx; rw [hx']; omega
      have hm : okP E cs → E m := by
        intro h
        rcases hs with ⟨_, rfl, _⟩ | ⟨rfl, _⟩ | ⟨_, e', t', rfl⟩ | ⟨_, e', x', rfl, hx'⟩
        · exact hE
        · simp [apB, thisN] at ha1
        · have := ((okP_one _).1 ((okP_app _ _).1 h).2).2; simpa using this
        · have := ((okP_one _).1 ((okP_app _ _).1 h).2).2; rw [hx'] at this; simpa using this
      obtain ⟨i1, i2⟩ := cost_both h0 hE r _ (m + n) cs hs' ha2 hr
      rw [e, ← i1, i2]
      refine ⟨?_, by simp [sumRf]⟩
      simp only [okRf, show ¬ (1 : Int) = 2 by decide, if_false, Int.toNat_natCast]
      constructor
      · rintro ⟨h1, _, h3, h4⟩; exact ⟨h1, h3, h4⟩
      · rintro ⟨h1, h3, h4⟩; exact ⟨h1, hm h1, h3, h4⟩
    · -- drop
      obtain ⟨n, rfl⟩ := Int.eq_ofNat_of_zero_le (show 0 ≤ n by omega)
      obtain ⟨e', x', he, hk, hx, hx2, hsum⟩ : ∃ e' x', stL (m, cs) ⟨3, (n : Int), t⟩ = (m + n, e' ++ [⟨(m : Int), (m : Int) + n, x'⟩]) ∧ ((okP E cs ∧ E m) ↔ okP E e' ∧ E m) ∧ True ∧ True ∧ sumP S l cs = sumP S l e' + S x' := by
        rcases hs with ⟨_, rfl, rfl⟩ | ⟨_, hx⟩ | ⟨_, e', t', rfl⟩ | ⟨rfl, _⟩
        · refine ⟨[], [], by simp [stL, herL, upL], by simp, trivial, trivial, by simp [h0]⟩
        · refine ⟨cs, [], ?_, by simp, trivial, trivial, by simp [h0]⟩
          have := her_new (m := m) (cs := cs) fun x g => by have := hx x g; omega
          simp [stL, this, upL_snoc]
        · refine ⟨e', t', ?_, ?_, trivial, trivial, ?_⟩
          · have := her_on (m := m) (e := e') (x := ⟨m, m, t'⟩) rfl
            simp [stL, this, upL_snoc]
          · rw [okP_app, okP_one]; simp
          · rw [sumP_app, sumP_one]; simp [subL_no, h0]
        · simp [apB, thisN] at ha1
      obtain ⟨i1, i2⟩ := cost_both h0 hE r _ (m + n) (e' ++ [⟨(m : Int), (m : Int) + n, x'⟩]) (.inr (.inr (.inr ⟨by simp [nextN], e', _, rfl, by simp⟩))) ha2 hr
      rw [he, ← i1, i2, hsum]
      have et : ((m : Int) + n).toNat = m + n := by omega
      refine ⟨?_, by rw [sumP_app, sumP_one]; simp [sumRf, et]; omega⟩
      simp only [okRf, show ¬ (3 : Int) = 2 by decide, if_false, Int.toNat_natCast, okP_app, okP_one, et]
      constructor
      · rintro ⟨h1, h2, h3, h4⟩
        have := hk.1 ⟨h1, h2⟩
        exact ⟨⟨this.1, h2, h3⟩, h3, h4⟩
      · rintro ⟨⟨h1, h2, h3⟩, _, h4⟩
        have := hk.2 ⟨h1, h2⟩
        exact ⟨this.1, h2, h3, h4⟩
    · -- put
      have hx : ∀ x, cs.getLast? = some x → x.n ≠ (m : Int) := by
        rcases hs with ⟨_, rfl, rfl⟩ | ⟨_, hx⟩ | ⟨rfl, _⟩ | ⟨rfl, _⟩
        · intro x h; cases h
        · intro x h; have := hx x h; omega
        · simp [apB, thisN] at ha1
        · simp [apB, thisN] at ha1
      have he : stL (m, cs) ⟨2, n, t⟩ = (m, cs ++ [⟨(m : Int), (m : Int), t⟩]) := by
        simp [stL, her_new hx, upL_snoc]
      obtain ⟨i1, i2⟩ := cost_both h0 hE r _ m (cs ++ [⟨(m : Int), (m : Int), t⟩]) (.inr (.inr (.inl ⟨by simp [nextN], cs, t, rfl⟩))) ha2 hr
      rw [he, ← i1, i2]
      refine ⟨?_, by rw [sumP_app, sumP_one]; simp [sumRf, subL_no, h0]; omega⟩
      simp only [okRf, if_true, okP_app, okP_one, Int.toNat_natCast]
      constructor
      · rintro ⟨h1, h2, h3⟩; exact ⟨⟨h1, h2, h2⟩, h2, h3⟩
      · rintro ⟨⟨h1, _⟩, h2, h3⟩; exact ⟨h1, h2, h3⟩
/-- the changes of a valid delta cost what its operations cost, and cut a step just where these do -/
theorem cost_is (h0 : S [] = 0) (hE : E 0) {d : List Dop} (hv : valB d = true) (hn : E (frD d)) : (okRf E 0 d ↔ okP E (runL d).2) ∧ sumP S l (runL d).2 = sumRf S l 0 d := by
  have ha : apL 7 d = true := by
    unfold valB at hv
    simp only [Bool.and_eq_true] at hv
    exact hv.2.1
  have h := cost_both (E := E) (S := S) (l := l) h0 hE d 7 0 [] (.inl ⟨rfl, rfl, rfl⟩) ha (fun o ho => by
    rcases valB_op hv ho with ⟨h1, h2, _⟩ | ⟨h1, _, _⟩
    · exact .inl ⟨h1, h2⟩
    · exact .inr h1)
  have hr : (runL d).1 = frD d := by have := runL_at hv d.length (Nat.le_refl _); rwa [List.take_length] at this
  unfold runL at hr ⊢
  rw [hr] at h
  refine ⟨⟨fun g => (h.1.1 ⟨by simp [okP], hE, g⟩).1, fun g => (h.1.2 ⟨g, hn⟩).2.2⟩, by rw [h.2]; simp [sumP]⟩
end Go.Proofs.YtkdnanlgkedjgaaDoor
end
