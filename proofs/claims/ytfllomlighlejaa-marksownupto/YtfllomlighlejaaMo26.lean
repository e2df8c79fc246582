/- Layer 13, the document's: add. · Layer 13, the document's: add whole; Canon. · Layer 13, the document's Canon. · Layer 13, the document's Valid. · Layer 13, the document's Lens. · Layer 13: plain: one delta's atoms behind the other's, run by run; the reader. -/
import Derived.Test.YtfllomlighlejaaMo25
import Derived.Test.YtfllomlighlejaaMo22
import Derived.Deep.QuietTactic
import Derived.BigQuiet
import Derived.WalkSmall
import Derived.Test.YtfllomlighlejaaMo06

section
namespace Go.Proofs.Ytfllomlighlejaa
open Go.ChangeShapes Go.WideShapes Go.ChangeAt Go.RowKit
attribute [local go_sem] Oper.semAt_some

theorem rowD_set {W : World} {B g c n s : Nat} {t : TypeId} {xs : List Value} (h : W.ownsRow B t s (.slice (some ⟨g, 0, none⟩) n c) n xs) (j : Nat) (u : Value) : (W.setCell ⟨g, j, none⟩ u).ownsRow B t s (.slice (some ⟨g, 0, none⟩) n c) n (xs.set j u) := by
  have hh := h
  rcases h.2 with ⟨h0, _⟩ | ⟨g', cap', cur, hv, hb, hg, hc, hm, hs, ht⟩
  · cases h0
  · cases hv
    refine ⟨by rw [List.length_set]; exact h.1, Or.inr ⟨g, c, cur.setIfInBounds j u, rfl, hb, ?_, hc, hm, by simpa using hs, ?_⟩⟩
    · have hlt : g < W.heap.size := (Array.getElem?_eq_some_iff.1 hg).1
      simp only [World.setCell, Array.getElem?_modify, if_true, hg, Option.map_some]
      rfl
    · rw [Array.toList_setIfInBounds, List.take_set, ht]
theorem rowD_cell {W : World} {B g c n s : Nat} {t : TypeId} {xs : List Value} (h : W.ownsRow B t s (.slice (some ⟨g, 0, none⟩) n c) n xs) {j : Nat} {u : Value} (hj : xs[j]? = some u) : W.cell? ⟨g, j, none⟩ = some u ∧ W.frozen? ⟨g, j, none⟩ = false := by
  have := World.ownsRow.cells h rfl j u hj
  rw [Addr.add_lit, Nat.zero_add] at this
  refine ⟨this, ?_⟩
  rcases h.2 with ⟨h0, _⟩ | ⟨g', cap', cur, hv, _, hg, _⟩
  · cases h0
  · cases hv; simp [World.frozen?, hg]
theorem opsV_last (d : List Dop) (x : Dop) : (opsV (d ++ [x]))[d.length * 3]? = some (.int .i64 x.k) ∧ (opsV (d ++ [x]))[d.length * 3 + 1]? = some (.int .i64 x.n) ∧ (opsV (d ++ [x]))[d.length * 3 + 2]? = some (.string (strOfNums x.t)) := by
  have hl := opsV_len d
  rw [opsV_app, opsV_one]
  refine ⟨?_, ?_, ?_⟩
  · rw [List.getElem?_append_right (by omega), hl, Nat.sub_self]; rfl
  · rw [List.getElem?_append_right (by omega), hl, show d.length * 3 + 1 - d.length * 3 = 1 by omega]; rfl
  · rw [List.getElem?_append_right (by omega), hl, show d.length * 3 + 2 - d.length * 3 = 2 by omega]; rfl
theorem opsV_set1 (d : List Dop) (x : Dop) (n : Int) : (opsV (d ++ [x])).set (d.length * 3 + 1) (.int .i64 n) = opsV (d ++ [⟨x.k, n, x.t⟩]) := by
  rw [opsV_app, opsV_app, opsV_one, opsV_one, List.set_append_right _ _ (by rw [opsV_len]; omega), opsV_len, show d.length * 3 + 1 - d.length * 3 = 1 by omega]
  rfl
theorem opsV_set2 (d : List Dop) (x : Dop) (t : List Int) : (opsV (d ++ [x])).set (d.length * 3 + 2) (.string (strOfNums t)) = opsV (d ++ [⟨x.k, x.n, t⟩]) := by
  rw [opsV_app, opsV_app, opsV_one, opsV_one, List.set_append_right _ _ (by rw [opsV_len]; omega), opsV_len, show d.length * 3 + 2 - d.length * 3 = 2 by omega]
  rfl
theorem str_appD (a b : List Int) : strOfNums a ++ strOfNums b = strOfNums (a ++ b) := by
  apply ByteArray.ext
  simp [strOfNums]
/-- the operation that add writes behind the others -/
def newD (k n : Int) (t : List Int) : Dop := if k = 2 then ⟨2, 0, t⟩ else ⟨k, n, []⟩
theorem add1_nil (k n : Int) (t : List Int) : add1 [] k n t = [newD k n t] := rfl
theorem add1_other {d : List Dop} {x : Dop} {k n : Int} {t : List Int} (h : ¬ x.k = k) : add1 (d ++ [x]) k n t = d ++ [x] ++ [newD k n t] := by
  unfold add1
  simp only [List.getLast?_append, List.getLast?_singleton, Option.some_or, if_neg h]
  rfl
theorem add1_same {d : List Dop} {x : Dop} {k n : Int} {t : List Int} (h : x.k = k) : add1 (d ++ [x]) k n t = d ++ [⟨x.k, x.n + n, x.t ++ t⟩] := by
  unfold add1
  simp only [List.getLast?_append, List.getLast?_singleton, Option.some_or, if_pos h, List.dropLast_concat]
/-- nothing to add -/
def noD (k n : Int) (t : List Int) : Prop := (k = 2 ∧ t = []) ∨ (¬ k = 2 ∧ n = 0)
theorem no_tests {k n : Int} {t : List Int} (h : ¬ noD k n t) : ((k == 2) = true ∧ (k != 2) = false ∧ t.isEmpty = false) ∨ ((k == 2) = false ∧ (k != 2) = true ∧ (n == 0) = false) := by
  unfold noD at h
  by_cases hk : k = 2
  · left
    refine ⟨by simp [hk], by simp [hk], ?_⟩
    cases t with
    | nil => exact absurd (.inl ⟨hk, rfl⟩) h
    | cons a r => rfl
  · right
    refine ⟨by simp [hk], by simp [hk], ?_⟩
    have : ¬ n = 0 := fun hn => h (.inr ⟨hk, hn⟩)
    simpa using this
theorem rowD_some {X : World} {B s n : Nat} {t : TypeId} {v : Value} {xs : List Value} (h : X.ownsRow B t s v n xs) (hn : 0 < n) : ∃ g c, v = .slice (some ⟨g, 0, none⟩) n c ∧ B ≤ g := by
  rcases h.2 with ⟨_, h2⟩ | ⟨g, cap, cur, rfl, h3, _⟩
  · omega
  · exact ⟨g, cap, rfl, h3⟩
theorem last_arith {m : Nat} (hm : m ≤ 1073741824) : wrap64 (((m + 1 : Nat) : Int) - 1) = (m : Int) ∧ wrap64 ((m : Int) + 1 - 1) = (m : Int) ∧ wrap64 (m : Int) = (m : Int) ∧ decide ((m : Int) ≥ 0) = true ∧ decide (0 ≤ (m : Int)) = true ∧ (m : Int) < ((m + 1 : Nat) : Int) :=
  ⟨by rw [wrapD _ (by omega) (by omega)]; omega, by rw [wrapD _ (by omega) (by omega)]; omega, wrapD _ (by omega) (by omega), decide_eq_true (by omega), decide_eq_true (by omega), by omega⟩
theorem list_snoc {d : List Dop} (h : d ≠ []) : ∃ e x, d = e ++ [x] := ⟨d.dropLast, d.getLast h, (List.dropLast_concat_getLast h).symm⟩
end Go.Proofs.Ytfllomlighlejaa
end

section
namespace Go.Proofs.Ytfllomlighlejaa
open Go.ChangeShapes Go.WideShapes Go.ChangeAt Go.RowKit
attribute [local go_sem] Oper.semAt_some

theorem IsO.pre {W : World} {a : Option Addr} {d e : List Dop} (h : IsO W a (d ++ e)) : IsO W a d := by
  rcases h with h | ⟨g, off, rfl, hg, hc⟩
  · exact Or.inl (List.append_eq_nil_iff.1 h).1
  · refine Or.inr ⟨g, off, rfl, hg, fun k hk => ?_⟩
    have := hc k (by rw [List.length_append]; omega)
    rwa [show (d ++ e).getD k opZ = d.getD k opZ by simp [List.getD_eq_getElem?_getD, List.getElem?_append_left hk]] at this
theorem IsO.some {W : World} {a : Option Addr} {d : List Dop} (h : IsO W a d) : d = [] ∨ ∃ q, a = some q := by
  rcases h with h | ⟨g, off, rfl, _⟩
  · exact .inl h
  · exact .inr ⟨_, rfl⟩
/-- what may be added to -/
structure AdOk (d : List Dop) (n : Int) (t : List Int) : Prop where
  c : Can d
  l : d.length ≤ 1073741823
  xn : ∀ x ∈ d, x.n ≤ 2305843009213693952
  xt : ∀ x ∈ d, x.t.length ≤ 2305843009213693952
  nn : 0 ≤ n ∧ n ≤ 2305843009213693952
  tt : t.length ≤ 2305843009213693952
theorem pln_n {o : Dop} (h : Pln o) : 0 ≤ o.n := by rcases h with ⟨_, h, _⟩ | ⟨_, h, _⟩ <;> omega
theorem add1_len (d : List Dop) (k n : Int) (t : List Int) : (add1 d k n t).length ≤ d.length + 1 := by
  by_cases hd : d = []
  · subst hd; rw [add1_nil]; simp
  · obtain ⟨e, x, rfl⟩ := list_snoc hd
    by_cases hk : x.k = k
    · rw [add1_same hk]; simp
    · rw [add1_other hk]; simp
theorem no_yes {k n : Int} {t : List Int} (h : noD k n t) : ((k == 2) = true ∧ (k != 2) = false ∧ t.isEmpty = true) ∨ ((k == 2) = false ∧ (k != 2) = true ∧ (n == 0) = true) := by
  rcases h with ⟨h1, h2⟩ | ⟨h1, h2⟩
  · left; simp [h1, h2]
  · right; simp [h1, h2]
theorem addD_no {d : List Dop} {k n : Int} {t : List Int} (h : noD k n t) : addD d k n t = d := by unfold addD; unfold noD at h; rw [if_pos h]
theorem addD_one {d : List Dop} {k n : Int} {t : List Int} (h : ¬ noD k n t) (hx : ∀ x, d.getLast? = some x → ¬ (k = 2 ∧ x.k = 3)) : addD d k n t = add1 d k n t := by
  unfold addD
  unfold noD at h
  rw [if_neg h]
  cases hl : d.getLast? with
  | none => rfl
  | some x => simp only [hx x hl, if_false]
theorem addD_put {e : List Dop} {x : Dop} {n : Int} {t : List Int} (h : t ≠ []) (hx : x.k = 3) : addD (e ++ [x]) 2 n t = add1 e 2 0 t ++ [⟨3, x.n, []⟩] := by
  unfold addD
  rw [if_neg (by simp [h])]
  simp [hx]
theorem can_preD {e : List Dop} {x : Dop} (h : Can (e ++ [x])) : Can e := ⟨fun o ho => h.p o (by simp [ho]), (chn_app h.c).1⟩
end Go.Proofs.Ytfllomlighlejaa
end

section
namespace Go.Proofs.Ytfllomlighlejaa
open Go.ChangeShapes Go.WideShapes Go.ChangeAt Go.RowKit
attribute [local go_sem] Oper.semAt_some

theorem kn_cases (o : Dop) : (knB o = true ∧ decide (o.k < 1) = false ∧ decide (o.k > 3) = false ∧ decide (3 < o.k) = false ∧ ((o.k != 2) = false ∨ ((o.k != 2) = true ∧ decide (o.n < 0) = false))) ∨
    (knB o = false ∧ (decide (o.k < 1) = true ∨ (decide (o.k < 1) = false ∧ decide (o.k > 3) = true ∧ decide (3 < o.k) = true) ∨ (decide (o.k < 1) = false ∧ decide (o.k > 3) = false ∧ decide (3 < o.k) = false ∧ (o.k != 2) = true ∧ decide (o.n < 0) = true))) := by
  obtain ⟨k, n, t⟩ := o
  unfold knB
  dsimp only
  by_cases h1 : k < 1
  · right; refine ⟨?_, .inl (decide_eq_true h1)⟩; simp; omega
  by_cases h2 : 3 < k
  · right; refine ⟨?_, .inr (.inl ⟨decide_eq_false h1, decide_eq_true h2, decide_eq_true h2⟩)⟩; simp; omega
  by_cases h3 : k = 2
  · left; subst h3; simp
  by_cases h4 : n < 0
  · right; refine ⟨?_, .inr (.inr ⟨decide_eq_false h1, decide_eq_false h2, decide_eq_false h2, by simpa using h3, decide_eq_true h4⟩)⟩; simp; omega
  · left; refine ⟨?_, decide_eq_false h1, decide_eq_false h2, decide_eq_false h2, .inr ⟨by simpa using h3, decide_eq_false h4⟩⟩; simp; omega
theorem op_small {d : List Dop} {x : Dop} (h : Can d) (hx : x ∈ d) : x.n ≤ ((dA d).length : Int) ∧ x.t.length ≤ (dA d).length := by
  obtain ⟨a, b, rfl⟩ := List.append_of_mem hx
  have hp := h.p x hx
  have e : (dA (a ++ x :: b)).length = (dA a).length + ((opA x).length + (dA b).length) := by rw [dA_app, dA_cons, List.length_append, List.length_append]
  rw [e]
  rcases hp with ⟨h1 | h1, h2, h3⟩ | ⟨h1, h2, h3⟩
  · have : (opA x).length = x.n.toNat := by simp [opA, h1]
    rw [h3]; simp; omega
  · have : (opA x).length = x.n.toNat := by simp [opA, h1]
    rw [h3]; simp; omega
  · have : (opA x).length = x.t.length := by simp [opA, h1]
    omega
theorem fin_len (u : List Atm) : (dA (feedA b0 u).fin).length = u.length := by
  have := congrArg List.length (feed_atoms u wb0)
  rw [nf_len, nf_len] at this
  exact this.trans rfl
theorem adok_feed {u : List Atm} {n : Int} {t : List Int} (hu : u.length ≤ 1073741000) (hn : 0 ≤ n ∧ n ≤ 2305843009213693952) (ht : t.length ≤ 2305843009213693952) : AdOk (feedA b0 u).fin n t := by
  have hc := can_fin (wb_feed u wb0)
  have hl := fin_len u
  refine ⟨hc, ?_, fun x hx => ?_, fun x hx => ?_, hn, ht⟩
  · have := can_len hc.p; omega
  · have := (op_small hc hx).1; omega
  · have := (op_small hc hx).2; omega
/-- one more operation, as add says and as the builder does -/
theorem add_op {u : List Atm} {x : Dop} (hk : x.k = 1 ∨ x.k = 2 ∨ x.k = 3) (hn : x.k ≠ 2 → 0 ≤ x.n) : addD (feedA b0 u).fin x.k (if x.k = 2 then 0 else x.n) (if x.k = 2 then x.t else []) = (feedA b0 (u ++ opA x)).fin := by
  have hw := wb_feed u wb0
  rw [feedA_app, ← op_atoms]
  rcases hk with h | h | h
  · obtain ⟨m, hm⟩ : ∃ m : Nat, x.n = (m : Int) := ⟨x.n.toNat, by have := hn (by omega); omega⟩
    rw [op_keep h, h, hm]
    simp only [show ¬ ((1 : Int) = 2) by decide, if_false, Int.toNat_natCast]
    exact add_keep hw m
  · rw [op_put h, h]
    simp only [if_true]
    exact add_put hw x.t
  · obtain ⟨m, hm⟩ : ∃ m : Nat, x.n = (m : Int) := ⟨x.n.toNat, by have := hn (by omega); omega⟩
    rw [op_drop h, h, hm]
    simp only [show ¬ ((3 : Int) = 2) by decide, if_false, Int.toNat_natCast]
    exact add_drop hw m
theorem dA_takeS (d : List Dop) {k : Nat} (hk : k < d.length) : dA (d.take (k + 1)) = dA (d.take k) ++ opA (d.getD k opZ) := by
  rw [List.take_add_one, List.getElem?_eq_getElem hk, Option.toList_some, dA_app]
  simp [dA, List.getD_eq_getElem?_getD, List.getElem?_eq_getElem hk]
theorem frD_le (d : List Dop) (k : Nat) : frD (d.take k) ≤ frD d ∧ toD (d.take k) ≤ toD d := by
  have h1 : frD d = frD (d.take k) + frD (d.drop k) := by unfold frD; rw [← List.sum_append, ← List.map_append, List.take_append_drop]
  have h2 : toD d = toD (d.take k) + toD (d.drop k) := by unfold toD; rw [← List.sum_append, ← List.map_append, List.take_append_drop]
  omega
theorem ca_k {f m F : Nat} (hf : f ≤ 268435456) (hm : m ≤ 140737488355328) (h : F = f + m) : wrap64 ((f : Int) + (m : Int)) = (F : Int) ∧ wrap64 ((F : Int) + 0) = (F : Int) ∧ wrap64 (F : Int) = (F : Int) := by
  subst h
  exact ⟨by rw [wrapD _ (by omega) (by omega)]; omega, by rw [wrapD _ (by omega) (by omega)]; omega, wrapD _ (by omega) (by omega)⟩
theorem ca_0 {f : Nat} (hf : f ≤ 268435456) : wrap64 ((f : Int) + 0) = (f : Int) ∧ wrap64 (f : Int) = (f : Int) := ⟨by rw [wrapD _ (by omega) (by omega)]; omega, wrapD _ (by omega) (by omega)⟩
theorem big_t {m : Nat} (h : 268435456 < m) : decide ((m : Int) > 268435456) = true ∧ decide ((268435456 : Int) < (m : Int)) = true ∧ decide (268435456 < m) = true := ⟨decide_eq_true (by omega), decide_eq_true (by omega), decide_eq_true h⟩
theorem big_f {m : Nat} (h : ¬ 268435456 < m) : decide ((m : Int) > 268435456) = false ∧ decide ((268435456 : Int) < (m : Int)) = false ∧ decide (268435456 < m) = false := ⟨decide_eq_false (by omega), decide_eq_false (by omega), decide_eq_false h⟩
/-- the state of the second loop -/
structure CaI (d : List Dop) (k f t : Nat) (L : List Dop) (w : World) (a : Option Addr) (X : World) : Prop where
  ef : f = frD (d.take k)
  et : t = toD (d.take k)
  z : f ≤ 268435456 ∧ t ≤ 268435456
  l : L = (feedA b0 (dA (d.take k))).fin
  o : IsO X a L
  d : Below w.heap.size w X
end Go.Proofs.Ytfllomlighlejaa
end

section
namespace Go.Proofs.Ytfllomlighlejaa
open Go.ChangeShapes Go.WideShapes Go.ChangeAt Go.RowKit
attribute [local go_sem] Oper.semAt_some

theorem val_pl {d : List Dop} (h : d.all plB = false) : valB d = false := by unfold valB; rw [h]; rfl
theorem val_ap {d : List Dop} (h : apL 7 d = false) : valB d = false := by unfold valB; rw [h]; cases d.all plB <;> rfl
theorem val_lo {d : List Dop} (h : 268435456 < frD d ∨ 268435456 < toD d) : valB d = false := by
  unfold valB; rw [show lonB d = true from decide_eq_true h]; cases d.all plB <;> cases apL 7 d <;> rfl
/-- the tests of one operation that keeps or drops -/
theorem kd_cases (n : Int) (t : List Int) : (n < 1 ∧ decide (n < 1) = true) ∨ (¬ n < 1 ∧ 268435456 < n ∧ decide (n < 1) = false ∧ decide (n > 268435456) = true ∧ decide (268435456 < n) = true) ∨
    (¬ n < 1 ∧ t.isEmpty = false ∧ decide (n < 1) = false ∧ decide (n > 268435456) = false ∧ decide (268435456 < n) = false) ∨
    (¬ n < 1 ∧ n ≤ 268435456 ∧ t.isEmpty = true ∧ decide (n < 1) = false ∧ decide (n > 268435456) = false ∧ decide (268435456 < n) = false) := by
  by_cases h1 : n < 1
  · exact .inl ⟨h1, decide_eq_true h1⟩
  by_cases h2 : 268435456 < n
  · exact .inr (.inl ⟨h1, h2, decide_eq_false h1, decide_eq_true h2, decide_eq_true h2⟩)
  cases h3 : t.isEmpty with
  | false => exact .inr (.inr (.inl ⟨h1, rfl, decide_eq_false h1, decide_eq_false h2, decide_eq_false h2⟩))
  | true => exact .inr (.inr (.inr ⟨h1, by omega, rfl, decide_eq_false h1, decide_eq_false h2, decide_eq_false h2⟩))
theorem put_cases (n : Int) (t : List Int) : (¬ n = 0 ∧ (n != 0) = true) ∨ (n = 0 ∧ (n != 0) = false ∧ t.isEmpty = true) ∨ (n = 0 ∧ (n != 0) = false ∧ t.isEmpty = false) := by
  by_cases h1 : n = 0
  · cases h3 : t.isEmpty with
    | true => exact .inr (.inl ⟨h1, by simp [h1], rfl⟩)
    | false => exact .inr (.inr ⟨h1, by simp [h1], rfl⟩)
  · exact .inl ⟨h1, by simpa using h1⟩
theorem kind_cases (k : Int) : k = 1 ∨ k = 2 ∨ k = 3 ∨ (¬ k = 1 ∧ ¬ k = 2 ∧ ¬ k = 3 ∧ (k == 1) = false ∧ (k == 2) = false ∧ (k == 3) = false ∧ thisN k = 0) := by
  by_cases h1 : k = 1
  · exact .inl h1
  by_cases h2 : k = 2
  · exact .inr (.inl h2)
  by_cases h3 : k = 3
  · exact .inr (.inr (.inl h3))
  refine .inr (.inr (.inr ⟨h1, h2, h3, by simpa using h1, by simpa using h2, by simpa using h3, ?_⟩))
  unfold thisN; simp [h1, h2, h3]
def prM (d : List Dop) (k : Nat) : Int := if k = 0 then 7 else nextN (d.getD (k - 1) opZ).k
theorem prM_s (d : List Dop) (k : Nat) : prM d (k + 1) = nextN (d.getD k opZ).k := by simp [prM]
theorem k_pos {k j n : Nat} (h : k = j + 1) (hl : k < 4611686018427387904) (hn : k < n) : (0 < k ∧ decide (0 < k) = true ∧ decide ((0 : Int) < (k : Int)) = true ∧ decide ((k : Int) > 0) = true ∧ (0 : Int) < (k : Int)) ∧ (j : Int) < (n : Int) ∧ (k : Int) < (n : Int) ∧ (0 : Int) ≤ (j : Int) ∧ wrap64 ((k : Int) - 1) = (j : Int) ∧ (k : Int) - 1 = (j : Int) ∧ wrap64 (j : Int) = (j : Int) :=
  ⟨⟨by omega, decide_eq_true (by omega), decide_eq_true (by omega), decide_eq_true (by omega), by omega⟩, by omega, by omega, by omega, by rw [wrapD _ (by omega) (by omega)]; omega, by omega, wrapD _ (by omega) (by omega)⟩
def VaI (d : List Dop) (k f t : Nat) : Prop := f = frD (d.take k) ∧ t = toD (d.take k) ∧ f ≤ 268435456 ∧ t ≤ 268435456 ∧ (d.take k).all plB = true ∧ apL 7 d = apL (prM d k) (d.drop k) ∧ (k = 0 ∨ (d.getD (k - 1) opZ).k = 1 ∨ (d.getD (k - 1) opZ).k = 2 ∨ (d.getD (k - 1) opZ).k = 3)
end Go.Proofs.Ytfllomlighlejaa
end

section
namespace Go.Proofs.Ytfllomlighlejaa
open Go.ChangeShapes Go.WideShapes Go.ChangeAt Go.RowKit
attribute [local go_sem] Oper.semAt_some

theorem apL_kinds : ∀ (m : Int) (d : List Dop), apL m d = true → ∀ o ∈ d, o.k = 1 ∨ o.k = 2 ∨ o.k = 3
  | _, [], _, o, ho => by cases ho
  | m, x :: r, h, o, ho => by
    simp only [apL, Bool.and_eq_true] at h
    rcases List.mem_cons.1 ho with rfl | ho
    · rcases kind_cases o.k with h1 | h1 | h1 | ⟨_, _, _, _, _, _, h1⟩
      · exact .inl h1
      · exact .inr (.inl h1)
      · exact .inr (.inr h1)
      · rw [h1] at h; simp [apB] at h
    · exact apL_kinds _ r h.2 o ho
theorem valB_k {d : List Dop} (h : valB d = true) : ∀ o ∈ d, o.k = 1 ∨ o.k = 2 ∨ o.k = 3 := by
  unfold valB at h
  simp only [Bool.and_eq_true] at h
  exact apL_kinds 7 d h.2.1
/-- what a valid delta's operations are -/
theorem valB_op {d : List Dop} (h : valB d = true) {o : Dop} (ho : o ∈ d) : ((o.k = 1 ∨ o.k = 3) ∧ 1 ≤ o.n ∧ o.t = []) ∨ (o.k = 2 ∧ o.n = 0 ∧ o.t ≠ []) := by
  have hk := valB_k h o ho
  unfold valB at h
  simp only [Bool.and_eq_true] at h
  have hp := List.all_eq_true.1 h.1 o ho
  unfold plB at hp
  rcases hk with h1 | h1 | h1
  · simp [h1] at hp; exact .inl ⟨.inl h1, hp.2, hp.1⟩
  · simp [h1] at hp; exact .inr ⟨h1, hp.2, hp.1⟩
  · simp [h1] at hp; exact .inl ⟨.inr h1, hp.2, hp.1⟩
structure LeI (d : List Dop) (k f t : Nat) : Prop where
  ef : f = frD (d.take k)
  et : t = toD (d.take k)
  z : f ≤ 268435456 ∧ t ≤ 268435456
end Go.Proofs.Ytfllomlighlejaa
end

section
namespace Go.Proofs.Ytfllomlighlejaa
open Go.ChangeShapes Go.WideShapes Go.ChangeAt Go.RowKit
attribute [local go_sem] Oper.semAt_some

theorem cmp_drops : ∀ (n : Nat) (a b : List Atm), cmpA (List.replicate n .d ++ a) b = List.replicate n .d ++ cmpA a b
  | 0, _, _ => by simp
  | n + 1, a, b => by rw [List.replicate_succ, List.cons_append, List.cons_append]; simp only [cmpA]; rw [cmp_drops n a b]
theorem cmp_puts : ∀ (t : List Int) (a b : List Atm), (∀ x, a.head? = some x → x ≠ .d) → cmpA a (t.map .p ++ b) = t.map .p ++ cmpA a b
  | [], _, _, _ => by simp
  | x :: t, a, b, h => by
    rw [List.map_cons, List.cons_append, List.cons_append, ← cmp_puts t a b h]
    cases a with
    | nil => simp only [cmpA, putsA]
    | cons y a => cases y with
      | d => exact absurd rfl (h _ rfl)
      | k => simp only [cmpA, thrA]
      | p z => simp only [cmpA, thrA]
theorem cmp_kk : ∀ (n : Nat) (a b : List Atm), cmpA (List.replicate n .k ++ a) (List.replicate n .k ++ b) = List.replicate n .k ++ cmpA a b
  | 0, _, _ => by simp
  | n + 1, a, b => by rw [List.replicate_succ, List.cons_append, List.cons_append, List.cons_append]; simp only [cmpA, thrA]; rw [cmp_kk n a b]
theorem cmp_kd : ∀ (n : Nat) (a b : List Atm), cmpA (List.replicate n .k ++ a) (List.replicate n .d ++ b) = List.replicate n .d ++ cmpA a b
  | 0, _, _ => by simp
  | n + 1, a, b => by rw [List.replicate_succ, List.replicate_succ, List.cons_append, List.cons_append, List.cons_append]; simp only [cmpA, thrA]; rw [cmp_kd n a b]
theorem cmp_pk : ∀ (t : List Int) (a b : List Atm), cmpA (t.map .p ++ a) (List.replicate t.length .k ++ b) = t.map .p ++ cmpA a b
  | [], _, _ => by simp
  | x :: t, a, b => by rw [List.map_cons, List.length_cons, List.replicate_succ, List.cons_append, List.cons_append, List.cons_append]; simp only [cmpA, thrA]; rw [cmp_pk t a b]
theorem cmp_pd : ∀ (t : List Int) (a b : List Atm), cmpA (t.map .p ++ a) (List.replicate t.length .d ++ b) = cmpA a b
  | [], _, _ => by simp
  | x :: t, a, b => by rw [List.map_cons, List.length_cons, List.replicate_succ, List.cons_append, List.cons_append]; simp only [cmpA, thrA]; rw [cmp_pd t a b]
theorem len_frto : ∀ u : List Atm, u.length ≤ frA u + toA u
  | [] => by simp
  | .k :: u => by have := len_frto u; simp only [List.length_cons, frA, toA]; omega
  | .d :: u => by have := len_frto u; simp only [List.length_cons, frA, toA]; omega
  | .p x :: u => by have := len_frto u; simp only [List.length_cons, frA, toA]; omega
theorem fr_rep_k : ∀ n, frA (List.replicate n .k) = n ∧ toA (List.replicate n .k) = n
  | 0 => ⟨rfl, rfl⟩
  | n + 1 => by have := fr_rep_k n; rw [List.replicate_succ]; simp only [frA, toA]; omega
theorem fr_rep_d : ∀ n, frA (List.replicate n .d) = n ∧ toA (List.replicate n .d) = 0
  | 0 => ⟨rfl, rfl⟩
  | n + 1 => by have := fr_rep_d n; rw [List.replicate_succ]; simp only [frA, toA]; omega
theorem fr_map_p : ∀ t : List Int, frA (t.map .p) = 0 ∧ toA (t.map .p) = t.length
  | [] => ⟨rfl, rfl⟩
  | x :: t => by have := fr_map_p t; rw [List.map_cons]; simp only [frA, toA, List.length_cons]; omega
theorem frA_dA : ∀ {d : List Dop}, (∀ o ∈ d, o.k = 1 ∨ o.k = 2 ∨ o.k = 3) → frA (dA d) = frD d ∧ toA (dA d) = toD d
  | [], _ => ⟨rfl, rfl⟩
  | o :: d, h => by
    have ih := frA_dA (d := d) (fun q hq => h q (by simp [hq]))
    have e1 : frD (o :: d) = frN o + frD d := by simp [frD]
    have e2 : toD (o :: d) = toN o + toD d := by simp [toD]
    rw [dA_cons, fr_app, to_app, e1, e2, ih.1, ih.2]
    rcases h o (by simp) with h1 | h1 | h1
    · have := fr_rep_k o.n.toNat; simp [opA, frN, toN, h1, this]
    · have := fr_map_p o.t; simp [opA, frN, toN, h1, this]
    · have := fr_rep_d o.n.toNat; simp [opA, frN, toN, h1, this]
/-- how many atoms an operation has -/
def szO (o : Dop) : Nat := (opA o).length
theorem szO_k {o : Dop} (h : Pln o) (hk : o.k ≠ 2) : szO o = o.n.toNat ∧ o.t = [] ∧ 1 ≤ o.n := by
  rcases h with ⟨h1 | h1, h2, h3⟩ | ⟨h1, _⟩
  · exact ⟨by simp [szO, opA, h1], h3, h2⟩
  · exact ⟨by simp [szO, opA, h1], h3, h2⟩
  · exact absurd h1 hk
theorem szO_p {o : Dop} (h : Pln o) (hk : o.k = 2) : szO o = o.t.length ∧ o.n = 0 ∧ o.t ≠ [] := by
  rcases h with ⟨h1, _⟩ | ⟨h1, h2, h3⟩
  · omega
  · exact ⟨by simp [szO, opA, h1], h2, h3⟩
theorem szO_i {o : Dop} (h : Pln o) : (szO o : Int) = o.n + o.t.length ∧ 1 ≤ szO o := by
  by_cases hk : o.k = 2
  · obtain ⟨h1, h2, h3⟩ := szO_p h hk
    have := List.length_pos_iff.2 h3
    omega
  · obtain ⟨h1, h2, h3⟩ := szO_k h hk
    rw [h2]; simp; omega
/-- what a reader has ahead -/
def remA (r : List Dop) (u : Nat) : List Atm := (dA r).drop u
structure RdK (r : List Dop) (u : Nat) : Prop where
  p : ∀ o ∈ r, Pln o
  s : ∀ o ∈ r, szO o ≤ 536870912
  u : (r = [] ∧ u = 0) ∨ ∃ o r', r = o :: r' ∧ u < szO o
def kdR : List Dop → Int
  | [] => 0
  | o :: _ => o.k
def lfR : List Dop → Nat → Nat
  | [], _ => 0
  | o :: _, u => szO o - u
def tkR : List Dop → Nat → Nat → List Dop × Nat
  | [], _, _ => ([], 0)
  | o :: r, u, n => if u + n = szO o then (r, 0) else (o :: r, u + n)
def txR : List Dop → Nat → Nat → List Int
  | [], _, _ => []
  | o :: _, u, n => if o.k = 2 then (o.t.drop u).take n else []
/-- the run of n atoms that comes next -/
def runR (k : Int) (t : List Int) (n : Nat) : List Atm := if k = 1 then List.replicate n .k else if k = 2 then t.map .p else List.replicate n .d
theorem rem_cons {o : Dop} {r : List Dop} {u : Nat} (h : u < szO o) : remA (o :: r) u = (opA o).drop u ++ dA r := by
  unfold remA szO at *
  rw [dA_cons, List.drop_append_of_le_length (by omega)]
theorem rem_run {o : Dop} {r : List Dop} {u n : Nat} (h : RdK (o :: r) u) (hn : 1 ≤ n ∧ n ≤ lfR (o :: r) u) : remA (o :: r) u = runR o.k (txR (o :: r) u n) n ++ remA (tkR (o :: r) u n).1 (tkR (o :: r) u n).2 ∧ RdK (tkR (o :: r) u n).1 (tkR (o :: r) u n).2 ∧ (o.k = 2 → (txR (o :: r) u n).length = n) := by
  obtain ⟨hp, hs, hu⟩ := h
  have hu' : u < szO o := by
    rcases hu with ⟨h, _⟩ | ⟨o', r', h, hlt⟩
    · cases h
    · cases h; exact hlt
  clear hu
  have hP := hp o (by simp)
  simp only [lfR] at hn
  rw [rem_cons hu']
  have e : (opA o).drop u = runR o.k (txR (o :: r) u n) n ++ (opA o).drop (u + n) := by
    by_cases hk : o.k = 2
    · obtain ⟨h1, h2, h3⟩ := szO_p hP hk
      simp only [opA, runR, txR, hk, show ¬ ((2 : Int) = 1) by decide, if_false, if_true]
      rw [← List.map_drop, ← List.map_drop, ← List.map_append]
      congr 1
      rw [← List.drop_drop, List.take_append_drop]
    · obtain ⟨h1, h2, h3⟩ := szO_k hP hk
      by_cases hk1 : o.k = 1
      · simp only [opA, runR, hk1, if_true, List.drop_replicate]
        rw [List.replicate_append_replicate]; congr 1; omega
      · simp only [opA, runR, hk1, hk, if_false, List.drop_replicate]
        rw [List.replicate_append_replicate]; congr 1; omega
  have e3 : o.k = 2 → (txR (o :: r) u n).length = n := fun hk => by
    obtain ⟨h1, h2, h3⟩ := szO_p hP hk
    simp only [txR, hk, if_true, List.length_take, List.length_drop]; omega
  rw [show tkR (o :: r) u n = if u + n = szO o then (r, 0) else (o :: r, u + n) from rfl]
  by_cases hc : u + n = szO o
  · rw [if_pos hc]
    refine ⟨?_, ⟨fun q hq => hp q (by simp [hq]), fun q hq => hs q (by simp [hq]), ?_⟩, e3⟩
    · rw [e, hc, show (opA o).drop (szO o) = [] by simp [szO], List.append_nil]; simp [remA]
    · dsimp only
      cases r with
      | nil => exact .inl ⟨rfl, rfl⟩
      | cons q r' => exact .inr ⟨q, r', rfl, by have := (szO_i (hp q (by simp))).2; omega⟩
  · rw [if_neg hc]
    refine ⟨?_, ⟨hp, hs, .inr ⟨o, r, rfl, by dsimp only; omega⟩⟩, e3⟩
    dsimp only
    rw [rem_cons (by omega), ← List.append_assoc, ← e]
theorem rdK_hd {o : Dop} {r : List Dop} {u : Nat} (h : RdK (o :: r) u) : u < szO o := by
  rcases h.u with ⟨h, _⟩ | ⟨o', r', h, hlt⟩
  · cases h
  · cases h; exact hlt
theorem IsO.tail {W : World} {a : Option Addr} {c : Nat} {o : Dop} {r : List Dop} (h : IsO W a (o :: r)) (hc : (o :: r).length ≤ c) : IsO W (if c = 1 then a else a.map (·.add 3)) r := by
  cases r with
  | nil => exact .inl rfl
  | cons q r' =>
    rcases h with h | ⟨g, off, rfl, hg, hL⟩
    · cases h
    · simp only [List.length_cons] at hc
      rw [if_neg (by omega)]
      refine .inr ⟨g, off + 3, by simp [Addr.add_lit], hg, fun k hk => ?_⟩
      have := hL (k + 1) (by simpa using hk)
      simp only [List.getD_cons_succ] at this
      rw [show off + 3 + k * 3 = off + (k + 1) * 3 by omega]
      exact this
/-- what take leaves alone -/
def Alone (g : Nat) (X Y : World) : Prop := Below g X Y ∧ ∀ i, i ≠ g → Y.heap[i]? = X.heap[i]?
theorem Alone.refl (g : Nat) (X : World) : Alone g X X := ⟨Below.refl _ _, fun _ _ => rfl⟩
theorem Alone.drewN {g : Nat} {X Y : World} (h : Alone g X Y) (n : Nat) : Alone g X (Y.drewN n) := ⟨below_drewN h.1 n, fun i hi => by rw [← h.2 i hi]; exact (below_drewN (Below.refl (i + 1) Y) n).block i (by omega)⟩
theorem Alone.set {g : Nat} {X Y : World} (h : Alone g X Y) (j : Nat) (v : Value) : Alone g X (Y.setCell ⟨g, j, none⟩ v) := ⟨h.1.setCell (p := ⟨g, j, none⟩) (Nat.le_refl _) v, fun i hi => (Below.heap_setCell Y ⟨g, j, none⟩ v i hi).trans (h.2 i hi)⟩
theorem Alone.trans {g : Nat} {X Y Z : World} (h : Alone g X Y) (h' : Alone g Y Z) : Alone g X Z := ⟨h.1.trans h'.1, fun i hi => (h'.2 i hi).trans (h.2 i hi)⟩
end Go.Proofs.Ytfllomlighlejaa
end
