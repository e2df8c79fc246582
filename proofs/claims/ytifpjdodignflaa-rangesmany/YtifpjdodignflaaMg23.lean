/- Layer 13, the document's: add whole; Canon. · Layer 13, the document's Canon. -/
import Derived.Test.YtifpjdodignflaaMg22
import Derived.Test.YtifpjdodignflaaMg21

section
namespace Go.Proofs.Ytifpjdodignflaa
open Go.ChangeShapes Go.WideShapes Go.ChangeAt Go.RowKit
attribute [local go_sem] Oper.semAt_some

theorem IsO.pre {W : World} {a : Option Addr} {d e : List Dop} (h : IsO W a (d ++ e)) : IsO W a d := by
  rcases h with h | ⟨g, off, rfl, hg, hc⟩
  · exact Or.inl (List.append_eq_nil_iff.1 h).1
  · refine Or.inr ⟨g, off, rfl, hg, fun k hk => ?_⟩
    have := hc k (by rw [List.length_append]; omega)
    rwa [show (d ++ e).getD k opZ = d.getD k opZ by simp [List.getD_eq_getElem?_getD, List.getElem?_append_left hk]] at this
theorem IsO.some {W : World} {a : Option Addr} {d : List Dop} (h : IsO W a d) : d = [] ∨ ∃ q, a = some q := by
  rcases h with h | ⟨g, off, rfl, _⟩
  · exact .inl h
  · exact .inr ⟨_, rfl⟩
/-- what may be added to -/
structure AdOk (d : List Dop) (n : Int) (t : List Int) : Prop where
  c : Can d
  l : d.length ≤ 1073741823
  xn : ∀ x ∈ d, x.n ≤ 2305843009213693952
  xt : ∀ x ∈ d, x.t.length ≤ 2305843009213693952
  nn : 0 ≤ n ∧ n ≤ 2305843009213693952
  tt : t.length ≤ 2305843009213693952
theorem pln_n {o : Dop} (h : Pln o) : 0 ≤ o.n := by rcases h with ⟨_, h, _⟩ | ⟨_, h, _⟩ <;> omega
theorem add1_len (d : List Dop) (k n : Int) (t : List Int) : (add1 d k n t).length ≤ d.length + 1 := by
  by_cases hd : d = []
  · subst hd; rw [add1_nil]; simp
  · obtain ⟨e, x, rfl⟩ := list_snoc hd
    by_cases hk : x.k = k
    · rw [add1_same hk]; simp
    · rw [add1_other hk]; simp
theorem no_yes {k n : Int} {t : List Int} (h : noD k n t) : ((k == 2) = true ∧ (k != 2) = false ∧ t.isEmpty = true) ∨ ((k == 2) = false ∧ (k != 2) = true ∧ (n == 0) = true) := by
  rcases h with ⟨h1, h2⟩ | ⟨h1, h2⟩
  · left; simp [h1, h2]
  · right; simp [h1, h2]
theorem addD_no {d : List Dop} {k n : Int} {t : List Int} (h : noD k n t) : addD d k n t = d := by unfold addD; unfold noD at h; rw [if_pos h]
theorem addD_one {d : List Dop} {k n : Int} {t : List Int} (h : ¬ noD k n t) (hx : ∀ x, d.getLast? = some x → ¬ (k = 2 ∧ x.k = 3)) : addD d k n t = add1 d k n t := by
  unfold addD
  unfold noD at h
  rw [if_neg h]
  cases hl : d.getLast? with
  | none => rfl
  | some x => simp only [hx x hl, if_false]
theorem addD_put {e : List Dop} {x : Dop} {n : Int} {t : List Int} (h : t ≠ []) (hx : x.k = 3) : addD (e ++ [x]) 2 n t = add1 e 2 0 t ++ [⟨3, x.n, []⟩] := by
  unfold addD
  rw [if_neg (by simp [h])]
  simp [hx]
theorem can_preD {e : List Dop} {x : Dop} (h : Can (e ++ [x])) : Can e := ⟨fun o ho => h.p o (by simp [ho]), (chn_app h.c).1⟩
end Go.Proofs.Ytifpjdodignflaa
end

section
namespace Go.Proofs.Ytifpjdodignflaa
open Go.ChangeShapes Go.WideShapes Go.ChangeAt Go.RowKit
attribute [local go_sem] Oper.semAt_some

theorem kn_cases (o : Dop) : (knB o = true ∧ decide (o.k < 1) = false ∧ decide (o.k > 3) = false ∧ decide (3 < o.k) = false ∧ ((o.k != 2) = false ∨ ((o.k != 2) = true ∧ decide (o.n < 0) = false))) ∨
    (knB o = false ∧ (decide (o.k < 1) = true ∨ (decide (o.k < 1) = false ∧ decide (o.k > 3) = true ∧ decide (3 < o.k) = true) ∨ (decide (o.k < 1) = false ∧ decide (o.k > 3) = false ∧ decide (3 < o.k) = false ∧ (o.k != 2) = true ∧ decide (o.n < 0) = true))) := by
  obtain ⟨k, n, t⟩ := o
  unfold knB
  dsimp only
  by_cases h1 : k < 1
  · right; refine ⟨?_, .inl (decide_eq_true h1)⟩; simp; omega
  by_cases h2 : 3 < k
  · right; refine ⟨?_, .inr (.inl ⟨decide_eq_false h1, decide_eq_true h2, decide_eq_true h2⟩)⟩; simp; omega
  by_cases h3 : k = 2
  · left; subst h3; simp
  by_cases h4 : n < 0
  · right; refine ⟨?_, .inr (.inr ⟨decide_eq_false h1, decide_eq_false h2, decide_eq_false h2, by simpa using h3, decide_eq_true h4⟩)⟩; simp; omega
  · left; refine ⟨?_, decide_eq_false h1, decide_eq_false h2, decide_eq_false h2, .inr ⟨by simpa using h3, decide_eq_false h4⟩⟩; simp; omega
theorem op_small {d : List Dop} {x : Dop} (h : Can d) (hx : x ∈ d) : x.n ≤ ((dA d).length : Int) ∧ x.t.length ≤ (dA d).length := by
  obtain ⟨a, b, rfl⟩ := List.append_of_mem hx
  have hp := h.p x hx
  have e : (dA (a ++ x :: b)).length = (dA a).length + ((opA x).length + (dA b).length) := by rw [dA_app, dA_cons, List.length_append, List.length_append]
  rw [e]
  rcases hp with ⟨h1 | h1, h2, h3⟩ | ⟨h1, h2, h3⟩
  · have : (opA x).length = x.n.toNat := by simp [opA, h1]
    rw [h3]; simp; omega
  · have : (opA x).length = x.n.toNat := by simp [opA, h1]
    rw [h3]; simp; omega
  · have : (opA x).length = x.t.length := by simp [opA, h1]
    omega
theorem fin_len (u : List Atm) : (dA (feedA b0 u).fin).length = u.length := by
  have := congrArg List.length (feed_atoms u wb0)
  rw [nf_len, nf_len] at this
  exact this.trans rfl
theorem adok_feed {u : List Atm} {n : Int} {t : List Int} (hu : u.length ≤ 1073741000) (hn : 0 ≤ n ∧ n ≤ 2305843009213693952) (ht : t.length ≤ 2305843009213693952) : AdOk (feedA b0 u).fin n t := by
  have hc := can_fin (wb_feed u wb0)
  have hl := fin_len u
  refine ⟨hc, ?_, fun x hx => ?_, fun x hx => ?_, hn, ht⟩
  · have := can_len hc.p; omega
  · have := (op_small hc hx).1; omega
  · have := (op_small hc hx).2; omega
/-- one more operation, as add says and as the builder does -/
theorem add_op {u : List Atm} {x : Dop} (hk : x.k = 1 ∨ x.k = 2 ∨ x.k = 3) (hn : x.k ≠ 2 → 0 ≤ x.n) : addD (feedA b0 u).fin x.k (if x.k = 2 then 0 else x.n) (if x.k = 2 then x.t else []) = (feedA b0 (u ++ opA x)).fin := by
  have hw := wb_feed u wb0
  rw [feedA_app, ← op_atoms]
  rcases hk with h | h | h
  · obtain ⟨m, hm⟩ : ∃ m : Nat, x.n = (m : Int) := ⟨x.n.toNat, by have := hn (by omega); omega⟩
    rw [op_keep h, h, hm]
    simp only [show ¬ ((1 : Int) = 2) by decide, if_false, Int.toNat_natCast]
    exact add_keep hw m
  · rw [op_put h, h]
    simp only [if_true]
    exact add_put hw x.t
  · obtain ⟨m, hm⟩ : ∃ m : Nat, x.n = (m : Int) := ⟨x.n.toNat, by have := hn (by omega); omega⟩
    rw [op_drop h, h, hm]
    simp only [show ¬ ((3 : Int) = 2) by decide, if_false, Int.toNat_natCast]
    exact add_drop hw m
theorem dA_takeS (d : List Dop) {k : Nat} (hk : k < d.length) : dA (d.take (k + 1)) = dA (d.take k) ++ opA (d.getD k opZ) := by
  rw [List.take_add_one, List.getElem?_eq_getElem hk, Option.toList_some, dA_app]
  simp [dA, List.getD_eq_getElem?_getD, List.getElem?_eq_getElem hk]
theorem frD_le (d : List Dop) (k : Nat) : frD (d.take k) ≤ frD d ∧ toD (d.take k) ≤ toD d := by
  have h1 : frD d = frD (d.take k) + frD (d.drop k) := by unfold frD; rw [← List.sum_append, ← List.map_append, List.take_append_drop]
  have h2 : toD d = toD (d.take k) + toD (d.drop k) := by unfold toD; rw [← List.sum_append, ← List.map_append, List.take_append_drop]
  omega
theorem ca_k {f m F : Nat} (hf : f ≤ 268435456) (hm : m ≤ 140737488355328) (h : F = f + m) : wrap64 ((f : Int) + (m : Int)) = (F : Int) ∧ wrap64 ((F : Int) + 0) = (F : Int) ∧ wrap64 (F : Int) = (F : Int) := by
  subst h
  exact ⟨by rw [wrapD _ (by omega) (by omega)]; omega, by rw [wrapD _ (by omega) (by omega)]; omega, wrapD _ (by omega) (by omega)⟩
theorem ca_0 {f : Nat} (hf : f ≤ 268435456) : wrap64 ((f : Int) + 0) = (f : Int) ∧ wrap64 (f : Int) = (f : Int) := ⟨by rw [wrapD _ (by omega) (by omega)]; omega, wrapD _ (by omega) (by omega)⟩
theorem big_t {m : Nat} (h : 268435456 < m) : decide ((m : Int) > 268435456) = true ∧ decide ((268435456 : Int) < (m : Int)) = true ∧ decide (268435456 < m) = true := ⟨decide_eq_true (by omega), decide_eq_true (by omega), decide_eq_true h⟩
theorem big_f {m : Nat} (h : ¬ 268435456 < m) : decide ((m : Int) > 268435456) = false ∧ decide ((268435456 : Int) < (m : Int)) = false ∧ decide (268435456 < m) = false := ⟨decide_eq_false (by omega), decide_eq_false (by omega), decide_eq_false h⟩
/-- the state of the second loop -/
structure CaI (d : List Dop) (k f t : Nat) (L : List Dop) (w : World) (a : Option Addr) (X : World) : Prop where
  ef : f = frD (d.take k)
  et : t = toD (d.take k)
  z : f ≤ 268435456 ∧ t ≤ 268435456
  l : L = (feedA b0 (dA (d.take k))).fin
  o : IsO X a L
  d : Below w.heap.size w X
end Go.Proofs.Ytifpjdodignflaa
end
