/- Layer 13, the document's Canon. · Layer 13, the document's Valid. · Layer 13, the document's Lens. -/
import Derived.Test.YtnnnilodknkadaaMg27
import Derived.Deep.QuietTactic
import Derived.BigQuiet
import Derived.WalkSmall

section
namespace Go.Proofs.Ytnnnilodknkadaa
open Go.ChangeShapes Go.WideShapes Go.ChangeAt Go.RowKit
attribute [local go_sem] Oper.semAt_some

theorem kn_cases (o : Dop) : (knB o = true ∧ decide (o.k < 1) = false ∧ decide (o.k > 3) = false ∧ decide (3 < o.k) = false ∧ ((o.k != 2) = false ∨ ((o.k != 2) = true ∧ decide (o.n < 0) = false))) ∨
    (knB o = false ∧ (decide (o.k < 1) = true ∨ (decide (o.k < 1) = false ∧ decide (o.k > 3) = true ∧ decide (3 < o.k) = true) ∨ (decide (o.k < 1) = false ∧ decide (o.k > 3) = false ∧ decide (3 < o.k) = false ∧ (o.k != 2) = true ∧ decide (o.n < 0) = true))) := by
  obtain ⟨k, n, t⟩ := o
  unfold knB
  dsimp only
  by_cases h1 : k < 1
  · right; refine ⟨?_, .inl (decide_eq_true h1)⟩; simp; omega
  by_cases h2 : 3 < k
  · right; refine ⟨?_, .inr (.inl ⟨decide_eq_false h1, decide_eq_true h2, decide_eq_true h2⟩)⟩; simp; omega
  by_cases h3 : k = 2
  · left; subst h3; simp
  by_cases h4 : n < 0
  · right; refine ⟨?_, .inr (.inr ⟨decide_eq_false h1, decide_eq_false h2, decide_eq_false h2, by simpa using h3, decide_eq_true h4⟩)⟩; simp; omega
  · left; refine ⟨?_, decide_eq_false h1, decide_eq_false h2, decide_eq_false h2, .inr ⟨by simpa using h3, decide_eq_false h4⟩⟩; simp; omega
theorem op_small {d : List Dop} {x : Dop} (h : Can d) (hx : x ∈ d) : x.n ≤ ((dA d).length : Int) ∧ x.t.length ≤ (dA d).length := by
  obtain ⟨a, b, rfl⟩ := List.append_of_mem hx
  have hp := h.p x hx
  have e : (dA (a ++ x :: b)).length = (dA a).length + ((opA x).length + (dA b).length) := by rw [dA_app, dA_cons, List.length_append, List.length_append]
  rw [e]
  rcases hp with ⟨h1 | h1, h2, h3⟩ | ⟨h1, h2, h3⟩
  · have : (opA x).length = x.n.toNat := by simp [opA, h1]
    rw [h3]; simp; omega
  · have : (opA x).length = x.n.toNat := by simp [opA, h1]
    rw [h3]; simp; omega
  · have : (opA x).length = x.t.length := by simp [opA, h1]
    omega
theorem fin_len (u : List Atm) : (dA (feedA b0 u).fin).length = u.length := by
  have := congrArg List.length (feed_atoms u wb0)
  rw [nf_len, nf_len] at this
  exact this.trans rfl
theorem adok_feed {u : List Atm} {n : Int} {t : List Int} (hu : u.length ≤ 1073741000) (hn : 0 ≤ n ∧ n ≤ 2305843009213693952) (ht : t.length ≤ 2305843009213693952) : AdOk (feedA b0 u).fin n t := by
  have hc := can_fin (wb_feed u wb0)
  have hl := fin_len u
  refine ⟨hc, ?_, fun x hx => ?_, fun x hx => ?_, hn, ht⟩
  · have := can_len hc.p; omega
  · have := (op_small hc hx).1; omega
  · have := (op_small hc hx).2; omega
/-- one more operation, as add says and as the builder does -/
theorem add_op {u : List Atm} {x : Dop} (hk : x.k = 1 ∨ x.k = 2 ∨ x.k = 3) (hn : x.k ≠ 2 → 0 ≤ x.n) : addD (feedA b0 u).fin x.k (if x.k = 2 then 0 else x.n) (if x.k = 2 then x.t else []) = (feedA b0 (u ++ opA x)).fin := by
  have hw := wb_feed u wb0
  rw [feedA_app, ← op_atoms]
  rcases hk with h | h | h
  · obtain ⟨m, hm⟩ : ∃ m : Nat, x.n = (m : Int) := ⟨x.n.toNat, by have := hn (by omega); omega⟩
    rw [op_keep h, h, hm]
    simp only [show ¬ ((1 : Int) = 2) by decide, if_false, Int.toNat_natCast]
    exact add_keep hw m
  · rw [op_put h, h]
    simp only [if_true]
    exact add_put hw x.t
  · obtain ⟨m, hm⟩ : ∃ m : Nat, x.n = (m : Int) := ⟨x.n.toNat, by have := hn (by omega); omega⟩
    rw [op_drop h, h, hm]
    simp only [show ¬ ((3 : Int) = 2) by decide, if_false, Int.toNat_natCast]
    exact add_drop hw m
theorem dA_takeS (d : List Dop) {k : Nat} (hk : k < d.length) : dA (d.take (k + 1)) = dA (d.take k) ++ opA (d.getD k opZ) := by
  rw [List.take_add_one, List.getElem?_eq_getElem hk, Option.toList_some, dA_app]
  simp [dA, List.getD_eq_getElem?_getD, List.getElem?_eq_getElem hk]
theorem frD_le (d : List Dop) (k : Nat) : frD (d.take k) ≤ frD d ∧ toD (d.take k) ≤ toD d := by
  have h1 : frD d = frD (d.take k) + frD (d.drop k) := by unfold frD; rw [← List.sum_append, ← List.map_append, List.take_append_drop]
  have h2 : toD d = toD (d.take k) + toD (d.drop k) := by unfold toD; rw [← List.sum_append, ← List.map_append, List.take_append_drop]
  omega
theorem ca_k {f m F : Nat} (hf : f ≤ 268435456) (hm : m ≤ 140737488355328) (h : F = f + m) : wrap64 ((f : Int) + (m : Int)) = (F : Int) ∧ wrap64 ((F : Int) + 0) = (F : Int) ∧ wrap64 (F : Int) = (F : Int) := by
  subst h
  exact ⟨by rw [wrapD _ (by omega) (by omega)]; omega, by rw [wrapD _ (by omega) (by omega)]; omega, wrapD _ (by omega) (by omega)⟩
theorem ca_0 {f : Nat} (hf : f ≤ 268435456) : wrap64 ((f : Int) + 0) = (f : Int) ∧ wrap64 (f : Int) = (f : Int) := ⟨by rw [wrapD _ (by omega) (by omega)]; omega, wrapD _ (by omega) (by omega)⟩
theorem big_t {m : Nat} (h : 268435456 < m) : decide ((m : Int) > 268435456) = true ∧ decide ((268435456 : Int) < (m : Int)) = true ∧ decide (268435456 < m) = true := ⟨decide_eq_true (by omega), decide_eq_true (by omega), decide_eq_true h⟩
theorem big_f {m : Nat} (h : ¬ 268435456 < m) : decide ((m : Int) > 268435456) = false ∧ decide ((268435456 : Int) < (m : Int)) = false ∧ decide (268435456 < m) = false := ⟨decide_eq_false (by omega), decide_eq_false (by omega), decide_eq_false h⟩
/-- the state of the second loop -/
structure CaI (d : List Dop) (k f t : Nat) (L : List Dop) (w : World) (a : Option Addr) (X : World) : Prop where
  ef : f = frD (d.take k)
  et : t = toD (d.take k)
  z : f ≤ 268435456 ∧ t ≤ 268435456
  l : L = (feedA b0 (dA (d.take k))).fin
  o : IsO X a L
  d : Below w.heap.size w X
end Go.Proofs.Ytnnnilodknkadaa
end

section
namespace Go.Proofs.Ytnnnilodknkadaa
open Go.ChangeShapes Go.WideShapes Go.ChangeAt Go.RowKit
attribute [local go_sem] Oper.semAt_some

theorem val_pl {d : List Dop} (h : d.all plB = false) : valB d = false := by unfold valB; rw [h]; rfl
theorem val_ap {d : List Dop} (h : apL 7 d = false) : valB d = false := by unfold valB; rw [h]; cases d.all plB <;> rfl
theorem val_lo {d : List Dop} (h : 268435456 < frD d ∨ 268435456 < toD d) : valB d = false := by
  unfold valB; rw [show lonB d = true from decide_eq_true h]; cases d.all plB <;> cases apL 7 d <;> rfl
/-- the tests of one operation that keeps or drops -/
theorem kd_cases (n : Int) (t : List Int) : (n < 1 ∧ decide (n < 1) = true) ∨ (¬ n < 1 ∧ 268435456 < n ∧ decide (n < 1) = false ∧ decide (n > 268435456) = true ∧ decide (268435456 < n) = true) ∨
    (¬ n < 1 ∧ t.isEmpty = false ∧ decide (n < 1) = false ∧ decide (n > 268435456) = false ∧ decide (268435456 < n) = false) ∨
    (¬ n < 1 ∧ n ≤ 268435456 ∧ t.isEmpty = true ∧ decide (n < 1) = false ∧ decide (n > 268435456) = false ∧ decide (268435456 < n) = false) := by
  by_cases h1 : n < 1
  · exact .inl ⟨h1, decide_eq_true h1⟩
  by_cases h2 : 268435456 < n
  · exact .inr (.inl ⟨h1, h2, decide_eq_false h1, decide_eq_true h2, decide_eq_true h2⟩)
  cases h3 : t.isEmpty with
  | false => exact .inr (.inr (.inl ⟨h1, rfl, decide_eq_false h1, decide_eq_false h2, decide_eq_false h2⟩))
  | true => exact .inr (.inr (.inr ⟨h1, by omega, rfl, decide_eq_false h1, decide_eq_false h2, decide_eq_false h2⟩))
theorem put_cases (n : Int) (t : List Int) : (¬ n = 0 ∧ (n != 0) = true) ∨ (n = 0 ∧ (n != 0) = false ∧ t.isEmpty = true) ∨ (n = 0 ∧ (n != 0) = false ∧ t.isEmpty = false) := by
  by_cases h1 : n = 0
  · cases h3 : t.isEmpty with
    | true => exact .inr (.inl ⟨h1, by simp [h1], rfl⟩)
    | false => exact .inr (.inr ⟨h1, by simp [h1], rfl⟩)
  · exact .inl ⟨h1, by simpa using h1⟩
theorem kind_cases (k : Int) : k = 1 ∨ k = 2 ∨ k = 3 ∨ (¬ k = 1 ∧ ¬ k = 2 ∧ ¬ k = 3 ∧ (k == 1) = false ∧ (k == 2) = false ∧ (k == 3) = false ∧ thisN k = 0) := by
  by_cases h1 : k = 1
  · exact .inl h1
  by_cases h2 : k = 2
  · exact .inr (.inl h2)
  by_cases h3 : k = 3
  · exact .inr (.inr (.inl h3))
  refine .inr (.inr (.inr ⟨h1, h2, h3, by simpa using h1, by simpa using h2, by simpa using h3, ?_⟩))
  unfold thisN; simp [h1, h2, h3]
def prM (d : List Dop) (k : Nat) : Int := if k = 0 then 7 else nextN (d.getD (k - 1) opZ).k
theorem prM_s (d : List Dop) (k : Nat) : prM d (k + 1) = nextN (d.getD k opZ).k := by simp [prM]
theorem k_pos {k j n : Nat} (h : k = j + 1) (hl : k < 4611686018427387904) (hn : k < n) : (0 < k ∧ decide (0 < k) = true ∧ decide ((0 : Int) < (k : Int)) = true ∧ decide ((k : Int) > 0) = true ∧ (0 : Int) < (k : Int)) ∧ (j : Int) < (n : Int) ∧ (k : Int) < (n : Int) ∧ (0 : Int) ≤ (j : Int) ∧ wrap64 ((k : Int) - 1) = (j : Int) ∧ (k : Int) - 1 = (j : Int) ∧ wrap64 (j : Int) = (j : Int) :=
  ⟨⟨by omega, decide_eq_true (by omega), decide_eq_true (by omega), decide_eq_true (by omega), by omega⟩, by omega, by omega, by omega, by rw [wrapD _ (by omega) (by omega)]; omega, by omega, wrapD _ (by omega) (by omega)⟩
def VaI (d : List Dop) (k f t : Nat) : Prop := f = frD (d.take k) ∧ t = toD (d.take k) ∧ f ≤ 268435456 ∧ t ≤ 268435456 ∧ (d.take k).all plB = true ∧ apL 7 d = apL (prM d k) (d.drop k) ∧ (k = 0 ∨ (d.getD (k - 1) opZ).k = 1 ∨ (d.getD (k - 1) opZ).k = 2 ∨ (d.getD (k - 1) opZ).k = 3)
end Go.Proofs.Ytnnnilodknkadaa
end

section
namespace Go.Proofs.Ytnnnilodknkadaa
open Go.ChangeShapes Go.WideShapes Go.ChangeAt Go.RowKit
attribute [local go_sem] Oper.semAt_some

theorem apL_kinds : ∀ (m : Int) (d : List Dop), apL m d = true → ∀ o ∈ d, o.k = 1 ∨ o.k = 2 ∨ o.k = 3
  | _, [], _, o, ho => by cases ho
  | m, x :: r, h, o, ho => by
    simp only [apL, Bool.and_eq_true] at h
    rcases List.mem_cons.1 ho with rfl | ho
    · rcases kind_cases o.k with h1 | h1 | h1 | ⟨_, _, _, _, _, _, h1⟩
      · exact .inl h1
      · exact .inr (.inl h1)
      · exact .inr (.inr h1)
      · rw [h1] at h; simp [apB] at h
    · exact apL_kinds _ r h.2 o ho
theorem valB_k {d : List Dop} (h : valB d = true) : ∀ o ∈ d, o.k = 1 ∨ o.k = 2 ∨ o.k = 3 := by
  unfold valB at h
  simp only [Bool.and_eq_true] at h
  exact apL_kinds 7 d h.2.1
/-- what a valid delta's operations are -/
theorem valB_op {d : List Dop} (h : valB d = true) {o : Dop} (ho : o ∈ d) : ((o.k = 1 ∨ o.k = 3) ∧ 1 ≤ o.n ∧ o.t = []) ∨ (o.k = 2 ∧ o.n = 0 ∧ o.t ≠ []) := by
  have hk := valB_k h o ho
  unfold valB at h
  simp only [Bool.and_eq_true] at h
  have hp := List.all_eq_true.1 h.1 o ho
  unfold plB at hp
  rcases hk with h1 | h1 | h1
  · simp [h1] at hp; exact .inl ⟨.inl h1, hp.2, hp.1⟩
  · simp [h1] at hp; exact .inr ⟨h1, hp.2, hp.1⟩
  · simp [h1] at hp; exact .inl ⟨.inr h1, hp.2, hp.1⟩
structure LeI (d : List Dop) (k f t : Nat) : Prop where
  ef : f = frD (d.take k)
  et : t = toD (d.take k)
  z : f ≤ 268435456 ∧ t ≤ 268435456
end Go.Proofs.Ytnnnilodknkadaa
end
