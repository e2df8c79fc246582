/- Layer 14, the document's Place (written by wip/tools/sgn.py). -/
import Derived.Test.YtjjdgfjlpkhgcaaMg32
import Derived.Test.YtjjdgfjlpkhgcaaMg30

namespace Go.Proofs.Ytjjdgfjlpkhgcaa
open Go.ChangeShapes Go.WideShapes Go.ChangeAt Go.RowKit
attribute [local go_sem] Oper.semAt_some

theorem val_two {d : List Dop} (hv : valB d = true) {i : Nat} (hi : i + 1 < d.length) : okN (d.getD i opZ).k (d.getD (i + 1) opZ).k := by
  have hc := (val_Can hv).c
  rw [← List.take_append_drop (i + 1) d, drop_getD hi] at hc
  refine chn_mid hc ?_
  rw [List.getLast?_eq_getElem?, List.length_take, show min (i + 1) d.length - 1 = i by omega, List.getElem?_take_of_lt (by omega), List.getElem?_eq_getElem (by omega : i < d.length)]
  simp [List.getD, List.getElem?_eq_getElem (by omega : i < d.length)]
theorem val_prev {d : List Dop} (hv : valB d = true) {i : Nat} (hi : i < d.length) (hk : (d.getD i opZ).k = 1) : i = 0 ∨ (d.getD (i - 1) opZ).k ≠ 1 := by
  cases i with
  | zero => exact .inl rfl
  | succ j =>
    have := (val_two hv hi).1
    rw [hk] at this
    exact .inr (by simpa using this)
theorem val_PlO {d : List Dop} (hv : valB d = true) : ∀ o ∈ d, PlO o := fun _ ho => valB_op hv ho
theorem tx_val {d : List Dop} (hv : valB d = true) : txD d ≤ 268435456 := Nat.le_trans (txD_val (val_PlO hv)) (valB_nn hv).2.2
theorem wr1b {a b c : Nat} (h : c = a + b) (hc : a + b ≤ 268435456) : wrap64 ((a : Int) + (b : Int)) = (c : Int) ∧ wrap64 (c : Int) = (c : Int) := by
  subst h
  exact ⟨by rw [wrapD _ (by omega) (by omega)]; omega, wrapD _ (by omega) (by omega)⟩
theorem wr0 {a : Nat} (hc : a ≤ 268435456) : wrap64 ((a : Int) + 0) = (a : Int) ∧ wrap64 (a : Int) = (a : Int) := ⟨by rw [wrapD _ (by omega) (by omega)]; omega, wrapD _ (by omega) (by omega)⟩
theorem wr2b {t x f r : Nat} (h : r + f = t + x) (h1 : t ≤ 268435456) (h2 : x ≤ 268435456) : wrap64 ((t : Int) + (x : Int)) = (t : Int) + (x : Int) ∧ wrap64 ((t : Int) + (x : Int) - (f : Int)) = (r : Int) := by
  exact ⟨wrapD _ (by omega) (by omega), by rw [wrapD _ (by omega) (by omega)]; omega⟩
theorem dlt {a b : Nat} (h : a < b) : decide ((a : Int) < (b : Int)) = true ∧ decide (a < b) = true ∧ (a : Int) < (b : Int) := ⟨decide_eq_true (by omega), decide_eq_true h, by omega⟩
theorem dnl {a b : Nat} (h : ¬ a < b) : decide ((a : Int) < (b : Int)) = false ∧ decide (a < b) = false ∧ ¬ (a : Int) < (b : Int) := ⟨decide_eq_false (by omega), decide_eq_false h, by omega⟩
theorem dnle {a b : Nat} (h : ¬ a ≤ b) : decide ((a : Int) ≤ (b : Int)) = false ∧ decide (a ≤ b) = false ∧ ¬ (a : Int) ≤ (b : Int) := ⟨decide_eq_false (by omega), decide_eq_false h, by omega⟩
theorem vsub {V : Int} {t x f : Nat} (h : V = (t : Int) + x - f) (hf : f ≤ x) : ∃ r : Nat, r + f = t + x ∧ V = (r : Int) := ⟨t + x - f, by omega, by omega⟩
structure PlI (d : List Dop) (x i f t : Nat) : Prop where
  ef : f = frD (d.take i)
  et : t = toD (d.take i)
  le : f ≤ x
  b : i = 0 ∨ (d.getD (i - 1) opZ).k = 1 ∨ ((i = d.length ∨ (d.getD i opZ).k = 1) ∧ f < x)
structure PlJ (d : List Dop) (i j f t P G : Nat) : Prop where
  ij : i ≤ j
  n : ∀ m, i ≤ m → m < j → (d.getD m opZ).k ≠ 1
  ef : f + G = frD (d.take j)
  et : t + P = toD (d.take j)
theorem pj_next {d : List Dop} {i j f t P G P' G' : Nat} (hj : PlJ d i j f t P G) (hlt : j < d.length) (hk : (d.getD j opZ).k ≠ 1) (e1 : G' = G + frN (d.getD j opZ)) (e2 : P' = P + toN (d.getD j opZ)) : PlJ d i (j + 1) f t P' G' := by
  have hfr := frD_take d hlt
  have hto := toD_take d hlt
  refine ⟨by have := hj.ij; omega, fun m h1 h2 => ?_, by have := hj.ef; omega, by have := hj.et; omega⟩
  rcases Nat.lt_or_ge m j with h | h
  · exact hj.n m h1 h
  · obtain rfl : m = j := by omega
    exact hk
theorem pj_bound {d : List Dop} {i j f t P G x a b : Nat} (hJ : PlJ d i j f t P G) (hfr : frD (d.take (j + 1)) = frD (d.take j) + a) (hto : toD (d.take (j + 1)) = toD (d.take j) + b) (hb : frD (d.take (j + 1)) ≤ frD d ∧ toD (d.take (j + 1)) ≤ toD d) (hz : x ≤ frD d ∧ frD d ≤ 268435456 ∧ toD d ≤ 268435456) : G + a ≤ 268435456 ∧ P + b ≤ 268435456 := by
  have h1 := hJ.ef
  have h2 := hJ.et
  omega
theorem le3 {a b : Nat} (h : a ≤ b) : decide ((b : Int) ≥ (a : Int)) = true ∧ decide ((a : Int) ≤ (b : Int)) = true ∧ decide (a ≤ b) = true ∧ (a : Int) ≤ (b : Int) := ⟨decide_eq_true (by omega), decide_eq_true (by omega), decide_eq_true h, by omega⟩
theorem wr1 {a b c : Nat} (h : c = a + b) (hc : c ≤ 1152921504606846976) : wrap64 ((a : Int) + (b : Int)) = (c : Int) ∧ wrap64 (c : Int) = (c : Int) := by
  subst h
  exact ⟨by rw [wrapD _ (by omega) (by omega)]; omega, wrapD _ (by omega) (by omega)⟩
theorem wr2 {t x f r : Nat} (h : r + f = t + x) (hc : t + x ≤ 1152921504606846976) : wrap64 ((t : Int) + (x : Int)) = (t : Int) + (x : Int) ∧ wrap64 ((t : Int) + (x : Int) - (f : Int)) = (r : Int) := by
  exact ⟨wrapD _ (by omega) (by omega), by rw [wrapD _ (by omega) (by omega)]; omega⟩
end Go.Proofs.Ytjjdgfjlpkhgcaa
