/- Layer 19, plain: the longest list that stands in both (lcs), by ends, and what the program's walk over it picks (mids). -/
import Derived.Test.YtkdnanlgkedjgabDoorProg

namespace Go.Proofs.YtkdnanlgkedjgabDoor

section
set_option linter.unusedSectionVars false
variable {α : Type} [DecidableEq α]
/-- how long the longest list is that stands in both -/
def lcs : List α → List α → Nat
  | [], _ => 0
  | _ :: _, [] => 0
  | a :: x, b :: y => if a = b then lcs x y + 1 else max (lcs x (b :: y)) (lcs (a :: x) y)
termination_by x y => x.length + y.length
theorem lcs_nil (x : List α) : lcs x [] = 0 := by cases x <;> simp [lcs]
theorem lcs_same (a : α) (x y : List α) : lcs (a :: x) (a :: y) = lcs x y + 1 := by rw [lcs]; simp
theorem lcs_ne {a b : α} (h : ¬ a = b) (x y : List α) : lcs (a :: x) (b :: y) = max (lcs x (b :: y)) (lcs (a :: x) y) := by rw [lcs]; simp [h]
/-- there is such a list -/
theorem lcs_is : ∀ (n : Nat) (x y : List α), x.length + y.length ≤ n → ∃ s : List α, s.Sublist x ∧ s.Sublist y ∧ s.length = lcs x y
  | 0, [], y, _ => ⟨[], List.nil_sublist _, List.nil_sublist _, by simp [lcs]⟩
  | 0, _ :: _, _, h => by simp at h
  | _ + 1, [], y, _ => ⟨[], List.nil_sublist _, List.nil_sublist _, by simp [lcs]⟩
  | _ + 1, a :: x, [], _ => ⟨[], List.nil_sublist _, List.nil_sublist _, by simp [lcs]⟩
  | n + 1, a :: x, b :: y, h => by
    simp only [List.length_cons] at h
    by_cases e : a = b
    · subst e
      obtain ⟨s, h1, h2, h3⟩ := lcs_is n x y (by omega)
      exact ⟨a :: s, h1.cons_cons a, h2.cons_cons a, by rw [lcs_same]; simp [h3]⟩
    · rw [lcs_ne e]
      rcases Nat.le_total (lcs x (b :: y)) (lcs (a :: x) y) with g | g
      · obtain ⟨s, h1, h2, h3⟩ := lcs_is n (a :: x) y (by simp; omega)
        exact ⟨s, h1, h2.cons b, by rw [h3]; omega⟩
      · obtain ⟨s, h1, h2, h3⟩ := lcs_is n x (b :: y) (by simp; omega)
        exact ⟨s, h1.cons a, h2, by rw [h3]; omega⟩
/-- and none is longer -/
theorem lcs_le : ∀ (n : Nat) (x y s : List α), x.length + y.length ≤ n → s.Sublist x → s.Sublist y → s.length ≤ lcs x y
  | _, [], y, s, _, h1, _ => by rw [List.sublist_nil.1 h1]; simp
  | _, _ :: _, [], s, _, _, h2 => by rw [List.sublist_nil.1 h2]; simp
  | 0, _ :: _, _, _, h, _, _ => by simp at h
  | n + 1, a :: x, b :: y, s, h, h1, h2 => by
    simp only [List.length_cons] at h
    by_cases e : a = b
    · subst e
      rw [lcs_same]
      cases s with
      | nil => simp
      | cons c s =>
        have h1' : s.Sublist x := by
          rcases List.sublist_cons_iff.1 h1 with h1 | ⟨r, hr, h1⟩
          · exact (List.sublist_cons_self c s).trans h1
          · cases hr; exact h1
        have h2' : s.Sublist y := by
          rcases List.sublist_cons_iff.1 h2 with h2 | ⟨r, hr, h2⟩
          · exact (List.sublist_cons_self c s).trans h2
          · cases hr; exact h2
        have := lcs_le n x y s (by omega) h1' h2'
        simp; omega
    · rw [lcs_ne e]
      rcases List.sublist_cons_iff.1 h1 with g1 | ⟨r, hr, g1⟩
      · have := lcs_le n x (b :: y) s (by simp; omega) g1 h2
        omega
      · rcases List.sublist_cons_iff.1 h2 with g2 | ⟨r', hr', g2⟩
        · have := lcs_le n (a :: x) y s (by simp; omega) h1 g2
          omega
        · rw [hr] at hr'; cases hr'; exact absurd rfl e
theorem lcs_max {x y s : List α} (h1 : s.Sublist x) (h2 : s.Sublist y) : s.length ≤ lcs x y := lcs_le _ x y s (Nat.le_refl _) h1 h2
theorem lcs_ex (x y : List α) : ∃ s : List α, s.Sublist x ∧ s.Sublist y ∧ s.length = lcs x y := lcs_is _ x y (Nat.le_refl _)
theorem lcs_eq {x y : List α} {n : Nat} (h : ∃ s : List α, s.Sublist x ∧ s.Sublist y ∧ s.length = n) (h' : ∀ s : List α, s.Sublist x → s.Sublist y → s.length ≤ n) : lcs x y = n := by
  obtain ⟨s, h1, h2, h3⟩ := h
  obtain ⟨t, g1, g2, g3⟩ := lcs_ex x y
  have := lcs_max h1 h2
  have := h' t g1 g2
  omega
theorem lcs_comm (x y : List α) : lcs x y = lcs y x := by
  obtain ⟨s, h1, h2, h3⟩ := lcs_ex y x
  exact lcs_eq ⟨s, h2, h1, h3⟩ fun s h1 h2 => lcs_max h2 h1
theorem lcs_rev (x y : List α) : lcs x.reverse y.reverse = lcs x y := by
  obtain ⟨s, h1, h2, h3⟩ := lcs_ex x y
  refine lcs_eq ⟨s.reverse, h1.reverse, h2.reverse, by simpa using h3⟩ fun t g1 g2 => ?_
  have := lcs_max (by simpa using g1.reverse) (by simpa using g2.reverse) (s := t.reverse) (x := x) (y := y)
  simpa using this
theorem lcs_len (x y : List α) : lcs x y ≤ x.length ∧ lcs x y ≤ y.length := by
  obtain ⟨s, h1, h2, h3⟩ := lcs_ex x y
  exact ⟨h3 ▸ h1.length_le, h3 ▸ h2.length_le⟩
theorem lcs_head : ∀ (h x y : List α), lcs (h ++ x) (h ++ y) = h.length + lcs x y
  | [], _, _ => by simp
  | a :: h, x, y => by
    rw [List.cons_append, List.cons_append, lcs_same, lcs_head h x y, List.length_cons]; omega
theorem lcs_tail (t x y : List α) : lcs (x ++ t) (y ++ t) = t.length + lcs x y := by
  rw [← lcs_rev, List.reverse_append, List.reverse_append, lcs_head, lcs_rev, List.length_reverse]
theorem lcs_self (x : List α) : lcs x x = x.length := by have := lcs_head x [] []; simpa [lcs] using this
theorem lcs_all {x y : List α} (h : lcs x y = x.length) (h' : lcs x y = y.length) : x = y := by
  obtain ⟨s, h1, h2, h3⟩ := lcs_ex x y
  rw [← h1.eq_of_length (by omega), ← h2.eq_of_length (by omega)]
theorem lcs_drop (a : α) (x y : List α) : lcs (a :: x) y ≤ lcs x y + 1 := by
  obtain ⟨s, h1, h2, h3⟩ := lcs_ex (a :: x) y
  rcases List.sublist_cons_iff.1 h1 with g | ⟨r, rfl, g⟩
  · have := lcs_max g h2; omega
  · have := lcs_max g ((List.sublist_cons_self a r).trans h2)
    simp at h3; omega
theorem lcs_mono {x x' y y' : List α} (h : x.Sublist x') (h' : y.Sublist y') : lcs x y ≤ lcs x' y' := by
  obtain ⟨s, h1, h2, h3⟩ := lcs_ex x y
  have := lcs_max (h1.trans h) (h2.trans h')
  omega
/-- two lists that stand in a third have a list in common -/
theorem sub_both : ∀ (y s t : List α), s.Sublist y → t.Sublist y → ∃ u : List α, u.Sublist s ∧ u.Sublist t ∧ s.length + t.length ≤ u.length + y.length
  | [], s, t, h1, h2 => by
    rw [List.sublist_nil.1 h1, List.sublist_nil.1 h2]; exact ⟨[], List.nil_sublist _, List.nil_sublist _, by simp⟩
  | b :: y, s, t, h1, h2 => by
    rcases List.sublist_cons_iff.1 h1 with g1 | ⟨r1, rfl, g1⟩
    · rcases List.sublist_cons_iff.1 h2 with g2 | ⟨r2, rfl, g2⟩
      · obtain ⟨u, k1, k2, k3⟩ := sub_both y s t g1 g2
        exact ⟨u, k1, k2, by simp; omega⟩
      · obtain ⟨u, k1, k2, k3⟩ := sub_both y s r2 g1 g2
        exact ⟨u, k1, k2.cons b, by simp; omega⟩
    · rcases List.sublist_cons_iff.1 h2 with g2 | ⟨r2, rfl, g2⟩
      · obtain ⟨u, k1, k2, k3⟩ := sub_both y r1 t g1 g2
        exact ⟨u, k1.cons b, k2, by simp; omega⟩
      · obtain ⟨u, k1, k2, k3⟩ := sub_both y r1 r2 g1 g2
        exact ⟨b :: u, k1.cons_cons b, k2.cons_cons b, by simp; omega⟩
theorem lcs_tri (x y z : List α) : lcs x y + lcs y z ≤ lcs x z + y.length := by
  obtain ⟨s, h1, h2, h3⟩ := lcs_ex x y
  obtain ⟨t, g1, g2, g3⟩ := lcs_ex y z
  obtain ⟨u, k1, k2, k3⟩ := sub_both y s t h2 g1
  have := lcs_max (k1.trans h1) (k2.trans g2)
  omega
/-- the places that the program's walk picks -/
def mids : List α → List α → Nat → Nat → List (Nat × Nat)
  | [], _, _, _ => []
  | _ :: _, [], _, _ => []
  | a :: x, b :: y, i, j => if a = b then (i, j) :: mids x y (i + 1) (j + 1) else if lcs (a :: x) y ≤ lcs x (b :: y) then mids x (b :: y) (i + 1) j else mids (a :: x) y i (j + 1)
termination_by x y => x.length + y.length
theorem mids_nil (x : List α) (i j : Nat) : mids x [] i j = [] := by cases x <;> simp [mids]
theorem mids_same (a : α) (x y : List α) (i j : Nat) : mids (a :: x) (a :: y) i j = (i, j) :: mids x y (i + 1) (j + 1) := by rw [mids]; simp
theorem mids_up {a b : α} (h : ¬ a = b) {x y : List α} (g : lcs (a :: x) y ≤ lcs x (b :: y)) (i j : Nat) : mids (a :: x) (b :: y) i j = mids x (b :: y) (i + 1) j := by rw [mids]; simp [h, g]
theorem mids_on {a b : α} (h : ¬ a = b) {x y : List α} (g : ¬ lcs (a :: x) y ≤ lcs x (b :: y)) (i j : Nat) : mids (a :: x) (b :: y) i j = mids (a :: x) y i (j + 1) := by rw [mids]; simp [h, g]
theorem mids_len : ∀ (n : Nat) (x y : List α) (i j : Nat), x.length + y.length ≤ n → (mids x y i j).length = lcs x y
  | _, [], _, _, _, _ => by simp [mids, lcs]
  | _, _ :: _, [], _, _, _ => by simp [mids, lcs]
  | 0, _ :: _, _, _, _, h => by simp at h
  | n + 1, a :: x, b :: y, i, j, h => by
    simp only [List.length_cons] at h
    by_cases e : a = b
    · subst e; rw [mids_same, lcs_same, List.length_cons, mids_len n x y _ _ (by omega)]
    · rw [lcs_ne e]
      by_cases g : lcs (a :: x) y ≤ lcs x (b :: y)
      · rw [mids_up e g, mids_len n x (b :: y) _ _ (by simp; omega)]; omega
      · rw [mids_on e g, mids_len n (a :: x) y _ _ (by simp; omega)]; omega
theorem mids_lcs (x y : List α) (i j : Nat) : (mids x y i j).length = lcs x y := mids_len _ x y i j (Nat.le_refl _)
/-- with how many both begin -/
def sameH : List α → List α → Nat
  | a :: x, b :: y => if a = b then sameH x y + 1 else 0
  | _, _ => 0
theorem sameH_is : ∀ x y : List α, ∃ h x' y' : List α, x = h ++ x' ∧ y = h ++ y' ∧ h.length = sameH x y
  | [], y => ⟨[], [], y, rfl, rfl, by simp [sameH]⟩
  | a :: x, [] => ⟨[], a :: x, [], rfl, rfl, by simp [sameH]⟩
  | a :: x, b :: y => by
    unfold sameH
    split
    · rename_i e
      subst e
      obtain ⟨h, x', y', h1, h2, h3⟩ := sameH_is x y
      exact ⟨a :: h, x', y', by rw [h1]; rfl, by rw [h2]; rfl, by simp [h3]⟩
    · exact ⟨[], a :: x, b :: y, rfl, rfl, rfl⟩
theorem sameH_le (x y : List α) : sameH x y ≤ x.length ∧ sameH x y ≤ y.length := by
  obtain ⟨h, x', y', h1, h2, h3⟩ := sameH_is x y
  rw [← h3, h1, h2]; simp
theorem sameH_take (x y : List α) : x.take (sameH x y) = y.take (sameH x y) := by
  obtain ⟨h, x', y', h1, h2, h3⟩ := sameH_is x y
  rw [← h3, h1, h2]; simp
theorem sameH_at : ∀ {x y : List α} {n : Nat}, n ≤ x.length → n ≤ y.length → x.take n = y.take n → (¬ (n < x.length ∧ n < y.length) ∨ x[n]? ≠ y[n]?) → sameH x y = n
  | [], y, n, h, _, _, _ => by simp at h; simp [sameH, h]
  | a :: x, [], n, _, h, _, _ => by simp at h; simp [sameH, h]
  | a :: x, b :: y, 0, _, _, _, h => by
    unfold sameH
    rw [if_neg]
    rintro rfl
    rcases h with h | h
    · simp at h
    · simp at h
  | a :: x, b :: y, n + 1, h1, h2, h3, h4 => by
    simp only [List.take_succ_cons, List.cons.injEq] at h3
    unfold sameH
    rw [if_pos h3.1, sameH_at (n := n) (by simpa using h1) (by simpa using h2) h3.2 (by simpa using h4)]
/-- the runs that the program answers -/
def runsL (x y : List α) : List (Nat × Nat × Nat) :=
  let h := sameH x y
  let t := sameH (x.drop h).reverse (y.drop h).reverse
  let x' := (x.drop h).take ((x.drop h).length - t)
  let y' := (y.drop h).take ((y.drop h).length - t)
  [(0, 0, h)] ++ (mids x' y' h h).map (fun p => (p.1, p.2, 1)) ++ [(h + x'.length, h + y'.length, t)]
def sumR (l : List (Nat × Nat × Nat)) : Nat := (l.map fun p => p.2.2).sum
theorem sum_ones : ∀ l : List (Nat × Nat), (l.map (fun p => ((p.1, p.2, 1) : Nat × Nat × Nat))).map (fun p => p.2.2) = List.replicate l.length 1
  | [] => rfl
  | _ :: l => by simp only [List.map_cons, List.length_cons, List.replicate_succ, sum_ones l]
/-- a list in three parts: what both begin with, what they end with, and what stands between -/
theorem parts3 (x y : List α) : ∃ h x' y' t : List α, x = h ++ x' ++ t ∧ y = h ++ y' ++ t ∧ h.length = sameH x y ∧ t.length = sameH (x.drop (sameH x y)).reverse (y.drop (sameH x y)).reverse ∧
    runsL x y = [(0, 0, h.length)] ++ (mids x' y' h.length h.length).map (fun p => (p.1, p.2, 1)) ++ [(h.length + x'.length, h.length + y'.length, t.length)] := by
  obtain ⟨h, x1, y1, h1, h2, h3⟩ := sameH_is x y
  have d1 : x.drop h.length = x1 := by rw [h1]; simp
  have d2 : y.drop h.length = y1 := by rw [h2]; simp
  obtain ⟨t, x2, y2, g1, g2, g3⟩ := sameH_is x1.reverse y1.reverse
  have e1 : x1 = x2.reverse ++ t.reverse := by rw [← List.reverse_append, ← g1, List.reverse_reverse]
  have e2 : y1 = y2.reverse ++ t.reverse := by rw [← List.reverse_append, ← g2, List.reverse_reverse]
  refine ⟨h, x2.reverse, y2.reverse, t.reverse, by rw [List.append_assoc, ← e1, h1], by rw [List.append_assoc, ← e2, h2], h3, by rw [← h3, d1, d2, ← g3, List.length_reverse], ?_⟩
  have l1 : x1.take (x1.length - t.length) = x2.reverse := by rw [e1]; simp
  have l2 : y1.take (y1.length - t.length) = y2.reverse := by rw [e2]; simp
  simp only [runsL, ← h3, d1, d2, ← g3, l1, l2, List.length_reverse]
theorem runs_sum (x y : List α) : sumR (runsL x y) = lcs x y := by
  obtain ⟨h, x', y', t, h1, h2, _, _, h3⟩ := parts3 x y
  unfold sumR
  rw [h3]
  simp only [List.map_append, List.sum_append, sum_ones, List.map_cons, List.map_nil, List.sum_cons, List.sum_nil, mids_lcs, List.sum_replicate_nat]
  conv => rhs; rw [h1, h2, lcs_tail, lcs_head]
  omega
end
end Go.Proofs.YtkdnanlgkedjgabDoor
