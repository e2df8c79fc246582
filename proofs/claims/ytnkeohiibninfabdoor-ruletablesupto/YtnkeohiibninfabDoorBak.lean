/- Contracts of bytes.Clone, step.Back and of the iterator that Back answers: the steps with their places, from the last on. -/
import Derived.Test.YtnkeohiibninfabDoorIts
import Derived.Test.YtnkeohiibninfabDoorCopy
namespace Go.Proofs.YtnkeohiibninfabDoor
open Go.ChangeShapes Go.WideShapes Go.ChangeAt Go.RowKit
attribute [local go_sem] Oper.semAt_some

theorem eqnil_none (n c : Nat) (w : World) : (binOp .eql 22 (.slice none n c) (.slice none 0 0)).run Tryd.prog w = .ok (.bool true) w := by kernel_rfl
theorem eqnil_some (a : Addr) (n c : Nat) (w : World) : (binOp .eql 22 (.slice (some a) n c) (.slice none 0 0)).run Tryd.prog w = .ok (.bool false) w := by kernel_rfl
theorem Clone_at (a0 : Option Addr) (cap : Nat) (l : List Int) (w : World) (hB : IsB w a0 cap l) :
    Calls Tryd.prog 27 #[.slice a0 l.length cap] w fun e w' => ∃ a' c', e = .returned (.slice a' l.length c') ∧ IsB w' a' c' l ∧ Below w.heap.size w w' := by
  cases a0 with
  | none =>
    obtain rfl : l = [] := by
      rcases hB.2.2.1 with h | ⟨g, off, h, _⟩
      · exact h
      · cases h
    have hq := eqnil_none
    go_enter Tryd.func27, Tryd.ntmps27
    go_wp2
    go_ret
    exact ⟨none, 0, rfl, ⟨Nat.le_refl _, by simp, Or.inl rfl, hB.2.2.2⟩, Below.refl _ _⟩
  | some a =>
    obtain ⟨a1, c1, w1, r1, x1, y1, z1⟩ := run_copy w (some a) cap l 22 hB
    have R1 := hide r1
    clear r1
    have hq := eqnil_some
    go_enter Tryd.func27, Tryd.ntmps27
    go_wp2_with (at_builtin; refine wpList_append_known rfl _ _ 22 22 rfl _ _ rfl rfl _ _ (unhide R1) ?_)
    go_ret
    exact ⟨a1, c1, rfl, ⟨x1, hB.2.1, y1, hB.2.2.2⟩, z1⟩

/-- the step that ends at an edge -/
theorem prev_edge {l : List Int} {p : Nat} (he : inside l p = false) (hp : 0 < p) (hl : p ≤ l.length) : flr l (p - 1) < p ∧ inside l (flr l (p - 1)) = false ∧ flr l (p - 1) + wid (l.drop (flr l (p - 1))) = p := by
  have h1 := flr_le l (p - 1)
  have h2 := flr_edge l (p - 1)
  refine ⟨by omega, h2, ?_⟩
  generalize hq : flr l (p - 1) = q at *
  have hql : q < l.length := by omega
  have hw := wid_pos hql
  have h3 : p - 1 < q + wid (l.drop q) := by
    cases hi : inside l (p - 1) with
    | true => have := (flr_wid hi).2; rwa [hq] at this
    | false => have := flr_eq hi; omega
  rcases Nat.lt_or_ge p (q + wid (l.drop q)) with h | h
  · have := edge_between (l := l) (p := q) (k := p - q) (by omega) (by omega) hql
    rw [show q + (p - q) = p by omega, he] at this
    cases this
  · omega
theorem spots_suffix {l : List Int} : ∀ (n p : Nat), p ≤ n → p ≤ l.length → inside l p = false → ∃ A, spots l 0 = A ++ spots l p
  | 0, p, h, _, _ => by
    obtain rfl : p = 0 := by omega
    exact ⟨[], rfl⟩
  | n + 1, p, h, hl, he => by
    rcases Nat.eq_zero_or_pos p with rfl | hp
    · exact ⟨[], rfl⟩
    · obtain ⟨h1, h2, h3⟩ := prev_edge he hp hl
      obtain ⟨A, hA⟩ := spots_suffix n (flr l (p - 1)) (by omega) (by omega) h2
      refine ⟨A ++ [flr l (p - 1)], ?_⟩
      rw [hA, spots_cons (by omega : flr l (p - 1) < l.length), h3]
      simp
theorem lng_cut {x : List Int} (h : lng x ≠ 0) : lng (x.take (wid x)) = lng x ∧ first (x.take (wid x)) = first x := by
  cases x with
  | nil => simp [lng] at h
  | cons a r =>
    obtain ⟨h1, h2, _⟩ := need_of_lng h
    have hn : (need a).toNat = lng (a :: r) := by omega
    obtain ⟨m, hm⟩ : ∃ m, lng (a :: r) = m + 1 := ⟨lng (a :: r) - 1, by omega⟩
    have e : ((a :: r).take (wid (a :: r))) = a :: r.take m := by rw [h2, hm]; rfl
    have e2 : (a :: r.take m).take (need a).toNat = (a :: r).take (need a).toNat := by
      rw [hn, hm, List.take_succ_cons, List.take_succ_cons, List.take_take, Nat.min_self]
    rw [e]
    exact ⟨by simp only [lng, e2], by simp only [first, e2]⟩
theorem stp_cut (x : List Int) (hx : 0 < x.length) : stp (x.take (wid x)) = stp x := by
  by_cases h : lng x = 0
  · cases x with
    | nil => cases hx
    | cons a r =>
      have hw : wid (a :: r) = 1 := by rw [wid_lng, if_pos h]
      rw [hw, stp_bad' h]
      by_cases h2 : lng [a] = 0
      · exact stp_bad' h2
      · exfalso
        obtain ⟨h3, _, _⟩ := need_of_lng h2
        have h4 := lng_len [a]
        have hn : need a = 1 := by simp at h4; omega
        apply h2
        have : lng (a :: r) = 1 := by
          simp only [lng, hn]
          show (if whole [a] = true then 1 else 0) = 1
          rw [whole_one hn, if_pos rfl]
        omega
  · obtain ⟨h1, h2⟩ := lng_cut h
    have hw : wid (x.take (wid x)) = wid x := by unfold wid; rw [show (first x).2 = wid x from rfl, h2]; rfl
    unfold stp
    rw [h2, hw]
    unfold whl
    rw [h1]

theorem first_part (g off cap q n : Nat) (l : List Int) (w : World) (hn : n ≤ l.length) (h0 : q + wid (l.drop q) = n) (hq : q < l.length) (hm : l.length ≤ maxLen) (hcap : l.length ≤ cap) (hL : Lies w g off l) (hT : Tab w) :
    Calls Tryd.prog 45 #[.slice (some ⟨g, off + q, none⟩) (n - q) (cap - q)] w fun e w' => e = .returned (stp (l.drop q)) ∧ Below w.heap.size w w' := by
  have hw := wid_pos hq
  have hlen : ((l.drop q).take (wid (l.drop q))).length = n - q := by rw [List.length_take, List.length_drop]; omega
  have := first_at g (off + q) (cap - q) ((l.drop q).take (wid (l.drop q))) w (by omega) (by omega) (by omega) ((hL.drop q).take _) hT
  rwa [hlen, stp_cut _ (by rw [List.length_drop]; omega)] at this

end Go.Proofs.YtnkeohiibninfabDoor
