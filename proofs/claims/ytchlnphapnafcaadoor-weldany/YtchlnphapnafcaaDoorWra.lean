/- Plain: the document's seam, pair by pair, is the seam; the document's Valid is validB. -/
import Derived.Test.YtchlnphapnafcaaDoorWjs
import Derived.Test.YtchlnphapnafcaaDoorRf2D
namespace Go.Proofs.YtchlnphapnafcaaDoor
open Go.ChangeShapes Go.WideShapes Go.ChangeAt Go.RowKit

theorem lng_pre {L : List Int} {n : Nat} (h : lng (L.take n) ≠ 0) : lng L = lng (L.take n) ∧ first L = first (L.take n) := by
  cases L with
  | nil => simp
  | cons a r =>
    cases n with
    | zero => simp [lng] at h
    | succ k =>
      have e : (a :: r).take (k + 1) = a :: r.take k := rfl
      rw [e] at h ⊢
      obtain ⟨h1, _, _⟩ := need_of_lng h
      have h2 := lng_len (a :: r.take k)
      have h3 : (need a).toNat ≤ k + 1 := by
        have : (a :: r.take k).length ≤ k + 1 := by simp; omega
        omega
      have e2 : (a :: r.take k).take (need a).toNat = (a :: r).take (need a).toNat := by rw [← e, List.take_take, Nat.min_eq_left h3]
      exact ⟨by simp only [lng, e2], by simp only [first, e2]⟩
theorem lng_cutW {x : List Int} (h : lng x ≠ 0) : lng (x.take (wid x)) = lng x ∧ first (x.take (wid x)) = first x := by
  cases x with
  | nil => simp [lng] at h
  | cons a r =>
    obtain ⟨h1, h2, _⟩ := need_of_lng h
    have hn : (need a).toNat = lng (a :: r) := by omega
    obtain ⟨m, hm⟩ : ∃ m, lng (a :: r) = m + 1 := ⟨lng (a :: r) - 1, by omega⟩
    have e : ((a :: r).take (wid (a :: r))) = a :: r.take m := by rw [h2, hm]; rfl
    have e2 : (a :: r.take m).take (need a).toNat = (a :: r).take (need a).toNat := by
      rw [hn, hm, List.take_succ_cons, List.take_succ_cons, List.take_take, Nat.min_self]
    rw [e]
    exact ⟨by simp only [lng, e2], by simp only [first, e2]⟩
/-- the last k bytes of one and the first j of another -/
def sp (t h : List Int) (k j : Nat) : List Int := t.drop (t.length - k) ++ h.take j
theorem sp_eq {t h : List Int} {k : Nat} (j : Nat) (hk : k ≤ t.length) : sp t h k j = ((t ++ h).drop (t.length - k)).take (k + j) := by
  unfold sp
  have hl : (t.drop (t.length - k)).length = k := by rw [List.length_drop]; omega
  rw [List.drop_append_of_le_length (by omega), List.take_append, hl, List.take_of_length_le (l := t.drop (t.length - k)) (by omega), (by omega : k + j - k = j)]
theorem sp_len {t h : List Int} {k j : Nat} (hk : k ≤ t.length) (hj : j ≤ h.length) : (sp t h k j).length = k + j := by
  unfold sp
  rw [List.length_append, List.length_drop, List.length_take]
  omega
theorem sp_yes {t h : List Int} {k j : Nat} (k1 : 1 ≤ k) (hk : k ≤ t.length) (j1 : 1 ≤ j) (e : lng (sp t h k j) = k + j) :
    inside (t ++ h) t.length = true ∧ flr (t ++ h) t.length = t.length - k ∧ wid ((t ++ h).drop (t.length - k)) = k + j ∧ first (sp t h k j) = first ((t ++ h).drop (t.length - k)) := by
  rw [sp_eq j hk] at e ⊢
  obtain ⟨h1, h2⟩ := lng_pre (L := (t ++ h).drop (t.length - k)) (n := k + j) (by omega)
  have hl : lng ((t ++ h).drop (t.length - k)) = k + j := by omega
  have hin : inside (t ++ h) t.length = true := (inside_iff _ _).2 ⟨t.length - k, by omega, by omega⟩
  refine ⟨hin, ?_, ?_, h2.symm⟩
  · refine flr_at k1 hk (by omega) (fun i i1 i2 hi => ?_)
    have := lng_cross (l := t ++ h) (p := t.length - k) (q := t.length - i) (by omega) (by omega)
    omega
  · cases hd : (t ++ h).drop (t.length - k) with
    | nil => rw [hd] at hl; simp [lng] at hl; omega
    | cons a r =>
      rw [hd] at hl
      rw [wid_lng, if_neg (by omega)]
      exact hl
/-- where the encoding over the seam begins, and how much of it lies behind -/
def sk (t h : List Int) : Nat := t.length - flr (t ++ h) t.length
def sj (t h : List Int) : Nat := flr (t ++ h) t.length + wid ((t ++ h).drop (flr (t ++ h) t.length)) - t.length
theorem sp_is {t h : List Int} (hin : inside (t ++ h) t.length = true) : 1 ≤ sk t h ∧ sk t h ≤ t.length ∧ 1 ≤ sj t h ∧ sj t h ≤ h.length ∧ lng (sp t h (sk t h) (sj t h)) = sk t h + sj t h := by
  obtain ⟨h1, h2⟩ := flr_wid hin
  have hw := wid_gt (l := (t ++ h).drop (flr (t ++ h) t.length)) (k := 1) (by omega)
  have hw1 : 1 < lng ((t ++ h).drop (flr (t ++ h) t.length)) := by rw [← hw]; omega
  have hwl : wid ((t ++ h).drop (flr (t ++ h) t.length)) = lng ((t ++ h).drop (flr (t ++ h) t.length)) := by
    cases hd : (t ++ h).drop (flr (t ++ h) t.length) with
    | nil => rw [hd] at hw1; simp [lng] at hw1
    | cons a r => rw [hd] at hw1; rw [wid_lng, if_neg (by omega)]
  have hlen := lng_len ((t ++ h).drop (flr (t ++ h) t.length))
  rw [List.length_drop, List.length_append] at hlen
  have hk : sk t h ≤ t.length := by unfold sk; omega
  have hf : t.length - sk t h = flr (t ++ h) t.length := by unfold sk; omega
  refine ⟨by unfold sk; omega, hk, by unfold sj; omega, by unfold sj; omega, ?_⟩
  rw [sp_eq _ hk, hf]
  have hs : sk t h + sj t h = wid ((t ++ h).drop (flr (t ++ h) t.length)) := by unfold sk sj; omega
  rw [hs]
  have := (lng_cutW (x := (t ++ h).drop (flr (t ++ h) t.length)) (by omega)).1
  omega
/-- has the pair of the seam been met? -/
def met (t h : List Int) (k j : Nat) : Prop := inside (t ++ h) t.length = true ∧ (sk t h < k ∨ (sk t h = k ∧ sj t h < j))
instance (t h : List Int) (k j : Nat) : Decidable (met t h k j) := by unfold met; exact inferInstance
def zR (t h : List Int) (k j : Nat) : Int := if met t h k j then seamR (t ++ h) t.length else 0
def zU (t h : List Int) (k j : Nat) : Int := if met t h k j then seamU (t ++ h) t.length else 0
theorem met_0 (t h : List Int) : ¬ met t h 1 1 := fun ⟨hin, hm⟩ => by have := sp_is hin; omega
theorem met_row (t h : List Int) (k : Nat) : met t h k (h.length + 1) ↔ met t h (k + 1) 1 := by
  unfold met
  constructor
  · rintro ⟨hin, hm⟩
    exact ⟨hin, by omega⟩
  · rintro ⟨hin, hm⟩
    have := sp_is hin
    exact ⟨hin, by omega⟩
theorem met_end (t h : List Int) : met t h (t.length + 1) 1 ↔ inside (t ++ h) t.length = true := by
  unfold met
  constructor
  · exact fun hm => hm.1
  · intro hin
    have := sp_is hin
    exact ⟨hin, by omega⟩
theorem zR_0 (t h : List Int) : zR t h 1 1 = 0 := if_neg (met_0 t h)
theorem zU_0 (t h : List Int) : zU t h 1 1 = 0 := if_neg (met_0 t h)
theorem zR_row (t h : List Int) (k : Nat) : zR t h k (h.length + 1) = zR t h (k + 1) 1 := by unfold zR; simp only [met_row]
theorem zU_row (t h : List Int) (k : Nat) : zU t h k (h.length + 1) = zU t h (k + 1) 1 := by unfold zU; simp only [met_row]
theorem zR_end (t h : List Int) : zR t h (t.length + 1) 1 = seamR (t ++ h) t.length := by
  unfold zR
  by_cases hin : inside (t ++ h) t.length = true
  · rw [if_pos ((met_end t h).2 hin)]
  · rw [if_neg (fun hm => hin ((met_end t h).1 hm))]
    unfold seamR
    rw [if_neg hin]
theorem zU_end (t h : List Int) : zU t h (t.length + 1) 1 = seamU (t ++ h) t.length := by
  unfold zU
  by_cases hin : inside (t ++ h) t.length = true
  · rw [if_pos ((met_end t h).2 hin)]
  · rw [if_neg (fun hm => hin ((met_end t h).1 hm))]
    unfold seamU
    rw [if_neg hin]
theorem z_yes {t h : List Int} {k j : Nat} (k1 : 1 ≤ k) (hk : k ≤ t.length) (j1 : 1 ≤ j) (e : lng (sp t h k j) = k + j) :
    zR t h k (j + 1) = (k : Int) + (j : Int) - 1 ∧ zU t h k (j + 1) = (k : Int) + (j : Int) - uni1 (first (sp t h k j)).1 := by
  obtain ⟨hin, hf, hw, h1⟩ := sp_yes k1 hk j1 e
  have hs : sk t h = k := by unfold sk; omega
  have hs2 : sj t h = j := by unfold sj; rw [hf, hw]; omega
  have hm : met t h k (j + 1) := ⟨hin, Or.inr ⟨hs, by omega⟩⟩
  unfold zR zU
  rw [if_pos hm, if_pos hm]
  unfold seamR seamU
  rw [if_pos hin, if_pos hin, hf, hw, h1]
  exact ⟨by omega, by omega⟩
theorem z_no {t h : List Int} {k j : Nat} (e : ¬ lng (sp t h k j) = k + j) : zR t h k (j + 1) = zR t h k j ∧ zU t h k (j + 1) = zU t h k j := by
  have hm : met t h k (j + 1) ↔ met t h k j := by
    unfold met
    constructor
    · rintro ⟨hin, hm⟩
      refine ⟨hin, ?_⟩
      rcases hm with hm | ⟨hm, hm2⟩
      · exact Or.inl hm
      · refine Or.inr ⟨hm, ?_⟩
        rcases Nat.lt_or_ge (sj t h) j with h2 | h2
        · exact h2
        · exfalso
          have hj : sj t h = j := by omega
          have := (sp_is hin).2.2.2.2
          rw [hm, hj] at this
          exact e this
    · rintro ⟨hin, hm⟩
      exact ⟨hin, by omega⟩
  unfold zR zU
  simp only [hm]
  exact ⟨trivial, trivial⟩

/-- the document's Valid, in plain words -/
def allOk (n : Nat) (h t : List Int) : Bool := if n ≤ 3 then decide (h = t) else decide (h.drop (n - 3) = t.take (6 - n))
theorem told_few {n : Nat} {h t : List Int} (lh : h.length = n) : toldL n h t = h := by
  unfold toldL
  rw [List.drop_of_length_le (by omega)]
  simp
theorem told_some {n : Nat} {h t : List Int} (hn : 3 < n) (h6 : n ≤ 6) (lh : h.length = 3) (lt : t.length = 3) : toldL n h t = h ++ t.drop (6 - n) := by
  unfold toldL
  rw [lh, lt]
  congr 2
  omega
theorem few_iff {n : Nat} {z : Sz} {h t : List Int} (hn : n ≤ 3) (lh : h.length = n) : ((⟨z, h, t⟩ : We) = ofL (toldL n h t)) ↔ (h = t ∧ szL (toldL n h t) = z) := by
  rw [told_few lh]
  unfold ofL tail3
  rw [List.take_of_length_le (by omega), lh, (by omega : n - 3 = 0), List.drop_zero]
  simp only [We.mk.injEq]
  constructor
  · rintro ⟨a, _, c⟩
    exact ⟨c.symm, a.symm⟩
  · rintro ⟨a, b⟩
    exact ⟨b.symm, trivial, a.symm⟩
theorem some_iff {n : Nat} {z : Sz} {h t : List Int} (hn : 3 < n) (h6 : n ≤ 6) (lh : h.length = 3) (lt : t.length = 3) : ((⟨z, h, t⟩ : We) = ofL (toldL n h t)) ↔ (h.drop (n - 3) = t.take (6 - n) ∧ szL (toldL n h t) = z) := by
  rw [told_some hn h6 lh lt]
  unfold ofL tail3
  have e1 : (h ++ t.drop (6 - n)).take 3 = h := by rw [List.take_append_of_le_length (by omega), List.take_of_length_le (by omega)]
  have e2 : (h ++ t.drop (6 - n)).length - 3 = n - 3 := by rw [List.length_append, List.length_drop]; omega
  have e3 : (h ++ t.drop (6 - n)).drop (n - 3) = h.drop (n - 3) ++ t.drop (6 - n) := by rw [List.drop_append_of_le_length (by omega)]
  rw [e1, e2, e3]
  simp only [We.mk.injEq]
  have ht : t = t.take (6 - n) ++ t.drop (6 - n) := (List.take_append_drop ..).symm
  constructor
  · rintro ⟨a, _, c⟩
    refine ⟨?_, a.symm⟩
    have := ht.symm.trans c
    exact ((List.append_cancel_right_eq ..).mp this).symm
  · rintro ⟨a, b⟩
    refine ⟨b.symm, trivial, ?_⟩
    rw [a]
    exact ht
end Go.Proofs.YtchlnphapnafcaaDoor
