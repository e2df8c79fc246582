/- Plain facts of Rad, Rf2S and Rr8 by themselves (taken from there: a claim has at most 60 files); not beside those texts. -/
import Derived.Test.YtnkeohiibninfabDoorUnt6
import Derived.Test.YtnkeohiibninfabDoorRuv
namespace Go.Proofs.YtnkeohiibninfabDoor
open Go.ChangeShapes Go.WideShapes Go.ChangeAt Go.RowKit


theorem first_cut {L : List Int} {n : Nat} (hL : 0 < L.length) (hn : wid L ≤ n) : first (L.take n) = first L ∧ whl (L.take n) = whl L := by
  match L with
  | [] => cases hL
  | a :: r =>
    have h1 : 1 ≤ wid (a :: r) := by have := wid_pos (l := a :: r) (p := 0) (by simp); simpa using this
    obtain ⟨k, rfl⟩ : ∃ k, n = k + 1 := ⟨n - 1, by omega⟩
    have e : (a :: r).take (k + 1) = a :: r.take k := rfl
    have ht : (a :: r.take k).take (need a).toNat = (a :: r).take (min (need a).toNat (k + 1)) := by rw [← e, List.take_take]
    by_cases hw : whole ((a :: r).take (need a).toNat) = true
    · have hwd : wid (a :: r) = (need a).toNat := by unfold wid; simp only [first]; rw [if_pos hw]
      have hm : min (need a).toNat (k + 1) = (need a).toNat := by omega
      rw [hm] at ht
      rw [e]
      have hf : first (a :: r.take k) = first (a :: r) := by simp only [first]; rw [ht]
      have hg : lng (a :: r.take k) = lng (a :: r) := by simp only [lng]; rw [ht]
      exact ⟨hf, by unfold whl; simp only [hg]⟩
    · have hw2 : ¬ whole ((a :: r.take k).take (need a).toNat) = true := by
        rw [ht]
        by_cases hle : (need a).toNat ≤ k + 1
        · rw [show min (need a).toNat (k + 1) = (need a).toNat by omega]; exact hw
        · rw [show min (need a).toNat (k + 1) = k + 1 by omega, e]
          have := whole_len (a := a) (r := r.take k) (by have := need_lo a; simp; omega)
          rw [this]
          decide
      rw [e]
      have hf : first (a :: r.take k) = first (a :: r) := by simp only [first]; rw [if_neg hw, if_neg hw2]
      have hg : lng (a :: r.take k) = lng (a :: r) := by simp only [lng]; rw [if_neg hw, if_neg hw2]
      exact ⟨hf, by unfold whl; simp only [hg]⟩
theorem spots_inj {l : List Int} {p q : Nat} (hp : p ≤ l.length) (hq : q ≤ l.length) (h : spots l p = spots l q) : p = q := by
  by_cases h1 : p < l.length
  · rw [spots_cons h1] at h
    by_cases h2 : q < l.length
    · rw [spots_cons h2] at h; exact (List.cons.inj h).1
    · rw [spots_end h2] at h; cases h
  · rw [spots_end h1] at h
    by_cases h2 : q < l.length
    · rw [spots_cons h2] at h; cases h
    · omega
theorem spots_take {l : List Int} (hl : ∀ x ∈ l, 0 ≤ x ∧ x ≤ 255) {q : Nat} (hq : q ≤ l.length) : ∀ (pre : List Nat) (p : Nat), p ≤ l.length → spots l p = pre ++ spots l q → spots (l.take q) p = pre ∧ ∀ x ∈ pre, x < l.length ∧ x + wid (l.drop x) ≤ q
  | [], p, hp, h => by
    obtain rfl := spots_inj hp hq (by simpa using h)
    exact ⟨spots_end (by simp; omega), by simp⟩
  | x :: t, p, hp, h => by
    by_cases hlt : p < l.length
    · rw [spots_cons hlt] at h
      obtain ⟨rfl, ht⟩ := List.cons.inj h
      have hwl := wid_len hlt
      have hwp := wid_pos hlt
      obtain ⟨i1, i2⟩ := spots_take hl hq t (p + wid (l.drop p)) hwl ht
      obtain ⟨q', g1, g2, g3, _⟩ := st_walk hl t (p + wid (l.drop p)) e0 hwl ⟨spots l q, ht.symm⟩
      have hqq : q' = q := spots_inj g2 hq (by rw [g3] at ht; exact List.append_cancel_left ht)
      subst hqq
      have hwd : wid ((l.take q').drop p) = wid (l.drop p) := by
        rw [List.drop_take]
        unfold wid
        rw [(first_cut (by simp; omega) (by omega)).1]
      refine ⟨?_, ?_⟩
      · rw [spots_cons (by simp; omega), hwd, i1]
      · intro y hy
        rcases List.mem_cons.1 hy with rfl | hy
        · exact ⟨hlt, g1⟩
        · exact i2 y hy
    · rw [spots_end hlt] at h
      cases h
theorem spots_drop (l : List Int) (x : Nat) : ∀ (n p : Nat), l.length - (x + p) ≤ n → spots l (x + p) = (spots (l.drop x) p).map (· + x)
  | 0, p, h => by rw [spots_end (by omega), spots_end (by simp; omega)]; rfl
  | n + 1, p, h => by
    by_cases hlt : x + p < l.length
    · have hwp := wid_pos hlt
      have e : (l.drop x).drop p = l.drop (x + p) := List.drop_drop
      rw [spots_cons hlt, spots_cons (l := l.drop x) (p := p) (by simp; omega), e, List.map_cons]
      have := spots_drop l x n (p + wid (l.drop (x + p))) (by omega)
      rw [← Nat.add_assoc] at this
      rw [this, Nat.add_comm p x]
    · rw [spots_end hlt, spots_end (by simp; omega)]; rfl
def adE (e d : Ed) : Ed := (e.1 + d.1, e.2.1 + d.2.1, e.2.2 + d.2.2)
theorem fold_takeE {l : List Int} {q : Nat} : ∀ (pre : List Nat) (e : Ed), (∀ x ∈ pre, x < l.length ∧ x + wid (l.drop x) ≤ q) → pre.foldl (nxE (l.take q)) e = pre.foldl (nxE l) e
  | [], _, _ => rfl
  | x :: t, e, h => by
    have hx := h x (List.mem_cons_self ..)
    have hwp := wid_pos hx.1
    have hf : first ((l.take q).drop x) = first (l.drop x) := by rw [List.drop_take]; exact (first_cut (by simp; omega) (by omega)).1
    have hn : nxE (l.take q) e x = nxE l e x := by unfold nxE wid; rw [hf]
    rw [List.foldl_cons, List.foldl_cons, hn]
    exact fold_takeE t _ (fun y hy => h y (List.mem_cons_of_mem _ hy))

def edgesTo (l : List Int) (p : Nat) : List Nat := (List.range p).filter fun q => !inside l q
theorem edgesTo_yes {l : List Int} {p : Nat} (h : inside l p = false) : edgesTo l (p + 1) = edgesTo l p ++ [p] := by simp [edgesTo, List.range_succ, List.filter_append, h]
theorem edgesTo_no {l : List Int} {p : Nat} (h : inside l p = true) : edgesTo l (p + 1) = edgesTo l p := by simp [edgesTo, List.range_succ, List.filter_append, h]
theorem edgesTo_len (l : List Int) (p : Nat) : (edgesTo l p).length ≤ p := by
  have := List.length_filter_le (fun q => !inside l q) (List.range p)
  simpa [edgesTo] using this
theorem edgesTo_in {l : List Int} {p : Nat} (he : inside l p = false) (hp : p < l.length) : ∀ k, 1 ≤ k → k ≤ wid (l.drop p) → edgesTo l (p + k) = edgesTo l p ++ [p]
  | 0, h, _ => by omega
  | 1, _, _ => edgesTo_yes he
  | k + 2, _, h2 => by
    rw [show p + (k + 2) = (p + (k + 1)) + 1 by omega, edgesTo_no (edge_between (by omega) (by omega) hp)]
    exact edgesTo_in he hp (k + 1) (by omega) (by omega)
theorem edges_split {l : List Int} : ∀ (n p : Nat), l.length - p ≤ n → p ≤ l.length → inside l p = false → edgesTo l (l.length + 1) = edgesTo l p ++ (spots l p ++ [l.length])
  | 0, p, h, hl, he => by
    obtain rfl : p = l.length := by omega
    rw [spots_end (by omega), edgesTo_yes he]; rfl
  | n + 1, p, h, hl, he => by
    by_cases hp : p < l.length
    · have hw := wid_pos hp
      rw [edges_split n (p + wid (l.drop p)) (by omega) (wid_len hp) (edge_next he hp), edgesTo_in he hp _ hw (Nat.le_refl _), spots_cons hp]
      simp
    · obtain rfl : p = l.length := by omega
      rw [spots_end (by omega), edgesTo_yes he]; rfl
theorem edges_all (l : List Int) : edgesTo l (l.length + 1) = spots l 0 ++ [l.length] := by
  rw [edges_split l.length 0 (by omega) (Nat.zero_le _) (edge_zero l)]
  simp [edgesTo]

theorem EE_last (l : List Int) : (EE l).getD ((EE l).length - 1) e0 = stE l (spots l 0) := by
  rw [EE_len, Nat.add_sub_cancel]
  unfold EE
  rw [edL_getD _ _ _ (Nat.le_refl _), List.take_length]

end Go.Proofs.YtnkeohiibninfabDoor
