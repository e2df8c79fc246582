/- Layer 7, plain: cutting at edges (facts taken from Rad and Rtp: a claim has at most 60 files; not beside those texts). -/
import Derived.Test.YtkdnanlgkedjgabDoorDn15

namespace Go.Proofs.YtkdnanlgkedjgabDoor
open Go.ChangeShapes Go.WideShapes Go.ChangeAt Go.RowKit

theorem first_cut {L : List Int} {n : Nat} (hL : 0 < L.length) (hn : wid L ≤ n) : first (L.take n) = first L ∧ whl (L.take n) = whl L := by
  match L with
  | [] => cases hL
  | a :: r =>
    have h1 : 1 ≤ wid (a :: r) := by have := wid_pos (l := a :: r) (p := 0) (by simp); simpa using this
    obtain ⟨k, rfl⟩ : ∃ k, n = k + 1 := ⟨n - 1, by omega⟩
    have e : (a :: r).take (k + 1) = a :: r.take k := rfl
    have ht : (a :: r.take k).take (need a).toNat = (a :: r).take (min (need a).toNat (k + 1)) := by rw [← e, List.take_take]
    by_cases hw : whole ((a :: r).take (need a).toNat) = true
    · have hwd : wid (a :: r) = (need a).toNat := by unfold wid; simp only [first]; rw [if_pos hw]
      have hm : min (need a).toNat (k + 1) = (need a).toNat := by omega
      rw [hm] at ht
      rw [e]
      have hf : first (a :: r.take k) = first (a :: r) := by simp only [first]; rw [ht]
      have hg : lng (a :: r.take k) = lng (a :: r) := by simp only [lng]; rw [ht]
      exact ⟨hf, by unfold whl; simp only [hg]⟩
    · have hw2 : ¬ whole ((a :: r.take k).take (need a).toNat) = true := by
        rw [ht]
        by_cases hle : (need a).toNat ≤ k + 1
        · rw [show min (need a).toNat (k + 1) = (need a).toNat by omega]; exact hw
        · rw [show min (need a).toNat (k + 1) = k + 1 by omega, e]
          have := whole_len (a := a) (r := r.take k) (by have := need_lo a; simp; omega)
          rw [this]
          decide
      rw [e]
      have hf : first (a :: r.take k) = first (a :: r) := by simp only [first]; rw [if_neg hw, if_neg hw2]
      have hg : lng (a :: r.take k) = lng (a :: r) := by simp only [lng]; rw [if_neg hw, if_neg hw2]
      exact ⟨hf, by unfold whl; simp only [hg]⟩
theorem spots_inj {l : List Int} {p q : Nat} (hp : p ≤ l.length) (hq : q ≤ l.length) (h : spots l p = spots l q) : p = q := by
  by_cases h1 : p < l.length
  · rw [spots_cons h1] at h
    by_cases h2 : q < l.length
    · rw [spots_cons h2] at h; exact (List.cons.inj h).1
    · rw [spots_end h2] at h; cases h
  · rw [spots_end h1] at h
    by_cases h2 : q < l.length
    · rw [spots_cons h2] at h; cases h
    · omega
theorem spots_take {l : List Int} (hl : ∀ x ∈ l, 0 ≤ x ∧ x ≤ 255) {q : Nat} (hq : q ≤ l.length) : ∀ (pre : List Nat) (p : Nat), p ≤ l.length → spots l p = pre ++ spots l q → spots (l.take q) p = pre ∧ ∀ x ∈ pre, x < l.length ∧ x + wid (l.drop x) ≤ q
  | [], p, hp, h => by
    obtain rfl := spots_inj hp hq (by simpa using h)
    exact ⟨spots_end (by simp; omega), by simp⟩
  | x :: t, p, hp, h => by
    by_cases hlt : p < l.length
    · rw [spots_cons hlt] at h
      obtain ⟨rfl, ht⟩ := List.cons.inj h
      have hwl := wid_len hlt
      have hwp := wid_pos hlt
      obtain ⟨i1, i2⟩ := spots_take hl hq t (p + wid (l.drop p)) hwl ht
      obtain ⟨q', g1, g2, g3, _⟩ := st_walk hl t (p + wid (l.drop p)) e0 hwl ⟨spots l q, ht.symm⟩
      have hqq : q' = q := spots_inj g2 hq (by rw [g3] at ht; exact List.append_cancel_left ht)
      subst hqq
      have hwd : wid ((l.take q').drop p) = wid (l.drop p) := by
        rw [List.drop_take]
        unfold wid
        rw [(first_cut (by simp; omega) (by omega)).1]
      refine ⟨?_, ?_⟩
      · rw [spots_cons (by simp; omega), hwd, i1]
      · intro y hy
        rcases List.mem_cons.1 hy with rfl | hy
        · exact ⟨hlt, g1⟩
        · exact i2 y hy
    · rw [spots_end hlt] at h
      cases h
theorem spots_drop (l : List Int) (x : Nat) : ∀ (n p : Nat), l.length - (x + p) ≤ n → spots l (x + p) = (spots (l.drop x) p).map (· + x)
  | 0, p, h => by rw [spots_end (by omega), spots_end (by simp; omega)]; rfl
  | n + 1, p, h => by
    by_cases hlt : x + p < l.length
    · have hwp := wid_pos hlt
      have e : (l.drop x).drop p = l.drop (x + p) := List.drop_drop
      rw [spots_cons hlt, spots_cons (l := l.drop x) (p := p) (by simp; omega), e, List.map_cons]
      have := spots_drop l x n (p + wid (l.drop (x + p))) (by omega)
      rw [← Nat.add_assoc] at this
      rw [this, Nat.add_comm p x]
    · rw [spots_end hlt, spots_end (by simp; omega)]; rfl
def adE (e d : Ed) : Ed := (e.1 + d.1, e.2.1 + d.2.1, e.2.2 + d.2.2)
theorem fold_takeE {l : List Int} {q : Nat} : ∀ (pre : List Nat) (e : Ed), (∀ x ∈ pre, x < l.length ∧ x + wid (l.drop x) ≤ q) → pre.foldl (nxE (l.take q)) e = pre.foldl (nxE l) e
  | [], _, _ => rfl
  | x :: t, e, h => by
    have hx := h x (List.mem_cons_self ..)
    have hwp := wid_pos hx.1
    have hf : first ((l.take q).drop x) = first (l.drop x) := by rw [List.drop_take]; exact (first_cut (by simp; omega) (by omega)).1
    have hn : nxE (l.take q) e x = nxE l e x := by unfold nxE wid; rw [hf]
    rw [List.foldl_cons, List.foldl_cons, hn]
    exact fold_takeE t _ (fun y hy => h y (List.mem_cons_of_mem _ hy))

def edgesTo (l : List Int) (p : Nat) : List Nat := (List.range p).filter fun q => !inside l q
theorem edgesTo_yes {l : List Int} {p : Nat} (h : inside l p = false) : edgesTo l (p + 1) = edgesTo l p ++ [p] := by simp [edgesTo, List.range_succ, List.filter_append, h]
theorem edgesTo_no {l : List Int} {p : Nat} (h : inside l p = true) : edgesTo l (p + 1) = edgesTo l p := by simp [edgesTo, List.range_succ, List.filter_append, h]
theorem edgesTo_len (l : List Int) (p : Nat) : (edgesTo l p).length ≤ p := by
  have := List.length_filter_le (fun q => !inside l q) (List.range p)
  simpa [edgesTo] using this
theorem edgesTo_in {l : List Int} {p : Nat} (he : inside l p = false) (hp : p < l.length) : ∀ k, 1 ≤ k → k ≤ wid (l.drop p) → edgesTo l (p + k) = edgesTo l p ++ [p]
  | 0, h, _ => by omega
  | 1, _, _ => edgesTo_yes he
  | k + 2, _, h2 => by
    rw [show p + (k + 2) = (p + (k + 1)) + 1 by omega, edgesTo_no (edge_between (by omega) (by omega) hp)]
    exact edgesTo_in he hp (k + 1) (by omega) (by omega)
theorem edges_split {l : List Int} : ∀ (n p : Nat), l.length - p ≤ n → p ≤ l.length → inside l p = false → edgesTo l (l.length + 1) = edgesTo l p ++ (spots l p ++ [l.length])
  | 0, p, h, hl, he => by
    obtain rfl : p = l.length := by omega
    rw [spots_end (by omega), edgesTo_yes he]; rfl
  | n + 1, p, h, hl, he => by
    by_cases hp : p < l.length
    · have hw := wid_pos hp
      rw [edges_split n (p + wid (l.drop p)) (by omega) (wid_len hp) (edge_next he hp), edgesTo_in he hp _ hw (Nat.le_refl _), spots_cons hp]
      simp
    · obtain rfl : p = l.length := by omega
      rw [spots_end (by omega), edgesTo_yes he]; rfl
theorem edges_all (l : List Int) : edgesTo l (l.length + 1) = spots l 0 ++ [l.length] := by
  rw [edges_split l.length 0 (by omega) (Nat.zero_le _) (edge_zero l)]
  simp [edgesTo]

theorem EE_last (l : List Int) : (EE l).getD ((EE l).length - 1) e0 = stE l (spots l 0) := by
  rw [EE_len, Nat.add_sub_cancel]
  unfold EE
  rw [edL_getD _ _ _ (Nat.le_refl _), List.take_length]
theorem fold_dropE (l : List Int) (x : Nat) (e : Ed) : ∀ (ps : List Nat) (d : Ed), (ps.map (· + x)).foldl (nxE l) (adE e d) = adE e (ps.foldl (nxE (l.drop x)) d)
  | [], _ => rfl
  | p :: t, d => by
    have hd : (l.drop x).drop p = l.drop (p + x) := by rw [List.drop_drop, Nat.add_comm]
    rw [List.map_cons, List.foldl_cons, List.foldl_cons, ← fold_dropE l x e t]
    congr 1
    unfold nxE adE
    rw [hd]
    simp only [Prod.mk.injEq]
    omega
theorem adds_of {l : List Int} (hl : ∀ x ∈ l, 0 ≤ x ∧ x ≤ 255) {k : Nat} (_hk : k ≤ (spots l 0).length) :
    spots (l.take (stE l ((spots l 0).take k)).1) 0 = (spots l 0).take k ∧ (spots (l.drop (stE l ((spots l 0).take k)).1) 0).map (· + (stE l ((spots l 0).take k)).1) = (spots l 0).drop k ∧
    (∀ x ∈ (spots l 0).take k, x < l.length ∧ x + wid (l.drop x) ≤ (stE l ((spots l 0).take k)).1) ∧
    adE (stE (l.take (stE l ((spots l 0).take k)).1) (spots (l.take (stE l ((spots l 0).take k)).1) 0)) (stE (l.drop (stE l ((spots l 0).take k)).1) (spots (l.drop (stE l ((spots l 0).take k)).1) 0)) = stE l (spots l 0) := by
  obtain ⟨a1, a2, _⟩ := st_at hl (List.take_prefix k (spots l 0))
  generalize hx : (stE l ((spots l 0).take k)).1 = x at *
  obtain ⟨t1, t2⟩ := spots_take hl a1 ((spots l 0).take k) 0 (Nat.zero_le _) a2
  have hd := spots_drop l x l.length 0 (by omega)
  rw [Nat.add_zero] at hd
  have hsd : (spots l 0).drop k = spots l x := by
    have h1 : (spots l 0).take k ++ (spots l 0).drop k = (spots l 0).take k ++ spots l x := by rw [List.take_append_drop]; exact a2
    exact List.append_cancel_left h1
  refine ⟨t1, by rw [hsd, hd], t2, ?_⟩
  rw [t1]
  have e1 : stE (l.take x) ((spots l 0).take k) = stE l ((spots l 0).take k) := fold_takeE _ _ t2
  have e2 := fold_dropE l x (stE l ((spots l 0).take k)) (spots (l.drop x) 0) e0
  rw [e1, ← hd] at *
  have e3 : adE (stE l ((spots l 0).take k)) e0 = stE l ((spots l 0).take k) := rfl
  rw [e3] at e2
  show adE (stE l ((spots l 0).take k)) ((spots (l.drop x) 0).foldl (nxE (l.drop x)) e0) = _
  rw [← e2]
  unfold stE
  rw [← List.foldl_append, ← a2]

theorem byE_ad (u : Int) (e d : Ed) : byE u (adE e d) = byE u e + byE u d := by
  unfold byE adE
  split
  · rfl
  · split <;> rfl

theorem lng_take_le (L : List Int) (n : Nat) : lng (L.take n) ≤ lng L := by
  match L, n with
  | [], n => simp [lng]
  | a :: r, 0 => simp [lng]
  | a :: r, k + 1 =>
    have e : (a :: r).take (k + 1) = a :: r.take k := rfl
    have ht : (a :: r.take k).take (need a).toNat = (a :: r).take (min (need a).toNat (k + 1)) := by rw [← e, List.take_take]
    rw [e]
    by_cases hle : (need a).toNat ≤ k + 1
    · rw [show min (need a).toNat (k + 1) = (need a).toNat by omega] at ht
      simp only [lng]
      rw [ht]
      exact Nat.le_refl _
    · rw [show min (need a).toNat (k + 1) = k + 1 by omega, e] at ht
      have hw : whole (a :: r.take k) = false := whole_len (a := a) (r := r.take k) (by have := need_lo a; simp; omega)
      have h0 : lng (a :: r.take k) = 0 := by simp only [lng]; rw [ht, hw]; rfl
      rw [h0]
      exact Nat.zero_le _
theorem lng_cut {L : List Int} {n : Nat} (h : lng L ≤ n) : lng (L.take n) = lng L := by
  match L with
  | [] => simp
  | a :: r =>
    by_cases hw : whole ((a :: r).take (need a).toNat) = true
    · have hl : lng (a :: r) = (need a).toNat := by simp only [lng]; rw [if_pos hw]
      rw [hl] at h ⊢
      match n with
      | 0 =>
        obtain h0 : (need a).toNat = 0 := by omega
        rw [h0] at hw
        simp [whole] at hw
      | k + 1 =>
        have e : (a :: r).take (k + 1) = a :: r.take k := rfl
        have ht : (a :: r.take k).take (need a).toNat = (a :: r).take (need a).toNat := by rw [← e, List.take_take, Nat.min_eq_left h]
        rw [e]
        simp only [lng]
        rw [ht, if_pos hw]
    · have hl : lng (a :: r) = 0 := by simp only [lng]; rw [if_neg hw]
      have := lng_take_le (a :: r) n
      omega
theorem inside_take {l : List Int} {b p : Nat} (hb : inside l b = false) (hp : p ≤ b) : inside (l.take b) p = inside l p := by
  have hn := (inside_not l b).1 hb
  rw [Bool.eq_iff_iff, inside_iff, inside_iff]
  constructor
  · rintro ⟨q, h1, h2⟩
    refine ⟨q, h1, ?_⟩
    rw [List.drop_take] at h2
    have := lng_take_le (l.drop q) (b - q)
    omega
  · rintro ⟨q, h1, h2⟩
    refine ⟨q, h1, ?_⟩
    have := hn q (by omega)
    rw [List.drop_take, lng_cut (by omega)]
    exact h2
theorem inside_drop {l : List Int} {a : Nat} (ha : inside l a = false) (p : Nat) : inside (l.drop a) p = inside l (a + p) := by
  have hn := (inside_not l a).1 ha
  rw [Bool.eq_iff_iff, inside_iff, inside_iff]
  constructor
  · rintro ⟨q, h1, h2⟩
    refine ⟨a + q, by omega, ?_⟩
    rw [List.drop_drop] at h2
    omega
  · rintro ⟨q, h1, h2⟩
    rcases Nat.lt_or_ge q a with h | h
    · have := hn q h; omega
    · refine ⟨q - a, by omega, ?_⟩
      rw [List.drop_drop, show a + (q - a) = q by omega]
      omega
theorem inside_cut {l : List Int} {a b p : Nat} (ha : inside l a = false) (hb : inside l b = false) (hab : a ≤ b) (hp : a + p ≤ b) : inside ((l.take b).drop a) p = inside l (a + p) := by
  rw [inside_drop (by rw [inside_take hb hab]; exact ha), inside_take hb hp]
/-- an edge has its number -/
theorem edge_ix {l : List Int} (hl : ∀ x ∈ l, 0 ≤ x ∧ x ≤ 255) {p : Nat} (hp : p ≤ l.length) (he : inside l p = false) : ∃ i, i < (EE l).length ∧ ((EE l).getD i e0).1 = p := by
  have hm : p ∈ edgesTo l (l.length + 1) := by unfold edgesTo; simp [he]; omega
  rw [edges_all, List.mem_append, List.mem_singleton] at hm
  rcases hm with h | rfl
  · obtain ⟨pre, suf, h⟩ := List.append_of_mem h
    have hpre : pre ++ [p] <+: spots l 0 := ⟨suf, by rw [h]; simp⟩
    have hle : pre.length ≤ (spots l 0).length := by rw [h]; simp
    refine ⟨pre.length, by rw [EE_len]; omega, ?_⟩
    unfold EE
    rw [edL_getD _ _ _ hle, (st_next hl hpre).1, h]
    simp
  · refine ⟨(spots l 0).length, by rw [EE_len]; omega, ?_⟩
    unfold EE
    rw [edL_getD _ _ _ (Nat.le_refl _), List.take_length, st_full hl]
theorem EE_inside {l : List Int} (hl : ∀ x ∈ l, 0 ≤ x ∧ x ≤ 255) {i : Nat} (h : i < (EE l).length) : inside l ((EE l).getD i e0).1 = false := by
  rw [EE_len] at h
  unfold EE
  rw [edL_getD _ _ _ (by omega)]
  obtain ⟨a1, a2, _⟩ := st_at hl (List.take_prefix i (spots l 0))
  have hm : (stE l ((spots l 0).take i)).1 ∈ spots l 0 ++ [l.length] := by
    by_cases hx : (stE l ((spots l 0).take i)).1 < l.length
    · have hm2 : (stE l ((spots l 0).take i)).1 ∈ spots l (stE l ((spots l 0).take i)).1 := by rw [spots_cons hx]; exact List.mem_cons_self ..
      generalize (stE l ((spots l 0).take i)).1 = y at *
      rw [a2]
      exact List.mem_append_left _ (List.mem_append_right _ hm2)
    · simp; omega
  rw [← edges_all] at hm
  unfold edgesTo at hm
  simp at hm
  exact hm.2
/-- the size of what stands ahead of an edge -/
theorem sz_take {l : List Int} (hl : ∀ x ∈ l, 0 ≤ x ∧ x ≤ 255) {r : Int} (hr : isRu r = true) {i : Nat} (h : i < (EE l).length) : szE r (l.take ((EE l).getD i e0).1) = byE r ((EE l).getD i e0) := by
  rw [EE_len] at h
  have hg : (EE l).getD i e0 = stE l ((spots l 0).take i) := by unfold EE; rw [edL_getD _ _ _ (by omega)]
  rw [hg]
  obtain ⟨s1, _, s3, _⟩ := adds_of hl (k := i) (by omega)
  unfold szE
  rw [hr, s1]
  show byE r _ = byE r _
  rw [show stE (l.take (stE l ((spots l 0).take i)).1) ((spots l 0).take i) = stE l ((spots l 0).take i) from fold_takeE _ _ s3]
/-- sizes of what is cut at edges add up -/
theorem sz_add {l : List Int} (hl : ∀ x ∈ l, 0 ≤ x ∧ x ≤ 255) {r : Int} (hr : isRu r = true) {p : Nat} (hp : p ≤ l.length) (he : inside l p = false) : szE r l = szE r (l.take p) + szE r (l.drop p) := by
  obtain ⟨i, hi, rfl⟩ := edge_ix hl hp he
  rw [EE_len] at hi
  have hg : (EE l).getD i e0 = stE l ((spots l 0).take i) := by unfold EE; rw [edL_getD _ _ _ (by omega)]
  rw [hg]
  obtain ⟨_, _, _, s4⟩ := adds_of hl (k := i) (by omega)
  unfold szE
  rw [hr, ← s4]
  exact byE_ad r _ _
theorem sz_cut {l : List Int} (hl : ∀ x ∈ l, 0 ≤ x ∧ x ≤ 255) {r : Int} (hr : isRu r = true) {a b : Nat} (ha : inside l a = false) (hb : inside l b = false) (hab : a ≤ b) (hbl : b ≤ l.length) :
    szE r (l.take b) = szE r (l.take a) + szE r ((l.take b).drop a) := by
  have hlt : ∀ x ∈ l.take b, 0 ≤ x ∧ x ≤ 255 := fun x hx => hl x (List.mem_of_mem_take hx)
  rw [sz_add hlt hr (p := a) (by simp; omega) (by rw [inside_take hb hab]; exact ha), List.take_take, Nat.min_eq_left hab]
theorem sz_bytes {l : List Int} (hl : ∀ x ∈ l, 0 ≤ x ∧ x ≤ 255) : szE 1 l = l.length := by
  unfold szE
  rw [ru1]
  show byE 1 _ = _
  unfold byE
  rw [if_pos rfl, st_full hl]
theorem sz_nil {r : Int} : szE r [] = 0 := by
  unfold szE
  split
  · rw [spots_end (by simp)]
    exact by_e0 r
  · rfl
/-- rule.To of what is counted ahead of an edge -/
theorem to_edge {m : List Int} (hl : ∀ x ∈ m, 0 ≤ x ∧ x ≤ 255) {r mo : Int} (hr : isRu r = true) (hm : isRu mo = true) {q : Nat} (hq : q ≤ m.length) (he : inside m q = false) :
    toR r (szE r (m.take q) : Int) 1 mo (EE m) = 0 ∧ toP r (szE r (m.take q) : Int) 1 mo (EE m) = q := by
  obtain ⟨i, hi, rfl⟩ := edge_ix hl hq he
  rw [sz_take hl hr hi]
  have h := at_edge (inc_EE hl r) hi mo
  have k := to_ru hr ru1 hm (byE r ((EE m).getD i e0) : Int) (EE m)
  rw [k.1, k.2, h.2.2.1, h.2.2.2]
  exact ⟨rfl, rfl⟩
/-- a byte below 128: edges ahead of it and behind it -/
theorem edge_ascii {l : List Int} {p : Nat} (_hp : p < l.length) (h0 : 0 ≤ l.getD p 0) (h1 : l.getD p 0 < 128) : inside l p = false ∧ inside l (p + 1) = false := by
  have hno : ∀ q, q < p → q + lng (l.drop q) ≤ p := fun q hq => by
    rcases Nat.lt_or_ge p (q + lng (l.drop q)) with h | h
    · have := lng_tail (l := l.drop q) (k := p - q) (by omega) (by omega)
      rw [getD_drop', show q + (p - q) = p by omega] at this
      have := of_decide_eq_true this
      omega
    · exact h
  refine ⟨(inside_not l p).2 hno, (inside_not l (p + 1)).2 fun q hq => ?_⟩
  by_cases e : q = p
  · subst e
    have : lng (l.drop q) ≤ 1 := by
      have hd := getD_drop' l q 0
      generalize l.drop q = m at *
      match m with
      | [] => simp [lng]
      | a :: r =>
        have ha : a = l.getD q 0 := by simpa using hd
        have hn : (need a).toNat ≤ 1 := by rw [need_1' (a := a) (by omega)]; decide
        simp only [lng]
        split <;> omega
    omega
  · have := hno q (by omega)
    omega

end Go.Proofs.YtkdnanlgkedjgabDoor
