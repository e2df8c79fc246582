/- The edges of bytes as a plain list: by bytes, by runes and by units; places between them. · Places between edges, as plain functions: the edge that a place is or goes to. -/
import Derived.Test.YtkdnanlgkedjgabDoorDn08
import Derived.Test.YtkdnanlgkedjgabDoorDn09

section
namespace Go.Proofs.YtkdnanlgkedjgabDoor

/-- an edge, by the three rulers -/
abbrev Ed : Type := Nat × Nat × Nat
def e0 : Ed := (0, 0, 0)
def nxE (l : List Int) (e : Ed) (p : Nat) : Ed := (e.1 + wid (l.drop p), e.2.1 + 1, e.2.2 + (ulen (first (l.drop p)).1).toNat)
def stE (l : List Int) (ps : List Nat) : Ed := ps.foldl (nxE l) e0
def edL (l : List Int) (ps : List Nat) : List Ed := (List.range (ps.length + 1)).map fun i => stE l (ps.take i)
def EE (l : List Int) : List Ed := edL l (spots l 0)
def byE (r : Int) (e : Ed) : Nat := if r = 1 then e.1 else if r = 2 then e.2.1 else e.2.2

theorem stE_snoc (l : List Int) (ps : List Nat) (p : Nat) : stE l (ps ++ [p]) = nxE l (stE l ps) p := by simp [stE]
theorem edL_nil (l : List Int) : edL l [] = [e0] := rfl
theorem edL_snoc (l : List Int) (ps : List Nat) (p : Nat) : edL l (ps ++ [p]) = edL l ps ++ [stE l (ps ++ [p])] := by
  unfold edL
  rw [List.length_append, List.length_singleton, List.range_succ, List.map_append, List.map_singleton]
  congr 1
  · refine List.map_congr_left fun i hi => ?_
    have := List.mem_range.1 hi
    rw [List.take_append_of_le_length (by omega)]
  · rw [List.take_of_length_le (by simp)]
theorem edL_pre {l : List Int} {ps qs : List Nat} (h : ps <+: qs) : edL l ps <+: edL l qs := by
  obtain ⟨t, rfl⟩ := h
  induction t generalizing ps with
  | nil => rw [List.append_nil]; exact List.prefix_refl _
  | cons x t ih =>
    have h1 : edL l ps <+: edL l (ps ++ [x]) := by rw [edL_snoc]; exact List.prefix_append _ _
    have h2 := ih (ps := ps ++ [x])
    rw [List.append_assoc] at h2
    exact h1.trans h2
theorem edL_len (l : List Int) (ps : List Nat) : (edL l ps).length = ps.length + 1 := by simp [edL]
theorem edL_get (l : List Int) (ps : List Nat) (i : Nat) (h : i ≤ ps.length) : (edL l ps)[i]? = some (stE l (ps.take i)) := by
  unfold edL
  rw [List.getElem?_map, List.getElem?_range (by omega)]
  rfl
theorem EE_len (l : List Int) : (EE l).length = (spots l 0).length + 1 := edL_len _ _
theorem edL_last (l : List Int) (ps : List Nat) : (edL l ps).getLast? = some (stE l ps) := by
  rw [List.getLast?_eq_getElem?, edL_len, Nat.add_sub_cancel, edL_get _ _ _ (Nat.le_refl _), List.take_length]

theorem value_rn {l : List Int} (h : whole l = true) (hl : ∀ x ∈ l, 0 ≤ x ∧ x ≤ 255) : isRune (value l) = true := by
  cases hr : isRune (value l) with
  | true => rfl
  | false =>
    have h1 := value_enc (value l)
    rw [enc_value h hl, hr] at h1
    rw [h1] at hr
    exact absurd hr (by simp; decide)
theorem first_rn {l : List Int} (hl : ∀ x ∈ l, 0 ≤ x ∧ x ≤ 255) (h0 : 0 < l.length) : isRune (first l).1 = true := by
  match l with
  | [] => cases h0
  | a :: r =>
    simp only [first]
    split
    · rename_i hw
      exact value_rn hw (fun x hx => hl x (List.mem_of_mem_take hx))
    · decide
theorem rn_step {l : List Int} (hl : ∀ x ∈ l, 0 ≤ x ∧ x ≤ 255) {p : Nat} (hp : p < l.length) : isRune (first (l.drop p)).1 = true :=
  first_rn (fun x hx => hl x (List.mem_of_mem_drop hx)) (by simp; omega)
theorem ulen_pos {r : Int} (h : isRune r = true) : 1 ≤ (ulen r).toNat ∧ (ulen r).toNat ≤ 2 := by
  unfold ulen
  rw [if_pos h]
  split <;> decide

/-- where a beginning of the steps leads to -/
theorem st_walk {l : List Int} (hl : ∀ x ∈ l, 0 ≤ x ∧ x ≤ 255) : ∀ (pre : List Nat) (p : Nat) (e : Ed), p ≤ l.length → pre <+: spots l p →
    ∃ q, p ≤ q ∧ q ≤ l.length ∧ spots l p = pre ++ spots l q ∧ (pre.foldl (nxE l) e).1 + p = e.1 + q ∧ (pre.foldl (nxE l) e).2.1 = e.2.1 + pre.length ∧
      e.2.2 + pre.length ≤ (pre.foldl (nxE l) e).2.2 ∧ (pre.foldl (nxE l) e).2.2 ≤ e.2.2 + 2 * pre.length ∧ p + pre.length ≤ q
  | [], p, e, hp, _ => ⟨p, Nat.le_refl _, hp, rfl, rfl, rfl, by simp, by simp, by simp⟩
  | x :: t, p, e, hp, h => by
    by_cases hlt : p < l.length
    · rw [spots_cons hlt] at h ⊢
      obtain ⟨rfl, ht⟩ := List.cons_prefix_cons.1 h
      have h1 := wid_pos hlt
      obtain ⟨q, a1, a2, a3, a4, a5, a6, a7, a8⟩ := st_walk hl t (x + wid (l.drop x)) (nxE l e x) (wid_len hlt) ht
      obtain ⟨u1, u2⟩ := ulen_pos (rn_step hl hlt)
      refine ⟨q, by omega, a2, by rw [a3]; rfl, ?_, ?_, ?_, ?_, ?_⟩
      · rw [List.foldl_cons]; simp only [nxE] at a4 ⊢; omega
      · rw [List.foldl_cons, a5]; simp only [nxE, List.length_cons]; omega
      · rw [List.foldl_cons]; simp only [nxE, List.length_cons] at a6 ⊢; omega
      · rw [List.foldl_cons]; simp only [nxE, List.length_cons] at a7 ⊢; omega
      · simp only [List.length_cons]; omega
    · rw [spots_end hlt] at h
      exact absurd (List.prefix_nil.1 h) (by simp)
theorem st_at {l : List Int} (hl : ∀ x ∈ l, 0 ≤ x ∧ x ≤ 255) {pre : List Nat} (h : pre <+: spots l 0) :
    (stE l pre).1 ≤ l.length ∧ spots l 0 = pre ++ spots l (stE l pre).1 ∧ (stE l pre).2.1 = pre.length ∧ (stE l pre).2.2 ≤ 2 * pre.length ∧ pre.length ≤ l.length := by
  obtain ⟨q, _, a2, a3, a4, a5, _, a7, a8⟩ := st_walk hl pre 0 e0 (Nat.zero_le _) h
  have : (stE l pre).1 = q := by simpa [stE, e0] using a4
  rw [this]
  exact ⟨a2, a3, by simpa [stE, e0] using a5, by simpa [stE, e0] using a7, by omega⟩
theorem st_next {l : List Int} (hl : ∀ x ∈ l, 0 ≤ x ∧ x ≤ 255) {pre : List Nat} {x : Nat} (h : pre ++ [x] <+: spots l 0) : x = (stE l pre).1 ∧ x < l.length := by
  have h1 : pre <+: spots l 0 := (List.prefix_append pre [x]).trans h
  obtain ⟨a1, a2, _⟩ := st_at hl h1
  by_cases hq : (stE l pre).1 < l.length
  · rw [a2, spots_cons hq] at h
    have := (List.prefix_append_right_inj pre).1 h
    obtain ⟨rfl, _⟩ := List.cons_prefix_cons.1 this
    exact ⟨rfl, hq⟩
  · rw [a2, spots_end hq, List.append_nil] at h
    have := h.length_le
    simp only [List.length_append, List.length_singleton] at this
    omega
theorem st_full {l : List Int} (hl : ∀ x ∈ l, 0 ≤ x ∧ x ≤ 255) : (stE l (spots l 0)).1 = l.length := by
  obtain ⟨a1, a2, _⟩ := st_at hl (List.prefix_refl (spots l 0))
  rcases Nat.lt_or_ge (stE l (spots l 0)).1 l.length with h | h
  · rw [spots_cons h] at a2
    have := congrArg List.length a2
    simp at this
  · omega
theorem by_next {l : List Int} (hl : ∀ x ∈ l, 0 ≤ x ∧ x ≤ 255) (r : Int) (e : Ed) {x : Nat} (h : x < l.length) : byE r e < byE r (nxE l e x) := by
  have := wid_pos h
  obtain ⟨u1, _⟩ := ulen_pos (rn_step hl h)
  unfold byE nxE
  split
  · simp; omega
  · split <;> simp <;> omega
theorem by_e0 (r : Int) : byE r e0 = 0 := by
  unfold byE e0
  split
  · rfl
  · split <;> rfl

end Go.Proofs.YtkdnanlgkedjgabDoor
end

section
namespace Go.Proofs.YtkdnanlgkedjgabDoor

def ixE (r place : Int) (E : List Ed) : Nat := E.findIdx (fun e => decide (place ≤ (byE r e : Int)))
def upE (r place : Int) (E : List Ed) : Ed := E.getD (ixE r place E) e0
def dnI (r place : Int) (E : List Ed) : Nat := if (byE r (upE r place E) : Int) = place then ixE r place E else ixE r place E - 1
def dnE (r place : Int) (E : List Ed) : Ed := E.getD (dnI r place E) e0
/-- is it a place of the ruler? -/
def isPl (r place : Int) (E : List Ed) : Bool := decide (0 ≤ place ∧ ixE r place E < E.length)
def selI (r place m : Int) (E : List Ed) : Nat := if m = 2 then ixE r place E else dnI r place E
/-- find's answer: the error -/
def fdR (r place m : Int) (E : List Ed) : Int := if isPl r place E then (if (byE r (upE r place E) : Int) = place ∨ m = 1 ∨ m = 2 then 0 else 4) else 2
def fdE (r place m : Int) (E : List Ed) : Ed := if fdR r place m E = 0 then E.getD (selI r place m E) e0 else e0

/-- edges rise -/
def Inc (r : Int) (E : List Ed) : Prop := E.getD 0 e0 = e0 ∧ 0 < E.length ∧ ∀ i j, i < j → j < E.length → byE r (E.getD i e0) < byE r (E.getD j e0)
theorem edL_getD (l : List Int) (ps : List Nat) (i : Nat) (h : i ≤ ps.length) : (edL l ps).getD i e0 = stE l (ps.take i) := by
  rw [List.getD, edL_get l ps i h]; rfl
theorem inc_EE {l : List Int} (hl : ∀ x ∈ l, 0 ≤ x ∧ x ≤ 255) (r : Int) : Inc r (EE l) := by
  refine ⟨by unfold EE; rw [edL_getD _ _ _ (Nat.zero_le _)]; rfl, by rw [EE_len]; omega, ?_⟩
  have one : ∀ i, i + 1 < (EE l).length → byE r ((EE l).getD i e0) < byE r ((EE l).getD (i + 1) e0) := by
    intro i hi
    rw [EE_len] at hi
    unfold EE
    rw [edL_getD _ _ _ (by omega), edL_getD _ _ _ (by omega)]
    have ht : (spots l 0).take (i + 1) = (spots l 0).take i ++ [(spots l 0).getD i 0] := by
      rw [List.take_add_one, List.getElem?_eq_getElem (by omega), List.getD, List.getElem?_eq_getElem (by omega)]; rfl
    have hp : (spots l 0).take i ++ [(spots l 0).getD i 0] <+: spots l 0 := by rw [← ht]; exact List.take_prefix _ _
    rw [ht, stE_snoc]
    exact by_next hl r _ (st_next hl hp).2
  intro i j hij
  induction j with
  | zero => omega
  | succ j ih =>
    intro hj
    rcases Nat.lt_or_ge i j with h | h
    · exact Nat.lt_trans (ih h (by omega)) (one j hj)
    · obtain rfl : i = j := by omega
      exact one i hj
theorem Inc.le {r : Int} {E : List Ed} (h : Inc r E) {i j : Nat} (hij : i ≤ j) (hj : j < E.length) : byE r (E.getD i e0) ≤ byE r (E.getD j e0) := by
  rcases Nat.lt_or_ge i j with h1 | h1
  · exact Nat.le_of_lt (h.2.2 i j h1 hj)
  · obtain rfl : i = j := by omega
    exact Nat.le_refl _
theorem Inc.inj {r : Int} {E : List Ed} (h : Inc r E) {i j : Nat} (hi : i < E.length) (hj : j < E.length) (he : byE r (E.getD i e0) = byE r (E.getD j e0)) : i = j := by
  rcases Nat.lt_trichotomy i j with h1 | h1 | h1
  · have := h.2.2 i j h1 hj; omega
  · exact h1
  · have := h.2.2 j i h1 hi; omega
theorem ix_lt {r place : Int} {E : List Ed} {j : Nat} (h : j < ixE r place E) : (byE r (E.getD j e0) : Int) < place := by
  have hl : j < E.length := Nat.lt_of_lt_of_le h List.findIdx_le_length
  have := List.not_of_lt_findIdx h
  rw [List.getD, List.getElem?_eq_getElem hl]
  simpa using this
theorem ix_ge {r place : Int} {E : List Ed} (h : ixE r place E < E.length) : place ≤ (byE r (upE r place E) : Int) := by
  have h2 := of_decide_eq_true (List.findIdx_getElem (xs := E) (p := fun e => decide (place ≤ (byE r e : Int))) (w := h))
  unfold upE
  rw [List.getD, List.getElem?_eq_getElem h]
  exact h2
/-- what the index is -/
theorem ix_is {r place : Int} {E : List Ed} {k : Nat} (hk : k ≤ E.length) (h1 : ∀ j, j < k → (byE r (E.getD j e0) : Int) < place) (h2 : k < E.length → place ≤ (byE r (E.getD k e0) : Int)) : ixE r place E = k := by
  rcases Nat.lt_trichotomy (ixE r place E) k with h | h | h
  · have a := ix_ge (r := r) (place := place) (E := E) (by omega)
    have b := h1 _ h
    unfold upE at a
    omega
  · exact h
  · have hl : k < E.length := Nat.lt_of_lt_of_le h List.findIdx_le_length
    have a := ix_lt h
    have b := h2 hl
    omega
theorem dn_lt {r place : Int} {E : List Ed} (hE : Inc r E) (hp : isPl r place E = true) : dnI r place E < E.length ∧ (byE r (dnE r place E) : Int) ≤ place ∧ (dnI r place E = ixE r place E ∨ dnI r place E + 1 = ixE r place E ∧ (byE r (dnE r place E) : Int) < place) := by
  obtain ⟨h0, hx⟩ := of_decide_eq_true hp
  have hge := ix_ge hx
  unfold dnE
  by_cases he : (byE r (upE r place E) : Int) = place
  · have : dnI r place E = ixE r place E := if_pos he
    rw [this]
    exact ⟨hx, by unfold upE at he; omega, Or.inl rfl⟩
  · have h1 : dnI r place E = ixE r place E - 1 := if_neg he
    have h2 : 0 < ixE r place E := by
      rcases Nat.eq_zero_or_pos (ixE r place E) with h | h
      · exfalso
        apply he
        unfold upE at hge ⊢
        rw [h, hE.1, by_e0] at hge ⊢
        omega
      · exact h
    have := ix_lt (r := r) (place := place) (E := E) (j := ixE r place E - 1) (by omega)
    rw [h1]
    exact ⟨by omega, by omega, Or.inr ⟨by omega, this⟩⟩
/-- down and up are one edge just where the place is an edge -/
theorem dn_up {r place : Int} {E : List Ed} (hE : Inc r E) (hp : isPl r place E = true) : dnE r place E = upE r place E ↔ (byE r (upE r place E) : Int) = place := by
  obtain ⟨h0, hx⟩ := of_decide_eq_true hp
  constructor
  · intro h
    have hd := dn_lt hE hp
    have hge := ix_ge hx
    rw [h] at hd
    omega
  · intro h
    unfold dnE upE dnI
    rw [if_pos h]
theorem isPl_iff {r place : Int} {E : List Ed} (hE : Inc r E) : isPl r place E = true ↔ 0 ≤ place ∧ place ≤ (byE r (E.getD (E.length - 1) e0) : Int) := by
  unfold isPl
  rw [decide_eq_true_iff]
  constructor
  · rintro ⟨h0, hx⟩
    have hge := ix_ge hx
    have := hE.le (i := ixE r place E) (j := E.length - 1) (by omega) (by omega)
    unfold upE at hge
    exact ⟨h0, by omega⟩
  · rintro ⟨h0, h1⟩
    refine ⟨h0, ?_⟩
    rcases Nat.lt_or_ge (ixE r place E) E.length with h | h
    · exact h
    · have hE2 := hE.2.1
      have := ix_lt (r := r) (place := place) (E := E) (j := E.length - 1) (by omega)
      omega
/-- indices rise with places -/
theorem ix_mono {r p q : Int} {E : List Ed} (h : p ≤ q) : ixE r p E ≤ ixE r q E := by
  rcases Nat.lt_or_ge (ixE r q E) (ixE r p E) with h1 | h1
  · have h2 := ix_lt h1
    have hl : ixE r q E < E.length := Nat.lt_of_lt_of_le h1 List.findIdx_le_length
    have h3 := ix_ge hl
    unfold upE at h3
    omega
  · exact h1
theorem dn_mono {r p q : Int} {E : List Ed} (hE : Inc r E) (h : p ≤ q) (hp : isPl r p E = true) (hq : isPl r q E = true) : dnI r p E ≤ dnI r q E := by
  have hm := ix_mono (r := r) (E := E) h
  obtain ⟨a1, a2, a3⟩ := dn_lt hE hp
  obtain ⟨b1, b2, b3⟩ := dn_lt hE hq
  rcases Nat.lt_or_ge (dnI r q E) (dnI r p E) with h1 | h1
  · have h2 : dnI r q E + 1 = ixE r q E ∧ dnI r p E = ixE r p E ∧ ixE r p E = ixE r q E := by omega
    obtain ⟨_, hxq⟩ := of_decide_eq_true hq
    have h3 := ix_ge hxq
    unfold dnE at a2
    rw [h2.2.1, h2.2.2] at a2
    unfold upE at h3
    have : (byE r (upE r q E) : Int) = q := by unfold upE; omega
    have h4 : dnI r q E = ixE r q E := if_pos this
    omega
  · exact h1
theorem selI_lt {r place m : Int} {E : List Ed} (hE : Inc r E) (hp : isPl r place E = true) : selI r place m E < E.length := by
  unfold selI
  split
  · exact (of_decide_eq_true hp).2
  · exact (dn_lt hE hp).1
theorem sel_mono {r m p q : Int} {E : List Ed} (hE : Inc r E) (h : p ≤ q) (hp : isPl r p E = true) (hq : isPl r q E = true) : selI r p m E ≤ selI r q m E := by
  unfold selI
  split
  · exact ix_mono h
  · exact dn_mono hE h hp hq
theorem fdR_ok {r place m : Int} {E : List Ed} (h : fdR r place m E = 0) : isPl r place E = true ∧ ((byE r (upE r place E) : Int) = place ∨ m = 1 ∨ m = 2) := by
  unfold fdR at h
  split at h
  · rename_i hp
    split at h
    · rename_i hc; exact ⟨hp, hc⟩
    · omega
  · omega

end Go.Proofs.YtkdnanlgkedjgabDoor
end
