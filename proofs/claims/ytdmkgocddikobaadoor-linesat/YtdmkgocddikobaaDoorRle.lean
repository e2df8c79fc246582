/- The edges of bytes as a plain list: by bytes, by runes and by units; places between them. -/
import Derived.Test.YtdmkgocddikobaaDoorUni
import Derived.Test.YtdmkgocddikobaaDoorVld
namespace Go.Proofs.YtdmkgocddikobaaDoor

/-- an edge, by the three rulers -/
abbrev Ed : Type := Nat × Nat × Nat
def e0 : Ed := (0, 0, 0)
def nxE (l : List Int) (e : Ed) (p : Nat) : Ed := (e.1 + wid (l.drop p), e.2.1 + 1, e.2.2 + (ulen (first (l.drop p)).1).toNat)
def stE (l : List Int) (ps : List Nat) : Ed := ps.foldl (nxE l) e0
def edL (l : List Int) (ps : List Nat) : List Ed := (List.range (ps.length + 1)).map fun i => stE l (ps.take i)
def EE (l : List Int) : List Ed := edL l (spots l 0)
def byE (r : Int) (e : Ed) : Nat := if r = 1 then e.1 else if r = 2 then e.2.1 else e.2.2

theorem stE_snoc (l : List Int) (ps : List Nat) (p : Nat) : stE l (ps ++ [p]) = nxE l (stE l ps) p := by simp [stE]
theorem edL_nil (l : List Int) : edL l [] = [e0] := rfl
theorem edL_snoc (l : List Int) (ps : List Nat) (p : Nat) : edL l (ps ++ [p]) = edL l ps ++ [stE l (ps ++ [p])] := by
  unfold edL
  rw [List.length_append, List.length_singleton, List.range_succ, List.map_append, List.map_singleton]
  congr 1
  · refine List.map_congr_left fun i hi => ?_
    have := List.mem_range.1 hi
    rw [List.take_append_of_le_length (by omega)]
  · rw [List.take_of_length_le (by simp)]
theorem edL_pre {l : List Int} {ps qs : List Nat} (h : ps <+: qs) : edL l ps <+: edL l qs := by
  obtain ⟨t, rfl⟩ := h
  induction t generalizing ps with
  | nil => rw [List.append_nil]; exact List.prefix_refl _
  | cons x t ih =>
    have h1 : edL l ps <+: edL l (ps ++ [x]) := by rw [edL_snoc]; exact List.prefix_append _ _
    have h2 := ih (ps := ps ++ [x])
    rw [List.append_assoc] at h2
    exact h1.trans h2
theorem edL_len (l : List Int) (ps : List Nat) : (edL l ps).length = ps.length + 1 := by simp [edL]
theorem edL_get (l : List Int) (ps : List Nat) (i : Nat) (h : i ≤ ps.length) : (edL l ps)[i]? = some (stE l (ps.take i)) := by
  unfold edL
  rw [List.getElem?_map, List.getElem?_range (by omega)]
  rfl
theorem EE_len (l : List Int) : (EE l).length = (spots l 0).length + 1 := edL_len _ _
theorem edL_last (l : List Int) (ps : List Nat) : (edL l ps).getLast? = some (stE l ps) := by
  rw [List.getLast?_eq_getElem?, edL_len, Nat.add_sub_cancel, edL_get _ _ _ (Nat.le_refl _), List.take_length]

theorem value_rn {l : List Int} (h : whole l = true) (hl : ∀ x ∈ l, 0 ≤ x ∧ x ≤ 255) : isRune (value l) = true := by
  cases hr : isRune (value l) with
  | true => rfl
  | false =>
    have h1 := value_enc (value l)
    rw [enc_value h hl, hr] at h1
    rw [h1] at hr
    exact absurd hr (by simp; decide)
theorem first_rn {l : List Int} (hl : ∀ x ∈ l, 0 ≤ x ∧ x ≤ 255) (h0 : 0 < l.length) : isRune (first l).1 = true := by
  match l with
  | [] => cases h0
  | a :: r =>
    simp only [first]
    split
    · rename_i hw
      exact value_rn hw (fun x hx => hl x (List.mem_of_mem_take hx))
    · decide
theorem rn_step {l : List Int} (hl : ∀ x ∈ l, 0 ≤ x ∧ x ≤ 255) {p : Nat} (hp : p < l.length) : isRune (first (l.drop p)).1 = true :=
  first_rn (fun x hx => hl x (List.mem_of_mem_drop hx)) (by simp; omega)
theorem ulen_pos {r : Int} (h : isRune r = true) : 1 ≤ (ulen r).toNat ∧ (ulen r).toNat ≤ 2 := by
  unfold ulen
  rw [if_pos h]
  split <;> decide

/-- where a beginning of the steps leads to -/
theorem st_walk {l : List Int} (hl : ∀ x ∈ l, 0 ≤ x ∧ x ≤ 255) : ∀ (pre : List Nat) (p : Nat) (e : Ed), p ≤ l.length → pre <+: spots l p →
    ∃ q, p ≤ q ∧ q ≤ l.length ∧ spots l p = pre ++ spots l q ∧ (pre.foldl (nxE l) e).1 + p = e.1 + q ∧ (pre.foldl (nxE l) e).2.1 = e.2.1 + pre.length ∧
      e.2.2 + pre.length ≤ (pre.foldl (nxE l) e).2.2 ∧ (pre.foldl (nxE l) e).2.2 ≤ e.2.2 + 2 * pre.length ∧ p + pre.length ≤ q
  | [], p, e, hp, _ => ⟨p, Nat.le_refl _, hp, rfl, rfl, rfl, by simp, by simp, by simp⟩
  | x :: t, p, e, hp, h => by
    by_cases hlt : p < l.length
    · rw [spots_cons hlt] at h ⊢
      obtain ⟨rfl, ht⟩ := List.cons_prefix_cons.1 h
      have h1 := wid_pos hlt
      obtain ⟨q, a1, a2, a3, a4, a5, a6, a7, a8⟩ := st_walk hl t (x + wid (l.drop x)) (nxE l e x) (wid_len hlt) ht
      obtain ⟨u1, u2⟩ := ulen_pos (rn_step hl hlt)
      refine ⟨q, by omega, a2, by rw [a3]; rfl, ?_, ?_, ?_, ?_, ?_⟩
      · rw [List.foldl_cons]; simp only [nxE] at a4 ⊢; omega
      · rw [List.foldl_cons, a5]; simp only [nxE, List.length_cons]; omega
      · rw [List.foldl_cons]; simp only [nxE, List.length_cons] at a6 ⊢; omega
      · rw [List.foldl_cons]; simp only [nxE, List.length_cons] at a7 ⊢; omega
      · simp only [List.length_cons]; omega
    · rw [spots_end hlt] at h
      exact absurd (List.prefix_nil.1 h) (by simp)
theorem st_at {l : List Int} (hl : ∀ x ∈ l, 0 ≤ x ∧ x ≤ 255) {pre : List Nat} (h : pre <+: spots l 0) :
    (stE l pre).1 ≤ l.length ∧ spots l 0 = pre ++ spots l (stE l pre).1 ∧ (stE l pre).2.1 = pre.length ∧ (stE l pre).2.2 ≤ 2 * pre.length ∧ pre.length ≤ l.length := by
  obtain ⟨q, _, a2, a3, a4, a5, _, a7, a8⟩ := st_walk hl pre 0 e0 (Nat.zero_le _) h
  have : (stE l pre).1 = q := by simpa [stE, e0] using a4
  rw [this]
  exact ⟨a2, a3, by simpa [stE, e0] using a5, by simpa [stE, e0] using a7, by omega⟩
theorem st_next {l : List Int} (hl : ∀ x ∈ l, 0 ≤ x ∧ x ≤ 255) {pre : List Nat} {x : Nat} (h : pre ++ [x] <+: spots l 0) : x = (stE l pre).1 ∧ x < l.length := by
  have h1 : pre <+: spots l 0 := (List.prefix_append pre [x]).trans h
  obtain ⟨a1, a2, _⟩ := st_at hl h1
  by_cases hq : (stE l pre).1 < l.length
  · rw [a2, spots_cons hq] at h
    have := (List.prefix_append_right_inj pre).1 h
    obtain ⟨rfl, _⟩ := List.cons_prefix_cons.1 this
    exact ⟨rfl, hq⟩
  · rw [a2, spots_end hq, List.append_nil] at h
    have := h.length_le
    simp only [List.length_append, List.length_singleton] at this
    omega
theorem st_full {l : List Int} (hl : ∀ x ∈ l, 0 ≤ x ∧ x ≤ 255) : (stE l (spots l 0)).1 = l.length := by
  obtain ⟨a1, a2, _⟩ := st_at hl (List.prefix_refl (spots l 0))
  rcases Nat.lt_or_ge (stE l (spots l 0)).1 l.length with h | h
  · rw [spots_cons h] at a2
    have := congrArg List.length a2
    simp at this
  · omega
theorem by_next {l : List Int} (hl : ∀ x ∈ l, 0 ≤ x ∧ x ≤ 255) (r : Int) (e : Ed) {x : Nat} (h : x < l.length) : byE r e < byE r (nxE l e x) := by
  have := wid_pos h
  obtain ⟨u1, _⟩ := ulen_pos (rn_step hl h)
  unfold byE nxE
  split
  · simp; omega
  · split <;> simp <;> omega
theorem by_e0 (r : Int) : byE r e0 = 0 := by
  unfold byE e0
  split
  · rfl
  · split <;> rfl

end Go.Proofs.YtdmkgocddikobaaDoor
