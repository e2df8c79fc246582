/- Layer 7, plain: the lines of a text as a list: number, where it begins, where its content ends, where the next one begins. -/
import Derived.Test.YtkdnanlgkedjgabDoorDn16

namespace Go.Proofs.YtkdnanlgkedjgabDoor
open Go.ChangeShapes Go.WideShapes Go.ChangeAt Go.RowKit

abbrev Ln := Nat × Nat × Nat × Nat
def z4 : Ln := (0, 0, 0, 0)
def isNl (c : Int) : Bool := c == 13 || c == 10
/-- where the content of the line that begins at s ends -/
def ctn (l : List Int) (s : Nat) : Nat := s + (l.drop s).findIdx isNl
def edw (m : List Int) : Nat := if m.getD 0 0 = 13 ∧ m.getD 1 0 = 10 then 2 else 1
def nxt (l : List Int) (c : Nat) : Nat := c + edw (l.drop c)
def lnA (l : List Int) : Nat → Nat → Nat → List Ln
  | 0, k, s => [(k, s, l.length, l.length)]
  | f + 1, k, s => if ctn l s < l.length then (k, s, ctn l s, nxt l (ctn l s)) :: lnA l f (k + 1) (nxt l (ctn l s)) else [(k, s, l.length, l.length)]
def lnR (l : List Int) (k s : Nat) : List Ln := lnA l (l.length - s) k s
def LN (l : List Int) : List Ln := lnR l 0 0
theorem edw_pos (m : List Int) : 1 ≤ edw m ∧ edw m ≤ 2 := by unfold edw; split <;> omega
theorem ctn_le (l : List Int) (s : Nat) : s ≤ ctn l s := Nat.le_add_right _ _
theorem ctn_len {l : List Int} {s : Nat} (h : s ≤ l.length) : ctn l s ≤ l.length := by
  have := List.findIdx_le_length (p := isNl) (xs := l.drop s)
  simp at this
  unfold ctn
  omega
theorem ctn_nl {l : List Int} {s : Nat} (h : ctn l s < l.length) : isNl (l.getD (ctn l s) 0) = true := by
  have hs := ctn_le l s
  have h1 : (l.drop s).findIdx isNl < (l.drop s).length := by unfold ctn at h; simp; omega
  have h2 := List.findIdx_getElem (w := h1)
  unfold ctn
  rw [← getD_drop', List.getD_eq_getElem?_getD, List.getElem?_eq_getElem h1]
  exact h2
theorem ctn_no {l : List Int} {s j : Nat} (h1 : s ≤ j) (h2 : j < ctn l s) (h3 : s ≤ l.length) : isNl (l.getD j 0) = false := by
  have hl := ctn_len h3
  have h4 : j - s < (l.drop s).findIdx isNl := by unfold ctn at h2; omega
  have h5 := List.not_of_lt_findIdx h4
  have h6 : j - s < (l.drop s).length := by simp; omega
  have h7 : l.getD j 0 = (l.drop s)[j - s] := by
    have := getD_drop' l s (j - s)
    rw [show s + (j - s) = j by omega] at this
    rw [← this, List.getD_eq_getElem?_getD, List.getElem?_eq_getElem h6]
    rfl
  rw [h7]
  exact h5
theorem nxt_len {l : List Int} {c : Nat} (h : c < l.length) : nxt l c ≤ l.length := by
  unfold nxt edw
  split
  · rename_i h1
    have h2 := h1.2
    rw [getD_drop'] at h2
    rcases Nat.lt_or_ge (c + 1) l.length with h3 | h3
    · omega
    · rw [List.getD_eq_getElem?_getD, List.getElem?_eq_none h3] at h2
      simp at h2
  · omega
theorem nxt_gt (l : List Int) (c : Nat) : c < nxt l c := by have := (edw_pos (l.drop c)).1; unfold nxt; omega
theorem lnA_fuel (l : List Int) : ∀ (f f' k s : Nat), l.length - s ≤ f → l.length - s ≤ f' → s ≤ l.length → lnA l f k s = lnA l f' k s
  | 0, 0, _, _, _, _, _ => rfl
  | 0, f' + 1, k, s, h, _, h3 => by
    have : ¬ ctn l s < l.length := by have := ctn_le l s; omega
    simp [lnA, this]
  | f + 1, 0, k, s, _, h, h3 => by
    have : ¬ ctn l s < l.length := by have := ctn_le l s; omega
    simp [lnA, this]
  | f + 1, f' + 1, k, s, h1, h2, h3 => by
    unfold lnA
    by_cases h : ctn l s < l.length
    · have g1 := ctn_le l s
      have g2 := nxt_gt l (ctn l s)
      rw [if_pos h, if_pos h, lnA_fuel l f f' (k + 1) (nxt l (ctn l s)) (by omega) (by omega) (nxt_len h)]
    · rw [if_neg h, if_neg h]
theorem lnR_cons {l : List Int} {k s : Nat} (h : ctn l s < l.length) : lnR l k s = (k, s, ctn l s, nxt l (ctn l s)) :: lnR l (k + 1) (nxt l (ctn l s)) := by
  have g1 := ctn_le l s
  have g2 := nxt_gt l (ctn l s)
  unfold lnR
  rw [show l.length - s = (l.length - s - 1) + 1 by omega]
  conv => lhs; unfold lnA
  rw [if_pos h, lnA_fuel l (l.length - s - 1) (l.length - nxt l (ctn l s)) (k + 1) _ (by omega) (by omega) (nxt_len h)]
theorem lnR_last {l : List Int} {k s : Nat} (h : ¬ ctn l s < l.length) : lnR l k s = [(k, s, l.length, l.length)] := by
  unfold lnR
  cases l.length - s with
  | zero => rfl
  | succ f => unfold lnA; rw [if_neg h]

/-- what holds of line i of n, and of the next one -/
structure LnF (l : List Int) (n i : Nat) (e e' : Ln) : Prop where
  sc : e.2.1 ≤ e.2.2.1
  cn : e.2.2.1 ≤ e.2.2.2
  nl : e.2.2.2 ≤ l.length
  es : inside l e.2.1 = false
  ec : inside l e.2.2.1 = false
  en : inside l e.2.2.2 = false
  no : ∀ j, e.2.1 ≤ j → j < e.2.2.1 → isNl (l.getD j 0) = false
  mid : i + 1 < n → isNl (l.getD e.2.2.1 0) = true ∧ e.2.2.1 < l.length ∧ e.2.2.2 = nxt l e.2.2.1 ∧ e'.2.1 = e.2.2.2
  fin : i + 1 = n → e.2.2.1 = l.length ∧ e.2.2.2 = l.length
theorem nl_val {c : Int} (h : isNl c = true) : c = 13 ∨ c = 10 := by
  unfold isNl at h
  simpa using h
theorem nl_edges {l : List Int} {c : Nat} (h : c < l.length) (hn : isNl (l.getD c 0) = true) : inside l c = false ∧ inside l (c + 1) = false ∧ inside l (nxt l c) = false := by
  have hv := nl_val hn
  obtain ⟨a1, a2⟩ := edge_ascii h (by omega) (by omega)
  refine ⟨a1, a2, ?_⟩
  have hl := nxt_len h
  unfold nxt edw at *
  split
  · rename_i h1
    rw [if_pos h1] at hl
    have h2 := h1.2
    rw [getD_drop'] at h2
    exact (edge_ascii (l := l) (p := c + 1) (by omega) (by omega) (by omega)).2
  · exact a2
theorem ln_get {l : List Int} : ∀ (f k s i : Nat), l.length - s ≤ f → s ≤ l.length → inside l s = false → i < (lnR l k s).length →
    ((lnR l k s).getD i z4).1 = k + i ∧ (i = 0 → ((lnR l k s).getD i z4).2.1 = s) ∧ LnF l (lnR l k s).length i ((lnR l k s).getD i z4) ((lnR l k s).getD (i + 1) z4)
  | 0, k, s, i, hf, hs, he, hi => by
    have hc : ¬ ctn l s < l.length := by have := ctn_le l s; omega
    rw [lnR_last hc] at hi ⊢
    obtain rfl : i = 0 := by simpa using hi
    exact ⟨rfl, fun _ => rfl, hs, Nat.le_refl _, Nat.le_refl _, he, edge_len l, edge_len l, fun j h1 h2 => ctn_no (s := s) h1 (by show j < ctn l s; have : j < l.length := h2; omega) hs, fun h => by simp at h, fun _ => ⟨rfl, rfl⟩⟩
  | f + 1, k, s, i, hf, hs, he, hi => by
    by_cases hc : ctn l s < l.length
    · have g1 := ctn_le l s
      have g2 := nxt_gt l (ctn l s)
      have g3 := nxt_len hc
      have g4 := ctn_nl hc
      obtain ⟨n1, n2, n3⟩ := nl_edges hc g4
      have ih := fun i => ln_get f (k + 1) (nxt l (ctn l s)) i (by omega) g3 n3
      rw [lnR_cons hc] at hi ⊢
      have hpos : 0 < (lnR l (k + 1) (nxt l (ctn l s))).length := by
        by_cases h : ctn l (nxt l (ctn l s)) < l.length
        · rw [lnR_cons h]; simp
        · rw [lnR_last h]; simp
      cases i with
      | zero =>
        have i0 := (ih 0 hpos).2.1 rfl
        refine ⟨rfl, fun _ => rfl, g1, Nat.le_of_lt g2, g3, he, n1, n3, fun j h1 h2 => ctn_no h1 h2 hs, fun _ => ⟨g4, hc, rfl, by simpa using i0⟩, fun h => ?_⟩
        rw [List.length_cons] at h
        omega
      | succ i =>
        obtain ⟨h1, h2, h3⟩ := ih i (by simpa using hi)
        simp only [List.getD_cons_succ, List.length_cons] at *
        exact ⟨by rw [h1]; omega, fun h => by omega, h3.sc, h3.cn, h3.nl, h3.es, h3.ec, h3.en, h3.no, fun h => h3.mid (by omega), fun h => h3.fin (by omega)⟩
    · rw [lnR_last hc] at hi ⊢
      obtain rfl : i = 0 := by simpa using hi
      have hcl := ctn_len hs
      exact ⟨rfl, fun _ => rfl, hs, Nat.le_refl _, Nat.le_refl _, he, edge_len l, edge_len l, fun j h1 h2 => ctn_no (s := s) h1 (by have : j < l.length := h2; omega) hs, fun h => by simp at h, fun _ => ⟨rfl, rfl⟩⟩
theorem LN_pos (l : List Int) : 0 < (LN l).length := by
  unfold LN
  by_cases h : ctn l 0 < l.length
  · rw [lnR_cons h]; simp
  · rw [lnR_last h]; simp
theorem LN_at (l : List Int) {i : Nat} (h : i < (LN l).length) : ((LN l).getD i z4).1 = i ∧ (i = 0 → ((LN l).getD i z4).2.1 = 0) ∧ LnF l (LN l).length i ((LN l).getD i z4) ((LN l).getD (i + 1) z4) := by
  have := ln_get l.length 0 0 i (by omega) (Nat.zero_le _) (edge_zero l) h
  rw [Nat.zero_add] at this
  exact this
theorem lnR_len {l : List Int} : ∀ (f k s : Nat), l.length - s ≤ f → s ≤ l.length → (lnR l k s).length + s ≤ l.length + 1
  | 0, k, s, hf, hs => by
    have hc : ¬ ctn l s < l.length := by have := ctn_le l s; omega
    rw [lnR_last hc]
    simp; omega
  | f + 1, k, s, hf, hs => by
    by_cases hc : ctn l s < l.length
    · have g1 := ctn_le l s
      have g2 := nxt_gt l (ctn l s)
      have := lnR_len f (k + 1) (nxt l (ctn l s)) (by omega) (nxt_len hc)
      rw [lnR_cons hc, List.length_cons]
      omega
    · rw [lnR_last hc]
      simp; omega
theorem LN_len (l : List Int) : (LN l).length ≤ l.length + 1 := lnR_len l.length 0 0 (by omega) (Nat.zero_le _)
def lst (e : Ln) : Nat := max e.2.2.1 (e.2.2.2 - 1)
theorem lst_edge {l : List Int} {i : Nat} (h : i < (LN l).length) : inside l (lst ((LN l).getD i z4)) = false ∧ ((LN l).getD i z4).2.1 ≤ lst ((LN l).getD i z4) ∧ lst ((LN l).getD i z4) ≤ l.length ∧ ((LN l).getD i z4).2.2.1 ≤ lst ((LN l).getD i z4) ∧ ((LN l).getD i z4).2.2.2 ≤ lst ((LN l).getD i z4) + 1 := by
  obtain ⟨_, _, h3⟩ := LN_at l h
  generalize (LN l).getD i z4 = e at *
  have a1 := h3.sc
  have a2 := h3.cn
  have a3 := h3.nl
  unfold lst
  refine ⟨?_, by omega, by omega, by omega, by omega⟩
  rcases Nat.lt_or_ge (i + 1) (LN l).length with hm | hm
  · obtain ⟨m1, m2, m3, _⟩ := h3.mid hm
    obtain ⟨n1, n2, n3⟩ := nl_edges m2 m1
    have he := edw_pos (l.drop e.2.2.1)
    unfold nxt at m3
    rcases Nat.lt_or_ge (edw (l.drop e.2.2.1)) 2 with h5 | h5
    · rw [show max e.2.2.1 (e.2.2.2 - 1) = e.2.2.1 by omega]; exact n1
    · rw [show max e.2.2.1 (e.2.2.2 - 1) = e.2.2.1 + 1 by omega]; exact n2
  · obtain ⟨f1, f2⟩ := h3.fin (by omega)
    rw [show max e.2.2.1 (e.2.2.2 - 1) = l.length by omega]
    exact edge_len l
/-- the line whose place p is -/
def lnOf (l : List Int) (p : Nat) : Ln := ((LN l).takeWhile (fun e => decide (e.2.1 ≤ p))).getLast?.getD z4
theorem lnOf_stop {l : List Int} {p : Nat} {pre : List Ln} {x : Ln} {suf : List Ln} (h : LN l = pre ++ x :: suf) (h1 : ∀ e ∈ pre, e.2.1 ≤ p) (h2 : ¬ x.2.1 ≤ p) : lnOf l p = pre.getLast?.getD z4 := by
  unfold lnOf
  rw [h, List.takeWhile_append_of_pos (by simpa using h1), List.takeWhile_cons_of_neg (by simpa using h2), List.append_nil]
theorem lnOf_all {l : List Int} {p : Nat} (h1 : ∀ e ∈ LN l, e.2.1 ≤ p) : lnOf l p = (LN l).getLast?.getD z4 := by
  unfold lnOf
  have : (LN l).takeWhile (fun e => decide (e.2.1 ≤ p)) = LN l := by
    have := List.takeWhile_append_of_pos (p := fun e : Ln => decide (e.2.1 ≤ p)) (l₁ := LN l) (l₂ := []) (by simpa using h1)
    simpa using this
  rw [this]
theorem split_le (p : Nat) : ∀ E : List Ln, (∀ e ∈ E, e.2.1 ≤ p) ∨ ∃ pre x suf, E = pre ++ x :: suf ∧ (∀ e ∈ pre, e.2.1 ≤ p) ∧ ¬ x.2.1 ≤ p
  | [] => Or.inl (by simp)
  | e :: t => by
    by_cases h : e.2.1 ≤ p
    · rcases split_le p t with h1 | ⟨pre, x, suf, h1, h2, h3⟩
      · exact Or.inl (fun y hy => (List.mem_cons.1 hy).elim (fun q => by rw [q]; exact h) (h1 y))
      · exact Or.inr ⟨e :: pre, x, suf, by rw [h1]; rfl, fun y hy => (List.mem_cons.1 hy).elim (fun q => by rw [q]; exact h) (h2 y), h3⟩
    · exact Or.inr ⟨[], e, t, rfl, by simp, h⟩
structure HoF (l : List Int) (p i : Nat) : Prop where
  lt : i < (LN l).length
  eq : lnOf l p = (LN l).getD i z4
  lo : (lnOf l p).2.1 ≤ p
  hi : p ≤ lst (lnOf l p)
  up : i + 1 < (LN l).length → p < ((LN l).getD (i + 1) z4).2.1
theorem getD_mem' {E : List Ln} {i : Nat} (h : i < E.length) : E.getD i z4 ∈ E := by
  rw [List.getD_eq_getElem?_getD, List.getElem?_eq_getElem h]
  exact List.getElem_mem h
theorem ho_of {l : List Int} {p : Nat} (hp : p ≤ l.length) : ∃ i, HoF l p i := by
  have key : ∀ i, i < (LN l).length → lnOf l p = (LN l).getD i z4 → ((LN l).getD i z4).2.1 ≤ p → (i + 1 < (LN l).length → p < ((LN l).getD (i + 1) z4).2.1) → HoF l p i := fun i h1 h2 h3 h4 => by
    refine ⟨h1, h2, by rw [h2]; exact h3, ?_, h4⟩
    obtain ⟨_, _, k3⟩ := LN_at l h1
    obtain ⟨e1, e2, e3, e4, e5⟩ := lst_edge h1
    rw [h2]
    rcases Nat.lt_or_ge (i + 1) (LN l).length with hm | hm
    · have m4 := (k3.mid hm).2.2.2
      have := h4 hm
      omega
    · have := (k3.fin (by omega)).1
      omega
  rcases split_le p (LN l) with h | ⟨pre, x, suf, h1, h2, h3⟩
  · have hl := LN_pos l
    refine ⟨(LN l).length - 1, key _ (by omega) ?_ (h _ (getD_mem' (by omega))) (fun h => by omega)⟩
    rw [lnOf_all h, List.getLast?_eq_getElem?, List.getD_eq_getElem?_getD]
  · have hne : pre ≠ [] := by
      rintro rfl
      have := (LN_at l (LN_pos l)).2.1 rfl
      rw [h1] at this
      simp at this
      omega
    have hp0 : 0 < pre.length := List.length_pos_iff.2 hne
    have hg : (LN l).getD (pre.length - 1) z4 = pre.getD (pre.length - 1) z4 := by
      rw [h1, List.getD_eq_getElem?_getD, List.getElem?_append_left (by omega), ← List.getD_eq_getElem?_getD]
    refine ⟨pre.length - 1, key _ (by rw [h1]; simp; omega) ?_ ?_ ?_⟩
    · rw [lnOf_stop h1 h2 h3, hg, List.getLast?_eq_getElem?, List.getD_eq_getElem?_getD]
    · rw [hg]; exact h2 _ (getD_mem' (by omega))
    · intro _
      rw [show pre.length - 1 + 1 = pre.length by omega, h1, List.getD_eq_getElem?_getD, List.getElem?_append_right (Nat.le_refl _)]
      simp
      omega
/-- line k, if there is one -/
def nbr (l : List Int) (k : Int) : Option Ln := if 0 ≤ k ∧ k < ((LN l).length : Int) then some ((LN l).getD k.toNat z4) else none
theorem pre_num {l : List Int} {pre : List Ln} {x : Ln} (h : pre ++ [x] <+: LN l) : x.1 = pre.length ∧ pre.length < (LN l).length ∧ x = (LN l).getD pre.length z4 := by
  obtain ⟨suf, h⟩ := h
  have hlt : pre.length < (LN l).length := by rw [← h]; simp
  have hg : (LN l).getD pre.length z4 = x := by rw [← h, List.getD_eq_getElem?_getD]; simp
  exact ⟨by rw [← hg]; exact (LN_at l hlt).1, hlt, hg.symm⟩

/-- At's answer: the error and the place -/
def cutL (l : List Int) (a b : Nat) : List Int := (l.take b).drop a
def atR (l : List Int) (line col r m : Int) : Int :=
  if isRu r && isRu m then (match nbr l line with
    | none => 2
    | some e => if col < 0 then 2 else if toR r col 1 m (EE (cutL l e.2.1 (lst e))) = 2 ∧ m ≠ 3 then 0 else toR r col 1 m (EE (cutL l e.2.1 (lst e)))) else 3
def atP (l : List Int) (line col r m : Int) : Nat :=
  if isRu r && isRu m then (match nbr l line with
    | none => 0
    | some e => if col < 0 then 0 else if toR r col 1 m (EE (cutL l e.2.1 (lst e))) = 2 ∧ m ≠ 3 then e.2.2.1 else if toR r col 1 m (EE (cutL l e.2.1 (lst e))) = 0 then e.2.1 + toP r col 1 m (EE (cutL l e.2.1 (lst e))) else 0) else 0
/-- Spot's column -/
def colE (l : List Int) (p : Nat) (r : Int) : Nat := szE r (cutL l (lnOf l p).2.1 p)

/-- LinesBack: At of an edge's Spot is the edge -/
theorem back_at {l : List Int} (hl : ∀ x ∈ l, 0 ≤ x ∧ x ≤ 255) {r m : Int} (hr : isRu r = true) (hm : isRu m = true) {p : Nat} (hp : p ≤ l.length) (he : inside l p = false) :
    atR l ((lnOf l p).1 : Int) (colE l p r : Int) r m = 0 ∧ atP l ((lnOf l p).1 : Int) (colE l p r : Int) r m = p := by
  obtain ⟨i, hi⟩ := ho_of hp
  obtain ⟨k1, _, k3⟩ := LN_at l hi.lt
  obtain ⟨e1, e2, e3, e4, e5⟩ := lst_edge hi.lt
  have hlo := hi.lo
  have hhi := hi.hi
  have hn : nbr l ((lnOf l p).1 : Int) = some (lnOf l p) := by
    rw [hi.eq, k1]
    unfold nbr
    rw [if_pos ⟨by omega, by have := hi.lt; omega⟩]
    simp
  have es := k3.es
  rw [← hi.eq] at e1 e2 e3 e4 e5 es
  have hml : ∀ x ∈ cutL l (lnOf l p).2.1 (lst (lnOf l p)), 0 ≤ x ∧ x ≤ 255 := fun x hx => hl x (List.mem_of_mem_take (List.mem_of_mem_drop hx))
  have hlen : (cutL l (lnOf l p).2.1 (lst (lnOf l p))).length = lst (lnOf l p) - (lnOf l p).2.1 := by unfold cutL; simp; omega
  have hin : inside (cutL l (lnOf l p).2.1 (lst (lnOf l p))) (p - (lnOf l p).2.1) = false := by
    unfold cutL
    rw [inside_cut es e1 e2 (by omega), show (lnOf l p).2.1 + (p - (lnOf l p).2.1) = p by omega]
    exact he
  have htk : (cutL l (lnOf l p).2.1 (lst (lnOf l p))).take (p - (lnOf l p).2.1) = cutL l (lnOf l p).2.1 p := by
    unfold cutL
    rw [List.take_drop, List.take_take, show min ((lnOf l p).2.1 + (p - (lnOf l p).2.1)) (lst (lnOf l p)) = p by omega]
  obtain ⟨t1, t2⟩ := to_edge hml hr hm (q := p - (lnOf l p).2.1) (by omega) hin
  rw [htk] at t1 t2
  have hcol : (szE r (cutL l (lnOf l p).2.1 p) : Int) = (colE l p r : Int) := rfl
  rw [hcol] at t1 t2
  have hc0 : ¬ (colE l p r : Int) < 0 := by omega
  unfold atR atP
  rw [hr, hm, hn]
  simp only [Bool.and_self, if_true]
  rw [if_neg hc0, if_neg hc0, t1, t2, if_neg (by omega), if_neg (by omega), if_pos rfl]
  exact ⟨rfl, by omega⟩

end Go.Proofs.YtkdnanlgkedjgabDoor
