/- Layer 13, plain: what takes a delta back, by its atoms. · Layer 13: checked and Of. -/
import Derived.Test.YtfllomlighlejaaMo31
import Derived.Test.YtfllomlighlejaaMo27
import Derived.Test.YtfllomlighlejaaMo29
import Derived.BigQuiet

section
namespace Go.Proofs.Ytfllomlighlejaa

theorem invA_k : ∀ (n : Nat) (xs : List Int) (u : List Atm), invA xs (List.replicate n .k ++ u) = List.replicate n .k ++ invA (xs.drop n) u
  | 0, xs, u => by simp
  | n + 1, xs, u => by
    rw [List.replicate_succ, List.cons_append, List.cons_append]
    simp only [invA]
    rw [invA_k n (xs.drop 1) u, List.drop_drop, Nat.add_comm 1 n]
theorem invA_d : ∀ (n : Nat) (xs : List Int) (u : List Atm), n ≤ xs.length → invA xs (List.replicate n .d ++ u) = (xs.take n).map .p ++ invA (xs.drop n) u
  | 0, xs, u, _ => by simp
  | n + 1, [], u, h => by simp at h
  | n + 1, x :: xs, u, h => by
    have := invA_d n xs u (by simpa using h)
    rw [List.replicate_succ, List.cons_append]
    simp only [invA, List.headD_cons, List.drop_succ_cons, List.drop_zero, this]
    simp
theorem invA_p : ∀ (t : List Int) (xs : List Int) (u : List Atm), invA xs (t.map .p ++ u) = List.replicate t.length .d ++ invA xs u
  | [], xs, u => by simp
  | x :: t, xs, u => by
    rw [List.map_cons, List.cons_append, List.length_cons, List.replicate_succ, List.cons_append]
    simp only [invA]
    rw [invA_p t xs u]
theorem ivD_app : ∀ (d : List Dop) (b : List Int) (out : List Dop), (∀ o ∈ d, Pln o) → frD d = b.length → dA (d.foldl stV (b, out)).2 = dA out ++ invA b (dA d)
  | [], b, out, _, _ => by simp [dA, invA]
  | o :: r, b, out, hp, h => by
    have e : frD (o :: r) = frN o + frD r := by simp [frD]
    rw [List.foldl_cons, dA_cons]
    rcases hp o (by simp) with ⟨h1 | h1, h2, h3⟩ | ⟨h1, h2, h3⟩
    · have ef : frN o = o.n.toNat := by simp [frN, h1]
      have eo : opA o = List.replicate o.n.toNat .k := by simp [opA, h1]
      rw [eo, invA_k, show stV (b, out) o = (b.drop o.n.toNat, out ++ [⟨1, o.n, []⟩]) by simp [stV, h1], ivD_app r _ _ (fun q hq => hp q (by simp [hq])) (by simp; omega), dA_app, List.append_assoc]
      congr 1
      rw [show dA [(⟨1, o.n, []⟩ : Dop)] = List.replicate o.n.toNat .k by simp [dA, opA]]
    · have ef : frN o = o.n.toNat := by simp [frN, h1]
      have eo : opA o = List.replicate o.n.toNat .d := by simp [opA, h1]
      rw [eo, invA_d _ _ _ (by omega), show stV (b, out) o = (b.drop o.n.toNat, out ++ [⟨2, 0, b.take o.n.toNat⟩]) by simp [stV, h1], ivD_app r _ _ (fun q hq => hp q (by simp [hq])) (by simp; omega), dA_app, List.append_assoc]
      congr 1
      rw [show dA [(⟨2, 0, b.take o.n.toNat⟩ : Dop)] = (b.take o.n.toNat).map .p by simp [dA, opA]]
    · have ef : frN o = 0 := by simp [frN, h1]
      have eo : opA o = o.t.map .p := by simp [opA, h1]
      rw [eo, invA_p, show stV (b, out) o = (b, out ++ [⟨3, (o.t.length : Int), []⟩]) by simp [stV, h1], ivD_app r _ _ (fun q hq => hp q (by simp [hq])) (by omega), dA_app, List.append_assoc]
      congr 1
      rw [show dA [(⟨3, (o.t.length : Int), []⟩ : Dop)] = List.replicate o.t.length .d by simp [dA, opA]]
theorem val_pln {d : List Dop} (hv : valB d = true) : ∀ o ∈ d, Pln o := fun o ho => by
  rcases valB_op hv ho with ⟨h1, h2, h3⟩ | ⟨h1, h2, h3⟩
  · exact .inl ⟨h1, h2, h3⟩
  · exact .inr ⟨h1, h2, h3⟩
theorem ivD_is {d : List Dop} {b : List Int} (hv : valB d = true) (hf : frD d = b.length) : dA (ivD b d) = invA b (dA d) := by
  have := ivD_app d b [] (val_pln hv) hf
  simpa [ivD, runV, dA] using this
/-- a delta's inverse: valid, of the text that it makes, and it takes back -/
structure InvD (b : List Int) (d : List Dop) : Prop where
  e : fitE d b.length = 0
  i : invD b d = canA (invA b (dA d))
  v : valB (invD b d) = true
  f : frD (invD b d) = toD d
  t : toD (invD b d) = b.length
  a : dA (invD b d) = nfA (invA b (dA d))
theorem inv_ok {b : List Int} {d : List Dop} (hv : valB d = true) (hf : frD d = b.length) : InvD b d := by
  have he := fit_zero hv hf
  have hi : invD b d = canA (invA b (dA d)) := by unfold invD; rw [if_pos he, ivD_is hv hf]
  have h1 := inv_fr (dA d) b
  have h2 := frA_dA (valB_k hv)
  have h3 := (valB_nn hv).2
  obtain ⟨v1, v2, v3, v4⟩ := canA_val (u := invA b (dA d)) (by omega) (by omega)
  exact ⟨he, hi, by rw [hi]; exact v1, by rw [hi]; omega, by rw [hi]; omega, by rw [hi]; exact v4⟩
theorem inv_back {b : List Int} {d : List Dop} (hv : valB d = true) (hf : frD d = b.length) : apD (apD b d) (invD b d) = b := by
  have h := inv_ok hv hf
  have h2 := frA_dA (valB_k hv)
  rw [apD_is h.v (h.f.trans (ap_len hv hf).symm), h.a, app_nf, apD_is hv hf, app_inv _ _ (by omega)]
theorem inv_again {b : List Int} {d : List Dop} (hv : valB d = true) (hf : frD d = b.length) (hc : canA (dA d) = d) : invD (apD b d) (invD b d) = d := by
  have h := inv_ok hv hf
  have h2 := frA_dA (valB_k hv)
  have h3 := inv_ok h.v (h.f.trans (ap_len hv hf).symm)
  rw [h3.i, h.a, apD_is hv hf]
  conv => rhs; rw [← hc]
  refine canA_congr ?_
  rw [inv_nf, inv_inv _ _ (by omega)]
/-- what the law wants both to be -/
def bkS (s : List Int × List Dop) (o : Dop) : List Int × List Dop := if o.k = 1 then (s.1.drop o.n.toNat, s.2 ++ [o]) else if o.k = 3 then (s.1.drop o.n.toNat, s.2 ++ [⟨2, 0, s.1.take o.n.toNat⟩, o]) else s
def runB (b : List Int) (d : List Dop) : List Int × List Dop := d.foldl bkS (b, [])
theorem runB_take (b : List Int) (d : List Dop) {k : Nat} (hk : k < d.length) : runB b (d.take (k + 1)) = bkS (runB b (d.take k)) (d.getD k opZ) := by
  unfold runB
  rw [List.take_add_one, List.foldl_append]
  simp [List.getElem?_eq_getElem hk, List.getD]
theorem nf_putsB : ∀ (t : List Int) (u : List Atm), nfA (t.map .p ++ u) = t.map .p ++ nfA u
  | [], u => by simp
  | x :: t, u => by rw [List.map_cons, List.cons_append, List.cons_append]; simp only [nfA]; rw [nf_putsB t u]
theorem ins_puts : ∀ (t : List Int) (u : List Atm), insD (t.map .p ++ u) = t.map .p ++ insD u
  | [], u => by simp
  | x :: t, u => by rw [List.map_cons, List.cons_append, List.cons_append]; simp only [insD]; rw [ins_puts t u]
theorem bak_k : ∀ (n : Nat) (xs : List Int) (u : List Atm), bakA xs (List.replicate n .k ++ u) = List.replicate n .k ++ bakA (xs.drop n) u
  | 0, xs, u => by simp
  | n + 1, xs, u => by
    rw [List.replicate_succ, List.cons_append, List.cons_append]
    simp only [bakA]
    rw [bak_k n (xs.drop 1) u, List.drop_drop, Nat.add_comm 1 n]
theorem bak_p : ∀ (t : List Int) (xs : List Int) (u : List Atm), bakA xs (t.map .p ++ u) = bakA xs u
  | [], xs, u => by simp
  | x :: t, xs, u => by rw [List.map_cons, List.cons_append]; simp only [bakA]; rw [bak_p t xs u]
theorem bak_d : ∀ (n : Nat) (xs : List Int) (u : List Atm), n ≤ xs.length → nfA (bakA xs (List.replicate n .d ++ u)) = nfA ((xs.take n).map .p ++ (List.replicate n .d ++ bakA (xs.drop n) u))
  | 0, xs, u, _ => by simp
  | n + 1, [], u, h => by simp at h
  | n + 1, x :: xs, u, h => by
    have ih := bak_d n xs u (by simpa using h)
    rw [List.replicate_succ, List.cons_append, List.cons_append]
    simp only [bakA, List.headD_cons, List.drop_succ_cons, List.drop_zero, List.take_succ_cons, List.map_cons, List.cons_append, nfA, insD]
    rw [ih, nf_putsB, nf_putsB, ins_puts]
    simp only [nfA]
theorem bak_app : ∀ (d : List Dop) (b : List Int) (out : List Dop) (pre : List Atm), (∀ o ∈ d, Pln o) → frD d = b.length → nfA (dA out) = nfA pre → nfA (dA (d.foldl bkS (b, out)).2) = nfA (pre ++ bakA b (dA d))
  | [], b, out, pre, _, _, h => by simpa [dA, bakA] using h
  | o :: r, b, out, pre, hp, hf, h => by
    have e : frD (o :: r) = frN o + frD r := by simp [frD]
    rw [List.foldl_cons, dA_cons]
    rcases hp o (by simp) with ⟨h1 | h1, h2, h3⟩ | ⟨h1, h2, h3⟩
    · have ef : frN o = o.n.toNat := by simp [frN, h1]
      have eo : opA o = List.replicate o.n.toNat .k := by simp [opA, h1]
      rw [eo, bak_k, show bkS (b, out) o = (b.drop o.n.toNat, out ++ [o]) by simp [bkS, h1], bak_app r _ _ (pre ++ List.replicate o.n.toNat .k) (fun q hq => hp q (by simp [hq])) (by simp; omega) (by rw [dA_app]; refine nf_app h ?_; simp [dA, eo]), List.append_assoc]
    · have ef : frN o = o.n.toNat := by simp [frN, h1]
      have eo : opA o = List.replicate o.n.toNat .d := by simp [opA, h1]
      rw [eo, show bkS (b, out) o = (b.drop o.n.toNat, out ++ [⟨2, 0, b.take o.n.toNat⟩, o]) by simp [bkS, h1], bak_app r _ _ (pre ++ ((b.take o.n.toNat).map .p ++ List.replicate o.n.toNat .d)) (fun q hq => hp q (by simp [hq])) (by simp; omega) (by
        rw [dA_app]
        refine nf_app h ?_
        rw [show dA [(⟨2, 0, b.take o.n.toNat⟩ : Dop), o] = (b.take o.n.toNat).map .p ++ List.replicate o.n.toNat .d by rw [dA_cons]; simp [dA, opA, h1]])]
      rw [List.append_assoc, List.append_assoc]
      exact nf_app_left pre (bak_d _ _ _ (by omega)).symm
    · have ef : frN o = 0 := by simp [frN, h1]
      have eo : opA o = o.t.map .p := by simp [opA, h1]
      rw [eo, bak_p, show bkS (b, out) o = (b, out) by simp [bkS, h1], bak_app r _ _ pre (fun q hq => hp q (by simp [hq])) (by omega) h]
theorem bak_same {b : List Int} {d : List Dop} (hv : valB d = true) (hf : frD d = b.length) : cmD d (invD b d) = canA (dA (runB b d).2) := by
  have h := inv_ok hv hf
  have t := two_ok hv h.v h.f.symm
  rw [t.d]
  refine canA_congr ?_
  have e := bak_app d b [] [] (val_pln hv) hf rfl
  rw [h.a, cmp_nf_right]
  unfold runB
  rw [e, List.nil_append]
  rcases cmp_inv (dA d) b with c | c
  · rw [c]
  · exact c
structure BkK (d : List Dop) (b : List Int) (k : Nat) : Prop where
  r : (runB b (d.take k)).1 = b.drop (frD (d.take k))
  l : (runB b (d.take k)).2.length ≤ 2 * k
  o : ∀ o ∈ (runB b (d.take k)).2, knB o = true ∧ TbD o ∧ o.t.length ≤ b.length
  f : frD (runB b (d.take k)).2 = frD (d.take k)
  t : toD (runB b (d.take k)).2 = frD (d.take k)
theorem bk_ok {d : List Dop} {b : List Int} (hv : valB d = true) (hf : frD d = b.length) (hb : ∀ x ∈ b, 0 ≤ x ∧ x ≤ 255) : ∀ k, k ≤ d.length → BkK d b k
  | 0, _ => ⟨by simp [runB, frD], by simp [runB], by simp [runB], by simp [runB, frD], by simp [runB, frD, toD]⟩
  | k + 1, hk => by
    have ih := bk_ok hv hf hb k (by omega)
    have hx := val_pln hv _ (getD_memD (d := d) (k := k) (by omega))
    have e1 := frD_take d (k := k) (by omega)
    have e2 := (frD_le d (k + 1)).1
    have hs := runB_take b d (k := k) (by omega)
    obtain ⟨i1, i2, i3, i4, i5⟩ := ih
    generalize runB b (d.take k) = s at *
    generalize d.getD k opZ = x at *
    obtain ⟨s1, s2⟩ := s
    dsimp only at i1 i2 i3 i4 i5
    subst i1
    rcases hx with ⟨h1 | h1, h2, h3⟩ | ⟨h1, h2, h3⟩
    · have ef : frN x = x.n.toNat := by simp [frN, h1]
      have et : toN x = x.n.toNat := by simp [toN, h1]
      rw [ef] at e1
      rw [show bkS (b.drop (frD (d.take k)), s2) x = ((b.drop (frD (d.take k))).drop x.n.toNat, s2 ++ [x]) by simp [bkS, h1]] at hs
      refine ⟨by rw [hs, e1, List.drop_drop], by rw [hs]; simp; omega, ?_, by rw [hs, e1]; dsimp only; rw [frD_snoc, ef, i4], by rw [hs, e1]; dsimp only; rw [toD_snoc, et, i5]⟩
      rw [hs]
      intro o ho
      rcases List.mem_append.1 ho with ho | ho
      · exact i3 o ho
      · simp at ho; subst ho
        exact ⟨by unfold knB; simp [h1]; omega, by intro z hz; rw [h3] at hz; simp at hz, by rw [h3]; simp⟩
    · have ef : frN x = x.n.toNat := by simp [frN, h1]
      have et : toN x = 0 := by simp [toN, h1]
      rw [ef] at e1
      have hl : ((b.drop (frD (d.take k))).take x.n.toNat).length = x.n.toNat := by simp; omega
      rw [show bkS (b.drop (frD (d.take k)), s2) x = ((b.drop (frD (d.take k))).drop x.n.toNat, s2 ++ [⟨2, 0, (b.drop (frD (d.take k))).take x.n.toNat⟩] ++ [x]) by simp [bkS, h1]] at hs
      refine ⟨by rw [hs, e1, List.drop_drop], by rw [hs]; simp; omega, ?_, by rw [hs, e1]; dsimp only; rw [frD_snoc, frD_snoc, ef, i4]; simp [frN], by rw [hs, e1]; dsimp only; rw [toD_snoc, toD_snoc, et, i5]; simp [toN]; omega⟩
      rw [hs]
      intro o ho
      rcases List.mem_append.1 ho with ho | ho
      · rcases List.mem_append.1 ho with ho | ho
        · exact i3 o ho
        · simp at ho; subst ho
          refine ⟨by simp [knB], fun z hz => ?_, by dsimp only; rw [hl]; omega⟩
          exact hb z (List.mem_of_mem_drop (List.mem_of_mem_take hz))
      · simp at ho; subst ho
        exact ⟨by unfold knB; simp [h1]; omega, by intro z hz; rw [h3] at hz; simp at hz, by rw [h3]; simp⟩
    · have ef : frN x = 0 := by simp [frN, h1]
      rw [ef] at e1
      rw [show bkS (b.drop (frD (d.take k)), s2) x = (b.drop (frD (d.take k)), s2) by simp [bkS, h1]] at hs
      refine ⟨by rw [hs, e1]; simp, by rw [hs]; dsimp only; omega, by rw [hs]; exact i3, by rw [hs, e1]; exact i4, by rw [hs, e1]; exact i5⟩

end Go.Proofs.Ytfllomlighlejaa
end

section
namespace Go.Proofs.Ytfllomlighlejaa
open Go.ChangeShapes Go.WideShapes Go.ChangeAt Go.RowKit
attribute [local go_sem] Oper.semAt_some

/-- what is wrong with a change -/
def badC (n : Int) (c : Dop) : Prop := c.k < 0 ∨ c.k > c.n ∨ c.n > n
def crsC (cs : List Dop) (k : Nat) : Prop := (cs.getD (k + 1) opZ).k < (cs.getD k opZ).n
/-- the error that Of begins with -/
structure ErrC (n : Int) (cs : List Dop) (E : Int) : Prop where
  a : (n < 0 ∨ n > 268435456) → E = 2
  b : ¬ (n < 0 ∨ n > 268435456) → (∃ k, k < cs.length ∧ badC n (cs.getD k opZ)) → E = 2
  c : ¬ (n < 0 ∨ n > 268435456) → (∀ k, k < cs.length → ¬ badC n (cs.getD k opZ)) → (∃ k, k + 1 < cs.length ∧ crsC cs k) → E = 120
  d : ¬ (n < 0 ∨ n > 268435456) → (∀ k, k < cs.length → ¬ badC n (cs.getD k opZ)) → (∀ k, k + 1 < cs.length → ¬ crsC cs k) → E = 0
theorem errC_is (n : Int) (cs : List Dop) : ∃ E, ErrC n cs E := by
  by_cases h1 : n < 0 ∨ n > 268435456
  · exact ⟨2, fun _ => rfl, fun h => absurd h1 h, fun h => absurd h1 h, fun h => absurd h1 h⟩
  by_cases h2 : ∃ k, k < cs.length ∧ badC n (cs.getD k opZ)
  · obtain ⟨k, hk, hb⟩ := h2
    exact ⟨2, fun _ => rfl, fun _ _ => rfl, fun _ h => absurd hb (h k hk), fun _ h => absurd hb (h k hk)⟩
  by_cases h3 : ∃ k, k + 1 < cs.length ∧ crsC cs k
  · obtain ⟨k, hk, hb⟩ := h3
    exact ⟨120, fun h => absurd h h1, fun _ h => absurd h h2, fun _ _ _ => rfl, fun _ _ h => absurd hb (h k hk)⟩
  · exact ⟨0, fun h => absurd h h1, fun _ h => absurd h h2, fun _ _ h => absurd h h3, fun _ _ _ => rfl⟩
theorem errC_ok {n : Int} {cs : List Dop} {E : Int} (h : ErrC n cs E) : (E = 0 ∧ (0 ≤ n ∧ n ≤ 268435456) ∧ okL 0 cs n) ∨ (E ≠ 0) := by
  by_cases h1 : n < 0 ∨ n > 268435456
  · exact .inr (by rw [h.a h1]; decide)
  by_cases h2 : ∃ k, k < cs.length ∧ badC n (cs.getD k opZ)
  · exact .inr (by rw [h.b h1 h2]; decide)
  have h2' : ∀ k, k < cs.length → ¬ badC n (cs.getD k opZ) := fun k hk hb => h2 ⟨k, hk, hb⟩
  by_cases h3 : ∃ k, k + 1 < cs.length ∧ crsC cs k
  · exact .inr (by rw [h.c h1 h2' h3]; decide)
  · have h3' : ∀ k, k + 1 < cs.length → ¬ crsC cs k := fun k hk hb => h3 ⟨k, hk, hb⟩
    refine .inl ⟨h.d h1 h2' h3', by omega, okL_of cs 0 n (by omega) (fun c hc => ?_) (fun k hk => ?_) h3'⟩
    · cases cs with
      | nil => simp at hc
      | cons c' r =>
        simp only [List.head?_cons, Option.some.injEq] at hc
        subst hc
        have := h2' 0 (by simp)
        unfold badC at this
        simp at this
        omega
    · have := h2' k hk
      unfold badC at this
      omega
theorem last_arith' (j : Nat) {L : Nat} (hl : L ≤ 4398046511104) (h : j + 1 < L) : wrap64 (((j + 1 : Nat) : Int) - 1) = (j : Int) ∧ True := ⟨by rw [wrapD _ (by omega) (by omega)]; omega, trivial⟩
theorem bad_tests (n : Int) (c : Dop) : (badC n c ∧ (decide (c.k < 0) = true ∨ (decide (c.k < 0) = false ∧ decide (c.k > c.n) = true ∧ decide (c.n < c.k) = true) ∨ (decide (c.k < 0) = false ∧ decide (c.k > c.n) = false ∧ decide (c.n < c.k) = false ∧ decide (c.n > n) = true ∧ decide (n < c.n) = true))) ∨
    (¬ badC n c ∧ decide (c.k < 0) = false ∧ decide (c.k > c.n) = false ∧ decide (c.n < c.k) = false ∧ decide (c.n > n) = false ∧ decide (n < c.n) = false) := by
  unfold badC
  by_cases h1 : c.k < 0
  · exact .inl ⟨.inl h1, .inl (decide_eq_true h1)⟩
  by_cases h2 : c.k > c.n
  · exact .inl ⟨.inr (.inl h2), .inr (.inl ⟨decide_eq_false h1, decide_eq_true h2, decide_eq_true h2⟩)⟩
  by_cases h3 : c.n > n
  · exact .inl ⟨.inr (.inr h3), .inr (.inr ⟨decide_eq_false h1, decide_eq_false h2, decide_eq_false (by omega), decide_eq_true h3, decide_eq_true h3⟩)⟩
  · exact .inr ⟨by omega, decide_eq_false h1, decide_eq_false h2, decide_eq_false (by omega), decide_eq_false h3, decide_eq_false (by omega)⟩
/-- what Of answers -/
def ofD (n : Int) (cs : List Dop) (E : Int) : List Dop × Int := if E = 0 then (if 268435456 < toD (opsC n cs) then ([], 5) else (canA (dA (opsC n cs)), 0)) else ([], E)
end Go.Proofs.Ytfllomlighlejaa
end
