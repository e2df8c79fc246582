/- Layer 13, plain: what takes a delta back, by its atoms. · Layer 13: checked and Of. -/
import Derived.Test.YtdemagijhmbdcaaDo32
import Derived.Test.YtdemagijhmbdcaaDo24
import Derived.Test.YtdemagijhmbdcaaDo28
import Derived.BigQuiet

section
namespace Go.Proofs.Ytdemagijhmbdcaa

theorem invA_k : ∀ (n : Nat) (xs : List Int) (u : List Atm), invA xs (List.replicate n .k ++ u) = List.replicate n .k ++ invA (xs.drop n) u
  | 0, xs, u => by simp
  | n + 1, xs, u => by
    rw [List.replicate_succ, List.cons_append, List.cons_append]
    simp only [invA]
    rw [invA_k n (xs.drop 1) u, List.drop_drop, Nat.add_comm 1 n]
theorem invA_d : ∀ (n : Nat) (xs : List Int) (u : List Atm), n ≤ xs.length → invA xs (List.replicate n .d ++ u) = (xs.take n).map .p ++ invA (xs.drop n) u
  | 0, xs, u, _ => by simp
  | n + 1, [], u, h => by simp at h
  | n + 1, x :: xs, u, h => by
    have := invA_d n xs u (by simpa using h)
    rw [List.replicate_succ, List.cons_append]
    simp only [invA, List.headD_cons, List.drop_succ_cons, List.drop_zero, this]
    simp
theorem invA_p : ∀ (t : List Int) (xs : List Int) (u : List Atm), invA xs (t.map .p ++ u) = List.replicate t.length .d ++ invA xs u
  | [], xs, u => by simp
  | x :: t, xs, u => by
    rw [List.map_cons, List.cons_append, List.length_cons, List.replicate_succ, List.cons_append]
    simp only [invA]
    rw [invA_p t xs u]
theorem ivD_app : ∀ (d : List Dop) (b : List Int) (out : List Dop), (∀ o ∈ d, Pln o) → frD d = b.length → dA (d.foldl stV (b, out)).2 = dA out ++ invA b (dA d)
  | [], b, out, _, _ => by simp [dA, invA]
  | o :: r, b, out, hp, h => by
    have e : frD (o :: r) = frN o + frD r := by simp [frD]
    rw [List.foldl_cons, dA_cons]
    rcases hp o (by simp) with ⟨h1 | h1, h2, h3⟩ | ⟨h1, h2, h3⟩
    · have ef : frN o = o.n.toNat := by simp [frN, h1]
      have eo : opA o = List.replicate o.n.toNat .k := by simp [opA, h1]
      rw [eo, invA_k, show stV (b, out) o = (b.drop o.n.toNat, out ++ [⟨1, o.n, []⟩]) by simp [stV, h1], ivD_app r _ _ (fun q hq => hp q (by simp [hq])) (by simp; omega), dA_app, List.append_assoc]
      congr 1
      rw [show dA [(⟨1, o.n, []⟩ : Dop)] = List.replicate o.n.toNat .k by simp [dA, opA]]
    · have ef : frN o = o.n.toNat := by simp [frN, h1]
      have eo : opA o = List.replicate o.n.toNat .d := by simp [opA, h1]
      rw [eo, invA_d _ _ _ (by omega), show stV (b, out) o = (b.drop o.n.toNat, out ++ [⟨2, 0, b.take o.n.toNat⟩]) by simp [stV, h1], ivD_app r _ _ (fun q hq => hp q (by simp [hq])) (by simp; omega), dA_app, List.append_assoc]
      congr 1
      rw [show dA [(⟨2, 0, b.take o.n.toNat⟩ : Dop)] = (b.take o.n.toNat).map .p by simp [dA, opA]]
    · have ef : frN o = 0 := by simp [frN, h1]
      have eo : opA o = o.t.map .p := by simp [opA, h1]
      rw [eo, invA_p, show stV (b, out) o = (b, out ++ [⟨3, (o.t.length : Int), []⟩]) by simp [stV, h1], ivD_app r _ _ (fun q hq => hp q (by simp [hq])) (by omega), dA_app, List.append_assoc]
      congr 1
      rw [show dA [(⟨3, (o.t.length : Int), []⟩ : Dop)] = List.replicate o.t.length .d by simp [dA, opA]]
theorem val_pln {d : List Dop} (hv : valB d = true) : ∀ o ∈ d, Pln o := fun o ho => by
  rcases valB_op hv ho with ⟨h1, h2, h3⟩ | ⟨h1, h2, h3⟩
  · exact .inl ⟨h1, h2, h3⟩
  · exact .inr ⟨h1, h2, h3⟩
theorem ivD_is {d : List Dop} {b : List Int} (hv : valB d = true) (hf : frD d = b.length) : dA (ivD b d) = invA b (dA d) := by
  have := ivD_app d b [] (val_pln hv) hf
  simpa [ivD, runV, dA] using this
/-- a delta's inverse: valid, of the text that it makes, and it takes back -/
structure InvD (b : List Int) (d : List Dop) : Prop where
  e : fitE d b.length = 0
  i : invD b d = canA (invA b (dA d))
  v : valB (invD b d) = true
  f : frD (invD b d) = toD d
  t : toD (invD b d) = b.length
  a : dA (invD b d) = nfA (invA b (dA d))
theorem inv_ok {b : List Int} {d : List Dop} (hv : valB d = true) (hf : frD d = b.length) : InvD b d := by
  have he := fit_zero hv hf
  have hi : invD b d = canA (invA b (dA d)) := by unfold invD; rw [if_pos he, ivD_is hv hf]
  have h1 := inv_fr (dA d) b
  have h2 := frA_dA (valB_k hv)
  have h3 := (valB_nn hv).2
  obtain ⟨v1, v2, v3, v4⟩ := canA_val (u := invA b (dA d)) (by omega) (by omega)
  exact ⟨he, hi, by rw [hi]; exact v1, by rw [hi]; omega, by rw [hi]; omega, by rw [hi]; exact v4⟩
theorem inv_back {b : List Int} {d : List Dop} (hv : valB d = true) (hf : frD d = b.length) : apD (apD b d) (invD b d) = b := by
  have h := inv_ok hv hf
  have h2 := frA_dA (valB_k hv)
  rw [apD_is h.v (h.f.trans (ap_len hv hf).symm), h.a, app_nf, apD_is hv hf, app_inv _ _ (by omega)]
theorem inv_again {b : List Int} {d : List Dop} (hv : valB d = true) (hf : frD d = b.length) (hc : canA (dA d) = d) : invD (apD b d) (invD b d) = d := by
  have h := inv_ok hv hf
  have h2 := frA_dA (valB_k hv)
  have h3 := inv_ok h.v (h.f.trans (ap_len hv hf).symm)
  rw [h3.i, h.a, apD_is hv hf]
  conv => rhs; rw [← hc]
  refine canA_congr ?_
  rw [inv_nf, inv_inv _ _ (by omega)]
/-- what the law wants both to be -/
def bkS (s : List Int × List Dop) (o : Dop) : List Int × List Dop := if o.k = 1 then (s.1.drop o.n.toNat, s.2 ++ [o]) else if o.k = 3 then (s.1.drop o.n.toNat, s.2 ++ [⟨2, 0, s.1.take o.n.toNat⟩, o]) else s
def runB (b : List Int) (d : List Dop) : List Int × List Dop := d.foldl bkS (b, [])
theorem runB_take (b : List Int) (d : List Dop) {k : Nat} (hk : k < d.length) : runB b (d.take (k + 1)) = bkS (runB b (d.take k)) (d.getD k opZ) := by
  unfold runB
  rw [List.take_add_one, List.foldl_append]
  simp [List.getElem?_eq_getElem hk, List.getD]
theorem nf_putsB : ∀ (t : List Int) (u : List Atm), nfA (t.map .p ++ u) = t.map .p ++ nfA u
  | [], u => by simp
  | x :: t, u => by rw [List.map_cons, List.cons_append, List.cons_append]; simp only [nfA]; rw [nf_putsB t u]
theorem ins_puts : ∀ (t : List Int) (u : List Atm), insD (t.map .p ++ u) = t.map .p ++ insD u
  | [], u => by simp
  | x :: t, u => by rw [List.map_cons, List.cons_append, List.cons_append]; simp only [insD]; rw [ins_puts t u]
theorem bak_k : ∀ (n : Nat) (xs : List Int) (u : List Atm), bakA xs (List.replicate n .k ++ u) = List.replicate n .k ++ bakA (xs.drop n) u
  | 0, xs, u => by simp
  | n + 1, xs, u => by
    rw [List.replicate_succ, List.cons_append, List.cons_append]
    simp only [bakA]
    rw [bak_k n (xs.drop 1) u, List.drop_drop, Nat.add_comm 1 n]
theorem bak_p : ∀ (t : List Int) (xs : List Int) (u : List Atm), bakA xs (t.map .p ++ u) = bakA xs u
  | [], xs, u => by simp
  | x :: t, xs, u => by rw [List.map_cons, List.cons_append]; simp only [bakA]; rw [bak_p t xs u]
theorem bak_d : ∀ (n : Nat) (xs : List Int) (u : List Atm), n ≤ xs.length → nfA (bakA xs (List.replicate n .d ++ u)) = nfA ((xs.take n).map .p ++ (List.replicate n .d ++ bakA (xs.drop n) u))
  | 0, xs, u, _ => by simp
  | n + 1, [], u, h => by simp at h
  | n + 1, x :: xs, u, h => by
    have ih := bak_d n xs u (by simpa using h)
    rw [List.replicate_succ, List.cons_append, List.cons_append]
    simp only [bakA, List.headD_cons, List.drop_succ_cons, List.drop_zero, List.take_succ_cons, List.map_cons, List.cons_append, nfA, insD]
    rw [ih, nf_putsB, nf_putsB, ins_puts]
    simp only [nfA]
theorem bak_app : ∀ (d : List Dop) (b : List Int) (out : List Dop) (pre : List Atm), (∀ o ∈ d, Pln o) → frD d = b.length → nfA (dA out) = nfA pre → nfA (dA (d.foldl bkS (b, out)).2) = nfA (pre ++ bakA b (dA d))
  | [], b, out, pre, _, _, h => by simpa [dA, bakA] using h
  | o :: r, b, out, pre, hp, hf, h => by
    have e : frD (o :: r) = frN o + frD r := by simp [frD]
    rw [List.foldl_cons, dA_cons]
    rcases hp o (by simp) with ⟨h1 | h1, h2, h3⟩ | ⟨h1, h2, h3⟩
    · have ef : frN o = o.n.toNat := by simp [frN, h1]
      have eo : opA o = List.replicate o.n.toNat .k := by simp [opA, h1]
      rw [eo, bak_k, show bkS (b, out) o = (b.drop o.n.toNat, out ++ [o]) by simp [bkS, h1], bak_app r _ _ (pre ++ List.replicate o.n.toNat .k) (fun q hq => hp q (by simp [hq])) (by simp; omega) (by rw [dA_app]; refine nf_app h ?_; simp [dA, eo]), List.append_assoc]
    · have ef : frN o = o.n.toNat := by simp [frN, h1]
      have eo : opA o = List.replicate o.n.toNat .d := by simp [opA, h1]
      rw [eo, show bkS (b, out) o = (b.drop o.n.toNat, out ++ [⟨2, 0, b.take o.n.toNat⟩, o]) by simp [bkS, h1], bak_app r _ _ (pre ++ ((b.take o.n.toNat).map .p ++ List.replicate o.n.toNat .d)) (fun q hq => hp q (by simp [hq])) (by simp; omega) (by
        rw [dA_app]
        refine nf_app h ?_
        rw [show dA [(⟨2, 0, b.take o.n.toNat⟩ : Dop), o] = (b.take o.n.toNat).map .p ++ List.replicate o.n.toNat .d by rw [dA_cons]; simp [dA, opA, h1]])]
      rw [List.append_assoc, List.append_assoc]
      exact nf_app_left pre (bak_d _ _ _ (by omega)).symm
    · have ef : frN o = 0 := by simp [frN, h1]
      have eo : opA o = o.t.map .p := by simp [opA, h1]
      rw [eo, bak_p, show bkS (b, out) o = (b, out) by simp [bkS, h1], bak_app r _ _ pre (fun q hq => hp q (by simp [hq])) (by omega) h]
theorem bak_same {b : List Int} {d : List Dop} (hv : valB d = true) (hf : frD d = b.length) : cmD d (invD b d) = canA (dA (runB b d).2) := by
  have h := inv_ok hv hf
  have t := two_ok hv h.v h.f.symm
  rw [t.d]
  refine canA_congr ?_
  have e := bak_app d b [] [] (val_pln hv) hf rfl
  rw [h.a, cmp_nf_right]
  unfold runB
  rw [e, List.nil_append]
  rcases cmp_inv (dA d) b with c | c
  · rw [c]
  · exact c
structure BkK (d : List Dop) (b : List Int) (k : Nat) : Prop where
  r : (runB b (d.take k)).1 = b.drop (frD (d.take k))
  l : (runB b (d.take k)).2.length ≤ 2 * k
  o : ∀ o ∈ (runB b (d.take k)).2, knB o = true ∧ TbD o ∧ o.t.length ≤ b.length
  f : frD (runB b (d.take k)).2 = frD (d.take k)
  t : toD (runB b (d.take k)).2 = frD (d.take k)
theorem bk_ok {d : List Dop} {b : List Int} (hv : valB d = true) (hf : frD d = b.length) (hb : ∀ x ∈ b, 0 ≤ x ∧ x ≤ 255) : ∀ k, k ≤ d.length → BkK d b k
  | 0, _ => ⟨by simp [runB, frD], by simp [runB], by simp [runB], by simp [runB, frD], by simp [runB, frD, toD]⟩
  | k + 1, hk => by
    have ih := bk_ok hv hf hb k (by omega)
    have hx := val_pln hv _ (getD_memD (d := d) (k := k) (by omega))
    have e1 := frD_take d (k := k) (by omega)
    have e2 := (frD_le d (k + 1)).1
    have hs := runB_take b d (k := k) (by omega)
    obtain ⟨i1, i2, i3, i4, i5⟩ := ih
    generalize runB b (d.take k) = s at *
    generalize d.getD k opZ = x at *
    obtain ⟨s1, s2⟩ := s
    dsimp only at i1 i2 i3 i4 i5
    subst i1
    rcases hx with ⟨h1 | h1, h2, h3⟩ | ⟨h1, h2, h3⟩
    · have ef : frN x = x.n.toNat := by simp [frN, h1]
      have et : toN x = x.n.toNat := by simp [toN, h1]
      rw [ef] at e1
      rw [show bkS (b.drop (frD (d.take k)), s2) x = ((b.drop (frD (d.take k))).drop x.n.toNat, s2 ++ [x]) by simp [bkS, h1]] at hs
      refine ⟨by rw [hs, e1, List.drop_drop], by rw [hs]; simp; omega, ?_, by rw [hs, e1]; dsimp only; rw [frD_snoc, ef, i4], by rw [hs, e1]; dsimp only; rw [toD_snoc, et, i5]⟩
      rw [hs]
      intro o ho
      rcases List.mem_append.1 ho with ho | ho
      · exact i3 o ho
      · simp at ho; subst ho
        exact ⟨by unfold knB; simp [h1]; omega, by intro z hz; rw [h3] at hz; simp at hz, by rw [h3]; simp⟩
    · have ef : frN x = x.n.toNat := by simp [frN, h1]
      have et : toN x = 0 := by simp [toN, h1]
      rw [ef] at e1
      have hl : ((b.drop (frD (d.take k))).take x.n.toNat).length = x.n.toNat := by simp; omega
      rw [show bkS (b.drop (frD (d.take k)), s2) x = ((b.drop (frD (d.take k))).drop x.n.toNat, s2 ++ [⟨2, 0, (b.drop (frD (d.take k))).take x.n.toNat⟩] ++ [x]) by simp [bkS, h1]] at hs
      refine ⟨by rw [hs, e1, List.drop_drop], by rw [hs]; simp; omega, ?_, by rw [hs, e1]; dsimp only; rw [frD_snoc, frD_snoc, ef, i4]; simp [frN], by rw [hs, e1]; dsimp only; rw [toD_snoc, toD_snoc, et, i5]; simp [toN]; omega⟩
      rw [hs]
      intro o ho
      rcases List.mem_append.1 ho with ho | ho
      · rcases List.mem_append.1 ho with ho | ho
        · exact i3 o ho
        · simp at ho; subst ho
          refine ⟨by simp [knB], fun z hz => ?_, by dsimp only; rw [hl]; omega⟩
          exact hb z (List.mem_of_mem_drop (List.mem_of_mem_take hz))
      · simp at ho; subst ho
        exact ⟨by unfold knB; simp [h1]; omega, by intro z hz; rw [h3] at hz; simp at hz, by rw [h3]; simp⟩
    · have ef : frN x = 0 := by simp [frN, h1]
      rw [ef] at e1
      rw [show bkS (b.drop (frD (d.take k)), s2) x = (b.drop (frD (d.take k)), s2) by simp [bkS, h1]] at hs
      refine ⟨by rw [hs, e1]; simp, by rw [hs]; dsimp only; omega, by rw [hs]; exact i3, by rw [hs, e1]; exact i4, by rw [hs, e1]; exact i5⟩

end Go.Proofs.Ytdemagijhmbdcaa
end

section
namespace Go.Proofs.Ytdemagijhmbdcaa
open Go.ChangeShapes Go.WideShapes Go.ChangeAt Go.RowKit
attribute [local go_sem] Oper.semAt_some

/-- what is wrong with a change -/
def badC (n : Int) (c : Dop) : Prop := c.k < 0 ∨ c.k > c.n ∨ c.n > n
def crsC (cs : List Dop) (k : Nat) : Prop := (cs.getD (k + 1) opZ).k < (cs.getD k opZ).n
/-- the error that Of begins with -/
structure ErrC (n : Int) (cs : List Dop) (E : Int) : Prop where
  a : (n < 0 ∨ n > 268435456) → E = 2
  b : ¬ (n < 0 ∨ n > 268435456) → (∃ k, k < cs.length ∧ badC n (cs.getD k opZ)) → E = 2
  c : ¬ (n < 0 ∨ n > 268435456) → (∀ k, k < cs.length → ¬ badC n (cs.getD k opZ)) → (∃ k, k + 1 < cs.length ∧ crsC cs k) → E = 120
  d : ¬ (n < 0 ∨ n > 268435456) → (∀ k, k < cs.length → ¬ badC n (cs.getD k opZ)) → (∀ k, k + 1 < cs.length → ¬ crsC cs k) → E = 0
theorem errC_is (n : Int) (cs : List Dop) : ∃ E, ErrC n cs E := by
  by_cases h1 : n < 0 ∨ n > 268435456
  · exact ⟨2, fun _ => rfl, fun h => absurd h1 h, fun h => absurd h1 h, fun h => absurd h1 h⟩
  by_cases h2 : ∃ k, k < cs.length ∧ badC n (cs.getD k opZ)
  · obtain ⟨k, hk, hb⟩ := h2
    exact ⟨2, fun _ => rfl, fun _ _ => rfl, fun _ h => absurd hb (h k hk), fun _ h => absurd hb (h k hk)⟩
  by_cases h3 : ∃ k, k + 1 < cs.length ∧ crsC cs k
  · obtain ⟨k, hk, hb⟩ := h3
    exact ⟨120, fun h => absurd h h1, fun _ h => absurd h h2, fun _ _ _ => rfl, fun _ _ h => absurd hb (h k hk)⟩
  · exact ⟨0, fun h => absurd h h1, fun _ h => absurd h h2, fun _ _ h => absurd h h3, fun _ _ _ => rfl⟩
theorem errC_ok {n : Int} {cs : List Dop} {E : Int} (h : ErrC n cs E) : (E = 0 ∧ (0 ≤ n ∧ n ≤ 268435456) ∧ okL 0 cs n) ∨ (E ≠ 0) := by
  by_cases h1 : n < 0 ∨ n > 268435456
  · exact .inr (by rw [h.a h1]; decide)
  by_cases h2 : ∃ k, k < cs.length ∧ badC n (cs.getD k opZ)
  · exact .inr (by rw [h.b h1 h2]; decide)
  have h2' : ∀ k, k < cs.length → ¬ badC n (cs.getD k opZ) := fun k hk hb => h2 ⟨k, hk, hb⟩
  by_cases h3 : ∃ k, k + 1 < cs.length ∧ crsC cs k
  · exact .inr (by rw [h.c h1 h2' h3]; decide)
  · have h3' : ∀ k, k + 1 < cs.length → ¬ crsC cs k := fun k hk hb => h3 ⟨k, hk, hb⟩
    refine .inl ⟨h.d h1 h2' h3', by omega, okL_of cs 0 n (by omega) (fun c hc => ?_) (fun k hk => ?_) h3'⟩
    · cases cs with
      | nil => simp at hc
      | cons c' r =>
        simp only [List.head?_cons, Option.some.injEq] at hc
        subst hc
        have := h2' 0 (by simp)
        unfold badC at this
        simp at this
        omega
    · have := h2' k hk
      unfold badC at this
      omega
theorem last_arith' (j : Nat) {L : Nat} (hl : L ≤ 4398046511104) (h : j + 1 < L) : wrap64 (((j + 1 : Nat) : Int) - 1) = (j : Int) ∧ True := ⟨by rw [wrapD _ (by omega) (by omega)]; omega, trivial⟩
theorem bad_tests (n : Int) (c : Dop) : (badC n c ∧ (decide (c.k < 0) = true ∨ (decide (c.k < 0) = false ∧ decide (c.k > c.n) = true ∧ decide (c.n < c.k) = true) ∨ (decide (c.k < 0) = false ∧ decide (c.k > c.n) = false ∧ decide (c.n < c.k) = false ∧ decide (c.n > n) = true ∧ decide (n < c.n) = true))) ∨
    (¬ badC n c ∧ decide (c.k < 0) = false ∧ decide (c.k > c.n) = false ∧ decide (c.n < c.k) = false ∧ decide (c.n > n) = false ∧ decide (n < c.n) = false) := by
  unfold badC
  by_cases h1 : c.k < 0
  · exact .inl ⟨.inl h1, .inl (decide_eq_true h1)⟩
  by_cases h2 : c.k > c.n
  · exact .inl ⟨.inr (.inl h2), .inr (.inl ⟨decide_eq_false h1, decide_eq_true h2, decide_eq_true h2⟩)⟩
  by_cases h3 : c.n > n
  · exact .inl ⟨.inr (.inr h3), .inr (.inr ⟨decide_eq_false h1, decide_eq_false h2, decide_eq_false (by omega), decide_eq_true h3, decide_eq_true h3⟩)⟩
  · exact .inr ⟨by omega, decide_eq_false h1, decide_eq_false h2, decide_eq_false (by omega), decide_eq_false h3, decide_eq_false (by omega)⟩
set_option maxRecDepth 100000 in
set_option maxHeartbeats 4000000 in
theorem checked_at (a : Option Addr) (c : Nat) (n : Int) (cs : List Dop) (E : Int) (w : World) (h : IsO w a cs) (hl : cs.length ≤ 4398046511104) (hE : ErrC n cs E) :
    Calls Try.prog 43 #[.int .i64 n, .slice a cs.length c] w fun y w' => y = .returned (.int .i64 E) ∧ Below w.heap.size w w' := by
  have HO := hide fun (X : World) (hx : Below w.heap.size w X) => h.below hx (Nat.le_refl _)
  have HE := hide hE
  clear hE h
  by_cases hn1 : n < 0
  · have HV := hide ((unhide HE).a (.inl hn1))
    have t1 : decide (n < 0) = true := decide_eq_true hn1
    clear HE HO hn1
    go_enter Try.func43, Try.ntmps43
    go_wp2_with fail
    rw [unhide HV]
    refine bodyPost_ret (results_tmp rfl _ _ _) rfl ⟨rfl, Below.refl _ _⟩
  by_cases hn2 : n > 268435456
  · have HV := hide ((unhide HE).a (.inr hn2))
    have t1 : decide (n < 0) = false := decide_eq_false hn1
    have t2 : decide (n > 268435456) = true := decide_eq_true hn2
    have t3 : decide (268435456 < n) = true := decide_eq_true hn2
    clear HE HO hn1 hn2
    go_enter Try.func43, Try.ntmps43
    go_wp2_with fail
    rw [unhide HV]
    refine bodyPost_ret (results_tmp rfl _ _ _) rfl ⟨rfl, Below.refl _ _⟩
  have HEb := hide ((unhide HE).b (by omega))
  have HEc := hide ((unhide HE).c (by omega))
  have HEd := hide ((unhide HE).d (by omega))
  have t1 : decide (n < 0) = false := decide_eq_false hn1
  have t2 : decide (n > 268435456) = false := decide_eq_false hn2
  have t3 : decide (268435456 < n) = false := decide_eq_false hn2
  clear HE hn1 hn2
  go_enter Try.func43, Try.ntmps43
  go_wp2_with fail
  go_loopw [6, 16] (fun v6 v16 wx => (∃ z, v6 = z) ∧ (∃ k : Nat, v16 = .int .i64 (k : Int) ∧ k ≤ cs.length ∧ Hid ((∀ i, i < k → ¬ badC n (cs.getD i opZ)) ∧ Below w.heap.size w wx))) (fun _ v16 _ => cs.length - (intOf v16).toNat)
  case atStart => exact ⟨⟨_, rfl⟩, ⟨0, rfl, Nat.zero_le _, hide ⟨fun i hi => absurd hi (Nat.not_lt_zero i), Below.refl _ _⟩⟩⟩
  case round =>
    obtain ⟨⟨z1, rfl⟩, ⟨k, rfl, hk, HI⟩⟩ := hrel
    by_cases hlt : k < cs.length
    · have s1 : decide ((k : Int) < (cs.length : Int)) = true := decide_eq_true (by omega)
      obtain ⟨g, off, rfl, hg, c0, c1, c2⟩ := (unhide HO wr (unhide HI).2).three hlt
      have HT := hide (bad_tests n (cs.getD k opZ))
      have HN : Hid (¬ badC n (cs.getD k opZ) → ∀ i, i < k + 1 → ¬ badC n (cs.getD i opZ)) := hide fun h0 i hi => by
        rcases Nat.lt_or_ge i k with h | h
        · exact (unhide HI).1 i h
        · obtain rfl : i = k := by omega
          exact h0
      have HV : Hid (badC n (cs.getD k opZ) → E = 2) := hide fun h0 => unhide HEb ⟨k, hlt, h0⟩
      generalize cs.getD k opZ = x at *
      obtain ⟨xk, xn, xt⟩ := x
      dsimp only at c0 c1 c2 HT
      obtain ⟨d0, d1, d2⟩ := three_nwD wr (.int .i64 xk) (.int .i64 xn) (.string (strOfNums xt)) (t := 56)
      have HB := hide ((unhide HI).2.alloc (unhide HI).2.size (.cells #[.int .i64 xk, .int .i64 xn, .string (strOfNums xt)] 56))
      generalize strOfNums xt = st at *
      clear HI HEb HEc HEd HO hk
      go_upto_region 6 with fail
      clear c0 c1 c2 d2
      generalize wr.alloc (.cells #[.int .i64 xk, .int .i64 xn, .string st] 56) = v0 at *
      generalize wr.heap.size = gb at *
      rcases unhide HT with ⟨hb, s2 | ⟨s2, s3, s4⟩ | ⟨s2, s3, s4, s5, s6⟩⟩ | ⟨hb, s2, s3, s4, s5, s6⟩
      · have HV2 := hide (unhide HV hb)
        clear HT HV HN hb
        go_wp2_with fail
        rw [unhide HV2]
        refine bodyPost_ret (results_tmp rfl _ _ _) rfl ⟨rfl, unhide HB⟩
      · have HV2 := hide (unhide HV hb)
        clear HT HV HN hb
        go_wp2_with fail
        rw [unhide HV2]
        refine bodyPost_ret (results_tmp rfl _ _ _) rfl ⟨rfl, unhide HB⟩
      · have HV2 := hide (unhide HV hb)
        clear HT HV HN hb
        go_wp2_with fail
        rw [unhide HV2]
        refine bodyPost_ret (results_tmp rfl _ _ _) rfl ⟨rfl, unhide HB⟩
      · have HN2 := hide (unhide HN hb)
        clear HT HV HN hb
        go_wp2_with fail
        go_roundw
        case rel => exact ⟨⟨_, rfl⟩, ⟨k + 1, by go_num, hlt, hide ⟨unhide HN2, unhide HB⟩⟩⟩
        case measure => simp [intOf]; omega
    · obtain rfl : k = cs.length := by omega
      have s1 : decide ((cs.length : Int) < (cs.length : Int)) = false := decide_eq_false (by omega)
      have HEc := hide (unhide HEc (unhide HI).1)
      have HEd := hide (unhide HEd (unhide HI).1)
      have HB := hide (unhide HI).2
      clear HI HEb hk hlt t1 t2 t3
      go_wp2_with fail
      clear s1
      go_loopw [7] (fun v7 wx => (∃ k : Nat, v7 = .int .i64 (k : Int) ∧ 1 ≤ k ∧ (k = 1 ∨ k ≤ cs.length) ∧ Hid ((∀ i, i + 1 < k → ¬ crsC cs i) ∧ Below w.heap.size w wx))) (fun v7 _ => cs.length + 1 - (intOf v7).toNat)
      case atStart => exact ⟨1, rfl, Nat.le_refl _, .inl rfl, hide ⟨fun i hi => absurd hi (by omega), unhide HB⟩⟩
      case round =>
        clear HB
        obtain ⟨k, rfl, hk1, hk2, HI⟩ := hrel
        by_cases hlt : k < cs.length
        · have s1 : decide ((k : Int) < (cs.length : Int)) = true := decide_eq_true (by omega)
          obtain ⟨j, rfl⟩ : ∃ j, k = j + 1 := ⟨k - 1, by omega⟩
          obtain ⟨g, off, rfl, hg, c0, c1, c2⟩ := (unhide HO wr (unhide HI).2).three hlt
          obtain ⟨g', off', he, hg', b0', b1, b2⟩ := (unhide HO wr (unhide HI).2).three (k := j) (by omega)
          obtain ⟨rfl, rfl⟩ : g = g' ∧ off = off' := by cases he; exact ⟨rfl, rfl⟩
          clear he b0' b2 c1 c2 hg hg'
          have HCR : Hid (crsC cs j ↔ (cs.getD (j + 1) opZ).k < (cs.getD j opZ).n) := hide Iff.rfl
          have HV : Hid (crsC cs j → E = 120) := hide fun h0 => unhide HEc ⟨j, hlt, h0⟩
          have HN : Hid (¬ crsC cs j → ∀ i, i + 1 < j + 2 → ¬ crsC cs i) := hide fun h0 i hi => by
            rcases Nat.lt_or_ge i j with h | h
            · exact (unhide HI).1 i (by omega)
            · obtain rfl : i = j := by omega
              exact h0
          have HB := hide (unhide HI).2
          have e5 := (last_arith' j hl hlt).1
          have hlt' : j < cs.length := by omega
          have hlt2 : (j : Int) < (cs.length : Int) := by omega
          clear HI HEc HEd HO hk1 hk2
          generalize (cs.getD (j + 1) opZ).k = xk at *
          generalize (cs.getD j opZ).n = xn at *
          generalize hK : j + 1 = K at *
          have hK0 : (0 : Int) ≤ (K : Int) := by omega
          have hK1 : (K : Int) < (cs.length : Int) := by omega
          have hj0 : (0 : Int) ≤ (j : Int) := by omega
          have e6 : (K : Int) - 1 = (j : Int) := by omega
          have e7 : wrap64 (j : Int) = (j : Int) := wrapD _ (by omega) (by omega)
          by_cases hx : xk < xn
          · have HV2 := hide (unhide HV ((unhide HCR).2 hx))
            have s2 : decide (xk < xn) = true := decide_eq_true hx
            clear HV HN HCR hx hK
            go_upto_region 12 with fail
            go_quiet (fail)
            go_wp2_with fail
            rw [unhide HV2]
            refine bodyPost_ret (results_tmp rfl _ _ _) rfl ⟨rfl, below_drewN (unhide HB) _⟩
          · have HN2 := hide (unhide HN (fun h0 => hx ((unhide HCR).1 h0)))
            rw [show j + 2 = K + 1 by omega] at HN2
            have s2 : decide (xk < xn) = false := decide_eq_false hx
            clear HV HN HCR hx hK
            go_upto_region 12 with fail
            go_quiet (fail)
            go_wp2_with fail
            go_roundw
            case rel => exact ⟨K + 1, by go_num, by omega, .inr hlt, hide ⟨unhide HN2, below_drewN (unhide HB) _⟩⟩
            case measure => simp [intOf]; omega
        · have s1 : decide ((k : Int) < (cs.length : Int)) = false := decide_eq_false (by omega)
          have HV := hide (unhide HEd (fun i hi => (unhide HI).1 i (by omega)))
          have HB := hide (unhide HI).2
          have s1' : decide (k < cs.length) = false := decide_eq_false hlt
          clear HEc HEd HI HO hk1 hk2
          go_wp2_with fail
          rw [unhide HV]
          refine bodyPost_ret (results_tmp rfl _ _ _) rfl ⟨rfl, unhide HB⟩

/-- what Of answers -/
def ofD (n : Int) (cs : List Dop) (E : Int) : List Dop × Int := if E = 0 then (if 268435456 < toD (opsC n cs) then ([], 5) else (canA (dA (opsC n cs)), 0)) else ([], E)
set_option maxRecDepth 100000 in
set_option maxHeartbeats 2000000 in
theorem Of_atD (a : Option Addr) (c : Nat) (n : Int) (cs : List Dop) (E : Int) (w : World) (h : IsO w a cs) (hl : cs.length ≤ 4398046511104) (hE : ErrC n cs E) :
    Calls Try.prog 15 #[.int .i64 n, .slice a cs.length c] w fun y w' => ∃ v, y = .returned (.tuple #[v, .int .i64 (ofD n cs E).2]) ∧ w'.ownsRow w.heap.size 34 3 v (ofD n cs E).1.length (opsV (ofD n cs E).1) ∧ Below w.heap.size w w' := by
  have HC := hide (checked_at a c n cs E w h hl hE)
  have hOk := errC_ok hE
  obtain ⟨L, R, hLR⟩ : ∃ L R, ofD n cs E = (L, R) := ⟨_, _, rfl⟩
  rw [hLR]
  dsimp only
  unfold ofD at hLR
  by_cases h0 : E = 0
  · rcases hOk with ⟨_, hn, hok⟩ | hne
    · rw [if_pos h0] at hLR
      subst h0
      obtain ⟨s1, s2⟩ := opsC_sizes hok
      have HZ : Hid (∀ X, Below w.heap.size w X → Calls Try.prog 44 #[.int .i64 n, .slice a cs.length c, .func (.func 45) #[.pointer (some ⟨X.heap.size, 0, none⟩)] #[], .func (.func 46) #[.pointer (some ⟨X.heap.size, 0, none⟩)] #[], .func (.func 47) #[.pointer (some ⟨X.heap.size, 0, none⟩)] #[]]
          (X.alloc (.cells #[.int .i64 0, .int .i64 0] 61)) fun y X' => y = .returned (.tuple #[]) ∧ IsZ X' X.heap.size (satD (frD (opsC n cs))) (satD (toD (opsC n cs))) ∧ Below X.heap.size X X') := hide fun X hx => by
        have ba : Below X.heap.size X (X.alloc (.cells #[.int .i64 0, .int .i64 0] 61)) := (Below.refl _ _).alloc (Nat.le_refl _) _
        exact (eachC_z a c X.heap.size X.heap.size n cs _ (fun Y hY => (h.below hx (Nat.le_refl _)).below (ba.trans hY) (Nat.le_refl _)) (Cls.new _ _ _) (Nat.le_refl _) ba.size hl hn hok).mono fun y Y ⟨e, h1, h2⟩ => ⟨e, h1, ba.trans h2⟩
      have HL := hide fun (X : World) => long_at (satD (frD (opsC n cs))) (satD (toD (opsC n cs))) X (by have := satD_le (frD (opsC n cs)); omega) (by have := satD_le (toD (opsC n cs)); omega)
      have hlo : decide (268435456 < satD (frD (opsC n cs)) ∨ 268435456 < satD (toD (opsC n cs))) = decide (268435456 < toD (opsC n cs)) := by
        have : frD (opsC n cs) ≤ 268435456 := by omega
        rw [decide_eq_decide]; unfold satD; omega
      rw [hlo] at HL
      have HE : Hid (∀ X, Below w.heap.size w X → ¬ 268435456 < toD (opsC n cs) → Calls Try.prog 44 #[.int .i64 n, .slice a cs.length c, .func (.func 37) #[.pointer (some ⟨X.heap.size, 0, none⟩)] #[], .func (.func 38) #[.pointer (some ⟨X.heap.size, 0, none⟩)] #[], .func (.func 39) #[.pointer (some ⟨X.heap.size, 0, none⟩)] #[]]
          (X.alloc (.cells #[.slice none 0 0, .int .i64 0, .slice none 0 0, .int .i64 0] 70))
          fun y X' => y = .returned (.tuple #[]) ∧ (∃ ts, IsBd X' X.heap.size X.heap.size 0 (fun _ => none) (feedA b0 (dA (opsC n cs))) ts ∧ BdOk (feedA b0 (dA (opsC n cs))) ts) ∧ Below X.heap.size X X') := hide fun X hx hto => by
        have ba : Below X.heap.size X (X.alloc (.cells #[.slice none 0 0, .int .i64 0, .slice none 0 0, .int .i64 0] 70)) := (Below.refl _ _).alloc (Nat.le_refl _) _
        refine (eachC_b a c X.heap.size X.heap.size n cs _ (fun Y hY => (h.below hx (Nat.le_refl _)).below (ba.trans hY) (Nat.le_refl _)) (bd_new X) ba.size hl hn hok (by omega)).mono fun y Y ⟨e, ⟨ts, h1⟩, h2⟩ => ⟨e, ⟨ts, h1, bd_ok h1 ?_⟩, ba.trans h2⟩
        have := dA_len (fun o ho => (opsC_ok hok o ho).1)
        omega
      clear h hl hE hok hn s1 s2 hlo
      have HLR := hide hLR
      clear hLR
      generalize satD (frD (opsC n cs)) = F at *
      generalize satD (toD (opsC n cs)) = T at *
      go_enter Try.func15, Try.ntmps15
      go_wp2_with fail
      refine (unhide HC).mono ?_
      rintro y w1 ⟨rfl, x1⟩
      dsimp only
      have HZ1 := hide (unhide HZ w1 x1)
      have HX1 := hide x1
      clear HC HZ x1
      go_upto_region 5 with fail
      generalize w1.alloc (.cells #[.int .i64 0, .int .i64 0] 61) = v1 at *
      generalize hg1 : w1.heap.size = g1 at HZ1 ⊢
      have HXg : Hid (∀ Y, Below g1 w1 Y → Below w.heap.size w Y) := hide fun Y hY => (unhide HX1).trans (hY.mono (by rw [← hg1]; exact (unhide HX1).size))
      clear hg1 HX1
      go_wp2_with fail
      refine (unhide HZ1).mono ?_
      rintro y w2 ⟨rfl, hz2, x2⟩
      dsimp only
      obtain ⟨q0, q1, _, _⟩ := hz2.cells
      have HX2 := hide (unhide HXg w2 x2)
      clear HZ1 HXg x2 hz2
      go_wp2_with fail
      refine (unhide HL w2).mono ?_
      rintro y w3 ⟨rfl, x3⟩
      dsimp only
      have HX3 := hide ((unhide HX2).trans (x3.mono (unhide HX2).size))
      clear HL HX2 x3 q0 q1
      by_cases hto : 268435456 < toD (opsC n cs)
      · have hLR := unhide HLR
        rw [if_pos hto, Prod.mk.injEq] at hLR
        obtain ⟨rfl, rfl⟩ := hLR
        rw [decide_eq_true hto]
        clear HE HLR hto
        go_wp2_with fail
        refine bodyPost_ret (results_tmp2 rfl _ _ _) rfl ⟨.slice none 0 0, rfl, row_nilD _ _, unhide HX3⟩
      · have HE3 := hide (unhide HE w3 (unhide HX3) hto)
        have HCA : Hid (canA (dA (opsC n cs)) = (feedA b0 (dA (opsC n cs))).fin) := hide rfl
        have hLR := unhide HLR
        rw [if_neg hto, Prod.mk.injEq] at hLR
        obtain ⟨hL, rfl⟩ := hLR
        rw [hL] at HCA
        rw [decide_eq_false hto]
        clear HE HLR hto hL
        go_upto_region 9 with fail
        generalize w3.alloc (.cells #[.slice none 0 0, .int .i64 0, .slice none 0 0, .int .i64 0] 70) = v3 at *
        generalize hg : w3.heap.size = g at HE3 ⊢
        have HG : Hid (w.heap.size ≤ g) := hide (by rw [← hg]; exact (unhide HX3).size)
        have HXg : Hid (∀ Y, Below g w3 Y → Below w.heap.size w Y) := hide fun Y hY => (unhide HX3).trans (hY.mono (unhide HG))
        clear hg
        go_wp2_with fail
        refine (unhide HE3).mono ?_
        rintro y w4 ⟨rfl, ⟨ts, hI, hok⟩, x4⟩
        dsimp only
        have HD := hide (bdelta_at g g 0 (fun _ => none) (feedA b0 (dA (opsC n cs))) ts w4 hI hok (Nat.le_of_lt (by obtain ⟨_, _, h1, _⟩ := hI.c; exact h1.lt)))
        rw [← unhide HCA] at HD
        have HX4 := hide x4
        clear hI hok x4 HE3
        go_wp2_with fail
        refine (unhide HD).mono ?_
        rintro y w5 ⟨v, rfl, ho, x5⟩
        dsimp only
        have HO5 : Hid (w5.ownsRow w.heap.size 34 3 v L.length (opsV L)) := hide (own_lower ho (unhide HG))
        have HX5 := hide (unhide HXg w5 ((unhide HX4).trans x5))
        clear HD ho x5
        go_wp2_with fail
        refine bodyPost_ret (results_tmp2 rfl _ _ _) rfl ⟨v, rfl, unhide HO5, unhide HX5⟩
    · exact absurd h0 hne
  · rw [if_neg h0, Prod.mk.injEq] at hLR
    obtain ⟨rfl, rfl⟩ := hLR
    have t1 : (E != 0) = true := by simpa using h0
    clear hOk h hl hE h0
    go_enter Try.func15, Try.ntmps15
    go_wp2_with fail
    refine (unhide HC).mono ?_
    rintro y w1 ⟨rfl, x1⟩
    dsimp only
    clear HC
    go_wp2_with fail
    refine bodyPost_ret (results_tmp2 rfl _ _ _) rfl ⟨.slice none 0 0, rfl, row_nilD _ _, x1⟩

end Go.Proofs.Ytdemagijhmbdcaa
end
