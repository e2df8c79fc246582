/- Layer 13: DeltaApply's walk. · Layer 13: DeltaCanon's walk (written by wip/tools/dsf.py). · Layer 13, plain: canonical deltas are valid; what Apply does is what the atoms do; fit. · Layer 13: the law's fit. · Layer 13: the law's short. · Layer 13: DeltaDoes' walk (written by wip/tools/dsj.py). · Layer 13, plain: what takes a delta back, by its atoms. -/
import Derived.Test.YtifpjdodignflaaRp25
import Derived.Test.YtifpjdodignflaaRp20
import Derived.Test.YtifpjdodignflaaRp22

section
namespace Go.Proofs.Ytifpjdodignflaa
open Go.ChangeShapes Go.WideShapes Go.ChangeAt Go.RowKit
attribute [local go_sem] Oper.semAt_some

def TbB (b : Bld) : Prop := (∀ o ∈ b.ops, TbD o) ∧ ∀ x ∈ b.tx, 0 ≤ x ∧ x ≤ 255
theorem tb_fin {b : Bld} (h : TbB b) : ∀ o ∈ b.fin, TbD o := by
  intro o ho
  unfold Bld.fin at ho
  rcases List.mem_append.1 ho with ho | ho
  · rcases List.mem_append.1 ho with ho | ho
    · rcases List.mem_append.1 ho with ho | ho
      · exact h.1 o ho
      · unfold kO at ho
        split at ho
        · cases ho
        · rw [List.mem_singleton.1 ho]; intro x hx; cases hx
    · unfold pO at ho
      split at ho
      · cases ho
      · rw [List.mem_singleton.1 ho]; exact h.2
  · unfold dO at ho
    split at ho
    · cases ho
    · rw [List.mem_singleton.1 ho]; intro x hx; cases hx
theorem tb_op {b : Bld} {o : Dop} (h : TbB b) (ho : TbD o) : TbB (b.op o) := by
  unfold Bld.op
  split
  · unfold Bld.keep
    split
    · exact h
    · split
      · exact ⟨h.1, fun x hx => by cases hx⟩
      · exact ⟨tb_fin h, fun x hx => by cases hx⟩
  · split
    · refine ⟨h.1, fun x hx => ?_⟩
      rcases List.mem_append.1 hx with hx | hx
      · exact h.2 x hx
      · exact ho x hx
    · exact h
theorem tb_feed : ∀ (e : List Dop) (b : Bld), TbB b → (∀ o ∈ e, TbD o) → TbB (feedD b e)
  | [], _, h, _ => h
  | o :: r, b, h, he => tb_feed r (b.op o) (tb_op h (he o List.mem_cons_self)) (fun q hq => he q (List.mem_cons_of_mem _ hq))
theorem can_tb {e : List Dop} (he : ∀ o ∈ e, TbD o) : ∀ o ∈ canA (dA e), TbD o := by
  unfold canA
  rw [← feedD_A]
  exact tb_fin (tb_feed e b0 ⟨fun o ho => by simp [b0] at ho, fun x hx => by simp [b0] at hx⟩ he)
theorem iv_small {b : List Int} {d : List Dop} (hv : valB d = true) (hf : frD d = b.length) : (canA (dA (ivD b d))).length ≤ 4611686018427387904 := by
  have h1 := can_len (canA_can (dA (ivD b d))).p
  have h2 : (dA (canA (dA (ivD b d)))).length = (dA (ivD b d)).length := fin_len _
  have h3 := (runV_len hv hf d.length (Nat.le_refl _)).2
  have h4 := (valB_nn hv).2
  rw [List.take_length] at h3
  have h5 : (dA (ivD b d)).length ≤ frD d + toD d := h3
  omega
end Go.Proofs.Ytifpjdodignflaa
end

section
namespace Go.Proofs.Ytifpjdodignflaa
open Go.ChangeShapes Go.WideShapes Go.ChangeAt Go.RowKit
attribute [local go_sem] Oper.semAt_some

theorem own_isOC {W : World} {B : Nat} {t : TypeId} {v : Value} {d : List Dop} (h : W.ownsRow B t 3 v d.length (opsV d)) : ∃ a c, v = .slice a d.length c ∧ IsO W a d ∧ d.length ≤ c := by
  have hh := h
  rcases h.2 with ⟨rfl, h0⟩ | ⟨g, cap, cur, rfl, hB, hg, hc, hm, hs, ht⟩
  · have : d = [] := List.length_eq_zero_iff.1 h0
    exact ⟨none, 0, by rw [h0], Or.inl this, by omega⟩
  · refine ⟨some ⟨g, 0, none⟩, cap, rfl, Or.inr ⟨g, 0, rfl, (Array.getElem?_eq_some_iff.1 hg).1, fun k hk => ?_⟩, hc⟩
    have f : ∀ j, j < 3 → W.cell? ⟨g, 0 + (k * 3 + j), none⟩ = (opL (d.getD k opZ))[j]? := fun j hj => by
      have e := opsV_get d k j hk hj
      obtain ⟨u, hu⟩ : ∃ u, (opL (d.getD k opZ))[j]? = some u := ⟨_, List.getElem?_eq_getElem (by simpa [opL] using hj)⟩
      rw [hu] at e ⊢
      have := World.ownsRow.cells hh rfl (k * 3 + j) u e
      rwa [Addr.add_lit] at this
    exact ⟨f 0 (by decide), f 1 (by decide), f 2 (by decide)⟩
theorem can_small {d : List Dop} (hk : ∀ o ∈ d, o.k = 1 ∨ o.k = 2 ∨ o.k = 3) (hl : frD d ≤ 268435456 ∧ toD d ≤ 268435456) : (canA (dA d)).length ≤ 1073741824 := by
  have h1 := dA_len hk
  have h2 := feed_bound (dA d)
  have h3 := fin_lenD (feedA b0 (dA d))
  unfold canA
  omega
theorem canD_len (d : List Dop) : (canD d).1.length ≤ 4611686018427387904 := by
  unfold canD
  cases h1 : d.all knB with
  | false => simp
  | true =>
    cases h2 : lonB d with
    | true => simp
    | false =>
      simp only [if_true, Bool.false_eq_true, if_false]
      have h3 : ¬ (268435456 < frD d ∨ 268435456 < toD d) := of_decide_eq_false h2
      have := can_small (d := d) (fun o ho => kn_k h1 ho) (by omega)
      omega
theorem canD_tb {d : List Dop} (h : ∀ o ∈ d, TbD o) : ∀ o ∈ (canD d).1, TbD o := by
  unfold canD
  split
  · split
    · simp
    · exact can_tb h
  · simp
theorem her_tb {m : Nat} {cs : List Dop} (h : ∀ o ∈ cs, TbD o) : ∀ o ∈ herL m cs, TbD o := by
  unfold herL
  split
  · exact h
  · intro o ho
    rcases List.mem_append.1 ho with ho | ho
    · exact h o ho
    · simp at ho; subst ho; intro x hx; simp at hx
theorem up_tb {f : Dop → Dop} {l : List Dop} (h : ∀ o ∈ l, TbD o) (hf : ∀ x, TbD x → TbD (f x)) : ∀ o ∈ upL f l, TbD o := by
  by_cases hl : l = []
  · subst hl; intro o ho; simp [upL] at ho
  · obtain ⟨e, x, rfl⟩ := list_snoc hl
    rw [upL_snoc]
    intro o ho
    rcases List.mem_append.1 ho with ho | ho
    · exact h o (by simp [ho])
    · simp at ho; subst ho; exact hf x (h x (by simp))
theorem stL_tb {s : Nat × List Dop} {o : Dop} (h : ∀ x ∈ s.2, TbD x) (ho : TbD o) : ∀ x ∈ (stL s o).2, TbD x := by
  unfold stL
  split
  · exact h
  · split
    · exact up_tb (her_tb h) (fun x _ => ho)
    · exact up_tb (her_tb h) (fun x hx => hx)
theorem runL_tb {d : List Dop} (h : ∀ o ∈ d, TbD o) : ∀ s : Nat × List Dop, (∀ x ∈ s.2, TbD x) → ∀ x ∈ (d.foldl stL s).2, TbD x := by
  induction d with
  | nil => intro s hs; exact hs
  | cons o r ih => intro s hs; exact ih (fun x hx => h x (by simp [hx])) _ (stL_tb hs (h o (by simp)))
end Go.Proofs.Ytifpjdodignflaa
end

section
namespace Go.Proofs.Ytifpjdodignflaa

theorem ap_can : ∀ {d : List Dop} (m : Int), (∀ o ∈ d, Pln o) → Chn d → (∀ o, d.head? = some o → apB m (thisN o.k) = true) → apL m d = true
  | [], _, _, _, _ => rfl
  | o :: r, m, hp, hc, hh => by
    have h1 := apL_at (d := o :: r) (k := 0) (by simp) m
    simp only [List.drop_zero, List.getD_cons_zero, Nat.zero_add, List.drop_one, List.tail_cons] at h1
    rw [h1, hh o rfl, Bool.true_and]
    refine ap_can _ (fun q hq => hp q (by simp [hq])) (chn_tail hc) fun q hq => ?_
    cases r with
    | nil => simp at hq
    | cons q' r' =>
      simp only [List.head?_cons, Option.some.injEq] at hq
      subst hq
      have hn : okN o.k q'.k := hc.1
      have ho : o.k = 1 ∨ o.k = 2 ∨ o.k = 3 := by rcases hp o (by simp) with ⟨h | h, _⟩ | ⟨h, _⟩ <;> omega
      have hq : q'.k = 1 ∨ q'.k = 2 ∨ q'.k = 3 := by rcases hp q' (by simp) with ⟨h | h, _⟩ | ⟨h, _⟩ <;> omega
      unfold okN at hn
      rcases ho with h | h | h <;> rcases hq with h' | h' | h' <;> rw [h, h'] at hn ⊢ <;> first | rfl | decide | (exfalso; revert hn; decide)
theorem pl_all {d : List Dop} (h : ∀ o ∈ d, Pln o) : d.all plB = true := by
  rw [List.all_eq_true]
  intro o ho
  unfold plB
  rcases h o ho with ⟨h1, h2, h3⟩ | ⟨h1, h2, h3⟩
  · rw [if_neg (by omega), h3]; simp; omega
  · rw [if_pos h1, h2]
    cases ht : o.t with
    | nil => exact absurd ht h3
    | cons a r => rfl
theorem can_val {d : List Dop} (h : Can d) (hf : frD d ≤ 268435456) (ht : toD d ≤ 268435456) : valB d = true := by
  unfold valB
  have h2 : lonB d = false := decide_eq_false (by omega)
  rw [pl_all h.p, ap_can 7 h.p h.c (fun o ho => ?_), h2]
  · rfl
  · have hm := List.mem_of_mem_head? (l := d) (a := o) (by rw [ho]; rfl)
    rcases h.p o hm with ⟨h | h, _⟩ | ⟨h, _⟩ <;> rw [h] <;> decide
theorem can_kinds {d : List Dop} (h : Can d) : ∀ o ∈ d, o.k = 1 ∨ o.k = 2 ∨ o.k = 3 := fun o ho => by
  rcases h.p o ho with ⟨h | h, _⟩ | ⟨h, _⟩ <;> omega
/-- what canA of atoms is: canonical, of their sizes -/
theorem canA_val {u : List Atm} (hf : frA u ≤ 268435456) (ht : toA u ≤ 268435456) : valB (canA u) = true ∧ frD (canA u) = frA u ∧ toD (canA u) = toA u ∧ dA (canA u) = nfA u := by
  have h1 := canA_can u
  have h2 := frA_dA (can_kinds h1)
  rw [canA_atoms, fr_nf, to_nf] at h2
  exact ⟨can_val h1 (by omega) (by omega), h2.1.symm, h2.2.symm, canA_atoms u⟩
theorem appA_k : ∀ (n : Nat) (xs : List Int) (u : List Atm), n ≤ xs.length → appA xs (List.replicate n .k ++ u) = xs.take n ++ appA (xs.drop n) u
  | 0, xs, u, _ => by simp
  | n + 1, [], u, h => by simp at h
  | n + 1, x :: xs, u, h => by
    have := appA_k n xs u (by simpa using h)
    rw [List.replicate_succ, List.cons_append]
    simp [appA, this]
theorem appA_d : ∀ (n : Nat) (xs : List Int) (u : List Atm), n ≤ xs.length → appA xs (List.replicate n .d ++ u) = appA (xs.drop n) u
  | 0, xs, u, _ => by simp
  | n + 1, [], u, h => by simp at h
  | n + 1, x :: xs, u, h => by
    have := appA_d n xs u (by simpa using h)
    rw [List.replicate_succ, List.cons_append]
    simp [appA, this]
theorem appA_p : ∀ (t : List Int) (xs : List Int) (u : List Atm), appA xs (t.map .p ++ u) = t ++ appA xs u
  | [], xs, u => by simp
  | x :: t, xs, u => by
    rw [List.map_cons, List.cons_append]
    simp [appA, appA_p t xs u]
/-- Apply does what the atoms do -/
theorem apD_app : ∀ (d : List Dop) (b out : List Int), (∀ o ∈ d, Pln o) → frD d = b.length → (d.foldl stW (b, out)).2 = out ++ appA b (dA d)
  | [], b, out, _, h => by
    have : b = [] := List.length_eq_zero_iff.1 (by simpa [frD] using h.symm)
    subst this
    simp [dA, appA]
  | o :: r, b, out, hp, h => by
    have e : frD (o :: r) = frN o + frD r := by simp [frD]
    rw [List.foldl_cons, dA_cons]
    rcases hp o (by simp) with ⟨h1 | h1, h2, h3⟩ | ⟨h1, h2, h3⟩
    · have ef : frN o = o.n.toNat := by simp [frN, h1]
      have eo : opA o = List.replicate o.n.toNat .k := by simp [opA, h1]
      rw [eo, appA_k _ _ _ (by omega), show stW (b, out) o = (b.drop o.n.toNat, out ++ b.take o.n.toNat) by simp [stW, h1], apD_app r _ _ (fun q hq => hp q (by simp [hq])) (by simp; omega), List.append_assoc]
    · have ef : frN o = o.n.toNat := by simp [frN, h1]
      have eo : opA o = List.replicate o.n.toNat .d := by simp [opA, h1]
      rw [eo, appA_d _ _ _ (by omega), show stW (b, out) o = (b.drop o.n.toNat, out) by simp [stW, h1], apD_app r _ _ (fun q hq => hp q (by simp [hq])) (by simp; omega)]
    · have ef : frN o = 0 := by simp [frN, h1]
      have eo : opA o = o.t.map .p := by simp [opA, h1]
      rw [eo, appA_p, show stW (b, out) o = (b, out ++ o.t) by simp [stW, h1], apD_app r _ _ (fun q hq => hp q (by simp [hq])) (by omega), List.append_assoc]
theorem apD_is {d : List Dop} {b : List Int} (hv : valB d = true) (hf : frD d = b.length) : apD b d = appA b (dA d) := by
  have hp : ∀ o ∈ d, Pln o := fun o ho => by
    rcases valB_op hv ho with ⟨h1, h2, h3⟩ | ⟨h1, h2, h3⟩
    · exact .inl ⟨h1, h2, h3⟩
    · exact .inr ⟨h1, h2, h3⟩
  have := apD_app d b [] hp hf
  simpa [apD, runW] using this
/-- fit: one more operation -/
def ftS (s : Nat × List Dop) (x : Dop) : Nat × List Dop := if x.k = 2 then (s.1, s.2 ++ [x]) else if (s.1 : Int) < x.n then (if 0 < s.1 then (0, s.2 ++ [⟨x.k, s.1, x.t⟩]) else s) else if 0 < x.n then (s.1 - x.n.toNat, s.2 ++ [x]) else s
def runF (n : Nat) (d : List Dop) : Nat × List Dop := d.foldl ftS (n, [])
theorem runF_take (n : Nat) (d : List Dop) {k : Nat} (hk : k < d.length) : runF n (d.take (k + 1)) = ftS (runF n (d.take k)) (d.getD k opZ) := by
  unfold runF
  rw [List.take_add_one, List.foldl_append]
  simp [List.getElem?_eq_getElem hk, List.getD]
/-- what lies in fit's list so far -/
structure FtK (n : Nat) (T : Nat) (s : Nat × List Dop) : Prop where
  f : frD s.2 + s.1 = n
  t : toD s.2 + s.1 ≤ n + T
  k : ∀ o ∈ s.2, (o.k = 1 ∨ o.k = 2 ∨ o.k = 3) ∧ (o.k ≠ 2 → 0 < o.n) ∧ TbD o ∧ o.t.length ≤ 140737488355328
theorem frD_snoc (d : List Dop) (o : Dop) : frD (d ++ [o]) = frD d + frN o := by simp [frD]
theorem toD_snoc (d : List Dop) (o : Dop) : toD (d ++ [o]) = toD d + toN o := by simp [toD]
theorem FtK.step {n T : Nat} {s : Nat × List Dop} {x : Dop} (h : FtK n T s) (hk : x.k = 1 ∨ x.k = 2 ∨ x.k = 3) (hb : TbD x ∧ x.t.length ≤ 140737488355328) : FtK n (T + x.t.length) (ftS s x) := by
  obtain ⟨h1, h2, h3⟩ := h
  have old : FtK n (T + x.t.length) s := ⟨h1, by omega, h3⟩
  have push : ∀ (y : Dop), y.t = x.t → y.k = x.k → (y.k ≠ 2 → 0 < y.n) → ∀ o ∈ s.2 ++ [y], (o.k = 1 ∨ o.k = 2 ∨ o.k = 3) ∧ (o.k ≠ 2 → 0 < o.n) ∧ TbD o ∧ o.t.length ≤ 140737488355328 := fun y e1 e2 e3 o ho => by
    rcases List.mem_append.1 ho with ho | ho
    · exact h3 o ho
    · simp at ho; subst ho
      exact ⟨by omega, e3, by unfold TbD; rw [e1]; exact hb.1, by rw [e1]; exact hb.2⟩
  unfold ftS
  by_cases c2 : x.k = 2
  · rw [if_pos c2]
    refine ⟨?_, ?_, push x rfl rfl (fun h => absurd c2 h)⟩
    · dsimp only; rw [frD_snoc]; simp [frN, c2]; omega
    · dsimp only; rw [toD_snoc]; simp [toN, c2]; omega
  · rw [if_neg c2]
    by_cases c3 : (s.1 : Int) < x.n
    · rw [if_pos c3]
      by_cases c4 : 0 < s.1
      · rw [if_pos c4]
        refine ⟨?_, ?_, push ⟨x.k, s.1, x.t⟩ rfl rfl (fun _ => by dsimp only; omega)⟩
        · dsimp only; rw [frD_snoc]; simp only [frN]; rw [if_pos (by omega)]; simp; omega
        · dsimp only; rw [toD_snoc]; simp only [toN, c2, if_false]; split <;> simp <;> omega
      · rw [if_neg c4]; exact old
    · rw [if_neg c3]
      by_cases c4 : 0 < x.n
      · rw [if_pos c4]
        refine ⟨?_, ?_, push x rfl rfl (fun _ => c4)⟩
        · dsimp only; rw [frD_snoc]; simp only [frN]; rw [if_pos (by omega)]; omega
        · dsimp only; rw [toD_snoc]; simp only [toN, c2, if_false]; split <;> omega
      · rw [if_neg c4]; exact old
def smT (d : List Dop) : Nat := (d.map fun o => o.t.length).sum
theorem smT_take (d : List Dop) {k : Nat} (hk : k < d.length) : smT (d.take (k + 1)) = smT (d.take k) + (d.getD k opZ).t.length := sumD_take (fun o => o.t.length) d hk
theorem runF_ok {d : List Dop} {n : Nat} (hk : ∀ o ∈ d, (o.k = 1 ∨ o.k = 2 ∨ o.k = 3) ∧ TbD o ∧ o.t.length ≤ 140737488355328) : ∀ k, k ≤ d.length → FtK n (smT (d.take k)) (runF n (d.take k))
  | 0, _ => ⟨by simp [runF, frD], by simp [runF, toD, smT], by simp [runF]⟩
  | k + 1, h => by
    have hm := hk _ (getD_memD (d := d) (k := k) (by omega))
    rw [runF_take n d (by omega), smT_take d (by omega)]
    exact (runF_ok hk k (by omega)).step hm.1 hm.2
/-- the list that fit hands to Canon -/
def fitO (d : List Dop) (n : Nat) : List Dop := (runF n d).2 ++ [⟨1, ((runF n d).1 : Int), []⟩]
theorem fitO_ok {d : List Dop} {n : Nat} (hk : ∀ o ∈ d, (o.k = 1 ∨ o.k = 2 ∨ o.k = 3) ∧ TbD o ∧ o.t.length ≤ 140737488355328) (hs : n + smT d ≤ 268435456) : frD (fitO d n) = n ∧ toD (fitO d n) ≤ n + smT d ∧ canD (fitO d n) = (canA (dA (fitO d n)), 0) ∧ (∀ o ∈ fitO d n, TbD o ∧ o.t.length ≤ 140737488355328) ∧ (∀ o ∈ fitO d n, o.k = 1 ∨ o.k = 2 ∨ o.k = 3) := by
  have h := runF_ok (n := n) hk d.length (Nat.le_refl _)
  rw [List.take_length] at h
  obtain ⟨h1, h2, h3⟩ := h
  have f1 : frD (fitO d n) = n := by unfold fitO; rw [frD_snoc]; simp [frN]; omega
  have f2 : toD (fitO d n) ≤ n + smT d := by unfold fitO; rw [toD_snoc]; simp [toN]; omega
  have f3 : ∀ o ∈ fitO d n, ((o.k = 1 ∨ o.k = 2 ∨ o.k = 3) ∧ (o.k ≠ 2 → 0 ≤ o.n)) ∧ TbD o ∧ o.t.length ≤ 140737488355328 := fun o ho => by
    rcases List.mem_append.1 ho with ho | ho
    · obtain ⟨g1, g2, g3, g4⟩ := h3 o ho
      exact ⟨⟨g1, fun h => by have := g2 h; omega⟩, g3, g4⟩
    · simp at ho; subst ho
      exact ⟨⟨.inl rfl, fun _ => by dsimp only; omega⟩, fun x hx => by simp at hx, by simp⟩
  refine ⟨f1, f2, ?_, fun o ho => (f3 o ho).2, fun o ho => (f3 o ho).1.1⟩
  have hkn : (fitO d n).all knB = true := by
    rw [List.all_eq_true]
    intro o ho
    obtain ⟨⟨g1, g2⟩, _⟩ := f3 o ho
    unfold knB
    rcases g1 with g | g | g
    · have := g2 (by omega); simp [g, this]
    · simp [g]
    · have := g2 (by omega); simp [g, this]
  have hlo : lonB (fitO d n) = false := decide_eq_false (by omega)
  unfold canD
  rw [hkn, hlo]
  rfl
/-- what fit answers: valid, of n bytes -/
def fitD (d : List Dop) (n : Nat) : List Dop := canA (dA (fitO d n))
theorem fitD_ok {d : List Dop} {n : Nat} (hk : ∀ o ∈ d, (o.k = 1 ∨ o.k = 2 ∨ o.k = 3) ∧ TbD o ∧ o.t.length ≤ 140737488355328) (hs : n + smT d ≤ 268435456) : valB (fitD d n) = true ∧ frD (fitD d n) = n ∧ toD (fitD d n) ≤ n + smT d ∧ (∀ o ∈ fitD d n, TbD o) := by
  obtain ⟨h1, h2, _, h4, h5⟩ := fitO_ok hk hs
  have h6 := frA_dA h5
  obtain ⟨v1, v2, v3, _⟩ := canA_val (u := dA (fitO d n)) (by omega) (by omega)
  exact ⟨v1, by unfold fitD; omega, by unfold fitD; omega, can_tb fun o ho => (h4 o ho).1⟩

end Go.Proofs.Ytifpjdodignflaa
end

section
namespace Go.Proofs.Ytifpjdodignflaa
open Go.ChangeShapes Go.WideShapes Go.ChangeAt Go.RowKit
attribute [local go_sem] Oper.semAt_some

theorem runF_len (n : Nat) (d : List Dop) : ∀ k, k ≤ d.length → (runF n (d.take k)).2.length ≤ k
  | 0, _ => by simp [runF]
  | k + 1, h => by
    have ih := runF_len n d k (by omega)
    rw [runF_take n d (by omega)]
    unfold ftS
    split
    · simp; omega
    · split
      · split
        · simp; omega
        · omega
      · split
        · simp; omega
        · omega
theorem runF_n (n : Nat) (d : List Dop) : ∀ k, k ≤ d.length → (runF n (d.take k)).1 ≤ n
  | 0, _ => by simp [runF]
  | k + 1, h => by
    have ih := runF_n n d k (by omega)
    rw [runF_take n d (by omega)]
    unfold ftS
    split
    · exact ih
    · split
      · split
        · simp
        · exact ih
      · split
        · dsimp only; omega
        · exact ih
structure FtI (d : List Dop) (n k m : Nat) (L : List Dop) (v : Value) (w X : World) : Prop where
  e : runF n (d.take k) = (m, L)
  o : X.ownsRow w.heap.size 54 3 v L.length (opsV L)
  d : Below w.heap.size w X
/-- a list grows by what lies in a block of the call's own -/
theorem ft_push {w X : World} {v : Value} {L : List Dop} (ho : X.ownsRow w.heap.size 54 3 v L.length (opsV L)) (hd : Below w.heap.size w X) (hl : L.length ≤ 1000000) (k n : Int) (s : ByteArray) (y : Dop) (hy : opL y = [.int .i64 k, .int .i64 n, .string s]) :
    ∃ g c W', (Builtin.append_ #[39, 39] 39 #[v, .slice (some ⟨X.heap.size, 0, none⟩) 1 1]).run Try.prog (X.alloc (.cells #[.int .i64 k, .int .i64 n, .string s] 54)) = .ok (.slice (some ⟨g, 0, none⟩) (L.length + 1) c) W' ∧
      W'.ownsRow w.heap.size 54 3 (.slice (some ⟨g, 0, none⟩) (L.length + 1) c) (L ++ [y]).length (opsV (L ++ [y])) ∧ Below w.heap.size w W' := by
  obtain ⟨g, c, W', r, o, _, b⟩ := push_op X w.heap.size L.length v (opsV L) k n s 39 ho (by omega) hd.size
  rw [← hy, ← opsV_one, ← opsV_app] at o
  refine ⟨g, c, W', r, ?_, hd.trans b⟩
  rw [show (L ++ [y]).length = L.length + 1 by simp]
  exact o
end Go.Proofs.Ytifpjdodignflaa
end

section
namespace Go.Proofs.Ytifpjdodignflaa
open Go.ChangeShapes Go.WideShapes Go.ChangeAt Go.RowKit
attribute [local go_sem] Oper.semAt_some

/-- a list that may be worked through -/
def ShD (d : List Dop) : Prop := d.length ≤ 200 ∧ (∀ o ∈ d, o.k = 1 ∨ o.k = 2 ∨ o.k = 3) ∧ smT d ≤ 5000
structure Dl where
  a : Option Addr
  c : Nat
  d : List Dop
def dlZ : Dl := ⟨none, 0, []⟩
/-- lists of operations that lie in a row of slices -/
structure IsDs (w X : World) (G : Nat) (ds : List Dl) : Prop where
  c : ∀ i, i < ds.length → X.cell? ⟨G, i, none⟩ = some (.slice (ds.getD i dlZ).a (ds.getD i dlZ).d.length (ds.getD i dlZ).c)
  o : ∀ i, i < ds.length → IsO w (ds.getD i dlZ).a (ds.getD i dlZ).d ∧ (∀ o ∈ (ds.getD i dlZ).d, o.t.length ≤ 140737488355328)
  g : G < X.heap.size
theorem IsDs.on {w X Y : World} {G : Nat} {ds : List Dl} (h : IsDs w X G ds) (hb : Below X.heap.size X Y) : IsDs w Y G ds :=
  ⟨fun i hi => (hb.cell (p := ⟨G, i, none⟩) h.g).trans (h.c i hi), h.o, Nat.lt_of_lt_of_le h.g hb.size⟩
theorem smT_le {d : List Dop} (ht : ∀ o ∈ d, o.t.length ≤ 140737488355328) : ∀ k, k ≤ d.length → smT (d.take k) ≤ k * 140737488355328
  | 0, _ => by simp [smT]
  | k + 1, h => by
    have ih := smT_le ht k (by omega)
    have := ht _ (getD_memD (d := d) (k := k) (by omega))
    rw [smT_take d (by omega)]
    omega
end Go.Proofs.Ytifpjdodignflaa
end

section
namespace Go.Proofs.Ytifpjdodignflaa
open Go.ChangeShapes Go.WideShapes Go.ChangeAt Go.RowKit
attribute [local go_sem] Oper.semAt_some

theorem mem_ins : ∀ {a : List Atm} {x : Int}, Atm.p x ∈ insD a → Atm.p x ∈ a
  | [], x, h => by simp [insD] at h
  | .k :: a, x, h => by simp [insD] at h; simp [h]
  | .d :: a, x, h => by simp [insD] at h; simp [h]
  | .p y :: a, x, h => by
    simp only [insD, List.mem_cons] at h ⊢
    rcases h with h | h
    · exact .inl h
    · exact .inr (mem_ins h)
theorem mem_nf : ∀ {a : List Atm} {x : Int}, Atm.p x ∈ nfA a → Atm.p x ∈ a
  | [], x, h => by simp [nfA] at h
  | .k :: a, x, h => by simp only [nfA, List.mem_cons] at h ⊢; exact h.elim .inl fun h => .inr (mem_nf h)
  | .p y :: a, x, h => by simp only [nfA, List.mem_cons] at h ⊢; exact h.elim .inl fun h => .inr (mem_nf h)
  | .d :: a, x, h => by simp only [nfA] at h; exact List.mem_cons_of_mem _ (mem_nf (mem_ins h))
theorem mem_puts : ∀ {b : List Atm} {x : Int}, Atm.p x ∈ putsA b → Atm.p x ∈ b
  | [], x, h => by simp [putsA] at h
  | .k :: b, x, h => by simp only [putsA] at h; exact List.mem_cons_of_mem _ (mem_puts h)
  | .d :: b, x, h => by simp only [putsA] at h; exact List.mem_cons_of_mem _ (mem_puts h)
  | .p y :: b, x, h => by simp only [putsA, List.mem_cons] at h ⊢; exact h.elim .inl fun h => .inr (mem_puts h)
theorem mem_thr {P : Int → Prop} {f : List Atm → List Atm} {y : Option Int} (hy : ∀ z, y = some z → P z) (hf : ∀ (b : List Atm), (∀ z, Atm.p z ∈ b → P z) → ∀ z, Atm.p z ∈ f b → P z) : ∀ (b : List Atm), (∀ z, Atm.p z ∈ b → P z) → ∀ z, Atm.p z ∈ thrA f y b → P z
  | [], hb, z, h => hf [] hb z (by simpa [thrA] using h)
  | .p x :: b, hb, z, h => by
    simp only [thrA, List.mem_cons] at h
    rcases h with h | h
    · exact hb z (by simp [h])
    · exact mem_thr hy hf b (fun q hq => hb q (by simp [hq])) z h
  | .k :: b, hb, z, h => by
    simp only [thrA, List.mem_cons] at h
    rcases h with h | h
    · cases y with
      | none => cases h
      | some q => simp at h; exact hy z (by rw [h])
    · exact hf b (fun q hq => hb q (by simp [hq])) z h
  | .d :: b, hb, z, h => by
    cases y with
    | none => simp [thrA] at h; exact hf b (fun q hq => hb q (by simp [hq])) z h
    | some q => simp only [thrA] at h; exact hf b (fun q hq => hb q (by simp [hq])) z h
theorem mem_cmp {P : Int → Prop} : ∀ (a : List Atm), (∀ z, Atm.p z ∈ a → P z) → ∀ (b : List Atm), (∀ z, Atm.p z ∈ b → P z) → ∀ z, Atm.p z ∈ cmpA a b → P z
  | [], _, b, hb, z, h => hb z (mem_puts h)
  | .d :: a, ha, b, hb, z, h => by
    simp [cmpA] at h
    exact mem_cmp a (fun q hq => ha q (by simp [hq])) b hb z h
  | .k :: a, ha, b, hb, z, h => mem_thr (y := none) (fun q hq => by cases hq) (mem_cmp a (fun q hq => ha q (by simp [hq]))) b hb z h
  | .p y :: a, ha, b, hb, z, h => mem_thr (y := some y) (fun q hq => by cases hq; exact ha y (by simp)) (mem_cmp a (fun q hq => ha q (by simp [hq]))) b hb z h
def By1 (x : Int) : Prop := 0 ≤ x ∧ x ≤ 255
theorem dA_by {d : List Dop} (h : ∀ o ∈ d, TbD o) : ∀ z, Atm.p z ∈ dA d → By1 z := fun z hz => by
  obtain ⟨o, ho, hm⟩ := List.mem_flatMap.1 hz
  unfold opA at hm
  split at hm
  · exact absurd (List.eq_of_mem_replicate hm) (by simp)
  · split at hm
    · obtain ⟨y, hy, e⟩ := List.mem_map.1 hm
      cases e
      exact h o ho z hy
    · exact absurd (List.eq_of_mem_replicate hm) (by simp)
theorem canA_tb {u : List Atm} (h : ∀ z, Atm.p z ∈ u → By1 z) : ∀ o ∈ canA u, TbD o := fun o ho x hx => by
  rcases (canA_can u).p o ho with ⟨_, _, h3⟩ | ⟨h1, _, _⟩
  · rw [h3] at hx; simp at hx
  · refine h x (mem_nf ?_)
    rw [← canA_atoms]
    exact List.mem_flatMap.2 ⟨o, ho, by simp only [opA, h1]; simp; exact hx⟩
/-- what fits -/
theorem fit_zero {d : List Dop} {n : Nat} (hv : valB d = true) (hf : frD d = n) : fitE d n = 0 := by unfold fitE; rw [hv, hf]; simp
theorem ap_zero {d : List Dop} {b : List Int} (hv : valB d = true) (hf : frD d = b.length) : apE b d = apD b d := by unfold apE; rw [fit_zero hv hf]; simp
theorem val_small {d : List Dop} (hv : valB d = true) : d.length ≤ 4611686018427387904 ∧ d.length * 32 ≤ 140737488355328 := by have := val_len hv; omega
/-- two deltas one behind the other -/
structure TwoD (A C : List Dop) : Prop where
  e : cmE A C = 0
  d : cmD A C = canA (cmpA (dA A) (dA C))
  v : valB (cmD A C) = true
  f : frD (cmD A C) = frD A
  t : toD (cmD A C) = toD C
  a : dA (cmD A C) = nfA (cmpA (dA A) (dA C))
  q : toA (dA A) = frA (dA C)
theorem two_ok {A C : List Dop} (hA : valB A = true) (hC : valB C = true) (hf : toD A = frD C) : TwoD A C := by
  have he : cmE A C = 0 := by unfold cmE; rw [hA, hC, hf]; simp
  have hd : cmD A C = canA (cmpA (dA A) (dA C)) := by unfold cmD; rw [if_pos he]
  obtain ⟨s1, s2, s3, _⟩ := cmp_sizes hA hC hf
  have h5 := (valB_nn hA).2
  have h6 := (valB_nn hC).2
  obtain ⟨v1, v2, v3, v4⟩ := canA_val (u := cmpA (dA A) (dA C)) (by omega) (by omega)
  exact ⟨he, hd, by rw [hd]; exact v1, by rw [hd]; omega, by rw [hd]; omega, by rw [hd]; exact v4, s1⟩
theorem two_tb {A C : List Dop} (hA : ∀ o ∈ A, TbD o) (hC : ∀ o ∈ C, TbD o) : ∀ o ∈ cmD A C, TbD o := by
  unfold cmD
  split
  · exact canA_tb (mem_cmp _ (dA_by hA) _ (dA_by hC))
  · simp
theorem two_app {A C : List Dop} {b : List Int} (hA : valB A = true) (hC : valB C = true) (hf : toD A = frD C) (hb : frD A = b.length) : apD b (cmD A C) = apD (apD b A) C := by
  have h := two_ok hA hC hf
  have k := frA_dA (valB_k hA)
  rw [apD_is h.v (h.f.trans hb), h.a, app_nf, app_cmp _ _ _ (by omega) h.q, ← apD_is hA hb, ← apD_is hC (by rw [ap_len hA hb]; exact hf.symm)]
end Go.Proofs.Ytifpjdodignflaa
end

section
namespace Go.Proofs.Ytifpjdodignflaa

theorem invA_k : ∀ (n : Nat) (xs : List Int) (u : List Atm), invA xs (List.replicate n .k ++ u) = List.replicate n .k ++ invA (xs.drop n) u
  | 0, xs, u => by simp
  | n + 1, xs, u => by
    rw [List.replicate_succ, List.cons_append, List.cons_append]
    simp only [invA]
    rw [invA_k n (xs.drop 1) u, List.drop_drop, Nat.add_comm 1 n]
theorem invA_d : ∀ (n : Nat) (xs : List Int) (u : List Atm), n ≤ xs.length → invA xs (List.replicate n .d ++ u) = (xs.take n).map .p ++ invA (xs.drop n) u
  | 0, xs, u, _ => by simp
  | n + 1, [], u, h => by simp at h
  | n + 1, x :: xs, u, h => by
    have := invA_d n xs u (by simpa using h)
    rw [List.replicate_succ, List.cons_append]
    simp only [invA, List.headD_cons, List.drop_succ_cons, List.drop_zero, this]
    simp
theorem invA_p : ∀ (t : List Int) (xs : List Int) (u : List Atm), invA xs (t.map .p ++ u) = List.replicate t.length .d ++ invA xs u
  | [], xs, u => by simp
  | x :: t, xs, u => by
    rw [List.map_cons, List.cons_append, List.length_cons, List.replicate_succ, List.cons_append]
    simp only [invA]
    rw [invA_p t xs u]
theorem ivD_app : ∀ (d : List Dop) (b : List Int) (out : List Dop), (∀ o ∈ d, Pln o) → frD d = b.length → dA (d.foldl stV (b, out)).2 = dA out ++ invA b (dA d)
  | [], b, out, _, _ => by simp [dA, invA]
  | o :: r, b, out, hp, h => by
    have e : frD (o :: r) = frN o + frD r := by simp [frD]
    rw [List.foldl_cons, dA_cons]
    rcases hp o (by simp) with ⟨h1 | h1, h2, h3⟩ | ⟨h1, h2, h3⟩
    · have ef : frN o = o.n.toNat := by simp [frN, h1]
      have eo : opA o = List.replicate o.n.toNat .k := by simp [opA, h1]
      rw [eo, invA_k, show stV (b, out) o = (b.drop o.n.toNat, out ++ [⟨1, o.n, []⟩]) by simp [stV, h1], ivD_app r _ _ (fun q hq => hp q (by simp [hq])) (by simp; omega), dA_app, List.append_assoc]
      congr 1
      rw [show dA [(⟨1, o.n, []⟩ : Dop)] = List.replicate o.n.toNat .k by simp [dA, opA]]
    · have ef : frN o = o.n.toNat := by simp [frN, h1]
      have eo : opA o = List.replicate o.n.toNat .d := by simp [opA, h1]
      rw [eo, invA_d _ _ _ (by omega), show stV (b, out) o = (b.drop o.n.toNat, out ++ [⟨2, 0, b.take o.n.toNat⟩]) by simp [stV, h1], ivD_app r _ _ (fun q hq => hp q (by simp [hq])) (by simp; omega), dA_app, List.append_assoc]
      congr 1
      rw [show dA [(⟨2, 0, b.take o.n.toNat⟩ : Dop)] = (b.take o.n.toNat).map .p by simp [dA, opA]]
    · have ef : frN o = 0 := by simp [frN, h1]
      have eo : opA o = o.t.map .p := by simp [opA, h1]
      rw [eo, invA_p, show stV (b, out) o = (b, out ++ [⟨3, (o.t.length : Int), []⟩]) by simp [stV, h1], ivD_app r _ _ (fun q hq => hp q (by simp [hq])) (by omega), dA_app, List.append_assoc]
      congr 1
      rw [show dA [(⟨3, (o.t.length : Int), []⟩ : Dop)] = List.replicate o.t.length .d by simp [dA, opA]]
theorem val_pln {d : List Dop} (hv : valB d = true) : ∀ o ∈ d, Pln o := fun o ho => by
  rcases valB_op hv ho with ⟨h1, h2, h3⟩ | ⟨h1, h2, h3⟩
  · exact .inl ⟨h1, h2, h3⟩
  · exact .inr ⟨h1, h2, h3⟩
theorem ivD_is {d : List Dop} {b : List Int} (hv : valB d = true) (hf : frD d = b.length) : dA (ivD b d) = invA b (dA d) := by
  have := ivD_app d b [] (val_pln hv) hf
  simpa [ivD, runV, dA] using this
/-- a delta's inverse: valid, of the text that it makes, and it takes back -/
structure InvD (b : List Int) (d : List Dop) : Prop where
  e : fitE d b.length = 0
  i : invD b d = canA (invA b (dA d))
  v : valB (invD b d) = true
  f : frD (invD b d) = toD d
  t : toD (invD b d) = b.length
  a : dA (invD b d) = nfA (invA b (dA d))
theorem inv_ok {b : List Int} {d : List Dop} (hv : valB d = true) (hf : frD d = b.length) : InvD b d := by
  have he := fit_zero hv hf
  have hi : invD b d = canA (invA b (dA d)) := by unfold invD; rw [if_pos he, ivD_is hv hf]
  have h1 := inv_fr (dA d) b
  have h2 := frA_dA (valB_k hv)
  have h3 := (valB_nn hv).2
  obtain ⟨v1, v2, v3, v4⟩ := canA_val (u := invA b (dA d)) (by omega) (by omega)
  exact ⟨he, hi, by rw [hi]; exact v1, by rw [hi]; omega, by rw [hi]; omega, by rw [hi]; exact v4⟩
theorem inv_back {b : List Int} {d : List Dop} (hv : valB d = true) (hf : frD d = b.length) : apD (apD b d) (invD b d) = b := by
  have h := inv_ok hv hf
  have h2 := frA_dA (valB_k hv)
  rw [apD_is h.v (h.f.trans (ap_len hv hf).symm), h.a, app_nf, apD_is hv hf, app_inv _ _ (by omega)]
theorem inv_again {b : List Int} {d : List Dop} (hv : valB d = true) (hf : frD d = b.length) (hc : canA (dA d) = d) : invD (apD b d) (invD b d) = d := by
  have h := inv_ok hv hf
  have h2 := frA_dA (valB_k hv)
  have h3 := inv_ok h.v (h.f.trans (ap_len hv hf).symm)
  rw [h3.i, h.a, apD_is hv hf]
  conv => rhs; rw [← hc]
  refine canA_congr ?_
  rw [inv_nf, inv_inv _ _ (by omega)]
/-- what the law wants both to be -/
def bkS (s : List Int × List Dop) (o : Dop) : List Int × List Dop := if o.k = 1 then (s.1.drop o.n.toNat, s.2 ++ [o]) else if o.k = 3 then (s.1.drop o.n.toNat, s.2 ++ [⟨2, 0, s.1.take o.n.toNat⟩, o]) else s
def runB (b : List Int) (d : List Dop) : List Int × List Dop := d.foldl bkS (b, [])
theorem runB_take (b : List Int) (d : List Dop) {k : Nat} (hk : k < d.length) : runB b (d.take (k + 1)) = bkS (runB b (d.take k)) (d.getD k opZ) := by
  unfold runB
  rw [List.take_add_one, List.foldl_append]
  simp [List.getElem?_eq_getElem hk, List.getD]
theorem nf_putsB : ∀ (t : List Int) (u : List Atm), nfA (t.map .p ++ u) = t.map .p ++ nfA u
  | [], u => by simp
  | x :: t, u => by rw [List.map_cons, List.cons_append, List.cons_append]; simp only [nfA]; rw [nf_putsB t u]
theorem ins_puts : ∀ (t : List Int) (u : List Atm), insD (t.map .p ++ u) = t.map .p ++ insD u
  | [], u => by simp
  | x :: t, u => by rw [List.map_cons, List.cons_append, List.cons_append]; simp only [insD]; rw [ins_puts t u]
theorem bak_k : ∀ (n : Nat) (xs : List Int) (u : List Atm), bakA xs (List.replicate n .k ++ u) = List.replicate n .k ++ bakA (xs.drop n) u
  | 0, xs, u => by simp
  | n + 1, xs, u => by
    rw [List.replicate_succ, List.cons_append, List.cons_append]
    simp only [bakA]
    rw [bak_k n (xs.drop 1) u, List.drop_drop, Nat.add_comm 1 n]
theorem bak_p : ∀ (t : List Int) (xs : List Int) (u : List Atm), bakA xs (t.map .p ++ u) = bakA xs u
  | [], xs, u => by simp
  | x :: t, xs, u => by rw [List.map_cons, List.cons_append]; simp only [bakA]; rw [bak_p t xs u]
theorem bak_d : ∀ (n : Nat) (xs : List Int) (u : List Atm), n ≤ xs.length → nfA (bakA xs (List.replicate n .d ++ u)) = nfA ((xs.take n).map .p ++ (List.replicate n .d ++ bakA (xs.drop n) u))
  | 0, xs, u, _ => by simp
  | n + 1, [], u, h => by simp at h
  | n + 1, x :: xs, u, h => by
    have ih := bak_d n xs u (by simpa using h)
    rw [List.replicate_succ, List.cons_append, List.cons_append]
    simp only [bakA, List.headD_cons, List.drop_succ_cons, List.drop_zero, List.take_succ_cons, List.map_cons, List.cons_append, nfA, insD]
    rw [ih, nf_putsB, nf_putsB, ins_puts]
    simp only [nfA]
theorem bak_app : ∀ (d : List Dop) (b : List Int) (out : List Dop) (pre : List Atm), (∀ o ∈ d, Pln o) → frD d = b.length → nfA (dA out) = nfA pre → nfA (dA (d.foldl bkS (b, out)).2) = nfA (pre ++ bakA b (dA d))
  | [], b, out, pre, _, _, h => by simpa [dA, bakA] using h
  | o :: r, b, out, pre, hp, hf, h => by
    have e : frD (o :: r) = frN o + frD r := by simp [frD]
    rw [List.foldl_cons, dA_cons]
    rcases hp o (by simp) with ⟨h1 | h1, h2, h3⟩ | ⟨h1, h2, h3⟩
    · have ef : frN o = o.n.toNat := by simp [frN, h1]
      have eo : opA o = List.replicate o.n.toNat .k := by simp [opA, h1]
      rw [eo, bak_k, show bkS (b, out) o = (b.drop o.n.toNat, out ++ [o]) by simp [bkS, h1], bak_app r _ _ (pre ++ List.replicate o.n.toNat .k) (fun q hq => hp q (by simp [hq])) (by simp; omega) (by rw [dA_app]; refine nf_app h ?_; simp [dA, eo]), List.append_assoc]
    · have ef : frN o = o.n.toNat := by simp [frN, h1]
      have eo : opA o = List.replicate o.n.toNat .d := by simp [opA, h1]
      rw [eo, show bkS (b, out) o = (b.drop o.n.toNat, out ++ [⟨2, 0, b.take o.n.toNat⟩, o]) by simp [bkS, h1], bak_app r _ _ (pre ++ ((b.take o.n.toNat).map .p ++ List.replicate o.n.toNat .d)) (fun q hq => hp q (by simp [hq])) (by simp; omega) (by
        rw [dA_app]
        refine nf_app h ?_
        rw [show dA [(⟨2, 0, b.take o.n.toNat⟩ : Dop), o] = (b.take o.n.toNat).map .p ++ List.replicate o.n.toNat .d by rw [dA_cons]; simp [dA, opA, h1]])]
      rw [List.append_assoc, List.append_assoc]
      exact nf_app_left pre (bak_d _ _ _ (by omega)).symm
    · have ef : frN o = 0 := by simp [frN, h1]
      have eo : opA o = o.t.map .p := by simp [opA, h1]
      rw [eo, bak_p, show bkS (b, out) o = (b, out) by simp [bkS, h1], bak_app r _ _ pre (fun q hq => hp q (by simp [hq])) (by omega) h]
theorem bak_same {b : List Int} {d : List Dop} (hv : valB d = true) (hf : frD d = b.length) : cmD d (invD b d) = canA (dA (runB b d).2) := by
  have h := inv_ok hv hf
  have t := two_ok hv h.v h.f.symm
  rw [t.d]
  refine canA_congr ?_
  have e := bak_app d b [] [] (val_pln hv) hf rfl
  rw [h.a, cmp_nf_right]
  unfold runB
  rw [e, List.nil_append]
  rcases cmp_inv (dA d) b with c | c
  · rw [c]
  · exact c
structure BkK (d : List Dop) (b : List Int) (k : Nat) : Prop where
  r : (runB b (d.take k)).1 = b.drop (frD (d.take k))
  l : (runB b (d.take k)).2.length ≤ 2 * k
  o : ∀ o ∈ (runB b (d.take k)).2, knB o = true ∧ TbD o ∧ o.t.length ≤ b.length
  f : frD (runB b (d.take k)).2 = frD (d.take k)
  t : toD (runB b (d.take k)).2 = frD (d.take k)
theorem bk_ok {d : List Dop} {b : List Int} (hv : valB d = true) (hf : frD d = b.length) (hb : ∀ x ∈ b, 0 ≤ x ∧ x ≤ 255) : ∀ k, k ≤ d.length → BkK d b k
  | 0, _ => ⟨by simp [runB, frD], by simp [runB], by simp [runB], by simp [runB, frD], by simp [runB, frD, toD]⟩
  | k + 1, hk => by
    have ih := bk_ok hv hf hb k (by omega)
    have hx := val_pln hv _ (getD_memD (d := d) (k := k) (by omega))
    have e1 := frD_take d (k := k) (by omega)
    have e2 := (frD_le d (k + 1)).1
    have hs := runB_take b d (k := k) (by omega)
    obtain ⟨i1, i2, i3, i4, i5⟩ := ih
    generalize runB b (d.take k) = s at *
    generalize d.getD k opZ = x at *
    obtain ⟨s1, s2⟩ := s
    dsimp only at i1 i2 i3 i4 i5
    subst i1
    rcases hx with ⟨h1 | h1, h2, h3⟩ | ⟨h1, h2, h3⟩
    · have ef : frN x = x.n.toNat := by simp [frN, h1]
      have et : toN x = x.n.toNat := by simp [toN, h1]
      rw [ef] at e1
      rw [show bkS (b.drop (frD (d.take k)), s2) x = ((b.drop (frD (d.take k))).drop x.n.toNat, s2 ++ [x]) by simp [bkS, h1]] at hs
      refine ⟨by rw [hs, e1, List.drop_drop], by rw [hs]; simp; omega, ?_, by rw [hs, e1]; dsimp only; rw [frD_snoc, ef, i4], by rw [hs, e1]; dsimp only; rw [toD_snoc, et, i5]⟩
      rw [hs]
      intro o ho
      rcases List.mem_append.1 ho with ho | ho
      · exact i3 o ho
      · simp at ho; subst ho
        exact ⟨by unfold knB; simp [h1]; omega, by intro z hz; rw [h3] at hz; simp at hz, by rw [h3]; simp⟩
    · have ef : frN x = x.n.toNat := by simp [frN, h1]
      have et : toN x = 0 := by simp [toN, h1]
      rw [ef] at e1
      have hl : ((b.drop (frD (d.take k))).take x.n.toNat).length = x.n.toNat := by simp; omega
      rw [show bkS (b.drop (frD (d.take k)), s2) x = ((b.drop (frD (d.take k))).drop x.n.toNat, s2 ++ [⟨2, 0, (b.drop (frD (d.take k))).take x.n.toNat⟩] ++ [x]) by simp [bkS, h1]] at hs
      refine ⟨by rw [hs, e1, List.drop_drop], by rw [hs]; simp; omega, ?_, by rw [hs, e1]; dsimp only; rw [frD_snoc, frD_snoc, ef, i4]; simp [frN], by rw [hs, e1]; dsimp only; rw [toD_snoc, toD_snoc, et, i5]; simp [toN]; omega⟩
      rw [hs]
      intro o ho
      rcases List.mem_append.1 ho with ho | ho
      · rcases List.mem_append.1 ho with ho | ho
        · exact i3 o ho
        · simp at ho; subst ho
          refine ⟨by simp [knB], fun z hz => ?_, by dsimp only; rw [hl]; omega⟩
          exact hb z (List.mem_of_mem_drop (List.mem_of_mem_take hz))
      · simp at ho; subst ho
        exact ⟨by unfold knB; simp [h1]; omega, by intro z hz; rw [h3] at hz; simp at hz, by rw [h3]; simp⟩
    · have ef : frN x = 0 := by simp [frN, h1]
      rw [ef] at e1
      rw [show bkS (b.drop (frD (d.take k)), s2) x = (b.drop (frD (d.take k)), s2) by simp [bkS, h1]] at hs
      refine ⟨by rw [hs, e1]; simp, by rw [hs]; dsimp only; omega, by rw [hs]; exact i3, by rw [hs, e1]; exact i4, by rw [hs, e1]; exact i5⟩

end Go.Proofs.Ytifpjdodignflaa
end
