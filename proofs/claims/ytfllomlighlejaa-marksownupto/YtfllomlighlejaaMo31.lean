/- Layer 13: DeltaCanon's walk (written by wip/tools/dsf.py). · Layer 13, plain: canonical deltas are valid; what Apply does is what the atoms do; fit. · Layer 13: the law's fit. · Layer 13: the law's short. · Layer 13: DeltaDoes' walk (written by wip/tools/dsj.py). -/
import Derived.Test.YtfllomlighlejaaMo30
import Derived.Test.YtfllomlighlejaaMo25
import Derived.Test.YtfllomlighlejaaMo27

section
namespace Go.Proofs.Ytfllomlighlejaa
open Go.ChangeShapes Go.WideShapes Go.ChangeAt Go.RowKit
attribute [local go_sem] Oper.semAt_some

theorem own_isOC {W : World} {B : Nat} {t : TypeId} {v : Value} {d : List Dop} (h : W.ownsRow B t 3 v d.length (opsV d)) : ∃ a c, v = .slice a d.length c ∧ IsO W a d ∧ d.length ≤ c := by
  have hh := h
  rcases h.2 with ⟨rfl, h0⟩ | ⟨g, cap, cur, rfl, hB, hg, hc, hm, hs, ht⟩
  · have : d = [] := List.length_eq_zero_iff.1 h0
    exact ⟨none, 0, by rw [h0], Or.inl this, by omega⟩
  · refine ⟨some ⟨g, 0, none⟩, cap, rfl, Or.inr ⟨g, 0, rfl, (Array.getElem?_eq_some_iff.1 hg).1, fun k hk => ?_⟩, hc⟩
    have f : ∀ j, j < 3 → W.cell? ⟨g, 0 + (k * 3 + j), none⟩ = (opL (d.getD k opZ))[j]? := fun j hj => by
      have e := opsV_get d k j hk hj
      obtain ⟨u, hu⟩ : ∃ u, (opL (d.getD k opZ))[j]? = some u := ⟨_, List.getElem?_eq_getElem (by simpa [opL] using hj)⟩
      rw [hu] at e ⊢
      have := World.ownsRow.cells hh rfl (k * 3 + j) u e
      rwa [Addr.add_lit] at this
    exact ⟨f 0 (by decide), f 1 (by decide), f 2 (by decide)⟩
theorem can_small {d : List Dop} (hk : ∀ o ∈ d, o.k = 1 ∨ o.k = 2 ∨ o.k = 3) (hl : frD d ≤ 268435456 ∧ toD d ≤ 268435456) : (canA (dA d)).length ≤ 1073741824 := by
  have h1 := dA_len hk
  have h2 := feed_bound (dA d)
  have h3 := fin_lenD (feedA b0 (dA d))
  unfold canA
  omega
theorem canD_len (d : List Dop) : (canD d).1.length ≤ 4611686018427387904 := by
  unfold canD
  cases h1 : d.all knB with
  | false => simp
  | true =>
    cases h2 : lonB d with
    | true => simp
    | false =>
      simp only [if_true, Bool.false_eq_true, if_false]
      have h3 : ¬ (268435456 < frD d ∨ 268435456 < toD d) := of_decide_eq_false h2
      have := can_small (d := d) (fun o ho => kn_k h1 ho) (by omega)
      omega
theorem canD_tb {d : List Dop} (h : ∀ o ∈ d, TbD o) : ∀ o ∈ (canD d).1, TbD o := by
  unfold canD
  split
  · split
    · simp
    · exact can_tb h
  · simp
theorem her_tb {m : Nat} {cs : List Dop} (h : ∀ o ∈ cs, TbD o) : ∀ o ∈ herL m cs, TbD o := by
  unfold herL
  split
  · exact h
  · intro o ho
    rcases List.mem_append.1 ho with ho | ho
    · exact h o ho
    · simp at ho; subst ho; intro x hx; simp at hx
theorem up_tb {f : Dop → Dop} {l : List Dop} (h : ∀ o ∈ l, TbD o) (hf : ∀ x, TbD x → TbD (f x)) : ∀ o ∈ upL f l, TbD o := by
  by_cases hl : l = []
  · subst hl; intro o ho; simp [upL] at ho
  · obtain ⟨e, x, rfl⟩ := list_snoc hl
    rw [upL_snoc]
    intro o ho
    rcases List.mem_append.1 ho with ho | ho
    · exact h o (by simp [ho])
    · simp at ho; subst ho; exact hf x (h x (by simp))
theorem stL_tb {s : Nat × List Dop} {o : Dop} (h : ∀ x ∈ s.2, TbD x) (ho : TbD o) : ∀ x ∈ (stL s o).2, TbD x := by
  unfold stL
  split
  · exact h
  · split
    · exact up_tb (her_tb h) (fun x _ => ho)
    · exact up_tb (her_tb h) (fun x hx => hx)
theorem runL_tb {d : List Dop} (h : ∀ o ∈ d, TbD o) : ∀ s : Nat × List Dop, (∀ x ∈ s.2, TbD x) → ∀ x ∈ (d.foldl stL s).2, TbD x := by
  induction d with
  | nil => intro s hs; exact hs
  | cons o r ih => intro s hs; exact ih (fun x hx => h x (by simp [hx])) _ (stL_tb hs (h o (by simp)))
end Go.Proofs.Ytfllomlighlejaa
end

section
namespace Go.Proofs.Ytfllomlighlejaa

theorem ap_can : ∀ {d : List Dop} (m : Int), (∀ o ∈ d, Pln o) → Chn d → (∀ o, d.head? = some o → apB m (thisN o.k) = true) → apL m d = true
  | [], _, _, _, _ => rfl
  | o :: r, m, hp, hc, hh => by
    have h1 := apL_at (d := o :: r) (k := 0) (by simp) m
    simp only [List.drop_zero, List.getD_cons_zero, Nat.zero_add, List.drop_one, List.tail_cons] at h1
    rw [h1, hh o rfl, Bool.true_and]
    refine ap_can _ (fun q hq => hp q (by simp [hq])) (chn_tail hc) fun q hq => ?_
    cases r with
    | nil => simp at hq
    | cons q' r' =>
      simp only [List.head?_cons, Option.some.injEq] at hq
      subst hq
      have hn : okN o.k q'.k := hc.1
      have ho : o.k = 1 ∨ o.k = 2 ∨ o.k = 3 := by rcases hp o (by simp) with ⟨h | h, _⟩ | ⟨h, _⟩ <;> omega
      have hq : q'.k = 1 ∨ q'.k = 2 ∨ q'.k = 3 := by rcases hp q' (by simp) with ⟨h | h, _⟩ | ⟨h, _⟩ <;> omega
      unfold okN at hn
      rcases ho with h | h | h <;> rcases hq with h' | h' | h' <;> rw [h, h'] at hn ⊢ <;> first | rfl | decide | (exfalso; revert hn; decide)
theorem pl_all {d : List Dop} (h : ∀ o ∈ d, Pln o) : d.all plB = true := by
  rw [List.all_eq_true]
  intro o ho
  unfold plB
  rcases h o ho with ⟨h1, h2, h3⟩ | ⟨h1, h2, h3⟩
  · rw [if_neg (by omega), h3]; simp; omega
  · rw [if_pos h1, h2]
    cases ht : o.t with
    | nil => exact absurd ht h3
    | cons a r => rfl
theorem can_val {d : List Dop} (h : Can d) (hf : frD d ≤ 268435456) (ht : toD d ≤ 268435456) : valB d = true := by
  unfold valB
  have h2 : lonB d = false := decide_eq_false (by omega)
  rw [pl_all h.p, ap_can 7 h.p h.c (fun o ho => ?_), h2]
  · rfl
  · have hm := List.mem_of_mem_head? (l := d) (a := o) (by rw [ho]; rfl)
    rcases h.p o hm with ⟨h | h, _⟩ | ⟨h, _⟩ <;> rw [h] <;> decide
theorem can_kinds {d : List Dop} (h : Can d) : ∀ o ∈ d, o.k = 1 ∨ o.k = 2 ∨ o.k = 3 := fun o ho => by
  rcases h.p o ho with ⟨h | h, _⟩ | ⟨h, _⟩ <;> omega
/-- what canA of atoms is: canonical, of their sizes -/
theorem canA_val {u : List Atm} (hf : frA u ≤ 268435456) (ht : toA u ≤ 268435456) : valB (canA u) = true ∧ frD (canA u) = frA u ∧ toD (canA u) = toA u ∧ dA (canA u) = nfA u := by
  have h1 := canA_can u
  have h2 := frA_dA (can_kinds h1)
  rw [canA_atoms, fr_nf, to_nf] at h2
  exact ⟨can_val h1 (by omega) (by omega), h2.1.symm, h2.2.symm, canA_atoms u⟩
theorem appA_k : ∀ (n : Nat) (xs : List Int) (u : List Atm), n ≤ xs.length → appA xs (List.replicate n .k ++ u) = xs.take n ++ appA (xs.drop n) u
  | 0, xs, u, _ => by simp
  | n + 1, [], u, h => by simp at h
  | n + 1, x :: xs, u, h => by
    have := appA_k n xs u (by simpa using h)
    rw [List.replicate_succ, List.cons_append]
    simp [appA, this]
theorem appA_d : ∀ (n : Nat) (xs : List Int) (u : List Atm), n ≤ xs.length → appA xs (List.replicate n .d ++ u) = appA (xs.drop n) u
  | 0, xs, u, _ => by simp
  | n + 1, [], u, h => by simp at h
  | n + 1, x :: xs, u, h => by
    have := appA_d n xs u (by simpa using h)
    rw [List.replicate_succ, List.cons_append]
    simp [appA, this]
theorem appA_p : ∀ (t : List Int) (xs : List Int) (u : List Atm), appA xs (t.map .p ++ u) = t ++ appA xs u
  | [], xs, u => by simp
  | x :: t, xs, u => by
    rw [List.map_cons, List.cons_append]
    simp [appA, appA_p t xs u]
/-- Apply does what the atoms do -/
theorem apD_app : ∀ (d : List Dop) (b out : List Int), (∀ o ∈ d, Pln o) → frD d = b.length → (d.foldl stW (b, out)).2 = out ++ appA b (dA d)
  | [], b, out, _, h => by
    have : b = [] := List.length_eq_zero_iff.1 (by simpa [frD] using h.symm)
    subst this
    simp [dA, appA]
  | o :: r, b, out, hp, h => by
    have e : frD (o :: r) = frN o + frD r := by simp [frD]
    rw [List.foldl_cons, dA_cons]
    rcases hp o (by simp) with ⟨h1 | h1, h2, h3⟩ | ⟨h1, h2, h3⟩
    · have ef : frN o = o.n.toNat := by simp [frN, h1]
      have eo : opA o = List.replicate o.n.toNat .k := by simp [opA, h1]
      rw [eo, appA_k _ _ _ (by omega), show stW (b, out) o = (b.drop o.n.toNat, out ++ b.take o.n.toNat) by simp [stW, h1], apD_app r _ _ (fun q hq => hp q (by simp [hq])) (by simp; omega), List.append_assoc]
    · have ef : frN o = o.n.toNat := by simp [frN, h1]
      have eo : opA o = List.replicate o.n.toNat .d := by simp [opA, h1]
      rw [eo, appA_d _ _ _ (by omega), show stW (b, out) o = (b.drop o.n.toNat, out) by simp [stW, h1], apD_app r _ _ (fun q hq => hp q (by simp [hq])) (by simp; omega)]
    · have ef : frN o = 0 := by simp [frN, h1]
      have eo : opA o = o.t.map .p := by simp [opA, h1]
      rw [eo, appA_p, show stW (b, out) o = (b, out ++ o.t) by simp [stW, h1], apD_app r _ _ (fun q hq => hp q (by simp [hq])) (by omega), List.append_assoc]
theorem apD_is {d : List Dop} {b : List Int} (hv : valB d = true) (hf : frD d = b.length) : apD b d = appA b (dA d) := by
  have hp : ∀ o ∈ d, Pln o := fun o ho => by
    rcases valB_op hv ho with ⟨h1, h2, h3⟩ | ⟨h1, h2, h3⟩
    · exact .inl ⟨h1, h2, h3⟩
    · exact .inr ⟨h1, h2, h3⟩
  have := apD_app d b [] hp hf
  simpa [apD, runW] using this
/-- fit: one more operation -/
def ftS (s : Nat × List Dop) (x : Dop) : Nat × List Dop := if x.k = 2 then (s.1, s.2 ++ [x]) else if (s.1 : Int) < x.n then (if 0 < s.1 then (0, s.2 ++ [⟨x.k, s.1, x.t⟩]) else s) else if 0 < x.n then (s.1 - x.n.toNat, s.2 ++ [x]) else s
def runF (n : Nat) (d : List Dop) : Nat × List Dop := d.foldl ftS (n, [])
theorem runF_take (n : Nat) (d : List Dop) {k : Nat} (hk : k < d.length) : runF n (d.take (k + 1)) = ftS (runF n (d.take k)) (d.getD k opZ) := by
  unfold runF
  rw [List.take_add_one, List.foldl_append]
  simp [List.getElem?_eq_getElem hk, List.getD]
/-- what lies in fit's list so far -/
structure FtK (n : Nat) (T : Nat) (s : Nat × List Dop) : Prop where
  f : frD s.2 + s.1 = n
  t : toD s.2 + s.1 ≤ n + T
  k : ∀ o ∈ s.2, (o.k = 1 ∨ o.k = 2 ∨ o.k = 3) ∧ (o.k ≠ 2 → 0 < o.n) ∧ TbD o ∧ o.t.length ≤ 140737488355328
theorem frD_snoc (d : List Dop) (o : Dop) : frD (d ++ [o]) = frD d + frN o := by simp [frD]
theorem toD_snoc (d : List Dop) (o : Dop) : toD (d ++ [o]) = toD d + toN o := by simp [toD]
theorem FtK.step {n T : Nat} {s : Nat × List Dop} {x : Dop} (h : FtK n T s) (hk : x.k = 1 ∨ x.k = 2 ∨ x.k = 3) (hb : TbD x ∧ x.t.length ≤ 140737488355328) : FtK n (T + x.t.length) (ftS s x) := by
  obtain ⟨h1, h2, h3⟩ := h
  have old : FtK n (T + x.t.length) s := ⟨h1, by omega, h3⟩
  have push : ∀ (y : Dop), y.t = x.t → y.k = x.k → (y.k ≠ 2 → 0 < y.n) → ∀ o ∈ s.2 ++ [y], (o.k = 1 ∨ o.k = 2 ∨ o.k = 3) ∧ (o.k ≠ 2 → 0 < o.n) ∧ TbD o ∧ o.t.length ≤ 140737488355328 := fun y e1 e2 e3 o ho => by
    rcases List.mem_append.1 ho with ho | ho
    · exact h3 o ho
    · simp at ho; subst ho
      exact ⟨by omega, e3, by unfold TbD; rw [e1]; exact hb.1, by rw [e1]; exact hb.2⟩
  unfold ftS
  by_cases c2 : x.k = 2
  · rw [if_pos c2]
    refine ⟨?_, ?_, push x rfl rfl (fun h => absurd c2 h)⟩
    · dsimp only; rw [frD_snoc]; simp [frN, c2]; omega
    · dsimp only; rw [toD_snoc]; simp [toN, c2]; omega
  · rw [if_neg c2]
    by_cases c3 : (s.1 : Int) < x.n
    · rw [if_pos c3]
      by_cases c4 : 0 < s.1
      · rw [if_pos c4]
        refine ⟨?_, ?_, push ⟨x.k, s.1, x.t⟩ rfl rfl (fun _ => by dsimp only; omega)⟩
        · dsimp only; rw [frD_snoc]; simp only [frN]; rw [if_pos (by omega)]; simp; omega
        · dsimp only; rw [toD_snoc]; simp only [toN, c2, if_false]; split <;> simp <;> omega
      · rw [if_neg c4]; exact old
    · rw [if_neg c3]
      by_cases c4 : 0 < x.n
      · rw [if_pos c4]
        refine ⟨?_, ?_, push x rfl rfl (fun _ => c4)⟩
        · dsimp only; rw [frD_snoc]; simp only [frN]; rw [if_pos (by omega)]; omega
        · dsimp only; rw [toD_snoc]; simp only [toN, c2, if_false]; split <;> omega
      · rw [if_neg c4]; exact old
def smT (d : List Dop) : Nat := (d.map fun o => o.t.length).sum
theorem smT_take (d : List Dop) {k : Nat} (hk : k < d.length) : smT (d.take (k + 1)) = smT (d.take k) + (d.getD k opZ).t.length := sumD_take (fun o => o.t.length) d hk
theorem runF_ok {d : List Dop} {n : Nat} (hk : ∀ o ∈ d, (o.k = 1 ∨ o.k = 2 ∨ o.k = 3) ∧ TbD o ∧ o.t.length ≤ 140737488355328) : ∀ k, k ≤ d.length → FtK n (smT (d.take k)) (runF n (d.take k))
  | 0, _ => ⟨by simp [runF, frD], by simp [runF, toD, smT], by simp [runF]⟩
  | k + 1, h => by
    have hm := hk _ (getD_memD (d := d) (k := k) (by omega))
    rw [runF_take n d (by omega), smT_take d (by omega)]
    exact (runF_ok hk k (by omega)).step hm.1 hm.2
/-- the list that fit hands to Canon -/
def fitO (d : List Dop) (n : Nat) : List Dop := (runF n d).2 ++ [⟨1, ((runF n d).1 : Int), []⟩]
theorem fitO_ok {d : List Dop} {n : Nat} (hk : ∀ o ∈ d, (o.k = 1 ∨ o.k = 2 ∨ o.k = 3) ∧ TbD o ∧ o.t.length ≤ 140737488355328) (hs : n + smT d ≤ 268435456) : frD (fitO d n) = n ∧ toD (fitO d n) ≤ n + smT d ∧ canD (fitO d n) = (canA (dA (fitO d n)), 0) ∧ (∀ o ∈ fitO d n, TbD o ∧ o.t.length ≤ 140737488355328) ∧ (∀ o ∈ fitO d n, o.k = 1 ∨ o.k = 2 ∨ o.k = 3) := by
  have h := runF_ok (n := n) hk d.length (Nat.le_refl _)
  rw [List.take_length] at h
  obtain ⟨h1, h2, h3⟩ := h
  have f1 : frD (fitO d n) = n := by unfold fitO; rw [frD_snoc]; simp [frN]; omega
  have f2 : toD (fitO d n) ≤ n + smT d := by unfold fitO; rw [toD_snoc]; simp [toN]; omega
  have f3 : ∀ o ∈ fitO d n, ((o.k = 1 ∨ o.k = 2 ∨ o.k = 3) ∧ (o.k ≠ 2 → 0 ≤ o.n)) ∧ TbD o ∧ o.t.length ≤ 140737488355328 := fun o ho => by
    rcases List.mem_append.1 ho with ho | ho
    · obtain ⟨g1, g2, g3, g4⟩ := h3 o ho
      exact ⟨⟨g1, fun h => by have := g2 h; omega⟩, g3, g4⟩
    · simp at ho; subst ho
      exact ⟨⟨.inl rfl, fun _ => by dsimp only; omega⟩, fun x hx => by simp at hx, by simp⟩
  refine ⟨f1, f2, ?_, fun o ho => (f3 o ho).2, fun o ho => (f3 o ho).1.1⟩
  have hkn : (fitO d n).all knB = true := by
    rw [List.all_eq_true]
    intro o ho
    obtain ⟨⟨g1, g2⟩, _⟩ := f3 o ho
    unfold knB
    rcases g1 with g | g | g
    · have := g2 (by omega); simp [g, this]
    · simp [g]
    · have := g2 (by omega); simp [g, this]
  have hlo : lonB (fitO d n) = false := decide_eq_false (by omega)
  unfold canD
  rw [hkn, hlo]
  rfl
/-- what fit answers: valid, of n bytes -/
def fitD (d : List Dop) (n : Nat) : List Dop := canA (dA (fitO d n))
theorem fitD_ok {d : List Dop} {n : Nat} (hk : ∀ o ∈ d, (o.k = 1 ∨ o.k = 2 ∨ o.k = 3) ∧ TbD o ∧ o.t.length ≤ 140737488355328) (hs : n + smT d ≤ 268435456) : valB (fitD d n) = true ∧ frD (fitD d n) = n ∧ toD (fitD d n) ≤ n + smT d ∧ (∀ o ∈ fitD d n, TbD o) := by
  obtain ⟨h1, h2, _, h4, h5⟩ := fitO_ok hk hs
  have h6 := frA_dA h5
  obtain ⟨v1, v2, v3, _⟩ := canA_val (u := dA (fitO d n)) (by omega) (by omega)
  exact ⟨v1, by unfold fitD; omega, by unfold fitD; omega, can_tb fun o ho => (h4 o ho).1⟩

end Go.Proofs.Ytfllomlighlejaa
end

section
namespace Go.Proofs.Ytfllomlighlejaa
open Go.ChangeShapes Go.WideShapes Go.ChangeAt Go.RowKit
attribute [local go_sem] Oper.semAt_some

theorem runF_len (n : Nat) (d : List Dop) : ∀ k, k ≤ d.length → (runF n (d.take k)).2.length ≤ k
  | 0, _ => by simp [runF]
  | k + 1, h => by
    have ih := runF_len n d k (by omega)
    rw [runF_take n d (by omega)]
    unfold ftS
    split
    · simp; omega
    · split
      · split
        · simp; omega
        · omega
      · split
        · simp; omega
        · omega
theorem runF_n (n : Nat) (d : List Dop) : ∀ k, k ≤ d.length → (runF n (d.take k)).1 ≤ n
  | 0, _ => by simp [runF]
  | k + 1, h => by
    have ih := runF_n n d k (by omega)
    rw [runF_take n d (by omega)]
    unfold ftS
    split
    · exact ih
    · split
      · split
        · simp
        · exact ih
      · split
        · dsimp only; omega
        · exact ih
structure FtI (d : List Dop) (n k m : Nat) (L : List Dop) (v : Value) (w X : World) : Prop where
  e : runF n (d.take k) = (m, L)
  o : X.ownsRow w.heap.size 50 3 v L.length (opsV L)
  d : Below w.heap.size w X
/-- a list grows by what lies in a block of the call's own -/
theorem ft_push {w X : World} {v : Value} {L : List Dop} (ho : X.ownsRow w.heap.size 50 3 v L.length (opsV L)) (hd : Below w.heap.size w X) (hl : L.length ≤ 1000000) (k n : Int) (s : ByteArray) (y : Dop) (hy : opL y = [.int .i64 k, .int .i64 n, .string s]) :
    ∃ g c W', (Builtin.append_ #[24, 24] 24 #[v, .slice (some ⟨X.heap.size, 0, none⟩) 1 1]).run Try.prog (X.alloc (.cells #[.int .i64 k, .int .i64 n, .string s] 50)) = .ok (.slice (some ⟨g, 0, none⟩) (L.length + 1) c) W' ∧
      W'.ownsRow w.heap.size 50 3 (.slice (some ⟨g, 0, none⟩) (L.length + 1) c) (L ++ [y]).length (opsV (L ++ [y])) ∧ Below w.heap.size w W' := by
  obtain ⟨g, c, W', r, o, _, b⟩ := push_op X w.heap.size L.length v (opsV L) k n s 24 ho (by omega) hd.size
  rw [← hy, ← opsV_one, ← opsV_app] at o
  refine ⟨g, c, W', r, ?_, hd.trans b⟩
  rw [show (L ++ [y]).length = L.length + 1 by simp]
  exact o
end Go.Proofs.Ytfllomlighlejaa
end

section
namespace Go.Proofs.Ytfllomlighlejaa
open Go.ChangeShapes Go.WideShapes Go.ChangeAt Go.RowKit
attribute [local go_sem] Oper.semAt_some

/-- a list that may be worked through -/
def ShD (d : List Dop) : Prop := d.length ≤ 200 ∧ (∀ o ∈ d, o.k = 1 ∨ o.k = 2 ∨ o.k = 3) ∧ smT d ≤ 5000
structure Dl where
  a : Option Addr
  c : Nat
  d : List Dop
def dlZ : Dl := ⟨none, 0, []⟩
/-- lists of operations that lie in a row of slices -/
structure IsDs (w X : World) (G : Nat) (ds : List Dl) : Prop where
  c : ∀ i, i < ds.length → X.cell? ⟨G, i, none⟩ = some (.slice (ds.getD i dlZ).a (ds.getD i dlZ).d.length (ds.getD i dlZ).c)
  o : ∀ i, i < ds.length → IsO w (ds.getD i dlZ).a (ds.getD i dlZ).d ∧ (∀ o ∈ (ds.getD i dlZ).d, o.t.length ≤ 140737488355328)
  g : G < X.heap.size
theorem IsDs.on {w X Y : World} {G : Nat} {ds : List Dl} (h : IsDs w X G ds) (hb : Below X.heap.size X Y) : IsDs w Y G ds :=
  ⟨fun i hi => (hb.cell (p := ⟨G, i, none⟩) h.g).trans (h.c i hi), h.o, Nat.lt_of_lt_of_le h.g hb.size⟩
theorem smT_le {d : List Dop} (ht : ∀ o ∈ d, o.t.length ≤ 140737488355328) : ∀ k, k ≤ d.length → smT (d.take k) ≤ k * 140737488355328
  | 0, _ => by simp [smT]
  | k + 1, h => by
    have ih := smT_le ht k (by omega)
    have := ht _ (getD_memD (d := d) (k := k) (by omega))
    rw [smT_take d (by omega)]
    omega
end Go.Proofs.Ytfllomlighlejaa
end

section
namespace Go.Proofs.Ytfllomlighlejaa
open Go.ChangeShapes Go.WideShapes Go.ChangeAt Go.RowKit
attribute [local go_sem] Oper.semAt_some

theorem mem_ins : ∀ {a : List Atm} {x : Int}, Atm.p x ∈ insD a → Atm.p x ∈ a
  | [], x, h => by simp [insD] at h
  | .k :: a, x, h => by simp [insD] at h; simp [h]
  | .d :: a, x, h => by simp [insD] at h; simp [h]
  | .p y :: a, x, h => by
    simp only [insD, List.mem_cons] at h ⊢
    rcases h with h | h
    · exact .inl h
    · exact .inr (mem_ins h)
theorem mem_nf : ∀ {a : List Atm} {x : Int}, Atm.p x ∈ nfA a → Atm.p x ∈ a
  | [], x, h => by simp [nfA] at h
  | .k :: a, x, h => by simp only [nfA, List.mem_cons] at h ⊢; exact h.elim .inl fun h => .inr (mem_nf h)
  | .p y :: a, x, h => by simp only [nfA, List.mem_cons] at h ⊢; exact h.elim .inl fun h => .inr (mem_nf h)
  | .d :: a, x, h => by simp only [nfA] at h; exact List.mem_cons_of_mem _ (mem_nf (mem_ins h))
theorem mem_puts : ∀ {b : List Atm} {x : Int}, Atm.p x ∈ putsA b → Atm.p x ∈ b
  | [], x, h => by simp [putsA] at h
  | .k :: b, x, h => by simp only [putsA] at h; exact List.mem_cons_of_mem _ (mem_puts h)
  | .d :: b, x, h => by simp only [putsA] at h; exact List.mem_cons_of_mem _ (mem_puts h)
  | .p y :: b, x, h => by simp only [putsA, List.mem_cons] at h ⊢; exact h.elim .inl fun h => .inr (mem_puts h)
theorem mem_thr {P : Int → Prop} {f : List Atm → List Atm} {y : Option Int} (hy : ∀ z, y = some z → P z) (hf : ∀ (b : List Atm), (∀ z, Atm.p z ∈ b → P z) → ∀ z, Atm.p z ∈ f b → P z) : ∀ (b : List Atm), (∀ z, Atm.p z ∈ b → P z) → ∀ z, Atm.p z ∈ thrA f y b → P z
  | [], hb, z, h => hf [] hb z (by simpa [thrA] using h)
  | .p x :: b, hb, z, h => by
    simp only [thrA, List.mem_cons] at h
    rcases h with h | h
    · exact hb z (by simp [h])
    · exact mem_thr hy hf b (fun q hq => hb q (by simp [hq])) z h
  | .k :: b, hb, z, h => by
    simp only [thrA, List.mem_cons] at h
    rcases h with h | h
    · cases y with
      | none => cases h
      | some q => simp at h; exact hy z (by rw [h])
    · exact hf b (fun q hq => hb q (by simp [hq])) z h
  | .d :: b, hb, z, h => by
    cases y with
    | none => simp [thrA] at h; exact hf b (fun q hq => hb q (by simp [hq])) z h
    | some q => simp only [thrA] at h; exact hf b (fun q hq => hb q (by simp [hq])) z h
theorem mem_cmp {P : Int → Prop} : ∀ (a : List Atm), (∀ z, Atm.p z ∈ a → P z) → ∀ (b : List Atm), (∀ z, Atm.p z ∈ b → P z) → ∀ z, Atm.p z ∈ cmpA a b → P z
  | [], _, b, hb, z, h => hb z (mem_puts h)
  | .d :: a, ha, b, hb, z, h => by
    simp [cmpA] at h
    exact mem_cmp a (fun q hq => ha q (by simp [hq])) b hb z h
  | .k :: a, ha, b, hb, z, h => mem_thr (y := none) (fun q hq => by cases hq) (mem_cmp a (fun q hq => ha q (by simp [hq]))) b hb z h
  | .p y :: a, ha, b, hb, z, h => mem_thr (y := some y) (fun q hq => by cases hq; exact ha y (by simp)) (mem_cmp a (fun q hq => ha q (by simp [hq]))) b hb z h
def By1 (x : Int) : Prop := 0 ≤ x ∧ x ≤ 255
theorem dA_by {d : List Dop} (h : ∀ o ∈ d, TbD o) : ∀ z, Atm.p z ∈ dA d → By1 z := fun z hz => by
  obtain ⟨o, ho, hm⟩ := List.mem_flatMap.1 hz
  unfold opA at hm
  split at hm
  · exact absurd (List.eq_of_mem_replicate hm) (by simp)
  · split at hm
    · obtain ⟨y, hy, e⟩ := List.mem_map.1 hm
      cases e
      exact h o ho z hy
    · exact absurd (List.eq_of_mem_replicate hm) (by simp)
theorem canA_tb {u : List Atm} (h : ∀ z, Atm.p z ∈ u → By1 z) : ∀ o ∈ canA u, TbD o := fun o ho x hx => by
  rcases (canA_can u).p o ho with ⟨_, _, h3⟩ | ⟨h1, _, _⟩
  · rw [h3] at hx; simp at hx
  · refine h x (mem_nf ?_)
    rw [← canA_atoms]
    exact List.mem_flatMap.2 ⟨o, ho, by simp only [opA, h1]; simp; exact hx⟩
/-- what fits -/
theorem fit_zero {d : List Dop} {n : Nat} (hv : valB d = true) (hf : frD d = n) : fitE d n = 0 := by unfold fitE; rw [hv, hf]; simp
theorem ap_zero {d : List Dop} {b : List Int} (hv : valB d = true) (hf : frD d = b.length) : apE b d = apD b d := by unfold apE; rw [fit_zero hv hf]; simp
theorem val_small {d : List Dop} (hv : valB d = true) : d.length ≤ 4611686018427387904 ∧ d.length * 32 ≤ 140737488355328 := by have := val_len hv; omega
/-- two deltas one behind the other -/
structure TwoD (A C : List Dop) : Prop where
  e : cmE A C = 0
  d : cmD A C = canA (cmpA (dA A) (dA C))
  v : valB (cmD A C) = true
  f : frD (cmD A C) = frD A
  t : toD (cmD A C) = toD C
  a : dA (cmD A C) = nfA (cmpA (dA A) (dA C))
  q : toA (dA A) = frA (dA C)
theorem two_ok {A C : List Dop} (hA : valB A = true) (hC : valB C = true) (hf : toD A = frD C) : TwoD A C := by
  have he : cmE A C = 0 := by unfold cmE; rw [hA, hC, hf]; simp
  have hd : cmD A C = canA (cmpA (dA A) (dA C)) := by unfold cmD; rw [if_pos he]
  obtain ⟨s1, s2, s3, _⟩ := cmp_sizes hA hC hf
  have h5 := (valB_nn hA).2
  have h6 := (valB_nn hC).2
  obtain ⟨v1, v2, v3, v4⟩ := canA_val (u := cmpA (dA A) (dA C)) (by omega) (by omega)
  exact ⟨he, hd, by rw [hd]; exact v1, by rw [hd]; omega, by rw [hd]; omega, by rw [hd]; exact v4, s1⟩
theorem two_tb {A C : List Dop} (hA : ∀ o ∈ A, TbD o) (hC : ∀ o ∈ C, TbD o) : ∀ o ∈ cmD A C, TbD o := by
  unfold cmD
  split
  · exact canA_tb (mem_cmp _ (dA_by hA) _ (dA_by hC))
  · simp
theorem two_app {A C : List Dop} {b : List Int} (hA : valB A = true) (hC : valB C = true) (hf : toD A = frD C) (hb : frD A = b.length) : apD b (cmD A C) = apD (apD b A) C := by
  have h := two_ok hA hC hf
  have k := frA_dA (valB_k hA)
  rw [apD_is h.v (h.f.trans hb), h.a, app_nf, app_cmp _ _ _ (by omega) h.q, ← apD_is hA hb, ← apD_is hC (by rw [ap_len hA hb]; exact hf.symm)]
end Go.Proofs.Ytfllomlighlejaa
end
