/- Layer 13: DeltaApply. · Layer 13: DeltaApply's walk. · Layer 13: DeltaCanon's walk (written by wip/tools/dsf.py). · Layer 13, plain: canonical deltas are valid; what Apply does is what the atoms do; fit. · Layer 13: the law's fit. -/
import Derived.Test.YtdemagijhmbdcaaDo30
import Derived.Test.YtdemagijhmbdcaaDo29
import Derived.Test.YtdemagijhmbdcaaDo20
import Derived.Test.YtdemagijhmbdcaaDo26

section
namespace Go.Proofs.Ytdemagijhmbdcaa
open Go.ChangeShapes Go.WideShapes Go.ChangeAt Go.RowKit
attribute [local go_sem] Oper.semAt_some

theorem own13G (a : Option Addr) (c : Nat) (d : List Dop) (w : World) (h : IsO w a d) (hz : d = [] ∨ ∃ q, a = some q) (hb : d.length * 32 ≤ 140737488355328) :
    Calls Try.prog 9 #[.slice a d.length c] w fun y w' => ∃ a' c', y = .returned (.slice a' d.length c') ∧ IsO w' a' d ∧ Below w.heap.size w w' :=
  (own13_at a c d w h hz hb).mono fun y w' ⟨v, e, ho, x⟩ => by
    obtain ⟨a', c', rfl, h1, _⟩ := own_isO ho
    exact ⟨a', c', e, h1, x⟩
theorem runW_tb {b : List Int} (hb : ∀ x ∈ b, 0 ≤ x ∧ x ≤ 255) (d : List Dop) (hd : ∀ o ∈ d, TbD o) : (∀ x ∈ (runW b d).1, 0 ≤ x ∧ x ≤ 255) ∧ ∀ x ∈ (runW b d).2, 0 ≤ x ∧ x ≤ 255 := by
  unfold runW
  have : ∀ (d : List Dop), (∀ o ∈ d, TbD o) → ∀ (s : List Int × List Int), ((∀ x ∈ s.1, 0 ≤ x ∧ x ≤ 255) ∧ ∀ x ∈ s.2, 0 ≤ x ∧ x ≤ 255) → (∀ x ∈ (d.foldl stW s).1, 0 ≤ x ∧ x ≤ 255) ∧ ∀ x ∈ (d.foldl stW s).2, 0 ≤ x ∧ x ≤ 255 := by
    intro d
    induction d with
    | nil => intro _ s h; exact h
    | cons o r ih =>
      intro hd s h
      refine ih (fun q hq => hd q (List.mem_cons_of_mem _ hq)) _ ?_
      unfold stW
      split
      · refine ⟨fun x hx => h.1 x (List.mem_of_mem_drop hx), fun x hx => ?_⟩
        rcases List.mem_append.1 hx with hx | hx
        · exact h.2 x hx
        · exact h.1 x (List.mem_of_mem_take hx)
      · split
        · refine ⟨h.1, fun x hx => ?_⟩
          rcases List.mem_append.1 hx with hx | hx
          · exact h.2 x hx
          · exact hd o List.mem_cons_self x hx
        · exact ⟨fun x hx => h.1 x (List.mem_of_mem_drop hx), h.2⟩
  exact this d hd (b, []) ⟨hb, fun o ho => by cases ho⟩
def apE (b : List Int) (d : List Dop) : List Int := if fitE d b.length = 0 then apD b d else []
theorem apE_tb {b : List Int} (hb : ∀ x ∈ b, 0 ≤ x ∧ x ≤ 255) {d : List Dop} (hd : ∀ o ∈ d, TbD o) : (∀ x ∈ apE b d, 0 ≤ x ∧ x ≤ 255) ∧ (apE b d).length ≤ 140737488351232 := by
  unfold apE
  rcases fit_cases d b.length with ⟨hv, he⟩ | ⟨hv, hf, he, _⟩ | ⟨hv, hf, he⟩
  · rw [he, if_neg (by decide)]; exact ⟨fun x hx => (by cases hx), by simp⟩
  · rw [he, if_neg (by decide)]; exact ⟨fun x hx => (by cases hx), by simp⟩
  · rw [he, if_pos rfl, ap_len hv hf]
    exact ⟨(runW_tb hb d hd).2, by have := (valB_nn hv).2; omega⟩
theorem ApplyB_at (a0 : Option Addr) (c0 : Nat) (b : List Int) (a : Option Addr) (c : Nat) (d : List Dop) (w : World) (hb : IsB w a0 c0 b) (h : IsO w a d) (hl : d.length ≤ 4611686018427387904) (ht : ∀ o ∈ d, TbD o) :
    Calls Try.prog 10 #[.slice a0 b.length c0, .slice a d.length c] w fun y w' => ∃ a' c', y = .returned (.tuple #[.slice a' (apE b d).length c', .int .i64 (fitE d b.length)]) ∧ IsB w' a' c' (apE b d) ∧ Below w.heap.size w w' :=
  (Apply_at a0 c0 b a c d w hb h hl ht).mono fun y w' ⟨v, e, ho, x⟩ => by
    obtain ⟨a', c', rfl, h1⟩ := Own.isB (l := apE b d) ho (apE_tb hb.2.2.2 ht).1 (apE_tb hb.2.2.2 ht).2
    exact ⟨a', c', e, h1, x⟩
theorem InvertO_at (a0 : Option Addr) (c0 : Nat) (b : List Int) (a : Option Addr) (c : Nat) (d : List Dop) (w : World) (hb : IsB w a0 c0 b) (h : IsO w a d) (hl : d.length ≤ 4611686018427387904) :
    Calls Try.prog 11 #[.slice a0 b.length c0, .slice a d.length c] w fun y w' => ∃ a' c', y = .returned (.tuple #[.slice a' (invD b d).length c', .int .i64 (fitE d b.length)]) ∧ IsO w' a' (invD b d) ∧ Below w.heap.size w w' :=
  (Invert_at a0 c0 b a c d w hb h hl).mono fun y w' ⟨v, e, ho, x⟩ => by
    obtain ⟨a', c', rfl, h1, _⟩ := own_isO ho
    exact ⟨a', c', e, h1, x⟩
theorem RApplyB_at (a0 : Option Addr) (c0 : Nat) (b : List Int) (a : Option Addr) (c : Nat) (d : List Dop) (w : World) (hb : IsB w a0 c0 b) (h : IsO w a d) (hl : d.length ≤ 4611686018427387904) (hv : valB d = true) (hf : frD d = b.length) (htb : ∀ o ∈ d, TbD o) :
    Calls Try.prog 21 #[.slice a0 b.length c0, .slice a d.length c] w fun y w' => ∃ v, y = .returned v ∧ (∀ Z, Below w'.heap.size w' Z → (convert 22 9 v).run Try.prog Z = .ok (.string (strOfNums (apD b d))) Z) ∧ Below w.heap.size w w' :=
  (RApply_at a0 c0 b a c d w hb h hl hv hf htb).mono fun y w' ⟨v, e, ho, x⟩ => by
    obtain ⟨a', c', rfl, h1⟩ := ho.isB (runW_tb hb.2.2.2 d htb).2 (by rw [ap_len hv hf]; have := (valB_nn hv).2; omega)
    exact ⟨_, e, fun Z hZ => str_bs Z a' c' _ (h1.below hZ (Nat.le_refl _)).2.2.1, x⟩

end Go.Proofs.Ytdemagijhmbdcaa
end

section
namespace Go.Proofs.Ytdemagijhmbdcaa
open Go.ChangeShapes Go.WideShapes Go.ChangeAt Go.RowKit
attribute [local go_sem] Oper.semAt_some

def TbB (b : Bld) : Prop := (∀ o ∈ b.ops, TbD o) ∧ ∀ x ∈ b.tx, 0 ≤ x ∧ x ≤ 255
theorem tb_fin {b : Bld} (h : TbB b) : ∀ o ∈ b.fin, TbD o := by
  intro o ho
  unfold Bld.fin at ho
  rcases List.mem_append.1 ho with ho | ho
  · rcases List.mem_append.1 ho with ho | ho
    · rcases List.mem_append.1 ho with ho | ho
      · exact h.1 o ho
      · unfold kO at ho
        split at ho
        · cases ho
        · rw [List.mem_singleton.1 ho]; intro x hx; cases hx
    · unfold pO at ho
      split at ho
      · cases ho
      · rw [List.mem_singleton.1 ho]; exact h.2
  · unfold dO at ho
    split at ho
    · cases ho
    · rw [List.mem_singleton.1 ho]; intro x hx; cases hx
theorem tb_op {b : Bld} {o : Dop} (h : TbB b) (ho : TbD o) : TbB (b.op o) := by
  unfold Bld.op
  split
  · unfold Bld.keep
    split
    · exact h
    · split
      · exact ⟨h.1, fun x hx => by cases hx⟩
      · exact ⟨tb_fin h, fun x hx => by cases hx⟩
  · split
    · refine ⟨h.1, fun x hx => ?_⟩
      rcases List.mem_append.1 hx with hx | hx
      · exact h.2 x hx
      · exact ho x hx
    · exact h
theorem tb_feed : ∀ (e : List Dop) (b : Bld), TbB b → (∀ o ∈ e, TbD o) → TbB (feedD b e)
  | [], _, h, _ => h
  | o :: r, b, h, he => tb_feed r (b.op o) (tb_op h (he o List.mem_cons_self)) (fun q hq => he q (List.mem_cons_of_mem _ hq))
theorem can_tb {e : List Dop} (he : ∀ o ∈ e, TbD o) : ∀ o ∈ canA (dA e), TbD o := by
  unfold canA
  rw [← feedD_A]
  exact tb_fin (tb_feed e b0 ⟨fun o ho => by simp [b0] at ho, fun x hx => by simp [b0] at hx⟩ he)
theorem iv_small {b : List Int} {d : List Dop} (hv : valB d = true) (hf : frD d = b.length) : (canA (dA (ivD b d))).length ≤ 4611686018427387904 := by
  have h1 := can_len (canA_can (dA (ivD b d))).p
  have h2 : (dA (canA (dA (ivD b d)))).length = (dA (ivD b d)).length := fin_len _
  have h3 := (runV_len hv hf d.length (Nat.le_refl _)).2
  have h4 := (valB_nn hv).2
  rw [List.take_length] at h3
  have h5 : (dA (ivD b d)).length ≤ frD d + toD d := h3
  omega
end Go.Proofs.Ytdemagijhmbdcaa
end

section
namespace Go.Proofs.Ytdemagijhmbdcaa
open Go.ChangeShapes Go.WideShapes Go.ChangeAt Go.RowKit
attribute [local go_sem] Oper.semAt_some

theorem own_isOC {W : World} {B : Nat} {t : TypeId} {v : Value} {d : List Dop} (h : W.ownsRow B t 3 v d.length (opsV d)) : ∃ a c, v = .slice a d.length c ∧ IsO W a d ∧ d.length ≤ c := by
  have hh := h
  rcases h.2 with ⟨rfl, h0⟩ | ⟨g, cap, cur, rfl, hB, hg, hc, hm, hs, ht⟩
  · have : d = [] := List.length_eq_zero_iff.1 h0
    exact ⟨none, 0, by rw [h0], Or.inl this, by omega⟩
  · refine ⟨some ⟨g, 0, none⟩, cap, rfl, Or.inr ⟨g, 0, rfl, (Array.getElem?_eq_some_iff.1 hg).1, fun k hk => ?_⟩, hc⟩
    have f : ∀ j, j < 3 → W.cell? ⟨g, 0 + (k * 3 + j), none⟩ = (opL (d.getD k opZ))[j]? := fun j hj => by
      have e := opsV_get d k j hk hj
      obtain ⟨u, hu⟩ : ∃ u, (opL (d.getD k opZ))[j]? = some u := ⟨_, List.getElem?_eq_getElem (by simpa [opL] using hj)⟩
      rw [hu] at e ⊢
      have := World.ownsRow.cells hh rfl (k * 3 + j) u e
      rwa [Addr.add_lit] at this
    exact ⟨f 0 (by decide), f 1 (by decide), f 2 (by decide)⟩
theorem can_small {d : List Dop} (hk : ∀ o ∈ d, o.k = 1 ∨ o.k = 2 ∨ o.k = 3) (hl : frD d ≤ 268435456 ∧ toD d ≤ 268435456) : (canA (dA d)).length ≤ 1073741824 := by
  have h1 := dA_len hk
  have h2 := feed_bound (dA d)
  have h3 := fin_lenD (feedA b0 (dA d))
  unfold canA
  omega
theorem canD_len (d : List Dop) : (canD d).1.length ≤ 4611686018427387904 := by
  unfold canD
  cases h1 : d.all knB with
  | false => simp
  | true =>
    cases h2 : lonB d with
    | true => simp
    | false =>
      simp only [if_true, Bool.false_eq_true, if_false]
      have h3 : ¬ (268435456 < frD d ∨ 268435456 < toD d) := of_decide_eq_false h2
      have := can_small (d := d) (fun o ho => kn_k h1 ho) (by omega)
      omega
theorem canD_tb {d : List Dop} (h : ∀ o ∈ d, TbD o) : ∀ o ∈ (canD d).1, TbD o := by
  unfold canD
  split
  · split
    · simp
    · exact can_tb h
  · simp
theorem her_tb {m : Nat} {cs : List Dop} (h : ∀ o ∈ cs, TbD o) : ∀ o ∈ herL m cs, TbD o := by
  unfold herL
  split
  · exact h
  · intro o ho
    rcases List.mem_append.1 ho with ho | ho
    · exact h o ho
    · simp at ho; subst ho; intro x hx; simp at hx
theorem up_tb {f : Dop → Dop} {l : List Dop} (h : ∀ o ∈ l, TbD o) (hf : ∀ x, TbD x → TbD (f x)) : ∀ o ∈ upL f l, TbD o := by
  by_cases hl : l = []
  · subst hl; intro o ho; simp [upL] at ho
  · obtain ⟨e, x, rfl⟩ := list_snoc hl
    rw [upL_snoc]
    intro o ho
    rcases List.mem_append.1 ho with ho | ho
    · exact h o (by simp [ho])
    · simp at ho; subst ho; exact hf x (h x (by simp))
theorem stL_tb {s : Nat × List Dop} {o : Dop} (h : ∀ x ∈ s.2, TbD x) (ho : TbD o) : ∀ x ∈ (stL s o).2, TbD x := by
  unfold stL
  split
  · exact h
  · split
    · exact up_tb (her_tb h) (fun x _ => ho)
    · exact up_tb (her_tb h) (fun x hx => hx)
theorem runL_tb {d : List Dop} (h : ∀ o ∈ d, TbD o) : ∀ s : Nat × List Dop, (∀ x ∈ s.2, TbD x) → ∀ x ∈ (d.foldl stL s).2, TbD x := by
  induction d with
  | nil => intro s hs; exact hs
  | cons o r ih => intro s hs; exact ih (fun x hx => h x (by simp [hx])) _ (stL_tb hs (h o (by simp)))
end Go.Proofs.Ytdemagijhmbdcaa
end

section
namespace Go.Proofs.Ytdemagijhmbdcaa

theorem ap_can : ∀ {d : List Dop} (m : Int), (∀ o ∈ d, Pln o) → Chn d → (∀ o, d.head? = some o → apB m (thisN o.k) = true) → apL m d = true
  | [], _, _, _, _ => rfl
  | o :: r, m, hp, hc, hh => by
    have h1 := apL_at (d := o :: r) (k := 0) (by simp) m
    simp only [List.drop_zero, List.getD_cons_zero, Nat.zero_add, List.drop_one, List.tail_cons] at h1
    rw [h1, hh o rfl, Bool.true_and]
    refine ap_can _ (fun q hq => hp q (by simp [hq])) (chn_tail hc) fun q hq => ?_
    cases r with
    | nil => simp at hq
    | cons q' r' =>
      simp only [List.head?_cons, Option.some.injEq] at hq
      subst hq
      have hn : okN o.k q'.k := hc.1
      have ho : o.k = 1 ∨ o.k = 2 ∨ o.k = 3 := by rcases hp o (by simp) with ⟨h | h, _⟩ | ⟨h, _⟩ <;> omega
      have hq : q'.k = 1 ∨ q'.k = 2 ∨ q'.k = 3 := by rcases hp q' (by simp) with ⟨h | h, _⟩ | ⟨h, _⟩ <;> omega
      unfold okN at hn
      rcases ho with h | h | h <;> rcases hq with h' | h' | h' <;> rw [h, h'] at hn ⊢ <;> first | rfl | decide | (exfalso; revert hn; decide)
theorem pl_all {d : List Dop} (h : ∀ o ∈ d, Pln o) : d.all plB = true := by
  rw [List.all_eq_true]
  intro o ho
  unfold plB
  rcases h o ho with ⟨h1, h2, h3⟩ | ⟨h1, h2, h3⟩
  · rw [if_neg (by omega), h3]; simp; omega
  · rw [if_pos h1, h2]
    cases ht : o.t with
    | nil => exact absurd ht h3
    | cons a r => rfl
theorem can_val {d : List Dop} (h : Can d) (hf : frD d ≤ 268435456) (ht : toD d ≤ 268435456) : valB d = true := by
  unfold valB
  have h2 : lonB d = false := decide_eq_false (by omega)
  rw [pl_all h.p, ap_can 7 h.p h.c (fun o ho => ?_), h2]
  · rfl
  · have hm := List.mem_of_mem_head? (l := d) (a := o) (by rw [ho]; rfl)
    rcases h.p o hm with ⟨h | h, _⟩ | ⟨h, _⟩ <;> rw [h] <;> decide
theorem can_kinds {d : List Dop} (h : Can d) : ∀ o ∈ d, o.k = 1 ∨ o.k = 2 ∨ o.k = 3 := fun o ho => by
  rcases h.p o ho with ⟨h | h, _⟩ | ⟨h, _⟩ <;> omega
/-- what canA of atoms is: canonical, of their sizes -/
theorem canA_val {u : List Atm} (hf : frA u ≤ 268435456) (ht : toA u ≤ 268435456) : valB (canA u) = true ∧ frD (canA u) = frA u ∧ toD (canA u) = toA u ∧ dA (canA u) = nfA u := by
  have h1 := canA_can u
  have h2 := frA_dA (can_kinds h1)
  rw [canA_atoms, fr_nf, to_nf] at h2
  exact ⟨can_val h1 (by omega) (by omega), h2.1.symm, h2.2.symm, canA_atoms u⟩
theorem appA_k : ∀ (n : Nat) (xs : List Int) (u : List Atm), n ≤ xs.length → appA xs (List.replicate n .k ++ u) = xs.take n ++ appA (xs.drop n) u
  | 0, xs, u, _ => by simp
  | n + 1, [], u, h => by simp at h
  | n + 1, x :: xs, u, h => by
    have := appA_k n xs u (by simpa using h)
    rw [List.replicate_succ, List.cons_append]
    simp [appA, this]
theorem appA_d : ∀ (n : Nat) (xs : List Int) (u : List Atm), n ≤ xs.length → appA xs (List.replicate n .d ++ u) = appA (xs.drop n) u
  | 0, xs, u, _ => by simp
  | n + 1, [], u, h => by simp at h
  | n + 1, x :: xs, u, h => by
    have := appA_d n xs u (by simpa using h)
    rw [List.replicate_succ, List.cons_append]
    simp [appA, this]
theorem appA_p : ∀ (t : List Int) (xs : List Int) (u : List Atm), appA xs (t.map .p ++ u) = t ++ appA xs u
  | [], xs, u => by simp
  | x :: t, xs, u => by
    rw [List.map_cons, List.cons_append]
    simp [appA, appA_p t xs u]
/-- Apply does what the atoms do -/
theorem apD_app : ∀ (d : List Dop) (b out : List Int), (∀ o ∈ d, Pln o) → frD d = b.length → (d.foldl stW (b, out)).2 = out ++ appA b (dA d)
  | [], b, out, _, h => by
    have : b = [] := List.length_eq_zero_iff.1 (by simpa [frD] using h.symm)
    subst this
    simp [dA, appA]
  | o :: r, b, out, hp, h => by
    have e : frD (o :: r) = frN o + frD r := by simp [frD]
    rw [List.foldl_cons, dA_cons]
    rcases hp o (by simp) with ⟨h1 | h1, h2, h3⟩ | ⟨h1, h2, h3⟩
    · have ef : frN o = o.n.toNat := by simp [frN, h1]
      have eo : opA o = List.replicate o.n.toNat .k := by simp [opA, h1]
      rw [eo, appA_k _ _ _ (by omega), show stW (b, out) o = (b.drop o.n.toNat, out ++ b.take o.n.toNat) by simp [stW, h1], apD_app r _ _ (fun q hq => hp q (by simp [hq])) (by simp; omega), List.append_assoc]
    · have ef : frN o = o.n.toNat := by simp [frN, h1]
      have eo : opA o = List.replicate o.n.toNat .d := by simp [opA, h1]
      rw [eo, appA_d _ _ _ (by omega), show stW (b, out) o = (b.drop o.n.toNat, out) by simp [stW, h1], apD_app r _ _ (fun q hq => hp q (by simp [hq])) (by simp; omega)]
    · have ef : frN o = 0 := by simp [frN, h1]
      have eo : opA o = o.t.map .p := by simp [opA, h1]
      rw [eo, appA_p, show stW (b, out) o = (b, out ++ o.t) by simp [stW, h1], apD_app r _ _ (fun q hq => hp q (by simp [hq])) (by omega), List.append_assoc]
theorem apD_is {d : List Dop} {b : List Int} (hv : valB d = true) (hf : frD d = b.length) : apD b d = appA b (dA d) := by
  have hp : ∀ o ∈ d, Pln o := fun o ho => by
    rcases valB_op hv ho with ⟨h1, h2, h3⟩ | ⟨h1, h2, h3⟩
    · exact .inl ⟨h1, h2, h3⟩
    · exact .inr ⟨h1, h2, h3⟩
  have := apD_app d b [] hp hf
  simpa [apD, runW] using this
/-- fit: one more operation -/
def ftS (s : Nat × List Dop) (x : Dop) : Nat × List Dop := if x.k = 2 then (s.1, s.2 ++ [x]) else if (s.1 : Int) < x.n then (if 0 < s.1 then (0, s.2 ++ [⟨x.k, s.1, x.t⟩]) else s) else if 0 < x.n then (s.1 - x.n.toNat, s.2 ++ [x]) else s
def runF (n : Nat) (d : List Dop) : Nat × List Dop := d.foldl ftS (n, [])
theorem runF_take (n : Nat) (d : List Dop) {k : Nat} (hk : k < d.length) : runF n (d.take (k + 1)) = ftS (runF n (d.take k)) (d.getD k opZ) := by
  unfold runF
  rw [List.take_add_one, List.foldl_append]
  simp [List.getElem?_eq_getElem hk, List.getD]
/-- what lies in fit's list so far -/
structure FtK (n : Nat) (T : Nat) (s : Nat × List Dop) : Prop where
  f : frD s.2 + s.1 = n
  t : toD s.2 + s.1 ≤ n + T
  k : ∀ o ∈ s.2, (o.k = 1 ∨ o.k = 2 ∨ o.k = 3) ∧ (o.k ≠ 2 → 0 < o.n) ∧ TbD o ∧ o.t.length ≤ 140737488355328
theorem frD_snoc (d : List Dop) (o : Dop) : frD (d ++ [o]) = frD d + frN o := by simp [frD]
theorem toD_snoc (d : List Dop) (o : Dop) : toD (d ++ [o]) = toD d + toN o := by simp [toD]
theorem FtK.step {n T : Nat} {s : Nat × List Dop} {x : Dop} (h : FtK n T s) (hk : x.k = 1 ∨ x.k = 2 ∨ x.k = 3) (hb : TbD x ∧ x.t.length ≤ 140737488355328) : FtK n (T + x.t.length) (ftS s x) := by
  obtain ⟨h1, h2, h3⟩ := h
  have old : FtK n (T + x.t.length) s := ⟨h1, by omega, h3⟩
  have push : ∀ (y : Dop), y.t = x.t → y.k = x.k → (y.k ≠ 2 → 0 < y.n) → ∀ o ∈ s.2 ++ [y], (o.k = 1 ∨ o.k = 2 ∨ o.k = 3) ∧ (o.k ≠ 2 → 0 < o.n) ∧ TbD o ∧ o.t.length ≤ 140737488355328 := fun y e1 e2 e3 o ho => by
    rcases List.mem_append.1 ho with ho | ho
    · exact h3 o ho
    · simp at ho; subst ho
      exact ⟨by omega, e3, by unfold TbD; rw [e1]; exact hb.1, by rw [e1]; exact hb.2⟩
  unfold ftS
  by_cases c2 : x.k = 2
  · rw [if_pos c2]
    refine ⟨?_, ?_, push x rfl rfl (fun h => absurd c2 h)⟩
    · dsimp only; rw [frD_snoc]; simp [frN, c2]; omega
    · dsimp only; rw [toD_snoc]; simp [toN, c2]; omega
  · rw [if_neg c2]
    by_cases c3 : (s.1 : Int) < x.n
    · rw [if_pos c3]
      by_cases c4 : 0 < s.1
      · rw [if_pos c4]
        refine ⟨?_, ?_, push ⟨x.k, s.1, x.t⟩ rfl rfl (fun _ => by dsimp only; omega)⟩
        · dsimp only; rw [frD_snoc]; simp only [frN]; rw [if_pos (by omega)]; simp; omega
        · dsimp only; rw [toD_snoc]; simp only [toN, c2, if_false]; split <;> simp <;> omega
      · rw [if_neg c4]; exact old
    · rw [if_neg c3]
      by_cases c4 : 0 < x.n
      · rw [if_pos c4]
        refine ⟨?_, ?_, push x rfl rfl (fun _ => c4)⟩
        · dsimp only; rw [frD_snoc]; simp only [frN]; rw [if_pos (by omega)]; omega
        · dsimp only; rw [toD_snoc]; simp only [toN, c2, if_false]; split <;> omega
      · rw [if_neg c4]; exact old
def smT (d : List Dop) : Nat := (d.map fun o => o.t.length).sum
theorem smT_take (d : List Dop) {k : Nat} (hk : k < d.length) : smT (d.take (k + 1)) = smT (d.take k) + (d.getD k opZ).t.length := sumD_take (fun o => o.t.length) d hk
theorem runF_ok {d : List Dop} {n : Nat} (hk : ∀ o ∈ d, (o.k = 1 ∨ o.k = 2 ∨ o.k = 3) ∧ TbD o ∧ o.t.length ≤ 140737488355328) : ∀ k, k ≤ d.length → FtK n (smT (d.take k)) (runF n (d.take k))
  | 0, _ => ⟨by simp [runF, frD], by simp [runF, toD, smT], by simp [runF]⟩
  | k + 1, h => by
    have hm := hk _ (getD_memD (d := d) (k := k) (by omega))
    rw [runF_take n d (by omega), smT_take d (by omega)]
    exact (runF_ok hk k (by omega)).step hm.1 hm.2
/-- the list that fit hands to Canon -/
def fitO (d : List Dop) (n : Nat) : List Dop := (runF n d).2 ++ [⟨1, ((runF n d).1 : Int), []⟩]
theorem fitO_ok {d : List Dop} {n : Nat} (hk : ∀ o ∈ d, (o.k = 1 ∨ o.k = 2 ∨ o.k = 3) ∧ TbD o ∧ o.t.length ≤ 140737488355328) (hs : n + smT d ≤ 268435456) : frD (fitO d n) = n ∧ toD (fitO d n) ≤ n + smT d ∧ canD (fitO d n) = (canA (dA (fitO d n)), 0) ∧ (∀ o ∈ fitO d n, TbD o ∧ o.t.length ≤ 140737488355328) ∧ (∀ o ∈ fitO d n, o.k = 1 ∨ o.k = 2 ∨ o.k = 3) := by
  have h := runF_ok (n := n) hk d.length (Nat.le_refl _)
  rw [List.take_length] at h
  obtain ⟨h1, h2, h3⟩ := h
  have f1 : frD (fitO d n) = n := by unfold fitO; rw [frD_snoc]; simp [frN]; omega
  have f2 : toD (fitO d n) ≤ n + smT d := by unfold fitO; rw [toD_snoc]; simp [toN]; omega
  have f3 : ∀ o ∈ fitO d n, ((o.k = 1 ∨ o.k = 2 ∨ o.k = 3) ∧ (o.k ≠ 2 → 0 ≤ o.n)) ∧ TbD o ∧ o.t.length ≤ 140737488355328 := fun o ho => by
    rcases List.mem_append.1 ho with ho | ho
    · obtain ⟨g1, g2, g3, g4⟩ := h3 o ho
      exact ⟨⟨g1, fun h => by have := g2 h; omega⟩, g3, g4⟩
    · simp at ho; subst ho
      exact ⟨⟨.inl rfl, fun _ => by dsimp only; omega⟩, fun x hx => by simp at hx, by simp⟩
  refine ⟨f1, f2, ?_, fun o ho => (f3 o ho).2, fun o ho => (f3 o ho).1.1⟩
  have hkn : (fitO d n).all knB = true := by
    rw [List.all_eq_true]
    intro o ho
    obtain ⟨⟨g1, g2⟩, _⟩ := f3 o ho
    unfold knB
    rcases g1 with g | g | g
    · have := g2 (by omega); simp [g, this]
    · simp [g]
    · have := g2 (by omega); simp [g, this]
  have hlo : lonB (fitO d n) = false := decide_eq_false (by omega)
  unfold canD
  rw [hkn, hlo]
  rfl
/-- what fit answers: valid, of n bytes -/
def fitD (d : List Dop) (n : Nat) : List Dop := canA (dA (fitO d n))
theorem fitD_ok {d : List Dop} {n : Nat} (hk : ∀ o ∈ d, (o.k = 1 ∨ o.k = 2 ∨ o.k = 3) ∧ TbD o ∧ o.t.length ≤ 140737488355328) (hs : n + smT d ≤ 268435456) : valB (fitD d n) = true ∧ frD (fitD d n) = n ∧ toD (fitD d n) ≤ n + smT d ∧ (∀ o ∈ fitD d n, TbD o) := by
  obtain ⟨h1, h2, _, h4, h5⟩ := fitO_ok hk hs
  have h6 := frA_dA h5
  obtain ⟨v1, v2, v3, _⟩ := canA_val (u := dA (fitO d n)) (by omega) (by omega)
  exact ⟨v1, by unfold fitD; omega, by unfold fitD; omega, can_tb fun o ho => (h4 o ho).1⟩

end Go.Proofs.Ytdemagijhmbdcaa
end

section
namespace Go.Proofs.Ytdemagijhmbdcaa
open Go.ChangeShapes Go.WideShapes Go.ChangeAt Go.RowKit
attribute [local go_sem] Oper.semAt_some

theorem runF_len (n : Nat) (d : List Dop) : ∀ k, k ≤ d.length → (runF n (d.take k)).2.length ≤ k
  | 0, _ => by simp [runF]
  | k + 1, h => by
    have ih := runF_len n d k (by omega)
    rw [runF_take n d (by omega)]
    unfold ftS
    split
    · simp; omega
    · split
      · split
        · simp; omega
        · omega
      · split
        · simp; omega
        · omega
theorem runF_n (n : Nat) (d : List Dop) : ∀ k, k ≤ d.length → (runF n (d.take k)).1 ≤ n
  | 0, _ => by simp [runF]
  | k + 1, h => by
    have ih := runF_n n d k (by omega)
    rw [runF_take n d (by omega)]
    unfold ftS
    split
    · exact ih
    · split
      · split
        · simp
        · exact ih
      · split
        · dsimp only; omega
        · exact ih
structure FtI (d : List Dop) (n k m : Nat) (L : List Dop) (v : Value) (w X : World) : Prop where
  e : runF n (d.take k) = (m, L)
  o : X.ownsRow w.heap.size 34 3 v L.length (opsV L)
  d : Below w.heap.size w X
/-- a list grows by what lies in a block of the call's own -/
theorem ft_push {w X : World} {v : Value} {L : List Dop} (ho : X.ownsRow w.heap.size 34 3 v L.length (opsV L)) (hd : Below w.heap.size w X) (hl : L.length ≤ 1000000) (k n : Int) (s : ByteArray) (y : Dop) (hy : opL y = [.int .i64 k, .int .i64 n, .string s]) :
    ∃ g c W', (Builtin.append_ #[24, 24] 24 #[v, .slice (some ⟨X.heap.size, 0, none⟩) 1 1]).run Try.prog (X.alloc (.cells #[.int .i64 k, .int .i64 n, .string s] 34)) = .ok (.slice (some ⟨g, 0, none⟩) (L.length + 1) c) W' ∧
      W'.ownsRow w.heap.size 34 3 (.slice (some ⟨g, 0, none⟩) (L.length + 1) c) (L ++ [y]).length (opsV (L ++ [y])) ∧ Below w.heap.size w W' := by
  obtain ⟨g, c, W', r, o, _, b⟩ := push_op X w.heap.size L.length v (opsV L) k n s 24 ho (by omega) hd.size
  rw [← hy, ← opsV_one, ← opsV_app] at o
  refine ⟨g, c, W', r, ?_, hd.trans b⟩
  rw [show (L ++ [y]).length = L.length + 1 by simp]
  exact o
set_option maxRecDepth 100000 in
set_option maxHeartbeats 4000000 in
theorem fit_at (a : Option Addr) (c : Nat) (d : List Dop) (n : Nat) (w : World) (h : IsO w a d) (hl : d.length ≤ 1000) (hn : n + smT d ≤ 268435456) (hk : ∀ o ∈ d, (o.k = 1 ∨ o.k = 2 ∨ o.k = 3) ∧ TbD o ∧ o.t.length ≤ 140737488355328) :
    Calls Try.prog 6 #[.slice a d.length c, .int .i64 (n : Int)] w fun y w' => ∃ a' c', y = .returned (.slice a' (fitD d n).length c') ∧ IsO w' a' (fitD d n) ∧ (fitD d n).length ≤ c' ∧ Below w.heap.size w w' := by
  have HO := hide fun (X : World) (hx : Below w.heap.size w X) => h.below hx (Nat.le_refl _)
  obtain ⟨q1, q2, q3, q4, q5⟩ := fitO_ok (n := n) hk hn
  have hlen : (fitO d n).length ≤ 1001 := by
    have := runF_len n d d.length (Nat.le_refl _)
    rw [List.take_length] at this
    unfold fitO; simp; omega
  have HC := hide fun (X : World) (a2 : Option Addr) (c2 : Nat) (h2 : IsO X a2 (fitO d n)) => RCanon_at a2 c2 (fitO d n) X h2 (by omega) (fun o ho => (q4 o ho).2)
  rw [q3] at HC
  dsimp only at HC
  have HFD : Hid (canA (dA (fitO d n)) = fitD d n) := hide rfl
  rw [unhide HFD] at HC
  have HFO : Hid (fitO d n = (runF n d).2 ++ [⟨1, ((runF n d).1 : Int), []⟩]) := hide rfl
  have hnn : n ≤ 268435456 := by omega
  have HKK := hide hk
  clear h hn hk q1 q2 q3 q4 q5 HFD
  generalize fitD d n = FD at *
  generalize fitO d n = FO at *
  go_enter Try.func6, Try.ntmps6
  go_wp2_with fail
  go_loopw [1, 5, 6, 7] (fun v1 v5 v6 v7 wx => (∃ z, v7 = z) ∧ (∃ (k m : Nat) (L : List Dop), v6 = .int .i64 (k : Int) ∧ v1 = .int .i64 (m : Int) ∧ k ≤ d.length ∧ Hid (FtI d n k m L v5 w wx))) (fun _ _ v6 _ _ => d.length - (intOf v6).toNat)
  case atStart => exact ⟨⟨_, rfl⟩, ⟨0, n, [], rfl, rfl, Nat.zero_le _, hide ⟨rfl, World.ownsRow_nil _ _ _ _, Below.refl _ _⟩⟩⟩
  case round =>
    obtain ⟨⟨z1, rfl⟩, ⟨k, m, L, rfl, rfl, hk, HI⟩⟩ := hrel
    by_cases hlt : k < d.length
    · have t1 : decide ((k : Int) < (d.length : Int)) = true := decide_eq_true (by omega)
      obtain ⟨g, off, rfl, hg, c0, c1, c2⟩ := (unhide HO wr (unhide HI).d).three hlt
      have hkx := (unhide HKK _ (getD_memD hlt)).1
      have hLl := runF_len n d k (by omega)
      have hmn := runF_n n d k (by omega)
      rw [(unhide HI).e] at hLl hmn
      dsimp only at hLl hmn
      have HST : Hid (runF n (d.take (k + 1)) = ftS (m, L) (d.getD k opZ)) := hide (by rw [runF_take n d hlt, (unhide HI).e])
      have HA : Hid (∀ q : Array Value, (wr.alloc (.cells q 34)).ownsRow w.heap.size 34 3 u5 L.length (opsV L) ∧ Below w.heap.size w (wr.alloc (.cells q 34))) := hide fun q => ⟨World.ownsRow.alloc (unhide HI).o _, (unhide HI).d.alloc (unhide HI).d.size _⟩
      have HZ := hide (unhide HI).d.size
      generalize d.getD k opZ = x at *
      obtain ⟨xk, xn, xt⟩ := x
      dsimp only at c0 c1 c2 hkx
      have kN := Cls.new wr 34 #[.int .i64 xk, .int .i64 xn, .string (strOfNums xt)]
      obtain ⟨hA1, hA2⟩ := unhide HA #[.int .i64 xk, .int .i64 xn, .string (strOfNums xt)]
      have HN0 : Hid (∀ (m' : Nat) (L' : List Dop) (v' : Value) (X : World), ftS (m, L) ⟨xk, xn, xt⟩ = (m', L') → X.ownsRow w.heap.size 34 3 v' L'.length (opsV L') → Below w.heap.size w X → FtI d n (k + 1) m' L' v' w X) := hide fun m' L' v' X e1 e2 e3 => ⟨(unhide HST).trans e1, e2, e3⟩
      have HRN : Hid (∀ (j : Nat) (u : Value), ((wr.alloc (.cells #[.int .i64 xk, .int .i64 xn, .string (strOfNums xt)] 34)).setCell ⟨wr.heap.size, j, none⟩ u).ownsRow w.heap.size 34 3 u5 L.length (opsV L) ∧ Below w.heap.size w ((wr.alloc (.cells #[.int .i64 xk, .int .i64 xn, .string (strOfNums xt)] 34)).setCell ⟨wr.heap.size, j, none⟩ u)) := hide fun j u => ⟨rowD_on hA1 fun G hG => by
          obtain ⟨_, cur, hc⟩ := rowD_block (unhide HI).o hG
          have := (Array.getElem?_eq_some_iff.1 hc).1
          exact Below.heap_setCell _ ⟨wr.heap.size, j, none⟩ u G (show G ≠ wr.heap.size by omega), hA2.setCell (p := ⟨wr.heap.size, j, none⟩) (unhide HZ) u⟩
      have d0 : (wr.alloc (.cells #[.int .i64 xk, .int .i64 xn, .string (strOfNums xt)] 34)).cell? ⟨wr.heap.size, 0, none⟩ = some (.int .i64 xk) := kN.cell 0
      have d1 : (wr.alloc (.cells #[.int .i64 xk, .int .i64 xn, .string (strOfNums xt)] 34)).cell? ⟨wr.heap.size, 1, none⟩ = some (.int .i64 xn) := kN.cell 1
      have d2 : (wr.alloc (.cells #[.int .i64 xk, .int .i64 xn, .string (strOfNums xt)] 34)).cell? ⟨wr.heap.size, 2, none⟩ = some (.string (strOfNums xt)) := kN.cell 2
      have f1 := kN.frozen 1
      have kS := kN.set 1 (.int .i64 (m : Int))
      have e0 : ((wr.alloc (.cells #[.int .i64 xk, .int .i64 xn, .string (strOfNums xt)] 34)).setCell ⟨wr.heap.size, 1, none⟩ (.int .i64 (m : Int))).cell? ⟨wr.heap.size, 0, none⟩ = some (.int .i64 xk) := kS.cell 0
      have e1 : ((wr.alloc (.cells #[.int .i64 xk, .int .i64 xn, .string (strOfNums xt)] 34)).setCell ⟨wr.heap.size, 1, none⟩ (.int .i64 (m : Int))).cell? ⟨wr.heap.size, 1, none⟩ = some (.int .i64 (m : Int)) := kS.cell 1
      have e2 : ((wr.alloc (.cells #[.int .i64 xk, .int .i64 xn, .string (strOfNums xt)] 34)).setCell ⟨wr.heap.size, 1, none⟩ (.int .i64 (m : Int))).cell? ⟨wr.heap.size, 2, none⟩ = some (.string (strOfNums xt)) := kS.cell 2
      obtain ⟨hB1, hB2⟩ := unhide HRN 1 (.int .i64 (m : Int))
      have HH1 := hide (And.intro hA1 hA2)
      have HH2 := hide (And.intro hB1 hB2)
      have HE := hide (And.intro e0 (And.intro e1 e2))
      have HD := hide (And.intro d0 (And.intro d1 d2))
      clear HI HST HA HRN hA1 hA2 hB1 hB2 e0 e1 e2 kN kS HKK hk hg
      go_upto_region 6 with fail
      clear c0 c1 c2 d0 d1 d2
      generalize wr.alloc (.cells #[.int .i64 xk, .int .i64 xn, .string (strOfNums xt)] 34) = v0 at *
      generalize wr.heap.size = gb at *
      by_cases h2 : xk = 2
      · subst h2
        obtain ⟨g2, c2, W2, r2, o2, b2⟩ := ft_push (unhide HH1).1 (unhide HH1).2 (by omega) 2 xn (strOfNums xt) ⟨2, xn, xt⟩ rfl
        have HN := hide (unhide HN0 m (L ++ [⟨2, xn, xt⟩]) _ W2 (by simp [ftS]) o2 b2)
        have R2 := hide r2
        obtain ⟨d0, d1, d2⟩ := unhide HD
        clear HN0 HH1 HH2 HE HD HZ r2 o2 b2 hkx f1
        generalize strOfNums xt = st at *
        generalize L ++ [(⟨2, xn, xt⟩ : Dop)] = L2 at *
        generalize L.length + 1 = l2 at *
        go_wp2_with (at_builtin; refine wpList_append_known rfl _ _ 24 24 rfl _ _ rfl rfl _ _ (unhide R2) ?_; clear R2)
        go_roundw
        case rel => exact ⟨⟨_, rfl⟩, ⟨k + 1, m, L2, by go_num, rfl, hlt, HN⟩⟩
        case measure => simp [intOf]; omega
      · have s2 : (xk == 2) = false := by simpa using h2
        by_cases h3 : (m : Int) < xn
        · have s3 : decide (xn > (m : Int)) = true := decide_eq_true h3
          have s3' : decide ((m : Int) < xn) = true := decide_eq_true h3
          by_cases h4 : 0 < m
          · have s4 : decide ((m : Int) > 0) = true := decide_eq_true (by omega)
            have s4' : decide ((0 : Int) < (m : Int)) = true := decide_eq_true (by omega)
            have s4'' : decide (0 < m) = true := decide_eq_true h4
            obtain ⟨g2, c2, W2, r2, o2, b2⟩ := ft_push (unhide HH2).1 (unhide HH2).2 (by omega) xk (m : Int) (strOfNums xt) ⟨xk, m, xt⟩ rfl
            have HN := hide (unhide HN0 0 (L ++ [⟨xk, m, xt⟩]) _ W2 (by simp [ftS, h2, h3, h4]) o2 b2)
            have R2 := hide r2
            have w1 : wrap64 ((m : Int) - (m : Int)) = ((0 : Nat) : Int) := by rw [Int.sub_self, wrapD _ (by omega) (by omega)]; rfl
            obtain ⟨d0, d1, d2⟩ := unhide HD
            clear HN0 HH1 HH2 HD HZ r2 o2 b2 hkx h2 h3 h4
            generalize strOfNums xt = st at *
            generalize L ++ [(⟨xk, (m : Int), xt⟩ : Dop)] = L2 at *
            generalize L.length + 1 = l2 at *
            go_upto_region 10 with fail
            clear d0 d1 d2
            obtain ⟨e0, e1, e2⟩ := unhide HE
            clear HE
            generalize v0.setCell ⟨gb, 1, none⟩ (.int .i64 (m : Int)) = v1 at *
            go_wp2_with (at_builtin; refine wpList_append_known rfl _ _ 24 24 rfl _ _ rfl rfl _ _ (unhide R2) ?_; clear R2)
            go_roundw
            case rel => exact ⟨⟨_, rfl⟩, ⟨k + 1, 0, L2, by go_num, by first | rfl | go_num | simp, hlt, HN⟩⟩
            case measure => simp [intOf]; omega
          · have s4 : decide ((m : Int) > 0) = false := decide_eq_false (by omega)
            have s4' : decide ((0 : Int) < (m : Int)) = false := decide_eq_false (by omega)
            have s4'' : decide (0 < m) = false := decide_eq_false h4
            have HN := hide (unhide HN0 m L _ _ (by simp [ftS, h2, h3, h4]) (unhide HH2).1 (unhide HH2).2)
            obtain ⟨d0, d1, d2⟩ := unhide HD
            clear HN0 HH1 HH2 HD HZ hkx h2 h3 h4
            generalize strOfNums xt = st at *
            go_upto_region 10 with fail
            clear d0 d1 d2
            obtain ⟨e0, e1, e2⟩ := unhide HE
            clear HE
            generalize v0.setCell ⟨gb, 1, none⟩ (.int .i64 (m : Int)) = v1 at *
            go_wp2_with fail
            go_roundw
            case rel => exact ⟨⟨_, rfl⟩, ⟨k + 1, m, L, by go_num, rfl, hlt, HN⟩⟩
            case measure => simp [intOf]; omega
        · have s3 : decide (xn > (m : Int)) = false := decide_eq_false h3
          have s3' : decide ((m : Int) < xn) = false := decide_eq_false h3
          by_cases h4 : 0 < xn
          · have s4 : decide (xn > 0) = true := decide_eq_true h4
            have s4' : decide ((0 : Int) < xn) = true := decide_eq_true h4
            obtain ⟨g2, c2, W2, r2, o2, b2⟩ := ft_push (unhide HH1).1 (unhide HH1).2 (by omega) xk xn (strOfNums xt) ⟨xk, xn, xt⟩ rfl
            have HN := hide (unhide HN0 (m - xn.toNat) (L ++ [⟨xk, xn, xt⟩]) _ W2 (by simp [ftS, h2, h3, h4]) o2 b2)
            have R2 := hide r2
            have w1 : wrap64 ((m : Int) - xn) = ((m - xn.toNat : Nat) : Int) := by rw [wrapD _ (by omega) (by omega)]; omega
            obtain ⟨d0, d1, d2⟩ := unhide HD
            clear HN0 HH1 HH2 HD HE HZ r2 o2 b2 hkx h2 h3 h4 f1
            generalize strOfNums xt = st at *
            generalize L ++ [(⟨xk, xn, xt⟩ : Dop)] = L2 at *
            generalize L.length + 1 = l2 at *
            generalize m - xn.toNat = m2 at *
            go_wp2_with (at_builtin; refine wpList_append_known rfl _ _ 24 24 rfl _ _ rfl rfl _ _ (unhide R2) ?_; clear R2)
            go_roundw
            case rel => exact ⟨⟨_, rfl⟩, ⟨k + 1, m2, L2, by go_num, by first | rfl | go_num, hlt, HN⟩⟩
            case measure => simp [intOf]; omega
          · have s4 : decide (xn > 0) = false := decide_eq_false h4
            have s4' : decide ((0 : Int) < xn) = false := decide_eq_false h4
            have HN := hide (unhide HN0 m L _ _ (by simp [ftS, h2, h3, h4]) (unhide HH1).1 (unhide HH1).2)
            obtain ⟨d0, d1, d2⟩ := unhide HD
            clear HN0 HH1 HH2 HD HE HZ hkx h2 h3 h4 f1
            generalize strOfNums xt = st at *
            go_wp2_with fail
            go_roundw
            case rel => exact ⟨⟨_, rfl⟩, ⟨k + 1, m, L, by go_num, rfl, hlt, HN⟩⟩
            case measure => simp [intOf]; omega
    · obtain rfl : k = d.length := by omega
      have t1 : decide (((d.length : Nat) : Int) < (d.length : Int)) = false := by simp
      have hE := (unhide HI).e
      rw [List.take_length] at hE
      have hLl := runF_len n d d.length (Nat.le_refl _)
      rw [List.take_length, hE] at hLl
      dsimp only at hLl
      obtain ⟨g2, c2, W2, r2, o2, b2⟩ := ft_push (unhide HI).o (unhide HI).d (by omega) 1 (m : Int) ⟨#[]⟩ ⟨1, m, []⟩ rfl
      have hFO : L ++ [(⟨1, (m : Int), []⟩ : Dop)] = FO := by rw [unhide HFO, hE]
      rw [hFO] at o2
      have hFl : FO.length = L.length + 1 := by rw [← hFO]; simp
      rw [← hFl] at r2 o2
      obtain ⟨a4, c4, he4, i4, _⟩ := own_isOC o2
      have HC2 := hide (unhide HC W2 (some ⟨g2, 0, none⟩) c2 (by cases he4; exact i4))
      have R2 := hide r2
      have HB := hide b2
      clear HI hE hLl r2 o2 b2 hFO hFl he4 i4 HC HFO HKK hk hlt HO
      generalize FO.length = fl at *
      go_wp2_with (at_builtin; refine wpList_append_known rfl _ _ 24 24 rfl _ _ rfl rfl _ _ (unhide R2) ?_; clear R2)
      refine (unhide HC2).mono ?_
      rintro y w3 ⟨a5, c5, rfl, i5, l5, x5⟩
      dsimp only
      have HI5 := hide i5
      have HX5 := hide ((unhide HB).trans (x5.mono (unhide HB).size))
      clear HC2 i5 x5 HB
      go_wp2_with fail
      refine bodyPost_ret (results_tmp rfl _ _ _) rfl ⟨a5, c5, rfl, unhide HI5, l5, unhide HX5⟩

end Go.Proofs.Ytdemagijhmbdcaa
end
