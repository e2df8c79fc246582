/- Layer 13: DeltaDoes' walk (written by wip/tools/dsj.py). -/
import Derived.Test.YtifpjdodignflaaMg35

namespace Go.Proofs.Ytifpjdodignflaa
open Go.ChangeShapes Go.WideShapes Go.ChangeAt Go.RowKit
attribute [local go_sem] Oper.semAt_some

theorem mem_ins : ∀ {a : List Atm} {x : Int}, Atm.p x ∈ insD a → Atm.p x ∈ a
  | [], x, h => by simp [insD] at h
  | .k :: a, x, h => by simp [insD] at h; simp [h]
  | .d :: a, x, h => by simp [insD] at h; simp [h]
  | .p y :: a, x, h => by
    simp only [insD, List.mem_cons] at h ⊢
    rcases h with h | h
    · exact .inl h
    · exact .inr (mem_ins h)
theorem mem_nf : ∀ {a : List Atm} {x : Int}, Atm.p x ∈ nfA a → Atm.p x ∈ a
  | [], x, h => by simp [nfA] at h
  | .k :: a, x, h => by simp only [nfA, List.mem_cons] at h ⊢; exact h.elim .inl fun h => .inr (mem_nf h)
  | .p y :: a, x, h => by simp only [nfA, List.mem_cons] at h ⊢; exact h.elim .inl fun h => .inr (mem_nf h)
  | .d :: a, x, h => by simp only [nfA] at h; exact List.mem_cons_of_mem _ (mem_nf (mem_ins h))
theorem mem_puts : ∀ {b : List Atm} {x : Int}, Atm.p x ∈ putsA b → Atm.p x ∈ b
  | [], x, h => by simp [putsA] at h
  | .k :: b, x, h => by simp only [putsA] at h; exact List.mem_cons_of_mem _ (mem_puts h)
  | .d :: b, x, h => by simp only [putsA] at h; exact List.mem_cons_of_mem _ (mem_puts h)
  | .p y :: b, x, h => by simp only [putsA, List.mem_cons] at h ⊢; exact h.elim .inl fun h => .inr (mem_puts h)
theorem mem_thr {P : Int → Prop} {f : List Atm → List Atm} {y : Option Int} (hy : ∀ z, y = some z → P z) (hf : ∀ (b : List Atm), (∀ z, Atm.p z ∈ b → P z) → ∀ z, Atm.p z ∈ f b → P z) : ∀ (b : List Atm), (∀ z, Atm.p z ∈ b → P z) → ∀ z, Atm.p z ∈ thrA f y b → P z
  | [], hb, z, h => hf [] hb z (by simpa [thrA] using h)
  | .p x :: b, hb, z, h => by
    simp only [thrA, List.mem_cons] at h
    rcases h with h | h
    · exact hb z (by simp [h])
    · exact mem_thr hy hf b (fun q hq => hb q (by simp [hq])) z h
  | .k :: b, hb, z, h => by
    simp only [thrA, List.mem_cons] at h
    rcases h with h | h
    · cases y with
      | none => cases h
      | some q => simp at h; exact hy z (by rw [h])
    · exact hf b (fun q hq => hb q (by simp [hq])) z h
  | .d :: b, hb, z, h => by
    cases y with
    | none => simp [thrA] at h; exact hf b (fun q hq => hb q (by simp [hq])) z h
    | some q => simp only [thrA] at h; exact hf b (fun q hq => hb q (by simp [hq])) z h
theorem mem_cmp {P : Int → Prop} : ∀ (a : List Atm), (∀ z, Atm.p z ∈ a → P z) → ∀ (b : List Atm), (∀ z, Atm.p z ∈ b → P z) → ∀ z, Atm.p z ∈ cmpA a b → P z
  | [], _, b, hb, z, h => hb z (mem_puts h)
  | .d :: a, ha, b, hb, z, h => by
    simp [cmpA] at h
    exact mem_cmp a (fun q hq => ha q (by simp [hq])) b hb z h
  | .k :: a, ha, b, hb, z, h => mem_thr (y := none) (fun q hq => by cases hq) (mem_cmp a (fun q hq => ha q (by simp [hq]))) b hb z h
  | .p y :: a, ha, b, hb, z, h => mem_thr (y := some y) (fun q hq => by cases hq; exact ha y (by simp)) (mem_cmp a (fun q hq => ha q (by simp [hq]))) b hb z h
def By1 (x : Int) : Prop := 0 ≤ x ∧ x ≤ 255
theorem dA_by {d : List Dop} (h : ∀ o ∈ d, TbD o) : ∀ z, Atm.p z ∈ dA d → By1 z := fun z hz => by
  obtain ⟨o, ho, hm⟩ := List.mem_flatMap.1 hz
  unfold opA at hm
  split at hm
  · exact absurd (List.eq_of_mem_replicate hm) (by simp)
  · split at hm
    · obtain ⟨y, hy, e⟩ := List.mem_map.1 hm
      cases e
      exact h o ho z hy
    · exact absurd (List.eq_of_mem_replicate hm) (by simp)
theorem canA_tb {u : List Atm} (h : ∀ z, Atm.p z ∈ u → By1 z) : ∀ o ∈ canA u, TbD o := fun o ho x hx => by
  rcases (canA_can u).p o ho with ⟨_, _, h3⟩ | ⟨h1, _, _⟩
  · rw [h3] at hx; simp at hx
  · refine h x (mem_nf ?_)
    rw [← canA_atoms]
    exact List.mem_flatMap.2 ⟨o, ho, by simp only [opA, h1]; simp; exact hx⟩
/-- what fits -/
theorem fit_zero {d : List Dop} {n : Nat} (hv : valB d = true) (hf : frD d = n) : fitE d n = 0 := by unfold fitE; rw [hv, hf]; simp
theorem ap_zero {d : List Dop} {b : List Int} (hv : valB d = true) (hf : frD d = b.length) : apE b d = apD b d := by unfold apE; rw [fit_zero hv hf]; simp
theorem val_small {d : List Dop} (hv : valB d = true) : d.length ≤ 4611686018427387904 ∧ d.length * 32 ≤ 140737488355328 := by have := val_len hv; omega
/-- two deltas one behind the other -/
structure TwoD (A C : List Dop) : Prop where
  e : cmE A C = 0
  d : cmD A C = canA (cmpA (dA A) (dA C))
  v : valB (cmD A C) = true
  f : frD (cmD A C) = frD A
  t : toD (cmD A C) = toD C
  a : dA (cmD A C) = nfA (cmpA (dA A) (dA C))
  q : toA (dA A) = frA (dA C)
theorem two_ok {A C : List Dop} (hA : valB A = true) (hC : valB C = true) (hf : toD A = frD C) : TwoD A C := by
  have he : cmE A C = 0 := by unfold cmE; rw [hA, hC, hf]; simp
  have hd : cmD A C = canA (cmpA (dA A) (dA C)) := by unfold cmD; rw [if_pos he]
  obtain ⟨s1, s2, s3, _⟩ := cmp_sizes hA hC hf
  have h5 := (valB_nn hA).2
  have h6 := (valB_nn hC).2
  obtain ⟨v1, v2, v3, v4⟩ := canA_val (u := cmpA (dA A) (dA C)) (by omega) (by omega)
  exact ⟨he, hd, by rw [hd]; exact v1, by rw [hd]; omega, by rw [hd]; omega, by rw [hd]; exact v4, s1⟩
theorem two_tb {A C : List Dop} (hA : ∀ o ∈ A, TbD o) (hC : ∀ o ∈ C, TbD o) : ∀ o ∈ cmD A C, TbD o := by
  unfold cmD
  split
  · exact canA_tb (mem_cmp _ (dA_by hA) _ (dA_by hC))
  · simp
theorem two_app {A C : List Dop} {b : List Int} (hA : valB A = true) (hC : valB C = true) (hf : toD A = frD C) (hb : frD A = b.length) : apD b (cmD A C) = apD (apD b A) C := by
  have h := two_ok hA hC hf
  have k := frA_dA (valB_k hA)
  rw [apD_is h.v (h.f.trans hb), h.a, app_nf, app_cmp _ _ _ (by omega) h.q, ← apD_is hA hb, ← apD_is hC (by rw [ap_len hA hb]; exact hf.symm)]
end Go.Proofs.Ytifpjdodignflaa
