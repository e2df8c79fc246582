/- Layer 13: DeltaDoes' walk (written by wip/tools/dsj.py). -/
import Derived.Test.YtecolpnbbpbflaaMg38

namespace Go.Proofs.Ytecolpnbbpbflaa
open Go.ChangeShapes Go.WideShapes Go.ChangeAt Go.RowKit
attribute [local go_sem] Oper.semAt_some

theorem mem_ins : ∀ {a : List Atm} {x : Int}, Atm.p x ∈ insD a → Atm.p x ∈ a
  | [], x, h => by simp [insD] at h
  | .k :: a, x, h => by simp [insD] at h; simp [h]
  | .d :: a, x, h => by simp [insD] at h; simp [h]
  | .p y :: a, x, h => by
    simp only [insD, List.mem_cons] at h ⊢
    rcases h with h | h
    · exact .inl h
    · exact .inr (mem_ins h)
theorem mem_nf : ∀ {a : List Atm} {x : Int}, Atm.p x ∈ nfA a → Atm.p x ∈ a
  | [], x, h => by simp [nfA] at h
  | .k :: a, x, h => by simp only [nfA, List.mem_cons] at h ⊢; exact h.elim .inl fun h => .inr (mem_nf h)
  | .p y :: a, x, h => by simp only [nfA, List.mem_cons] at h ⊢; exact h.elim .inl fun h => .inr (mem_nf h)
  | .d :: a, x, h => by simp only [nfA] at h; exact List.mem_cons_of_mem _ (mem_nf (mem_ins h))
theorem mem_puts : ∀ {b : List Atm} {x : Int}, Atm.p x ∈ putsA b → Atm.p x ∈ b
  | [], x, h => by simp [putsA] at h
  | .k :: b, x, h => by simp only [putsA] at h; exact List.mem_cons_of_mem _ (mem_puts h)
  | .d :: b, x, h => by simp only [putsA] at h; exact List.mem_cons_of_mem _ (mem_puts h)
  | .p y :: b, x, h => by simp only [putsA, List.mem_cons] at h ⊢; exact h.elim .inl fun h => .inr (mem_puts h)
theorem mem_thr {P : Int → Prop} {f : List Atm → List Atm} {y : Option Int} (hy : ∀ z, y = some z → P z) (hf : ∀ (b : List Atm), (∀ z, Atm.p z ∈ b → P z) → ∀ z, Atm.p z ∈ f b → P z) : ∀ (b : List Atm), (∀ z, Atm.p z ∈ b → P z) → ∀ z, Atm.p z ∈ thrA f y b → P z
  | [], hb, z, h => hf [] hb z (by simpa [thrA] using h)
  | .p x :: b, hb, z, h => by
    simp only [thrA, List.mem_cons] at h
    rcases h with h | h
    · exact hb z (by simp [h])
    · exact mem_thr hy hf b (fun q hq => hb q (by simp [hq])) z h
  | .k :: b, hb, z, h => by
    simp only [thrA, List.mem_cons] at h
    rcases h with h | h
    · cases y with
      | none => cases h
      | some q => simp at h; exact hy z (by rw [h])
    · exact hf b (fun q hq => hb q (by simp [hq])) z h
  | .d :: b, hb, z, h => by
    cases y with
    | none => simp [thrA] at h; exact hf b (fun q hq => hb q (by simp [hq])) z h
    | some q => simp only [thrA] at h; exact hf b (fun q hq => hb q (by simp [hq])) z h
theorem mem_cmp {P : Int → Prop} : ∀ (a : List Atm), (∀ z, Atm.p z ∈ a → P z) → ∀ (b : List Atm), (∀ z, Atm.p z ∈ b → P z) → ∀ z, Atm.p z ∈ cmpA a b → P z
  | [], _, b, hb, z, h => hb z (mem_puts h)
  | .d :: a, ha, b, hb, z, h => by
    simp [cmpA] at h
    exact mem_cmp a (fun q hq => ha q (by simp [hq])) b hb z h
  | .k :: a, ha, b, hb, z, h => mem_thr (y := none) (fun q hq => by cases hq) (mem_cmp a (fun q hq => ha q (by simp [hq]))) b hb z h
  | .p y :: a, ha, b, hb, z, h => mem_thr (y := some y) (fun q hq => by cases hq; exact ha y (by simp)) (mem_cmp a (fun q hq => ha q (by simp [hq]))) b hb z h
def By1 (x : Int) : Prop := 0 ≤ x ∧ x ≤ 255
theorem dA_by {d : List Dop} (h : ∀ o ∈ d, TbD o) : ∀ z, Atm.p z ∈ dA d → By1 z := fun z hz => by
  obtain ⟨o, ho, hm⟩ := List.mem_flatMap.1 hz
  unfold opA at hm
  split at hm
  · exact absurd (List.eq_of_mem_replicate hm) (by simp)
  · split at hm
    · obtain ⟨y, hy, e⟩ := List.mem_map.1 hm
      cases e
      exact h o ho z hy
    · exact absurd (List.eq_of_mem_replicate hm) (by simp)
theorem canA_tb {u : List Atm} (h : ∀ z, Atm.p z ∈ u → By1 z) : ∀ o ∈ canA u, TbD o := fun o ho x hx => by
  rcases (canA_can u).p o ho with ⟨_, _, h3⟩ | ⟨h1, _, _⟩
  · rw [h3] at hx; simp at hx
  · refine h x (mem_nf ?_)
    rw [← canA_atoms]
    exact List.mem_flatMap.2 ⟨o, ho, by simp only [opA, h1]; simp; exact hx⟩
theorem own13H (a : Option Addr) (c : Nat) (d : List Dop) (w : World) (h : IsO w a d) (hb : d.length * 32 ≤ 140737488355328) :
    Calls Try.prog 12 #[.slice a d.length c] w fun y w' => ∃ a' c', y = .returned (.slice a' d.length c') ∧ (IsO w' a' d ∧ d.length ≤ c') ∧ Below w.heap.size w w' :=
  (own13_at a c d w h h.some hb).mono fun y w' ⟨v, e, ho, x⟩ => by
    obtain ⟨a', c', rfl, hi, hc⟩ := own_isOC ho
    exact ⟨a', c', e, ⟨hi, hc⟩, x⟩
theorem ComposeO_at (a : Option Addr) (c : Nat) (d : List Dop) (a' : Option Addr) (c' : Nat) (e : List Dop) (w : World) (h : IsO w a d ∧ d.length ≤ c) (h' : IsO w a' e ∧ e.length ≤ c') (hl : d.length ≤ 4611686018427387904) (hl' : e.length ≤ 4611686018427387904) :
    Calls Try.prog 28 #[.slice a d.length c, .slice a' e.length c'] w fun y w' => ∃ a2 c2, y = .returned (.tuple #[.slice a2 (cmD d e).length c2, .int .i64 (cmE d e)]) ∧ IsO w' a2 (cmD d e) ∧ Below w.heap.size w w' :=
  (Compose_atD a c d a' c' e w h.1 h'.1 h.2 h'.2 hl hl').mono fun y w' ⟨v, e, ho, x⟩ => by
    obtain ⟨a', c', rfl, hi, _⟩ := own_isOC ho
    exact ⟨a', c', e, hi, x⟩
/-- what fits -/
theorem fit_zero {d : List Dop} {n : Nat} (hv : valB d = true) (hf : frD d = n) : fitE d n = 0 := by unfold fitE; rw [hv, hf]; simp
theorem ap_zero {d : List Dop} {b : List Int} (hv : valB d = true) (hf : frD d = b.length) : apE b d = apD b d := by unfold apE; rw [fit_zero hv hf]; simp
theorem val_small {d : List Dop} (hv : valB d = true) : d.length ≤ 4611686018427387904 ∧ d.length * 32 ≤ 140737488355328 := by have := val_len hv; omega
/-- two deltas one behind the other -/
structure TwoD (A C : List Dop) : Prop where
  e : cmE A C = 0
  d : cmD A C = canA (cmpA (dA A) (dA C))
  v : valB (cmD A C) = true
  f : frD (cmD A C) = frD A
  t : toD (cmD A C) = toD C
  a : dA (cmD A C) = nfA (cmpA (dA A) (dA C))
  q : toA (dA A) = frA (dA C)
theorem two_ok {A C : List Dop} (hA : valB A = true) (hC : valB C = true) (hf : toD A = frD C) : TwoD A C := by
  have he : cmE A C = 0 := by unfold cmE; rw [hA, hC, hf]; simp
  have hd : cmD A C = canA (cmpA (dA A) (dA C)) := by unfold cmD; rw [if_pos he]
  obtain ⟨s1, s2, s3, _⟩ := cmp_sizes hA hC hf
  have h5 := (valB_nn hA).2
  have h6 := (valB_nn hC).2
  obtain ⟨v1, v2, v3, v4⟩ := canA_val (u := cmpA (dA A) (dA C)) (by omega) (by omega)
  exact ⟨he, hd, by rw [hd]; exact v1, by rw [hd]; omega, by rw [hd]; omega, by rw [hd]; exact v4, s1⟩
theorem two_tb {A C : List Dop} (hA : ∀ o ∈ A, TbD o) (hC : ∀ o ∈ C, TbD o) : ∀ o ∈ cmD A C, TbD o := by
  unfold cmD
  split
  · exact canA_tb (mem_cmp _ (dA_by hA) _ (dA_by hC))
  · simp
theorem two_app {A C : List Dop} {b : List Int} (hA : valB A = true) (hC : valB C = true) (hf : toD A = frD C) (hb : frD A = b.length) : apD b (cmD A C) = apD (apD b A) C := by
  have h := two_ok hA hC hf
  have k := frA_dA (valB_k hA)
  rw [apD_is h.v (h.f.trans hb), h.a, app_nf, app_cmp _ _ _ (by omega) h.q, ← apD_is hA hb, ← apD_is hC (by rw [ap_len hA hb]; exact hf.symm)]
set_option maxRecDepth 100000 in
set_option maxHeartbeats 4000000 in
theorem DeltaDoes_any (a0 : Option Addr) (c0 : Nat) (b : List Int) (a1 : Option Addr) (c1 : Nat) (x : List Dop) (a2 : Option Addr) (c2 : Nat) (y : List Dop) (w : World) (hb : IsB w a0 c0 b) (hx : IsO w a1 x) (_hzx : x = [] ∨ ∃ q, a1 = some q) (_hlx : x.length * 32 ≤ 140737488355328) (htx : ∀ o ∈ x, TbD o ∧ o.t.length ≤ 140737488355328) (hy : IsO w a2 y) (_hzy : y = [] ∨ ∃ q, a2 = some q) (_hly : y.length * 32 ≤ 140737488355328) (hty : ∀ o ∈ y, TbD o ∧ o.t.length ≤ 140737488355328) :
    Calls Try.prog 7 #[.slice a0 b.length c0, .slice a1 x.length c1, .slice a2 y.length c2] w fun y w' => y = .returned (.bool true) ∧ Below w.heap.size w w' := by
  have HAw := hide (awake13_at w)
  have HSh := hide fun (X : World) (hX : Below w.heap.size w X) => short_at a0 b.length c0 X.heap.size 2 [⟨a1, c1, x⟩, ⟨a2, c2, y⟩] w (X.alloc (.cells #[.slice a1 x.length c1, .slice a2 y.length c2] 23)) (by
    have kN := Cls.new X 23 #[.slice a1 x.length c1, .slice a2 y.length c2]
    refine ⟨fun i hi => ?_, fun i hi => ?_, kN.lt⟩
    · match i with
      | 0 => exact kN.cell 0
      | 1 => exact kN.cell 1
      | i + 2 => simp at hi; omega
    · match i with
      | 0 => exact ⟨hx, fun o ho => (htx o ho).2⟩
      | 1 => exact ⟨hy, fun o ho => (hty o ho).2⟩
      | i + 2 => simp at hi; omega) (hX.alloc hX.size _) (by simp)
  have HB := hide fun (X : World) (hX : Below w.heap.size w X) => bytes13B a0 c0 b X (hb.below hX (Nat.le_refl _))
  have HALL : Hid (b.length ≤ 5000 → ShD x → ShD y → ∃ A C Z : List Dop, ∃ M N : List Int, ((∀ X, Below w.heap.size w X → Calls Try.prog 31 #[.slice a1 x.length c1, .int .i64 (b.length : Int)] X fun y X' => ∃ a' c', y = .returned (.slice a' A.length c') ∧ IsO X' a' A ∧ Below X.heap.size X X') ∧
      (∀ X, Below w.heap.size w X → Calls Try.prog 31 #[.slice a2 y.length c2, .int .i64 (M.length : Int)] X fun y X' => ∃ a' c', y = .returned (.slice a' C.length c') ∧ IsO X' a' C ∧ Below X.heap.size X X') ∧
      (∀ X a3 c3 a4 c4, IsB X a3 c3 b → IsO X a4 A → Calls Try.prog 23 #[.slice a3 b.length c3, .slice a4 A.length c4] X fun y X' => ∃ a' c', y = .returned (.tuple #[.slice a' M.length c', .int .i64 0]) ∧ IsB X' a' c' M ∧ Below X.heap.size X X') ∧
      (∀ X a3 c3 a4 c4, IsB X a3 c3 M → IsO X a4 C → Calls Try.prog 23 #[.slice a3 M.length c3, .slice a4 C.length c4] X fun y X' => ∃ a' c', y = .returned (.tuple #[.slice a' N.length c', .int .i64 0]) ∧ IsB X' a' c' N ∧ Below X.heap.size X X') ∧
      (∀ X a3 c3 a4 c4, IsB X a3 c3 b → IsO X a4 Z → Calls Try.prog 23 #[.slice a3 b.length c3, .slice a4 Z.length c4] X fun y X' => ∃ a' c', y = .returned (.tuple #[.slice a' N.length c', .int .i64 0]) ∧ IsB X' a' c' N ∧ Below X.heap.size X X') ∧
      (∀ X a3 c3 a4 c4, (IsO X a3 A ∧ A.length ≤ c3) → (IsO X a4 C ∧ C.length ≤ c4) → Calls Try.prog 28 #[.slice a3 A.length c3, .slice a4 C.length c4] X fun y X' => ∃ a' c', y = .returned (.tuple #[.slice a' Z.length c', .int .i64 0]) ∧ IsO X' a' Z ∧ Below X.heap.size X X') ∧
      (∀ X a3 c3, IsO X a3 Z → Calls Try.prog 11 #[.slice a3 Z.length c3] X fun y X' => y = .returned (.bool true) ∧ Below X.heap.size X X') ∧
      A.length * 32 ≤ 140737488355328 ∧ C.length * 32 ≤ 140737488355328 ∧ Z.length * 32 ≤ 140737488355328)) := hide fun hbl sx sy => by
    have kx : ∀ o ∈ x, (o.k = 1 ∨ o.k = 2 ∨ o.k = 3) ∧ TbD o ∧ o.t.length ≤ 140737488355328 := fun o ho => ⟨sx.2.1 o ho, htx o ho⟩
    have ky : ∀ o ∈ y, (o.k = 1 ∨ o.k = 2 ∨ o.k = 3) ∧ TbD o ∧ o.t.length ≤ 140737488355328 := fun o ho => ⟨sy.2.1 o ho, hty o ho⟩
    have hsx := sx.2.2
    have hsy := sy.2.2
    have hlx := sx.1
    have hly := sy.1
    obtain ⟨vA, fA, tA, bA⟩ := fitD_ok (n := b.length) kx (by omega)
    have mA := ap_len vA fA
    obtain ⟨vC, fC, tC, bC⟩ := fitD_ok (d := y) (n := (apD b (fitD x b.length)).length) ky (by omega)
    have two := two_ok vA vC (by rw [fC, mA])
    have app := two_app vA vC (by rw [fC, mA]) fA
    have btw := two_tb bA bC
    refine ⟨fitD x b.length, fitD y (apD b (fitD x b.length)).length, _, apD b (fitD x b.length), apD (apD b (fitD x b.length)) (fitD y (apD b (fitD x b.length)).length), ⟨?_, ?_, ?_, ?_, ?_, ?_, ?_, (val_small vA).2, (val_small vC).2, (val_small two.v).2⟩⟩
    · exact fun X hX => (fit_at a1 c1 x b.length X (hx.below hX (Nat.le_refl _)) (by omega) (by omega) kx).mono fun y X' ⟨a', c', e, h1, _, h2⟩ => ⟨a', c', e, h1, h2⟩
    · exact fun X hX => (fit_at a2 c2 y _ X (hy.below hX (Nat.le_refl _)) (by omega) (by omega) ky).mono fun y X' ⟨a', c', e, h1, _, h2⟩ => ⟨a', c', e, h1, h2⟩
    · intro X a3 c3 a4 c4 h1 h2
      have := ApplyB_at a3 c3 b a4 c4 _ X h1 h2 (val_small vA).1 bA
      rw [fit_zero vA fA, ap_zero vA fA] at this
      exact this
    · intro X a3 c3 a4 c4 h1 h2
      have := ApplyB_at a3 c3 _ a4 c4 _ X h1 h2 (val_small vC).1 bC
      rw [fit_zero vC fC, ap_zero vC fC] at this
      exact this
    · intro X a3 c3 a4 c4 h1 h2
      have := ApplyB_at a3 c3 b a4 c4 _ X h1 h2 (val_small two.v).1 btw
      rw [fit_zero two.v (two.f.trans fA), ap_zero two.v (two.f.trans fA), app] at this
      exact this
    · intro X a3 c3 a4 c4 h1 h2
      have := ComposeO_at a3 c3 _ a4 c4 _ X h1 h2 (val_small vA).1 (val_small vC).1
      rw [two.e] at this
      exact this
    · intro X a3 c3 h1
      have := Valid_atD a3 c3 _ X h1 (val_small two.v).1
      rw [two.v] at this
      exact this
  have HBB := hide fun (X : World) (hX : Below w.heap.size w X) => hb.below hX (Nat.le_refl _)
  clear hb hx hy htx hty _hzx _hlx _hzy _hly
  go_enter Try.func7, Try.ntmps7
  go_wp2_with fail
  refine (unhide HAw).mono ?_
  rintro yy w1 ⟨rfl, x1⟩
  dsimp only
  have HX1 := hide x1
  have HS1 := hide (unhide HSh w1 x1)
  simp only [List.length_cons, List.length_nil] at HS1
  have HXa := hide (x1.alloc x1.size (.cells #[.slice a1 x.length c1, .slice a2 y.length c2] 23))
  clear HAw HSh x1
  go_upto_region 3 with fail
  generalize hv1 : w1.alloc (.cells #[.slice a1 x.length c1, .slice a2 y.length c2] 23) = v1 at HS1 HXa
  go_wp2_with fail
  clear hv1
  refine (unhide HS1).mono ?_
  rintro yy w2 ⟨r, rfl, hr, x2⟩
  dsimp only
  have HX2 := hide ((unhide HXa).trans (x2.mono (unhide HXa).size))
  have HR := hide hr
  clear HS1 HX1 HXa x2 hr
  cases r with
  | false =>
    clear HR HALL HB HBB
    go_wp2_with fail
    refine bodyPost_ret (results_tmp rfl _ _ _) rfl ⟨rfl, unhide HX2⟩
  | true =>
    obtain ⟨hbl, hsh⟩ := unhide HR rfl
    have sx : ShD x := hsh 0 (by simp)
    have sy : ShD y := hsh 1 (by simp)
    obtain ⟨A, C, Z, M, N, f1, f2, p1, p2, p3, cm, vl, lA, lC, lZ⟩ := unhide HALL hbl sx sy
    have HF1 := hide f1
    have HF2 := hide f2
    have HP1 := hide fun (X : World) (_ : Below w.heap.size w X) => p1 X
    have HP2 := hide fun (X : World) (_ : Below w.heap.size w X) => p2 X
    have HP3 := hide fun (X : World) (_ : Below w.heap.size w X) => p3 X
    have HCM := hide fun (X : World) (_ : Below w.heap.size w X) => cm X
    have HVL := hide fun (X : World) (_ : Below w.heap.size w X) => vl X
    have HOA := hide fun (X : World) (_ : Below w.heap.size w X) (a3 : Option Addr) (c3 : Nat) (h3 : IsO X a3 A) => own13H a3 c3 A X h3 lA
    have HOC := hide fun (X : World) (_ : Below w.heap.size w X) (a3 : Option Addr) (c3 : Nat) (h3 : IsO X a3 C) => own13H a3 c3 C X h3 lC
    have HOZ := hide fun (X : World) (_ : Below w.heap.size w X) (a3 : Option Addr) (c3 : Nat) (h3 : IsO X a3 Z) => own13H a3 c3 Z X h3 lZ
    have HBM := hide fun (X : World) (_ : Below w.heap.size w X) (a3 : Option Addr) (c3 : Nat) (h3 : IsB X a3 c3 M) => bytes13B a3 c3 M X h3
    clear HR HALL hbl hsh sx sy f1 f2 p1 p2 p3 cm vl lA lC lZ
    have HC3 := hide (unhide HF1 w2 (unhide HX2))
    go_wp2_with fail
    refine (unhide HC3).mono ?_
    rintro y w3 ⟨a3, c3, rfl, i3, x3⟩
    dsimp only
    have HX3 := hide ((unhide HX2).trans (x3.mono (unhide HX2).size))
    have fa_3 := hide (i3)
    clear HC3 HX2 x3  HF1 i3
    have HC4 := hide (unhide HB w3 (unhide HX3))
    go_wp2_with fail
    refine (unhide HC4).mono ?_
    rintro y w4 ⟨a4, c4, rfl, i4, x4⟩
    dsimp only
    have HX4 := hide ((unhide HX3).trans (x4.mono (unhide HX3).size))
    have fa_4 := hide ((unhide fa_3).below x4 (Nat.le_refl _))
    have bb_4 := hide (i4)
    clear HC4 HX3 x4 fa_3 i4
    have HC5 := hide (unhide HOA w4 (unhide HX4) a3 c3 (unhide fa_4))
    go_wp2_with fail
    refine (unhide HC5).mono ?_
    rintro y w5 ⟨a5, c5, rfl, ⟨i5, l5⟩, x5⟩
    dsimp only
    have HX5 := hide ((unhide HX4).trans (x5.mono (unhide HX4).size))
    have fa_5 := hide ((unhide fa_4).below x5 (Nat.le_refl _))
    have bb_5 := hide ((unhide bb_4).below x5 (Nat.le_refl _))
    have oa_5 := hide (i5)
    clear HC5 HX4 x5 fa_4 bb_4 i5
    have HC6 := hide (unhide HP1 w5 (unhide HX5) a4 c4 a5 c5 (unhide bb_5) (unhide oa_5))
    go_wp2_with fail
    refine (unhide HC6).mono ?_
    rintro y w6 ⟨a6, c6, rfl, i6, x6⟩
    dsimp only
    have HX6 := hide ((unhide HX5).trans (x6.mono (unhide HX5).size))
    have fa_6 := hide ((unhide fa_5).below x6 (Nat.le_refl _))
    have bb_6 := hide ((unhide bb_5).below x6 (Nat.le_refl _))
    have oa_6 := hide ((unhide oa_5).below x6 (Nat.le_refl _))
    have mm_6 := hide (i6)
    clear HC6 HX5 x6 fa_5 bb_5 oa_5 HP1 i6
    clear bb_6
    clear oa_6
    have HC7 := hide (unhide HF2 w6 (unhide HX6))
    go_wp2_with fail
    refine (unhide HC7).mono ?_
    rintro y w7 ⟨a7, c7, rfl, i7, x7⟩
    dsimp only
    have HX7 := hide ((unhide HX6).trans (x7.mono (unhide HX6).size))
    have fa_7 := hide ((unhide fa_6).below x7 (Nat.le_refl _))
    have mm_7 := hide ((unhide mm_6).below x7 (Nat.le_refl _))
    have fc_7 := hide (i7)
    clear HC7 HX6 x7 fa_6 mm_6 HF2 i7
    have HC8 := hide (unhide HBM w7 (unhide HX7) a6 c6 (unhide mm_7))
    go_wp2_with fail
    refine (unhide HC8).mono ?_
    rintro y w8 ⟨a8, c8, rfl, i8, x8⟩
    dsimp only
    have HX8 := hide ((unhide HX7).trans (x8.mono (unhide HX7).size))
    have fa_8 := hide ((unhide fa_7).below x8 (Nat.le_refl _))
    have mm_8 := hide ((unhide mm_7).below x8 (Nat.le_refl _))
    have fc_8 := hide ((unhide fc_7).below x8 (Nat.le_refl _))
    have bm_8 := hide (i8)
    clear HC8 HX7 x8 fa_7 mm_7 fc_7 HBM i8
    clear mm_8
    have HC9 := hide (unhide HOC w8 (unhide HX8) a7 c7 (unhide fc_8))
    go_wp2_with fail
    refine (unhide HC9).mono ?_
    rintro y w9 ⟨a9, c9, rfl, ⟨i9, l9⟩, x9⟩
    dsimp only
    have HX9 := hide ((unhide HX8).trans (x9.mono (unhide HX8).size))
    have fa_9 := hide ((unhide fa_8).below x9 (Nat.le_refl _))
    have fc_9 := hide ((unhide fc_8).below x9 (Nat.le_refl _))
    have bm_9 := hide ((unhide bm_8).below x9 (Nat.le_refl _))
    have oc_9 := hide (i9)
    clear HC9 HX8 x9 fa_8 fc_8 bm_8 i9
    have HC10 := hide (unhide HP2 w9 (unhide HX9) a8 c8 a9 c9 (unhide bm_9) (unhide oc_9))
    go_wp2_with fail
    refine (unhide HC10).mono ?_
    rintro y w10 ⟨a10, c10, rfl, i10, x10⟩
    dsimp only
    have HX10 := hide ((unhide HX9).trans (x10.mono (unhide HX9).size))
    have fa_10 := hide ((unhide fa_9).below x10 (Nat.le_refl _))
    have fc_10 := hide ((unhide fc_9).below x10 (Nat.le_refl _))
    have bm_10 := hide ((unhide bm_9).below x10 (Nat.le_refl _))
    have oc_10 := hide ((unhide oc_9).below x10 (Nat.le_refl _))
    have nn_10 := hide (i10)
    clear HC10 HX9 x10 fa_9 fc_9 bm_9 oc_9 HP2 i10
    clear bm_10
    clear oc_10
    have HC11 := hide (unhide HOA w10 (unhide HX10) a3 c3 (unhide fa_10))
    go_wp2_with fail
    refine (unhide HC11).mono ?_
    rintro y w11 ⟨a11, c11, rfl, ⟨i11, l11⟩, x11⟩
    dsimp only
    have HX11 := hide ((unhide HX10).trans (x11.mono (unhide HX10).size))
    have fa_11 := hide ((unhide fa_10).below x11 (Nat.le_refl _))
    have fc_11 := hide ((unhide fc_10).below x11 (Nat.le_refl _))
    have nn_11 := hide ((unhide nn_10).below x11 (Nat.le_refl _))
    have oa_11 := hide (i11)
    clear HC11 HX10 x11 fa_10 fc_10 nn_10 HOA i11
    clear fa_11
    have HC12 := hide (unhide HOC w11 (unhide HX11) a7 c7 (unhide fc_11))
    go_wp2_with fail
    refine (unhide HC12).mono ?_
    rintro y w12 ⟨a12, c12, rfl, ⟨i12, l12⟩, x12⟩
    dsimp only
    have HX12 := hide ((unhide HX11).trans (x12.mono (unhide HX11).size))
    have fc_12 := hide ((unhide fc_11).below x12 (Nat.le_refl _))
    have nn_12 := hide ((unhide nn_11).below x12 (Nat.le_refl _))
    have oa_12 := hide ((unhide oa_11).below x12 (Nat.le_refl _))
    have oc_12 := hide (i12)
    clear HC12 HX11 x12 fc_11 nn_11 oa_11 HOC i12
    clear fc_12
    have HC13 := hide (unhide HCM w12 (unhide HX12) a11 c11 a12 c12 ⟨unhide oa_12, l11⟩ ⟨unhide oc_12, l12⟩)
    go_wp2_with fail
    refine (unhide HC13).mono ?_
    rintro y w13 ⟨a13, c13, rfl, i13, x13⟩
    dsimp only
    have HX13 := hide ((unhide HX12).trans (x13.mono (unhide HX12).size))
    have nn_13 := hide ((unhide nn_12).below x13 (Nat.le_refl _))
    have oa_13 := hide ((unhide oa_12).below x13 (Nat.le_refl _))
    have oc_13 := hide ((unhide oc_12).below x13 (Nat.le_refl _))
    have zz_13 := hide (i13)
    clear HC13 HX12 x13 nn_12 oa_12 oc_12 HCM i13
    clear oa_13
    clear oc_13
    have HC14 := hide (unhide HB w13 (unhide HX13))
    go_wp2_with fail
    refine (unhide HC14).mono ?_
    rintro y w14 ⟨a14, c14, rfl, i14, x14⟩
    dsimp only
    have HX14 := hide ((unhide HX13).trans (x14.mono (unhide HX13).size))
    have nn_14 := hide ((unhide nn_13).below x14 (Nat.le_refl _))
    have zz_14 := hide ((unhide zz_13).below x14 (Nat.le_refl _))
    have bb_14 := hide (i14)
    clear HC14 HX13 x14 nn_13 zz_13 HB i14
    have HC15 := hide (unhide HOZ w14 (unhide HX14) a13 c13 (unhide zz_14))
    go_wp2_with fail
    refine (unhide HC15).mono ?_
    rintro y w15 ⟨a15, c15, rfl, ⟨i15, l15⟩, x15⟩
    dsimp only
    have HX15 := hide ((unhide HX14).trans (x15.mono (unhide HX14).size))
    have nn_15 := hide ((unhide nn_14).below x15 (Nat.le_refl _))
    have zz_15 := hide ((unhide zz_14).below x15 (Nat.le_refl _))
    have bb_15 := hide ((unhide bb_14).below x15 (Nat.le_refl _))
    have oz_15 := hide (i15)
    clear HC15 HX14 x15 nn_14 zz_14 bb_14 i15
    have HC16 := hide (unhide HP3 w15 (unhide HX15) a14 c14 a15 c15 (unhide bb_15) (unhide oz_15))
    go_wp2_with fail
    refine (unhide HC16).mono ?_
    rintro y w16 ⟨a16, c16, rfl, i16, x16⟩
    dsimp only
    have HX16 := hide ((unhide HX15).trans (x16.mono (unhide HX15).size))
    have nn_16 := hide ((unhide nn_15).below x16 (Nat.le_refl _))
    have zz_16 := hide ((unhide zz_15).below x16 (Nat.le_refl _))
    have bb_16 := hide ((unhide bb_15).below x16 (Nat.le_refl _))
    have oz_16 := hide ((unhide oz_15).below x16 (Nat.le_refl _))
    have n2_16 := hide (i16)
    clear HC16 HX15 x16 nn_15 zz_15 bb_15 oz_15 HP3 i16
    clear bb_16
    clear oz_16
    have s1 := str_bs w16 a16 c16 N (unhide n2_16).2.2.1
    have s2 := str_bs w16 a10 c10 N (unhide nn_16).2.2.1
    have HC17 := hide (unhide HOZ w16 (unhide HX16) a13 c13 (unhide zz_16))
    go_wp2_with fail
    refine (unhide HC17).mono ?_
    rintro y w17 ⟨a17, c17, rfl, ⟨i17, l17⟩, x17⟩
    dsimp only
    have HX17 := hide ((unhide HX16).trans (x17.mono (unhide HX16).size))
    have nn_17 := hide ((unhide nn_16).below x17 (Nat.le_refl _))
    have zz_17 := hide ((unhide zz_16).below x17 (Nat.le_refl _))
    have n2_17 := hide ((unhide n2_16).below x17 (Nat.le_refl _))
    have oz_17 := hide (i17)
    clear HC17 HX16 x17 nn_16 zz_16 n2_16 HOZ i17 s1 s2
    clear zz_17
    clear nn_17
    clear n2_17
    have HC18 := hide (unhide HVL w17 (unhide HX17) a17 c17 (unhide oz_17))
    go_wp2_with fail
    refine (unhide HC18).mono ?_
    rintro y w18 ⟨rfl, x18⟩
    dsimp only
    have HX18 := hide ((unhide HX17).trans (x18.mono (unhide HX17).size))
    have oz_18 := hide ((unhide oz_17).below x18 (Nat.le_refl _))
    clear HC18 HX17 x18 oz_17 HVL
    clear oz_18
    go_wp2_with fail
    refine bodyPost_ret (results_tmp rfl _ _ _) rfl ⟨rfl, unhide HX18⟩

end Go.Proofs.Ytecolpnbbpbflaa
