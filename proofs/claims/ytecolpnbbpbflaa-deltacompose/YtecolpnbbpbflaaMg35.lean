/- Layer 13: DeltaCanon's walk (written by wip/tools/dsf.py). -/
import Derived.Test.YtecolpnbbpbflaaMg30
import Derived.Test.YtecolpnbbpbflaaMg34

namespace Go.Proofs.Ytecolpnbbpbflaa
open Go.ChangeShapes Go.WideShapes Go.ChangeAt Go.RowKit
attribute [local go_sem] Oper.semAt_some

theorem own_isOC {W : World} {B : Nat} {t : TypeId} {v : Value} {d : List Dop} (h : W.ownsRow B t 3 v d.length (opsV d)) : ∃ a c, v = .slice a d.length c ∧ IsO W a d ∧ d.length ≤ c := by
  have hh := h
  rcases h.2 with ⟨rfl, h0⟩ | ⟨g, cap, cur, rfl, hB, hg, hc, hm, hs, ht⟩
  · have : d = [] := List.length_eq_zero_iff.1 h0
    exact ⟨none, 0, by rw [h0], Or.inl this, by omega⟩
  · refine ⟨some ⟨g, 0, none⟩, cap, rfl, Or.inr ⟨g, 0, rfl, (Array.getElem?_eq_some_iff.1 hg).1, fun k hk => ?_⟩, hc⟩
    have f : ∀ j, j < 3 → W.cell? ⟨g, 0 + (k * 3 + j), none⟩ = (opL (d.getD k opZ))[j]? := fun j hj => by
      have e := opsV_get d k j hk hj
      obtain ⟨u, hu⟩ : ∃ u, (opL (d.getD k opZ))[j]? = some u := ⟨_, List.getElem?_eq_getElem (by simpa [opL] using hj)⟩
      rw [hu] at e ⊢
      have := World.ownsRow.cells hh rfl (k * 3 + j) u e
      rwa [Addr.add_lit] at this
    exact ⟨f 0 (by decide), f 1 (by decide), f 2 (by decide)⟩
theorem can_small {d : List Dop} (hk : ∀ o ∈ d, o.k = 1 ∨ o.k = 2 ∨ o.k = 3) (hl : frD d ≤ 268435456 ∧ toD d ≤ 268435456) : (canA (dA d)).length ≤ 1073741824 := by
  have h1 := dA_len hk
  have h2 := feed_bound (dA d)
  have h3 := fin_lenD (feedA b0 (dA d))
  unfold canA
  omega
theorem canD_len (d : List Dop) : (canD d).1.length ≤ 4611686018427387904 := by
  unfold canD
  cases h1 : d.all knB with
  | false => simp
  | true =>
    cases h2 : lonB d with
    | true => simp
    | false =>
      simp only [if_true, Bool.false_eq_true, if_false]
      have h3 : ¬ (268435456 < frD d ∨ 268435456 < toD d) := of_decide_eq_false h2
      have := can_small (d := d) (fun o ho => kn_k h1 ho) (by omega)
      omega
theorem canD_tb {d : List Dop} (h : ∀ o ∈ d, TbD o) : ∀ o ∈ (canD d).1, TbD o := by
  unfold canD
  split
  · split
    · simp
    · exact can_tb h
  · simp
theorem her_tb {m : Nat} {cs : List Dop} (h : ∀ o ∈ cs, TbD o) : ∀ o ∈ herL m cs, TbD o := by
  unfold herL
  split
  · exact h
  · intro o ho
    rcases List.mem_append.1 ho with ho | ho
    · exact h o ho
    · simp at ho; subst ho; intro x hx; simp at hx
theorem up_tb {f : Dop → Dop} {l : List Dop} (h : ∀ o ∈ l, TbD o) (hf : ∀ x, TbD x → TbD (f x)) : ∀ o ∈ upL f l, TbD o := by
  by_cases hl : l = []
  · subst hl; intro o ho; simp [upL] at ho
  · obtain ⟨e, x, rfl⟩ := list_snoc hl
    rw [upL_snoc]
    intro o ho
    rcases List.mem_append.1 ho with ho | ho
    · exact h o (by simp [ho])
    · simp at ho; subst ho; exact hf x (h x (by simp))
theorem stL_tb {s : Nat × List Dop} {o : Dop} (h : ∀ x ∈ s.2, TbD x) (ho : TbD o) : ∀ x ∈ (stL s o).2, TbD x := by
  unfold stL
  split
  · exact h
  · split
    · exact up_tb (her_tb h) (fun x _ => ho)
    · exact up_tb (her_tb h) (fun x hx => hx)
theorem runL_tb {d : List Dop} (h : ∀ o ∈ d, TbD o) : ∀ s : Nat × List Dop, (∀ x ∈ s.2, TbD x) → ∀ x ∈ (d.foldl stL s).2, TbD x := by
  induction d with
  | nil => intro s hs; exact hs
  | cons o r ih => intro s hs; exact ih (fun x hx => h x (by simp [hx])) _ (stL_tb hs (h o (by simp)))
set_option maxRecDepth 100000 in
set_option maxHeartbeats 2000000 in
theorem DeltaCanon_any (a : Option Addr) (c : Nat) (d : List Dop) (w : World) (h : IsO w a d) (hz : d = [] ∨ ∃ q, a = some q) (hl : d.length * 32 ≤ 140737488355328) (ht : ∀ o ∈ d, TbD o ∧ o.t.length ≤ 140737488355328) :
    Calls Try.prog 3 #[.slice a d.length c] w fun y w' => y = .returned (.bool true) ∧ Below w.heap.size w w' := by
  have hl2 : d.length ≤ 4611686018427387904 := by omega
  have HAw := hide (awake13_at w)
  have HO := hide fun (X : World) (hx : Below w.heap.size w X) => own13G a c d X (h.below hx (Nat.le_refl _)) hz hl
  have HV := hide fun (X : World) (_ : Below w.heap.size w X) (a2 : Option Addr) (c2 : Nat) (h2 : IsO X a2 d) => Valid_atD a2 c2 d X h2 hl2
  have HRV := hide fun (X : World) (hx : Below w.heap.size w X) => RValid_at a c d X (h.below hx (Nat.le_refl _)) hl2 (fun o ho => (ht o ho).2)
  have HCa := hide fun (X : World) (_ : Below w.heap.size w X) (a2 : Option Addr) (c2 : Nat) (h2 : IsO X a2 d) => (Canon_at a2 c2 d X h2 hl2).mono (R' := fun y w' => ∃ a' c', y = .returned (.tuple #[.slice a' (canD d).1.length c', .int .i64 (canD d).2]) ∧ IsO w' a' (canD d).1 ∧ Below X.heap.size X w') fun y w' ⟨v, e, ho, x⟩ => by
    obtain ⟨a', c', rfl, hi, _⟩ := own_isOC ho
    exact ⟨a', c', e, hi, x⟩
  have HRC := hide fun (X : World) (hx : Below w.heap.size w X) => RCanon_at a c d X (h.below hx (Nat.le_refl _)) hl2 (fun o ho => (ht o ho).2)
  have HLe := hide fun (X : World) (_ : Below w.heap.size w X) (a2 : Option Addr) (c2 : Nat) (h2 : IsO X a2 d) => Lens_at a2 c2 d X h2 hl2
  have HCh := hide fun (X : World) (_ : Below w.heap.size w X) (a2 : Option Addr) (c2 : Nat) (h2 : IsO X a2 d) => (Changes_at a2 c2 d X h2 hl2).mono (R' := fun y w' => ∃ a' c', y = .returned (.tuple #[.slice a' (chD d).1.length c', .int .i64 (chD d).2]) ∧ IsO w' a' (chD d).1 ∧ Below X.heap.size X w') fun y w' ⟨v, e, ho, x⟩ => by
    obtain ⟨a', c', rfl, hi, _⟩ := own_isOC ho
    exact ⟨a', c', e, hi, x⟩
  have HRL := hide fun (X : World) (hx : Below w.heap.size w X) (hv : valB d = true) => RLens_at a c d X (h.below hx (Nat.le_refl _)) hl2 hv
  have HRH := hide fun (X : World) (hx : Below w.heap.size w X) (hv : valB d = true) => (RChanges_at a c d X (h.below hx (Nat.le_refl _)) hl2 hv).mono (R' := fun y w' => ∃ a' c', y = .returned (.slice a' (runL d).2.length c') ∧ IsO w' a' (runL d).2 ∧ Below X.heap.size X w') fun y w' ⟨v, e, ho, x⟩ => by
    obtain ⟨a', c', rfl, hi, _⟩ := own_isOC ho
    exact ⟨a', c', e, hi, x⟩
  have HSa := hide fun (X : World) (_ : Below w.heap.size w X) (a1 : Option Addr) (c1 : Nat) (a2 : Option Addr) (c2 : Nat) (h1 : IsO X a1 (canD d).1) (h2 : IsO X a2 (canD d).1) => same13_at a1 c1 _ a2 c2 _ X h1 h2 (canD_len d) (canD_len d) (canD_tb fun o ho => (ht o ho).1) (canD_tb fun o ho => (ht o ho).1)
  have HSC := hide fun (X : World) (_ : Below w.heap.size w X) (hv : valB d = true) (a1 : Option Addr) (c1 : Nat) (a2 : Option Addr) (c2 : Nat) (h1 : IsO X a1 (runL d).2) (h2 : IsO X a2 (runL d).2) => RSameC_at a1 c1 _ a2 c2 _ X h1 h2 (by have := runL_len d d.length (Nat.le_refl _); rw [List.take_length] at this; omega) (by have := runL_len d d.length (Nat.le_refl _); rw [List.take_length] at this; omega) (runL_tb (fun o ho => (ht o ho).1) _ (by simp)) (runL_tb (fun o ho => (ht o ho).1) _ (by simp))
  have HD : Hid (decide ((canD d).1 = (canD d).1) = true) := hide (by simp)
  have HD2 : Hid (decide ((runL d).2 = (runL d).2) = true) := hide (by simp)
  clear h hz hl ht hl2
  rw [unhide HD] at HSa
  rw [unhide HD2] at HSC
  unfold lensV at HLe
  unfold chD at HCh
  generalize (canD d).1 = CD at *
  generalize (canD d).2 = CE at *
  clear HD HD2
  cases hv : valB d with
  | false =>
    simp only [hv, Bool.false_eq_true, if_false] at HV HRV HLe HCh
    clear HRL HRH HSC hv
    go_enter Try.func3, Try.ntmps3
    go_wp2_with fail
    refine (unhide HAw).mono ?_
    rintro y w1 ⟨rfl, x1⟩
    dsimp only
    have HX1 := hide x1
    clear HAw x1
    have HC2 := hide (unhide HRV w1 (unhide HX1))
    go_wp2_with fail
    refine (unhide HC2).mono ?_
    rintro y w2 ⟨rfl, x2⟩
    dsimp only
    have HX2 := hide ((unhide HX1).trans (x2.mono (unhide HX1).size))
    clear HC2 HX1 x2  HRV
    have HC3 := hide (unhide HO w2 (unhide HX2))
    go_wp2_with fail
    refine (unhide HC3).mono ?_
    rintro y w3 ⟨a3, c3, rfl, i3, x3⟩
    dsimp only
    have HX3 := hide ((unhide HX2).trans (x3.mono (unhide HX2).size))
    have ho_3 := hide (i3)
    clear HC3 HX2 x3  i3
    have HC4 := hide (unhide HV w3 (unhide HX3) a3 c3 (unhide ho_3))
    go_wp2_with fail
    refine (unhide HC4).mono ?_
    rintro y w4 ⟨rfl, x4⟩
    dsimp only
    have HX4 := hide ((unhide HX3).trans (x4.mono (unhide HX3).size))
    have ho_4 := hide ((unhide ho_3).below x4 (Nat.le_refl _))
    clear HC4 HX3 x4 ho_3 HV
    clear ho_4
    have HC5 := hide (unhide HO w4 (unhide HX4))
    go_wp2_with fail
    refine (unhide HC5).mono ?_
    rintro y w5 ⟨a5, c5, rfl, i5, x5⟩
    dsimp only
    have HX5 := hide ((unhide HX4).trans (x5.mono (unhide HX4).size))
    have ho_5 := hide (i5)
    clear HC5 HX4 x5  i5
    have HC6 := hide (unhide HCa w5 (unhide HX5) a5 c5 (unhide ho_5))
    go_wp2_with fail
    refine (unhide HC6).mono ?_
    rintro y w6 ⟨a6, c6, rfl, i6, x6⟩
    dsimp only
    have HX6 := hide ((unhide HX5).trans (x6.mono (unhide HX5).size))
    have ho_6 := hide ((unhide ho_5).below x6 (Nat.le_refl _))
    have ca_6 := hide (i6)
    clear HC6 HX5 x6 ho_5 HCa i6
    clear ho_6
    have HC7 := hide (unhide HRC w6 (unhide HX6))
    go_wp2_with fail
    refine (unhide HC7).mono ?_
    rintro y w7 ⟨a7, c7, rfl, i7, _, x7⟩
    dsimp only
    have HX7 := hide ((unhide HX6).trans (x7.mono (unhide HX6).size))
    have ca_7 := hide ((unhide ca_6).below x7 (Nat.le_refl _))
    have rc_7 := hide (i7)
    clear HC7 HX6 x7 ca_6 HRC i7
    have HC8 := hide (unhide HSa w7 (unhide HX7) a6 c6 a7 c7 (unhide ca_7) (unhide rc_7))
    go_wp2_with fail
    refine (unhide HC8).mono ?_
    rintro y w8 ⟨rfl, x8⟩
    dsimp only
    have HX8 := hide ((unhide HX7).trans (x8.mono (unhide HX7).size))
    have ca_8 := hide ((unhide ca_7).below x8 (Nat.le_refl _))
    have rc_8 := hide ((unhide rc_7).below x8 (Nat.le_refl _))
    clear HC8 HX7 x8 ca_7 rc_7 HSa
    clear ca_8
    clear rc_8
    have HC9 := hide (unhide HO w8 (unhide HX8))
    go_wp2_with fail
    refine (unhide HC9).mono ?_
    rintro y w9 ⟨a9, c9, rfl, i9, x9⟩
    dsimp only
    have HX9 := hide ((unhide HX8).trans (x9.mono (unhide HX8).size))
    have ho_9 := hide (i9)
    clear HC9 HX8 x9  i9
    have HC10 := hide (unhide HLe w9 (unhide HX9) a9 c9 (unhide ho_9))
    go_wp2_with fail
    refine (unhide HC10).mono ?_
    rintro y w10 ⟨rfl, x10⟩
    dsimp only
    have HX10 := hide ((unhide HX9).trans (x10.mono (unhide HX9).size))
    have ho_10 := hide ((unhide ho_9).below x10 (Nat.le_refl _))
    clear HC10 HX9 x10 ho_9 HLe
    clear ho_10
    have HC11 := hide (unhide HO w10 (unhide HX10))
    go_wp2_with fail
    refine (unhide HC11).mono ?_
    rintro y w11 ⟨a11, c11, rfl, i11, x11⟩
    dsimp only
    have HX11 := hide ((unhide HX10).trans (x11.mono (unhide HX10).size))
    have ho_11 := hide (i11)
    clear HC11 HX10 x11  i11
    have HC12 := hide (unhide HCh w11 (unhide HX11) a11 c11 (unhide ho_11))
    go_wp2_with fail
    refine (unhide HC12).mono ?_
    rintro y w12 ⟨a12, c12, rfl, i12, x12⟩
    dsimp only
    have HX12 := hide ((unhide HX11).trans (x12.mono (unhide HX11).size))
    have ho_12 := hide ((unhide ho_11).below x12 (Nat.le_refl _))
    have ch_12 := hide (i12)
    clear HC12 HX11 x12 ho_11 HCh i12 HO
    clear ho_12
    clear ch_12
    go_wp2_with fail
    refine bodyPost_ret (results_tmp rfl _ _ _) rfl ⟨rfl, unhide HX12⟩
  | true =>
    simp only [hv, if_true] at HV HRV HLe HCh
    have HRL := hide fun (X : World) (hx : Below w.heap.size w X) => unhide HRL X hx hv
    have HRH := hide fun (X : World) (hx : Below w.heap.size w X) => unhide HRH X hx hv
    have HSC := hide fun (X : World) (hx : Below w.heap.size w X) => unhide HSC X hx hv
    clear hv
    generalize (runL d).2 = RD at *
    generalize frD d = F at *
    generalize toD d = T at *
    go_enter Try.func3, Try.ntmps3
    go_wp2_with fail
    refine (unhide HAw).mono ?_
    rintro y w1 ⟨rfl, x1⟩
    dsimp only
    have HX1 := hide x1
    clear HAw x1
    have HC2 := hide (unhide HRV w1 (unhide HX1))
    go_wp2_with fail
    refine (unhide HC2).mono ?_
    rintro y w2 ⟨rfl, x2⟩
    dsimp only
    have HX2 := hide ((unhide HX1).trans (x2.mono (unhide HX1).size))
    clear HC2 HX1 x2  HRV
    have HC3 := hide (unhide HO w2 (unhide HX2))
    go_wp2_with fail
    refine (unhide HC3).mono ?_
    rintro y w3 ⟨a3, c3, rfl, i3, x3⟩
    dsimp only
    have HX3 := hide ((unhide HX2).trans (x3.mono (unhide HX2).size))
    have ho_3 := hide (i3)
    clear HC3 HX2 x3  i3
    have HC4 := hide (unhide HV w3 (unhide HX3) a3 c3 (unhide ho_3))
    go_wp2_with fail
    refine (unhide HC4).mono ?_
    rintro y w4 ⟨rfl, x4⟩
    dsimp only
    have HX4 := hide ((unhide HX3).trans (x4.mono (unhide HX3).size))
    have ho_4 := hide ((unhide ho_3).below x4 (Nat.le_refl _))
    clear HC4 HX3 x4 ho_3 HV
    clear ho_4
    have HC5 := hide (unhide HO w4 (unhide HX4))
    go_wp2_with fail
    refine (unhide HC5).mono ?_
    rintro y w5 ⟨a5, c5, rfl, i5, x5⟩
    dsimp only
    have HX5 := hide ((unhide HX4).trans (x5.mono (unhide HX4).size))
    have ho_5 := hide (i5)
    clear HC5 HX4 x5  i5
    have HC6 := hide (unhide HCa w5 (unhide HX5) a5 c5 (unhide ho_5))
    go_wp2_with fail
    refine (unhide HC6).mono ?_
    rintro y w6 ⟨a6, c6, rfl, i6, x6⟩
    dsimp only
    have HX6 := hide ((unhide HX5).trans (x6.mono (unhide HX5).size))
    have ho_6 := hide ((unhide ho_5).below x6 (Nat.le_refl _))
    have ca_6 := hide (i6)
    clear HC6 HX5 x6 ho_5 HCa i6
    clear ho_6
    have HC7 := hide (unhide HRC w6 (unhide HX6))
    go_wp2_with fail
    refine (unhide HC7).mono ?_
    rintro y w7 ⟨a7, c7, rfl, i7, _, x7⟩
    dsimp only
    have HX7 := hide ((unhide HX6).trans (x7.mono (unhide HX6).size))
    have ca_7 := hide ((unhide ca_6).below x7 (Nat.le_refl _))
    have rc_7 := hide (i7)
    clear HC7 HX6 x7 ca_6 HRC i7
    have HC8 := hide (unhide HSa w7 (unhide HX7) a6 c6 a7 c7 (unhide ca_7) (unhide rc_7))
    go_wp2_with fail
    refine (unhide HC8).mono ?_
    rintro y w8 ⟨rfl, x8⟩
    dsimp only
    have HX8 := hide ((unhide HX7).trans (x8.mono (unhide HX7).size))
    have ca_8 := hide ((unhide ca_7).below x8 (Nat.le_refl _))
    have rc_8 := hide ((unhide rc_7).below x8 (Nat.le_refl _))
    clear HC8 HX7 x8 ca_7 rc_7 HSa
    clear ca_8
    clear rc_8
    have HC9 := hide (unhide HO w8 (unhide HX8))
    go_wp2_with fail
    refine (unhide HC9).mono ?_
    rintro y w9 ⟨a9, c9, rfl, i9, x9⟩
    dsimp only
    have HX9 := hide ((unhide HX8).trans (x9.mono (unhide HX8).size))
    have ho_9 := hide (i9)
    clear HC9 HX8 x9  i9
    have HC10 := hide (unhide HLe w9 (unhide HX9) a9 c9 (unhide ho_9))
    go_wp2_with fail
    refine (unhide HC10).mono ?_
    rintro y w10 ⟨rfl, x10⟩
    dsimp only
    have HX10 := hide ((unhide HX9).trans (x10.mono (unhide HX9).size))
    have ho_10 := hide ((unhide ho_9).below x10 (Nat.le_refl _))
    clear HC10 HX9 x10 ho_9 HLe
    clear ho_10
    have HC11 := hide (unhide HO w10 (unhide HX10))
    go_wp2_with fail
    refine (unhide HC11).mono ?_
    rintro y w11 ⟨a11, c11, rfl, i11, x11⟩
    dsimp only
    have HX11 := hide ((unhide HX10).trans (x11.mono (unhide HX10).size))
    have ho_11 := hide (i11)
    clear HC11 HX10 x11  i11
    have HC12 := hide (unhide HCh w11 (unhide HX11) a11 c11 (unhide ho_11))
    go_wp2_with fail
    refine (unhide HC12).mono ?_
    rintro y w12 ⟨a12, c12, rfl, i12, x12⟩
    dsimp only
    have HX12 := hide ((unhide HX11).trans (x12.mono (unhide HX11).size))
    have ho_12 := hide ((unhide ho_11).below x12 (Nat.le_refl _))
    have ch_12 := hide (i12)
    clear HC12 HX11 x12 ho_11 HCh i12 HO
    clear ho_12
    have HC13 := hide (unhide HRL w12 (unhide HX12))
    go_wp2_with fail
    refine (unhide HC13).mono ?_
    rintro y w13 ⟨rfl, x13⟩
    dsimp only
    have HX13 := hide ((unhide HX12).trans (x13.mono (unhide HX12).size))
    have ch_13 := hide ((unhide ch_12).below x13 (Nat.le_refl _))
    clear HC13 HX12 x13 ch_12 HRL
    have HC14 := hide (unhide HRH w13 (unhide HX13))
    go_wp2_with fail
    refine (unhide HC14).mono ?_
    rintro y w14 ⟨a14, c14, rfl, i14, x14⟩
    dsimp only
    have HX14 := hide ((unhide HX13).trans (x14.mono (unhide HX13).size))
    have ch_14 := hide ((unhide ch_13).below x14 (Nat.le_refl _))
    have rh_14 := hide (i14)
    clear HC14 HX13 x14 ch_13 HRH i14
    have HC15 := hide (unhide HSC w14 (unhide HX14) a12 c12 a14 c14 (unhide ch_14) (unhide rh_14))
    go_wp2_with fail
    refine (unhide HC15).mono ?_
    rintro y w15 ⟨rfl, x15⟩
    dsimp only
    have HX15 := hide ((unhide HX14).trans (x15.mono (unhide HX14).size))
    have ch_15 := hide ((unhide ch_14).below x15 (Nat.le_refl _))
    have rh_15 := hide ((unhide rh_14).below x15 (Nat.le_refl _))
    clear HC15 HX14 x15 ch_14 rh_14 HSC
    clear ch_15
    clear rh_15
    go_wp2_with fail
    refine bodyPost_ret (results_tmp rfl _ _ _) rfl ⟨rfl, unhide HX15⟩

end Go.Proofs.Ytecolpnbbpbflaa
