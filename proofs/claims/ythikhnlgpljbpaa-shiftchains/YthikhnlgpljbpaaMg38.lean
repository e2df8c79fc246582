/- Layer 14: ShiftMeets' walk (written by wip/tools/sfu.py). · Layer 14: ShiftChains' walk. -/
import Derived.Test.YthikhnlgpljbpaaMg34
import Derived.Test.YthikhnlgpljbpaaMg37

section
namespace Go.Proofs.Ythikhnlgpljbpaa
open Go.ChangeShapes Go.WideShapes Go.ChangeAt Go.RowKit
attribute [local go_sem] Oper.semAt_some

theorem passP_mem {g : List Atm → List Atm} {x : Int} (hg : ∀ b : List Atm, Atm.p x ∈ g b → Atm.p x ∈ b) : ∀ b : List Atm, Atm.p x ∈ passP g b → Atm.p x ∈ b
  | [], h => hg [] h
  | .k :: b, h => hg (.k :: b) h
  | .d :: b, h => hg (.d :: b) h
  | .p y :: b, h => by
    simp only [passP, List.mem_cons] at h ⊢
    rcases h with h | h
    · exact .inl h
    · exact .inr (passP_mem hg b h)
theorem ov_mem (f : Bool) {x : Int} : ∀ (a b : List Atm), Atm.p x ∈ ovA f a b → Atm.p x ∈ b
  | [], b, h => mem_puts h
  | .p y :: a, b, h => by
    have hg : ∀ b : List Atm, Atm.p x ∈ (.k :: ovA f a b) → Atm.p x ∈ b := fun b h => by
      simp only [List.mem_cons] at h
      rcases h with h | h
      · cases h
      · exact ov_mem f a b h
    unfold ovA at h
    cases f with
    | true => exact passP_mem hg b h
    | false => exact hg b h
  | .k :: a, b, h => by
    refine passP_mem (g := byK (ovA f a)) (fun b h => ?_) b h
    cases b with
    | nil => exact ov_mem f a [] h
    | cons z b => cases z with
      | k => simp [byK] at h; exact List.mem_cons_of_mem _ (ov_mem f a b h)
      | d => simp [byK] at h; exact List.mem_cons_of_mem _ (ov_mem f a b h)
      | p y => exact ov_mem f a (.p y :: b) h
  | .d :: a, b, h => by
    refine passP_mem (g := byD (ovA f a)) (fun b h => ?_) b h
    cases b with
    | nil => exact ov_mem f a [] h
    | cons z b => cases z with
      | k => simp [byD] at h; exact List.mem_cons_of_mem _ (ov_mem f a b h)
      | d => simp [byD] at h; exact List.mem_cons_of_mem _ (ov_mem f a b h)
      | p y => exact ov_mem f a (.p y :: b) h
theorem ovD_tb {d e : List Dop} {f : Bool} (he : ∀ o ∈ e, TbD o) : ∀ o ∈ ovD d e f, TbD o := by
  unfold ovD
  split
  · exact canA_tb fun z hz => dA_by he z (ov_mem f _ _ hz)
  · simp
set_option maxRecDepth 100000 in
set_option maxHeartbeats 4000000 in
theorem ShiftMeets_any (a0 : Option Addr) (c0 : Nat) (t : List Int) (a1 : Option Addr) (c1 : Nat) (d : List Dop) (a2 : Option Addr) (c2 : Nat) (e : List Dop) (w : World) (hb : IsB w a0 c0 t) (hx : IsO w a1 d) (_hzx : d = [] ∨ ∃ q, a1 = some q) (hlx : d.length * 32 ≤ 140737488355328) (htx : ∀ o ∈ d, TbD o ∧ o.t.length ≤ 140737488355328) (hcx : d.length ≤ c1) (hy : IsO w a2 e) (_hzy : e = [] ∨ ∃ q, a2 = some q) (hly : e.length * 32 ≤ 140737488355328) (hty : ∀ o ∈ e, TbD o ∧ o.t.length ≤ 140737488355328) (hcy : e.length ≤ c2) :
    Calls Try.prog 7 #[.slice a0 t.length c0, .slice a1 d.length c1, .slice a2 e.length c2] w fun y w' => y = .returned (.bool true) ∧ Below w.heap.size w w' := by
  have HAw := hide (fixed14_at w)
  have HBO := hide fun (X : World) (hX : Below w.heap.size w X) => Both_at a1 c1 d a2 c2 e X ⟨hx.below hX (Nat.le_refl _), hcx⟩ ⟨hy.below hX (Nat.le_refl _), hcy⟩ (fun o ho => (htx o ho).2) (fun o ho => (hty o ho).2) (by omega) (by omega)
  by_cases hE : boE d e = 0
  · obtain ⟨t1, t2, te⟩ := bo_meet hE
    obtain ⟨o1, o2, eA, eB⟩ := bo_ok hE
    have bX : ∀ o ∈ boA d e, TbD o := by rw [eA]; exact ovD_tb fun o ho => (htx o ho).1
    have bY : ∀ o ∈ boB d e, TbD o := by rw [eB]; exact ovD_tb fun o ho => (hty o ho).1
    have bZ := two_tb (fun o ho => (htx o ho).1) bY
    have vX : valB (boA d e) = true := by rw [eA]; exact o1.v
    have vY : valB (boB d e) = true := by rw [eB]; exact o2.v
    have fX : frD (boA d e) = toD e := by rw [eA]; exact o1.fr
    have fY : frD (boB d e) = toD d := by rw [eB]; exact o2.fr
    have sX := val_small vX
    have sY := val_small vY
    have sZ := val_small t1.v
    have HC1 := hide fun (X : World) (hX : Below w.heap.size w X) (a3 : Option Addr) (c3 : Nat) (h3 : IsO X a3 (boB d e) ∧ (boB d e).length ≤ c3) => ComposeO_at a1 c1 d a3 c3 (boB d e) X ⟨hx.below hX (Nat.le_refl _), hcx⟩ h3 (by omega) sY.1
    have HC2 := hide fun (X : World) (hX : Below w.heap.size w X) (a3 : Option Addr) (c3 : Nat) (h3 : IsO X a3 (boA d e) ∧ (boA d e).length ≤ c3) => ComposeO_at a2 c2 e a3 c3 (boA d e) X ⟨hy.below hX (Nat.le_refl _), hcy⟩ h3 (by omega) sX.1
    rw [t1.e] at HC1
    rw [t2.e, ← te] at HC2
    have HSM := hide fun (X : World) (_ : Below w.heap.size w X) (a3 : Option Addr) (c3 : Nat) (a4 : Option Addr) (c4 : Nat) (h3 : IsO X a3 (cmD d (boB d e))) (h4 : IsO X a4 (cmD d (boB d e))) => RSame14_at a3 c3 _ a4 c4 _ X h3 h4 sZ.1 sZ.1 bZ bZ
    simp only [decide_true] at HSM
    have HVX := hide fun (X : World) (_ : Below w.heap.size w X) (a3 : Option Addr) (c3 : Nat) (h3 : IsO X a3 (boA d e)) => Valid_atD a3 c3 _ X h3 sX.1
    have HVY := hide fun (X : World) (_ : Below w.heap.size w X) (a3 : Option Addr) (c3 : Nat) (h3 : IsO X a3 (boB d e)) => Valid_atD a3 c3 _ X h3 sY.1
    rw [vX] at HVX
    rw [vY] at HVY
    have HP1 := hide fun (X : World) (hX : Below w.heap.size w X) => ApplyB_at a0 c0 t a1 c1 d X (hb.below hX (Nat.le_refl _)) (hx.below hX (Nat.le_refl _)) (by omega) (fun o ho => (htx o ho).1)
    have HP3 := hide fun (X : World) (hX : Below w.heap.size w X) => ApplyB_at a0 c0 t a2 c2 e X (hb.below hX (Nat.le_refl _)) (hy.below hX (Nat.le_refl _)) (by omega) (fun o ho => (hty o ho).1)
    rw [hE] at HBO
    by_cases hF : frD d = t.length
    · have hF2 : frD e = t.length := o2.q.symm.trans hF
      rw [fit_zero o2.v1 hF, ap_zero o2.v1 hF] at HP1
      rw [fit_zero o2.v2 hF2, ap_zero o2.v2 hF2] at HP3
      have gY : frD (boB d e) = (apD t d).length := by rw [ap_len o2.v1 hF]; exact fY
      have gX : frD (boA d e) = (apD t e).length := by rw [ap_len o2.v2 hF2]; exact fX
      have HP2 := hide fun (X : World) (_ : Below w.heap.size w X) (a3 : Option Addr) (c3 : Nat) (a4 : Option Addr) (c4 : Nat) (h3 : IsB X a3 c3 (apD t d)) (h4 : IsO X a4 (boB d e)) => ApplyB_at a3 c3 _ a4 c4 _ X h3 h4 sY.1 bY
      have HP4 := hide fun (X : World) (_ : Below w.heap.size w X) (a3 : Option Addr) (c3 : Nat) (a4 : Option Addr) (c4 : Nat) (h3 : IsB X a3 c3 (apD t e)) (h4 : IsO X a4 (boA d e)) => ApplyB_at a3 c3 _ a4 c4 _ X h3 h4 sX.1 bX
      rw [fit_zero vY gY, ap_zero vY gY, ← two_app o2.v1 vY fY.symm hF] at HP2
      rw [fit_zero vX gX, ap_zero vX gX, ← two_app o2.v2 vX fX.symm hF2, ← te] at HP4
      clear hb hx _hzx hlx htx hcx hy _hzy hly hty hcy hE t1 t2 te o1 o2 eA eB bX bY bZ vX vY fX fY sX sY sZ hF hF2 gY gX
      generalize boA d e = XA at *
      generalize apD t (cmD d (boB d e)) = N at *
      generalize cmD d (boB d e) = Z at *
      generalize boB d e = YB at *
      generalize apD t d = M1 at *
      generalize apD t e = M2 at *
      go_enter Try.func7, Try.ntmps7
      go_wp2_with fail
      refine (unhide HAw).mono ?_
      rintro y w1 ⟨rfl, x1⟩
      dsimp only
      have HX1 := hide x1
      clear HAw x1
      have HC2 := hide (unhide HBO w1 (unhide HX1))
      go_wp2_with fail
      refine (unhide HC2).mono ?_
      rintro y w2 ⟨a3, c3, a4, c4, rfl, ⟨i3, l3⟩, ⟨i4, l4⟩, x2⟩
      dsimp only
      have HX2 := hide ((unhide HX1).trans (x2.mono (unhide HX1).size))
      have x_2 := hide (i3)
      have y_2 := hide (i4)
      clear HC2 HX1 x2  HBO i3 i4
      have HC3 := hide (unhide HC1 w2 (unhide HX2) a4 c4 ⟨unhide y_2, l4⟩)
      go_wp2_with fail
      refine (unhide HC3).mono ?_
      rintro y w3 ⟨a5, c5, rfl, i5, x3⟩
      dsimp only
      have HX3 := hide ((unhide HX2).trans (x3.mono (unhide HX2).size))
      have x_3 := hide ((unhide x_2).below x3 (Nat.le_refl _))
      have y_3 := hide ((unhide y_2).below x3 (Nat.le_refl _))
      have p_3 := hide (i5)
      clear HC3 HX2 x3 x_2 y_2 HC1 i5
      have HC4 := hide (unhide HC2 w3 (unhide HX3) a3 c3 ⟨unhide x_3, l3⟩)
      go_wp2_with fail
      refine (unhide HC4).mono ?_
      rintro y w4 ⟨a6, c6, rfl, i6, x4⟩
      dsimp only
      have HX4 := hide ((unhide HX3).trans (x4.mono (unhide HX3).size))
      have x_4 := hide ((unhide x_3).below x4 (Nat.le_refl _))
      have y_4 := hide ((unhide y_3).below x4 (Nat.le_refl _))
      have p_4 := hide ((unhide p_3).below x4 (Nat.le_refl _))
      have q_4 := hide (i6)
      clear HC4 HX3 x4 x_3 y_3 p_3 HC2 i6
      have HC5 := hide (unhide HSM w4 (unhide HX4) a5 c5 a6 c6 (unhide p_4) (unhide q_4))
      go_wp2_with fail
      refine (unhide HC5).mono ?_
      rintro y w5 ⟨rfl, x5⟩
      dsimp only
      have HX5 := hide ((unhide HX4).trans (x5.mono (unhide HX4).size))
      have x_5 := hide ((unhide x_4).below x5 (Nat.le_refl _))
      have y_5 := hide ((unhide y_4).below x5 (Nat.le_refl _))
      have p_5 := hide ((unhide p_4).below x5 (Nat.le_refl _))
      have q_5 := hide ((unhide q_4).below x5 (Nat.le_refl _))
      clear HC5 HX4 x5 x_4 y_4 p_4 q_4 HSM
      clear p_5
      clear q_5
      have HC6 := hide (unhide HVX w5 (unhide HX5) a3 c3 (unhide x_5))
      go_wp2_with fail
      refine (unhide HC6).mono ?_
      rintro y w6 ⟨rfl, x6⟩
      dsimp only
      have HX6 := hide ((unhide HX5).trans (x6.mono (unhide HX5).size))
      have x_6 := hide ((unhide x_5).below x6 (Nat.le_refl _))
      have y_6 := hide ((unhide y_5).below x6 (Nat.le_refl _))
      clear HC6 HX5 x6 x_5 y_5 HVX
      have HC7 := hide (unhide HVY w6 (unhide HX6) a4 c4 (unhide y_6))
      go_wp2_with fail
      refine (unhide HC7).mono ?_
      rintro y w7 ⟨rfl, x7⟩
      dsimp only
      have HX7 := hide ((unhide HX6).trans (x7.mono (unhide HX6).size))
      have x_7 := hide ((unhide x_6).below x7 (Nat.le_refl _))
      have y_7 := hide ((unhide y_6).below x7 (Nat.le_refl _))
      clear HC7 HX6 x7 x_6 y_6 HVY
      have HC8 := hide (unhide HP1 w7 (unhide HX7))
      go_wp2_with fail
      refine (unhide HC8).mono ?_
      rintro y w8 ⟨a7, c7, rfl, i7, x8⟩
      dsimp only
      have HX8 := hide ((unhide HX7).trans (x8.mono (unhide HX7).size))
      have x_8 := hide ((unhide x_7).below x8 (Nat.le_refl _))
      have y_8 := hide ((unhide y_7).below x8 (Nat.le_refl _))
      have m_8 := hide (i7)
      clear HC8 HX7 x8 x_7 y_7 HP1 i7
      have HC9 := hide (unhide HP2 w8 (unhide HX8) a7 c7 a4 c4 (unhide m_8) (unhide y_8))
      go_wp2_with fail
      refine (unhide HC9).mono ?_
      rintro y w9 ⟨a8, c8, rfl, i8, x9⟩
      dsimp only
      have HX9 := hide ((unhide HX8).trans (x9.mono (unhide HX8).size))
      have x_9 := hide ((unhide x_8).below x9 (Nat.le_refl _))
      have y_9 := hide ((unhide y_8).below x9 (Nat.le_refl _))
      have m_9 := hide ((unhide m_8).below x9 (Nat.le_refl _))
      have s_9 := hide (i8)
      clear HC9 HX8 x9 x_8 y_8 m_8 HP2 i8
      clear m_9
      clear y_9
      have HC10 := hide (unhide HP3 w9 (unhide HX9))
      go_wp2_with fail
      refine (unhide HC10).mono ?_
      rintro y w10 ⟨a9, c9, rfl, i9, x10⟩
      dsimp only
      have HX10 := hide ((unhide HX9).trans (x10.mono (unhide HX9).size))
      have x_10 := hide ((unhide x_9).below x10 (Nat.le_refl _))
      have s_10 := hide ((unhide s_9).below x10 (Nat.le_refl _))
      have m_10 := hide (i9)
      clear HC10 HX9 x10 x_9 s_9 HP3 i9
      have HC11 := hide (unhide HP4 w10 (unhide HX10) a9 c9 a3 c3 (unhide m_10) (unhide x_10))
      go_wp2_with fail
      refine (unhide HC11).mono ?_
      rintro y w11 ⟨a10, c10, rfl, i10, x11⟩
      dsimp only
      have HX11 := hide ((unhide HX10).trans (x11.mono (unhide HX10).size))
      have x_11 := hide ((unhide x_10).below x11 (Nat.le_refl _))
      have s_11 := hide ((unhide s_10).below x11 (Nat.le_refl _))
      have m_11 := hide ((unhide m_10).below x11 (Nat.le_refl _))
      have r_11 := hide (i10)
      clear HC11 HX10 x11 x_10 s_10 m_10 HP4 i10
      clear m_11
      clear x_11
      have s1 := str_bs w11 a8 c8 N (unhide s_11).2.2.1
      have s2 := str_bs w11 a10 c10 N (unhide r_11).2.2.1
      clear s_11
      clear r_11
      go_wp2_with fail
      refine bodyPost_ret (results_tmp rfl _ _ _) rfl ⟨rfl, unhide HX11⟩
    · have hF2 : ¬ frD e = t.length := fun h => hF (o2.q.trans h)
      have f1 : fitE d t.length = 131 := by unfold fitE; rw [o2.v1]; simp [hF]
      rw [f1] at HP1
      clear hb hx _hzx hlx htx hcx hy _hzy hly hty hcy hE t1 t2 te o1 o2 eA eB bX bY bZ vX vY fX fY sX sY sZ hF hF2 f1 HP3
      generalize boA d e = XA at *
      generalize cmD d (boB d e) = Z at *
      generalize boB d e = YB at *
      generalize apE t d = M1 at *
      go_enter Try.func7, Try.ntmps7
      go_wp2_with fail
      refine (unhide HAw).mono ?_
      rintro y w1 ⟨rfl, x1⟩
      dsimp only
      have HX1 := hide x1
      clear HAw x1
      have HC2 := hide (unhide HBO w1 (unhide HX1))
      go_wp2_with fail
      refine (unhide HC2).mono ?_
      rintro y w2 ⟨a3, c3, a4, c4, rfl, ⟨i3, l3⟩, ⟨i4, l4⟩, x2⟩
      dsimp only
      have HX2 := hide ((unhide HX1).trans (x2.mono (unhide HX1).size))
      have x_2 := hide (i3)
      have y_2 := hide (i4)
      clear HC2 HX1 x2  HBO i3 i4
      have HC3 := hide (unhide HC1 w2 (unhide HX2) a4 c4 ⟨unhide y_2, l4⟩)
      go_wp2_with fail
      refine (unhide HC3).mono ?_
      rintro y w3 ⟨a5, c5, rfl, i5, x3⟩
      dsimp only
      have HX3 := hide ((unhide HX2).trans (x3.mono (unhide HX2).size))
      have x_3 := hide ((unhide x_2).below x3 (Nat.le_refl _))
      have y_3 := hide ((unhide y_2).below x3 (Nat.le_refl _))
      have p_3 := hide (i5)
      clear HC3 HX2 x3 x_2 y_2 HC1 i5
      have HC4 := hide (unhide HC2 w3 (unhide HX3) a3 c3 ⟨unhide x_3, l3⟩)
      go_wp2_with fail
      refine (unhide HC4).mono ?_
      rintro y w4 ⟨a6, c6, rfl, i6, x4⟩
      dsimp only
      have HX4 := hide ((unhide HX3).trans (x4.mono (unhide HX3).size))
      have x_4 := hide ((unhide x_3).below x4 (Nat.le_refl _))
      have y_4 := hide ((unhide y_3).below x4 (Nat.le_refl _))
      have p_4 := hide ((unhide p_3).below x4 (Nat.le_refl _))
      have q_4 := hide (i6)
      clear HC4 HX3 x4 x_3 y_3 p_3 HC2 i6
      have HC5 := hide (unhide HSM w4 (unhide HX4) a5 c5 a6 c6 (unhide p_4) (unhide q_4))
      go_wp2_with fail
      refine (unhide HC5).mono ?_
      rintro y w5 ⟨rfl, x5⟩
      dsimp only
      have HX5 := hide ((unhide HX4).trans (x5.mono (unhide HX4).size))
      have x_5 := hide ((unhide x_4).below x5 (Nat.le_refl _))
      have y_5 := hide ((unhide y_4).below x5 (Nat.le_refl _))
      have p_5 := hide ((unhide p_4).below x5 (Nat.le_refl _))
      have q_5 := hide ((unhide q_4).below x5 (Nat.le_refl _))
      clear HC5 HX4 x5 x_4 y_4 p_4 q_4 HSM
      clear p_5
      clear q_5
      have HC6 := hide (unhide HVX w5 (unhide HX5) a3 c3 (unhide x_5))
      go_wp2_with fail
      refine (unhide HC6).mono ?_
      rintro y w6 ⟨rfl, x6⟩
      dsimp only
      have HX6 := hide ((unhide HX5).trans (x6.mono (unhide HX5).size))
      have x_6 := hide ((unhide x_5).below x6 (Nat.le_refl _))
      have y_6 := hide ((unhide y_5).below x6 (Nat.le_refl _))
      clear HC6 HX5 x6 x_5 y_5 HVX
      have HC7 := hide (unhide HVY w6 (unhide HX6) a4 c4 (unhide y_6))
      go_wp2_with fail
      refine (unhide HC7).mono ?_
      rintro y w7 ⟨rfl, x7⟩
      dsimp only
      have HX7 := hide ((unhide HX6).trans (x7.mono (unhide HX6).size))
      have x_7 := hide ((unhide x_6).below x7 (Nat.le_refl _))
      have y_7 := hide ((unhide y_6).below x7 (Nat.le_refl _))
      clear HC7 HX6 x7 x_6 y_6 HVY
      have HC8 := hide (unhide HP1 w7 (unhide HX7))
      go_wp2_with fail
      refine (unhide HC8).mono ?_
      rintro y w8 ⟨a7, c7, rfl, _, x8⟩
      dsimp only
      have HX8 := hide ((unhide HX7).trans (x8.mono (unhide HX7).size))
      have x_8 := hide ((unhide x_7).below x8 (Nat.le_refl _))
      have y_8 := hide ((unhide y_7).below x8 (Nat.le_refl _))
      clear HC8 HX7 x8 x_7 y_7 HP1
      clear x_8
      clear y_8
      go_wp2_with fail
      refine bodyPost_ret (results_tmp rfl _ _ _) rfl ⟨rfl, unhide HX8⟩
  · have eA : boA d e = [] := by unfold boA; rw [if_neg hE]
    have eB : boB d e = [] := by unfold boB; rw [if_neg hE]
    rw [eA, eB] at HBO
    simp only [List.length_nil] at HBO
    clear hb hx _hzx hlx htx hcx hy _hzy hly hty hcy eA eB
    generalize boE d e = E at *
    have t1 : (E != 0) = true := by simpa using hE
    have t1' : (E == 0) = false := by simpa using hE
    clear hE
    go_enter Try.func7, Try.ntmps7
    go_wp2_with fail
    refine (unhide HAw).mono ?_
    rintro y w1 ⟨rfl, x1⟩
    dsimp only
    have HX1 := hide x1
    clear HAw x1
    have HC2 := hide (unhide HBO w1 (unhide HX1))
    go_wp2_with fail
    refine (unhide HC2).mono ?_
    rintro y w2 ⟨a3, c3, a4, c4, rfl, ⟨i3, l3⟩, ⟨i4, l4⟩, x2⟩
    dsimp only
    have HX2 := hide ((unhide HX1).trans (x2.mono (unhide HX1).size))
    have x_2 := hide (i3)
    have y_2 := hide (i4)
    clear HC2 HX1 x2  HBO i3 i4
    clear x_2
    clear y_2
    go_wp2_with fail
    refine bodyPost_ret (results_tmp rfl _ _ _) rfl ⟨rfl, unhide HX2⟩

end Go.Proofs.Ythikhnlgpljbpaa
end

section
namespace Go.Proofs.Ythikhnlgpljbpaa
open Go.ChangeShapes Go.WideShapes Go.ChangeAt Go.RowKit
attribute [local go_sem] Oper.semAt_some

theorem IsDx.up {w Y : World} {A0 : Option Addr} {ds : List Dl} (h : IsDx w w A0 ds) (hb : Below w.heap.size w Y) : IsDx Y Y A0 ds :=
  ⟨(h.on hb).c, fun i hi => ⟨(h.o i hi).1.below hb (Nat.le_refl _), (h.o i hi).2⟩⟩
theorem ch_form {w X : World} {v1 v8 : Value} {b : List Dop} {L : List (List Dop)} (h : ChM w X v1 v8 b L) : ∃ a8 c8, v8 = .slice a8 L.length c8 := by
  obtain ⟨vs, h1, _⟩ := h.l
  rcases h1.2 with ⟨e1, e2⟩ | ⟨g, cap, cur, e1, _⟩
  · exact ⟨none, 0, by rw [e1, e2]⟩
  · exact ⟨_, _, e1⟩
theorem ch_form2 {w X : World} {v1 v8 : Value} {b : List Dop} {L : List (List Dop)} (h : ChM w X v1 v8 b L) (hp : 0 < L.length) : ∃ G c, v8 = .slice (some ⟨G, 0, none⟩) L.length c := by
  obtain ⟨vs, h1, _⟩ := h.l
  obtain ⟨G, c, hv, _⟩ := h1.form hp
  exact ⟨G, c, hv⟩
theorem ch_cell {w X : World} {v1 : Value} {b : List Dop} {L : List (List Dop)} {G n c : Nat} (h : ChM w X v1 (.slice (some ⟨G, 0, none⟩) n c) b L) {k : Nat} (hk : k < L.length) :
    ∃ x cx, X.cell? ⟨G, k, none⟩ = some (.slice x (L.getD k []).length cx) ∧ IsO X x (L.getD k []) ∧ (L.getD k []).length ≤ cx := by
  obtain ⟨vs, h1, h2, h3⟩ := h.l
  obtain ⟨a, cx, e1, e2, e3⟩ := own_isOC (h3 k hk)
  have hc := World.ownsRow.cells h1 rfl k (vs.getD k undef) (by simp [List.getD, List.getElem?_eq_getElem (show k < vs.length by omega)])
  rw [Addr.add_lit, Nat.zero_add, e1] at hc
  exact ⟨a, cx, hc, e2, e3⟩
/-- what holds between two rounds, in plain words -/
structure RdI (ds : List Dl) (e last : List Dop) (L : List (List Dop)) (k : Nat) (one two bk : List Dop) : Prop where
  s : (k = 0 ∧ one = (ds.getD 0 dlZ).d ∧ two = e ∧ bk = e) ∨ (0 < k ∧ ChRd one bk two)
  q : chL ((ds.drop k).map (·.d)) bk = ((last, L.drop k), 0)
  t1 : ∀ o ∈ one, TbD o
  t2 : ∀ o ∈ bk, TbD o
  v1 : valB one = true
  v2 : valB two = true
theorem rd_parts {ds : List Dl} {e last : List Dop} {L : List (List Dop)} {k : Nat} {one two bk : List Dop} (h : RdI ds e last L k one two bk) (hk : k < ds.length) (hL : L.length = ds.length) :
    boE (ds.getD k dlZ).d bk = 0 ∧ L.getD k [] = boA (ds.getD k dlZ).d bk ∧ chL ((ds.drop (k + 1)).map (·.d)) (boB (ds.getD k dlZ).d bk) = ((last, L.drop (k + 1)), 0) := by
  have hq := h.q
  rw [drop_dl hk, List.map_cons] at hq
  obtain ⟨h1, h2, h3⟩ := ch_cons (by rw [hq])
  rw [hq, List.drop_eq_getElem_cons (show k < L.length by omega)] at h3
  simp only [Prod.mk.injEq, List.cons.injEq] at h3
  obtain ⟨e1, e2, e3⟩ := h3
  refine ⟨h1, by simp [List.getD, List.getElem?_eq_getElem (show k < L.length by omega), e2], ?_⟩
  rw [e1, e3, ← h2]
theorem rd_first {ds : List Dl} {e last : List Dop} {L : List (List Dop)} {one two bk : List Dop} (h : RdI ds e last L 0 one two bk) (hk : 0 < ds.length) (hL : L.length = ds.length) :
    ∃ b', RdI ds e last L 1 one (cmD two (L.getD 0 [])) b' ∧ cmE two (L.getD 0 []) = 0 ∧ valB (L.getD 0 []) = true := by
  obtain ⟨p1, p2, p3⟩ := rd_parts h hk hL
  rcases h.s with ⟨_, s1, s2, s3⟩ | ⟨s0, _⟩
  · rw [p2]
    rw [s3, ← s1] at p1 p3 ⊢
    rw [s2]
    obtain ⟨f1, f2, f3⟩ := ch_first p1
    refine ⟨boB one e, ⟨Or.inr ⟨by decide, f1⟩, p3, h.t1, ?_, h.v1, f1.two.2.2.2⟩, f2, f3⟩
    obtain ⟨_, _, _, eB⟩ := bo_ok p1
    rw [eB]
    exact ovD_tb (by rw [← s3]; exact h.t2)
  · omega
theorem rd_next {ds : List Dl} {e last : List Dop} {L : List (List Dop)} {k : Nat} {one two bk : List Dop} (h : RdI ds e last L k one two bk) (h0 : 0 < k) (hk : k < ds.length) (hL : L.length = ds.length) (ht : ∀ o ∈ (ds.getD k dlZ).d, TbD o) :
    ∃ b', RdI ds e last L (k + 1) (cmD one (ds.getD k dlZ).d) (cmD two (L.getD k [])) b' ∧ cmE one (ds.getD k dlZ).d = 0 ∧ cmE two (L.getD k []) = 0 ∧ valB (L.getD k []) = true := by
  obtain ⟨p1, p2, p3⟩ := rd_parts h hk hL
  rcases h.s with ⟨s0, _⟩ | ⟨_, s1⟩
  · omega
  · rw [p2]
    obtain ⟨f1, f2, f3, f4⟩ := ch_next s1 p1
    refine ⟨_, ⟨Or.inr ⟨by omega, f1⟩, p3, two_tb h.t1 ht, ?_, f1.v, f1.two.2.2.2⟩, f2, f3, f4⟩
    obtain ⟨_, _, _, eB⟩ := bo_ok p1
    rw [eB]
    exact ovD_tb h.t2
theorem rd_end {ds : List Dl} {e last : List Dop} {L : List (List Dop)} {one two bk : List Dop} (h : RdI ds e last L ds.length one two bk) (h0 : 0 < ds.length) :
    cmE one last = 0 ∧ cmD one last = two ∧ valB last = true ∧ (∀ o ∈ two, TbD o) := by
  have hq := h.q
  rw [List.drop_length] at hq
  simp only [List.map_nil, chL, Prod.mk.injEq] at hq
  obtain ⟨⟨rfl, _⟩, _⟩ := hq
  rcases h.s with ⟨s0, _⟩ | ⟨_, s1⟩
  · omega
  · refine ⟨s1.two.2.1, s1.m, s1.vb, ?_⟩
    rw [← s1.m]
    exact two_tb h.t1 h.t2
end Go.Proofs.Ythikhnlgpljbpaa
end
