/- Layer 14: Both (written by wip/tools/sft.py). · Layer 14: ShiftMeets' walk (written by wip/tools/sfu.py). -/
import Derived.Test.YthikhnlgpljbpaaMg33

section
namespace Go.Proofs.Ythikhnlgpljbpaa
open Go.ChangeShapes Go.WideShapes Go.ChangeAt Go.RowKit
attribute [local go_sem] Oper.semAt_some

def boE (d e : List Dop) : Int := if ovE e d true = 0 then ovE d e false else ovE e d true
def boA (d e : List Dop) : List Dop := if boE d e = 0 then ovD e d true else []
def boB (d e : List Dop) : List Dop := if boE d e = 0 then ovD d e false else []
set_option maxRecDepth 100000 in
set_option maxHeartbeats 4000000 in
theorem Both_at (a : Option Addr) (c : Nat) (d : List Dop) (a' : Option Addr) (c' : Nat) (e : List Dop) (w : World) (h : IsO w a d ∧ d.length ≤ c) (h' : IsO w a' e ∧ e.length ≤ c') (ht : ∀ o ∈ d, o.t.length ≤ 140737488355328) (ht' : ∀ o ∈ e, o.t.length ≤ 140737488355328) (hl : d.length ≤ 4611686018427387904) (hl' : e.length ≤ 4611686018427387904) :
    Calls Try.prog 22 #[.slice a d.length c, .slice a' e.length c'] w fun y w' => ∃ a2 c2 a3 c3, y = .returned (.tuple #[.slice a2 (boA d e).length c2, .slice a3 (boB d e).length c3, .int .i64 (boE d e)]) ∧ (IsO w' a2 (boA d e) ∧ (boA d e).length ≤ c2) ∧ (IsO w' a3 (boB d e) ∧ (boB d e).length ≤ c3) ∧ Below w.heap.size w w' := by
  have H1 := hide (OverO_at a' c' e a c d true w h' h ht' hl' hl)
  have H2 := hide fun (X : World) (hX : Below w.heap.size w X) => OverO_at a c d a' c' e false X ⟨h.1.below hX (Nat.le_refl _), h.2⟩ ⟨h'.1.below hX (Nat.le_refl _), h'.2⟩ ht hl hl'
  obtain ⟨E1, hE1⟩ : ∃ E1, E1 = ovE e d true := ⟨_, rfl⟩
  obtain ⟨E2, hE2⟩ : ∃ E2, E2 = ovE d e false := ⟨_, rfl⟩
  obtain ⟨L1, hL1⟩ : ∃ L1, L1 = ovD e d true := ⟨_, rfl⟩
  obtain ⟨L2, hL2⟩ : ∃ L2, L2 = ovD d e false := ⟨_, rfl⟩
  have hbE : boE d e = if E1 = 0 then E2 else E1 := by unfold boE; rw [hE1, hE2]
  have hbA : boA d e = if (if E1 = 0 then E2 else E1) = 0 then L1 else [] := by unfold boA; rw [hbE, hL1]
  have hbB : boB d e = if (if E1 = 0 then E2 else E1) = 0 then L2 else [] := by unfold boB; rw [hbE, hL2]
  rw [hbE, hbA, hbB]
  rw [← hE1, ← hL1] at H1
  rw [← hE2, ← hL2] at H2
  clear h h' ht ht' hl hl' hE1 hE2 hL1 hL2 hbE hbA hbB
  by_cases e1 : E1 = 0
  · subst e1
    simp only [if_true]
    by_cases e2 : E2 = 0
    · subst e2
      simp only [if_true]
      go_enter Try.func22, Try.ntmps22
      go_wp2_with fail
      refine (unhide H1).mono ?_
      rintro y w1 ⟨a2, c2, rfl, i2, x1⟩
      dsimp only
      have HX1 := hide x1
      have HI := hide i2
      have HC := hide (unhide H2 w1 x1)
      clear H1 H2 i2 x1
      go_wp2_with fail
      refine (unhide HC).mono ?_
      rintro y w2 ⟨a3, c3, rfl, i3, x2⟩
      dsimp only
      have HI2 := hide (And.intro (And.intro ((unhide HI).1.below x2 (Nat.le_refl _)) (unhide HI).2) i3)
      have HX2 := hide ((unhide HX1).trans (x2.mono (unhide HX1).size))
      clear HC HI HX1 i3 x2
      go_wp2_with fail
      refine bodyPost_ret (results_tmp3 rfl _ _) rfl ⟨_, _, _, _, rfl, (unhide HI2).1, (unhide HI2).2, unhide HX2⟩
    · have t2 : (E2 != 0) = true := by simpa using e2
      have t2' : (E2 == 0) = false := by simpa using e2
      rw [if_neg e2, if_neg e2]
      go_enter Try.func22, Try.ntmps22
      go_wp2_with fail
      refine (unhide H1).mono ?_
      rintro y w1 ⟨a2, c2, rfl, _, x1⟩
      dsimp only
      have HX1 := hide x1
      have HC := hide (unhide H2 w1 x1)
      clear H1 H2 x1
      go_wp2_with fail
      refine (unhide HC).mono ?_
      rintro y w2 ⟨a3, c3, rfl, _, x2⟩
      dsimp only
      have HX2 := hide ((unhide HX1).trans (x2.mono (unhide HX1).size))
      clear HC HX1 x2 e2
      go_wp2_with fail
      refine bodyPost_ret (results_tmp3 rfl _ _) rfl ⟨none, 0, none, 0, rfl, ⟨.inl rfl, by simp⟩, ⟨.inl rfl, by simp⟩, unhide HX2⟩
  · have t1 : (E1 != 0) = true := by simpa using e1
    have t1' : (E1 == 0) = false := by simpa using e1
    rw [if_neg e1, if_neg e1, if_neg e1]
    go_enter Try.func22, Try.ntmps22
    go_wp2_with fail
    refine (unhide H1).mono ?_
    rintro y w1 ⟨a2, c2, rfl, _, x1⟩
    dsimp only
    have HX1 := hide x1
    clear H1 H2 x1 e1
    go_wp2_with fail
    refine bodyPost_ret (results_tmp3 rfl _ _) rfl ⟨none, 0, none, 0, rfl, ⟨.inl rfl, by simp⟩, ⟨.inl rfl, by simp⟩, unhide HX1⟩
/-- what Over answers where all is well -/
structure OvK (d e : List Dop) (f : Bool) : Prop where
  v1 : valB d = true
  v2 : valB e = true
  q : frD d = frD e
  l : toA (ovA f (dA d) (dA e)) ≤ 268435456
  c : ovD d e f = canA (ovA f (dA d) (dA e))
  v : valB (ovD d e f) = true
  fr : frD (ovD d e f) = toD d
  tt : toD (ovD d e f) = toA (ovA f (dA d) (dA e))
  a : dA (ovD d e f) = nfA (ovA f (dA d) (dA e))
theorem ov_ok {d e : List Dop} {f : Bool} (h : ovE d e f = 0) : OvK d e f := by
  have hd : ovD d e f = canA (ovA f (dA d) (dA e)) := by unfold ovD; rw [if_pos h]
  unfold ovE at h
  split at h
  · rename_i hv
    have hv1 : valB d = true := by revert hv; cases valB d <;> simp
    have hv2 : valB e = true := by revert hv; cases valB e <;> simp
    split at h
    · rename_i hf
      split at h
      · cases h
      · rename_i hl
        have q : frA (dA d) = frA (dA e) := by rw [(frA_dA (valB_k hv1)).1, (frA_dA (valB_k hv2)).1, hf]
        have hfr := ov_fr f _ (dA d) (dA e) (Nat.le_refl _) q
        rw [(frA_dA (valB_k hv1)).2] at hfr
        have h1 := (valB_nn hv1).2.2
        obtain ⟨c1, c2, c3, c4⟩ := canA_val (u := ovA f (dA d) (dA e)) (by omega) (by omega)
        exact ⟨hv1, hv2, hf, by omega, hd, by rw [hd]; exact c1, by rw [hd, c2]; exact hfr, by rw [hd]; exact c3, by rw [hd]; exact c4⟩
    · cases h
  · cases h
theorem bo_ok {d e : List Dop} (h : boE d e = 0) : OvK e d true ∧ OvK d e false ∧ boA d e = ovD e d true ∧ boB d e = ovD d e false := by
  have hA : boA d e = ovD e d true := by unfold boA; rw [if_pos h]
  have hB : boB d e = ovD d e false := by unfold boB; rw [if_pos h]
  unfold boE at h
  split at h
  · rename_i h1
    exact ⟨ov_ok h1, ov_ok h, hA, hB⟩
  · rename_i h1
    exact absurd h h1
/-- both orders make one delta -/
theorem bo_meet {d e : List Dop} (h : boE d e = 0) : TwoD d (boB d e) ∧ TwoD e (boA d e) ∧ cmD d (boB d e) = cmD e (boA d e) := by
  obtain ⟨o1, o2, eA, eB⟩ := bo_ok h
  rw [eA, eB]
  have t1 := two_ok o2.v1 o2.v o2.fr.symm
  have t2 := two_ok o1.v1 o1.v o1.fr.symm
  refine ⟨t1, t2, ?_⟩
  rw [t1.d, t2.d]
  refine canA_congr ?_
  rw [o2.a, o1.a, cmp_nf_right, cmp_nf_right]
  exact ov_meet _ _ _ (Nat.le_refl _) (by rw [(frA_dA (valB_k o2.v1)).1, (frA_dA (valB_k o2.v2)).1, o2.q])

end Go.Proofs.Ythikhnlgpljbpaa
end

section
namespace Go.Proofs.Ythikhnlgpljbpaa
open Go.ChangeShapes Go.WideShapes Go.ChangeAt Go.RowKit
attribute [local go_sem] Oper.semAt_some

theorem passP_mem {g : List Atm → List Atm} {x : Int} (hg : ∀ b : List Atm, Atm.p x ∈ g b → Atm.p x ∈ b) : ∀ b : List Atm, Atm.p x ∈ passP g b → Atm.p x ∈ b
  | [], h => hg [] h
  | .k :: b, h => hg (.k :: b) h
  | .d :: b, h => hg (.d :: b) h
  | .p y :: b, h => by
    simp only [passP, List.mem_cons] at h ⊢
    rcases h with h | h
    · exact .inl h
    · exact .inr (passP_mem hg b h)
theorem ov_mem (f : Bool) {x : Int} : ∀ (a b : List Atm), Atm.p x ∈ ovA f a b → Atm.p x ∈ b
  | [], b, h => mem_puts h
  | .p y :: a, b, h => by
    have hg : ∀ b : List Atm, Atm.p x ∈ (.k :: ovA f a b) → Atm.p x ∈ b := fun b h => by
      simp only [List.mem_cons] at h
      rcases h with h | h
      · cases h
      · exact ov_mem f a b h
    unfold ovA at h
    cases f with
    | true => exact passP_mem hg b h
    | false => exact hg b h
  | .k :: a, b, h => by
    refine passP_mem (g := byK (ovA f a)) (fun b h => ?_) b h
    cases b with
    | nil => exact ov_mem f a [] h
    | cons z b => cases z with
      | k => simp [byK] at h; exact List.mem_cons_of_mem _ (ov_mem f a b h)
      | d => simp [byK] at h; exact List.mem_cons_of_mem _ (ov_mem f a b h)
      | p y => exact ov_mem f a (.p y :: b) h
  | .d :: a, b, h => by
    refine passP_mem (g := byD (ovA f a)) (fun b h => ?_) b h
    cases b with
    | nil => exact ov_mem f a [] h
    | cons z b => cases z with
      | k => simp [byD] at h; exact List.mem_cons_of_mem _ (ov_mem f a b h)
      | d => simp [byD] at h; exact List.mem_cons_of_mem _ (ov_mem f a b h)
      | p y => exact ov_mem f a (.p y :: b) h
theorem ovD_tb {d e : List Dop} {f : Bool} (he : ∀ o ∈ e, TbD o) : ∀ o ∈ ovD d e f, TbD o := by
  unfold ovD
  split
  · exact canA_tb fun z hz => dA_by he z (ov_mem f _ _ hz)
  · simp
set_option maxRecDepth 100000 in
set_option maxHeartbeats 4000000 in
theorem ShiftMeets_any (a0 : Option Addr) (c0 : Nat) (t : List Int) (a1 : Option Addr) (c1 : Nat) (d : List Dop) (a2 : Option Addr) (c2 : Nat) (e : List Dop) (w : World) (hb : IsB w a0 c0 t) (hx : IsO w a1 d) (_hzx : d = [] ∨ ∃ q, a1 = some q) (hlx : d.length * 32 ≤ 140737488355328) (htx : ∀ o ∈ d, TbD o ∧ o.t.length ≤ 140737488355328) (hcx : d.length ≤ c1) (hy : IsO w a2 e) (_hzy : e = [] ∨ ∃ q, a2 = some q) (hly : e.length * 32 ≤ 140737488355328) (hty : ∀ o ∈ e, TbD o ∧ o.t.length ≤ 140737488355328) (hcy : e.length ≤ c2) :
    Calls Try.prog 7 #[.slice a0 t.length c0, .slice a1 d.length c1, .slice a2 e.length c2] w fun y w' => y = .returned (.bool true) ∧ Below w.heap.size w w' := by
  have HAw := hide (fixed14_at w)
  have HBO := hide fun (X : World) (hX : Below w.heap.size w X) => Both_at a1 c1 d a2 c2 e X ⟨hx.below hX (Nat.le_refl _), hcx⟩ ⟨hy.below hX (Nat.le_refl _), hcy⟩ (fun o ho => (htx o ho).2) (fun o ho => (hty o ho).2) (by omega) (by omega)
  by_cases hE : boE d e = 0
  · obtain ⟨t1, t2, te⟩ := bo_meet hE
    obtain ⟨o1, o2, eA, eB⟩ := bo_ok hE
    have bX : ∀ o ∈ boA d e, TbD o := by rw [eA]; exact ovD_tb fun o ho => (htx o ho).1
    have bY : ∀ o ∈ boB d e, TbD o := by rw [eB]; exact ovD_tb fun o ho => (hty o ho).1
    have bZ := two_tb (fun o ho => (htx o ho).1) bY
    have vX : valB (boA d e) = true := by rw [eA]; exact o1.v
    have vY : valB (boB d e) = true := by rw [eB]; exact o2.v
    have fX : frD (boA d e) = toD e := by rw [eA]; exact o1.fr
    have fY : frD (boB d e) = toD d := by rw [eB]; exact o2.fr
    have sX := val_small vX
    have sY := val_small vY
    have sZ := val_small t1.v
    have HC1 := hide fun (X : World) (hX : Below w.heap.size w X) (a3 : Option Addr) (c3 : Nat) (h3 : IsO X a3 (boB d e) ∧ (boB d e).length ≤ c3) => ComposeO_at a1 c1 d a3 c3 (boB d e) X ⟨hx.below hX (Nat.le_refl _), hcx⟩ h3 (by omega) sY.1
    have HC2 := hide fun (X : World) (hX : Below w.heap.size w X) (a3 : Option Addr) (c3 : Nat) (h3 : IsO X a3 (boA d e) ∧ (boA d e).length ≤ c3) => ComposeO_at a2 c2 e a3 c3 (boA d e) X ⟨hy.below hX (Nat.le_refl _), hcy⟩ h3 (by omega) sX.1
    rw [t1.e] at HC1
    rw [t2.e, ← te] at HC2
    have HSM := hide fun (X : World) (_ : Below w.heap.size w X) (a3 : Option Addr) (c3 : Nat) (a4 : Option Addr) (c4 : Nat) (h3 : IsO X a3 (cmD d (boB d e))) (h4 : IsO X a4 (cmD d (boB d e))) => RSame14_at a3 c3 _ a4 c4 _ X h3 h4 sZ.1 sZ.1 bZ bZ
    simp only [decide_true] at HSM
    have HVX := hide fun (X : World) (_ : Below w.heap.size w X) (a3 : Option Addr) (c3 : Nat) (h3 : IsO X a3 (boA d e)) => Valid_atD a3 c3 _ X h3 sX.1
    have HVY := hide fun (X : World) (_ : Below w.heap.size w X) (a3 : Option Addr) (c3 : Nat) (h3 : IsO X a3 (boB d e)) => Valid_atD a3 c3 _ X h3 sY.1
    rw [vX] at HVX
    rw [vY] at HVY
    have HP1 := hide fun (X : World) (hX : Below w.heap.size w X) => ApplyB_at a0 c0 t a1 c1 d X (hb.below hX (Nat.le_refl _)) (hx.below hX (Nat.le_refl _)) (by omega) (fun o ho => (htx o ho).1)
    have HP3 := hide fun (X : World) (hX : Below w.heap.size w X) => ApplyB_at a0 c0 t a2 c2 e X (hb.below hX (Nat.le_refl _)) (hy.below hX (Nat.le_refl _)) (by omega) (fun o ho => (hty o ho).1)
    rw [hE] at HBO
    by_cases hF : frD d = t.length
    · have hF2 : frD e = t.length := o2.q.symm.trans hF
      rw [fit_zero o2.v1 hF, ap_zero o2.v1 hF] at HP1
      rw [fit_zero o2.v2 hF2, ap_zero o2.v2 hF2] at HP3
      have gY : frD (boB d e) = (apD t d).length := by rw [ap_len o2.v1 hF]; exact fY
      have gX : frD (boA d e) = (apD t e).length := by rw [ap_len o2.v2 hF2]; exact fX
      have HP2 := hide fun (X : World) (_ : Below w.heap.size w X) (a3 : Option Addr) (c3 : Nat) (a4 : Option Addr) (c4 : Nat) (h3 : IsB X a3 c3 (apD t d)) (h4 : IsO X a4 (boB d e)) => ApplyB_at a3 c3 _ a4 c4 _ X h3 h4 sY.1 bY
      have HP4 := hide fun (X : World) (_ : Below w.heap.size w X) (a3 : Option Addr) (c3 : Nat) (a4 : Option Addr) (c4 : Nat) (h3 : IsB X a3 c3 (apD t e)) (h4 : IsO X a4 (boA d e)) => ApplyB_at a3 c3 _ a4 c4 _ X h3 h4 sX.1 bX
      rw [fit_zero vY gY, ap_zero vY gY, ← two_app o2.v1 vY fY.symm hF] at HP2
      rw [fit_zero vX gX, ap_zero vX gX, ← two_app o2.v2 vX fX.symm hF2, ← te] at HP4
      clear hb hx _hzx hlx htx hcx hy _hzy hly hty hcy hE t1 t2 te o1 o2 eA eB bX bY bZ vX vY fX fY sX sY sZ hF hF2 gY gX
      generalize boA d e = XA at *
      generalize apD t (cmD d (boB d e)) = N at *
      generalize cmD d (boB d e) = Z at *
      generalize boB d e = YB at *
      generalize apD t d = M1 at *
      generalize apD t e = M2 at *
      go_enter Try.func7, Try.ntmps7
      go_wp2_with fail
      refine (unhide HAw).mono ?_
      rintro y w1 ⟨rfl, x1⟩
      dsimp only
      have HX1 := hide x1
      clear HAw x1
      have HC2 := hide (unhide HBO w1 (unhide HX1))
      go_wp2_with fail
      refine (unhide HC2).mono ?_
      rintro y w2 ⟨a3, c3, a4, c4, rfl, ⟨i3, l3⟩, ⟨i4, l4⟩, x2⟩
      dsimp only
      have HX2 := hide ((unhide HX1).trans (x2.mono (unhide HX1).size))
      have x_2 := hide (i3)
      have y_2 := hide (i4)
      clear HC2 HX1 x2  HBO i3 i4
      have HC3 := hide (unhide HC1 w2 (unhide HX2) a4 c4 ⟨unhide y_2, l4⟩)
      go_wp2_with fail
      refine (unhide HC3).mono ?_
      rintro y w3 ⟨a5, c5, rfl, i5, x3⟩
      dsimp only
      have HX3 := hide ((unhide HX2).trans (x3.mono (unhide HX2).size))
      have x_3 := hide ((unhide x_2).below x3 (Nat.le_refl _))
      have y_3 := hide ((unhide y_2).below x3 (Nat.le_refl _))
      have p_3 := hide (i5)
      clear HC3 HX2 x3 x_2 y_2 HC1 i5
      have HC4 := hide (unhide HC2 w3 (unhide HX3) a3 c3 ⟨unhide x_3, l3⟩)
      go_wp2_with fail
      refine (unhide HC4).mono ?_
      rintro y w4 ⟨a6, c6, rfl, i6, x4⟩
      dsimp only
      have HX4 := hide ((unhide HX3).trans (x4.mono (unhide HX3).size))
      have x_4 := hide ((unhide x_3).below x4 (Nat.le_refl _))
      have y_4 := hide ((unhide y_3).below x4 (Nat.le_refl _))
      have p_4 := hide ((unhide p_3).below x4 (Nat.le_refl _))
      have q_4 := hide (i6)
      clear HC4 HX3 x4 x_3 y_3 p_3 HC2 i6
      have HC5 := hide (unhide HSM w4 (unhide HX4) a5 c5 a6 c6 (unhide p_4) (unhide q_4))
      go_wp2_with fail
      refine (unhide HC5).mono ?_
      rintro y w5 ⟨rfl, x5⟩
      dsimp only
      have HX5 := hide ((unhide HX4).trans (x5.mono (unhide HX4).size))
      have x_5 := hide ((unhide x_4).below x5 (Nat.le_refl _))
      have y_5 := hide ((unhide y_4).below x5 (Nat.le_refl _))
      have p_5 := hide ((unhide p_4).below x5 (Nat.le_refl _))
      have q_5 := hide ((unhide q_4).below x5 (Nat.le_refl _))
      clear HC5 HX4 x5 x_4 y_4 p_4 q_4 HSM
      clear p_5
      clear q_5
      have HC6 := hide (unhide HVX w5 (unhide HX5) a3 c3 (unhide x_5))
      go_wp2_with fail
      refine (unhide HC6).mono ?_
      rintro y w6 ⟨rfl, x6⟩
      dsimp only
      have HX6 := hide ((unhide HX5).trans (x6.mono (unhide HX5).size))
      have x_6 := hide ((unhide x_5).below x6 (Nat.le_refl _))
      have y_6 := hide ((unhide y_5).below x6 (Nat.le_refl _))
      clear HC6 HX5 x6 x_5 y_5 HVX
      have HC7 := hide (unhide HVY w6 (unhide HX6) a4 c4 (unhide y_6))
      go_wp2_with fail
      refine (unhide HC7).mono ?_
      rintro y w7 ⟨rfl, x7⟩
      dsimp only
      have HX7 := hide ((unhide HX6).trans (x7.mono (unhide HX6).size))
      have x_7 := hide ((unhide x_6).below x7 (Nat.le_refl _))
      have y_7 := hide ((unhide y_6).below x7 (Nat.le_refl _))
      clear HC7 HX6 x7 x_6 y_6 HVY
      have HC8 := hide (unhide HP1 w7 (unhide HX7))
      go_wp2_with fail
      refine (unhide HC8).mono ?_
      rintro y w8 ⟨a7, c7, rfl, i7, x8⟩
      dsimp only
      have HX8 := hide ((unhide HX7).trans (x8.mono (unhide HX7).size))
      have x_8 := hide ((unhide x_7).below x8 (Nat.le_refl _))
      have y_8 := hide ((unhide y_7).below x8 (Nat.le_refl _))
      have m_8 := hide (i7)
      clear HC8 HX7 x8 x_7 y_7 HP1 i7
      have HC9 := hide (unhide HP2 w8 (unhide HX8) a7 c7 a4 c4 (unhide m_8) (unhide y_8))
      go_wp2_with fail
      refine (unhide HC9).mono ?_
      rintro y w9 ⟨a8, c8, rfl, i8, x9⟩
      dsimp only
      have HX9 := hide ((unhide HX8).trans (x9.mono (unhide HX8).size))
      have x_9 := hide ((unhide x_8).below x9 (Nat.le_refl _))
      have y_9 := hide ((unhide y_8).below x9 (Nat.le_refl _))
      have m_9 := hide ((unhide m_8).below x9 (Nat.le_refl _))
      have s_9 := hide (i8)
      clear HC9 HX8 x9 x_8 y_8 m_8 HP2 i8
      clear m_9
      clear y_9
      have HC10 := hide (unhide HP3 w9 (unhide HX9))
      go_wp2_with fail
      refine (unhide HC10).mono ?_
      rintro y w10 ⟨a9, c9, rfl, i9, x10⟩
      dsimp only
      have HX10 := hide ((unhide HX9).trans (x10.mono (unhide HX9).size))
      have x_10 := hide ((unhide x_9).below x10 (Nat.le_refl _))
      have s_10 := hide ((unhide s_9).below x10 (Nat.le_refl _))
      have m_10 := hide (i9)
      clear HC10 HX9 x10 x_9 s_9 HP3 i9
      have HC11 := hide (unhide HP4 w10 (unhide HX10) a9 c9 a3 c3 (unhide m_10) (unhide x_10))
      go_wp2_with fail
      refine (unhide HC11).mono ?_
      rintro y w11 ⟨a10, c10, rfl, i10, x11⟩
      dsimp only
      have HX11 := hide ((unhide HX10).trans (x11.mono (unhide HX10).size))
      have x_11 := hide ((unhide x_10).below x11 (Nat.le_refl _))
      have s_11 := hide ((unhide s_10).below x11 (Nat.le_refl _))
      have m_11 := hide ((unhide m_10).below x11 (Nat.le_refl _))
      have r_11 := hide (i10)
      clear HC11 HX10 x11 x_10 s_10 m_10 HP4 i10
      clear m_11
      clear x_11
      have s1 := str_bs w11 a8 c8 N (unhide s_11).2.2.1
      have s2 := str_bs w11 a10 c10 N (unhide r_11).2.2.1
      clear s_11
      clear r_11
      go_wp2_with fail
      refine bodyPost_ret (results_tmp rfl _ _ _) rfl ⟨rfl, unhide HX11⟩
    · have hF2 : ¬ frD e = t.length := fun h => hF (o2.q.trans h)
      have f1 : fitE d t.length = 131 := by unfold fitE; rw [o2.v1]; simp [hF]
      rw [f1] at HP1
      clear hb hx _hzx hlx htx hcx hy _hzy hly hty hcy hE t1 t2 te o1 o2 eA eB bX bY bZ vX vY fX fY sX sY sZ hF hF2 f1 HP3
      generalize boA d e = XA at *
      generalize cmD d (boB d e) = Z at *
      generalize boB d e = YB at *
      generalize apE t d = M1 at *
      go_enter Try.func7, Try.ntmps7
      go_wp2_with fail
      refine (unhide HAw).mono ?_
      rintro y w1 ⟨rfl, x1⟩
      dsimp only
      have HX1 := hide x1
      clear HAw x1
      have HC2 := hide (unhide HBO w1 (unhide HX1))
      go_wp2_with fail
      refine (unhide HC2).mono ?_
      rintro y w2 ⟨a3, c3, a4, c4, rfl, ⟨i3, l3⟩, ⟨i4, l4⟩, x2⟩
      dsimp only
      have HX2 := hide ((unhide HX1).trans (x2.mono (unhide HX1).size))
      have x_2 := hide (i3)
      have y_2 := hide (i4)
      clear HC2 HX1 x2  HBO i3 i4
      have HC3 := hide (unhide HC1 w2 (unhide HX2) a4 c4 ⟨unhide y_2, l4⟩)
      go_wp2_with fail
      refine (unhide HC3).mono ?_
      rintro y w3 ⟨a5, c5, rfl, i5, x3⟩
      dsimp only
      have HX3 := hide ((unhide HX2).trans (x3.mono (unhide HX2).size))
      have x_3 := hide ((unhide x_2).below x3 (Nat.le_refl _))
      have y_3 := hide ((unhide y_2).below x3 (Nat.le_refl _))
      have p_3 := hide (i5)
      clear HC3 HX2 x3 x_2 y_2 HC1 i5
      have HC4 := hide (unhide HC2 w3 (unhide HX3) a3 c3 ⟨unhide x_3, l3⟩)
      go_wp2_with fail
      refine (unhide HC4).mono ?_
      rintro y w4 ⟨a6, c6, rfl, i6, x4⟩
      dsimp only
      have HX4 := hide ((unhide HX3).trans (x4.mono (unhide HX3).size))
      have x_4 := hide ((unhide x_3).below x4 (Nat.le_refl _))
      have y_4 := hide ((unhide y_3).below x4 (Nat.le_refl _))
      have p_4 := hide ((unhide p_3).below x4 (Nat.le_refl _))
      have q_4 := hide (i6)
      clear HC4 HX3 x4 x_3 y_3 p_3 HC2 i6
      have HC5 := hide (unhide HSM w4 (unhide HX4) a5 c5 a6 c6 (unhide p_4) (unhide q_4))
      go_wp2_with fail
      refine (unhide HC5).mono ?_
      rintro y w5 ⟨rfl, x5⟩
      dsimp only
      have HX5 := hide ((unhide HX4).trans (x5.mono (unhide HX4).size))
      have x_5 := hide ((unhide x_4).below x5 (Nat.le_refl _))
      have y_5 := hide ((unhide y_4).below x5 (Nat.le_refl _))
      have p_5 := hide ((unhide p_4).below x5 (Nat.le_refl _))
      have q_5 := hide ((unhide q_4).below x5 (Nat.le_refl _))
      clear HC5 HX4 x5 x_4 y_4 p_4 q_4 HSM
      clear p_5
      clear q_5
      have HC6 := hide (unhide HVX w5 (unhide HX5) a3 c3 (unhide x_5))
      go_wp2_with fail
      refine (unhide HC6).mono ?_
      rintro y w6 ⟨rfl, x6⟩
      dsimp only
      have HX6 := hide ((unhide HX5).trans (x6.mono (unhide HX5).size))
      have x_6 := hide ((unhide x_5).below x6 (Nat.le_refl _))
      have y_6 := hide ((unhide y_5).below x6 (Nat.le_refl _))
      clear HC6 HX5 x6 x_5 y_5 HVX
      have HC7 := hide (unhide HVY w6 (unhide HX6) a4 c4 (unhide y_6))
      go_wp2_with fail
      refine (unhide HC7).mono ?_
      rintro y w7 ⟨rfl, x7⟩
      dsimp only
      have HX7 := hide ((unhide HX6).trans (x7.mono (unhide HX6).size))
      have x_7 := hide ((unhide x_6).below x7 (Nat.le_refl _))
      have y_7 := hide ((unhide y_6).below x7 (Nat.le_refl _))
      clear HC7 HX6 x7 x_6 y_6 HVY
      have HC8 := hide (unhide HP1 w7 (unhide HX7))
      go_wp2_with fail
      refine (unhide HC8).mono ?_
      rintro y w8 ⟨a7, c7, rfl, _, x8⟩
      dsimp only
      have HX8 := hide ((unhide HX7).trans (x8.mono (unhide HX7).size))
      have x_8 := hide ((unhide x_7).below x8 (Nat.le_refl _))
      have y_8 := hide ((unhide y_7).below x8 (Nat.le_refl _))
      clear HC8 HX7 x8 x_7 y_7 HP1
      clear x_8
      clear y_8
      go_wp2_with fail
      refine bodyPost_ret (results_tmp rfl _ _ _) rfl ⟨rfl, unhide HX8⟩
  · have eA : boA d e = [] := by unfold boA; rw [if_neg hE]
    have eB : boB d e = [] := by unfold boB; rw [if_neg hE]
    rw [eA, eB] at HBO
    simp only [List.length_nil] at HBO
    clear hb hx _hzx hlx htx hcx hy _hzy hly hty hcy eA eB
    generalize boE d e = E at *
    have t1 : (E != 0) = true := by simpa using hE
    have t1' : (E == 0) = false := by simpa using hE
    clear hE
    go_enter Try.func7, Try.ntmps7
    go_wp2_with fail
    refine (unhide HAw).mono ?_
    rintro y w1 ⟨rfl, x1⟩
    dsimp only
    have HX1 := hide x1
    clear HAw x1
    have HC2 := hide (unhide HBO w1 (unhide HX1))
    go_wp2_with fail
    refine (unhide HC2).mono ?_
    rintro y w2 ⟨a3, c3, a4, c4, rfl, ⟨i3, l3⟩, ⟨i4, l4⟩, x2⟩
    dsimp only
    have HX2 := hide ((unhide HX1).trans (x2.mono (unhide HX1).size))
    have x_2 := hide (i3)
    have y_2 := hide (i4)
    clear HC2 HX1 x2  HBO i3 i4
    clear x_2
    clear y_2
    go_wp2_with fail
    refine bodyPost_ret (results_tmp rfl _ _ _) rfl ⟨rfl, unhide HX2⟩

end Go.Proofs.Ythikhnlgpljbpaa
end
