/- Layer 13: DeltaCompose's walk (written by wip/tools/dsm.py). -/
import Derived.Test.YtecolpnbbpbflaaMg41

namespace Go.Proofs.Ytecolpnbbpbflaa
open Go.ChangeShapes Go.WideShapes Go.ChangeAt Go.RowKit
attribute [local go_sem] Oper.semAt_some

set_option maxRecDepth 100000 in
set_option maxHeartbeats 4000000 in
theorem DeltaCompose_any (a0 : Option Addr) (c0 : Nat) (d : List Dop) (a1 : Option Addr) (c1 : Nat) (e : List Dop) (w : World) (hx : IsO w a0 d) (_hzx : d = [] ∨ ∃ q, a0 = some q) (hlx : d.length * 32 ≤ 140737488355328) (htx : ∀ o ∈ d, TbD o ∧ o.t.length ≤ 140737488355328) (hy : IsO w a1 e) (_hzy : e = [] ∨ ∃ q, a1 = some q) (hly : e.length * 32 ≤ 140737488355328) (hty : ∀ o ∈ e, TbD o ∧ o.t.length ≤ 140737488355328) :
    Calls Try.prog 6 #[.slice a0 d.length c0, .slice a1 e.length c1] w fun y w' => y = .returned (.bool true) ∧ Below w.heap.size w w' := by
  have HAw := hide (awake13_at w)
  have HO1 := hide fun (X : World) (hX : Below w.heap.size w X) => own13H a0 c0 d X (hx.below hX (Nat.le_refl _)) hlx
  have HO2 := hide fun (X : World) (hX : Below w.heap.size w X) => own13H a1 c1 e X (hy.below hX (Nat.le_refl _)) hly
  obtain ⟨Z, hZ⟩ : ∃ Z, Z = cmD d e := ⟨_, rfl⟩
  obtain ⟨E, hE⟩ : ∃ E, E = cmE d e := ⟨_, rfl⟩
  have HCM := hide fun (X : World) (_ : Below w.heap.size w X) (a3 : Option Addr) (c3 : Nat) (a4 : Option Addr) (c4 : Nat) (h3 : IsO X a3 d ∧ d.length ≤ c3) (h4 : IsO X a4 e ∧ e.length ≤ c4) => ComposeO_at a3 c3 d a4 c4 e X h3 h4 (by omega) (by omega)
  rw [← hZ, ← hE] at HCM
  have HV1 := hide fun (X : World) (hX : Below w.heap.size w X) => RValid_at a0 c0 d X (hx.below hX (Nat.le_refl _)) (by omega) (fun o ho => (htx o ho).2)
  have HV2 := hide fun (X : World) (hX : Below w.heap.size w X) => RValid_at a1 c1 e X (hy.below hX (Nat.le_refl _)) (by omega) (fun o ho => (hty o ho).2)
  have hcD : cmE d e ≠ 0 → cmD d e = [] := fun h => by unfold cmD; rw [if_neg h]
  rcases cmE_cases d e with ⟨hv, h2⟩ | ⟨v1, v2, hf, h2⟩ | ⟨v1, v2, hf, h2⟩
  · rw [h2] at hE hcD
    rw [hcD (by decide)] at hZ
    subst hE hZ
    rcases hv with hv | hv
    · rw [hv] at HV1
      clear hx hy htx hty _hzx hlx _hzy hly h2 hcD HV2 hv
      go_enter Try.func6, Try.ntmps6
      go_wp2_with fail
      refine (unhide HAw).mono ?_
      rintro y w1 ⟨rfl, x1⟩
      dsimp only
      have HX1 := hide x1
      clear HAw x1
      have HC2 := hide (unhide HO1 w1 (unhide HX1))
      go_wp2_with fail
      refine (unhide HC2).mono ?_
      rintro y w2 ⟨a3, c3, rfl, ⟨i3, l3⟩, x2⟩
      dsimp only
      have HX2 := hide ((unhide HX1).trans (x2.mono (unhide HX1).size))
      have p_2 := hide (i3)
      clear HC2 HX1 x2  HO1 i3
      have HC3 := hide (unhide HO2 w2 (unhide HX2))
      go_wp2_with fail
      refine (unhide HC3).mono ?_
      rintro y w3 ⟨a4, c4, rfl, ⟨i4, l4⟩, x3⟩
      dsimp only
      have HX3 := hide ((unhide HX2).trans (x3.mono (unhide HX2).size))
      have p_3 := hide ((unhide p_2).below x3 (Nat.le_refl _))
      have q_3 := hide (i4)
      clear HC3 HX2 x3 p_2 HO2 i4
      have HC4 := hide (unhide HCM w3 (unhide HX3) a3 c3 a4 c4 ⟨unhide p_3, l3⟩ ⟨unhide q_3, l4⟩)
      go_wp2_with fail
      refine (unhide HC4).mono ?_
      rintro y w4 ⟨a5, c5, rfl, i5, x4⟩
      dsimp only
      have HX4 := hide ((unhide HX3).trans (x4.mono (unhide HX3).size))
      have p_4 := hide ((unhide p_3).below x4 (Nat.le_refl _))
      have q_4 := hide ((unhide q_3).below x4 (Nat.le_refl _))
      have z_4 := hide (i5)
      clear HC4 HX3 x4 p_3 q_3 HCM i5 l3 l4
      clear p_4
      clear q_4
      have HC5 := hide (unhide HV1 w4 (unhide HX4))
      go_wp2_with fail
      refine (unhide HC5).mono ?_
      rintro y w5 ⟨rfl, x5⟩
      dsimp only
      have HX5 := hide ((unhide HX4).trans (x5.mono (unhide HX4).size))
      have z_5 := hide ((unhide z_4).below x5 (Nat.le_refl _))
      clear HC5 HX4 x5 z_4 HV1
      clear z_5
      go_wp2_with fail
      refine bodyPost_ret (results_tmp rfl _ _ _) rfl ⟨rfl, unhide HX5⟩
    · cases hv1 : valB d with
      | false =>
        rw [hv1] at HV1
        clear hx hy htx hty _hzx hlx _hzy hly h2 hcD HV2 hv hv1
        go_enter Try.func6, Try.ntmps6
        go_wp2_with fail
        refine (unhide HAw).mono ?_
        rintro y w1 ⟨rfl, x1⟩
        dsimp only
        have HX1 := hide x1
        clear HAw x1
        have HC2 := hide (unhide HO1 w1 (unhide HX1))
        go_wp2_with fail
        refine (unhide HC2).mono ?_
        rintro y w2 ⟨a3, c3, rfl, ⟨i3, l3⟩, x2⟩
        dsimp only
        have HX2 := hide ((unhide HX1).trans (x2.mono (unhide HX1).size))
        have p_2 := hide (i3)
        clear HC2 HX1 x2  HO1 i3
        have HC3 := hide (unhide HO2 w2 (unhide HX2))
        go_wp2_with fail
        refine (unhide HC3).mono ?_
        rintro y w3 ⟨a4, c4, rfl, ⟨i4, l4⟩, x3⟩
        dsimp only
        have HX3 := hide ((unhide HX2).trans (x3.mono (unhide HX2).size))
        have p_3 := hide ((unhide p_2).below x3 (Nat.le_refl _))
        have q_3 := hide (i4)
        clear HC3 HX2 x3 p_2 HO2 i4
        have HC4 := hide (unhide HCM w3 (unhide HX3) a3 c3 a4 c4 ⟨unhide p_3, l3⟩ ⟨unhide q_3, l4⟩)
        go_wp2_with fail
        refine (unhide HC4).mono ?_
        rintro y w4 ⟨a5, c5, rfl, i5, x4⟩
        dsimp only
        have HX4 := hide ((unhide HX3).trans (x4.mono (unhide HX3).size))
        have p_4 := hide ((unhide p_3).below x4 (Nat.le_refl _))
        have q_4 := hide ((unhide q_3).below x4 (Nat.le_refl _))
        have z_4 := hide (i5)
        clear HC4 HX3 x4 p_3 q_3 HCM i5 l3 l4
        clear p_4
        clear q_4
        have HC5 := hide (unhide HV1 w4 (unhide HX4))
        go_wp2_with fail
        refine (unhide HC5).mono ?_
        rintro y w5 ⟨rfl, x5⟩
        dsimp only
        have HX5 := hide ((unhide HX4).trans (x5.mono (unhide HX4).size))
        have z_5 := hide ((unhide z_4).below x5 (Nat.le_refl _))
        clear HC5 HX4 x5 z_4 HV1
        clear z_5
        go_wp2_with fail
        refine bodyPost_ret (results_tmp rfl _ _ _) rfl ⟨rfl, unhide HX5⟩
      | true =>
        rw [hv1] at HV1
        rw [hv] at HV2
        clear hx hy htx hty _hzx hlx _hzy hly h2 hcD hv hv1
        go_enter Try.func6, Try.ntmps6
        go_wp2_with fail
        refine (unhide HAw).mono ?_
        rintro y w1 ⟨rfl, x1⟩
        dsimp only
        have HX1 := hide x1
        clear HAw x1
        have HC2 := hide (unhide HO1 w1 (unhide HX1))
        go_wp2_with fail
        refine (unhide HC2).mono ?_
        rintro y w2 ⟨a3, c3, rfl, ⟨i3, l3⟩, x2⟩
        dsimp only
        have HX2 := hide ((unhide HX1).trans (x2.mono (unhide HX1).size))
        have p_2 := hide (i3)
        clear HC2 HX1 x2  HO1 i3
        have HC3 := hide (unhide HO2 w2 (unhide HX2))
        go_wp2_with fail
        refine (unhide HC3).mono ?_
        rintro y w3 ⟨a4, c4, rfl, ⟨i4, l4⟩, x3⟩
        dsimp only
        have HX3 := hide ((unhide HX2).trans (x3.mono (unhide HX2).size))
        have p_3 := hide ((unhide p_2).below x3 (Nat.le_refl _))
        have q_3 := hide (i4)
        clear HC3 HX2 x3 p_2 HO2 i4
        have HC4 := hide (unhide HCM w3 (unhide HX3) a3 c3 a4 c4 ⟨unhide p_3, l3⟩ ⟨unhide q_3, l4⟩)
        go_wp2_with fail
        refine (unhide HC4).mono ?_
        rintro y w4 ⟨a5, c5, rfl, i5, x4⟩
        dsimp only
        have HX4 := hide ((unhide HX3).trans (x4.mono (unhide HX3).size))
        have p_4 := hide ((unhide p_3).below x4 (Nat.le_refl _))
        have q_4 := hide ((unhide q_3).below x4 (Nat.le_refl _))
        have z_4 := hide (i5)
        clear HC4 HX3 x4 p_3 q_3 HCM i5 l3 l4
        clear p_4
        clear q_4
        have HC5 := hide (unhide HV1 w4 (unhide HX4))
        go_wp2_with fail
        refine (unhide HC5).mono ?_
        rintro y w5 ⟨rfl, x5⟩
        dsimp only
        have HX5 := hide ((unhide HX4).trans (x5.mono (unhide HX4).size))
        have z_5 := hide ((unhide z_4).below x5 (Nat.le_refl _))
        clear HC5 HX4 x5 z_4 HV1
        have HC6 := hide (unhide HV2 w5 (unhide HX5))
        go_wp2_with fail
        refine (unhide HC6).mono ?_
        rintro y w6 ⟨rfl, x6⟩
        dsimp only
        have HX6 := hide ((unhide HX5).trans (x6.mono (unhide HX5).size))
        have z_6 := hide ((unhide z_5).below x6 (Nat.le_refl _))
        clear HC6 HX5 x6 z_5 HV2
        clear z_6
        go_wp2_with fail
        refine bodyPost_ret (results_tmp rfl _ _ _) rfl ⟨rfl, unhide HX6⟩
  · rw [h2] at hE hcD
    rw [hcD (by decide)] at hZ
    subst hE hZ
    rw [v1] at HV1
    rw [v2] at HV2
    have HL1 := hide fun (X : World) (hX : Below w.heap.size w X) => RLens_at a0 c0 d X (hx.below hX (Nat.le_refl _)) (by omega) v1
    have HL2 := hide fun (X : World) (hX : Below w.heap.size w X) => RLens_at a1 c1 e X (hy.below hX (Nat.le_refl _)) (by omega) v2
    have t1 : ((frD e : Int) != (toD d : Int)) = true := by simp; omega
    have t2 : ((frD e : Int) == (toD d : Int)) = false := by simp; omega
    clear hx hy htx hty _hzx hlx _hzy hly h2 hcD v1 v2 hf
    generalize frD e = f1 at *
    generalize toD d = f2 at *
    go_enter Try.func6, Try.ntmps6
    go_wp2_with fail
    refine (unhide HAw).mono ?_
    rintro y w1 ⟨rfl, x1⟩
    dsimp only
    have HX1 := hide x1
    clear HAw x1
    have HC2 := hide (unhide HO1 w1 (unhide HX1))
    go_wp2_with fail
    refine (unhide HC2).mono ?_
    rintro y w2 ⟨a3, c3, rfl, ⟨i3, l3⟩, x2⟩
    dsimp only
    have HX2 := hide ((unhide HX1).trans (x2.mono (unhide HX1).size))
    have p_2 := hide (i3)
    clear HC2 HX1 x2  HO1 i3
    have HC3 := hide (unhide HO2 w2 (unhide HX2))
    go_wp2_with fail
    refine (unhide HC3).mono ?_
    rintro y w3 ⟨a4, c4, rfl, ⟨i4, l4⟩, x3⟩
    dsimp only
    have HX3 := hide ((unhide HX2).trans (x3.mono (unhide HX2).size))
    have p_3 := hide ((unhide p_2).below x3 (Nat.le_refl _))
    have q_3 := hide (i4)
    clear HC3 HX2 x3 p_2 HO2 i4
    have HC4 := hide (unhide HCM w3 (unhide HX3) a3 c3 a4 c4 ⟨unhide p_3, l3⟩ ⟨unhide q_3, l4⟩)
    go_wp2_with fail
    refine (unhide HC4).mono ?_
    rintro y w4 ⟨a5, c5, rfl, i5, x4⟩
    dsimp only
    have HX4 := hide ((unhide HX3).trans (x4.mono (unhide HX3).size))
    have p_4 := hide ((unhide p_3).below x4 (Nat.le_refl _))
    have q_4 := hide ((unhide q_3).below x4 (Nat.le_refl _))
    have z_4 := hide (i5)
    clear HC4 HX3 x4 p_3 q_3 HCM i5 l3 l4
    clear p_4
    clear q_4
    have HC5 := hide (unhide HV1 w4 (unhide HX4))
    go_wp2_with fail
    refine (unhide HC5).mono ?_
    rintro y w5 ⟨rfl, x5⟩
    dsimp only
    have HX5 := hide ((unhide HX4).trans (x5.mono (unhide HX4).size))
    have z_5 := hide ((unhide z_4).below x5 (Nat.le_refl _))
    clear HC5 HX4 x5 z_4 HV1
    have HC6 := hide (unhide HV2 w5 (unhide HX5))
    go_wp2_with fail
    refine (unhide HC6).mono ?_
    rintro y w6 ⟨rfl, x6⟩
    dsimp only
    have HX6 := hide ((unhide HX5).trans (x6.mono (unhide HX5).size))
    have z_6 := hide ((unhide z_5).below x6 (Nat.le_refl _))
    clear HC6 HX5 x6 z_5 HV2
    have HC7 := hide (unhide HL1 w6 (unhide HX6))
    go_wp2_with fail
    refine (unhide HC7).mono ?_
    rintro y w7 ⟨rfl, x7⟩
    dsimp only
    have HX7 := hide ((unhide HX6).trans (x7.mono (unhide HX6).size))
    have z_7 := hide ((unhide z_6).below x7 (Nat.le_refl _))
    clear HC7 HX6 x7 z_6 HL1
    have HC8 := hide (unhide HL2 w7 (unhide HX7))
    go_wp2_with fail
    refine (unhide HC8).mono ?_
    rintro y w8 ⟨rfl, x8⟩
    dsimp only
    have HX8 := hide ((unhide HX7).trans (x8.mono (unhide HX7).size))
    have z_8 := hide ((unhide z_7).below x8 (Nat.le_refl _))
    clear HC8 HX7 x8 z_7 HL2
    clear z_8
    go_wp2_with fail
    refine bodyPost_ret (results_tmp rfl _ _ _) rfl ⟨rfl, unhide HX8⟩
  · rw [h2] at hE
    subst hE
    rw [v1] at HV1
    rw [v2] at HV2
    have HL1 := hide fun (X : World) (hX : Below w.heap.size w X) => RLens_at a0 c0 d X (hx.below hX (Nat.le_refl _)) (by omega) v1
    have HL2 := hide fun (X : World) (hX : Below w.heap.size w X) => RLens_at a1 c1 e X (hy.below hX (Nat.le_refl _)) (by omega) v2
    have HRC := hide fun (X : World) (hX : Below w.heap.size w X) => RComposeD_at a0 c0 d a1 c1 e X (hx.below hX (Nat.le_refl _)) (hy.below hX (Nat.le_refl _)) v1 v2 hf
    have bW := two_tb (fun o ho => (htx o ho).1) (fun o ho => (hty o ho).1)
    have two := two_ok v1 v2 hf
    rw [← hf] at HL2
    have HSM := hide fun (X : World) (_ : Below w.heap.size w X) (a3 : Option Addr) (c3 : Nat) (a4 : Option Addr) (c4 : Nat) (h3 : IsO X a3 (cmD d e)) (h4 : IsO X a4 (cmD d e)) => same13_at a3 c3 _ a4 c4 _ X h3 h4 (val_small two.v).1 (val_small two.v).1 bW bW
    rw [← hZ] at HRC HSM
    simp only [decide_true] at HSM
    clear hx hy htx hty _hzx hlx _hzy hly h2 hcD v1 v2 hf hZ bW two
    generalize toD d = f2 at *
    generalize frD d = f3 at *
    generalize toD e = f4 at *
    go_enter Try.func6, Try.ntmps6
    go_wp2_with fail
    refine (unhide HAw).mono ?_
    rintro y w1 ⟨rfl, x1⟩
    dsimp only
    have HX1 := hide x1
    clear HAw x1
    have HC2 := hide (unhide HO1 w1 (unhide HX1))
    go_wp2_with fail
    refine (unhide HC2).mono ?_
    rintro y w2 ⟨a3, c3, rfl, ⟨i3, l3⟩, x2⟩
    dsimp only
    have HX2 := hide ((unhide HX1).trans (x2.mono (unhide HX1).size))
    have p_2 := hide (i3)
    clear HC2 HX1 x2  HO1 i3
    have HC3 := hide (unhide HO2 w2 (unhide HX2))
    go_wp2_with fail
    refine (unhide HC3).mono ?_
    rintro y w3 ⟨a4, c4, rfl, ⟨i4, l4⟩, x3⟩
    dsimp only
    have HX3 := hide ((unhide HX2).trans (x3.mono (unhide HX2).size))
    have p_3 := hide ((unhide p_2).below x3 (Nat.le_refl _))
    have q_3 := hide (i4)
    clear HC3 HX2 x3 p_2 HO2 i4
    have HC4 := hide (unhide HCM w3 (unhide HX3) a3 c3 a4 c4 ⟨unhide p_3, l3⟩ ⟨unhide q_3, l4⟩)
    go_wp2_with fail
    refine (unhide HC4).mono ?_
    rintro y w4 ⟨a5, c5, rfl, i5, x4⟩
    dsimp only
    have HX4 := hide ((unhide HX3).trans (x4.mono (unhide HX3).size))
    have p_4 := hide ((unhide p_3).below x4 (Nat.le_refl _))
    have q_4 := hide ((unhide q_3).below x4 (Nat.le_refl _))
    have z_4 := hide (i5)
    clear HC4 HX3 x4 p_3 q_3 HCM i5 l3 l4
    clear p_4
    clear q_4
    have HC5 := hide (unhide HV1 w4 (unhide HX4))
    go_wp2_with fail
    refine (unhide HC5).mono ?_
    rintro y w5 ⟨rfl, x5⟩
    dsimp only
    have HX5 := hide ((unhide HX4).trans (x5.mono (unhide HX4).size))
    have z_5 := hide ((unhide z_4).below x5 (Nat.le_refl _))
    clear HC5 HX4 x5 z_4 HV1
    have HC6 := hide (unhide HV2 w5 (unhide HX5))
    go_wp2_with fail
    refine (unhide HC6).mono ?_
    rintro y w6 ⟨rfl, x6⟩
    dsimp only
    have HX6 := hide ((unhide HX5).trans (x6.mono (unhide HX5).size))
    have z_6 := hide ((unhide z_5).below x6 (Nat.le_refl _))
    clear HC6 HX5 x6 z_5 HV2
    have HC7 := hide (unhide HL1 w6 (unhide HX6))
    go_wp2_with fail
    refine (unhide HC7).mono ?_
    rintro y w7 ⟨rfl, x7⟩
    dsimp only
    have HX7 := hide ((unhide HX6).trans (x7.mono (unhide HX6).size))
    have z_7 := hide ((unhide z_6).below x7 (Nat.le_refl _))
    clear HC7 HX6 x7 z_6 HL1
    have HC8 := hide (unhide HL2 w7 (unhide HX7))
    go_wp2_with fail
    refine (unhide HC8).mono ?_
    rintro y w8 ⟨rfl, x8⟩
    dsimp only
    have HX8 := hide ((unhide HX7).trans (x8.mono (unhide HX7).size))
    have z_8 := hide ((unhide z_7).below x8 (Nat.le_refl _))
    clear HC8 HX7 x8 z_7 HL2
    have HC9 := hide (unhide HRC w8 (unhide HX8))
    go_wp2_with fail
    refine (unhide HC9).mono ?_
    rintro y w9 ⟨a6, c6, rfl, i6, x9⟩
    dsimp only
    have HX9 := hide ((unhide HX8).trans (x9.mono (unhide HX8).size))
    have z_9 := hide ((unhide z_8).below x9 (Nat.le_refl _))
    have r_9 := hide (i6)
    clear HC9 HX8 x9 z_8 HRC i6
    have HC10 := hide (unhide HSM w9 (unhide HX9) a5 c5 a6 c6 (unhide z_9) (unhide r_9))
    go_wp2_with fail
    refine (unhide HC10).mono ?_
    rintro y w10 ⟨rfl, x10⟩
    dsimp only
    have HX10 := hide ((unhide HX9).trans (x10.mono (unhide HX9).size))
    have z_10 := hide ((unhide z_9).below x10 (Nat.le_refl _))
    have r_10 := hide ((unhide r_9).below x10 (Nat.le_refl _))
    clear HC10 HX9 x10 z_9 r_9 HSM
    clear z_10
    clear r_10
    go_wp2_with fail
    refine bodyPost_ret (results_tmp rfl _ _ _) rfl ⟨rfl, unhide HX10⟩

end Go.Proofs.Ytecolpnbbpbflaa
