/- Layer 14: ShiftThrough's walk (written by wip/tools/sgc.py). -/
import Derived.Test.YthikhnlgpljbpabMg31
import Derived.Test.YthikhnlgpljbpabMg33

namespace Go.Proofs.Ythikhnlgpljbpab
open Go.ChangeShapes Go.WideShapes Go.ChangeAt Go.RowKit
attribute [local go_sem] Oper.semAt_some

set_option maxRecDepth 100000 in
set_option maxHeartbeats 4000000 in
theorem ShiftThrough_any (a1 : Option Addr) (c1 : Nat) (d : List Dop) (a2 : Option Addr) (c2 : Nat) (e : List Dop) (x : Int) (w : World) (hx : IsO w a1 d) (_hzx : d = [] ∨ ∃ q, a1 = some q) (hlx : d.length * 32 ≤ 140737488355328) (htx : ∀ o ∈ d, TbD o ∧ o.t.length ≤ 140737488355328) (hcx : d.length ≤ c1) (hy : IsO w a2 e) (_hzy : e = [] ∨ ∃ q, a2 = some q) (hly : e.length * 32 ≤ 140737488355328) (_hty : ∀ o ∈ e, TbD o ∧ o.t.length ≤ 140737488355328) (hcy : e.length ≤ c2) (_hp : (Lit.int .i64 x).wf = true) :
    Calls Try.prog 5 #[.slice a1 d.length c1, .slice a2 e.length c2, .int .i64 x] w fun y w' => y = .returned (.bool true) ∧ Below w.heap.size w w' := by
  have HAw := hide (fixed14_at w)
  have HOV := hide fun (X : World) (hX : Below w.heap.size w X) => OverO_at a1 c1 d a2 c2 e false X ⟨hx.below hX (Nat.le_refl _), hcx⟩ ⟨hy.below hX (Nat.le_refl _), hcy⟩ (fun o ho => (htx o ho).2) (by omega) (by omega)
  by_cases hE : ovE d e false = 0
  · have ok := ov_ok hE
    rw [hE] at HOV
    have sO := val_small ok.v
    have HLN := hide fun (X : World) (hX : Below w.heap.size w X) => Lens_at a1 c1 d X (hx.below hX (Nat.le_refl _)) (by omega)
    unfold lensV at HLN
    rw [ok.v1] at HLN
    simp only [if_true] at HLN
    by_cases h1 : x < 0
    · have t1 : decide (x < 0) = true := decide_eq_true h1
      clear hx _hzx hlx htx hcx hy _hzy hly _hty hcy _hp hE ok sO h1
      generalize ovD d e false = O at *
      go_enter Try.func5, Try.ntmps5
      go_wp2_with fail
      refine (unhide HAw).mono ?_
      rintro y w1 ⟨rfl, x1⟩
      dsimp only
      have HX1 := hide x1
      clear HAw x1
      have HC2 := hide (unhide HOV w1 (unhide HX1))
      go_wp2_with fail
      refine (unhide HC2).mono ?_
      rintro y w2 ⟨a3, c3, rfl, ⟨i3, l3⟩, x2⟩
      dsimp only
      have HX2 := hide ((unhide HX1).trans (x2.mono (unhide HX1).size))
      have o_2 := hide (i3)
      clear HC2 HX1 x2  HOV i3
      have HC3 := hide (unhide HLN w2 (unhide HX2))
      go_wp2_with fail
      refine (unhide HC3).mono ?_
      rintro y w3 ⟨rfl, x3⟩
      dsimp only
      have HX3 := hide ((unhide HX2).trans (x3.mono (unhide HX2).size))
      have o_3 := hide ((unhide o_2).below x3 (Nat.le_refl _))
      clear HC3 HX2 x3 o_2 HLN
      clear o_3
      go_wp2_with fail
      refine bodyPost_ret (results_tmp rfl _ _ _) rfl ⟨rfl, unhide HX3⟩
    have t1 : decide (x < 0) = false := decide_eq_false h1
    by_cases h2 : x > (frD d : Int)
    · have t2 : decide (x > (frD d : Int)) = true := decide_eq_true h2
      have t2' : decide ((frD d : Int) < x) = true := decide_eq_true h2
      clear hx _hzx hlx htx hcx hy _hzy hly _hty hcy _hp hE ok sO h1 h2
      generalize ovD d e false = O at *
      go_enter Try.func5, Try.ntmps5
      go_wp2_with fail
      refine (unhide HAw).mono ?_
      rintro y w1 ⟨rfl, x1⟩
      dsimp only
      have HX1 := hide x1
      clear HAw x1
      have HC2 := hide (unhide HOV w1 (unhide HX1))
      go_wp2_with fail
      refine (unhide HC2).mono ?_
      rintro y w2 ⟨a3, c3, rfl, ⟨i3, l3⟩, x2⟩
      dsimp only
      have HX2 := hide ((unhide HX1).trans (x2.mono (unhide HX1).size))
      have o_2 := hide (i3)
      clear HC2 HX1 x2  HOV i3
      have HC3 := hide (unhide HLN w2 (unhide HX2))
      go_wp2_with fail
      refine (unhide HC3).mono ?_
      rintro y w3 ⟨rfl, x3⟩
      dsimp only
      have HX3 := hide ((unhide HX2).trans (x3.mono (unhide HX2).size))
      have o_3 := hide ((unhide o_2).below x3 (Nat.le_refl _))
      clear HC3 HX2 x3 o_2 HLN
      clear o_3
      go_wp2_with fail
      refine bodyPost_ret (results_tmp rfl _ _ _) rfl ⟨rfl, unhide HX3⟩
    obtain ⟨n, rfl⟩ : ∃ n : Nat, x = (n : Int) := ⟨x.toNat, by omega⟩
    have hn : n ≤ frD d := by omega
    have t2 : decide ((n : Int) > (frD d : Int)) = false := decide_eq_false h2
    have t2' : decide ((frD d : Int) < (n : Int)) = false := decide_eq_false h2
    have t2'' : decide (frD d < n) = false := decide_eq_false (by omega)
    have two := two_ok ok.v1 ok.v ok.fr.symm
    have sC := val_small two.v
    have HCM := hide fun (X : World) (hX : Below w.heap.size w X) (a3 : Option Addr) (c3 : Nat) (h3 : IsO X a3 (ovD d e false) ∧ (ovD d e false).length ≤ c3) => ComposeO_at a1 c1 d a3 c3 _ X ⟨hx.below hX (Nat.le_refl _), hcx⟩ h3 (by omega) sO.1
    rw [two.e] at HCM
    obtain ⟨A, B, A2, B2, lo, hi, p1, p2, b1, b2, p3, p4, p5, p6, q1, q2, q3⟩ := pl_through ok.v1 ok.v ok.fr.symm hn
    have HLO := hide fun (X : World) (_ : Below w.heap.size w X) (a3 : Option Addr) (c3 : Nat) (h3 : IsO X a3 (cmD d (ovD d e false))) => Place_at a3 c3 _ (n : Int) 1 X h3 sC.1
    have HHI := hide fun (X : World) (_ : Below w.heap.size w X) (a3 : Option Addr) (c3 : Nat) (h3 : IsO X a3 (cmD d (ovD d e false))) => Place_at a3 c3 _ (n : Int) 2 X h3 sC.1
    have z1 := pl_zero (g := 1) two.v (p := (n : Int)) ⟨by omega, by rw [two.f]; omega⟩ (.inl rfl)
    have z2 := pl_zero (g := 2) two.v (p := (n : Int)) ⟨by omega, by rw [two.f]; omega⟩ (.inr rfl)
    rw [z1.1, z1.2, p5] at HLO
    rw [z2.1, z2.2, p6] at HHI
    have HA1 := hide fun (X : World) (hX : Below w.heap.size w X) => Place_at a1 c1 d (n : Int) 1 X (hx.below hX (Nat.le_refl _)) (by omega)
    have HB1 := hide fun (X : World) (hX : Below w.heap.size w X) => Place_at a1 c1 d (n : Int) 2 X (hx.below hX (Nat.le_refl _)) (by omega)
    have z3 := pl_zero (g := 1) ok.v1 (p := (n : Int)) ⟨by omega, by omega⟩ (.inl rfl)
    have z4 := pl_zero (g := 2) ok.v1 (p := (n : Int)) ⟨by omega, by omega⟩ (.inr rfl)
    rw [z3.1, z3.2, p1] at HA1
    rw [z4.1, z4.2, p2] at HB1
    have HA2 := hide fun (X : World) (_ : Below w.heap.size w X) (a3 : Option Addr) (c3 : Nat) (h3 : IsO X a3 (ovD d e false)) => Place_at a3 c3 _ (A : Int) 1 X h3 sO.1
    have HB2 := hide fun (X : World) (_ : Below w.heap.size w X) (a3 : Option Addr) (c3 : Nat) (h3 : IsO X a3 (ovD d e false)) => Place_at a3 c3 _ (B : Int) 2 X h3 sO.1
    have z5 := pl_zero (g := 1) ok.v (p := (A : Int)) ⟨by omega, by omega⟩ (.inl rfl)
    have z6 := pl_zero (g := 2) ok.v (p := (B : Int)) ⟨by omega, by omega⟩ (.inr rfl)
    rw [z5.1, z5.2, p3] at HA2
    rw [z6.1, z6.2, p4] at HB2
    have HQ : Hid ((lo ≤ A2 ∧ A2 ≤ hi) ∧ lo ≤ B2 ∧ B2 ≤ hi) := hide ⟨⟨q1, by omega⟩, by omega, q3⟩
    clear hx _hzx hlx htx hcx hy _hzy hly _hty hcy _hp hE ok sO h1 h2 hn two sC p1 p2 b1 b2 p3 p4 p5 p6 q1 q2 q3 z1 z2 z3 z4 z5 z6
    generalize cmD d (ovD d e false) = Z at *
    generalize ovD d e false = O at *
    generalize frD d = fr at *
    generalize toD d = td at *
    go_enter Try.func5, Try.ntmps5
    go_wp2_with fail
    refine (unhide HAw).mono ?_
    rintro y w1 ⟨rfl, x1⟩
    dsimp only
    have HX1 := hide x1
    clear HAw x1
    have HC2 := hide (unhide HOV w1 (unhide HX1))
    go_wp2_with fail
    refine (unhide HC2).mono ?_
    rintro y w2 ⟨a3, c3, rfl, ⟨i3, l3⟩, x2⟩
    dsimp only
    have HX2 := hide ((unhide HX1).trans (x2.mono (unhide HX1).size))
    have o_2 := hide (i3)
    clear HC2 HX1 x2  HOV i3
    have HC3 := hide (unhide HLN w2 (unhide HX2))
    go_wp2_with fail
    refine (unhide HC3).mono ?_
    rintro y w3 ⟨rfl, x3⟩
    dsimp only
    have HX3 := hide ((unhide HX2).trans (x3.mono (unhide HX2).size))
    have o_3 := hide ((unhide o_2).below x3 (Nat.le_refl _))
    clear HC3 HX2 x3 o_2 HLN
    have HC4 := hide (unhide HCM w3 (unhide HX3) a3 c3 ⟨unhide o_3, l3⟩)
    go_wp2_with fail
    refine (unhide HC4).mono ?_
    rintro y w4 ⟨a4, c4, rfl, i4, x4⟩
    dsimp only
    have HX4 := hide ((unhide HX3).trans (x4.mono (unhide HX3).size))
    have o_4 := hide ((unhide o_3).below x4 (Nat.le_refl _))
    have z_4 := hide (i4)
    clear HC4 HX3 x4 o_3 HCM i4 t1 t2 t2' t2'' l3
    have HC5 := hide (unhide HLO w4 (unhide HX4) a4 c4 (unhide z_4))
    go_wp2_with fail
    refine (unhide HC5).mono ?_
    rintro y w5 ⟨rfl, x5⟩
    dsimp only
    have HX5 := hide ((unhide HX4).trans (x5.mono (unhide HX4).size))
    have o_5 := hide ((unhide o_4).below x5 (Nat.le_refl _))
    have z_5 := hide ((unhide z_4).below x5 (Nat.le_refl _))
    clear HC5 HX4 x5 o_4 z_4 HLO
    have HC6 := hide (unhide HHI w5 (unhide HX5) a4 c4 (unhide z_5))
    go_wp2_with fail
    refine (unhide HC6).mono ?_
    rintro y w6 ⟨rfl, x6⟩
    dsimp only
    have HX6 := hide ((unhide HX5).trans (x6.mono (unhide HX5).size))
    have o_6 := hide ((unhide o_5).below x6 (Nat.le_refl _))
    have z_6 := hide ((unhide z_5).below x6 (Nat.le_refl _))
    clear HC6 HX5 x6 o_5 z_5 HHI
    clear z_6
    have HOA := hide fun (X : World) (hX : Below w6.heap.size w6 X) => (unhide o_6).below hX (Nat.le_refl _)
    have HXA := hide fun (X : World) (hX : Below w6.heap.size w6 X) => (unhide HX6).trans (hX.mono (unhide HX6).size)
    clear o_6 HX6
    generalize w6 = wN at *
    go_wp2_with fail
    go_loopw [18, 19, 20, 21, 22, 73, 80] (fun v18 v19 v20 v21 v22 v73 v80 wx => ((∃ z, v19 = z) ∧ (∃ z, v20 = z) ∧ (∃ z, v21 = z) ∧ (∃ z, v22 = z) ∧ (∃ z, v73 = z) ∧ (∃ z, v80 = z)) ∧ ∃ g : Nat, v18 = .int .i64 (g : Int) ∧ (g = 1 ∨ g = 2 ∨ g = 3) ∧ Hid (Below wN.heap.size wN wx)) (fun v18 _ _ _ _ _ _ _ => 3 - (intOf v18).toNat)
    case atStart => exact ⟨⟨⟨_, rfl⟩, ⟨_, rfl⟩, ⟨_, rfl⟩, ⟨_, rfl⟩, ⟨_, rfl⟩, ⟨_, rfl⟩⟩, ⟨1, rfl, .inl rfl, hide (Below.refl _ _)⟩⟩
    case round =>
      obtain ⟨⟨⟨z1, rfl⟩, ⟨z2, rfl⟩, ⟨z3, rfl⟩, ⟨z4, rfl⟩, ⟨z5, rfl⟩, ⟨z6, rfl⟩⟩, ⟨g, rfl, hg, HI⟩⟩ := hrel
      obtain ⟨⟨q1, q2⟩, q3, q4⟩ := unhide HQ
      rcases hg with rfl | rfl | rfl
      · have s1 : decide ((A2 : Int) < (lo : Int)) = false := decide_eq_false (by omega)
        have s1' : decide (A2 < lo) = false := decide_eq_false (by omega)
        have s2 : decide ((A2 : Int) > (hi : Int)) = false := decide_eq_false (by omega)
        have s2' : decide ((hi : Int) < (A2 : Int)) = false := decide_eq_false (by omega)
        have s2'' : decide (hi < A2) = false := decide_eq_false (by omega)
        have HC1 := hide (unhide HA1 wr (unhide HXA wr (unhide HI)))
        clear q1 q2 q3 q4
        go_wp2_with fail
        refine (unhide HC1).mono ?_
        rintro yy w6 ⟨rfl, x6⟩
        dsimp only
        have HI2 := hide ((unhide HI).trans (x6.mono (unhide HI).size))
        have HC2 := hide (unhide HA2 w6 (unhide HXA w6 (unhide HI2)) a3 c3 (unhide HOA w6 (unhide HI2)))
        clear HC1 HI x6
        go_wp2_with fail
        refine (unhide HC2).mono ?_
        rintro yy w7 ⟨rfl, x7⟩
        dsimp only
        have HI3 := hide ((unhide HI2).trans (x7.mono (unhide HI2).size))
        clear HC2 HI2 x7
        go_wp2_with fail
        go_roundw
        case rel => exact ⟨⟨⟨_, rfl⟩, ⟨_, rfl⟩, ⟨_, rfl⟩, ⟨_, rfl⟩, ⟨_, rfl⟩, ⟨_, rfl⟩⟩, ⟨2, by go_num, by omega, HI3⟩⟩
        case measure => simp [intOf]
      · have s1 : decide ((B2 : Int) < (lo : Int)) = false := decide_eq_false (by omega)
        have s1' : decide (B2 < lo) = false := decide_eq_false (by omega)
        have s2 : decide ((B2 : Int) > (hi : Int)) = false := decide_eq_false (by omega)
        have s2' : decide ((hi : Int) < (B2 : Int)) = false := decide_eq_false (by omega)
        have s2'' : decide (hi < B2) = false := decide_eq_false (by omega)
        have HC1 := hide (unhide HB1 wr (unhide HXA wr (unhide HI)))
        clear q1 q2 q3 q4
        go_wp2_with fail
        refine (unhide HC1).mono ?_
        rintro yy w6 ⟨rfl, x6⟩
        dsimp only
        have HI2 := hide ((unhide HI).trans (x6.mono (unhide HI).size))
        have HC2 := hide (unhide HB2 w6 (unhide HXA w6 (unhide HI2)) a3 c3 (unhide HOA w6 (unhide HI2)))
        clear HC1 HI x6
        go_wp2_with fail
        refine (unhide HC2).mono ?_
        rintro yy w7 ⟨rfl, x7⟩
        dsimp only
        have HI3 := hide ((unhide HI2).trans (x7.mono (unhide HI2).size))
        clear HC2 HI2 x7
        go_wp2_with fail
        go_roundw
        case rel => exact ⟨⟨⟨_, rfl⟩, ⟨_, rfl⟩, ⟨_, rfl⟩, ⟨_, rfl⟩, ⟨_, rfl⟩, ⟨_, rfl⟩⟩, ⟨3, by go_num, by omega, HI3⟩⟩
        case measure => simp [intOf]
      · clear q1 q2 q3 q4
        have HF := hide (unhide HXA wr (unhide HI))
        go_wp2_with fail
        refine bodyPost_ret (results_tmp rfl _ _ _) rfl ⟨rfl, unhide HF⟩
  · have eO : ovD d e false = [] := by unfold ovD; rw [if_neg hE]
    rw [eO] at HOV
    simp only [List.length_nil] at HOV
    clear hx _hzx hlx htx hcx hy _hzy hly _hty hcy _hp eO
    generalize ovE d e false = E at *
    have t1 : (E != 0) = true := by simpa using hE
    have t1' : (E == 0) = false := by simpa using hE
    clear hE
    go_enter Try.func5, Try.ntmps5
    go_wp2_with fail
    refine (unhide HAw).mono ?_
    rintro y w1 ⟨rfl, x1⟩
    dsimp only
    have HX1 := hide x1
    clear HAw x1
    have HC2 := hide (unhide HOV w1 (unhide HX1))
    go_wp2_with fail
    refine (unhide HC2).mono ?_
    rintro y w2 ⟨a3, c3, rfl, ⟨i3, l3⟩, x2⟩
    dsimp only
    have HX2 := hide ((unhide HX1).trans (x2.mono (unhide HX1).size))
    have o_2 := hide (i3)
    clear HC2 HX1 x2  HOV i3
    clear o_2
    go_wp2_with fail
    refine bodyPost_ret (results_tmp rfl _ _ _) rfl ⟨rfl, unhide HX2⟩

end Go.Proofs.Ythikhnlgpljbpab
