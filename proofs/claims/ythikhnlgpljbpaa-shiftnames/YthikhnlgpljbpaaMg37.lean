/- Layer 14: ShiftNames' walk (written by wip/tools/sgf.py). -/
import Derived.Test.YthikhnlgpljbpaaMg36

namespace Go.Proofs.Ythikhnlgpljbpaa
open Go.ChangeShapes Go.WideShapes Go.ChangeAt Go.RowKit
attribute [local go_sem] Oper.semAt_some

def nmB : List Dop := [⟨1, 1, []⟩, ⟨3, 2, []⟩, ⟨1, 3, []⟩]
def nmD : List Dop := [⟨1, 4, []⟩, ⟨3, 3, []⟩]
def nmX : List Dop := [⟨1, 1, []⟩, ⟨3, 1, []⟩, ⟨1, 5, []⟩]
def nmY : List Dop := [⟨1, 1, []⟩, ⟨2, 0, [120, 121]⟩, ⟨1, 3, []⟩]
def nmZ : List Dop := [⟨1, 4, []⟩, ⟨2, 0, [122]⟩]
def nmL1 : List Dop := [⟨1, 2, []⟩, ⟨2, 0, [120, 121]⟩, ⟨1, 1, []⟩, ⟨3, 1, []⟩, ⟨1, 3, []⟩]
def nmL2 : List Dop := [⟨1, 5, []⟩, ⟨3, 3, []⟩]
theorem nm_x : ovE exD nmB true = 0 ∧ ovD exD nmB true = nmX := by decide
theorem nm_y : ovE nmB exD true = 0 ∧ ovD nmB exD true = nmY := by decide
theorem nm_c (a a' : Option Addr) (c c' : Nat) : cnQ [⟨a, c, exD⟩, ⟨a', c', nmD⟩] exC14 = ((nmZ, [nmL1, nmL2]), 0) := by
  have h : cnQ [⟨none, 0, exD⟩, ⟨none, 0, nmD⟩] exC14 = ((nmZ, [nmL1, nmL2]), 0) := by decide
  exact h
theorem nm_b : ((∀ o ∈ nmX, TbD o) ∧ (∀ o ∈ nmY, TbD o) ∧ (∀ o ∈ nmZ, TbD o)) ∧ (∀ o ∈ nmL1, TbD o) ∧ (∀ o ∈ nmL2, TbD o) := by unfold TbD; decide
theorem two_isDs {X W : World} {x y : Dl} (hb : Below X.heap.size X W) (hW : W = X.alloc (.cells #[.slice x.a x.d.length x.c, .slice y.a y.d.length y.c] 28)) (hx : IsO X x.a x.d) (hy : IsO X y.a y.d) (tx : ∀ o ∈ x.d, o.t.length ≤ 140737488355328) (ty : ∀ o ∈ y.d, o.t.length ≤ 140737488355328) : IsDs W W X.heap.size [x, y] := by
  subst hW
  have kN := Cls.new X 28 #[.slice x.a x.d.length x.c, .slice y.a y.d.length y.c]
  refine ⟨fun i hi => ?_, fun i hi => ?_, kN.lt⟩
  · match i with
    | 0 => exact kN.cell 0
    | 1 => exact kN.cell 1
    | i + 2 => simp at hi; omega
  · match i with
    | 0 => exact ⟨hx.below hb (Nat.le_refl _), tx⟩
    | 1 => exact ⟨hy.below hb (Nat.le_refl _), ty⟩
    | i + 2 => simp at hi; omega
set_option maxRecDepth 100000 in
set_option maxHeartbeats 8000000 in
theorem ShiftNames_any (w0 : World) : Calls Try.prog 3 #[] w0 fun y w' => y = .returned (.bool true) ∧ Below w0.heap.size w0 w' := by
  have HX0 := hide (Below.refl w0.heap.size w0)
  have HK1 := hide fun (X : World) (_ : Below w0.heap.size w0 X) => keep14_at 1 X
  have HK2 := hide fun (X : World) (_ : Below w0.heap.size w0 X) => keep14_at 2 X
  have HK3 := hide fun (X : World) (_ : Below w0.heap.size w0 X) => keep14_at 3 X
  have HK4 := hide fun (X : World) (_ : Below w0.heap.size w0 X) => keep14_at 4 X
  have HK5 := hide fun (X : World) (_ : Below w0.heap.size w0 X) => keep14_at 5 X
  have HD1 := hide fun (X : World) (_ : Below w0.heap.size w0 X) => drop14_at 1 X
  have HD2 := hide fun (X : World) (_ : Below w0.heap.size w0 X) => drop14_at 2 X
  have HD3 := hide fun (X : World) (_ : Below w0.heap.size w0 X) => drop14_at 3 X
  have HPX := hide fun (X : World) (_ : Below w0.heap.size w0 X) => put14_at ⟨#[120, 121]⟩ X
  have HPZ := hide fun (X : World) (_ : Below w0.heap.size w0 X) => put14_at ⟨#[122]⟩ X
  have HFX := hide fun (X : World) (_ : Below w0.heap.size w0 X) => fixed14_at X
  have HO1 := hide fun (X : World) (_ : Below w0.heap.size w0 X) (a3 a4 : Option Addr) (h3 : IsO X a3 exD) (h4 : IsO X a4 nmB) => OverO_at a3 4 exD a4 3 nmB true X ⟨h3, Nat.le_refl _⟩ ⟨h4, Nat.le_refl _⟩ (by decide) (by decide) (by decide)
  have HO2 := hide fun (X : World) (_ : Below w0.heap.size w0 X) (a3 a4 : Option Addr) (h3 : IsO X a3 nmB) (h4 : IsO X a4 exD) => OverO_at a3 3 nmB a4 4 exD true X ⟨h3, Nat.le_refl _⟩ ⟨h4, Nat.le_refl _⟩ (by decide) (by decide) (by decide)
  rw [nm_x.1, nm_x.2] at HO1
  rw [nm_y.1, nm_y.2] at HO2
  have HSX := hide fun (X : World) (_ : Below w0.heap.size w0 X) (a3 : Option Addr) (c3 : Nat) (a4 : Option Addr) (h3 : IsO X a3 nmX) (h4 : IsO X a4 nmX) => RSame14_at a3 c3 nmX a4 3 nmX X h3 h4 (by decide) (by decide) nm_b.1.1 nm_b.1.1
  have HSY := hide fun (X : World) (_ : Below w0.heap.size w0 X) (a3 : Option Addr) (c3 : Nat) (a4 : Option Addr) (h3 : IsO X a3 nmY) (h4 : IsO X a4 nmY) => RSame14_at a3 c3 nmY a4 3 nmY X h3 h4 (by decide) (by decide) nm_b.1.2.1 nm_b.1.2.1
  have HSZ := hide fun (X : World) (_ : Below w0.heap.size w0 X) (a3 : Option Addr) (c3 : Nat) (a4 : Option Addr) (h3 : IsO X a3 nmZ) (h4 : IsO X a4 nmZ) => RSame14_at a3 c3 nmZ a4 2 nmZ X h3 h4 (by decide) (by decide) nm_b.1.2.2 nm_b.1.2.2
  simp only [decide_true] at HSX HSY HSZ
  simp only [show exD.length = 4 from rfl, show nmB.length = 3 from rfl, show nmX.length = 3 from rfl, show nmY.length = 3 from rfl, show nmZ.length = 2 from rfl] at HO1 HO2 HSX HSY HSZ
  go_enter Try.func3, Try.ntmps3
  have HC1 := hide (unhide HK2 w0 (unhide HX0))
  go_wp2_with fail
  refine (unhide HC1).mono ?_
  rintro y w1 ⟨rfl, x1⟩
  dsimp only
  have HX1 := hide ((unhide HX0).trans (x1.mono (unhide HX0).size))
  clear HC1 HX0 x1  
  have HC2 := hide (unhide HPX w1 (unhide HX1))
  go_wp2_with fail
  refine (unhide HC2).mono ?_
  rintro y w2 ⟨rfl, x2⟩
  dsimp only
  have HX2 := hide ((unhide HX1).trans (x2.mono (unhide HX1).size))
  clear HC2 HX1 x2  
  have HC3 := hide (unhide HD1 w2 (unhide HX2))
  go_wp2_with fail
  refine (unhide HC3).mono ?_
  rintro y w3 ⟨rfl, x3⟩
  dsimp only
  have HX3 := hide ((unhide HX2).trans (x3.mono (unhide HX2).size))
  clear HC3 HX2 x3  
  have HC4 := hide (unhide HK3 w3 (unhide HX3))
  go_wp2_with fail
  refine (unhide HC4).mono ?_
  rintro y w4 ⟨rfl, x4⟩
  dsimp only
  have HX4 := hide ((unhide HX3).trans (x4.mono (unhide HX3).size))
  clear HC4 HX3 x4  
  have l5 := lit_isO w4 exD #[.int .i64 1, .int .i64 2, .string ⟨#[]⟩, .int .i64 2, .int .i64 0, .string ⟨#[120, 121]⟩, .int .i64 3, .int .i64 1, .string ⟨#[]⟩, .int .i64 1, .int .i64 3, .string ⟨#[]⟩] rfl
  have b5 := (Below.refl w4.heap.size w4).alloc (Nat.le_refl _) (.cells #[.int .i64 1, .int .i64 2, .string ⟨#[]⟩, .int .i64 2, .int .i64 0, .string ⟨#[120, 121]⟩, .int .i64 3, .int .i64 1, .string ⟨#[]⟩, .int .i64 1, .int .i64 3, .string ⟨#[]⟩] 24)
  have HX5 := hide ((unhide HX4).trans (b5.mono (unhide HX4).size))
  have A_5 := hide l5
  clear l5 b5 HX4 
  go_upto_region 2 with fail
  generalize w4.alloc (.cells #[.int .i64 1, .int .i64 2, .string ⟨#[]⟩, .int .i64 2, .int .i64 0, .string ⟨#[120, 121]⟩, .int .i64 3, .int .i64 1, .string ⟨#[]⟩, .int .i64 1, .int .i64 3, .string ⟨#[]⟩] 24) = w5 at *
  generalize w4.heap.size = gA at *
  have HC6 := hide (unhide HK1 w5 (unhide HX5))
  go_wp2_with fail
  refine (unhide HC6).mono ?_
  rintro y w6 ⟨rfl, x6⟩
  dsimp only
  have HX6 := hide ((unhide HX5).trans (x6.mono (unhide HX5).size))
  have A_6 := hide ((unhide A_5).below x6 (Nat.le_refl _))
  clear HC6 HX5 x6 A_5 
  have HC7 := hide (unhide HD2 w6 (unhide HX6))
  go_wp2_with fail
  refine (unhide HC7).mono ?_
  rintro y w7 ⟨rfl, x7⟩
  dsimp only
  have HX7 := hide ((unhide HX6).trans (x7.mono (unhide HX6).size))
  have A_7 := hide ((unhide A_6).below x7 (Nat.le_refl _))
  clear HC7 HX6 x7 A_6 HD2
  have HC8 := hide (unhide HK3 w7 (unhide HX7))
  go_wp2_with fail
  refine (unhide HC8).mono ?_
  rintro y w8 ⟨rfl, x8⟩
  dsimp only
  have HX8 := hide ((unhide HX7).trans (x8.mono (unhide HX7).size))
  have A_8 := hide ((unhide A_7).below x8 (Nat.le_refl _))
  clear HC8 HX7 x8 A_7 
  have l9 := lit_isO w8 nmB #[.int .i64 1, .int .i64 1, .string ⟨#[]⟩, .int .i64 3, .int .i64 2, .string ⟨#[]⟩, .int .i64 1, .int .i64 3, .string ⟨#[]⟩] rfl
  have b9 := (Below.refl w8.heap.size w8).alloc (Nat.le_refl _) (.cells #[.int .i64 1, .int .i64 1, .string ⟨#[]⟩, .int .i64 3, .int .i64 2, .string ⟨#[]⟩, .int .i64 1, .int .i64 3, .string ⟨#[]⟩] 24)
  have HX9 := hide ((unhide HX8).trans (b9.mono (unhide HX8).size))
  have A_9 := hide ((unhide A_8).below b9 (Nat.le_refl _))
  have B_9 := hide l9
  clear l9 b9 HX8 A_8
  go_upto_region 3 with fail
  generalize w8.alloc (.cells #[.int .i64 1, .int .i64 1, .string ⟨#[]⟩, .int .i64 3, .int .i64 2, .string ⟨#[]⟩, .int .i64 1, .int .i64 3, .string ⟨#[]⟩] 24) = w9 at *
  generalize w8.heap.size = gB at *
  have HC10 := hide (unhide HK2 w9 (unhide HX9))
  go_wp2_with fail
  refine (unhide HC10).mono ?_
  rintro y w10 ⟨rfl, x10⟩
  dsimp only
  have HX10 := hide ((unhide HX9).trans (x10.mono (unhide HX9).size))
  have A_10 := hide ((unhide A_9).below x10 (Nat.le_refl _))
  have B_10 := hide ((unhide B_9).below x10 (Nat.le_refl _))
  clear HC10 HX9 x10 A_9 B_9 
  have HC11 := hide (unhide HPZ w10 (unhide HX10))
  go_wp2_with fail
  refine (unhide HC11).mono ?_
  rintro y w11 ⟨rfl, x11⟩
  dsimp only
  have HX11 := hide ((unhide HX10).trans (x11.mono (unhide HX10).size))
  have A_11 := hide ((unhide A_10).below x11 (Nat.le_refl _))
  have B_11 := hide ((unhide B_10).below x11 (Nat.le_refl _))
  clear HC11 HX10 x11 A_10 B_10 
  have HC12 := hide (unhide HK4 w11 (unhide HX11))
  go_wp2_with fail
  refine (unhide HC12).mono ?_
  rintro y w12 ⟨rfl, x12⟩
  dsimp only
  have HX12 := hide ((unhide HX11).trans (x12.mono (unhide HX11).size))
  have A_12 := hide ((unhide A_11).below x12 (Nat.le_refl _))
  have B_12 := hide ((unhide B_11).below x12 (Nat.le_refl _))
  clear HC12 HX11 x12 A_11 B_11 
  have l13 := lit_isO w12 exC14 #[.int .i64 1, .int .i64 2, .string ⟨#[]⟩, .int .i64 2, .int .i64 0, .string ⟨#[122]⟩, .int .i64 1, .int .i64 4, .string ⟨#[]⟩] rfl
  have b13 := (Below.refl w12.heap.size w12).alloc (Nat.le_refl _) (.cells #[.int .i64 1, .int .i64 2, .string ⟨#[]⟩, .int .i64 2, .int .i64 0, .string ⟨#[122]⟩, .int .i64 1, .int .i64 4, .string ⟨#[]⟩] 24)
  have HX13 := hide ((unhide HX12).trans (b13.mono (unhide HX12).size))
  have A_13 := hide ((unhide A_12).below b13 (Nat.le_refl _))
  have B_13 := hide ((unhide B_12).below b13 (Nat.le_refl _))
  have C_13 := hide l13
  clear l13 b13 HX12 A_12 B_12
  go_upto_region 4 with fail
  generalize w12.alloc (.cells #[.int .i64 1, .int .i64 2, .string ⟨#[]⟩, .int .i64 2, .int .i64 0, .string ⟨#[122]⟩, .int .i64 1, .int .i64 4, .string ⟨#[]⟩] 24) = w13 at *
  generalize w12.heap.size = gC at *
  have HC14 := hide (unhide HO1 w13 (unhide HX13) (some ⟨gA, 0, none⟩) (some ⟨gB, 0, none⟩) (unhide A_13) (unhide B_13))
  go_wp2_with fail
  refine (unhide HC14).mono ?_
  rintro y w14 ⟨aX, cX, rfl, ⟨iX, lX⟩, x14⟩
  dsimp only
  have HX14 := hide ((unhide HX13).trans (x14.mono (unhide HX13).size))
  have A_14 := hide ((unhide A_13).below x14 (Nat.le_refl _))
  have B_14 := hide ((unhide B_13).below x14 (Nat.le_refl _))
  have C_14 := hide ((unhide C_13).below x14 (Nat.le_refl _))
  have X_14 := hide (iX)
  clear HC14 HX13 x14 A_13 B_13 C_13 HO1 iX
  have HC15 := hide (unhide HO2 w14 (unhide HX14) (some ⟨gB, 0, none⟩) (some ⟨gA, 0, none⟩) (unhide B_14) (unhide A_14))
  go_wp2_with fail
  refine (unhide HC15).mono ?_
  rintro y w15 ⟨aY, cY, rfl, ⟨iY, lY⟩, x15⟩
  dsimp only
  have HX15 := hide ((unhide HX14).trans (x15.mono (unhide HX14).size))
  have A_15 := hide ((unhide A_14).below x15 (Nat.le_refl _))
  have B_15 := hide ((unhide B_14).below x15 (Nat.le_refl _))
  have C_15 := hide ((unhide C_14).below x15 (Nat.le_refl _))
  have X_15 := hide ((unhide X_14).below x15 (Nat.le_refl _))
  have Y_15 := hide (iY)
  clear HC15 HX14 x15 A_14 B_14 C_14 X_14 HO2 iY
  clear B_15
  have HC16 := hide (unhide HK4 w15 (unhide HX15))
  go_wp2_with fail
  refine (unhide HC16).mono ?_
  rintro y w16 ⟨rfl, x16⟩
  dsimp only
  have HX16 := hide ((unhide HX15).trans (x16.mono (unhide HX15).size))
  have A_16 := hide ((unhide A_15).below x16 (Nat.le_refl _))
  have C_16 := hide ((unhide C_15).below x16 (Nat.le_refl _))
  have X_16 := hide ((unhide X_15).below x16 (Nat.le_refl _))
  have Y_16 := hide ((unhide Y_15).below x16 (Nat.le_refl _))
  clear HC16 HX15 x16 A_15 C_15 X_15 Y_15 
  have HC17 := hide (unhide HD3 w16 (unhide HX16))
  go_wp2_with fail
  refine (unhide HC17).mono ?_
  rintro y w17 ⟨rfl, x17⟩
  dsimp only
  have HX17 := hide ((unhide HX16).trans (x17.mono (unhide HX16).size))
  have A_17 := hide ((unhide A_16).below x17 (Nat.le_refl _))
  have C_17 := hide ((unhide C_16).below x17 (Nat.le_refl _))
  have X_17 := hide ((unhide X_16).below x17 (Nat.le_refl _))
  have Y_17 := hide ((unhide Y_16).below x17 (Nat.le_refl _))
  clear HC17 HX16 x17 A_16 C_16 X_16 Y_16 
  have l18 := lit_isO w17 nmD #[.int .i64 1, .int .i64 4, .string ⟨#[]⟩, .int .i64 3, .int .i64 3, .string ⟨#[]⟩] rfl
  have b18 := (Below.refl w17.heap.size w17).alloc (Nat.le_refl _) (.cells #[.int .i64 1, .int .i64 4, .string ⟨#[]⟩, .int .i64 3, .int .i64 3, .string ⟨#[]⟩] 24)
  have HX18 := hide ((unhide HX17).trans (b18.mono (unhide HX17).size))
  have A_18 := hide ((unhide A_17).below b18 (Nat.le_refl _))
  have C_18 := hide ((unhide C_17).below b18 (Nat.le_refl _))
  have X_18 := hide ((unhide X_17).below b18 (Nat.le_refl _))
  have Y_18 := hide ((unhide Y_17).below b18 (Nat.le_refl _))
  have Q_18 := hide l18
  clear l18 b18 HX17 A_17 C_17 X_17 Y_17
  generalize hv18 : w17.alloc (.cells #[.int .i64 1, .int .i64 4, .string ⟨#[]⟩, .int .i64 3, .int .i64 3, .string ⟨#[]⟩] 24) = w18 at *
  have bq := (Below.refl w18.heap.size w18).alloc (Nat.le_refl _) (.cells #[.slice (some ⟨gA, 0, none⟩) 4 4, .slice (some ⟨w17.heap.size, 0, none⟩) 2 2] 28)
  have hds := two_isDs (x := ⟨some ⟨gA, 0, none⟩, 4, exD⟩) (y := ⟨some ⟨w17.heap.size, 0, none⟩, 2, nmD⟩) bq rfl (unhide A_18) (unhide Q_18) (by dsimp only; decide) (by dsimp only; decide)
  have HCH := hide (Chain_at w18.heap.size 2 [⟨some ⟨gA, 0, none⟩, 4, exD⟩, ⟨some ⟨w17.heap.size, 0, none⟩, 2, nmD⟩] (some ⟨gC, 0, none⟩) 3 exC14 _ hds ((unhide C_18).below bq (Nat.le_refl _)) (by simp) (by decide) (fun x hx => by
    rcases List.mem_cons.1 hx with rfl | hx
    · dsimp only; decide
    · obtain rfl : x = _ := by simpa using hx
      dsimp only; decide))
  rw [nm_c] at HCH
  dsimp only at HCH
  simp only [List.length_cons, List.length_nil, Nat.zero_add, Nat.reduceAdd, show exC14.length = 3 from rfl] at HCH
  have HXq := hide ((unhide HX18).trans (bq.mono (unhide HX18).size))
  have Xq := hide ((unhide X_18).below bq (Nat.le_refl _))
  have Yq := hide ((unhide Y_18).below bq (Nat.le_refl _))
  clear bq hds HX18 X_18 Y_18 A_18 C_18 Q_18
  generalize hvq : w18.alloc (.cells #[.slice (some ⟨gA, 0, none⟩) 4 4, .slice (some ⟨w17.heap.size, 0, none⟩) 2 2] 28) = wq at *
  go_wp2_with fail
  clear hvq hv18
  refine (unhide HCH).mono ?_
  rintro y w19 ⟨v1, v8, rfl, hM⟩
  dsimp only
  have x19 := hM.d
  have HX19 := hide ((unhide HXq).trans (x19.mono (unhide HXq).size))
  have X_19 := hide ((unhide Xq).below x19 (Nat.le_refl _))
  have Y_19 := hide ((unhide Yq).below x19 (Nat.le_refl _))
  obtain ⟨aZ, cZ, hvZ, iZ, _⟩ := own_isOC hM.b
  subst hvZ
  have Z_19 := hide iZ
  have M_19 := hide hM
  clear HCH HXq Xq Yq x19 iZ hM
  have HC20 := hide (unhide HFX w19 (unhide HX19))
  go_wp2_with fail
  refine (unhide HC20).mono ?_
  rintro y w20 ⟨rfl, x20⟩
  dsimp only
  have HX20 := hide ((unhide HX19).trans (x20.mono (unhide HX19).size))
  have X_20 := hide ((unhide X_19).below x20 (Nat.le_refl _))
  have Y_20 := hide ((unhide Y_19).below x20 (Nat.le_refl _))
  have Z_20 := hide ((unhide Z_19).below x20 (Nat.le_refl _))
  have M_20 := hide ((unhide M_19).on x20)
  clear HC20 HX19 x20 X_19 Y_19 Z_19 M_19 HFX
  have HC21 := hide (unhide HK1 w20 (unhide HX20))
  go_wp2_with fail
  refine (unhide HC21).mono ?_
  rintro y w21 ⟨rfl, x21⟩
  dsimp only
  have HX21 := hide ((unhide HX20).trans (x21.mono (unhide HX20).size))
  have X_21 := hide ((unhide X_20).below x21 (Nat.le_refl _))
  have Y_21 := hide ((unhide Y_20).below x21 (Nat.le_refl _))
  have Z_21 := hide ((unhide Z_20).below x21 (Nat.le_refl _))
  have M_21 := hide ((unhide M_20).on x21)
  clear HC21 HX20 x21 X_20 Y_20 Z_20 M_20 
  have HC22 := hide (unhide HD1 w21 (unhide HX21))
  go_wp2_with fail
  refine (unhide HC22).mono ?_
  rintro y w22 ⟨rfl, x22⟩
  dsimp only
  have HX22 := hide ((unhide HX21).trans (x22.mono (unhide HX21).size))
  have X_22 := hide ((unhide X_21).below x22 (Nat.le_refl _))
  have Y_22 := hide ((unhide Y_21).below x22 (Nat.le_refl _))
  have Z_22 := hide ((unhide Z_21).below x22 (Nat.le_refl _))
  have M_22 := hide ((unhide M_21).on x22)
  clear HC22 HX21 x22 X_21 Y_21 Z_21 M_21 
  have HC23 := hide (unhide HK5 w22 (unhide HX22))
  go_wp2_with fail
  refine (unhide HC23).mono ?_
  rintro y w23 ⟨rfl, x23⟩
  dsimp only
  have HX23 := hide ((unhide HX22).trans (x23.mono (unhide HX22).size))
  have X_23 := hide ((unhide X_22).below x23 (Nat.le_refl _))
  have Y_23 := hide ((unhide Y_22).below x23 (Nat.le_refl _))
  have Z_23 := hide ((unhide Z_22).below x23 (Nat.le_refl _))
  have M_23 := hide ((unhide M_22).on x23)
  clear HC23 HX22 x23 X_22 Y_22 Z_22 M_22 
  have l24 := lit_isO w23 nmX #[.int .i64 1, .int .i64 1, .string ⟨#[]⟩, .int .i64 3, .int .i64 1, .string ⟨#[]⟩, .int .i64 1, .int .i64 5, .string ⟨#[]⟩] rfl
  have b24 := (Below.refl w23.heap.size w23).alloc (Nat.le_refl _) (.cells #[.int .i64 1, .int .i64 1, .string ⟨#[]⟩, .int .i64 3, .int .i64 1, .string ⟨#[]⟩, .int .i64 1, .int .i64 5, .string ⟨#[]⟩] 24)
  have HX24 := hide ((unhide HX23).trans (b24.mono (unhide HX23).size))
  have X_24 := hide ((unhide X_23).below b24 (Nat.le_refl _))
  have Y_24 := hide ((unhide Y_23).below b24 (Nat.le_refl _))
  have Z_24 := hide ((unhide Z_23).below b24 (Nat.le_refl _))
  have M_24 := hide ((unhide M_23).on b24)
  have q_24 := hide l24
  clear l24 b24 HX23 X_23 Y_23 Z_23 M_23
  generalize hv24 : w23.alloc (.cells #[.int .i64 1, .int .i64 1, .string ⟨#[]⟩, .int .i64 3, .int .i64 1, .string ⟨#[]⟩, .int .i64 1, .int .i64 5, .string ⟨#[]⟩] 24) = w24 at *
  have HC25 := hide (unhide HSX w24 (unhide HX24) aX cX (some ⟨w23.heap.size, 0, none⟩) (unhide X_24) (unhide q_24))
  go_wp2_with fail
  clear hv24
  refine (unhide HC25).mono ?_
  rintro y w25 ⟨rfl, x25⟩
  dsimp only
  have HX25 := hide ((unhide HX24).trans (x25.mono (unhide HX24).size))
  have X_25 := hide ((unhide X_24).below x25 (Nat.le_refl _))
  have Y_25 := hide ((unhide Y_24).below x25 (Nat.le_refl _))
  have Z_25 := hide ((unhide Z_24).below x25 (Nat.le_refl _))
  have M_25 := hide ((unhide M_24).on x25)
  have q_25 := hide ((unhide q_24).below x25 (Nat.le_refl _))
  clear HC25 HX24 x25 X_24 Y_24 Z_24 M_24 q_24 HSX
  clear q_25
  clear X_25
  have HC26 := hide (unhide HK1 w25 (unhide HX25))
  go_wp2_with fail
  refine (unhide HC26).mono ?_
  rintro y w26 ⟨rfl, x26⟩
  dsimp only
  have HX26 := hide ((unhide HX25).trans (x26.mono (unhide HX25).size))
  have Y_26 := hide ((unhide Y_25).below x26 (Nat.le_refl _))
  have Z_26 := hide ((unhide Z_25).below x26 (Nat.le_refl _))
  have M_26 := hide ((unhide M_25).on x26)
  clear HC26 HX25 x26 Y_25 Z_25 M_25 
  have HC27 := hide (unhide HPX w26 (unhide HX26))
  go_wp2_with fail
  refine (unhide HC27).mono ?_
  rintro y w27 ⟨rfl, x27⟩
  dsimp only
  have HX27 := hide ((unhide HX26).trans (x27.mono (unhide HX26).size))
  have Y_27 := hide ((unhide Y_26).below x27 (Nat.le_refl _))
  have Z_27 := hide ((unhide Z_26).below x27 (Nat.le_refl _))
  have M_27 := hide ((unhide M_26).on x27)
  clear HC27 HX26 x27 Y_26 Z_26 M_26 
  have HC28 := hide (unhide HK3 w27 (unhide HX27))
  go_wp2_with fail
  refine (unhide HC28).mono ?_
  rintro y w28 ⟨rfl, x28⟩
  dsimp only
  have HX28 := hide ((unhide HX27).trans (x28.mono (unhide HX27).size))
  have Y_28 := hide ((unhide Y_27).below x28 (Nat.le_refl _))
  have Z_28 := hide ((unhide Z_27).below x28 (Nat.le_refl _))
  have M_28 := hide ((unhide M_27).on x28)
  clear HC28 HX27 x28 Y_27 Z_27 M_27 
  have l29 := lit_isO w28 nmY #[.int .i64 1, .int .i64 1, .string ⟨#[]⟩, .int .i64 2, .int .i64 0, .string ⟨#[120, 121]⟩, .int .i64 1, .int .i64 3, .string ⟨#[]⟩] rfl
  have b29 := (Below.refl w28.heap.size w28).alloc (Nat.le_refl _) (.cells #[.int .i64 1, .int .i64 1, .string ⟨#[]⟩, .int .i64 2, .int .i64 0, .string ⟨#[120, 121]⟩, .int .i64 1, .int .i64 3, .string ⟨#[]⟩] 24)
  have HX29 := hide ((unhide HX28).trans (b29.mono (unhide HX28).size))
  have Y_29 := hide ((unhide Y_28).below b29 (Nat.le_refl _))
  have Z_29 := hide ((unhide Z_28).below b29 (Nat.le_refl _))
  have M_29 := hide ((unhide M_28).on b29)
  have q_29 := hide l29
  clear l29 b29 HX28 Y_28 Z_28 M_28
  generalize hv29 : w28.alloc (.cells #[.int .i64 1, .int .i64 1, .string ⟨#[]⟩, .int .i64 2, .int .i64 0, .string ⟨#[120, 121]⟩, .int .i64 1, .int .i64 3, .string ⟨#[]⟩] 24) = w29 at *
  have HC30 := hide (unhide HSY w29 (unhide HX29) aY cY (some ⟨w28.heap.size, 0, none⟩) (unhide Y_29) (unhide q_29))
  go_wp2_with fail
  clear hv29
  refine (unhide HC30).mono ?_
  rintro y w30 ⟨rfl, x30⟩
  dsimp only
  have HX30 := hide ((unhide HX29).trans (x30.mono (unhide HX29).size))
  have Y_30 := hide ((unhide Y_29).below x30 (Nat.le_refl _))
  have Z_30 := hide ((unhide Z_29).below x30 (Nat.le_refl _))
  have M_30 := hide ((unhide M_29).on x30)
  have q_30 := hide ((unhide q_29).below x30 (Nat.le_refl _))
  clear HC30 HX29 x30 Y_29 Z_29 M_29 q_29 HSY
  clear q_30
  clear Y_30
  have HC31 := hide (unhide HK4 w30 (unhide HX30))
  go_wp2_with fail
  refine (unhide HC31).mono ?_
  rintro y w31 ⟨rfl, x31⟩
  dsimp only
  have HX31 := hide ((unhide HX30).trans (x31.mono (unhide HX30).size))
  have Z_31 := hide ((unhide Z_30).below x31 (Nat.le_refl _))
  have M_31 := hide ((unhide M_30).on x31)
  clear HC31 HX30 x31 Z_30 M_30 
  have HC32 := hide (unhide HPZ w31 (unhide HX31))
  go_wp2_with fail
  refine (unhide HC32).mono ?_
  rintro y w32 ⟨rfl, x32⟩
  dsimp only
  have HX32 := hide ((unhide HX31).trans (x32.mono (unhide HX31).size))
  have Z_32 := hide ((unhide Z_31).below x32 (Nat.le_refl _))
  have M_32 := hide ((unhide M_31).on x32)
  clear HC32 HX31 x32 Z_31 M_31 
  have l33 := lit_isO w32 nmZ #[.int .i64 1, .int .i64 4, .string ⟨#[]⟩, .int .i64 2, .int .i64 0, .string ⟨#[122]⟩] rfl
  have b33 := (Below.refl w32.heap.size w32).alloc (Nat.le_refl _) (.cells #[.int .i64 1, .int .i64 4, .string ⟨#[]⟩, .int .i64 2, .int .i64 0, .string ⟨#[122]⟩] 24)
  have HX33 := hide ((unhide HX32).trans (b33.mono (unhide HX32).size))
  have Z_33 := hide ((unhide Z_32).below b33 (Nat.le_refl _))
  have M_33 := hide ((unhide M_32).on b33)
  have q_33 := hide l33
  clear l33 b33 HX32 Z_32 M_32
  generalize hv33 : w32.alloc (.cells #[.int .i64 1, .int .i64 4, .string ⟨#[]⟩, .int .i64 2, .int .i64 0, .string ⟨#[122]⟩] 24) = w33 at *
  have HC34 := hide (unhide HSZ w33 (unhide HX33) aZ cZ (some ⟨w32.heap.size, 0, none⟩) (unhide Z_33) (unhide q_33))
  go_wp2_with fail
  clear hv33
  refine (unhide HC34).mono ?_
  rintro y w34 ⟨rfl, x34⟩
  dsimp only
  have HX34 := hide ((unhide HX33).trans (x34.mono (unhide HX33).size))
  have Z_34 := hide ((unhide Z_33).below x34 (Nat.le_refl _))
  have M_34 := hide ((unhide M_33).on x34)
  have q_34 := hide ((unhide q_33).below x34 (Nat.le_refl _))
  clear HC34 HX33 x34 Z_33 M_33 q_33 HSZ
  clear q_34
  clear Z_34
  have HC35 := hide (unhide HK2 w34 (unhide HX34))
  go_wp2_with fail
  refine (unhide HC35).mono ?_
  rintro y w35 ⟨rfl, x35⟩
  dsimp only
  have HX35 := hide ((unhide HX34).trans (x35.mono (unhide HX34).size))
  have M_35 := hide ((unhide M_34).on x35)
  clear HC35 HX34 x35 M_34 
  have HC36 := hide (unhide HPX w35 (unhide HX35))
  go_wp2_with fail
  refine (unhide HC36).mono ?_
  rintro y w36 ⟨rfl, x36⟩
  dsimp only
  have HX36 := hide ((unhide HX35).trans (x36.mono (unhide HX35).size))
  have M_36 := hide ((unhide M_35).on x36)
  clear HC36 HX35 x36 M_35 
  have HC37 := hide (unhide HK1 w36 (unhide HX36))
  go_wp2_with fail
  refine (unhide HC37).mono ?_
  rintro y w37 ⟨rfl, x37⟩
  dsimp only
  have HX37 := hide ((unhide HX36).trans (x37.mono (unhide HX36).size))
  have M_37 := hide ((unhide M_36).on x37)
  clear HC37 HX36 x37 M_36 
  have HC38 := hide (unhide HD1 w37 (unhide HX37))
  go_wp2_with fail
  refine (unhide HC38).mono ?_
  rintro y w38 ⟨rfl, x38⟩
  dsimp only
  have HX38 := hide ((unhide HX37).trans (x38.mono (unhide HX37).size))
  have M_38 := hide ((unhide M_37).on x38)
  clear HC38 HX37 x38 M_37 
  have HC39 := hide (unhide HK3 w38 (unhide HX38))
  go_wp2_with fail
  refine (unhide HC39).mono ?_
  rintro y w39 ⟨rfl, x39⟩
  dsimp only
  have HX39 := hide ((unhide HX38).trans (x39.mono (unhide HX38).size))
  have M_39 := hide ((unhide M_38).on x39)
  clear HC39 HX38 x39 M_38 
  have l40 := lit_isO w39 nmL1 #[.int .i64 1, .int .i64 2, .string ⟨#[]⟩, .int .i64 2, .int .i64 0, .string ⟨#[120, 121]⟩, .int .i64 1, .int .i64 1, .string ⟨#[]⟩, .int .i64 3, .int .i64 1, .string ⟨#[]⟩, .int .i64 1, .int .i64 3, .string ⟨#[]⟩] rfl
  have b40 := (Below.refl w39.heap.size w39).alloc (Nat.le_refl _) (.cells #[.int .i64 1, .int .i64 2, .string ⟨#[]⟩, .int .i64 2, .int .i64 0, .string ⟨#[120, 121]⟩, .int .i64 1, .int .i64 1, .string ⟨#[]⟩, .int .i64 3, .int .i64 1, .string ⟨#[]⟩, .int .i64 1, .int .i64 3, .string ⟨#[]⟩] 24)
  have HX40 := hide ((unhide HX39).trans (b40.mono (unhide HX39).size))
  have M_40 := hide ((unhide M_39).on b40)
  have e_40 := hide l40
  clear l40 b40 HX39 M_39
  generalize hv40 : w39.alloc (.cells #[.int .i64 1, .int .i64 2, .string ⟨#[]⟩, .int .i64 2, .int .i64 0, .string ⟨#[120, 121]⟩, .int .i64 1, .int .i64 1, .string ⟨#[]⟩, .int .i64 3, .int .i64 1, .string ⟨#[]⟩, .int .i64 1, .int .i64 3, .string ⟨#[]⟩] 24) = w40 at *
  generalize hge : w39.heap.size = ge at *
  have HC41 := hide (unhide HK5 w40 (unhide HX40))
  go_wp2_with fail
  clear hv40 hge
  refine (unhide HC41).mono ?_
  rintro y w41 ⟨rfl, x41⟩
  dsimp only
  have HX41 := hide ((unhide HX40).trans (x41.mono (unhide HX40).size))
  have M_41 := hide ((unhide M_40).on x41)
  have e_41 := hide ((unhide e_40).below x41 (Nat.le_refl _))
  clear HC41 HX40 x41 M_40 e_40 
  have HC42 := hide (unhide HD3 w41 (unhide HX41))
  go_wp2_with fail
  refine (unhide HC42).mono ?_
  rintro y w42 ⟨rfl, x42⟩
  dsimp only
  have HX42 := hide ((unhide HX41).trans (x42.mono (unhide HX41).size))
  have M_42 := hide ((unhide M_41).on x42)
  have e_42 := hide ((unhide e_41).below x42 (Nat.le_refl _))
  clear HC42 HX41 x42 M_41 e_41 
  have l43 := lit_isO w42 nmL2 #[.int .i64 1, .int .i64 5, .string ⟨#[]⟩, .int .i64 3, .int .i64 3, .string ⟨#[]⟩] rfl
  have b43 := (Below.refl w42.heap.size w42).alloc (Nat.le_refl _) (.cells #[.int .i64 1, .int .i64 5, .string ⟨#[]⟩, .int .i64 3, .int .i64 3, .string ⟨#[]⟩] 24)
  have HX43 := hide ((unhide HX42).trans (b43.mono (unhide HX42).size))
  have M_43 := hide ((unhide M_42).on b43)
  have e_43 := hide ((unhide e_42).below b43 (Nat.le_refl _))
  have f_43 := hide l43
  clear l43 b43 HX42 M_42 e_42
  generalize hv43 : w42.alloc (.cells #[.int .i64 1, .int .i64 5, .string ⟨#[]⟩, .int .i64 3, .int .i64 3, .string ⟨#[]⟩] 24) = w43 at *
  have bq := (Below.refl w43.heap.size w43).alloc (Nat.le_refl _) (.cells #[.slice (some ⟨ge, 0, none⟩) 5 5, .slice (some ⟨w42.heap.size, 0, none⟩) 2 2] 28)
  have hds := two_isDs (x := ⟨some ⟨ge, 0, none⟩, 5, nmL1⟩) (y := ⟨some ⟨w42.heap.size, 0, none⟩, 2, nmL2⟩) bq rfl (unhide e_43) (unhide f_43) (by dsimp only; decide) (by dsimp only; decide)
  obtain ⟨G, c8, d8, hv8, hd8, hi8⟩ := ch_isDs ((unhide M_43).on bq) (by simp) (by decide)
  subst hv8
  have hl8 : d8.length = 2 := by have := congrArg List.length hd8; simpa using this
  have HCA := hide (RSameAll_at G c8 w43.heap.size 2 d8 [⟨some ⟨ge, 0, none⟩, 5, nmL1⟩, ⟨some ⟨w42.heap.size, 0, none⟩, 2, nmL2⟩] _ _ hi8 hds (Below.refl _ _) hd8 (by omega) (fun x hx => by
    have hm : x.d ∈ [nmL1, nmL2] := by rw [← hd8]; exact List.mem_map_of_mem hx
    rcases List.mem_cons.1 hm with e1 | hm
    · rw [e1]; exact ⟨by decide, nm_b.2.1⟩
    · have e1 : x.d = nmL2 := by simpa using hm
      rw [e1]; exact ⟨by decide, nm_b.2.2⟩))
  rw [hl8] at HCA
  simp only [List.length_cons, List.length_nil, Nat.zero_add, Nat.reduceAdd] at HCA
  have HXq := hide ((unhide HX43).trans (bq.mono (unhide HX43).size))
  clear bq hds HX43 M_43 e_43 f_43  hd8 hi8 hl8
  generalize hvq : w43.alloc (.cells #[.slice (some ⟨ge, 0, none⟩) 5 5, .slice (some ⟨w42.heap.size, 0, none⟩) 2 2] 28) = wq at *
  go_wp2_with fail
  clear hvq hv43
  refine (unhide HCA).mono ?_
  rintro y w44 ⟨rfl, x44⟩
  dsimp only
  have HX44 := hide ((unhide HXq).trans (x44.mono (unhide HXq).size))
  clear HCA HXq x44
  go_wp2_with fail
  refine bodyPost_ret (results_tmp rfl _ _ _) rfl ⟨rfl, unhide HX44⟩

end Go.Proofs.Ythikhnlgpljbpaa
