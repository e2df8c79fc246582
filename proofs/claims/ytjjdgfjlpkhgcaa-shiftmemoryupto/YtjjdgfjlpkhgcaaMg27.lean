/- Layer 14: the document's Same (as layer 13's); the law's fixed fact (written by wip/tools/sfs.py). · Layer 14: Both (written by wip/tools/sft.py). -/
import Derived.Test.YtjjdgfjlpkhgcaaMg26
import Derived.Test.YtjjdgfjlpkhgcaaMg20

section
namespace Go.Proofs.Ytjjdgfjlpkhgcaa
open Go.ChangeShapes Go.WideShapes Go.ChangeAt Go.RowKit
attribute [local go_sem] Oper.semAt_some

set_option maxRecDepth 100000 in
set_option maxHeartbeats 2000000 in
theorem RSame14_at (a : Option Addr) (c : Nat) (d : List Dop) (a' : Option Addr) (c' : Nat) (e : List Dop) (w : World) (h : IsO w a d) (h' : IsO w a' e) (hl : d.length ≤ 4611686018427387904) (_hl' : e.length ≤ 4611686018427387904) (hb : ∀ o ∈ d, TbD o) (hb' : ∀ o ∈ e, TbD o) :
    Calls Try.prog 32 #[.slice a d.length c, .slice a' e.length c'] w fun y w' => y = .returned (.bool (decide (d = e))) ∧ Below w.heap.size w w' := by
  have HO := hide fun (X : World) (hx : Below w.heap.size w X) => h.below hx (Nat.le_refl _)
  have HO' := hide fun (X : World) (hx : Below w.heap.size w X) => h'.below hx (Nat.le_refl _)
  by_cases hlen : d.length = e.length
  case neg =>
    have HV : Hid (decide (d = e) = false) := hide (decide_eq_false fun he => hlen (by rw [he]))
    have t1 : ((d.length : Int) != (e.length : Int)) = true := by simp; omega
    have t2 : ¬ d.length = e.length := hlen
    have t3 : (d.length == e.length) = false := by simpa using hlen
    clear h h' hb hb' hlen HO HO'
    rw [unhide HV]
    go_enter Try.func32, Try.ntmps32
    go_wp2_with fail
    refine bodyPost_ret (results_tmp rfl _ _ _) rfl ⟨rfl, Below.refl _ _⟩
  obtain ⟨V, hV⟩ : ∃ V, V = decide (d = e) := ⟨_, rfl⟩
  rw [← hV]
  have HV := hide hV
  have HL := hide hlen
  have HBB := hide (And.intro hb hb')
  obtain ⟨N, hN⟩ : ∃ N, N = d.length := ⟨_, rfl⟩
  have hN' : N = e.length := by rw [hN, hlen]
  have HN := hide (And.intro hN hN')
  rw [← hN, ← hN']
  have hNl : N ≤ 4611686018427387904 := by omega
  clear h h' hb hb' hlen hV hN hN' hl
  go_enter Try.func32, Try.ntmps32
  go_wp2_with fail
  go_loopw [5] (fun v5 wx => (∃ k : Nat, v5 = .int .i64 (k : Int) ∧ k ≤ N ∧ Hid (d.take k = e.take k)) ∧ Hid (Below w.heap.size w wx)) (fun v5 _ => N - (intOf v5).toNat)
  case atStart => exact ⟨⟨0, rfl, Nat.zero_le _, hide rfl⟩, hide (Below.refl _ _)⟩
  case round =>
    obtain ⟨⟨k, rfl, hk, HK⟩, HB⟩ := hrel
    by_cases hlt : k < N
    · have t1 : decide ((k : Int) < (N : Int)) = true := decide_eq_true (by omega)
      have hd1 : k < d.length := by rw [← (unhide HN).1]; exact hlt
      have he1 : k < e.length := by rw [← (unhide HN).2]; exact hlt
      obtain ⟨g, off, rfl, hg, c0, c1, c2⟩ := (unhide HO wr (unhide HB)).three hd1
      obtain ⟨g', off', rfl, hg', e0, e1, e2⟩ := (unhide HO' wr (unhide HB)).three he1
      have HQ := hide (op_neq ((unhide HBB).1 _ (getD_memE hd1)) ((unhide HBB).2 _ (getD_memE he1)))
      have HTK := hide (take_eqD hd1 he1 (unhide HK))
      have HNE : Hid (d.getD k opZ ≠ e.getD k opZ → d ≠ e) := hide fun h1 h2 => h1 (by rw [h2])
      generalize d.getD k opZ = x at *
      generalize e.getD k opZ = y at *
      obtain ⟨xk, xn, xt⟩ := x
      obtain ⟨yk, yn, yt⟩ := y
      dsimp only at c0 c1 c2 e0 e1 e2 HQ
      generalize hst : strOfNums xt = st at *
      generalize hsu : strOfNums yt = su at *
      have HST := hide hst
      have HSU := hide hsu
      clear hst hsu
      clear hd1 he1 hg hg' HK
      have HB1 := hide (unhide HB).drew
      clear HB
      rcases unhide HQ with hxy | ⟨hxy, hq⟩
      · have HK2 := hide (unhide HTK hxy)
        cases hxy
        have hst : st = su := by rw [← unhide HST, ← unhide HSU]
        subst hst
        clear HTK HNE HQ HST HSU
        go_upto_region 6 with fail
        go_region
        go_wp2_with fail
        go_roundw
        case rel => exact ⟨⟨k + 1, by go_num, hlt, HK2⟩, HB1⟩
        case measure => simp [intOf]; omega
      · have HV2 : Hid (V = false) := hide (by rw [unhide HV]; exact decide_eq_false (unhide HNE hxy))
        clear HTK HNE HQ hxy HST HSU
        rcases hq with hq | ⟨rfl, hq⟩ | ⟨rfl, rfl, hq⟩
        all_goals
          go_upto_region 6 with fail
          go_region
          go_wp2_with fail
          rw [unhide HV2]
          refine bodyPost_ret (results_tmp rfl _ _ _) rfl ⟨rfl, unhide HB1⟩
    · obtain rfl : k = N := by omega
      have t1 : decide ((k : Int) < (k : Int)) = false := decide_eq_false (by omega)
      have HV2 : Hid (V = true) := hide (by
        rw [unhide HV]
        refine decide_eq_true ?_
        have := unhide HK
        rw [(unhide HN).1, List.take_length, ← (unhide HN).1, (unhide HN).2, List.take_length] at this
        exact this)
      clear HK hk
      go_wp2_with fail
      rw [unhide HV2]
      refine bodyPost_ret (results_tmp rfl _ _ _) rfl ⟨rfl, unhide HB⟩

set_option maxRecDepth 100000 in
theorem keep14_at (n : Int) (w : World) : Calls Try.prog 34 #[.int .i64 n] w fun y w' => y = .returned (.agg #[.int .i64 1, .int .i64 n, .string ⟨#[]⟩]) ∧ Below w.heap.size w w' := by
  obtain ⟨q0, q1, q2⟩ := three_nwD w (.int .i64 1) (.int .i64 n) (.string ⟨#[]⟩) (t := 34)
  have b := (Below.refl w.heap.size w).alloc (Nat.le_refl _) (.cells #[.int .i64 1, .int .i64 n, .string ⟨#[]⟩] 34)
  go_enter Try.func34, Try.ntmps34
  go_wp2_with fail
  exact bodyPost_ret (v := .agg #[.int .i64 1, .int .i64 n, .string ⟨#[]⟩]) (by simp [results, Try.results34, go_sem, q0, q1, q2]) rfl ⟨rfl, b⟩
set_option maxRecDepth 100000 in
theorem drop14_at (n : Int) (w : World) : Calls Try.prog 27 #[.int .i64 n] w fun y w' => y = .returned (.agg #[.int .i64 3, .int .i64 n, .string ⟨#[]⟩]) ∧ Below w.heap.size w w' := by
  obtain ⟨q0, q1, q2⟩ := three_nwD w (.int .i64 3) (.int .i64 n) (.string ⟨#[]⟩) (t := 34)
  have b := (Below.refl w.heap.size w).alloc (Nat.le_refl _) (.cells #[.int .i64 3, .int .i64 n, .string ⟨#[]⟩] 34)
  go_enter Try.func27, Try.ntmps27
  go_wp2_with fail
  exact bodyPost_ret (v := .agg #[.int .i64 3, .int .i64 n, .string ⟨#[]⟩]) (by simp [results, Try.results27, go_sem, q0, q1, q2]) rfl ⟨rfl, b⟩
set_option maxRecDepth 100000 in
theorem put14_at (n : ByteArray) (w : World) : Calls Try.prog 26 #[.string n] w fun y w' => y = .returned (.agg #[.int .i64 2, .int .i64 0, .string n]) ∧ Below w.heap.size w w' := by
  obtain ⟨q0, q1, q2⟩ := three_nwD w (.int .i64 2) (.int .i64 0) (.string n) (t := 34)
  have b := (Below.refl w.heap.size w).alloc (Nat.le_refl _) (.cells #[.int .i64 2, .int .i64 0, .string n] 34)
  go_enter Try.func26, Try.ntmps26
  go_wp2_with fail
  exact bodyPost_ret (v := .agg #[.int .i64 2, .int .i64 0, .string n]) (by simp [results, Try.results26, go_sem, q0, q1, q2]) rfl ⟨rfl, b⟩
theorem lit_isO (X : World) (ds : List Dop) (cs : Array Value) (h : cs.toList = opsV ds) : IsO (X.alloc (.cells cs 34)) (some ⟨X.heap.size, 0, none⟩) ds := by
  refine Or.inr ⟨_, _, rfl, by simp, fun k hk => ?_⟩
  have f : ∀ j, (X.alloc (.cells cs 34)).cell? ⟨X.heap.size, j, none⟩ = cs[j]? := fun j => World.cell?_alloc_mark X _ _ (0, 0) j
  have g : ∀ j, j < 3 → cs[k * 3 + j]? = (opL (ds.getD k opZ))[j]? := fun j hj => by
    rw [← opsV_get ds k j hk hj, ← h, Array.getElem?_toList]
  refine ⟨?_, ?_, ?_⟩
  · rw [Nat.zero_add, f]; exact g 0 (by decide)
  · rw [Nat.zero_add, f]; exact g 1 (by decide)
  · rw [Nat.zero_add, f]; exact g 2 (by decide)
def exC14 : List Dop := [⟨1, 2, []⟩, ⟨2, 0, [122]⟩, ⟨1, 4, []⟩]
def exX14 : List Dop := [⟨1, 2, []⟩, ⟨2, 0, [122]⟩, ⟨1, 5, []⟩]
def exY14 : List Dop := [⟨1, 4, []⟩, ⟨2, 0, [122]⟩, ⟨1, 3, []⟩]
theorem ex14_t : ovE exD exC14 true = 0 ∧ ovD exD exC14 true = exX14 := by decide
theorem ex14_f : ovE exD exC14 false = 0 ∧ ovD exD exC14 false = exY14 := by decide
theorem ex14_l : plE exD 3 1 = 0 ∧ plV exD 3 1 = 2 := by decide
theorem ex14_r : plE exD 3 2 = 0 ∧ plV exD 3 2 = 4 := by decide
theorem ex14_b : (∀ o ∈ exX14, TbD o) ∧ (∀ o ∈ exY14, TbD o) := by unfold TbD; decide
theorem OverO_at (a : Option Addr) (c : Nat) (d : List Dop) (a' : Option Addr) (c' : Nat) (e : List Dop) (f : Bool) (w : World) (h : IsO w a d ∧ d.length ≤ c) (h' : IsO w a' e ∧ e.length ≤ c') (ht : ∀ o ∈ d, o.t.length ≤ 140737488355328) (hl : d.length ≤ 4611686018427387904) (hl' : e.length ≤ 4611686018427387904) :
    Calls Try.prog 30 #[.slice a d.length c, .slice a' e.length c', .bool f] w fun y w' => ∃ a2 c2, y = .returned (.tuple #[.slice a2 (ovD d e f).length c2, .int .i64 (ovE d e f)]) ∧ (IsO w' a2 (ovD d e f) ∧ (ovD d e f).length ≤ c2) ∧ Below w.heap.size w w' :=
  (Over_at a c d a' c' e f w h.1 h'.1 h.2 h'.2 ht hl hl').mono fun y w' ⟨v, e, ho, x⟩ => by
    obtain ⟨a', c', rfl, hi, hc⟩ := own_isOC ho
    exact ⟨a', c', e, ⟨hi, hc⟩, x⟩
set_option maxRecDepth 100000 in
set_option maxHeartbeats 4000000 in
theorem fixed14_at (w0 : World) : Calls Try.prog 24 #[] w0 fun y w' => y = .returned (.bool true) ∧ Below w0.heap.size w0 w' := by
  have HX0 := hide (Below.refl w0.heap.size w0)
  have HK2 := hide fun (X : World) (_ : Below w0.heap.size w0 X) => keep14_at 2 X
  have HK3 := hide fun (X : World) (_ : Below w0.heap.size w0 X) => keep14_at 3 X
  have HK4 := hide fun (X : World) (_ : Below w0.heap.size w0 X) => keep14_at 4 X
  have HK5 := hide fun (X : World) (_ : Below w0.heap.size w0 X) => keep14_at 5 X
  have HD1 := hide fun (X : World) (_ : Below w0.heap.size w0 X) => drop14_at 1 X
  have HPX := hide fun (X : World) (_ : Below w0.heap.size w0 X) => put14_at ⟨#[120, 121]⟩ X
  have HPZ := hide fun (X : World) (_ : Below w0.heap.size w0 X) => put14_at ⟨#[122]⟩ X
  have HOT := hide fun (X : World) (_ : Below w0.heap.size w0 X) (a3 a4 : Option Addr) (h3 : IsO X a3 exD) (h4 : IsO X a4 exC14) => OverO_at a3 4 exD a4 3 exC14 true X ⟨h3, Nat.le_refl _⟩ ⟨h4, Nat.le_refl _⟩ (by decide) (by decide) (by decide)
  have HOF := hide fun (X : World) (_ : Below w0.heap.size w0 X) (a3 a4 : Option Addr) (h3 : IsO X a3 exD) (h4 : IsO X a4 exC14) => OverO_at a3 4 exD a4 3 exC14 false X ⟨h3, Nat.le_refl _⟩ ⟨h4, Nat.le_refl _⟩ (by decide) (by decide) (by decide)
  rw [ex14_t.1, ex14_t.2] at HOT
  rw [ex14_f.1, ex14_f.2] at HOF
  have HPL := hide fun (X : World) (_ : Below w0.heap.size w0 X) (a3 : Option Addr) (h3 : IsO X a3 exD) => Place_at a3 4 exD 3 1 X h3 (by decide)
  have HPR := hide fun (X : World) (_ : Below w0.heap.size w0 X) (a3 : Option Addr) (h3 : IsO X a3 exD) => Place_at a3 4 exD 3 2 X h3 (by decide)
  rw [ex14_l.1, ex14_l.2] at HPL
  rw [ex14_r.1, ex14_r.2] at HPR
  have HSX := hide fun (X : World) (a3 : Option Addr) (c3 : Nat) (a4 : Option Addr) (h3 : IsO X a3 exX14) (h4 : IsO X a4 exX14) => RSame14_at a3 c3 exX14 a4 3 exX14 X h3 h4 (by decide) (by decide) ex14_b.1 ex14_b.1
  have HSY := hide fun (X : World) (a3 : Option Addr) (c3 : Nat) (a4 : Option Addr) (h3 : IsO X a3 exY14) (h4 : IsO X a4 exY14) => RSame14_at a3 c3 exY14 a4 3 exY14 X h3 h4 (by decide) (by decide) ex14_b.2 ex14_b.2
  simp only [decide_true] at HSX HSY
  simp only [show exD.length = 4 from rfl, show exC14.length = 3 from rfl, show exX14.length = 3 from rfl, show exY14.length = 3 from rfl] at HOT HOF HPL HPR HSX HSY
  go_enter Try.func24, Try.ntmps24
  have HC1 := hide (unhide HK2 w0 (unhide HX0))
  go_wp2_with fail
  refine (unhide HC1).mono ?_
  rintro y w1 ⟨rfl, x1⟩
  dsimp only
  have HX1 := hide ((unhide HX0).trans (x1.mono (unhide HX0).size))
  clear HC1 HX0 x1  
  have HC2 := hide (unhide HPX w1 (unhide HX1))
  go_wp2_with fail
  refine (unhide HC2).mono ?_
  rintro y w2 ⟨rfl, x2⟩
  dsimp only
  have HX2 := hide ((unhide HX1).trans (x2.mono (unhide HX1).size))
  clear HC2 HX1 x2  HPX
  have HC3 := hide (unhide HD1 w2 (unhide HX2))
  go_wp2_with fail
  refine (unhide HC3).mono ?_
  rintro y w3 ⟨rfl, x3⟩
  dsimp only
  have HX3 := hide ((unhide HX2).trans (x3.mono (unhide HX2).size))
  clear HC3 HX2 x3  HD1
  have HC4 := hide (unhide HK3 w3 (unhide HX3))
  go_wp2_with fail
  refine (unhide HC4).mono ?_
  rintro y w4 ⟨rfl, x4⟩
  dsimp only
  have HX4 := hide ((unhide HX3).trans (x4.mono (unhide HX3).size))
  clear HC4 HX3 x4  
  have l5 := lit_isO w4 exD #[.int .i64 1, .int .i64 2, .string ⟨#[]⟩, .int .i64 2, .int .i64 0, .string ⟨#[120, 121]⟩, .int .i64 3, .int .i64 1, .string ⟨#[]⟩, .int .i64 1, .int .i64 3, .string ⟨#[]⟩] rfl
  have b5 := (Below.refl w4.heap.size w4).alloc (Nat.le_refl _) (.cells #[.int .i64 1, .int .i64 2, .string ⟨#[]⟩, .int .i64 2, .int .i64 0, .string ⟨#[120, 121]⟩, .int .i64 3, .int .i64 1, .string ⟨#[]⟩, .int .i64 1, .int .i64 3, .string ⟨#[]⟩] 34)
  have HX5 := hide ((unhide HX4).trans (b5.mono (unhide HX4).size))
  have A_5 := hide l5
  clear l5 b5 HX4 
  go_upto_region 2 with fail
  generalize w4.alloc (.cells #[.int .i64 1, .int .i64 2, .string ⟨#[]⟩, .int .i64 2, .int .i64 0, .string ⟨#[120, 121]⟩, .int .i64 3, .int .i64 1, .string ⟨#[]⟩, .int .i64 1, .int .i64 3, .string ⟨#[]⟩] 34) = w5 at *
  generalize w4.heap.size = gA at *
  have HC6 := hide (unhide HK2 w5 (unhide HX5))
  go_wp2_with fail
  refine (unhide HC6).mono ?_
  rintro y w6 ⟨rfl, x6⟩
  dsimp only
  have HX6 := hide ((unhide HX5).trans (x6.mono (unhide HX5).size))
  have A_6 := hide ((unhide A_5).below x6 (Nat.le_refl _))
  clear HC6 HX5 x6 A_5 
  have HC7 := hide (unhide HPZ w6 (unhide HX6))
  go_wp2_with fail
  refine (unhide HC7).mono ?_
  rintro y w7 ⟨rfl, x7⟩
  dsimp only
  have HX7 := hide ((unhide HX6).trans (x7.mono (unhide HX6).size))
  have A_7 := hide ((unhide A_6).below x7 (Nat.le_refl _))
  clear HC7 HX6 x7 A_6 
  have HC8 := hide (unhide HK4 w7 (unhide HX7))
  go_wp2_with fail
  refine (unhide HC8).mono ?_
  rintro y w8 ⟨rfl, x8⟩
  dsimp only
  have HX8 := hide ((unhide HX7).trans (x8.mono (unhide HX7).size))
  have A_8 := hide ((unhide A_7).below x8 (Nat.le_refl _))
  clear HC8 HX7 x8 A_7 
  have l9 := lit_isO w8 exC14 #[.int .i64 1, .int .i64 2, .string ⟨#[]⟩, .int .i64 2, .int .i64 0, .string ⟨#[122]⟩, .int .i64 1, .int .i64 4, .string ⟨#[]⟩] rfl
  have b9 := (Below.refl w8.heap.size w8).alloc (Nat.le_refl _) (.cells #[.int .i64 1, .int .i64 2, .string ⟨#[]⟩, .int .i64 2, .int .i64 0, .string ⟨#[122]⟩, .int .i64 1, .int .i64 4, .string ⟨#[]⟩] 34)
  have HX9 := hide ((unhide HX8).trans (b9.mono (unhide HX8).size))
  have A_9 := hide ((unhide A_8).below b9 (Nat.le_refl _))
  have C_9 := hide l9
  clear l9 b9 HX8 A_8
  go_upto_region 3 with fail
  generalize w8.alloc (.cells #[.int .i64 1, .int .i64 2, .string ⟨#[]⟩, .int .i64 2, .int .i64 0, .string ⟨#[122]⟩, .int .i64 1, .int .i64 4, .string ⟨#[]⟩] 34) = w9 at *
  generalize w8.heap.size = gC at *
  have HC10 := hide (unhide HOT w9 (unhide HX9) (some ⟨gA, 0, none⟩) (some ⟨gC, 0, none⟩) (unhide A_9) (unhide C_9))
  go_wp2_with fail
  refine (unhide HC10).mono ?_
  rintro y w10 ⟨aT, cT, rfl, ⟨iT, lT⟩, x10⟩
  dsimp only
  have HX10 := hide ((unhide HX9).trans (x10.mono (unhide HX9).size))
  have A_10 := hide ((unhide A_9).below x10 (Nat.le_refl _))
  have C_10 := hide ((unhide C_9).below x10 (Nat.le_refl _))
  have T_10 := hide (iT)
  clear HC10 HX9 x10 A_9 C_9 HOT iT
  have HC11 := hide (unhide HOF w10 (unhide HX10) (some ⟨gA, 0, none⟩) (some ⟨gC, 0, none⟩) (unhide A_10) (unhide C_10))
  go_wp2_with fail
  refine (unhide HC11).mono ?_
  rintro y w11 ⟨aF, cF, rfl, ⟨iF, lF⟩, x11⟩
  dsimp only
  have HX11 := hide ((unhide HX10).trans (x11.mono (unhide HX10).size))
  have A_11 := hide ((unhide A_10).below x11 (Nat.le_refl _))
  have C_11 := hide ((unhide C_10).below x11 (Nat.le_refl _))
  have T_11 := hide ((unhide T_10).below x11 (Nat.le_refl _))
  have F_11 := hide (iF)
  clear HC11 HX10 x11 A_10 C_10 T_10 HOF iF
  clear C_11
  have HC12 := hide (unhide HPL w11 (unhide HX11) (some ⟨gA, 0, none⟩) (unhide A_11))
  go_wp2_with fail
  refine (unhide HC12).mono ?_
  rintro y w12 ⟨rfl, x12⟩
  dsimp only
  have HX12 := hide ((unhide HX11).trans (x12.mono (unhide HX11).size))
  have A_12 := hide ((unhide A_11).below x12 (Nat.le_refl _))
  have T_12 := hide ((unhide T_11).below x12 (Nat.le_refl _))
  have F_12 := hide ((unhide F_11).below x12 (Nat.le_refl _))
  clear HC12 HX11 x12 A_11 T_11 F_11 HPL
  have HC13 := hide (unhide HPR w12 (unhide HX12) (some ⟨gA, 0, none⟩) (unhide A_12))
  go_wp2_with fail
  refine (unhide HC13).mono ?_
  rintro y w13 ⟨rfl, x13⟩
  dsimp only
  have HX13 := hide ((unhide HX12).trans (x13.mono (unhide HX12).size))
  have A_13 := hide ((unhide A_12).below x13 (Nat.le_refl _))
  have T_13 := hide ((unhide T_12).below x13 (Nat.le_refl _))
  have F_13 := hide ((unhide F_12).below x13 (Nat.le_refl _))
  clear HC13 HX12 x13 A_12 T_12 F_12 HPR
  clear A_13
  have HC14 := hide (unhide HK2 w13 (unhide HX13))
  go_wp2_with fail
  refine (unhide HC14).mono ?_
  rintro y w14 ⟨rfl, x14⟩
  dsimp only
  have HX14 := hide ((unhide HX13).trans (x14.mono (unhide HX13).size))
  have T_14 := hide ((unhide T_13).below x14 (Nat.le_refl _))
  have F_14 := hide ((unhide F_13).below x14 (Nat.le_refl _))
  clear HC14 HX13 x14 T_13 F_13 
  have HC15 := hide (unhide HPZ w14 (unhide HX14))
  go_wp2_with fail
  refine (unhide HC15).mono ?_
  rintro y w15 ⟨rfl, x15⟩
  dsimp only
  have HX15 := hide ((unhide HX14).trans (x15.mono (unhide HX14).size))
  have T_15 := hide ((unhide T_14).below x15 (Nat.le_refl _))
  have F_15 := hide ((unhide F_14).below x15 (Nat.le_refl _))
  clear HC15 HX14 x15 T_14 F_14 
  have HC16 := hide (unhide HK5 w15 (unhide HX15))
  go_wp2_with fail
  refine (unhide HC16).mono ?_
  rintro y w16 ⟨rfl, x16⟩
  dsimp only
  have HX16 := hide ((unhide HX15).trans (x16.mono (unhide HX15).size))
  have T_16 := hide ((unhide T_15).below x16 (Nat.le_refl _))
  have F_16 := hide ((unhide F_15).below x16 (Nat.le_refl _))
  clear HC16 HX15 x16 T_15 F_15 
  have l17 := lit_isO w16 exX14 #[.int .i64 1, .int .i64 2, .string ⟨#[]⟩, .int .i64 2, .int .i64 0, .string ⟨#[122]⟩, .int .i64 1, .int .i64 5, .string ⟨#[]⟩] rfl
  have b17 := (Below.refl w16.heap.size w16).alloc (Nat.le_refl _) (.cells #[.int .i64 1, .int .i64 2, .string ⟨#[]⟩, .int .i64 2, .int .i64 0, .string ⟨#[122]⟩, .int .i64 1, .int .i64 5, .string ⟨#[]⟩] 34)
  have HC := hide (unhide HSX _ aT cT (some ⟨w16.heap.size, 0, none⟩) ((unhide T_16).below b17 (Nat.le_refl _)) l17)
  have HXa := hide ((unhide HX16).trans (b17.mono (unhide HX16).size))
  have Fa := hide ((unhide F_16).below b17 (Nat.le_refl _))
  clear l17 b17 HX16 T_16 F_16
  generalize hv17 : w16.alloc (.cells #[.int .i64 1, .int .i64 2, .string ⟨#[]⟩, .int .i64 2, .int .i64 0, .string ⟨#[122]⟩, .int .i64 1, .int .i64 5, .string ⟨#[]⟩] 34) = v17 at *
  go_wp2_with fail
  clear hv17
  refine (unhide HC).mono ?_
  rintro yy w17 ⟨rfl, x17⟩
  dsimp only
  have HX17 := hide ((unhide HXa).trans (x17.mono (unhide HXa).size))
  have F_17 := hide ((unhide Fa).below x17 (Nat.le_refl _))
  clear HC HXa x17 HSX Fa
  have HC18 := hide (unhide HK4 w17 (unhide HX17))
  go_wp2_with fail
  refine (unhide HC18).mono ?_
  rintro y w18 ⟨rfl, x18⟩
  dsimp only
  have HX18 := hide ((unhide HX17).trans (x18.mono (unhide HX17).size))
  have F_18 := hide ((unhide F_17).below x18 (Nat.le_refl _))
  clear HC18 HX17 x18 F_17 
  have HC19 := hide (unhide HPZ w18 (unhide HX18))
  go_wp2_with fail
  refine (unhide HC19).mono ?_
  rintro y w19 ⟨rfl, x19⟩
  dsimp only
  have HX19 := hide ((unhide HX18).trans (x19.mono (unhide HX18).size))
  have F_19 := hide ((unhide F_18).below x19 (Nat.le_refl _))
  clear HC19 HX18 x19 F_18 
  have HC20 := hide (unhide HK3 w19 (unhide HX19))
  go_wp2_with fail
  refine (unhide HC20).mono ?_
  rintro y w20 ⟨rfl, x20⟩
  dsimp only
  have HX20 := hide ((unhide HX19).trans (x20.mono (unhide HX19).size))
  have F_20 := hide ((unhide F_19).below x20 (Nat.le_refl _))
  clear HC20 HX19 x20 F_19 
  have l21 := lit_isO w20 exY14 #[.int .i64 1, .int .i64 4, .string ⟨#[]⟩, .int .i64 2, .int .i64 0, .string ⟨#[122]⟩, .int .i64 1, .int .i64 3, .string ⟨#[]⟩] rfl
  have b21 := (Below.refl w20.heap.size w20).alloc (Nat.le_refl _) (.cells #[.int .i64 1, .int .i64 4, .string ⟨#[]⟩, .int .i64 2, .int .i64 0, .string ⟨#[122]⟩, .int .i64 1, .int .i64 3, .string ⟨#[]⟩] 34)
  have HC := hide (unhide HSY _ aF cF (some ⟨w20.heap.size, 0, none⟩) ((unhide F_20).below b21 (Nat.le_refl _)) l21)
  have HXa := hide ((unhide HX20).trans (b21.mono (unhide HX20).size))
  clear l21 b21 HX20 F_20 
  generalize hv21 : w20.alloc (.cells #[.int .i64 1, .int .i64 4, .string ⟨#[]⟩, .int .i64 2, .int .i64 0, .string ⟨#[122]⟩, .int .i64 1, .int .i64 3, .string ⟨#[]⟩] 34) = v21 at *
  go_wp2_with fail
  clear hv21
  refine (unhide HC).mono ?_
  rintro yy w21 ⟨rfl, x21⟩
  dsimp only
  have HX21 := hide ((unhide HXa).trans (x21.mono (unhide HXa).size))
  clear HC HXa x21 HSY 
  go_wp2_with fail
  refine bodyPost_ret (results_tmp rfl _ _ _) rfl ⟨rfl, unhide HX21⟩

end Go.Proofs.Ytjjdgfjlpkhgcaa
end

section
namespace Go.Proofs.Ytjjdgfjlpkhgcaa
open Go.ChangeShapes Go.WideShapes Go.ChangeAt Go.RowKit
attribute [local go_sem] Oper.semAt_some

def boE (d e : List Dop) : Int := if ovE e d true = 0 then ovE d e false else ovE e d true
def boA (d e : List Dop) : List Dop := if boE d e = 0 then ovD e d true else []
def boB (d e : List Dop) : List Dop := if boE d e = 0 then ovD d e false else []
set_option maxRecDepth 100000 in
set_option maxHeartbeats 4000000 in
theorem Both_at (a : Option Addr) (c : Nat) (d : List Dop) (a' : Option Addr) (c' : Nat) (e : List Dop) (w : World) (h : IsO w a d ∧ d.length ≤ c) (h' : IsO w a' e ∧ e.length ≤ c') (ht : ∀ o ∈ d, o.t.length ≤ 140737488355328) (ht' : ∀ o ∈ e, o.t.length ≤ 140737488355328) (hl : d.length ≤ 4611686018427387904) (hl' : e.length ≤ 4611686018427387904) :
    Calls Try.prog 29 #[.slice a d.length c, .slice a' e.length c'] w fun y w' => ∃ a2 c2 a3 c3, y = .returned (.tuple #[.slice a2 (boA d e).length c2, .slice a3 (boB d e).length c3, .int .i64 (boE d e)]) ∧ (IsO w' a2 (boA d e) ∧ (boA d e).length ≤ c2) ∧ (IsO w' a3 (boB d e) ∧ (boB d e).length ≤ c3) ∧ Below w.heap.size w w' := by
  have H1 := hide (OverO_at a' c' e a c d true w h' h ht' hl' hl)
  have H2 := hide fun (X : World) (hX : Below w.heap.size w X) => OverO_at a c d a' c' e false X ⟨h.1.below hX (Nat.le_refl _), h.2⟩ ⟨h'.1.below hX (Nat.le_refl _), h'.2⟩ ht hl hl'
  obtain ⟨E1, hE1⟩ : ∃ E1, E1 = ovE e d true := ⟨_, rfl⟩
  obtain ⟨E2, hE2⟩ : ∃ E2, E2 = ovE d e false := ⟨_, rfl⟩
  obtain ⟨L1, hL1⟩ : ∃ L1, L1 = ovD e d true := ⟨_, rfl⟩
  obtain ⟨L2, hL2⟩ : ∃ L2, L2 = ovD d e false := ⟨_, rfl⟩
  have hbE : boE d e = if E1 = 0 then E2 else E1 := by unfold boE; rw [hE1, hE2]
  have hbA : boA d e = if (if E1 = 0 then E2 else E1) = 0 then L1 else [] := by unfold boA; rw [hbE, hL1]
  have hbB : boB d e = if (if E1 = 0 then E2 else E1) = 0 then L2 else [] := by unfold boB; rw [hbE, hL2]
  rw [hbE, hbA, hbB]
  rw [← hE1, ← hL1] at H1
  rw [← hE2, ← hL2] at H2
  clear h h' ht ht' hl hl' hE1 hE2 hL1 hL2 hbE hbA hbB
  by_cases e1 : E1 = 0
  · subst e1
    simp only [if_true]
    by_cases e2 : E2 = 0
    · subst e2
      simp only [if_true]
      go_enter Try.func29, Try.ntmps29
      go_wp2_with fail
      refine (unhide H1).mono ?_
      rintro y w1 ⟨a2, c2, rfl, i2, x1⟩
      dsimp only
      have HX1 := hide x1
      have HI := hide i2
      have HC := hide (unhide H2 w1 x1)
      clear H1 H2 i2 x1
      go_wp2_with fail
      refine (unhide HC).mono ?_
      rintro y w2 ⟨a3, c3, rfl, i3, x2⟩
      dsimp only
      have HI2 := hide (And.intro (And.intro ((unhide HI).1.below x2 (Nat.le_refl _)) (unhide HI).2) i3)
      have HX2 := hide ((unhide HX1).trans (x2.mono (unhide HX1).size))
      clear HC HI HX1 i3 x2
      go_wp2_with fail
      refine bodyPost_ret (results_tmp3 rfl _ _) rfl ⟨_, _, _, _, rfl, (unhide HI2).1, (unhide HI2).2, unhide HX2⟩
    · have t2 : (E2 != 0) = true := by simpa using e2
      have t2' : (E2 == 0) = false := by simpa using e2
      rw [if_neg e2, if_neg e2]
      go_enter Try.func29, Try.ntmps29
      go_wp2_with fail
      refine (unhide H1).mono ?_
      rintro y w1 ⟨a2, c2, rfl, _, x1⟩
      dsimp only
      have HX1 := hide x1
      have HC := hide (unhide H2 w1 x1)
      clear H1 H2 x1
      go_wp2_with fail
      refine (unhide HC).mono ?_
      rintro y w2 ⟨a3, c3, rfl, _, x2⟩
      dsimp only
      have HX2 := hide ((unhide HX1).trans (x2.mono (unhide HX1).size))
      clear HC HX1 x2 e2
      go_wp2_with fail
      refine bodyPost_ret (results_tmp3 rfl _ _) rfl ⟨none, 0, none, 0, rfl, ⟨.inl rfl, by simp⟩, ⟨.inl rfl, by simp⟩, unhide HX2⟩
  · have t1 : (E1 != 0) = true := by simpa using e1
    have t1' : (E1 == 0) = false := by simpa using e1
    rw [if_neg e1, if_neg e1, if_neg e1]
    go_enter Try.func29, Try.ntmps29
    go_wp2_with fail
    refine (unhide H1).mono ?_
    rintro y w1 ⟨a2, c2, rfl, _, x1⟩
    dsimp only
    have HX1 := hide x1
    clear H1 H2 x1 e1
    go_wp2_with fail
    refine bodyPost_ret (results_tmp3 rfl _ _) rfl ⟨none, 0, none, 0, rfl, ⟨.inl rfl, by simp⟩, ⟨.inl rfl, by simp⟩, unhide HX1⟩
/-- what Over answers where all is well -/
structure OvK (d e : List Dop) (f : Bool) : Prop where
  v1 : valB d = true
  v2 : valB e = true
  q : frD d = frD e
  l : toA (ovA f (dA d) (dA e)) ≤ 268435456
  c : ovD d e f = canA (ovA f (dA d) (dA e))
  v : valB (ovD d e f) = true
  fr : frD (ovD d e f) = toD d
  tt : toD (ovD d e f) = toA (ovA f (dA d) (dA e))
  a : dA (ovD d e f) = nfA (ovA f (dA d) (dA e))
theorem ov_ok {d e : List Dop} {f : Bool} (h : ovE d e f = 0) : OvK d e f := by
  have hd : ovD d e f = canA (ovA f (dA d) (dA e)) := by unfold ovD; rw [if_pos h]
  unfold ovE at h
  split at h
  · rename_i hv
    have hv1 : valB d = true := by revert hv; cases valB d <;> simp
    have hv2 : valB e = true := by revert hv; cases valB e <;> simp
    split at h
    · rename_i hf
      split at h
      · cases h
      · rename_i hl
        have q : frA (dA d) = frA (dA e) := by rw [(frA_dA (valB_k hv1)).1, (frA_dA (valB_k hv2)).1, hf]
        have hfr := ov_fr f _ (dA d) (dA e) (Nat.le_refl _) q
        rw [(frA_dA (valB_k hv1)).2] at hfr
        have h1 := (valB_nn hv1).2.2
        obtain ⟨c1, c2, c3, c4⟩ := canA_val (u := ovA f (dA d) (dA e)) (by omega) (by omega)
        exact ⟨hv1, hv2, hf, by omega, hd, by rw [hd]; exact c1, by rw [hd, c2]; exact hfr, by rw [hd]; exact c3, by rw [hd]; exact c4⟩
    · cases h
  · cases h
theorem bo_ok {d e : List Dop} (h : boE d e = 0) : OvK e d true ∧ OvK d e false ∧ boA d e = ovD e d true ∧ boB d e = ovD d e false := by
  have hA : boA d e = ovD e d true := by unfold boA; rw [if_pos h]
  have hB : boB d e = ovD d e false := by unfold boB; rw [if_pos h]
  unfold boE at h
  split at h
  · rename_i h1
    exact ⟨ov_ok h1, ov_ok h, hA, hB⟩
  · rename_i h1
    exact absurd h h1
/-- both orders make one delta -/
theorem bo_meet {d e : List Dop} (h : boE d e = 0) : TwoD d (boB d e) ∧ TwoD e (boA d e) ∧ cmD d (boB d e) = cmD e (boA d e) := by
  obtain ⟨o1, o2, eA, eB⟩ := bo_ok h
  rw [eA, eB]
  have t1 := two_ok o2.v1 o2.v o2.fr.symm
  have t2 := two_ok o1.v1 o1.v o1.fr.symm
  refine ⟨t1, t2, ?_⟩
  rw [t1.d, t2.d]
  refine canA_congr ?_
  rw [o2.a, o1.a, cmp_nf_right, cmp_nf_right]
  exact ov_meet _ _ _ (Nat.le_refl _) (by rw [(frA_dA (valB_k o2.v1)).1, (frA_dA (valB_k o2.v2)).1, o2.q])

end Go.Proofs.Ytjjdgfjlpkhgcaa
end
