/- SeekOwn' walk (written by wip/tools/sre.py). -/
import Derived.Test.YteamaneompijkaaGreatDoorSo46
namespace Go.Proofs.YteamaneompijkaaGreatDoor
open Go.ChangeShapes Go.WideShapes Go.ChangeAt Go.RowKit
set_option maxRecDepth 100000
set_option maxHeartbeats 8000000
attribute [local go_sem] Oper.semAt_some
theorem fldW10 (a b c d e f : Value) (w : World) : (Instr.field 47 (.agg #[a, b, c, d, e, f]) 0).run Tryz.prog w = .ok (.agg #[a, b, c, d]) w := by kernel_rfl
theorem fldR10 (a b c d : Value) (w : World) : (Instr.field 45 (.agg #[a, b, c, d]) 1).run Tryz.prog w = .ok b w := by kernel_rfl
attribute [local go_sem] fldW10 fldR10
theorem SeekOwn_any (a0 : Option Addr) (cap : Nat) (ls : List (List Int)) (pl ln cl fr tr mo : Int) (w : World) (h : IsNN w a0 ls) (hs : bulkL ls + ls.length ≤ 1048576) (_hk : AskW pl ln cl fr tr mo) (hW : Wt w) :
    Calls Tryz.prog 5 #[.slice a0 ls.length cap, .agg #[.int .i64 pl, .int .i64 ln, .int .i64 cl, .int .i64 fr, .int .i64 tr, .int .i64 mo]] w fun y w' => y = .returned (.bool true) ∧ Below w.heap.size w w' := by
  have hfl : ls.flatten.length ≤ 1048576 := by rw [show ls.flatten.length = bulkL ls by simp [bulkL, List.length_flatten]]; omega
  have hll : ls.length ≤ 1048576 := by omega
  have HW := hide fun (X : World) (hx : Below w.heap.size w X) => hW.below hx
  have HP := hide fun (X : World) (hx : Below w.heap.size w X) => h.below hx (Nat.le_refl _)
  have HLS := hide (And.intro hfl hll)
  have b0 := (Below.refl w.heap.size w).alloc (Nat.le_refl _) (.cells #[.int .i64 pl, .int .i64 ln, .int .i64 cl, .int .i64 fr, .int .i64 tr, .int .i64 mo] 28)
  have kA := Cls.new w 28 #[.int .i64 pl, .int .i64 ln, .int .i64 cl, .int .i64 fr, .int .i64 tr, .int .i64 mo]
  clear h hs hW hfl hll _hk
  go_enter Tryz.func5, Tryz.ntmps5
  go_upto_region 1 with fail
  generalize hgA : w.heap.size = gA at kA ⊢
  clear hgA
  generalize w.alloc (.cells #[.int .i64 pl, .int .i64 ln, .int .i64 cl, .int .i64 fr, .int .i64 tr, .int .i64 mo] 28) = w0 at *
  have HSA := hide fun (X : World) (hx : Below w0.heap.size w0 X) => cls6 (kA.below hx kA.lt)
  clear kA
  go_wp2_with fail
  refine (awake10_at w0 (unhide HW w0 b0)).mono ?_
  rintro y w1 ⟨rfl, x1⟩
  dsimp only
  have X1 := b0.trans (x1.mono b0.size)
  have HJ := hide (Joined10_at a0 cap ls w1 (unhide HP w1 X1) (by have := unhide HLS; omega) (by have := unhide HLS; omega))
  go_wp2_with fail
  refine (unhide HJ).mono ?_
  rintro y w2 ⟨v, rfl, ho, x2⟩
  dsimp only
  have X2 := X1.trans (x2.mono X1.size)
  have Y2 := x1.trans (x2.mono x1.size)
  have hyb : ∀ x ∈ ls.flatten, 0 ≤ x ∧ x ≤ 255 := by
    intro x hx
    obtain ⟨l, hl, hxl⟩ := List.mem_flatten.1 hx
    obtain ⟨k, hk, rfl⟩ := List.mem_iff_getElem.1 hl
    rcases unhide HP w (Below.refl _ _) with hnil | ⟨ga, off, _, _, hrow⟩
    · rw [hnil] at hk; exact absurd hk (Nat.not_lt_zero _)
    · obtain ⟨A, C, _, hN⟩ := hrow k hk
      have e : ls.getD k [] = ls[k] := by rw [List.getD_eq_getElem?_getD, List.getElem?_eq_getElem hk]; rfl
      rw [e] at hN
      exact hN.1.2.2.2 x hxl
  obtain ⟨ba, bc, rfl, hN2⟩ := own_isNS ho hyb (by have := unhide HLS; omega)
  clear HJ ho x1 x2
  obtain ⟨T, hT⟩ : ∃ T, T = ls.flatten := ⟨_, rfl⟩
  obtain ⟨N, hN⟩ : ∃ N, N = T.length := ⟨_, rfl⟩
  rw [← hT] at hN2 hyb
  rw [← hT, ← hN]
  have hN20 : T.length ≤ 1048576 := by have := unhide HLS; rw [hT]; exact this.1
  have HLa := hide (Large10_at ba N bc w2 (by omega))
  have HI2 := hide hN2
  have HTT := hide (And.intro hT (And.intro hN hN20))
  clear hN2 hyb hT hN hN20 X1
  go_wp2_with fail
  refine (unhide HLa).mono ?_
  rintro y w3 ⟨rfl, x3⟩
  dsimp only
  have X3 := X2.trans (x3.mono X2.size)
  have Y3 := Y2.trans (x3.mono Y2.size)
  by_cases hlg : 400 < N
  · have d1 : decide (400 < N) = true := decide_eq_true hlg
    rw [d1]
    go_wp2_with fail
    go_ret
    exact ⟨rfl, X3⟩
  · have d1 : decide (400 < N) = false := decide_eq_false hlg
    rw [d1]
    have HRo := hide (Rope10_at a0 cap ls w3 (unhide HP w3 X3) (by have := unhide HLS; omega) (by have := unhide HLS; omega) (unhide HW w3 X3))
    have HNM := hide hlg
    clear HLa d1 hlg X2 Y2
    go_wp2_with fail
    refine (unhide HRo).mono ?_
    rintro y w4 ⟨g, o, rfl, hr, ht, x4⟩
    dsimp only
    have X4 := X3.trans (x4.mono X3.size)
    have Y4 := Y3.trans (x4.mono Y3.size)
    have hI4 := ((unhide HI2).below x3 (Nat.le_refl _)).below x4 (Nat.le_refl _)
    clear HRo x3 x4 HI2 X3 Y3
    have hto : txtO o = T := by rw [ht, (unhide HTT).1]
    have HSW := hide fun (X : World) (hx : Below w4.heap.size w4 X) => unhide HSA X (Y4.trans (hx.mono Y4.size))
    have HAn : Hid (∀ (X : World) (pl ln cl : Int), Below w4.heap.size w4 X → Calls Tryz.prog 10 #[.pointer (some ⟨g, 0, none⟩), .slice ba N bc, .agg #[.int .i64 pl, .int .i64 ln, .int .i64 cl, .int .i64 fr, .int .i64 tr, .int .i64 mo]] X fun y w' => y = .returned (.bool true) ∧ Below X.heap.size X w') := hide fun X pl ln cl hx => by
      have := answers10_at g o ba bc T pl ln cl fr tr mo X (hr.on hx) hto (hI4.1.below hx (Nat.le_refl _)) (by have := unhide HNM; have := (unhide HTT).2.1; omega) (unhide HW X (X4.trans (hx.mono X4.size)))
      rw [← (unhide HTT).2.1] at this
      exact this
    have HC4 := hide (unhide HAn w4 pl ln cl (Below.refl _ _))
    have HX4 := hide X4
    have HRO := hide fun (X : World) (hx : Below w4.heap.size w4 X) => hr.on hx
    have HIB := hide fun (X : World) (hx : Below w4.heap.size w4 X) => hI4.1.below hx (Nat.le_refl _)
    have HTO := hide hto
    obtain ⟨c0, c1, c2, c3, c4, c5⟩ := unhide HSW w4 (Below.refl _ _)
    clear HSA Y4 hI4 hr ht hto X4
    go_wp2_with fail
    clear c0 c1 c2 c3 c4 c5
    refine (unhide HC4).mono ?_
    rintro y w5 ⟨rfl, x5⟩
    dsimp only
    have HC5 := hide (unhide HAn w5 pl ln cl x5)
    obtain ⟨c0, c1, c2, c3, c4, c5⟩ := unhide HSW w5 x5
    have HX5 := hide x5
    clear HC4 x5
    go_wp2_with fail
    clear c0 c1 c2 c3 c4 c5
    refine (unhide HC5).mono ?_
    rintro y w6 ⟨rfl, x6⟩
    dsimp only
    have X6 := (unhide HX5).trans (x6.mono (unhide HX5).size)
    have m1 : (txtO o).length ≤ 268435456 := by rw [unhide HTO]; have := (unhide HTT).2.2; omega
    have hBy := BytesR9_at g o 0 N w6 (unhide HRO w6 X6) (Nat.zero_le _) (by rw [unhide HTO, (unhide HTT).2.1]; exact Nat.le_refl _) m1
    rw [unhide HTO, List.drop_zero, (unhide HTT).2.1, Nat.sub_zero, List.take_length, ← (unhide HTT).2.1] at hBy
    have HBy := hide hBy
    have HX6 := hide X6
    clear HC5 x6 m1 hBy X6 HX5 HSW HAn
    go_wp2_with fail
    refine (unhide HBy).mono ?_
    rintro y w7 ⟨v, rfl, ho, x7⟩
    dsimp only
    have X7 := (unhide HX6).trans (x7.mono (unhide HX6).size)
    have hyb : ∀ x ∈ T, 0 ≤ x ∧ x ≤ 255 := (unhide HIB w4 (Below.refl _ _)).2.2.2
    obtain ⟨va, vc, rfl, hN7⟩ := own_isNS ho hyb (by have := (unhide HTT).2.2; omega)
    rw [← (unhide HTT).2.1]
    have k1 := str_bs w7 va vc T hN7.1.2.2.1
    have k2 := str_bs w7 ba bc T (unhide HIB w7 X7).2.2.1
    rw [← (unhide HTT).2.1] at k1 k2
    have HLe := hide (Len9_at g o w7 (unhide HRO w7 X7))
    rw [unhide HTO, ← (unhide HTT).2.1] at HLe
    have HIN := hide hN7.1
    have HX7 := hide X7
    generalize strOfNums T = ST at *
    clear HBy ho x7 hyb hN7 HX6 X7
    go_wp2_with fail
    refine (unhide HLe).mono ?_
    rintro y w8 ⟨rfl, x8⟩
    dsimp only
    have HX8 := hide ((unhide HX7).trans (x8.mono (unhide HX7).size))
    have hSt := RSteps_at va vc T w8 ((unhide HIN).below x8 (Nat.le_refl _)) (by have := unhide HNM; have := (unhide HTT).2.1; omega)
    rw [← (unhide HTT).2.1] at hSt
    have HSt := hide hSt
    clear k1 k2 HLe x8 hSt
    go_wp2_with fail
    refine (unhide HSt).mono ?_
    rintro y w9 ⟨v9, rfl, o9, x9⟩
    dsimp only
    have X9 := (unhide HX8).trans (x9.mono (unhide HX8).size)
    obtain ⟨a9, c9, rfl⟩ : ∃ a9 c9, v9 = .slice a9 (stepsL T).length c9 := by
      rcases o9.2 with ⟨rfl, h2⟩ | ⟨g9, cap9, cur9, rfl, _⟩
      · exact ⟨none, 0, by rw [h2]⟩
      · exact ⟨_, _, rfl⟩
    have hWe := Weld9_at g o w9 (unhide HRO w9 X9)
    rw [unhide HTO, weq9, show (szL T).r = ((spots T 0).length : Int) from rfl, ← stepsL_lenE T] at hWe
    have HWe := hide hWe
    have HX9 := hide X9
    generalize (stepsL T).length = M at *
    generalize (szL T).b = zb at *
    generalize (szL T).u = zu at *
    generalize (szL T).e = ze at *
    generalize strOfNums (List.take 3 T) = zh at *
    generalize strOfNums (tail3 T) = zt at *
    clear HSt o9 x9 X9 hWe
    go_wp2_with fail
    refine (unhide HWe).mono ?_
    rintro y v5 ⟨rfl, xa⟩
    dsimp only
    have HXa := hide ((unhide HX4).trans (((unhide HX9).trans (xa.mono (unhide HX9).size)).mono (unhide HX4).size))
    clear HWe xa
    go_wp2_with fail
    go_ret
    exact ⟨rfl, unhide HXa⟩
end Go.Proofs.YteamaneompijkaaGreatDoor
