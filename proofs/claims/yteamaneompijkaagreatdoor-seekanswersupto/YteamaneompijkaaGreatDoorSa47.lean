/- SeekAnswers' walk (written by wip/tools/sre.py). -/
import Derived.Test.YteamaneompijkaaGreatDoorSa46
namespace Go.Proofs.YteamaneompijkaaGreatDoor
open Go.ChangeShapes Go.WideShapes Go.ChangeAt Go.RowKit
set_option maxRecDepth 100000
set_option maxHeartbeats 8000000
attribute [local go_sem] Oper.semAt_some
theorem sr_arith {k N : Nat} (hN : N ≤ 400) (hk : k ≤ N + 3) : wrap64 ((N : Int) + 1) = (N : Int) + 1 ∧ wrap64 ((k : Int) - 1 + 1) = ((k + 1 : Nat) : Int) - 1 ∧ wrap64 (k : Int) = ((k + 1 : Nat) : Int) - 1 ∧ (k < N + 3 → decide ((k : Int) - 1 ≤ (N : Int) + 1) = true ∧ (k : Int) - 1 ≤ (N : Int) + 1) ∧ (¬ k < N + 3 → decide ((k : Int) - 1 ≤ (N : Int) + 1) = false ∧ ¬ (k : Int) - 1 ≤ (N : Int) + 1) :=
  ⟨wrap_in _ (by omega) (by omega), by rw [wrap_in _ (by omega) (by omega)]; omega, by rw [wrap_in _ (by omega) (by omega)]; omega, fun h => ⟨decide_eq_true (by omega), by omega⟩, fun h => ⟨decide_eq_false (by omega), by omega⟩⟩
theorem sr_meas {k N : Nat} (h : k < N + 3) : N + 3 - (intOf (Value.int .i64 (((k + 1 : Nat) : Int) - 1)) + 1).toNat < N + 3 - (intOf (Value.int .i64 ((k : Int) - 1)) + 1).toNat := by simp only [intOf]; omega
theorem SeekAnswers_any (a0 : Option Addr) (cap : Nat) (ls : List (List Int)) (pl ln cl fr tr mo : Int) (w : World) (h : IsNN w a0 ls) (hs : bulkL ls + ls.length ≤ 1048576) (_hk : AskW pl ln cl fr tr mo) (hW : Wt w) :
    Calls Tryz.prog 3 #[.slice a0 ls.length cap, .agg #[.int .i64 pl, .int .i64 ln, .int .i64 cl, .int .i64 fr, .int .i64 tr, .int .i64 mo]] w fun y w' => y = .returned (.bool true) ∧ Below w.heap.size w w' := by
  have hfl : ls.flatten.length ≤ 1048576 := by rw [show ls.flatten.length = bulkL ls by simp [bulkL, List.length_flatten]]; omega
  have hll : ls.length ≤ 1048576 := by omega
  have HW := hide fun (X : World) (hx : Below w.heap.size w X) => hW.below hx
  have HP := hide fun (X : World) (hx : Below w.heap.size w X) => h.below hx (Nat.le_refl _)
  have HLS := hide (And.intro hfl hll)
  have b0 := (Below.refl w.heap.size w).alloc (Nat.le_refl _) (.cells #[.int .i64 pl, .int .i64 ln, .int .i64 cl, .int .i64 fr, .int .i64 tr, .int .i64 mo] 28)
  have kA := Cls.new w 28 #[.int .i64 pl, .int .i64 ln, .int .i64 cl, .int .i64 fr, .int .i64 tr, .int .i64 mo]
  clear h hs hW hfl hll _hk
  go_enter Tryz.func3, Tryz.ntmps3
  go_upto_region 1 with fail
  generalize hgA : w.heap.size = gA at kA ⊢
  clear hgA
  generalize w.alloc (.cells #[.int .i64 pl, .int .i64 ln, .int .i64 cl, .int .i64 fr, .int .i64 tr, .int .i64 mo] 28) = w0 at *
  have HSA := hide fun (X : World) (hx : Below w0.heap.size w0 X) => cls6 (kA.below hx kA.lt)
  clear kA
  go_wp2_with fail
  refine (awake10_at w0 (unhide HW w0 b0)).mono ?_
  rintro y w1 ⟨rfl, x1⟩
  dsimp only
  have X1 := b0.trans (x1.mono b0.size)
  have HJ := hide (Joined10_at a0 cap ls w1 (unhide HP w1 X1) (by have := unhide HLS; omega) (by have := unhide HLS; omega))
  go_wp2_with fail
  refine (unhide HJ).mono ?_
  rintro y w2 ⟨v, rfl, ho, x2⟩
  dsimp only
  have X2 := X1.trans (x2.mono X1.size)
  have Y2 := x1.trans (x2.mono x1.size)
  have hyb : ∀ x ∈ ls.flatten, 0 ≤ x ∧ x ≤ 255 := by
    intro x hx
    obtain ⟨l, hl, hxl⟩ := List.mem_flatten.1 hx
    obtain ⟨k, hk, rfl⟩ := List.mem_iff_getElem.1 hl
    rcases unhide HP w (Below.refl _ _) with hnil | ⟨ga, off, _, _, hrow⟩
    · rw [hnil] at hk; exact absurd hk (Nat.not_lt_zero _)
    · obtain ⟨A, C, _, hN⟩ := hrow k hk
      have e : ls.getD k [] = ls[k] := by rw [List.getD_eq_getElem?_getD, List.getElem?_eq_getElem hk]; rfl
      rw [e] at hN
      exact hN.1.2.2.2 x hxl
  obtain ⟨ba, bc, rfl, hN2⟩ := own_isNS ho hyb (by have := unhide HLS; omega)
  clear HJ ho x1 x2
  obtain ⟨T, hT⟩ : ∃ T, T = ls.flatten := ⟨_, rfl⟩
  obtain ⟨N, hN⟩ : ∃ N, N = T.length := ⟨_, rfl⟩
  rw [← hT] at hN2 hyb
  rw [← hT, ← hN]
  have hN20 : T.length ≤ 1048576 := by have := unhide HLS; rw [hT]; exact this.1
  have HLa := hide (Large10_at ba N bc w2 (by omega))
  have HI2 := hide hN2
  have HTT := hide (And.intro hT (And.intro hN hN20))
  clear hN2 hyb hT hN hN20 X1
  go_wp2_with fail
  refine (unhide HLa).mono ?_
  rintro y w3 ⟨rfl, x3⟩
  dsimp only
  have X3 := X2.trans (x3.mono X2.size)
  have Y3 := Y2.trans (x3.mono Y2.size)
  by_cases hlg : 400 < N
  · have d1 : decide (400 < N) = true := decide_eq_true hlg
    rw [d1]
    go_wp2_with fail
    go_ret
    exact ⟨rfl, X3⟩
  · have d1 : decide (400 < N) = false := decide_eq_false hlg
    rw [d1]
    have HRo := hide (Rope10_at a0 cap ls w3 (unhide HP w3 X3) (by have := unhide HLS; omega) (by have := unhide HLS; omega) (unhide HW w3 X3))
    have HNM := hide hlg
    clear HLa d1 hlg X2 Y2
    go_wp2_with fail
    refine (unhide HRo).mono ?_
    rintro y w4 ⟨g, o, rfl, hr, ht, x4⟩
    dsimp only
    have X4 := X3.trans (x4.mono X3.size)
    have Y4 := Y3.trans (x4.mono Y3.size)
    have hI4 := ((unhide HI2).below x3 (Nat.le_refl _)).below x4 (Nat.le_refl _)
    clear HRo x3 x4 HI2 X3 Y3
    have hto : txtO o = T := by rw [ht, (unhide HTT).1]
    have HSW := hide fun (X : World) (hx : Below w4.heap.size w4 X) => unhide HSA X (Y4.trans (hx.mono Y4.size))
    have HAn : Hid (∀ (X : World) (pl ln cl : Int), Below w4.heap.size w4 X → Calls Tryz.prog 10 #[.pointer (some ⟨g, 0, none⟩), .slice ba N bc, .agg #[.int .i64 pl, .int .i64 ln, .int .i64 cl, .int .i64 fr, .int .i64 tr, .int .i64 mo]] X fun y w' => y = .returned (.bool true) ∧ Below X.heap.size X w') := hide fun X pl ln cl hx => by
      have := answers10_at g o ba bc T pl ln cl fr tr mo X (hr.on hx) hto (hI4.1.below hx (Nat.le_refl _)) (by have := unhide HNM; have := (unhide HTT).2.1; omega) (unhide HW X (X4.trans (hx.mono X4.size)))
      rw [← (unhide HTT).2.1] at this
      exact this
    have HC4 := hide (unhide HAn w4 pl ln cl (Below.refl _ _))
    have HX4 := hide X4
    obtain ⟨c0, c1, c2, c3, c4, c5⟩ := unhide HSW w4 (Below.refl _ _)
    clear HSA Y4 hI4 hr ht hto X4
    go_wp2_with fail
    clear c0 c1 c2 c3 c4 c5
    refine (unhide HC4).mono ?_
    rintro y w5 ⟨rfl, x5⟩
    dsimp only
    have HX5 := hide x5
    clear HC4 x5
    go_wp2_with fail
    go_loopw [7, 8] (fun v7 v8 wx => (∃ z, v8 = z) ∧ (∃ k : Nat, v7 = .int .i64 ((k : Int) - 1) ∧ k ≤ N + 3) ∧ Hid (Below w4.heap.size w4 wx)) (fun v7 _ _ => N + 3 - (intOf v7 + 1).toNat)
    case atStart => exact ⟨⟨_, rfl⟩, ⟨0, rfl, by omega⟩, HX5⟩
    case round =>
      obtain ⟨⟨z, rfl⟩, ⟨k, rfl, hk⟩, HB⟩ := hrel
      obtain ⟨q1, q2, q2', q3, q4⟩ := sr_arith (N := N) (by have := unhide HNM; omega) hk
      by_cases hlt : k < N + 3
      · obtain ⟨t1, t1'⟩ := q3 hlt
        obtain ⟨c0, c1, c2, c3, c4, c5⟩ := unhide HSW wr (unhide HB)
        clear q3 q4 hk
        have kY := Cls.new wr 28 #[.int .i64 pl, .int .i64 ln, .int .i64 cl, .int .i64 fr, .int .i64 tr, .int .i64 mo]
        have b5 := (Below.refl wr.heap.size wr).alloc (Nat.le_refl _) (.cells #[.int .i64 pl, .int .i64 ln, .int .i64 cl, .int .i64 fr, .int .i64 tr, .int .i64 mo] 28)
        go_upto_region 13 with fail
        generalize hgY : wr.heap.size = gY at kY ⊢
        have hgY4 : w4.heap.size ≤ gY := by rw [← hgY]; exact (unhide HB).size
        clear hgY c0 c1 c2 c3 c4 c5
        have B5 := (unhide HB).trans (b5.mono (unhide HB).size)
        generalize wr.alloc (.cells #[.int .i64 pl, .int .i64 ln, .int .i64 cl, .int .i64 fr, .int .i64 tr, .int .i64 mo] 28) = v0 at *
        have f0 := kY.frozen 0
        have f1 := kY.frozen 1
        have f2 := kY.frozen 2
        obtain ⟨c0, c1, c2, c3, c4, c5⟩ := cls6 kY
        have HB6 : Hid (∀ x : Value, Below w4.heap.size w4 (v0.setCell ⟨gY, 0, none⟩ x)) := hide fun x => B5.setCell (p := ⟨gY, 0, none⟩) hgY4 x
        have HB7 : Hid (∀ x y z : Value, Below w4.heap.size w4 (((v0.setCell ⟨gY, 0, none⟩ x).setCell ⟨gY, 1, none⟩ y).setCell ⟨gY, 2, none⟩ z)) := hide fun x y z => ((B5.setCell (p := ⟨gY, 0, none⟩) hgY4 x).setCell (p := ⟨gY, 1, none⟩) hgY4 y).setCell (p := ⟨gY, 2, none⟩) hgY4 z
        clear kY b5 B5 hgY4 HB
        go_wp2_with fail
        refine (unhide HAn _ _ _ _ (unhide HB7 _ _ _)).mono ?_
        rintro y v6 ⟨rfl, x6⟩
        dsimp only
        have HB8 := hide ((unhide HB7 _ _ _).trans (x6.mono (unhide HB7 _ _ _).size))
        clear x6 c0 c1 c2 c3 c4 c5 f0 f1 f2 HB6 HB7
        go_wp2_with fail
        go_roundw
        case rel => exact ⟨⟨_, rfl⟩, ⟨k + 1, by first | rw [q2'] | rw [q2], by omega⟩, HB8⟩
        case measure => first | (rw [q2']; exact sr_meas hlt) | (rw [q2]; exact sr_meas hlt) | exact sr_meas hlt
      · obtain ⟨t1, t1'⟩ := q4 hlt
        have HD := hide ((unhide HX4).trans ((unhide HB).mono (unhide HX4).size))
        clear q3 q4 hk HB
        go_wp2_with fail
        go_ret
        exact ⟨rfl, unhide HD⟩
end Go.Proofs.YteamaneompijkaaGreatDoor
