/- SeekLong: far. -/
import Derived.Test.YteamaneompijkaaGreatDoorSl46
import Derived.Test.YteamaneompijkaaGreatDoorSl32

namespace Go.Proofs.YteamaneompijkaaGreatDoor
open Go.ChangeShapes Go.WideShapes Go.ChangeAt Go.RowKit
attribute [local go_sem] Oper.semAt_some neqW10

/-- what all calls answer at a place of a long rope -/
structure FarF (g N : Nat) (a : Option Addr) (c : Nat) (w5 : World) (p : Int) (P R C D : Int → Int → Int → Int → Int) (L1 L2 L3 L4 : Int → Int) (i0 i1 i2 i3 i4 i5 i6 e k kr q sr sn se ur un ue : Int) (sb ub : Bool) : Prop where
  w1 : ∀ X, Below w5.heap.size w5 X → Calls Tryz.prog 21 #[.pointer (some ⟨g, 0, none⟩), .int .i64 p] X fun y w' => y = .returned (.tuple #[.agg #[.int .i64 i0, .int .i64 i1, .int .i64 i2, .int .i64 i3, .int .i64 i4, .int .i64 i5, .int .i64 i6], .int .i64 e]) ∧ Below X.heap.size X w'
  w2 : ∀ X, Below w5.heap.size w5 X → Calls Tryz.prog 34 #[.slice a N c, .int .i64 p] X fun y w' => y = .returned (.tuple #[.agg #[.int .i64 i0, .int .i64 i1, .int .i64 i2, .int .i64 i3, .int .i64 i4, .int .i64 i5, .int .i64 i6], .int .i64 e]) ∧ Below X.heap.size X w'
  f1 : ∀ X, Below w5.heap.size w5 X → Calls Tryz.prog 30 #[.pointer (some ⟨g, 0, none⟩), .int .i64 p] X fun y w' => y = .returned (.tuple #[.int .i64 k, .int .i64 kr]) ∧ Below X.heap.size X w'
  f2 : ∀ X, Below w5.heap.size w5 X → Calls Tryz.prog 35 #[.slice a N c, .int .i64 p] X fun y w' => y = .returned (.tuple #[.int .i64 k, .int .i64 kr]) ∧ Below X.heap.size X w'
  s1 : ∀ X, Below w5.heap.size w5 X → Calls Tryz.prog 32 #[.pointer (some ⟨g, 0, none⟩), .int .i64 p] X fun y w' => y = .returned (.tuple #[.int .i64 q, .agg #[.int .i32 sr, .int .i64 sn, .bool sb], .int .i64 se]) ∧ Below X.heap.size X w'
  s2 : ∀ X, Below w5.heap.size w5 X → Calls Tryz.prog 36 #[.slice a N c, .int .i64 k] X fun y w' => y = .returned (.tuple #[.agg #[.int .i32 ur, .int .i64 un, .bool ub], .int .i64 ue]) ∧ Below X.heap.size X w'
  si : 0 ≤ p → p < (N : Int) → se = 0 ∧ ue = 0 ∧ q = k ∧ ur = sr ∧ un = sn ∧ ub = sb
  t1 : ∀ fr x tr mo X, Below w5.heap.size w5 X → Calls Tryz.prog 20 #[.pointer (some ⟨g, 0, none⟩), .int .i64 fr, .int .i64 x, .int .i64 tr, .int .i64 mo] X fun y w' => y = .returned (.tuple #[.int .i64 (P fr x tr mo), .int .i64 (R fr x tr mo)]) ∧ Below X.heap.size X w'
  t2 : ∀ fr x tr mo X, Below w5.heap.size w5 X → Calls Tryz.prog 37 #[.slice a N c, .int .i64 fr, .int .i64 x, .int .i64 tr, .int .i64 mo] X fun y w' => y = .returned (.tuple #[.int .i64 (P fr x tr mo), .int .i64 (R fr x tr mo)]) ∧ Below X.heap.size X w'
  a1 : ∀ ln x fr mo X, Below w5.heap.size w5 X → Calls Tryz.prog 26 #[.pointer (some ⟨g, 0, none⟩), .agg #[.int .i64 ln, .int .i64 x], .int .i64 fr, .int .i64 mo] X fun y w' => y = .returned (.tuple #[.int .i64 (C ln x fr mo), .int .i64 (D ln x fr mo)]) ∧ Below X.heap.size X w'
  a2 : ∀ ln x fr mo X, Below w5.heap.size w5 X → Calls Tryz.prog 38 #[.slice a N c, .agg #[.int .i64 ln, .int .i64 x], .int .i64 fr, .int .i64 mo] X fun y w' => y = .returned (.tuple #[.int .i64 (C ln x fr mo), .int .i64 (D ln x fr mo)]) ∧ Below X.heap.size X w'
  l1 : ∀ x X, Below w5.heap.size w5 X → Calls Tryz.prog 28 #[.pointer (some ⟨g, 0, none⟩), .int .i64 x] X fun y w' => y = .returned (.tuple #[.int .i64 (L1 x), .int .i64 (L2 x), .int .i64 (L3 x), .int .i64 (L4 x)]) ∧ Below X.heap.size X w'
  l2 : ∀ x X, Below w5.heap.size w5 X → Calls Tryz.prog 39 #[.slice a N c, .int .i64 x] X fun y w' => y = .returned (.tuple #[.int .i64 (L1 x), .int .i64 (L2 x), .int .i64 (L3 x), .int .i64 (L4 x)]) ∧ Below X.heap.size X w'
theorem fr_arith {U : Int} (h1 : 0 ≤ U) (h2 : U ≤ 4) : wrap64 (U + 1) = U + 1 ∧ wrap64 (U - 1) = U - 1 ∧ (U ≤ 3 → decide (U ≤ 3) = true) ∧ (¬ U ≤ 3 → decide (U ≤ 3) = false) ∧ (U < 2 → decide (U < 2) = true) ∧ (¬ U < 2 → decide (U < 2) = false) :=
  ⟨wrap_in _ (by omega) (by omega), wrap_in _ (by omega) (by omega), fun h => decide_eq_true h, fun h => decide_eq_false h, fun h => decide_eq_true h, fun h => decide_eq_false h⟩
theorem fr_meas {U : Int} (h : U ≤ 3) : (4 - intOf (Value.int .i64 (U + 1))).toNat < (4 - intOf (Value.int .i64 U)).toNat := by simp only [intOf]; omega
theorem cls3S {Y : World} {g : Nat} {t : TypeId} {x0 x1 x2 : Value} (h : Cls Y g t #[x0, x1, x2]) : Y.cell? ⟨g, 0, none⟩ = some x0 ∧ Y.cell? ⟨g, 1, none⟩ = some x1 ∧ Y.cell? ⟨g, 2, none⟩ = some x2 :=
  ⟨(h.cell 0).trans rfl, (h.cell 1).trans rfl, (h.cell 2).trans rfl⟩
set_option maxRecDepth 100000 in
theorem neqS10 (r n : Int) (b : Bool) (w : World) : (binOp .neq 82 (.agg #[.int .i32 r, .int .i64 n, .bool b]) (.agg #[.int .i32 r, .int .i64 n, .bool b])).run Tryz.prog w = .ok (.bool false) w := by simp [go_sem]
attribute [local go_sem] neqS10
set_option maxRecDepth 100000 in
set_option maxHeartbeats 8000000 in
theorem far_of (g N : Nat) (a : Option Addr) (c : Nat) (w : World) (p : Int) (P R C D : Int → Int → Int → Int → Int) (L1 L2 L3 L4 : Int → Int) (i0 i1 i2 i3 i4 i5 i6 e k kr q sr sn se ur un ue : Int) (sb ub : Bool)
    (HB : Hid (FarF g N a c w p P R C D L1 L2 L3 L4 i0 i1 i2 i3 i4 i5 i6 e k kr q sr sn se ur un ue sb ub)) :
    Calls Tryz.prog 13 #[.pointer (some ⟨g, 0, none⟩), .slice a N c, .int .i64 p] w fun y w' => y = .returned (.bool true) ∧ Below w.heap.size w w' := by
  have F0 := Below.refl w.heap.size w
  go_enter Tryz.func13, Tryz.ntmps13
  go_wp2_with fail
  refine ((unhide HB).w1 w F0).mono ?_
  rintro y v1 ⟨rfl, F1⟩
  dsimp only
  go_upto_region 2 with fail
  have x2 := (Below.refl v1.heap.size v1).alloc (Nat.le_refl _) (.cells #[.int .i64 i0, .int .i64 i1, .int .i64 i2, .int .i64 i3, .int .i64 i4, .int .i64 i5, .int .i64 i6] 61)
  have K2 := Cls.new v1 61 #[.int .i64 i0, .int .i64 i1, .int .i64 i2, .int .i64 i3, .int .i64 i4, .int .i64 i5, .int .i64 i6]
  generalize v1.alloc (.cells #[.int .i64 i0, .int .i64 i1, .int .i64 i2, .int .i64 i3, .int .i64 i4, .int .i64 i5, .int .i64 i6] 61) = v2 at *
  have F2 := F1.trans (x2.mono F1.size)
  clear x2 F1 F0
  generalize v1.heap.size = gW at *
  go_wp2_with fail
  refine ((unhide HB).w2 v2 F2).mono ?_
  rintro y v3 ⟨rfl, y3⟩
  dsimp only
  have F3 := F2.trans (y3.mono F2.size)
  have K3 := K2.below y3 K2.lt
  clear y3 F2 K2
  go_upto_region 3 with fail
  have x4 := (Below.refl v3.heap.size v3).alloc (Nat.le_refl _) (.cells #[.int .i64 i0, .int .i64 i1, .int .i64 i2, .int .i64 i3, .int .i64 i4, .int .i64 i5, .int .i64 i6] 61)
  have M4 := Cls.new v3 61 #[.int .i64 i0, .int .i64 i1, .int .i64 i2, .int .i64 i3, .int .i64 i4, .int .i64 i5, .int .i64 i6]
  generalize v3.alloc (.cells #[.int .i64 i0, .int .i64 i1, .int .i64 i2, .int .i64 i3, .int .i64 i4, .int .i64 i5, .int .i64 i6] 61) = v4 at *
  have F4 := F3.trans (x4.mono F3.size)
  have K4 := K3.below x4 K3.lt
  clear x4 F3 K3
  generalize v3.heap.size = gX at *
  obtain ⟨j0, j1, j2, j3, j4, j5, j6⟩ := cls7 K4
  obtain ⟨n0, n1, n2, n3, n4, n5, n6⟩ := cls7 M4
  clear M4
  go_wp2_with fail
  refine ((unhide HB).f1 v4 F4).mono ?_
  rintro y v5 ⟨rfl, y5⟩
  dsimp only
  have F5 := F4.trans (y5.mono F4.size)
  have K5 := K4.below y5 K4.lt
  clear y5 F4 K4 j0 j1 j2 j3 j4 j5 j6 n0 n1 n2 n3 n4 n5 n6
  go_wp2_with fail
  refine ((unhide HB).f2 v5 F5).mono ?_
  rintro y v6 ⟨rfl, y6⟩
  dsimp only
  have F6 := F5.trans (y6.mono F5.size)
  have K6 := K5.below y6 K5.lt
  clear y6 F5 K5
  go_wp2_with fail
  refine ((unhide HB).s1 v6 F6).mono ?_
  rintro y v7 ⟨rfl, y7⟩
  dsimp only
  have F7 := F6.trans (y7.mono F6.size)
  have K7 := K6.below y7 K6.lt
  clear y7 F6 K6
  go_upto_region 10 with fail
  have x8 := (Below.refl v7.heap.size v7).alloc (Nat.le_refl _) (.cells #[.int .i32 sr, .int .i64 sn, .bool sb] 82)
  have S8 := Cls.new v7 82 #[.int .i32 sr, .int .i64 sn, .bool sb]
  generalize v7.alloc (.cells #[.int .i32 sr, .int .i64 sn, .bool sb] 82) = v8 at *
  have F8 := F7.trans (x8.mono F7.size)
  have K8 := K7.below x8 K7.lt
  clear x8 F7 K7
  generalize v7.heap.size = gS at *
  go_wp2_with fail
  refine ((unhide HB).s2 v8 F8).mono ?_
  rintro y v9 ⟨rfl, y9⟩
  dsimp only
  have F9 := F8.trans (y9.mono F8.size)
  have K9 := K8.below y9 K8.lt
  have S9 := S8.below y9 S8.lt
  clear y9 F8 K8 S8
  go_upto_region 11 with fail
  have xa := (Below.refl v9.heap.size v9).alloc (Nat.le_refl _) (.cells #[.int .i32 ur, .int .i64 un, .bool ub] 82)
  have Ua := Cls.new v9 82 #[.int .i32 ur, .int .i64 un, .bool ub]
  generalize v9.alloc (.cells #[.int .i32 ur, .int .i64 un, .bool ub] 82) = va at *
  have Fa := F9.trans (xa.mono F9.size)
  have Ka := K9.below xa K9.lt
  have Sa := S9.below xa S9.lt
  clear xa F9 K9 S9
  generalize v9.heap.size = gU at *
  obtain ⟨j0, j1, j2⟩ := cls3S Sa
  obtain ⟨n0, n1, n2⟩ := cls3S Ua
  clear Sa Ua
  go_cut [120] (fun cv wx => cv = .bool false ∧ wx = va)
  case first => as_aux_lemma =>
    by_cases h0 : 0 ≤ p
    · have d0 : decide (0 ≤ p) = true := decide_eq_true h0
      by_cases h1 : p < (N : Int)
      · have d1 : decide (p < (N : Int)) = true := decide_eq_true h1
        obtain ⟨e1, e2, e3, e4, e5, e6⟩ := (unhide HB).si h0 h1
        subst e1 e2 e3 e4 e5 e6
        go_wp2_with fail
        go_meet
        exact ⟨rfl, rfl⟩
      · have d1 : decide (p < (N : Int)) = false := decide_eq_false h1
        go_wp2_with fail
        go_meet
        exact ⟨rfl, rfl⟩
    · have d0 : decide (0 ≤ p) = false := decide_eq_false h0
      go_wp2_with fail
      go_meet
      exact ⟨rfl, rfl⟩
  case rest =>
    obtain ⟨rfl, hwz⟩ := hcut
    subst hwz
    obtain ⟨wx, hwx⟩ : ∃ wx, wx = wc := ⟨_, rfl⟩
    subst hwx
    clear j0 j1 j2 n0 n1 n2 v1 v2 v3 v4 v5 v6 v7 v8 v9
    have HSW : Hid (∀ X, Below wx.heap.size wx X → X.cell? ⟨gW, 3, none⟩ = some (.int .i64 i3) ∧ X.cell? ⟨gW, 4, none⟩ = some (.int .i64 i4) ∧ X.cell? ⟨gW, 5, none⟩ = some (.int .i64 i5) ∧ X.cell? ⟨gW, 6, none⟩ = some (.int .i64 i6)) := hide fun X hx => by
      obtain ⟨_, _, _, c3, c4, c5, c6⟩ := cls7 (Ka.below hx Ka.lt)
      exact ⟨c3, c4, c5, c6⟩
    have HFa := hide Fa
    have HT : Hid (∀ X, Below wx.heap.size wx X → Below w.heap.size w X) := hide fun X hx => (unhide HFa).trans (hx.mono (unhide HFa).size)
    clear Ka Fa
    go_wp2_with fail
    go_loopw [17, 18, 19, 20, 21, 22, 23, 24, 25, 26, 27, 28, 29, 30, 31, 32, 33, 34, 35] (fun v17 v18 v19 v20 v21 v22 v23 v24 v25 v26 v27 v28 v29 v30 v31 v32 v33 v34 v35 wz => (∃ z, v18 = z) ∧ (∃ z, v19 = z) ∧ (∃ z, v20 = z) ∧ (∃ z, v21 = z) ∧ (∃ z, v22 = z) ∧ (∃ z, v23 = z) ∧ (∃ z, v24 = z) ∧ (∃ z, v25 = z) ∧ (∃ z, v26 = z) ∧ (∃ z, v27 = z) ∧ (∃ z, v28 = z) ∧ (∃ z, v29 = z) ∧ (∃ z, v30 = z) ∧ (∃ z, v31 = z) ∧ (∃ z, v32 = z) ∧ (∃ z, v33 = z) ∧ (∃ z, v34 = z) ∧ (∃ z, v35 = z) ∧ ∃ (U : Int), v17 = .int .i64 U ∧ 1 ≤ U ∧ U ≤ 4 ∧ Hid (Below wx.heap.size wx wz)) (fun v17 _ _ _ _ _ _ _ _ _ _ _ _ _ _ _ _ _ _ _ => (4 - intOf v17).toNat)
    case atStart => exact ⟨⟨_, rfl⟩, ⟨_, rfl⟩, ⟨_, rfl⟩, ⟨_, rfl⟩, ⟨_, rfl⟩, ⟨_, rfl⟩, ⟨_, rfl⟩, ⟨_, rfl⟩, ⟨_, rfl⟩, ⟨_, rfl⟩, ⟨_, rfl⟩, ⟨_, rfl⟩, ⟨_, rfl⟩, ⟨_, rfl⟩, ⟨_, rfl⟩, ⟨_, rfl⟩, ⟨_, rfl⟩, ⟨_, rfl⟩, 1, rfl, by decide, by decide, hide (Below.refl _ _)⟩
    case round =>
      obtain ⟨⟨z18, rfl⟩, ⟨z19, rfl⟩, ⟨z20, rfl⟩, ⟨z21, rfl⟩, ⟨z22, rfl⟩, ⟨z23, rfl⟩, ⟨z24, rfl⟩, ⟨z25, rfl⟩, ⟨z26, rfl⟩, ⟨z27, rfl⟩, ⟨z28, rfl⟩, ⟨z29, rfl⟩, ⟨z30, rfl⟩, ⟨z31, rfl⟩, ⟨z32, rfl⟩, ⟨z33, rfl⟩, ⟨z34, rfl⟩, ⟨z35, rfl⟩, U, rfl, hU1, hU4, HD⟩ := hrel
      obtain ⟨u1, u2, u3, u4, u5, u6⟩ := fr_arith (U := U) (by omega) hU4
      have HU := hide (And.intro hU1 hU4)
      by_cases cU : U ≤ 3
      · have dU := u3 cU
        clear u3 u4 u5 u6 hU1 hU4
        go_wp2_with fail
        refine ((unhide HB).t2 1 k U 1 wr (unhide HT _ (unhide HD))).mono ?_
        rintro y t1 ⟨rfl, y1⟩
        dsimp only
        have HD1 := hide ((unhide HD).trans (y1.mono (unhide HD).size))
        clear y1 HD
        generalize P 1 k U 1 = nn at *
        go_wp2_with fail
        go_loopw [20, 21, 22, 23, 24, 25, 26, 27, 28, 29] (fun v20 v21 v22 v23 v24 v25 v26 v27 v28 v29 wz => (∃ z, v21 = z) ∧ (∃ z, v22 = z) ∧ (∃ z, v23 = z) ∧ (∃ z, v24 = z) ∧ (∃ z, v25 = z) ∧ (∃ z, v26 = z) ∧ (∃ z, v27 = z) ∧ (∃ z, v28 = z) ∧ (∃ z, v29 = z) ∧ ∃ (M : Int), v20 = .int .i64 M ∧ 1 ≤ M ∧ M ≤ 4 ∧ Hid (Below wx.heap.size wx wz)) (fun v20 _ _ _ _ _ _ _ _ _ _ => (4 - intOf v20).toNat)
        case atStart => exact ⟨⟨_, rfl⟩, ⟨_, rfl⟩, ⟨_, rfl⟩, ⟨_, rfl⟩, ⟨_, rfl⟩, ⟨_, rfl⟩, ⟨_, rfl⟩, ⟨_, rfl⟩, ⟨_, rfl⟩, 1, rfl, by decide, by decide, HD1⟩
        case round =>
          obtain ⟨⟨z21, rfl⟩, ⟨z22, rfl⟩, ⟨z23, rfl⟩, ⟨z24, rfl⟩, ⟨z25, rfl⟩, ⟨z26, rfl⟩, ⟨z27, rfl⟩, ⟨z28, rfl⟩, ⟨z29, rfl⟩, M, rfl, hM1, hM4, HE⟩ := hrel
          obtain ⟨m1, m2, m3, m4, m5, m6⟩ := fr_arith (U := M) (by omega) hM4
          have HM := hide (And.intro hM1 hM4)
          clear HD1
          by_cases cM : M ≤ 3
          · have dM := m3 cM
            clear m2 m3 m4 m5 m6 hM1 hM4
            go_wp2_with fail
            go_loopw [21, 22, 23, 24, 25] (fun v21 v22 v23 v24 v25 wz => (∃ z, v22 = z) ∧ (∃ z, v23 = z) ∧ (∃ z, v24 = z) ∧ (∃ z, v25 = z) ∧ ∃ (d : Int), v21 = .int .i64 d ∧ 0 ≤ d ∧ d ≤ 2 ∧ Hid (Below wx.heap.size wx wz)) (fun v21 _ _ _ _ _ => (4 - intOf v21).toNat)
            case atStart => exact ⟨⟨_, rfl⟩, ⟨_, rfl⟩, ⟨_, rfl⟩, ⟨_, rfl⟩, 0, rfl, by decide, by decide, HE⟩
            case round =>
              obtain ⟨⟨z22, rfl⟩, ⟨z23, rfl⟩, ⟨z24, rfl⟩, ⟨z25, rfl⟩, d, rfl, hd1, hd4, HG⟩ := hrel
              obtain ⟨e1, e2, e3, e4, e5, e6⟩ := fr_arith (U := d) (by omega) (by omega)
              have HM2 := hide (And.intro hd1 hd4)
              clear HE
              by_cases cd : d < 2
              · have dd := e5 cd
                clear e2 e3 e4 e5 e6 hd1 hd4
                as_aux_lemma =>
                  go_wp2_with fail
                  refine ((unhide HB).t1 U (wrap64 (nn + d)) 1 M _ (unhide HT _ (unhide HG))).mono ?_
                  rintro y s1 ⟨rfl, y1⟩
                  dsimp only
                  have HG1 := hide ((unhide HG).trans (y1.mono (unhide HG).size))
                  clear y1 HG
                  go_wp2_with fail
                  refine ((unhide HB).t2 U (wrap64 (nn + d)) 1 M _ (unhide HT _ (unhide HG1))).mono ?_
                  rintro y s2 ⟨rfl, y1⟩
                  dsimp only
                  have HG2 := hide ((unhide HG1).trans (y1.mono (unhide HG1).size))
                  clear y1 HG1
                  go_wp2_with fail
                  go_roundw
                  case rel => exact ⟨⟨_, rfl⟩, ⟨_, rfl⟩, ⟨_, rfl⟩, ⟨_, rfl⟩, d + 1, by rw [e1], by have := unhide HM2; omega, by omega, HG2⟩
                  case measure => rw [e1]; exact fr_meas (by omega)
              · have dd := e6 cd
                clear e2 e3 e4 e5 e6 hd1 hd4
                as_aux_lemma =>
                  go_wp2_with fail
                  refine ((unhide HB).t1 1 p U M _ (unhide HT _ (unhide HG))).mono ?_
                  rintro y s1 ⟨rfl, y1⟩
                  dsimp only
                  have HG1 := hide ((unhide HG).trans (y1.mono (unhide HG).size))
                  clear y1 HG
                  go_wp2_with fail
                  refine ((unhide HB).t2 1 p U M _ (unhide HT _ (unhide HG1))).mono ?_
                  rintro y s2 ⟨rfl, y1⟩
                  dsimp only
                  have HG2 := hide ((unhide HG1).trans (y1.mono (unhide HG1).size))
                  clear y1 HG1
                  go_wp2_with fail
                  go_roundw
                  case rel => exact ⟨⟨_, rfl⟩, ⟨_, rfl⟩, ⟨_, rfl⟩, ⟨_, rfl⟩, ⟨_, rfl⟩, ⟨_, rfl⟩, ⟨_, rfl⟩, ⟨_, rfl⟩, ⟨_, rfl⟩, M + 1, by rw [m1], by have := unhide HM; omega, by omega, HG2⟩
                  case measure => rw [m1]; exact fr_meas cM
          · have dM := m4 cM
            clear m2 m3 m4 m5 m6 hM1 hM4
            obtain ⟨cc, hcc⟩ : ∃ cc, cc = (if U = 1 then i4 else if U = 2 then i5 else i6) := ⟨_, rfl⟩
            go_upto_region 31 with fail
            go_cut [30] (fun cv wy => cv = .int .i64 cc ∧ Hid (Below wx.heap.size wx wy))
            case first => as_aux_lemma =>
              obtain ⟨q3, q4, q5, q6⟩ := unhide HSW _ (unhide HE)
              have h3 : U = 1 ∨ U = 2 ∨ U = 3 := by have := unhide HU; omega
              have HZ := hide ((unhide HE).trans (((Below.refl wr.heap.size wr).alloc (Nat.le_refl _) (.cells #[.int .i64 i4, .int .i64 i5, .int .i64 i6] 3)).mono (unhide HE).size))
              rcases h3 with rfl | rfl | rfl
              · have hcc' : cc = i4 := by simpa using hcc
                clear u1 u2 dU cU
                go_wp2_with fail
                go_meet
                exact ⟨by rw [hcc'], HZ⟩
              · have hcc' : cc = i5 := by simpa using hcc
                clear u1 u2 dU cU
                go_wp2_with fail
                go_meet
                exact ⟨by rw [hcc'], HZ⟩
              · have hcc' : cc = i6 := by simpa using hcc
                clear u1 u2 dU cU
                go_wp2_with fail
                go_meet
                exact ⟨by rw [hcc'], HZ⟩
            case rest =>
              obtain ⟨rfl, HG0⟩ := hcut
              clear hcc HE
              go_wp2_with fail
              go_loopw [31, 32, 33, 34, 35] (fun v31 v32 v33 v34 v35 wz => (∃ z, v32 = z) ∧ (∃ z, v33 = z) ∧ (∃ z, v34 = z) ∧ (∃ z, v35 = z) ∧ ∃ (d : Int), v31 = .int .i64 d ∧ 0 ≤ d ∧ d ≤ 2 ∧ Hid (Below wx.heap.size wx wz)) (fun v31 _ _ _ _ _ => (4 - intOf v31).toNat)
              case atStart => exact ⟨⟨_, rfl⟩, ⟨_, rfl⟩, ⟨_, rfl⟩, ⟨_, rfl⟩, 0, rfl, by decide, by decide, HG0⟩
              case round =>
                obtain ⟨⟨z32, rfl⟩, ⟨z33, rfl⟩, ⟨z34, rfl⟩, ⟨z35, rfl⟩, d, rfl, hd1, hd4, HG⟩ := hrel
                obtain ⟨e1, e2, e3, e4, e5, e6⟩ := fr_arith (U := d) (by omega) (by omega)
                have HM2 := hide (And.intro hd1 hd4)
                clear HG0
                by_cases cd : d < 2
                · have dd := e5 cd
                  clear e2 e3 e4 e5 e6 hd1 hd4
                  obtain ⟨q3, q4, q5, q6⟩ := unhide HSW _ (unhide HG)
                  go_wp2_with fail
                  refine ((unhide HB).a1 i3 (wrap64 (cc + d)) U 1 _ (unhide HT _ (unhide HG))).mono ?_
                  rintro y s1 ⟨rfl, y1⟩
                  dsimp only
                  have HG1 := hide ((unhide HG).trans (y1.mono (unhide HG).size))
                  clear y1 HG q3 q4 q5 q6
                  obtain ⟨q3, q4, q5, q6⟩ := unhide HSW _ (unhide HG1)
                  go_wp2_with fail
                  refine ((unhide HB).a2 i3 (wrap64 (cc + d)) U 1 _ (unhide HT _ (unhide HG1))).mono ?_
                  rintro y s2 ⟨rfl, y1⟩
                  dsimp only
                  have HG2 := hide ((unhide HG1).trans (y1.mono (unhide HG1).size))
                  clear y1 HG1 q3 q4 q5 q6
                  go_wp2_with fail
                  go_roundw
                  case rel => exact ⟨⟨_, rfl⟩, ⟨_, rfl⟩, ⟨_, rfl⟩, ⟨_, rfl⟩, d + 1, by rw [e1], by have := unhide HM2; omega, by omega, HG2⟩
                  case measure => rw [e1]; exact fr_meas (by omega)
                · have dd := e6 cd
                  clear e2 e3 e4 e5 e6 hd1 hd4
                  go_wp2_with fail
                  go_roundw
                  case rel => exact ⟨⟨_, rfl⟩, ⟨_, rfl⟩, ⟨_, rfl⟩, ⟨_, rfl⟩, ⟨_, rfl⟩, ⟨_, rfl⟩, ⟨_, rfl⟩, ⟨_, rfl⟩, ⟨_, rfl⟩, ⟨_, rfl⟩, ⟨_, rfl⟩, ⟨_, rfl⟩, ⟨_, rfl⟩, ⟨_, rfl⟩, ⟨_, rfl⟩, ⟨_, rfl⟩, ⟨_, rfl⟩, ⟨_, rfl⟩, U + 1, by rw [u1], by have := unhide HU; omega, by omega, HG⟩
                  case measure => rw [u1]; exact fr_meas cU
      · have dU := u4 cU
        clear u3 u4 u5 u6 hU1 hU4
        obtain ⟨q3, q4, q5, q6⟩ := unhide HSW _ (unhide HD)
        as_aux_lemma =>
          go_wp2_with fail
          refine ((unhide HB).l1 i3 _ (unhide HT _ (unhide HD))).mono ?_
          rintro y s1 ⟨rfl, y1⟩
          dsimp only
          have HG1 := hide ((unhide HD).trans (y1.mono (unhide HD).size))
          clear y1 HD q3 q4 q5 q6
          obtain ⟨q3, q4, q5, q6⟩ := unhide HSW _ (unhide HG1)
          go_wp2_with fail
          refine ((unhide HB).l2 i3 _ (unhide HT _ (unhide HG1))).mono ?_
          rintro y s2 ⟨rfl, y1⟩
          dsimp only
          have HG2 := hide ((unhide HG1).trans (y1.mono (unhide HG1).size))
          clear y1 HG1 q3 q4 q5 q6
          go_wp2_with fail
          go_ret
          exact ⟨rfl, unhide HT _ (unhide HG2)⟩

end Go.Proofs.YteamaneompijkaaGreatDoor
