/- The walk of RuleBack: it answers true wherever the table holds the classes, and changes nothing that was there. -/
import Derived.Test.YtnkeohiibninfabDoorRwk
import Derived.Test.YtnkeohiibninfabDoorRbkL
namespace Go.Proofs.YtnkeohiibninfabDoor
open Go.ChangeShapes Go.WideShapes Go.ChangeAt Go.RowKit

theorem Ruler_at (r : Int) (w : World) : Calls Tryd.prog 19 #[.int .i64 r] w fun y w' => y = .returned (.bool (isRu r)) ∧ w' = w := by
  go_enter Tryd.func19, Tryd.ntmps19
  go_wp2
  all_goals go_ret
  all_goals refine ⟨ret_bool ?_, rfl⟩
  all_goals (unfold isRu; rw [Bool.eq_iff_iff]; simp; omega)

/-- what stays while the law goes on -/
structure Lw (w : World) (a0 : Option Addr) (cap : Nat) (l : List Int) (ks : List (Nat × TypeId × Array Value)) (X : World) : Prop where
  b : IsB X a0 cap l
  t : Tab X
  d : Below w.heap.size w X
  k : ∀ y ∈ ks, Cls X y.1 y.2.1 y.2.2
theorem Lw.on {w : World} {a0 : Option Addr} {cap : Nat} {l : List Int} {ks : List (Nat × TypeId × Array Value)} {X Y : World} (h : Lw w a0 cap l ks X) (hb : Below X.heap.size X Y) : Lw w a0 cap l ks Y :=
  ⟨h.b.below hb (Nat.le_refl _), h.t.below hb h.t.size, h.d.trans (hb.mono h.d.size), fun y hy => (h.k y hy).below hb (h.k y hy).lt⟩

set_option maxRecDepth 100000 in
set_option maxHeartbeats 8000000 in
theorem RuleBack_any (a0 : Option Addr) (cap : Nat) (l : List Int) (place f t m : Int) (w : World) (hB : IsB w a0 cap l) (_hp : (Lit.int .i64 place).wf = true) (hT : Tab w) :
    Calls Tryd.prog 5 #[.slice a0 l.length cap, .int .i64 place, .agg #[.int .i64 f, .int .i64 t, .int .i64 m]] w fun e w' => e = .returned (.bool true) ∧ Below w.heap.size w w' := by
  have BF := hide (backF (fun r => inc_EE hB.2.2.2 r) f place t)
  have PL := hide (fun (f p t m : Int) => toP_le hB.2.2.2 f p t m)
  have hlen := hB.2.1
  have k1 := Cls.new w 25 #[.int .i64 f, .int .i64 t, .int .i64 m]
  have b1 := (Below.refl w.heap.size w).alloc (Nat.le_refl _) (.cells #[.int .i64 f, .int .i64 t, .int .i64 m] 25)
  have L1 : Lw w a0 cap l [(w.heap.size, 25, #[.int .i64 f, .int .i64 t, .int .i64 m])] (w.alloc (.cells #[.int .i64 f, .int .i64 t, .int .i64 m] 25)) := ⟨hB.below b1 (Nat.le_refl _), hT.below b1 hT.size, b1, fun y hy => by rw [List.mem_singleton.1 hy]; exact k1⟩
  clear b1 hT hB
  go_enter Tryd.func5, Tryd.ntmps5
  go_wp2_with fail
  generalize w.alloc (.cells #[.int .i64 f, .int .i64 t, .int .i64 m] 25) = w1 at *
  refine (wakes6_any w1 L1.t).mono ?_
  rintro e w2 ⟨rfl, x2⟩
  have L2 := L1.on x2
  have k2 := k1.below x2 k1.lt
  have c0 : w2.cell? ⟨w.heap.size, 0, none⟩ = some (.int .i64 f) := (k2.cell 0).trans rfl
  have c1 : w2.cell? ⟨w.heap.size, 1, none⟩ = some (.int .i64 t) := (k2.cell 1).trans rfl
  clear L1 x2 k1 k2
  go_upto_region 4 with (go_quiet (fail))
  have L3 : Lw w a0 cap l _ (w2.drewN nq) := L2.on (quiet_below ⟨nq, rfl⟩ _)
  clear c0 c1 L2
  generalize w2.drewN nq = w3 at *
  obtain ⟨ef, no, eg, le, du, ex, btw, nt, th⟩ := unhide BF
  clear BF
  have pD := unhide PL f place f 1
  have pU := unhide PL f place f 2
  have pT := unhide PL f place t 1
  generalize hD : toP f place f 1 (EE l) = D at *
  generalize hU : toP f place f 2 (EE l) = U at *
  generalize hX : toP f place f 3 (EE l) = X at *
  generalize hR : toR f place f 1 (EE l) = eD at *
  generalize hR2 : toR f place f 2 (EE l) = eU at *
  generalize hR3 : toR f place f 3 (EE l) = eX at *
  subst ef
  have Hno := hide no
  have Heg := hide eg
  have Hle := hide le
  have Hdu := hide du
  have Hex := hide ex
  have Hbtw := hide btw
  have Hnt := hide nt
  have Hth := hide th
  have HpD := hide pD
  have HpU := hide pU
  have HpT := hide pT
  have HhD := hide hD
  have HhU := hide hU
  have HhX := hide hX
  have HhR := hide hR
  have HhR2 := hide hR2
  have HhR3 := hide hR3
  clear no eg le du ex btw nt th pD pU pT hD hU hX hR hR2 hR3
  go_wp2_with fail
  refine (own_at a0 cap l w3 L3.b).mono ?_
  rintro e w4 ⟨a4, c4, rfl, i4, x4⟩
  have L4 := L3.on x4
  clear L3 x4
  go_wp2_with fail
  refine (To_at a4 c4 l f place f 1 w4 i4 L4.t).mono ?_
  rw [unhide HhD, unhide HhR]
  rintro e w5 ⟨rfl, x5⟩
  have L5 := L4.on x5
  clear L4 x5 i4
  go_wp2_with fail
  refine (own_at a0 cap l w5 L5.b).mono ?_
  rintro e w6 ⟨a6, c6, rfl, i6, x6⟩
  have L6 := L5.on x6
  clear L5 x6
  go_wp2_with fail
  refine (To_at a6 c6 l f place f 2 w6 i6 L6.t).mono ?_
  rw [unhide HhU, unhide HhR2]
  rintro e w7 ⟨rfl, x7⟩
  have L7 := L6.on x7
  clear L6 x7 i6
  go_wp2_with fail
  refine (own_at a0 cap l w7 L7.b).mono ?_
  rintro e w8 ⟨a8, c8, rfl, i8, x8⟩
  have L8 := L7.on x8
  clear L7 x8
  go_wp2_with fail
  refine (To_at a8 c8 l f place f 3 w8 i8 L8.t).mono ?_
  rw [unhide HhX, unhide HhR3]
  rintro e w9 ⟨rfl, x9⟩
  have L9 := L8.on x9
  clear L8 x9 i8
  by_cases h0 : eD = 0
  · subst h0
    have Hle2 := hide (unhide Hle rfl)
    have Hbt2 := hide (unhide Hbtw rfl)
    have Hth2 := hide (unhide Hth rfl)
    have Heg2 := unhide Heg rfl
    by_cases h3 : eX = 0
    · subst h3
      obtain ⟨q1, q2⟩ := unhide Hex rfl rfl
      have q3 := (unhide Hdu rfl).2 rfl
      have Heg3 : Hid (isEg f place (EE l) = true) := hide (by rw [Heg2]; rfl)
      have hpl : place = (D : Int) := q1.symm
      have hX : X = D := by omega
      have hU : U = D := q3.symm
      subst hX hU
      clear q1 q2 q3 Heg2
      subst hpl
      go_wp2_with fail
      refine (own_at a0 cap l w9 L9.b).mono ?_
      rintro e w10 ⟨a10, c10, rfl, i10, x10⟩
      have L10 := L9.on x10
      clear L9 x10
      go_wp2_with fail
      refine (EdgeR_at a10 c10 l f (U : Int) w10 i10 L10.t).mono ?_
      rw [unhide Heg3]
      rintro e w11 ⟨rfl, x11⟩
      have L11 := L10.on x11
      clear L10 x11 i10
      have hD1 : wrap64 ((U : Int) + 1) = (U : Int) + 1 := wrap_in _ (by have := unhide HpD; omega) (by have := unhide HpD; omega)
      go_wp2_with fail
      simp only [hD1]
      clear hD1
      have L0 := L11
      go_loopw [15] (fun i wx => ∃ p : Int, i = .int .i64 p ∧ (U : Int) < p ∧ p ≤ 300000000000000 ∧ Lw w a0 cap l [(w.heap.size, 25, #[.int .i64 f, .int .i64 t, .int .i64 m])] wx) (fun i _ => U - (intOf i).toNat)
      case atStart => exact ⟨_, rfl, by omega, by have := unhide HpD; omega, L0⟩
      case round =>
        obtain ⟨p, rfl, hp, hp2, L20⟩ := hrel
        clear L0 L11
        by_cases hlt : p < (U : Int)
        · have hq : decide (p < (U : Int)) = true := by simpa using hlt
          have Hbp := hide (unhide Hbt2 p hp hlt)
          have hw : wrap64 (p + 1) = p + 1 := wrap_in _ (by omega) (by omega)
          go_wp2_with fail
          refine (own_at a0 cap l wr L20.b).mono ?_
          rintro e w21 ⟨a21, c21, rfl, i21, x21⟩
          have L21 := L20.on x21
          clear L20 x21
          go_wp2_with fail
          refine (EdgeR_at a21 c21 l f p w21 i21 L21.t).mono ?_
          rw [unhide Hbp]
          rintro e w22 ⟨rfl, x22⟩
          have L22 := L21.on x22
          clear L21 x22 i21
          go_wp2_with fail
          go_roundw
          case rel => exact ⟨p + 1, rfl, by omega, by have := unhide HpU; omega, L22⟩
          case measure => simp [intOf]; omega
        · have hq : decide (p < (U : Int)) = false := by simpa using hlt
          clear hlt hp hp2
          go_wp2_with fail
          refine (own_at a0 cap l wr L20.b).mono ?_
          rintro e w21 ⟨a21, c21, rfl, i21, x21⟩
          have L21 := L20.on x21
          clear L20 x21
          go_wp2_with fail
          have hto := To_at a21 c21 l f ((U : Int)) t 1 w21 i21 L21.t
          cases ht : isRu t with
          | false =>
            rw [unhide Hnt ht] at hto
            generalize toP f ((U : Int)) t 1 (EE l) = th at *
            refine hto.mono ?_
            rintro e w22 ⟨rfl, x22⟩
            have L22 := L21.on x22
            clear L21 x22 i21 hto
            have cX : w22.cell? ⟨w.heap.size, 1, none⟩ = some (.int .i64 t) := ((L22.k _ (List.mem_singleton.2 rfl)).cell 1).trans rfl
            go_wp2_with fail
            refine (Ruler_at t w22).mono ?_
            rintro e w23 ⟨rfl, rfl⟩
            rw [ht]
            go_wp2_with fail
            go_ret
            exact ⟨rfl, L22.d⟩
          | true =>
            obtain ⟨g1, g2, g3, g4, g5⟩ := unhide Hth2 ht
            rw [g1] at hto
            generalize hth : toP f ((U : Int)) t 1 (EE l) = th at *
            have G2 := hide g2
            have G3 := hide g3
            have G4 := hide g4
            have G5 := hide g5
            clear g1 g2 g3 g4 g5 hth
            refine hto.mono ?_
            rintro e w22 ⟨rfl, x22⟩
            have L22 := L21.on x22
            clear L21 x22 i21 hto
            have cX : w22.cell? ⟨w.heap.size, 1, none⟩ = some (.int .i64 t) := ((L22.k _ (List.mem_singleton.2 rfl)).cell 1).trans rfl
            go_wp2_with fail
            refine (Ruler_at t w22).mono ?_
            rintro e w23 ⟨rfl, rfl⟩
            rw [ht]
            go_wp2_with fail
            have L30 := L22
            clear L22
            generalize w23 = w30 at *
            refine (own_at a0 cap l w30 L30.b).mono ?_
            rintro e w31 ⟨a31, c31, rfl, i31, x31⟩
            have L31 := L30.on x31
            clear L30 x31
            go_wp2_with fail
            refine (To_at a31 c31 l t (th : Int) f 3 w31 i31 L31.t).mono ?_
            rw [unhide G2, unhide G4]
            rintro e w32 ⟨rfl, x32⟩
            have L32 := L31.on x32
            clear L31 x32 i31
            go_wp2_with fail
            refine (own_at a0 cap l w32 L32.b).mono ?_
            rintro e w33 ⟨a33, c33, rfl, i33, x33⟩
            have L33 := L32.on x33
            clear L32 x33
            go_wp2_with fail
            refine (To_at a33 c33 l f (U : Int) t 2 w33 i33 L33.t).mono ?_
            rw [unhide G3, unhide G5]
            rintro e w34 ⟨rfl, x34⟩
            have L34 := L33.on x34
            clear L33 x34 i33
            go_wp2_with fail
            go_ret
            exact ⟨rfl, L34.d⟩
    · have Heg3 : Hid (isEg f place (EE l) = false) := hide (by rw [Heg2]; exact decide_eq_false h3)
      have q3 : ¬ (D = U) := fun h => h3 ((unhide Hdu rfl).1 h)
      obtain ⟨q1, q2⟩ := unhide Hle2
      have e1 : (eX == 0) = false := by simpa using h3
      have e2 : decide ((D : Int) > place) = false := by simp; omega
      have e3 : decide ((U : Int) < place) = false := by simp; omega
      have e4 : ((D : Int) == (U : Int)) = false := by simp; omega
      clear Heg2 h3 q3 q1 q2
      go_wp2_with fail
      refine (own_at a0 cap l w9 L9.b).mono ?_
      rintro e w10 ⟨a10, c10, rfl, i10, x10⟩
      have L10 := L9.on x10
      clear L9 x10
      go_wp2_with fail
      refine (EdgeR_at a10 c10 l f place w10 i10 L10.t).mono ?_
      rw [unhide Heg3]
      rintro e w11 ⟨rfl, x11⟩
      have L11 := L10.on x11
      clear L10 x11 i10
      have hD1 : wrap64 ((D : Int) + 1) = (D : Int) + 1 := wrap_in _ (by have := unhide HpD; omega) (by have := unhide HpD; omega)
      go_wp2_with fail
      simp only [hD1]
      clear hD1
      have L0 := L11
      go_loopw [15] (fun i wx => ∃ p : Int, i = .int .i64 p ∧ (D : Int) < p ∧ p ≤ 300000000000000 ∧ Lw w a0 cap l [(w.heap.size, 25, #[.int .i64 f, .int .i64 t, .int .i64 m])] wx) (fun i _ => U - (intOf i).toNat)
      case atStart => exact ⟨_, rfl, by omega, by have := unhide HpD; omega, L0⟩
      case round =>
        obtain ⟨p, rfl, hp, hp2, L20⟩ := hrel
        clear L0 L11
        by_cases hlt : p < (U : Int)
        · have hq : decide (p < (U : Int)) = true := by simpa using hlt
          have Hbp := hide (unhide Hbt2 p hp hlt)
          have hw : wrap64 (p + 1) = p + 1 := wrap_in _ (by omega) (by omega)
          go_wp2_with fail
          refine (own_at a0 cap l wr L20.b).mono ?_
          rintro e w21 ⟨a21, c21, rfl, i21, x21⟩
          have L21 := L20.on x21
          clear L20 x21
          go_wp2_with fail
          refine (EdgeR_at a21 c21 l f p w21 i21 L21.t).mono ?_
          rw [unhide Hbp]
          rintro e w22 ⟨rfl, x22⟩
          have L22 := L21.on x22
          clear L21 x22 i21
          go_wp2_with fail
          go_roundw
          case rel => exact ⟨p + 1, rfl, by omega, by have := unhide HpU; omega, L22⟩
          case measure => simp [intOf]; omega
        · have hq : decide (p < (U : Int)) = false := by simpa using hlt
          clear hlt hp hp2
          go_wp2_with fail
          refine (own_at a0 cap l wr L20.b).mono ?_
          rintro e w21 ⟨a21, c21, rfl, i21, x21⟩
          have L21 := L20.on x21
          clear L20 x21
          go_wp2_with fail
          have hto := To_at a21 c21 l f (place) t 1 w21 i21 L21.t
          cases ht : isRu t with
          | false =>
            rw [unhide Hnt ht] at hto
            generalize toP f (place) t 1 (EE l) = th at *
            refine hto.mono ?_
            rintro e w22 ⟨rfl, x22⟩
            have L22 := L21.on x22
            clear L21 x22 i21 hto
            have cX : w22.cell? ⟨w.heap.size, 1, none⟩ = some (.int .i64 t) := ((L22.k _ (List.mem_singleton.2 rfl)).cell 1).trans rfl
            go_wp2_with fail
            refine (Ruler_at t w22).mono ?_
            rintro e w23 ⟨rfl, rfl⟩
            rw [ht]
            go_wp2_with fail
            go_ret
            exact ⟨rfl, L22.d⟩
          | true =>
            obtain ⟨g1, g2, g3, g4, g5⟩ := unhide Hth2 ht
            rw [g1] at hto
            generalize hth : toP f (place) t 1 (EE l) = th at *
            have G2 := hide g2
            have G3 := hide g3
            have G4 := hide g4
            have G5 := hide g5
            clear g1 g2 g3 g4 g5 hth
            refine hto.mono ?_
            rintro e w22 ⟨rfl, x22⟩
            have L22 := L21.on x22
            clear L21 x22 i21 hto
            have cX : w22.cell? ⟨w.heap.size, 1, none⟩ = some (.int .i64 t) := ((L22.k _ (List.mem_singleton.2 rfl)).cell 1).trans rfl
            go_wp2_with fail
            refine (Ruler_at t w22).mono ?_
            rintro e w23 ⟨rfl, rfl⟩
            rw [ht]
            go_wp2_with fail
            have L30 := L22
            clear L22
            generalize w23 = w30 at *
            refine (own_at a0 cap l w30 L30.b).mono ?_
            rintro e w31 ⟨a31, c31, rfl, i31, x31⟩
            have L31 := L30.on x31
            clear L30 x31
            go_wp2_with fail
            refine (To_at a31 c31 l t (th : Int) f 3 w31 i31 L31.t).mono ?_
            rw [unhide G2, unhide G4]
            rintro e w32 ⟨rfl, x32⟩
            have L32 := L31.on x32
            clear L31 x32 i31
            go_wp2_with fail
            refine (own_at a0 cap l w32 L32.b).mono ?_
            rintro e w33 ⟨a33, c33, rfl, i33, x33⟩
            have L33 := L32.on x33
            clear L32 x33
            go_wp2_with fail
            refine (To_at a33 c33 l f (D : Int) t 2 w33 i33 L33.t).mono ?_
            rw [unhide G3, unhide G5]
            rintro e w34 ⟨rfl, x34⟩
            have L34 := L33.on x34
            clear L33 x34 i33
            go_wp2_with fail
            go_ret
            exact ⟨rfl, L34.d⟩
  · obtain ⟨n1, n2, n3, n4⟩ := unhide Hno h0
    subst n2 n3 n4
    subst n1
    have e1 : (eX != 0) = true := by simpa using h0
    clear h0
    go_wp2_with fail
    go_ret
    exact ⟨rfl, L9.d⟩

end Go.Proofs.YtnkeohiibninfabDoor
