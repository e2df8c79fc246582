/- Layer 15: the law's played (written by wip/tools/mkz.py). -/
import Derived.Test.YtfllomlighlejaaMo47

namespace Go.Proofs.Ytfllomlighlejaa
open Go.ChangeShapes Go.WideShapes Go.ChangeAt Go.RowKit
attribute [local go_sem] Oper.semAt_some

set_option maxRecDepth 100000 in
set_option maxHeartbeats 8000000 in
theorem playedE_at (n : Int) (A : Option Addr) (cp N : Nat) (X : World) (hr : ¬ (0 ≤ n ∧ n ≤ 268435456)) :
    Calls Try.prog 6 #[.int .i64 n, .slice A N cp] X fun y X' => y = .returned (.tuple #[.pointer none, .agg #[.int .i64 n, .slice none 0 0]]) ∧ Below X.heap.size X X' := by
  have b0 := (Below.refl X.heap.size X).alloc (Nat.le_refl _) (.cells #[.int .i64 0, .slice none 0 0] 29)
  have HB := hide b0
  have HK := hide (Cls.new X 29 #[.int .i64 0, .slice none 0 0])
  have HC := hide (beginE_at n (X.alloc (.cells #[.int .i64 0, .slice none 0 0] 29)) hr)
  clear hr b0
  go_enter Try.func6, Try.ntmps6
  go_wp2_with fail
  refine (unhide HC).mono ?_
  rintro y w1 ⟨rfl, x1⟩
  dsimp only
  have hb1 := (unhide HB).trans (x1.mono (unhide HB).size)
  have k1 := ((unhide HK).below x1 (unhide HK).lt).alloc (.cells #[.int .i64 n, .slice none 0 0] 29)
  have k2 := Cls.new w1 29 #[.int .i64 n, .slice none 0 0]
  have HB2 := hide (hb1.alloc hb1.size (.cells #[.int .i64 n, .slice none 0 0] 29))
  have HK2 := hide (And.intro k1 k2)
  clear HC HB HK x1 hb1 k1 k2
  go_upto_region 4 with fail
  generalize w1.alloc (.cells #[.int .i64 n, .slice none 0 0] 29) = w2 at *
  generalize w1.heap.size = G9 at *
  have kD : Cls w2.drew X.heap.size 29 #[.int .i64 0, .slice none 0 0] := (unhide HK2).1
  have kS : Cls w2.drew G9 29 #[.int .i64 n, .slice none 0 0] := (unhide HK2).2
  have HSB : Hid (w2.drew.cell? ⟨G9, 0, none⟩ = some (.int .i64 n) ∧ w2.drew.cell? ⟨G9, 1, none⟩ = some (.slice none 0 0)) := hide kS.two
  obtain ⟨y0, y1⟩ := kD.two
  have f0 := kD.frozen 0
  have f1 := kD.frozen 1
  have kp := kD.put2 (.int .i64 n) (.slice none 0 0) (unhide HB2).drew (Nat.le_refl _)
  obtain ⟨r0, r1⟩ := kp.1.two
  have HB9 := hide kp.2
  clear kp
  clear kS kD
  refine regionL (S := fun z => z.cell? ⟨G9, 0, none⟩ = some (.int .i64 n) ∧ z.cell? ⟨G9, 1, none⟩ = some (.slice none 0 0)) (fun i => i == 2) (by kernel_rfl) ?_
  generalize w2.drew = zz at *
  refine anyL_take (i := 0) (v := ?vpe62) rfl (by kernel_rfl) (by kernel_rfl) (by kernel_rfl) (by kernel_rfl) (fun _ _ _ h => h) (Or.inl ⟨by rfl, ?hpe62⟩) (unhide HSB) ?_
  case hpe62 => (intro w hSw; (try dsimp only at hSw); go_simp) <;> with_reducible rfl
  simp only [Act.put, List.getElem_toArray, List.getElem_cons_zero, List.setIfInBounds_toArray, List.set_cons_zero, List.set_cons_succ]
  refine anyL_take (i := 1) (v := ?vpe63) rfl (by kernel_rfl) (by kernel_rfl) (by kernel_rfl) (by kernel_rfl) (fun _ _ _ h => h) (Or.inl ⟨by rfl, ?hpe63⟩) (unhide HSB) ?_
  case hpe63 => (intro w hSw; (try dsimp only at hSw); go_simp) <;> with_reducible rfl
  simp only [Act.put, List.getElem_toArray, List.getElem_cons_zero, List.getElem_cons_succ, List.setIfInBounds_toArray, List.set_cons_zero, List.set_cons_succ]
  refine anyL_ready (rs := [2]) (by kernel_rfl) (by simp) ?_
  refine AllL.cons rfl (fun K hK => ?_) AllL.nil
  go_simp
  refine unhide hK _ _ (fun h => by cases h) ?_
  clear hK K
  refine anyL_done (by kernel_rfl) ?_ _
  go_wp2_with fail
  refine bodyPost_ret (v := .tuple #[.pointer none, .agg #[.int .i64 n, .slice none 0 0]]) (by simp [results, Try.results6, go_sem, r0, r1]) rfl ⟨rfl, unhide HB9⟩
set_option maxRecDepth 100000 in
set_option maxHeartbeats 8000000 in
theorem played_at (n : Int) (A : Option Addr) (cp : Nat) (l : List Ac) (X : World) (hA : IsAc X A l) (hl : l.length ≤ 1048576) (hr : 0 ≤ n ∧ n ≤ 268435456) :
    Calls Try.prog 6 #[.int .i64 n, .slice A l.length cp] X fun y X' => ∃ g n' L a c D, y = .returned (.tuple #[.pointer (some ⟨g, 0, none⟩), .agg #[.int .i64 n', .slice a (List.length D) c]]) ∧ StM X' g n' L a D ∧ Below X.heap.size X X' := by
  have HAc := hide hA
  obtain ⟨N, hN⟩ : ∃ N, N = l.length := ⟨_, rfl⟩
  have HN := hide hN
  rw [← hN] at hl ⊢
  clear hN
  have b0 := (Below.refl X.heap.size X).alloc (Nat.le_refl _) (.cells #[.int .i64 0, .slice none 0 0] 29)
  have HW := hide b0
  have HAc : Hid (IsAc (X.alloc (.cells #[.int .i64 0, .slice none 0 0] 29)) A l) := hide ⟨fun y hy => (hA.1 y hy).below b0, hA.2.imp id fun ⟨g, off, e, hg, hc⟩ => ⟨g, off, e, Nat.lt_of_lt_of_le hg b0.size, fun k hk j hj => (b0.cell (p := ⟨g, off + k * 5 + j, none⟩) hg).trans (hc k hk j hj)⟩⟩
  have HK := hide (Cls.new X 29 #[.int .i64 0, .slice none 0 0])
  have HC := hide (begin_at n (X.alloc (.cells #[.int .i64 0, .slice none 0 0] 29)) hr)
  have HRq := hide hr
  clear hr b0 hA
  go_enter Try.func6, Try.ntmps6
  go_wp2_with fail
  generalize X.alloc (.cells #[.int .i64 0, .slice none 0 0] 29) = w at *
  refine (unhide HC).mono ?_
  rintro y w2 ⟨g0, rfl, s2, x2⟩
  dsimp only
  have b3 := (Below.refl w2.heap.size w2).alloc (Nat.le_refl _) (.cells #[.int .i64 n, .slice none 0 0] 29)
  have HJ0 : Hid (ScJ w (w2.alloc (.cells #[.int .i64 n, .slice none 0 0] 29)) w2.heap.size g0 n [] none 0 []) := hide ⟨⟨s2.below b3 (Nat.le_refl _), .inl rfl, Rel.nil, InP.nil n, by simp, unhide HRq, .inl rfl⟩, Cls.new w2 29 _, x2.trans (b3.mono x2.size), x2.size⟩
  clear HC s2 x2 b3
  go_wp2_with fail
  generalize w2.heap.size = G9 at *
  go_loopw [6, 10, 11, 12, 13] (fun v6 v10 v11 v12 v13 wx => ((∃ z, v11 = z) ∧ (∃ z, v12 = z) ∧ (∃ z, v13 = z)) ∧ ∃ (i g1 : Nat), v10 = .int .i64 (i : Int) ∧ v6 = .pointer (some ⟨g1, 0, none⟩) ∧ i ≤ N ∧ Hid (∃ n1 L1 a1 c1 D, ScJ w wx G9 g1 n1 L1 a1 c1 D)) (fun _ v10 _ _ _ _ => N - (intOf v10).toNat)
  case atStart => exact ⟨⟨⟨_, rfl⟩, ⟨_, rfl⟩, ⟨_, rfl⟩⟩, 0, g0, rfl, rfl, Nat.zero_le _, hide ⟨_, _, _, _, _, unhide HJ0⟩⟩
  case round =>
    clear HJ0
    obtain ⟨⟨⟨z1, rfl⟩, ⟨z2, rfl⟩, ⟨z3, rfl⟩⟩, i, g1, rfl, rfl, hi, HI⟩ := hrel
    obtain ⟨n1, L1, a1, c1, D, hJ⟩ := unhide HI
    have HJ := hide hJ
    clear HI hJ
    by_cases hlt : i < N
    · have t1 : decide ((i : Int) < (N : Int)) = true := decide_eq_true (by omega)
      have hlt' : i < l.length := by rw [← unhide HN]; exact hlt
      obtain ⟨hAI, eg, eo, ha, heg, hcl⟩ := (unhide HAc).at hlt' (unhide HJ).b
      subst ha
      generalize l.getD i acZ = ac at *
      obtain ⟨kd, ⟨xn, xp, xg⟩, ad, cd, d⟩ := ac
      have q0 := hcl 0 (by decide)
      have q1 := hcl 1 (by decide)
      have q2 := hcl 2 (by decide)
      have q3 := hcl 3 (by decide)
      have q4 := hcl 4 (by decide)
      have hSc : wr.cell? ⟨G9, 0, none⟩ = some (.int .i64 n1) ∧ wr.cell? ⟨G9, 1, none⟩ = some (.slice a1 D.length c1) ∧ wr.cell? ⟨eg, eo + i * 5, none⟩ = some (.int .i64 kd) ∧ wr.cell? ⟨eg, eo + i * 5 + 1, none⟩ = some (.string xn) ∧ wr.cell? ⟨eg, eo + i * 5 + 2, none⟩ = some (.int .i64 xp) ∧ wr.cell? ⟨eg, eo + i * 5 + 3, none⟩ = some (.int .i64 xg) ∧ wr.cell? ⟨eg, eo + i * 5 + 4, none⟩ = some (.slice ad d.length cd) := ⟨(unhide HJ).k.two.1, (unhide HJ).k.two.2, q0, q1, q2, q3, q4⟩
      have heg' : eg < wr.heap.size := Nat.lt_of_lt_of_le heg (unhide HJ).b.size
      have HSw : Hid (∀ Y, Below wr.heap.size wr Y → Y.cell? ⟨G9, 0, none⟩ = some (.int .i64 n1) ∧ Y.cell? ⟨G9, 1, none⟩ = some (.slice a1 D.length c1) ∧ Y.cell? ⟨eg, eo + i * 5, none⟩ = some (.int .i64 kd) ∧ Y.cell? ⟨eg, eo + i * 5 + 1, none⟩ = some (.string xn) ∧ Y.cell? ⟨eg, eo + i * 5 + 2, none⟩ = some (.int .i64 xp) ∧ Y.cell? ⟨eg, eo + i * 5 + 3, none⟩ = some (.int .i64 xg) ∧ Y.cell? ⟨eg, eo + i * 5 + 4, none⟩ = some (.slice ad d.length cd)) := hide fun Y hY => by
        obtain ⟨p0, p1, p2, p3, p4, p5, p6⟩ := hSc
        have hb : ∀ (g o : Nat), g < wr.heap.size → Y.cell? ⟨g, o, none⟩ = wr.cell? ⟨g, o, none⟩ := fun g o hg => hY.cell (p := ⟨g, o, none⟩) hg
        have kl := (unhide HJ).k.lt
        exact ⟨(hb _ _ kl).trans p0, (hb _ _ kl).trans p1, (hb _ _ heg').trans p2, (hb _ _ heg').trans p3, (hb _ _ heg').trans p4, (hb _ _ heg').trans p5, (hb _ _ heg').trans p6⟩
      have HX0 := hide ((Below.refl wr.heap.size wr).drew)
      have HDo := hide fun (Y : World) (hY : Below wr.heap.size wr Y) => do_at g1 n1 L1 a1 c1 D kd ⟨xn, xp, xg⟩ ad cd d Y ((unhide HJ).s.below hY) (hAI.o.below hY (Nat.le_refl _)) hAI.z (by have := hAI.l; dsimp only at this; omega) hAI.tx
      unfold msV acV at HDo
      dsimp only at HDo
      clear hAI hcl q0 q1 q2 q3 q4 hSc heg heg' hlt'
      go_upto_region 8 with fail
      refine regionL (S := fun z => z.cell? ⟨G9, 0, none⟩ = some (.int .i64 n1) ∧ z.cell? ⟨G9, 1, none⟩ = some (.slice a1 D.length c1) ∧ z.cell? ⟨eg, eo + i * 5, none⟩ = some (.int .i64 kd) ∧ z.cell? ⟨eg, eo + i * 5 + 1, none⟩ = some (.string xn) ∧ z.cell? ⟨eg, eo + i * 5 + 2, none⟩ = some (.int .i64 xp) ∧ z.cell? ⟨eg, eo + i * 5 + 3, none⟩ = some (.int .i64 xg) ∧ z.cell? ⟨eg, eo + i * 5 + 4, none⟩ = some (.slice ad d.length cd)) (fun _ => false) (by kernel_rfl) ?_
      generalize wr.drew = z0 at *
      refine anyL_take (i := 0) (v := ?vpd64) rfl (by kernel_rfl) (by kernel_rfl) (by kernel_rfl) (by kernel_rfl) (fun _ _ _ h => h) (Or.inl ⟨by rfl, ?hpd64⟩) (unhide HSw _ (unhide HX0)) ?_
      case hpd64 => (intro w hSw; (try dsimp only at hSw); go_simp) <;> with_reducible rfl
      simp only [Act.put, List.getElem_toArray, List.getElem_cons_zero, List.setIfInBounds_toArray, List.set_cons_zero, List.set_cons_succ]
      refine anyL_take (i := 1) (v := ?vpd65) rfl (by kernel_rfl) (by kernel_rfl) (by kernel_rfl) (by kernel_rfl) (fun _ _ _ h => h) (Or.inl ⟨by rfl, ?hpd65⟩) (unhide HSw _ (unhide HX0)) ?_
      case hpd65 => (intro w hSw; (try dsimp only at hSw); go_simp) <;> with_reducible rfl
      simp only [Act.put, List.getElem_toArray, List.getElem_cons_zero, List.getElem_cons_succ, List.setIfInBounds_toArray, List.set_cons_zero, List.set_cons_succ]
      refine anyL_take (i := 2) (v := ?vpd66) rfl (by kernel_rfl) (by kernel_rfl) (by kernel_rfl) (by kernel_rfl) (fun _ _ _ h => h) (Or.inl ⟨by rfl, ?hpd66⟩) (unhide HSw _ (unhide HX0)) ?_
      case hpd66 => (intro w hSw; (try dsimp only at hSw); go_simp) <;> with_reducible rfl
      simp only [Act.put, List.getElem_toArray, List.getElem_cons_zero, List.getElem_cons_succ, List.setIfInBounds_toArray, List.set_cons_zero, List.set_cons_succ]
      refine anyL_take (i := 3) (v := ?vpd67) rfl (by kernel_rfl) (by kernel_rfl) (by kernel_rfl) (by kernel_rfl) (fun _ _ _ h => h) (Or.inl ⟨by rfl, ?hpd67⟩) (unhide HSw _ (unhide HX0)) ?_
      case hpd67 => (intro w hSw; (try dsimp only at hSw); go_simp) <;> with_reducible rfl
      simp only [Act.put, List.getElem_toArray, List.getElem_cons_zero, List.getElem_cons_succ, List.setIfInBounds_toArray, List.set_cons_zero, List.set_cons_succ]
      refine anyL_take (i := 4) (v := ?vpd68) rfl (by kernel_rfl) (by kernel_rfl) (by kernel_rfl) (by kernel_rfl) (fun _ _ _ h => h) (Or.inl ⟨by rfl, ?hpd68⟩) (unhide HSw _ (unhide HX0)) ?_
      case hpd68 => (intro w hSw; (try dsimp only at hSw); go_simp) <;> with_reducible rfl
      simp only [Act.put, List.getElem_toArray, List.getElem_cons_zero, List.getElem_cons_succ, List.setIfInBounds_toArray, List.set_cons_zero, List.set_cons_succ]
      refine anyL_take (i := 5) (v := ?vpd69) rfl (by kernel_rfl) (by kernel_rfl) (by kernel_rfl) (by kernel_rfl) (fun _ _ _ h => h) (Or.inl ⟨by rfl, ?hpd69⟩) (unhide HSw _ (unhide HX0)) ?_
      case hpd69 => (intro w hSw; (try dsimp only at hSw); go_simp) <;> with_reducible rfl
      simp only [Act.put, List.getElem_toArray, List.getElem_cons_zero, List.getElem_cons_succ, List.setIfInBounds_toArray, List.set_cons_zero, List.set_cons_succ]
      refine anyL_ready (rs := [6, 11]) (by kernel_rfl) (by simp) ?_
      refine AllL.cons rfl (fun K hK => ?_) (AllL.cons rfl (fun K hK => ?_) AllL.nil)
      · have HC := hide (unhide HDo z0 (unhide HX0))
        go_simp
        refine (unhide HC).mono ?_
        rintro y w1 ⟨g', n2, L2, a2, c2, D2, rfl, s1, x1⟩
        have hx1 := (unhide HX0).trans (x1.mono (unhide HX0).size)
        have HX1 := hide hx1
        have HS1 := hide s1
        refine unhide hK _ _ (fun _ => unhide HSw w1 hx1) ?_
        clear hK K s1 x1 hx1 HC
        refine anyL_take (i := 7) (v := ?vpd70) rfl (by kernel_rfl) (by kernel_rfl) (by kernel_rfl) (by kernel_rfl) (fun _ _ _ h => h) (Or.inl ⟨by rfl, ?hpd70⟩) (unhide HSw _ (unhide HX1)) ?_
        case hpd70 => (intro w hSw; (try dsimp only at hSw); go_simp) <;> with_reducible rfl
        simp only [Act.put, List.getElem_toArray, List.getElem_cons_zero, List.getElem_cons_succ, List.setIfInBounds_toArray, List.set_cons_zero, List.set_cons_succ]
        refine anyL_take (i := 8) (v := ?vpd71) rfl (by kernel_rfl) (by kernel_rfl) (by kernel_rfl) (by kernel_rfl) (fun _ _ _ h => h) (Or.inl ⟨by rfl, ?hpd71⟩) (unhide HSw _ (unhide HX1)) ?_
        case hpd71 => (intro w hSw; (try dsimp only at hSw); go_simp) <;> with_reducible rfl
        simp only [Act.put, List.getElem_toArray, List.getElem_cons_zero, List.getElem_cons_succ, List.setIfInBounds_toArray, List.set_cons_zero, List.set_cons_succ]
        refine anyL_take (i := 9) (v := ?vpd72) rfl (by kernel_rfl) (by kernel_rfl) (by kernel_rfl) (by kernel_rfl) (fun _ _ _ h => h) (Or.inl ⟨by rfl, ?hpd72⟩) (unhide HSw _ (unhide HX1)) ?_
        case hpd72 => (intro w hSw; (try dsimp only at hSw); go_simp) <;> with_reducible rfl
        simp only [Act.put, List.getElem_toArray, List.getElem_cons_zero, List.getElem_cons_succ, List.setIfInBounds_toArray, List.set_cons_zero, List.set_cons_succ]
        refine anyL_take (i := 10) (v := ?vpd73) rfl (by kernel_rfl) (by kernel_rfl) (by kernel_rfl) (by kernel_rfl) (fun _ _ _ h => h) (Or.inl ⟨by rfl, ?hpd73⟩) (unhide HSw _ (unhide HX1)) ?_
        case hpd73 => (intro w hSw; (try dsimp only at hSw); go_simp) <;> with_reducible rfl
        simp only [Act.put, List.getElem_toArray, List.getElem_cons_zero, List.getElem_cons_succ, List.setIfInBounds_toArray, List.set_cons_zero, List.set_cons_succ]
        refine anyL_ready (rs := [11]) (by kernel_rfl) (by simp) ?_
        refine AllL.cons rfl (fun K hK => ?_) AllL.nil
        go_simp
        have xa := (unhide HX1).alloc (unhide HX1).size (.cells #[.int .i64 0, .slice none 0 0] 29)
        have kb := Cls.new w1 29 #[.int .i64 0, .slice none 0 0]
        have HXa := hide xa
        have HKb := hide kb
        have HS1 := hide ((unhide HS1).below ((Below.refl w1.heap.size w1).alloc (Nat.le_refl _) (.cells #[.int .i64 0, .slice none 0 0] 29)))
        refine unhide hK _ _ (fun _ => unhide HSw _ xa) ?_
        clear hK K xa kb
        generalize hbn : w1.heap.size = bn at HKb ⊢
        have HBN : Hid (wr.heap.size ≤ bn) := hide (by rw [← hbn]; exact (unhide HX1).size)
        clear hbn
        generalize w1.alloc (.cells #[.int .i64 0, .slice none 0 0] 29) = wa at *
        refine anyL_take (i := 12) (v := ?vpd74) rfl (by kernel_rfl) (by kernel_rfl) (by kernel_rfl) (by kernel_rfl) (fun _ _ _ h => h) (Or.inl ⟨by rfl, ?hpd74⟩) (unhide HSw _ (unhide HXa)) ?_
        case hpd74 => (intro w hSw; (try dsimp only at hSw); go_simp) <;> with_reducible rfl
        simp only [Act.put, List.getElem_toArray, List.getElem_cons_zero, List.getElem_cons_succ, List.setIfInBounds_toArray, List.set_cons_zero, List.set_cons_succ]
        refine anyL_ready (rs := [13]) (by kernel_rfl) (by simp) ?_
        refine AllL.cons rfl (fun K hK => ?_) AllL.nil
        have kb := unhide HKb
        obtain ⟨y0, y1⟩ := kb.two
        have f0 := kb.frozen 0
        have f1 := kb.frozen 1
        have kp := kb.put2 (.int .i64 n2) (.slice a2 D2.length c2) (unhide HXa) (unhide HBN)
        have HXF := hide kp.2
        have HKF := hide kp.1
        have HSF := hide ((unhide HS1).put2 kb (.int .i64 n2) (.slice a2 D2.length c2))
        go_simp
        refine unhide hK _ _ (fun _ => unhide HSw _ kp.2) ?_
        clear hK K y0 y1 f0 f1 kb kp
        generalize (wa.setCell ⟨bn, 0, none⟩ (.int .i64 n2)).setCell ⟨bn, 1, none⟩ (.slice a2 D2.length c2) = wF at *
        refine anyL_take (i := 14) (v := ?vpd75) rfl (by kernel_rfl) (by kernel_rfl) (by kernel_rfl) (by kernel_rfl) (fun _ _ _ h => h) (Or.inl ⟨by rfl, ?hpd75⟩) (unhide HSw _ (unhide HXF)) ?_
        case hpd75 => (intro w hSw; (try dsimp only at hSw); go_simp) <;> with_reducible rfl
        simp only [Act.put, List.getElem_toArray, List.getElem_cons_zero, List.getElem_cons_succ, List.setIfInBounds_toArray, List.set_cons_zero, List.set_cons_succ]
        refine anyL_done (by kernel_rfl) ?_ _
        have HJF := hide ((unhide HJ).on (unhide HXF))
        go_upto_region 11 with fail
        have kD : Cls wF.drew G9 29 #[.int .i64 n1, .slice a1 D.length c1] := (unhide HJF).k
        have kS : Cls wF.drew bn 29 #[.int .i64 n2, .slice a2 D2.length c2] := unhide HKF
        have HSB : Hid (wF.drew.cell? ⟨bn, 0, none⟩ = some (.int .i64 n2) ∧ wF.drew.cell? ⟨bn, 1, none⟩ = some (.slice a2 D2.length c2)) := hide kS.two
        obtain ⟨y0, y1⟩ := kD.two
        have f0 := kD.frozen 0
        have f1 := kD.frozen 1
        have sN := (unhide HSF).below (Below.refl wF.heap.size wF).drew
        have bN := (unhide HJF).b.drew
        have kp := kD.put2 (.int .i64 n2) (.slice a2 D2.length c2) bN (unhide HJF).g
        have HJN : Hid (ScJ w ((wF.drew.setCell ⟨G9, 0, none⟩ (.int .i64 n2)).setCell ⟨G9, 1, none⟩ (.slice a2 D2.length c2)) G9 g' n2 L2 a2 c2 D2) := hide ⟨sN.put2 kD _ _, kp.1, kp.2, (unhide HJF).g⟩
        clear sN bN kp
        clear kS kD
        refine regionL (S := fun z => z.cell? ⟨bn, 0, none⟩ = some (.int .i64 n2) ∧ z.cell? ⟨bn, 1, none⟩ = some (.slice a2 D2.length c2)) (fun i => i == 3) (by kernel_rfl) ?_
        generalize wF.drew = zz at *
        refine anyL_take (i := 0) (v := ?vpb76) rfl (by kernel_rfl) (by kernel_rfl) (by kernel_rfl) (by kernel_rfl) (fun _ _ _ h => h) (Or.inl ⟨by rfl, ?hpb76⟩) (unhide HSB) ?_
        case hpb76 => (intro w hSw; (try dsimp only at hSw); go_simp) <;> with_reducible rfl
        simp only [Act.put, List.getElem_toArray, List.getElem_cons_zero, List.setIfInBounds_toArray, List.set_cons_zero, List.set_cons_succ]
        refine anyL_take (i := 1) (v := ?vpb77) rfl (by kernel_rfl) (by kernel_rfl) (by kernel_rfl) (by kernel_rfl) (fun _ _ _ h => h) (Or.inl ⟨by rfl, ?hpb77⟩) (unhide HSB) ?_
        case hpb77 => (intro w hSw; (try dsimp only at hSw); go_simp) <;> with_reducible rfl
        simp only [Act.put, List.getElem_toArray, List.getElem_cons_zero, List.getElem_cons_succ, List.setIfInBounds_toArray, List.set_cons_zero, List.set_cons_succ]
        refine anyL_take (i := 2) (v := ?vpb78) rfl (by kernel_rfl) (by kernel_rfl) (by kernel_rfl) (by kernel_rfl) (fun _ _ _ h => h) (Or.inl ⟨by rfl, ?hpb78⟩) (unhide HSB) ?_
        case hpb78 => (intro w hSw; (try dsimp only at hSw); go_simp) <;> with_reducible rfl
        simp only [Act.put, List.getElem_toArray, List.getElem_cons_zero, List.getElem_cons_succ, List.setIfInBounds_toArray, List.set_cons_zero, List.set_cons_succ]
        refine anyL_ready (rs := [3]) (by kernel_rfl) (by simp) ?_
        refine AllL.cons rfl (fun K hK => ?_) AllL.nil
        go_simp
        refine unhide hK _ _ (fun h => by cases h) ?_
        clear hK K
        refine anyL_done (by kernel_rfl) ?_ _
        go_wp2_with fail
        go_roundw
        case rel => exact ⟨⟨⟨_, rfl⟩, ⟨_, rfl⟩, ⟨_, rfl⟩⟩, i + 1, g', by go_num, rfl, hlt, hide ⟨_, _, _, _, _, unhide HJN⟩⟩
        case measure => simp [intOf]; omega
      · go_simp
        have xa := (unhide HX0).alloc (unhide HX0).size (.cells #[.int .i64 0, .slice none 0 0] 29)
        have kb := Cls.new z0 29 #[.int .i64 0, .slice none 0 0]
        have HXa := hide xa
        have HKb := hide kb
        refine unhide hK _ _ (fun _ => unhide HSw _ xa) ?_
        clear hK K xa kb
        generalize hbn : z0.heap.size = bn at HKb ⊢
        have HBN : Hid (wr.heap.size ≤ bn) := hide (by rw [← hbn]; exact (unhide HX0).size)
        clear hbn
        generalize z0.alloc (.cells #[.int .i64 0, .slice none 0 0] 29) = wa at *
        refine anyL_ready (rs := [6]) (by kernel_rfl) (by simp) ?_
        refine AllL.cons rfl (fun K hK => ?_) AllL.nil
        have HC := hide (unhide HDo wa (unhide HXa))
        go_simp
        refine (unhide HC).mono ?_
        rintro y w1 ⟨g', n2, L2, a2, c2, D2, rfl, s1, x1⟩
        have hx1 := (unhide HXa).trans (x1.mono (unhide HXa).size)
        have HX1 := hide hx1
        have HS1 := hide s1
        have HKb := hide ((unhide HKb).below x1 (unhide HKb).lt)
        refine unhide hK _ _ (fun _ => unhide HSw w1 hx1) ?_
        clear hK K s1 x1 hx1 HC
        refine anyL_take (i := 7) (v := ?vpd79) rfl (by kernel_rfl) (by kernel_rfl) (by kernel_rfl) (by kernel_rfl) (fun _ _ _ h => h) (Or.inl ⟨by rfl, ?hpd79⟩) (unhide HSw _ (unhide HX1)) ?_
        case hpd79 => (intro w hSw; (try dsimp only at hSw); go_simp) <;> with_reducible rfl
        simp only [Act.put, List.getElem_toArray, List.getElem_cons_zero, List.getElem_cons_succ, List.setIfInBounds_toArray, List.set_cons_zero, List.set_cons_succ]
        refine anyL_take (i := 8) (v := ?vpd80) rfl (by kernel_rfl) (by kernel_rfl) (by kernel_rfl) (by kernel_rfl) (fun _ _ _ h => h) (Or.inl ⟨by rfl, ?hpd80⟩) (unhide HSw _ (unhide HX1)) ?_
        case hpd80 => (intro w hSw; (try dsimp only at hSw); go_simp) <;> with_reducible rfl
        simp only [Act.put, List.getElem_toArray, List.getElem_cons_zero, List.getElem_cons_succ, List.setIfInBounds_toArray, List.set_cons_zero, List.set_cons_succ]
        refine anyL_take (i := 9) (v := ?vpd81) rfl (by kernel_rfl) (by kernel_rfl) (by kernel_rfl) (by kernel_rfl) (fun _ _ _ h => h) (Or.inl ⟨by rfl, ?hpd81⟩) (unhide HSw _ (unhide HX1)) ?_
        case hpd81 => (intro w hSw; (try dsimp only at hSw); go_simp) <;> with_reducible rfl
        simp only [Act.put, List.getElem_toArray, List.getElem_cons_zero, List.getElem_cons_succ, List.setIfInBounds_toArray, List.set_cons_zero, List.set_cons_succ]
        refine anyL_take (i := 10) (v := ?vpd82) rfl (by kernel_rfl) (by kernel_rfl) (by kernel_rfl) (by kernel_rfl) (fun _ _ _ h => h) (Or.inl ⟨by rfl, ?hpd82⟩) (unhide HSw _ (unhide HX1)) ?_
        case hpd82 => (intro w hSw; (try dsimp only at hSw); go_simp) <;> with_reducible rfl
        simp only [Act.put, List.getElem_toArray, List.getElem_cons_zero, List.getElem_cons_succ, List.setIfInBounds_toArray, List.set_cons_zero, List.set_cons_succ]
        refine anyL_take (i := 12) (v := ?vpd83) rfl (by kernel_rfl) (by kernel_rfl) (by kernel_rfl) (by kernel_rfl) (fun _ _ _ h => h) (Or.inl ⟨by rfl, ?hpd83⟩) (unhide HSw _ (unhide HX1)) ?_
        case hpd83 => (intro w hSw; (try dsimp only at hSw); go_simp) <;> with_reducible rfl
        simp only [Act.put, List.getElem_toArray, List.getElem_cons_zero, List.getElem_cons_succ, List.setIfInBounds_toArray, List.set_cons_zero, List.set_cons_succ]
        refine anyL_ready (rs := [13]) (by kernel_rfl) (by simp) ?_
        refine AllL.cons rfl (fun K hK => ?_) AllL.nil
        have kb := unhide HKb
        obtain ⟨y0, y1⟩ := kb.two
        have f0 := kb.frozen 0
        have f1 := kb.frozen 1
        have kp := kb.put2 (.int .i64 n2) (.slice a2 D2.length c2) (unhide HX1) (unhide HBN)
        have HXF := hide kp.2
        have HKF := hide kp.1
        have HSF := hide ((unhide HS1).put2 kb (.int .i64 n2) (.slice a2 D2.length c2))
        go_simp
        refine unhide hK _ _ (fun _ => unhide HSw _ kp.2) ?_
        clear hK K y0 y1 f0 f1 kb kp
        generalize (w1.setCell ⟨bn, 0, none⟩ (.int .i64 n2)).setCell ⟨bn, 1, none⟩ (.slice a2 D2.length c2) = wF at *
        refine anyL_take (i := 14) (v := ?vpd84) rfl (by kernel_rfl) (by kernel_rfl) (by kernel_rfl) (by kernel_rfl) (fun _ _ _ h => h) (Or.inl ⟨by rfl, ?hpd84⟩) (unhide HSw _ (unhide HXF)) ?_
        case hpd84 => (intro w hSw; (try dsimp only at hSw); go_simp) <;> with_reducible rfl
        simp only [Act.put, List.getElem_toArray, List.getElem_cons_zero, List.getElem_cons_succ, List.setIfInBounds_toArray, List.set_cons_zero, List.set_cons_succ]
        refine anyL_done (by kernel_rfl) ?_ _
        have HJF := hide ((unhide HJ).on (unhide HXF))
        go_upto_region 11 with fail
        have kD : Cls wF.drew G9 29 #[.int .i64 n1, .slice a1 D.length c1] := (unhide HJF).k
        have kS : Cls wF.drew bn 29 #[.int .i64 n2, .slice a2 D2.length c2] := unhide HKF
        have HSB : Hid (wF.drew.cell? ⟨bn, 0, none⟩ = some (.int .i64 n2) ∧ wF.drew.cell? ⟨bn, 1, none⟩ = some (.slice a2 D2.length c2)) := hide kS.two
        obtain ⟨y0, y1⟩ := kD.two
        have f0 := kD.frozen 0
        have f1 := kD.frozen 1
        have sN := (unhide HSF).below (Below.refl wF.heap.size wF).drew
        have bN := (unhide HJF).b.drew
        have kp := kD.put2 (.int .i64 n2) (.slice a2 D2.length c2) bN (unhide HJF).g
        have HJN : Hid (ScJ w ((wF.drew.setCell ⟨G9, 0, none⟩ (.int .i64 n2)).setCell ⟨G9, 1, none⟩ (.slice a2 D2.length c2)) G9 g' n2 L2 a2 c2 D2) := hide ⟨sN.put2 kD _ _, kp.1, kp.2, (unhide HJF).g⟩
        clear sN bN kp
        clear kS kD
        refine regionL (S := fun z => z.cell? ⟨bn, 0, none⟩ = some (.int .i64 n2) ∧ z.cell? ⟨bn, 1, none⟩ = some (.slice a2 D2.length c2)) (fun i => i == 3) (by kernel_rfl) ?_
        generalize wF.drew = zz at *
        refine anyL_take (i := 0) (v := ?vpb85) rfl (by kernel_rfl) (by kernel_rfl) (by kernel_rfl) (by kernel_rfl) (fun _ _ _ h => h) (Or.inl ⟨by rfl, ?hpb85⟩) (unhide HSB) ?_
        case hpb85 => (intro w hSw; (try dsimp only at hSw); go_simp) <;> with_reducible rfl
        simp only [Act.put, List.getElem_toArray, List.getElem_cons_zero, List.setIfInBounds_toArray, List.set_cons_zero, List.set_cons_succ]
        refine anyL_take (i := 1) (v := ?vpb86) rfl (by kernel_rfl) (by kernel_rfl) (by kernel_rfl) (by kernel_rfl) (fun _ _ _ h => h) (Or.inl ⟨by rfl, ?hpb86⟩) (unhide HSB) ?_
        case hpb86 => (intro w hSw; (try dsimp only at hSw); go_simp) <;> with_reducible rfl
        simp only [Act.put, List.getElem_toArray, List.getElem_cons_zero, List.getElem_cons_succ, List.setIfInBounds_toArray, List.set_cons_zero, List.set_cons_succ]
        refine anyL_take (i := 2) (v := ?vpb87) rfl (by kernel_rfl) (by kernel_rfl) (by kernel_rfl) (by kernel_rfl) (fun _ _ _ h => h) (Or.inl ⟨by rfl, ?hpb87⟩) (unhide HSB) ?_
        case hpb87 => (intro w hSw; (try dsimp only at hSw); go_simp) <;> with_reducible rfl
        simp only [Act.put, List.getElem_toArray, List.getElem_cons_zero, List.getElem_cons_succ, List.setIfInBounds_toArray, List.set_cons_zero, List.set_cons_succ]
        refine anyL_ready (rs := [3]) (by kernel_rfl) (by simp) ?_
        refine AllL.cons rfl (fun K hK => ?_) AllL.nil
        go_simp
        refine unhide hK _ _ (fun h => by cases h) ?_
        clear hK K
        refine anyL_done (by kernel_rfl) ?_ _
        go_wp2_with fail
        go_roundw
        case rel => exact ⟨⟨⟨_, rfl⟩, ⟨_, rfl⟩, ⟨_, rfl⟩⟩, i + 1, g', by go_num, rfl, hlt, hide ⟨_, _, _, _, _, unhide HJN⟩⟩
        case measure => simp [intOf]; omega
    · obtain rfl : i = N := by omega
      have t1 : decide ((i : Int) < (i : Int)) = false := decide_eq_false (by omega)
      clear hlt
      go_upto_region 12 with fail
      have kS : Cls wr.drew G9 29 #[.int .i64 n1, .slice a1 D.length c1] := (unhide HJ).k
      have kD : Cls wr.drew X.heap.size 29 #[.int .i64 0, .slice none 0 0] := (unhide HK).below (unhide HJ).b.drew (unhide HK).lt
      have HSB : Hid (wr.drew.cell? ⟨G9, 0, none⟩ = some (.int .i64 n1) ∧ wr.drew.cell? ⟨G9, 1, none⟩ = some (.slice a1 D.length c1)) := hide kS.two
      obtain ⟨y0, y1⟩ := kD.two
      have f0 := kD.frozen 0
      have f1 := kD.frozen 1
      have sN := (unhide HJ).s.below (Below.refl wr.heap.size wr).drew
      have bN := (unhide HW).trans ((unhide HJ).b.drew.mono (unhide HW).size)
      have kp := kD.put2 (.int .i64 n1) (.slice a1 D.length c1) bN (Nat.le_refl _)
      obtain ⟨r0, r1⟩ := kp.1.two
      have HB9 := hide kp.2
      have HS9 := hide (sN.put2 kD (.int .i64 n1) (.slice a1 D.length c1))
      clear kp sN bN
      clear kS kD
      refine regionL (S := fun z => z.cell? ⟨G9, 0, none⟩ = some (.int .i64 n1) ∧ z.cell? ⟨G9, 1, none⟩ = some (.slice a1 D.length c1)) (fun i => i == 3) (by kernel_rfl) ?_
      generalize wr.drew = zz at *
      refine anyL_take (i := 0) (v := ?vpz88) rfl (by kernel_rfl) (by kernel_rfl) (by kernel_rfl) (by kernel_rfl) (fun _ _ _ h => h) (Or.inl ⟨by rfl, ?hpz88⟩) (unhide HSB) ?_
      case hpz88 => (intro w hSw; (try dsimp only at hSw); go_simp) <;> with_reducible rfl
      simp only [Act.put, List.getElem_toArray, List.getElem_cons_zero, List.setIfInBounds_toArray, List.set_cons_zero, List.set_cons_succ]
      refine anyL_take (i := 1) (v := ?vpz89) rfl (by kernel_rfl) (by kernel_rfl) (by kernel_rfl) (by kernel_rfl) (fun _ _ _ h => h) (Or.inl ⟨by rfl, ?hpz89⟩) (unhide HSB) ?_
      case hpz89 => (intro w hSw; (try dsimp only at hSw); go_simp) <;> with_reducible rfl
      simp only [Act.put, List.getElem_toArray, List.getElem_cons_zero, List.getElem_cons_succ, List.setIfInBounds_toArray, List.set_cons_zero, List.set_cons_succ]
      refine anyL_take (i := 2) (v := ?vpz90) rfl (by kernel_rfl) (by kernel_rfl) (by kernel_rfl) (by kernel_rfl) (fun _ _ _ h => h) (Or.inl ⟨by rfl, ?hpz90⟩) (unhide HSB) ?_
      case hpz90 => (intro w hSw; (try dsimp only at hSw); go_simp) <;> with_reducible rfl
      simp only [Act.put, List.getElem_toArray, List.getElem_cons_zero, List.getElem_cons_succ, List.setIfInBounds_toArray, List.set_cons_zero, List.set_cons_succ]
      refine anyL_ready (rs := [3]) (by kernel_rfl) (by simp) ?_
      refine AllL.cons rfl (fun K hK => ?_) AllL.nil
      go_simp
      refine unhide hK _ _ (fun h => by cases h) ?_
      clear hK K
      refine anyL_done (by kernel_rfl) ?_ _
      go_wp2_with fail
      refine bodyPost_ret (v := .tuple #[.pointer (some ⟨g1, 0, none⟩), .agg #[.int .i64 n1, .slice a1 D.length c1]]) (by simp [results, Try.results6, go_sem, r0, r1]) rfl ?_
      exact ⟨g1, n1, L1, a1, c1, D, rfl, unhide HS9, unhide HB9⟩
end Go.Proofs.Ytfllomlighlejaa
