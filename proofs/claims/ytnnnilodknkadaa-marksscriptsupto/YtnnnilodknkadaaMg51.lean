/- Layer 15: MarksScripts' walk, second form (written by wip/tools/mkx.py). -/
import Derived.Test.YtnnnilodknkadaaMg50

namespace Go.Proofs.Ytnnnilodknkadaa
open Go.ChangeShapes Go.WideShapes Go.ChangeAt Go.RowKit
attribute [local go_sem] Oper.semAt_some

set_option maxRecDepth 100000 in
set_option maxHeartbeats 8000000 in
theorem MarksScripts_any (n : Int) (A : Option Addr) (cp : Nat) (l : List Ac) (w : World) (_hn : (Lit.int .i64 n).wf = true) (hA : IsAc w A l) (hl : l.length ≤ 1048576) :
    Calls Try.prog 3 #[.int .i64 n, .slice A l.length cp] w fun y w' => y = .returned (.bool true) ∧ Below w.heap.size w w' := by
  have HAw := hide (awake15_at w)
  have HAc := hide hA
  obtain ⟨N, hN⟩ : ∃ N, N = l.length := ⟨_, rfl⟩
  have HN := hide hN
  rw [← hN] at hl ⊢
  clear hA hN _hn
  by_cases hr : 0 ≤ n ∧ n ≤ 268435456
  case neg =>
    have HBg := hide fun (Y : World) => beginE_at n Y hr
    clear hr
    go_enter Try.func3, Try.ntmps3
    go_wp2_with fail
    refine (unhide HAw).mono ?_
    rintro y w1 ⟨rfl, x1⟩
    dsimp only
    have HX1 := hide x1
    have HC2 := hide (unhide HBg w1)
    clear HAw HBg x1
    go_wp2_with fail
    refine (unhide HC2).mono ?_
    rintro y w2 ⟨rfl, x2⟩
    dsimp only
    have HX2 := hide ((unhide HX1).trans (x2.mono (unhide HX1).size))
    clear HC2 HX1 x2
    go_wp2_with fail
    refine bodyPost_ret (results_tmp rfl _ _ _) rfl ⟨rfl, unhide HX2⟩
  have HBg := hide fun (Y : World) => begin_at n Y hr
  clear hr
  go_enter Try.func3, Try.ntmps3
  go_wp2_with fail
  refine (unhide HAw).mono ?_
  rintro y w1 ⟨rfl, x1⟩
  dsimp only
  have HX1 := hide x1
  have HC2 := hide (unhide HBg w1)
  clear HAw HBg x1
  go_wp2_with fail
  refine (unhide HC2).mono ?_
  rintro y w2 ⟨g0, rfl, s2, x2⟩
  dsimp only
  have hx2 := (unhide HX1).trans (x2.mono (unhide HX1).size)
  have b3 := (Below.refl w2.heap.size w2).alloc (Nat.le_refl _) (.cells #[.int .i64 n, .slice none 0 0] 29)
  have HJ0 : Hid (ScJ w (w2.alloc (.cells #[.int .i64 n, .slice none 0 0] 29)) w2.heap.size g0 n [] none 0 []) := hide ⟨⟨s2.below b3 (Nat.le_refl _), .inl rfl, Rel.nil, InP.nil n, by simp, .inl rfl⟩, Cls.new w2 29 _, hx2.trans (b3.mono hx2.size), hx2.size⟩
  clear HC2 HX1 s2 x2 hx2 b3
  go_wp2_with fail
  generalize w2.heap.size = G9 at *
  go_loopw [5, 9, 10, 11, 12] (fun v5 v9 v10 v11 v12 wx => ((∃ z, v10 = z) ∧ (∃ z, v11 = z) ∧ (∃ z, v12 = z)) ∧ ∃ (i g1 : Nat), v9 = .int .i64 (i : Int) ∧ v5 = .pointer (some ⟨g1, 0, none⟩) ∧ i ≤ N ∧ Hid (∃ n1 L1 a1 c1 D, ScJ w wx G9 g1 n1 L1 a1 c1 D)) (fun _ v9 _ _ _ _ => N - (intOf v9).toNat)
  case atStart => exact ⟨⟨⟨_, rfl⟩, ⟨_, rfl⟩, ⟨_, rfl⟩⟩, 0, g0, rfl, rfl, Nat.zero_le _, hide ⟨_, _, _, _, _, unhide HJ0⟩⟩
  case round =>
    clear HJ0
    obtain ⟨⟨⟨z1, rfl⟩, ⟨z2, rfl⟩, ⟨z3, rfl⟩⟩, i, g1, rfl, rfl, hi, HI⟩ := hrel
    obtain ⟨n1, L1, a1, c1, D, hJ⟩ := unhide HI
    have HJ := hide hJ
    clear HI hJ
    by_cases hlt : i < N
    · have t1 : decide ((i : Int) < (N : Int)) = true := decide_eq_true (by omega)
      have hlt' : i < l.length := by rw [← unhide HN]; exact hlt
      obtain ⟨hAI, eg, eo, ha, heg, hcl⟩ := (unhide HAc).at hlt' (unhide HJ).b
      subst ha
      generalize l.getD i acZ = ac at *
      obtain ⟨kd, ⟨xn, xp, xg⟩, ad, cd, d⟩ := ac
      have q0 := hcl 0 (by decide)
      have q1 := hcl 1 (by decide)
      have q2 := hcl 2 (by decide)
      have q3 := hcl 3 (by decide)
      have q4 := hcl 4 (by decide)
      have hSc : wr.cell? ⟨G9, 0, none⟩ = some (.int .i64 n1) ∧ wr.cell? ⟨G9, 1, none⟩ = some (.slice a1 D.length c1) ∧ wr.cell? ⟨eg, eo + i * 5, none⟩ = some (.int .i64 kd) ∧ wr.cell? ⟨eg, eo + i * 5 + 1, none⟩ = some (.string xn) ∧ wr.cell? ⟨eg, eo + i * 5 + 2, none⟩ = some (.int .i64 xp) ∧ wr.cell? ⟨eg, eo + i * 5 + 3, none⟩ = some (.int .i64 xg) ∧ wr.cell? ⟨eg, eo + i * 5 + 4, none⟩ = some (.slice ad d.length cd) := ⟨(unhide HJ).k.two.1, (unhide HJ).k.two.2, q0, q1, q2, q3, q4⟩
      have heg' : eg < wr.heap.size := Nat.lt_of_lt_of_le heg (unhide HJ).b.size
      have HSw : Hid (∀ Y, Below wr.heap.size wr Y → Y.cell? ⟨G9, 0, none⟩ = some (.int .i64 n1) ∧ Y.cell? ⟨G9, 1, none⟩ = some (.slice a1 D.length c1) ∧ Y.cell? ⟨eg, eo + i * 5, none⟩ = some (.int .i64 kd) ∧ Y.cell? ⟨eg, eo + i * 5 + 1, none⟩ = some (.string xn) ∧ Y.cell? ⟨eg, eo + i * 5 + 2, none⟩ = some (.int .i64 xp) ∧ Y.cell? ⟨eg, eo + i * 5 + 3, none⟩ = some (.int .i64 xg) ∧ Y.cell? ⟨eg, eo + i * 5 + 4, none⟩ = some (.slice ad d.length cd)) := hide fun Y hY => by
        obtain ⟨p0, p1, p2, p3, p4, p5, p6⟩ := hSc
        have hb : ∀ (g o : Nat), g < wr.heap.size → Y.cell? ⟨g, o, none⟩ = wr.cell? ⟨g, o, none⟩ := fun g o hg => hY.cell (p := ⟨g, o, none⟩) hg
        have kl := (unhide HJ).k.lt
        exact ⟨(hb _ _ kl).trans p0, (hb _ _ kl).trans p1, (hb _ _ heg').trans p2, (hb _ _ heg').trans p3, (hb _ _ heg').trans p4, (hb _ _ heg').trans p5, (hb _ _ heg').trans p6⟩
      have HX0 := hide ((Below.refl wr.heap.size wr).drew)
      have HDo := hide fun (Y : World) (hY : Below wr.heap.size wr Y) => do_at g1 n1 L1 a1 c1 D kd ⟨xn, xp, xg⟩ ad cd d Y ((unhide HJ).s.below hY) (hAI.o.below hY (Nat.le_refl _)) hAI.z (by have := hAI.l; dsimp only at this; omega) hAI.tx
      unfold msV acV at HDo
      dsimp only at HDo
      clear hAI hcl q0 q1 q2 q3 q4 hSc heg heg' hlt'
      go_upto_region 12 with fail
      refine regionL (S := fun z => z.cell? ⟨G9, 0, none⟩ = some (.int .i64 n1) ∧ z.cell? ⟨G9, 1, none⟩ = some (.slice a1 D.length c1) ∧ z.cell? ⟨eg, eo + i * 5, none⟩ = some (.int .i64 kd) ∧ z.cell? ⟨eg, eo + i * 5 + 1, none⟩ = some (.string xn) ∧ z.cell? ⟨eg, eo + i * 5 + 2, none⟩ = some (.int .i64 xp) ∧ z.cell? ⟨eg, eo + i * 5 + 3, none⟩ = some (.int .i64 xg) ∧ z.cell? ⟨eg, eo + i * 5 + 4, none⟩ = some (.slice ad d.length cd)) (fun _ => false) (by kernel_rfl) ?_
      generalize wr.drew = z0 at *
      refine anyL_take (i := 0) (v := ?vsc0) rfl (by kernel_rfl) (by kernel_rfl) (by kernel_rfl) (by kernel_rfl) (fun _ _ _ h => h) (Or.inl ⟨by rfl, ?hsc0⟩) (unhide HSw _ (unhide HX0)) ?_
      case hsc0 => (intro w hSw; (try dsimp only at hSw); go_simp) <;> with_reducible rfl
      simp only [Act.put, List.getElem_toArray, List.getElem_cons_zero, List.setIfInBounds_toArray, List.set_cons_zero, List.set_cons_succ]
      refine anyL_take (i := 1) (v := ?vsc1) rfl (by kernel_rfl) (by kernel_rfl) (by kernel_rfl) (by kernel_rfl) (fun _ _ _ h => h) (Or.inl ⟨by rfl, ?hsc1⟩) (unhide HSw _ (unhide HX0)) ?_
      case hsc1 => (intro w hSw; (try dsimp only at hSw); go_simp) <;> with_reducible rfl
      simp only [Act.put, List.getElem_toArray, List.getElem_cons_zero, List.getElem_cons_succ, List.setIfInBounds_toArray, List.set_cons_zero, List.set_cons_succ]
      refine anyL_take (i := 2) (v := ?vsc2) rfl (by kernel_rfl) (by kernel_rfl) (by kernel_rfl) (by kernel_rfl) (fun _ _ _ h => h) (Or.inl ⟨by rfl, ?hsc2⟩) (unhide HSw _ (unhide HX0)) ?_
      case hsc2 => (intro w hSw; (try dsimp only at hSw); go_simp) <;> with_reducible rfl
      simp only [Act.put, List.getElem_toArray, List.getElem_cons_zero, List.getElem_cons_succ, List.setIfInBounds_toArray, List.set_cons_zero, List.set_cons_succ]
      refine anyL_take (i := 3) (v := ?vsc3) rfl (by kernel_rfl) (by kernel_rfl) (by kernel_rfl) (by kernel_rfl) (fun _ _ _ h => h) (Or.inl ⟨by rfl, ?hsc3⟩) (unhide HSw _ (unhide HX0)) ?_
      case hsc3 => (intro w hSw; (try dsimp only at hSw); go_simp) <;> with_reducible rfl
      simp only [Act.put, List.getElem_toArray, List.getElem_cons_zero, List.getElem_cons_succ, List.setIfInBounds_toArray, List.set_cons_zero, List.set_cons_succ]
      refine anyL_take (i := 4) (v := ?vsc4) rfl (by kernel_rfl) (by kernel_rfl) (by kernel_rfl) (by kernel_rfl) (fun _ _ _ h => h) (Or.inl ⟨by rfl, ?hsc4⟩) (unhide HSw _ (unhide HX0)) ?_
      case hsc4 => (intro w hSw; (try dsimp only at hSw); go_simp) <;> with_reducible rfl
      simp only [Act.put, List.getElem_toArray, List.getElem_cons_zero, List.getElem_cons_succ, List.setIfInBounds_toArray, List.set_cons_zero, List.set_cons_succ]
      refine anyL_take (i := 5) (v := ?vsc5) rfl (by kernel_rfl) (by kernel_rfl) (by kernel_rfl) (by kernel_rfl) (fun _ _ _ h => h) (Or.inl ⟨by rfl, ?hsc5⟩) (unhide HSw _ (unhide HX0)) ?_
      case hsc5 => (intro w hSw; (try dsimp only at hSw); go_simp) <;> with_reducible rfl
      simp only [Act.put, List.getElem_toArray, List.getElem_cons_zero, List.getElem_cons_succ, List.setIfInBounds_toArray, List.set_cons_zero, List.set_cons_succ]
      refine anyL_ready (rs := [6, 11]) (by kernel_rfl) (by simp) ?_
      refine AllL.cons rfl (fun K hK => ?_) (AllL.cons rfl (fun K hK => ?_) AllL.nil)
      · have HC := hide (unhide HDo z0 (unhide HX0))
        go_simp
        refine (unhide HC).mono ?_
        rintro y w1 ⟨g', n2, L2, a2, c2, D2, rfl, s1, x1⟩
        have hx1 := (unhide HX0).trans (x1.mono (unhide HX0).size)
        have HX1 := hide hx1
        have HS1 := hide s1
        refine unhide hK _ _ (fun _ => unhide HSw w1 hx1) ?_
        clear hK K s1 x1 hx1 HC
        refine anyL_take (i := 7) (v := ?vsc6) rfl (by kernel_rfl) (by kernel_rfl) (by kernel_rfl) (by kernel_rfl) (fun _ _ _ h => h) (Or.inl ⟨by rfl, ?hsc6⟩) (unhide HSw _ (unhide HX1)) ?_
        case hsc6 => (intro w hSw; (try dsimp only at hSw); go_simp) <;> with_reducible rfl
        simp only [Act.put, List.getElem_toArray, List.getElem_cons_zero, List.getElem_cons_succ, List.setIfInBounds_toArray, List.set_cons_zero, List.set_cons_succ]
        refine anyL_take (i := 8) (v := ?vsc7) rfl (by kernel_rfl) (by kernel_rfl) (by kernel_rfl) (by kernel_rfl) (fun _ _ _ h => h) (Or.inl ⟨by rfl, ?hsc7⟩) (unhide HSw _ (unhide HX1)) ?_
        case hsc7 => (intro w hSw; (try dsimp only at hSw); go_simp) <;> with_reducible rfl
        simp only [Act.put, List.getElem_toArray, List.getElem_cons_zero, List.getElem_cons_succ, List.setIfInBounds_toArray, List.set_cons_zero, List.set_cons_succ]
        refine anyL_take (i := 9) (v := ?vsc8) rfl (by kernel_rfl) (by kernel_rfl) (by kernel_rfl) (by kernel_rfl) (fun _ _ _ h => h) (Or.inl ⟨by rfl, ?hsc8⟩) (unhide HSw _ (unhide HX1)) ?_
        case hsc8 => (intro w hSw; (try dsimp only at hSw); go_simp) <;> with_reducible rfl
        simp only [Act.put, List.getElem_toArray, List.getElem_cons_zero, List.getElem_cons_succ, List.setIfInBounds_toArray, List.set_cons_zero, List.set_cons_succ]
        refine anyL_take (i := 10) (v := ?vsc9) rfl (by kernel_rfl) (by kernel_rfl) (by kernel_rfl) (by kernel_rfl) (fun _ _ _ h => h) (Or.inl ⟨by rfl, ?hsc9⟩) (unhide HSw _ (unhide HX1)) ?_
        case hsc9 => (intro w hSw; (try dsimp only at hSw); go_simp) <;> with_reducible rfl
        simp only [Act.put, List.getElem_toArray, List.getElem_cons_zero, List.getElem_cons_succ, List.setIfInBounds_toArray, List.set_cons_zero, List.set_cons_succ]
        refine anyL_ready (rs := [11]) (by kernel_rfl) (by simp) ?_
        refine AllL.cons rfl (fun K hK => ?_) AllL.nil
        go_simp
        have xa := (unhide HX1).alloc (unhide HX1).size (.cells #[.int .i64 0, .slice none 0 0] 29)
        have kb := Cls.new w1 29 #[.int .i64 0, .slice none 0 0]
        have HXa := hide xa
        have HKb := hide kb
        have HS1 := hide ((unhide HS1).below ((Below.refl w1.heap.size w1).alloc (Nat.le_refl _) (.cells #[.int .i64 0, .slice none 0 0] 29)))
        refine unhide hK _ _ (fun _ => unhide HSw _ xa) ?_
        clear hK K xa kb
        generalize hbn : w1.heap.size = bn at HKb ⊢
        have HBN : Hid (wr.heap.size ≤ bn) := hide (by rw [← hbn]; exact (unhide HX1).size)
        clear hbn
        generalize w1.alloc (.cells #[.int .i64 0, .slice none 0 0] 29) = wa at *
        refine anyL_take (i := 12) (v := ?vsc10) rfl (by kernel_rfl) (by kernel_rfl) (by kernel_rfl) (by kernel_rfl) (fun _ _ _ h => h) (Or.inl ⟨by rfl, ?hsc10⟩) (unhide HSw _ (unhide HXa)) ?_
        case hsc10 => (intro w hSw; (try dsimp only at hSw); go_simp) <;> with_reducible rfl
        simp only [Act.put, List.getElem_toArray, List.getElem_cons_zero, List.getElem_cons_succ, List.setIfInBounds_toArray, List.set_cons_zero, List.set_cons_succ]
        refine anyL_ready (rs := [13]) (by kernel_rfl) (by simp) ?_
        refine AllL.cons rfl (fun K hK => ?_) AllL.nil
        have kb := unhide HKb
        obtain ⟨y0, y1⟩ := kb.two
        have f0 := kb.frozen 0
        have f1 := kb.frozen 1
        have kp := kb.put2 (.int .i64 n2) (.slice a2 D2.length c2) (unhide HXa) (unhide HBN)
        have HXF := hide kp.2
        have HKF := hide kp.1
        have HSF := hide ((unhide HS1).put2 kb (.int .i64 n2) (.slice a2 D2.length c2))
        go_simp
        refine unhide hK _ _ (fun _ => unhide HSw _ kp.2) ?_
        clear hK K y0 y1 f0 f1 kb kp
        generalize (wa.setCell ⟨bn, 0, none⟩ (.int .i64 n2)).setCell ⟨bn, 1, none⟩ (.slice a2 D2.length c2) = wF at *
        refine anyL_take (i := 14) (v := ?vsc11) rfl (by kernel_rfl) (by kernel_rfl) (by kernel_rfl) (by kernel_rfl) (fun _ _ _ h => h) (Or.inl ⟨by rfl, ?hsc11⟩) (unhide HSw _ (unhide HXF)) ?_
        case hsc11 => (intro w hSw; (try dsimp only at hSw); go_simp) <;> with_reducible rfl
        simp only [Act.put, List.getElem_toArray, List.getElem_cons_zero, List.getElem_cons_succ, List.setIfInBounds_toArray, List.set_cons_zero, List.set_cons_succ]
        refine anyL_done (by kernel_rfl) ?_ _
        have HJF := hide ((unhide HJ).on (unhide HXF))
        have HNF : Hid (StM wF g' n2 L2 a2 D2 ∧ Cls wF bn 29 #[.int .i64 n2, .slice a2 D2.length c2]) := hide ⟨unhide HSF, unhide HKF⟩
        clear HSF HKF
        go_upto_region 13 with fail
        have HJFD := hide ((unhide HJF).on (Below.refl wF.heap.size wF).drew)
        have HNFD := hide (And.intro ((unhide HNF).1.below (Below.refl wF.heap.size wF).drew) (show Cls wF.drew bn 29 #[.int .i64 n2, .slice a2 D2.length c2] from (unhide HNF).2))
        have HT1 := hide (MList_at g1 n1 L1 wF.drew (unhide HJFD).s.m (unhide HJFD).s.len)
        refine regionL (S := fun z => z.cell? ⟨G9, 0, none⟩ = some (.int .i64 n1) ∧ z.cell? ⟨G9, 1, none⟩ = some (.slice a1 D.length c1)) (fun _ => false) (by kernel_rfl) ?_
        refine anyL_take (i := 0) (v := ?vts12) rfl (by kernel_rfl) (by kernel_rfl) (by kernel_rfl) (by kernel_rfl) (fun _ _ _ h => h) (Or.inl ⟨by rfl, ?hts12⟩) ((unhide HJFD).k.two) ?_
        case hts12 => (intro w hSw; (try dsimp only at hSw); go_simp) <;> with_reducible rfl
        simp only [Act.put, List.getElem_toArray, List.getElem_cons_zero, List.setIfInBounds_toArray, List.set_cons_zero, List.set_cons_succ]
        refine anyL_take (i := 1) (v := ?vts13) rfl (by kernel_rfl) (by kernel_rfl) (by kernel_rfl) (by kernel_rfl) (fun _ _ _ h => h) (Or.inl ⟨by rfl, ?hts13⟩) ((unhide HJFD).k.two) ?_
        case hts13 => (intro w hSw; (try dsimp only at hSw); go_simp) <;> with_reducible rfl
        simp only [Act.put, List.getElem_toArray, List.getElem_cons_zero, List.getElem_cons_succ, List.setIfInBounds_toArray, List.set_cons_zero, List.set_cons_succ]
        refine anyL_take (i := 2) (v := ?vts14) rfl (by kernel_rfl) (by kernel_rfl) (by kernel_rfl) (by kernel_rfl) (fun _ _ _ h => h) (Or.inl ⟨by rfl, ?hts14⟩) ((unhide HJFD).k.two) ?_
        case hts14 => (intro w hSw; (try dsimp only at hSw); go_simp) <;> with_reducible rfl
        simp only [Act.put, List.getElem_toArray, List.getElem_cons_zero, List.getElem_cons_succ, List.setIfInBounds_toArray, List.set_cons_zero, List.set_cons_succ]
        refine anyL_take (i := 3) (v := ?vts15) rfl (by kernel_rfl) (by kernel_rfl) (by kernel_rfl) (by kernel_rfl) (fun _ _ _ h => h) (Or.inl ⟨by rfl, ?hts15⟩) ((unhide HJFD).k.two) ?_
        case hts15 => (intro w hSw; (try dsimp only at hSw); go_simp) <;> with_reducible rfl
        simp only [Act.put, List.getElem_toArray, List.getElem_cons_zero, List.getElem_cons_succ, List.setIfInBounds_toArray, List.set_cons_zero, List.set_cons_succ]
        refine anyL_take (i := 5) (v := ?vts16) rfl (by kernel_rfl) (by kernel_rfl) (by kernel_rfl) (by kernel_rfl) (fun _ _ _ h => h) (Or.inl ⟨by rfl, ?hts16⟩) ((unhide HJFD).k.two) ?_
        case hts16 => (intro w hSw; (try dsimp only at hSw); go_simp) <;> with_reducible rfl
        simp only [Act.put, List.getElem_toArray, List.getElem_cons_zero, List.getElem_cons_succ, List.setIfInBounds_toArray, List.set_cons_zero, List.set_cons_succ]
        refine anyL_take (i := 6) (v := ?vts17) rfl (by kernel_rfl) (by kernel_rfl) (by kernel_rfl) (by kernel_rfl) (fun _ _ _ h => h) (Or.inl ⟨by rfl, ?hts17⟩) ((unhide HJFD).k.two) ?_
        case hts17 => (intro w hSw; (try dsimp only at hSw); go_simp) <;> with_reducible rfl
        simp only [Act.put, List.getElem_toArray, List.getElem_cons_zero, List.getElem_cons_succ, List.setIfInBounds_toArray, List.set_cons_zero, List.set_cons_succ]
        refine anyL_ready (rs := [4]) (by kernel_rfl) (by simp) ?_
        refine AllL.cons rfl (fun K hK => ?_) AllL.nil
        go_simp
        refine (unhide HT1).mono ?_
        rintro y v1 ⟨a5, c5, E, rfl, p5, s5, o5, x5⟩
        obtain rfl : E = D := (unhide HJFD).s.list p5 s5
        obtain ⟨a6, c6, e6, i6, _⟩ := own_isK o5
        injection e6 with e61 e62 e63
        subst e61 e63
        have HNV1 := hide (And.intro ((unhide HNFD).1.below x5) ((unhide HNFD).2.below x5 (unhide HNFD).2.lt))
        have JV1 := hide ((unhide HJFD).on x5)
        have HT2 := hide (RSameK_at a5 c5 a1 c1 E v1 i6 (unhide JV1).s.k (Nat.le_trans (unhide JV1).s.l (by omega)))
        refine unhide hK _ _ (fun _ => (unhide JV1).k.two) ?_
        clear hK K HT1 p5 s5 o5 x5 i6 e62
        refine anyL_ready (rs := [7]) (by kernel_rfl) (by simp) ?_
        refine AllL.cons rfl (fun K hK => ?_) AllL.nil
        go_simp
        refine (unhide HT2).mono ?_
        rintro y v2 ⟨rfl, x6⟩
        have HNV2 := hide (And.intro ((unhide HNV1).1.below x6) ((unhide HNV1).2.below x6 (unhide HNV1).2.lt))
        have JV2 := hide ((unhide JV1).on x6)
        have HT3 := hide (MLen_at g1 n1 L1 v2 (unhide JV2).s.m)
        refine unhide hK _ _ (fun _ => (unhide JV2).k.two) ?_
        clear hK K HT2 x6
        refine anyL_take (i := 8) (v := ?vts18) rfl (by kernel_rfl) (by kernel_rfl) (by kernel_rfl) (by kernel_rfl) (fun _ _ _ h => h) (Or.inl ⟨by rfl, ?hts18⟩) ((unhide JV2).k.two) ?_
        case hts18 => (intro w hSw; (try dsimp only at hSw); go_simp) <;> with_reducible rfl
        simp only [Act.put, List.getElem_toArray, List.getElem_cons_zero, List.getElem_cons_succ, List.setIfInBounds_toArray, List.set_cons_zero, List.set_cons_succ]
        refine anyL_take (i := 9) (v := ?vts19) rfl (by kernel_rfl) (by kernel_rfl) (by kernel_rfl) (by kernel_rfl) (fun _ _ _ h => h) (Or.inl ⟨by rfl, ?hts19⟩) ((unhide JV2).k.two) ?_
        case hts19 => (intro w hSw; (try dsimp only at hSw); go_simp) <;> with_reducible rfl
        simp only [Act.put, List.getElem_toArray, List.getElem_cons_zero, List.getElem_cons_succ, List.setIfInBounds_toArray, List.set_cons_zero, List.set_cons_succ]
        refine anyL_take (i := 10) (v := ?vts20) rfl (by kernel_rfl) (by kernel_rfl) (by kernel_rfl) (by kernel_rfl) (fun _ _ _ h => h) (Or.inl ⟨by rfl, ?hts20⟩) ((unhide JV2).k.two) ?_
        case hts20 => (intro w hSw; (try dsimp only at hSw); go_simp) <;> with_reducible rfl
        simp only [Act.put, List.getElem_toArray, List.getElem_cons_zero, List.getElem_cons_succ, List.setIfInBounds_toArray, List.set_cons_zero, List.set_cons_succ]
        refine anyL_take (i := 11) (v := ?vts21) rfl (by kernel_rfl) (by kernel_rfl) (by kernel_rfl) (by kernel_rfl) (fun _ _ _ h => h) (Or.inl ⟨by rfl, ?hts21⟩) ((unhide JV2).k.two) ?_
        case hts21 => (intro w hSw; (try dsimp only at hSw); go_simp) <;> with_reducible rfl
        simp only [Act.put, List.getElem_toArray, List.getElem_cons_zero, List.getElem_cons_succ, List.setIfInBounds_toArray, List.set_cons_zero, List.set_cons_succ]
        refine anyL_take (i := 13) (v := ?vts22) rfl (by kernel_rfl) (by kernel_rfl) (by kernel_rfl) (by kernel_rfl) (fun _ _ _ h => h) (Or.inl ⟨by rfl, ?hts22⟩) ((unhide JV2).k.two) ?_
        case hts22 => (intro w hSw; (try dsimp only at hSw); go_simp) <;> with_reducible rfl
        simp only [Act.put, List.getElem_toArray, List.getElem_cons_zero, List.getElem_cons_succ, List.setIfInBounds_toArray, List.set_cons_zero, List.set_cons_succ]
        refine anyL_take (i := 14) (v := ?vts23) rfl (by kernel_rfl) (by kernel_rfl) (by kernel_rfl) (by kernel_rfl) (fun _ _ _ h => h) (Or.inl ⟨by rfl, ?hts23⟩) ((unhide JV2).k.two) ?_
        case hts23 => (intro w hSw; (try dsimp only at hSw); go_simp) <;> with_reducible rfl
        simp only [Act.put, List.getElem_toArray, List.getElem_cons_zero, List.getElem_cons_succ, List.setIfInBounds_toArray, List.set_cons_zero, List.set_cons_succ]
        refine anyL_ready (rs := [12]) (by kernel_rfl) (by simp) ?_
        refine AllL.cons rfl (fun K hK => ?_) AllL.nil
        go_simp
        refine (unhide HT3).mono ?_
        rintro y v3 ⟨rfl, x7⟩
        have HNV3 := hide (And.intro ((unhide HNV2).1.below x7) ((unhide HNV2).2.below x7 (unhide HNV2).2.lt))
        have JV3 := hide ((unhide JV2).on x7)
        refine unhide hK _ _ (fun _ => (unhide JV3).k.two) ?_
        clear hK K HT3 x7
        refine anyL_take (i := 15) (v := ?vts24) rfl (by kernel_rfl) (by kernel_rfl) (by kernel_rfl) (by kernel_rfl) (fun _ _ _ h => h) (Or.inl ⟨by rfl, ?hts24⟩) ((unhide JV3).k.two) ?_
        case hts24 => (intro w hSw; (try dsimp only at hSw); go_simp) <;> with_reducible rfl
        simp only [Act.put, List.getElem_toArray, List.getElem_cons_zero, List.getElem_cons_succ, List.setIfInBounds_toArray, List.set_cons_zero, List.set_cons_succ]
        refine anyL_take (i := 16) (v := ?vts25) rfl (by kernel_rfl) (by kernel_rfl) (by kernel_rfl) (by kernel_rfl) (fun _ _ _ h => h) (Or.inl ⟨by rfl, ?hts25⟩) ((unhide JV3).k.two) ?_
        case hts25 => (intro w hSw; (try dsimp only at hSw); go_simp) <;> with_reducible rfl
        simp only [Act.put, List.getElem_toArray, List.getElem_cons_zero, List.getElem_cons_succ, List.setIfInBounds_toArray, List.set_cons_zero, List.set_cons_succ]
        refine anyL_done (by kernel_rfl) ?_ _
        go_upto_region 15 with fail
        have kG : Cls v3.drew G9 29 #[.int .i64 n1, .slice a1 E.length c1] := (unhide JV3).k
        have kN : Cls v3.drew bn 29 #[.int .i64 n2, .slice a2 D2.length c2] := (unhide HNV3).2
        have sN := (unhide HNV3).1.below (Below.refl v3.heap.size v3).drew
        have bN := (unhide JV3).b.drew
        have kp := kG.put2 (.int .i64 n2) (.slice a2 D2.length c2) bN (unhide JV3).g
        have HJN : Hid (ScJ w ((v3.drew.setCell ⟨G9, 0, none⟩ (.int .i64 n2)).setCell ⟨G9, 1, none⟩ (.slice a2 D2.length c2)) G9 g' n2 L2 a2 c2 D2) := hide ⟨sN.put2 kG _ _, kp.1, kp.2, (unhide JV3).g⟩
        have HSB : Hid (v3.drew.cell? ⟨bn, 0, none⟩ = some (.int .i64 n2) ∧ v3.drew.cell? ⟨bn, 1, none⟩ = some (.slice a2 D2.length c2)) := hide kN.two
        obtain ⟨y0, y1⟩ := kG.two
        have f0 := kG.frozen 0
        have f1 := kG.frozen 1
        clear kG kN sN bN kp
        refine regionL (S := fun z => z.cell? ⟨bn, 0, none⟩ = some (.int .i64 n2) ∧ z.cell? ⟨bn, 1, none⟩ = some (.slice a2 D2.length c2)) (fun i => i == 3) (by kernel_rfl) ?_
        generalize v3.drew = zz at *
        refine anyL_take (i := 0) (v := ?vtb26) rfl (by kernel_rfl) (by kernel_rfl) (by kernel_rfl) (by kernel_rfl) (fun _ _ _ h => h) (Or.inl ⟨by rfl, ?htb26⟩) (unhide HSB) ?_
        case htb26 => (intro w hSw; (try dsimp only at hSw); go_simp) <;> with_reducible rfl
        simp only [Act.put, List.getElem_toArray, List.getElem_cons_zero, List.setIfInBounds_toArray, List.set_cons_zero, List.set_cons_succ]
        refine anyL_take (i := 1) (v := ?vtb27) rfl (by kernel_rfl) (by kernel_rfl) (by kernel_rfl) (by kernel_rfl) (fun _ _ _ h => h) (Or.inl ⟨by rfl, ?htb27⟩) (unhide HSB) ?_
        case htb27 => (intro w hSw; (try dsimp only at hSw); go_simp) <;> with_reducible rfl
        simp only [Act.put, List.getElem_toArray, List.getElem_cons_zero, List.getElem_cons_succ, List.setIfInBounds_toArray, List.set_cons_zero, List.set_cons_succ]
        refine anyL_take (i := 2) (v := ?vtb28) rfl (by kernel_rfl) (by kernel_rfl) (by kernel_rfl) (by kernel_rfl) (fun _ _ _ h => h) (Or.inl ⟨by rfl, ?htb28⟩) (unhide HSB) ?_
        case htb28 => (intro w hSw; (try dsimp only at hSw); go_simp) <;> with_reducible rfl
        simp only [Act.put, List.getElem_toArray, List.getElem_cons_zero, List.getElem_cons_succ, List.setIfInBounds_toArray, List.set_cons_zero, List.set_cons_succ]
        refine anyL_ready (rs := [3]) (by kernel_rfl) (by simp) ?_
        refine AllL.cons rfl (fun K hK => ?_) AllL.nil
        go_simp
        refine unhide hK _ _ (fun h => by cases h) ?_
        clear hK K
        refine anyL_done (by kernel_rfl) ?_ _
        go_wp2_with fail
        go_roundw
        case rel => exact ⟨⟨⟨_, rfl⟩, ⟨_, rfl⟩, ⟨_, rfl⟩⟩, i + 1, g', by go_num, rfl, hlt, hide ⟨_, _, _, _, _, unhide HJN⟩⟩
        case measure => simp [intOf]; omega
      · go_simp
        have xa := (unhide HX0).alloc (unhide HX0).size (.cells #[.int .i64 0, .slice none 0 0] 29)
        have kb := Cls.new z0 29 #[.int .i64 0, .slice none 0 0]
        have HXa := hide xa
        have HKb := hide kb
        refine unhide hK _ _ (fun _ => unhide HSw _ xa) ?_
        clear hK K xa kb
        generalize hbn : z0.heap.size = bn at HKb ⊢
        have HBN : Hid (wr.heap.size ≤ bn) := hide (by rw [← hbn]; exact (unhide HX0).size)
        clear hbn
        generalize z0.alloc (.cells #[.int .i64 0, .slice none 0 0] 29) = wa at *
        refine anyL_ready (rs := [6]) (by kernel_rfl) (by simp) ?_
        refine AllL.cons rfl (fun K hK => ?_) AllL.nil
        have HC := hide (unhide HDo wa (unhide HXa))
        go_simp
        refine (unhide HC).mono ?_
        rintro y w1 ⟨g', n2, L2, a2, c2, D2, rfl, s1, x1⟩
        have hx1 := (unhide HXa).trans (x1.mono (unhide HXa).size)
        have HX1 := hide hx1
        have HS1 := hide s1
        have HKb := hide ((unhide HKb).below x1 (unhide HKb).lt)
        refine unhide hK _ _ (fun _ => unhide HSw w1 hx1) ?_
        clear hK K s1 x1 hx1 HC
        refine anyL_take (i := 7) (v := ?vsc29) rfl (by kernel_rfl) (by kernel_rfl) (by kernel_rfl) (by kernel_rfl) (fun _ _ _ h => h) (Or.inl ⟨by rfl, ?hsc29⟩) (unhide HSw _ (unhide HX1)) ?_
        case hsc29 => (intro w hSw; (try dsimp only at hSw); go_simp) <;> with_reducible rfl
        simp only [Act.put, List.getElem_toArray, List.getElem_cons_zero, List.getElem_cons_succ, List.setIfInBounds_toArray, List.set_cons_zero, List.set_cons_succ]
        refine anyL_take (i := 8) (v := ?vsc30) rfl (by kernel_rfl) (by kernel_rfl) (by kernel_rfl) (by kernel_rfl) (fun _ _ _ h => h) (Or.inl ⟨by rfl, ?hsc30⟩) (unhide HSw _ (unhide HX1)) ?_
        case hsc30 => (intro w hSw; (try dsimp only at hSw); go_simp) <;> with_reducible rfl
        simp only [Act.put, List.getElem_toArray, List.getElem_cons_zero, List.getElem_cons_succ, List.setIfInBounds_toArray, List.set_cons_zero, List.set_cons_succ]
        refine anyL_take (i := 9) (v := ?vsc31) rfl (by kernel_rfl) (by kernel_rfl) (by kernel_rfl) (by kernel_rfl) (fun _ _ _ h => h) (Or.inl ⟨by rfl, ?hsc31⟩) (unhide HSw _ (unhide HX1)) ?_
        case hsc31 => (intro w hSw; (try dsimp only at hSw); go_simp) <;> with_reducible rfl
        simp only [Act.put, List.getElem_toArray, List.getElem_cons_zero, List.getElem_cons_succ, List.setIfInBounds_toArray, List.set_cons_zero, List.set_cons_succ]
        refine anyL_take (i := 10) (v := ?vsc32) rfl (by kernel_rfl) (by kernel_rfl) (by kernel_rfl) (by kernel_rfl) (fun _ _ _ h => h) (Or.inl ⟨by rfl, ?hsc32⟩) (unhide HSw _ (unhide HX1)) ?_
        case hsc32 => (intro w hSw; (try dsimp only at hSw); go_simp) <;> with_reducible rfl
        simp only [Act.put, List.getElem_toArray, List.getElem_cons_zero, List.getElem_cons_succ, List.setIfInBounds_toArray, List.set_cons_zero, List.set_cons_succ]
        refine anyL_take (i := 12) (v := ?vsc33) rfl (by kernel_rfl) (by kernel_rfl) (by kernel_rfl) (by kernel_rfl) (fun _ _ _ h => h) (Or.inl ⟨by rfl, ?hsc33⟩) (unhide HSw _ (unhide HX1)) ?_
        case hsc33 => (intro w hSw; (try dsimp only at hSw); go_simp) <;> with_reducible rfl
        simp only [Act.put, List.getElem_toArray, List.getElem_cons_zero, List.getElem_cons_succ, List.setIfInBounds_toArray, List.set_cons_zero, List.set_cons_succ]
        refine anyL_ready (rs := [13]) (by kernel_rfl) (by simp) ?_
        refine AllL.cons rfl (fun K hK => ?_) AllL.nil
        have kb := unhide HKb
        obtain ⟨y0, y1⟩ := kb.two
        have f0 := kb.frozen 0
        have f1 := kb.frozen 1
        have kp := kb.put2 (.int .i64 n2) (.slice a2 D2.length c2) (unhide HX1) (unhide HBN)
        have HXF := hide kp.2
        have HKF := hide kp.1
        have HSF := hide ((unhide HS1).put2 kb (.int .i64 n2) (.slice a2 D2.length c2))
        go_simp
        refine unhide hK _ _ (fun _ => unhide HSw _ kp.2) ?_
        clear hK K y0 y1 f0 f1 kb kp
        generalize (w1.setCell ⟨bn, 0, none⟩ (.int .i64 n2)).setCell ⟨bn, 1, none⟩ (.slice a2 D2.length c2) = wF at *
        refine anyL_take (i := 14) (v := ?vsc34) rfl (by kernel_rfl) (by kernel_rfl) (by kernel_rfl) (by kernel_rfl) (fun _ _ _ h => h) (Or.inl ⟨by rfl, ?hsc34⟩) (unhide HSw _ (unhide HXF)) ?_
        case hsc34 => (intro w hSw; (try dsimp only at hSw); go_simp) <;> with_reducible rfl
        simp only [Act.put, List.getElem_toArray, List.getElem_cons_zero, List.getElem_cons_succ, List.setIfInBounds_toArray, List.set_cons_zero, List.set_cons_succ]
        refine anyL_done (by kernel_rfl) ?_ _
        have HJF := hide ((unhide HJ).on (unhide HXF))
        have HNF : Hid (StM wF g' n2 L2 a2 D2 ∧ Cls wF bn 29 #[.int .i64 n2, .slice a2 D2.length c2]) := hide ⟨unhide HSF, unhide HKF⟩
        clear HSF HKF
        go_upto_region 13 with fail
        have HJFD := hide ((unhide HJF).on (Below.refl wF.heap.size wF).drew)
        have HNFD := hide (And.intro ((unhide HNF).1.below (Below.refl wF.heap.size wF).drew) (show Cls wF.drew bn 29 #[.int .i64 n2, .slice a2 D2.length c2] from (unhide HNF).2))
        have HT1 := hide (MList_at g1 n1 L1 wF.drew (unhide HJFD).s.m (unhide HJFD).s.len)
        refine regionL (S := fun z => z.cell? ⟨G9, 0, none⟩ = some (.int .i64 n1) ∧ z.cell? ⟨G9, 1, none⟩ = some (.slice a1 D.length c1)) (fun _ => false) (by kernel_rfl) ?_
        refine anyL_take (i := 0) (v := ?vts35) rfl (by kernel_rfl) (by kernel_rfl) (by kernel_rfl) (by kernel_rfl) (fun _ _ _ h => h) (Or.inl ⟨by rfl, ?hts35⟩) ((unhide HJFD).k.two) ?_
        case hts35 => (intro w hSw; (try dsimp only at hSw); go_simp) <;> with_reducible rfl
        simp only [Act.put, List.getElem_toArray, List.getElem_cons_zero, List.setIfInBounds_toArray, List.set_cons_zero, List.set_cons_succ]
        refine anyL_take (i := 1) (v := ?vts36) rfl (by kernel_rfl) (by kernel_rfl) (by kernel_rfl) (by kernel_rfl) (fun _ _ _ h => h) (Or.inl ⟨by rfl, ?hts36⟩) ((unhide HJFD).k.two) ?_
        case hts36 => (intro w hSw; (try dsimp only at hSw); go_simp) <;> with_reducible rfl
        simp only [Act.put, List.getElem_toArray, List.getElem_cons_zero, List.getElem_cons_succ, List.setIfInBounds_toArray, List.set_cons_zero, List.set_cons_succ]
        refine anyL_take (i := 2) (v := ?vts37) rfl (by kernel_rfl) (by kernel_rfl) (by kernel_rfl) (by kernel_rfl) (fun _ _ _ h => h) (Or.inl ⟨by rfl, ?hts37⟩) ((unhide HJFD).k.two) ?_
        case hts37 => (intro w hSw; (try dsimp only at hSw); go_simp) <;> with_reducible rfl
        simp only [Act.put, List.getElem_toArray, List.getElem_cons_zero, List.getElem_cons_succ, List.setIfInBounds_toArray, List.set_cons_zero, List.set_cons_succ]
        refine anyL_take (i := 3) (v := ?vts38) rfl (by kernel_rfl) (by kernel_rfl) (by kernel_rfl) (by kernel_rfl) (fun _ _ _ h => h) (Or.inl ⟨by rfl, ?hts38⟩) ((unhide HJFD).k.two) ?_
        case hts38 => (intro w hSw; (try dsimp only at hSw); go_simp) <;> with_reducible rfl
        simp only [Act.put, List.getElem_toArray, List.getElem_cons_zero, List.getElem_cons_succ, List.setIfInBounds_toArray, List.set_cons_zero, List.set_cons_succ]
        refine anyL_take (i := 5) (v := ?vts39) rfl (by kernel_rfl) (by kernel_rfl) (by kernel_rfl) (by kernel_rfl) (fun _ _ _ h => h) (Or.inl ⟨by rfl, ?hts39⟩) ((unhide HJFD).k.two) ?_
        case hts39 => (intro w hSw; (try dsimp only at hSw); go_simp) <;> with_reducible rfl
        simp only [Act.put, List.getElem_toArray, List.getElem_cons_zero, List.getElem_cons_succ, List.setIfInBounds_toArray, List.set_cons_zero, List.set_cons_succ]
        refine anyL_take (i := 6) (v := ?vts40) rfl (by kernel_rfl) (by kernel_rfl) (by kernel_rfl) (by kernel_rfl) (fun _ _ _ h => h) (Or.inl ⟨by rfl, ?hts40⟩) ((unhide HJFD).k.two) ?_
        case hts40 => (intro w hSw; (try dsimp only at hSw); go_simp) <;> with_reducible rfl
        simp only [Act.put, List.getElem_toArray, List.getElem_cons_zero, List.getElem_cons_succ, List.setIfInBounds_toArray, List.set_cons_zero, List.set_cons_succ]
        refine anyL_ready (rs := [4]) (by kernel_rfl) (by simp) ?_
        refine AllL.cons rfl (fun K hK => ?_) AllL.nil
        go_simp
        refine (unhide HT1).mono ?_
        rintro y v1 ⟨a5, c5, E, rfl, p5, s5, o5, x5⟩
        obtain rfl : E = D := (unhide HJFD).s.list p5 s5
        obtain ⟨a6, c6, e6, i6, _⟩ := own_isK o5
        injection e6 with e61 e62 e63
        subst e61 e63
        have HNV1 := hide (And.intro ((unhide HNFD).1.below x5) ((unhide HNFD).2.below x5 (unhide HNFD).2.lt))
        have JV1 := hide ((unhide HJFD).on x5)
        have HT2 := hide (RSameK_at a5 c5 a1 c1 E v1 i6 (unhide JV1).s.k (Nat.le_trans (unhide JV1).s.l (by omega)))
        refine unhide hK _ _ (fun _ => (unhide JV1).k.two) ?_
        clear hK K HT1 p5 s5 o5 x5 i6 e62
        refine anyL_ready (rs := [7]) (by kernel_rfl) (by simp) ?_
        refine AllL.cons rfl (fun K hK => ?_) AllL.nil
        go_simp
        refine (unhide HT2).mono ?_
        rintro y v2 ⟨rfl, x6⟩
        have HNV2 := hide (And.intro ((unhide HNV1).1.below x6) ((unhide HNV1).2.below x6 (unhide HNV1).2.lt))
        have JV2 := hide ((unhide JV1).on x6)
        have HT3 := hide (MLen_at g1 n1 L1 v2 (unhide JV2).s.m)
        refine unhide hK _ _ (fun _ => (unhide JV2).k.two) ?_
        clear hK K HT2 x6
        refine anyL_take (i := 8) (v := ?vts41) rfl (by kernel_rfl) (by kernel_rfl) (by kernel_rfl) (by kernel_rfl) (fun _ _ _ h => h) (Or.inl ⟨by rfl, ?hts41⟩) ((unhide JV2).k.two) ?_
        case hts41 => (intro w hSw; (try dsimp only at hSw); go_simp) <;> with_reducible rfl
        simp only [Act.put, List.getElem_toArray, List.getElem_cons_zero, List.getElem_cons_succ, List.setIfInBounds_toArray, List.set_cons_zero, List.set_cons_succ]
        refine anyL_take (i := 9) (v := ?vts42) rfl (by kernel_rfl) (by kernel_rfl) (by kernel_rfl) (by kernel_rfl) (fun _ _ _ h => h) (Or.inl ⟨by rfl, ?hts42⟩) ((unhide JV2).k.two) ?_
        case hts42 => (intro w hSw; (try dsimp only at hSw); go_simp) <;> with_reducible rfl
        simp only [Act.put, List.getElem_toArray, List.getElem_cons_zero, List.getElem_cons_succ, List.setIfInBounds_toArray, List.set_cons_zero, List.set_cons_succ]
        refine anyL_take (i := 10) (v := ?vts43) rfl (by kernel_rfl) (by kernel_rfl) (by kernel_rfl) (by kernel_rfl) (fun _ _ _ h => h) (Or.inl ⟨by rfl, ?hts43⟩) ((unhide JV2).k.two) ?_
        case hts43 => (intro w hSw; (try dsimp only at hSw); go_simp) <;> with_reducible rfl
        simp only [Act.put, List.getElem_toArray, List.getElem_cons_zero, List.getElem_cons_succ, List.setIfInBounds_toArray, List.set_cons_zero, List.set_cons_succ]
        refine anyL_take (i := 11) (v := ?vts44) rfl (by kernel_rfl) (by kernel_rfl) (by kernel_rfl) (by kernel_rfl) (fun _ _ _ h => h) (Or.inl ⟨by rfl, ?hts44⟩) ((unhide JV2).k.two) ?_
        case hts44 => (intro w hSw; (try dsimp only at hSw); go_simp) <;> with_reducible rfl
        simp only [Act.put, List.getElem_toArray, List.getElem_cons_zero, List.getElem_cons_succ, List.setIfInBounds_toArray, List.set_cons_zero, List.set_cons_succ]
        refine anyL_take (i := 13) (v := ?vts45) rfl (by kernel_rfl) (by kernel_rfl) (by kernel_rfl) (by kernel_rfl) (fun _ _ _ h => h) (Or.inl ⟨by rfl, ?hts45⟩) ((unhide JV2).k.two) ?_
        case hts45 => (intro w hSw; (try dsimp only at hSw); go_simp) <;> with_reducible rfl
        simp only [Act.put, List.getElem_toArray, List.getElem_cons_zero, List.getElem_cons_succ, List.setIfInBounds_toArray, List.set_cons_zero, List.set_cons_succ]
        refine anyL_take (i := 14) (v := ?vts46) rfl (by kernel_rfl) (by kernel_rfl) (by kernel_rfl) (by kernel_rfl) (fun _ _ _ h => h) (Or.inl ⟨by rfl, ?hts46⟩) ((unhide JV2).k.two) ?_
        case hts46 => (intro w hSw; (try dsimp only at hSw); go_simp) <;> with_reducible rfl
        simp only [Act.put, List.getElem_toArray, List.getElem_cons_zero, List.getElem_cons_succ, List.setIfInBounds_toArray, List.set_cons_zero, List.set_cons_succ]
        refine anyL_ready (rs := [12]) (by kernel_rfl) (by simp) ?_
        refine AllL.cons rfl (fun K hK => ?_) AllL.nil
        go_simp
        refine (unhide HT3).mono ?_
        rintro y v3 ⟨rfl, x7⟩
        have HNV3 := hide (And.intro ((unhide HNV2).1.below x7) ((unhide HNV2).2.below x7 (unhide HNV2).2.lt))
        have JV3 := hide ((unhide JV2).on x7)
        refine unhide hK _ _ (fun _ => (unhide JV3).k.two) ?_
        clear hK K HT3 x7
        refine anyL_take (i := 15) (v := ?vts47) rfl (by kernel_rfl) (by kernel_rfl) (by kernel_rfl) (by kernel_rfl) (fun _ _ _ h => h) (Or.inl ⟨by rfl, ?hts47⟩) ((unhide JV3).k.two) ?_
        case hts47 => (intro w hSw; (try dsimp only at hSw); go_simp) <;> with_reducible rfl
        simp only [Act.put, List.getElem_toArray, List.getElem_cons_zero, List.getElem_cons_succ, List.setIfInBounds_toArray, List.set_cons_zero, List.set_cons_succ]
        refine anyL_take (i := 16) (v := ?vts48) rfl (by kernel_rfl) (by kernel_rfl) (by kernel_rfl) (by kernel_rfl) (fun _ _ _ h => h) (Or.inl ⟨by rfl, ?hts48⟩) ((unhide JV3).k.two) ?_
        case hts48 => (intro w hSw; (try dsimp only at hSw); go_simp) <;> with_reducible rfl
        simp only [Act.put, List.getElem_toArray, List.getElem_cons_zero, List.getElem_cons_succ, List.setIfInBounds_toArray, List.set_cons_zero, List.set_cons_succ]
        refine anyL_done (by kernel_rfl) ?_ _
        go_upto_region 15 with fail
        have kG : Cls v3.drew G9 29 #[.int .i64 n1, .slice a1 E.length c1] := (unhide JV3).k
        have kN : Cls v3.drew bn 29 #[.int .i64 n2, .slice a2 D2.length c2] := (unhide HNV3).2
        have sN := (unhide HNV3).1.below (Below.refl v3.heap.size v3).drew
        have bN := (unhide JV3).b.drew
        have kp := kG.put2 (.int .i64 n2) (.slice a2 D2.length c2) bN (unhide JV3).g
        have HJN : Hid (ScJ w ((v3.drew.setCell ⟨G9, 0, none⟩ (.int .i64 n2)).setCell ⟨G9, 1, none⟩ (.slice a2 D2.length c2)) G9 g' n2 L2 a2 c2 D2) := hide ⟨sN.put2 kG _ _, kp.1, kp.2, (unhide JV3).g⟩
        have HSB : Hid (v3.drew.cell? ⟨bn, 0, none⟩ = some (.int .i64 n2) ∧ v3.drew.cell? ⟨bn, 1, none⟩ = some (.slice a2 D2.length c2)) := hide kN.two
        obtain ⟨y0, y1⟩ := kG.two
        have f0 := kG.frozen 0
        have f1 := kG.frozen 1
        clear kG kN sN bN kp
        refine regionL (S := fun z => z.cell? ⟨bn, 0, none⟩ = some (.int .i64 n2) ∧ z.cell? ⟨bn, 1, none⟩ = some (.slice a2 D2.length c2)) (fun i => i == 3) (by kernel_rfl) ?_
        generalize v3.drew = zz at *
        refine anyL_take (i := 0) (v := ?vtb49) rfl (by kernel_rfl) (by kernel_rfl) (by kernel_rfl) (by kernel_rfl) (fun _ _ _ h => h) (Or.inl ⟨by rfl, ?htb49⟩) (unhide HSB) ?_
        case htb49 => (intro w hSw; (try dsimp only at hSw); go_simp) <;> with_reducible rfl
        simp only [Act.put, List.getElem_toArray, List.getElem_cons_zero, List.setIfInBounds_toArray, List.set_cons_zero, List.set_cons_succ]
        refine anyL_take (i := 1) (v := ?vtb50) rfl (by kernel_rfl) (by kernel_rfl) (by kernel_rfl) (by kernel_rfl) (fun _ _ _ h => h) (Or.inl ⟨by rfl, ?htb50⟩) (unhide HSB) ?_
        case htb50 => (intro w hSw; (try dsimp only at hSw); go_simp) <;> with_reducible rfl
        simp only [Act.put, List.getElem_toArray, List.getElem_cons_zero, List.getElem_cons_succ, List.setIfInBounds_toArray, List.set_cons_zero, List.set_cons_succ]
        refine anyL_take (i := 2) (v := ?vtb51) rfl (by kernel_rfl) (by kernel_rfl) (by kernel_rfl) (by kernel_rfl) (fun _ _ _ h => h) (Or.inl ⟨by rfl, ?htb51⟩) (unhide HSB) ?_
        case htb51 => (intro w hSw; (try dsimp only at hSw); go_simp) <;> with_reducible rfl
        simp only [Act.put, List.getElem_toArray, List.getElem_cons_zero, List.getElem_cons_succ, List.setIfInBounds_toArray, List.set_cons_zero, List.set_cons_succ]
        refine anyL_ready (rs := [3]) (by kernel_rfl) (by simp) ?_
        refine AllL.cons rfl (fun K hK => ?_) AllL.nil
        go_simp
        refine unhide hK _ _ (fun h => by cases h) ?_
        clear hK K
        refine anyL_done (by kernel_rfl) ?_ _
        go_wp2_with fail
        go_roundw
        case rel => exact ⟨⟨⟨_, rfl⟩, ⟨_, rfl⟩, ⟨_, rfl⟩⟩, i + 1, g', by go_num, rfl, hlt, hide ⟨_, _, _, _, _, unhide HJN⟩⟩
        case measure => simp [intOf]; omega
    · obtain rfl : i = N := by omega
      have t1 : decide ((i : Int) < (i : Int)) = false := decide_eq_false (by omega)
      clear hlt
      go_upto_region 16 with fail
      have HJD := hide ((unhide HJ).on (Below.refl wr.heap.size wr).drew)
      have HT1 := hide (MList_at g1 n1 L1 wr.drew (unhide HJD).s.m (unhide HJD).s.len)
      refine regionL (S := fun z => z.cell? ⟨G9, 0, none⟩ = some (.int .i64 n1) ∧ z.cell? ⟨G9, 1, none⟩ = some (.slice a1 D.length c1)) (fun _ => false) (by kernel_rfl) ?_
      refine anyL_take (i := 0) (v := ?vte52) rfl (by kernel_rfl) (by kernel_rfl) (by kernel_rfl) (by kernel_rfl) (fun _ _ _ h => h) (Or.inl ⟨by rfl, ?hte52⟩) ((unhide HJD).k.two) ?_
      case hte52 => (intro w hSw; (try dsimp only at hSw); go_simp) <;> with_reducible rfl
      simp only [Act.put, List.getElem_toArray, List.getElem_cons_zero, List.setIfInBounds_toArray, List.set_cons_zero, List.set_cons_succ]
      refine anyL_take (i := 2) (v := ?vte53) rfl (by kernel_rfl) (by kernel_rfl) (by kernel_rfl) (by kernel_rfl) (fun _ _ _ h => h) (Or.inl ⟨by rfl, ?hte53⟩) ((unhide HJD).k.two) ?_
      case hte53 => (intro w hSw; (try dsimp only at hSw); go_simp) <;> with_reducible rfl
      simp only [Act.put, List.getElem_toArray, List.getElem_cons_zero, List.getElem_cons_succ, List.setIfInBounds_toArray, List.set_cons_zero, List.set_cons_succ]
      refine anyL_take (i := 3) (v := ?vte54) rfl (by kernel_rfl) (by kernel_rfl) (by kernel_rfl) (by kernel_rfl) (fun _ _ _ h => h) (Or.inl ⟨by rfl, ?hte54⟩) ((unhide HJD).k.two) ?_
      case hte54 => (intro w hSw; (try dsimp only at hSw); go_simp) <;> with_reducible rfl
      simp only [Act.put, List.getElem_toArray, List.getElem_cons_zero, List.getElem_cons_succ, List.setIfInBounds_toArray, List.set_cons_zero, List.set_cons_succ]
      refine anyL_ready (rs := [1]) (by kernel_rfl) (by simp) ?_
      refine AllL.cons rfl (fun K hK => ?_) AllL.nil
      go_simp
      refine (unhide HT1).mono ?_
      rintro y v1 ⟨a5, c5, E, rfl, p5, s5, o5, x5⟩
      obtain rfl : E = D := (unhide HJD).s.list p5 s5
      obtain ⟨a6, c6, e6, i6, _⟩ := own_isK o5
      injection e6 with e61 e62 e63
      subst e61 e63
      have JV1 := hide ((unhide HJD).on x5)
      have HT2 := hide (RSameK_at a5 c5 a1 c1 E v1 i6 (unhide JV1).s.k (Nat.le_trans (unhide JV1).s.l (by omega)))
      refine unhide hK _ _ (fun _ => (unhide JV1).k.two) ?_
      clear hK K HT1 p5 s5 o5 x5 i6 e62
      refine anyL_ready (rs := [4]) (by kernel_rfl) (by simp) ?_
      refine AllL.cons rfl (fun K hK => ?_) AllL.nil
      go_simp
      refine (unhide HT2).mono ?_
      rintro y v2 ⟨rfl, x6⟩
      have JV2 := hide ((unhide JV1).on x6)
      have HT3 := hide (MLen_at g1 n1 L1 v2 (unhide JV2).s.m)
      refine unhide hK _ _ (fun _ => (unhide JV2).k.two) ?_
      clear hK K HT2 x6
      refine anyL_take (i := 5) (v := ?vte55) rfl (by kernel_rfl) (by kernel_rfl) (by kernel_rfl) (by kernel_rfl) (fun _ _ _ h => h) (Or.inl ⟨by rfl, ?hte55⟩) ((unhide JV2).k.two) ?_
      case hte55 => (intro w hSw; (try dsimp only at hSw); go_simp) <;> with_reducible rfl
      simp only [Act.put, List.getElem_toArray, List.getElem_cons_zero, List.getElem_cons_succ, List.setIfInBounds_toArray, List.set_cons_zero, List.set_cons_succ]
      refine anyL_take (i := 6) (v := ?vte56) rfl (by kernel_rfl) (by kernel_rfl) (by kernel_rfl) (by kernel_rfl) (fun _ _ _ h => h) (Or.inl ⟨by rfl, ?hte56⟩) ((unhide JV2).k.two) ?_
      case hte56 => (intro w hSw; (try dsimp only at hSw); go_simp) <;> with_reducible rfl
      simp only [Act.put, List.getElem_toArray, List.getElem_cons_zero, List.getElem_cons_succ, List.setIfInBounds_toArray, List.set_cons_zero, List.set_cons_succ]
      refine anyL_take (i := 8) (v := ?vte57) rfl (by kernel_rfl) (by kernel_rfl) (by kernel_rfl) (by kernel_rfl) (fun _ _ _ h => h) (Or.inl ⟨by rfl, ?hte57⟩) ((unhide JV2).k.two) ?_
      case hte57 => (intro w hSw; (try dsimp only at hSw); go_simp) <;> with_reducible rfl
      simp only [Act.put, List.getElem_toArray, List.getElem_cons_zero, List.getElem_cons_succ, List.setIfInBounds_toArray, List.set_cons_zero, List.set_cons_succ]
      refine anyL_take (i := 9) (v := ?vte58) rfl (by kernel_rfl) (by kernel_rfl) (by kernel_rfl) (by kernel_rfl) (fun _ _ _ h => h) (Or.inl ⟨by rfl, ?hte58⟩) ((unhide JV2).k.two) ?_
      case hte58 => (intro w hSw; (try dsimp only at hSw); go_simp) <;> with_reducible rfl
      simp only [Act.put, List.getElem_toArray, List.getElem_cons_zero, List.getElem_cons_succ, List.setIfInBounds_toArray, List.set_cons_zero, List.set_cons_succ]
      refine anyL_ready (rs := [7]) (by kernel_rfl) (by simp) ?_
      refine AllL.cons rfl (fun K hK => ?_) AllL.nil
      go_simp
      refine (unhide HT3).mono ?_
      rintro y v3 ⟨rfl, x7⟩
      have JV3 := hide ((unhide JV2).on x7)
      refine unhide hK _ _ (fun _ => (unhide JV3).k.two) ?_
      clear hK K HT3 x7
      refine anyL_take (i := 10) (v := ?vte59) rfl (by kernel_rfl) (by kernel_rfl) (by kernel_rfl) (by kernel_rfl) (fun _ _ _ h => h) (Or.inl ⟨by rfl, ?hte59⟩) ((unhide JV3).k.two) ?_
      case hte59 => (intro w hSw; (try dsimp only at hSw); go_simp) <;> with_reducible rfl
      simp only [Act.put, List.getElem_toArray, List.getElem_cons_zero, List.getElem_cons_succ, List.setIfInBounds_toArray, List.set_cons_zero, List.set_cons_succ]
      refine anyL_take (i := 11) (v := ?vte60) rfl (by kernel_rfl) (by kernel_rfl) (by kernel_rfl) (by kernel_rfl) (fun _ _ _ h => h) (Or.inl ⟨by rfl, ?hte60⟩) ((unhide JV3).k.two) ?_
      case hte60 => (intro w hSw; (try dsimp only at hSw); go_simp) <;> with_reducible rfl
      simp only [Act.put, List.getElem_toArray, List.getElem_cons_zero, List.getElem_cons_succ, List.setIfInBounds_toArray, List.set_cons_zero, List.set_cons_succ]
      refine anyL_take (i := 12) (v := ?vte61) rfl (by kernel_rfl) (by kernel_rfl) (by kernel_rfl) (by kernel_rfl) (fun _ _ _ h => h) (Or.inl ⟨by rfl, ?hte61⟩) ((unhide JV3).k.two) ?_
      case hte61 => (intro w hSw; (try dsimp only at hSw); go_simp) <;> with_reducible rfl
      simp only [Act.put, List.getElem_toArray, List.getElem_cons_zero, List.getElem_cons_succ, List.setIfInBounds_toArray, List.set_cons_zero, List.set_cons_succ]
      refine anyL_done (by kernel_rfl) ?_ _
      go_wp2_with fail
      refine bodyPost_ret (results_tmp rfl _ _ _) rfl ⟨rfl, (unhide JV3).b⟩
end Go.Proofs.Ytnnnilodknkadaa
