/- Layer 16: RangesStay's walk (written by wip/tools/rgs.py). -/
import Derived.Test.YtifpjdodignflaaRp42
import Derived.Test.YtifpjdodignflaaRp46
import Derived.Test.YtifpjdodignflaaRp40

namespace Go.Proofs.Ytifpjdodignflaa
open Go.ChangeShapes Go.WideShapes Go.ChangeAt Go.RowKit
attribute [local go_sem] Oper.semAt_some

theorem row_of_cls {X : World} {b B n s : Nat} {t : TypeId} {cs : Array Value} (h : Cls X b t cs) (hb : B ≤ b) (hc : cs.size = n * s) (hn : n ≤ maxLen := by decide) : X.ownsRow B t s (.slice (some ⟨b, 0, none⟩) n n) n cs.toList :=
  ⟨by simpa using hc, .inr ⟨b, n, cs, rfl, hb, h, Nat.le_refl _, hn, hc, by rw [List.take_of_length_le]; simpa using Nat.le_of_eq hc⟩⟩
set_option maxRecDepth 100000 in
set_option maxHeartbeats 8000000 in
theorem RangesStay_any (n : Int) (A : Option Addr) (cp : Nat) (l : List Oc) (w : World) (_hn : (Lit.int .i64 n).wf = true) (hA : IsOc w A l) (_hl : l.length ≤ 4398046511104) :
    Calls Try.prog 5 #[.int .i64 n, .slice A l.length cp] w fun y w' => y = .returned (.bool true) ∧ Below w.heap.size w w' := by
  have HAw := hide (awake16_at w)
  have HAc := hide hA
  obtain ⟨N, hN⟩ : ∃ N, N = l.length := ⟨_, rfl⟩
  have HN := hide hN
  rw [← hN] at _hl ⊢
  clear hA hN _hn
  by_cases hr : 0 ≤ n ∧ n ≤ 268435456
  case neg =>
    have HN1 := hide fun (Y : World) => GNewE_at n Y hr
    have HN2 := hide fun (Y : World) => RNewRE_at n Y hr
    clear hr
    go_enter Try.func5, Try.ntmps5
    go_wp2_with fail
    refine (unhide HAw).mono ?_
    rintro y w1 ⟨rfl, x1⟩
    dsimp only
    have HX1 := hide x1
    have HC2 := hide (unhide HN1 w1)
    clear HAw HN1 x1
    go_wp2_with fail
    refine (unhide HC2).mono ?_
    rintro y w2 ⟨rfl, x2⟩
    dsimp only
    have HX2 := hide ((unhide HX1).trans (x2.mono (unhide HX1).size))
    have HC3 := hide (unhide HN2 w2)
    clear HC2 HX1 x2 HN2
    go_wp2_with fail
    refine (unhide HC3).mono ?_
    rintro y w3 ⟨rfl, x3⟩
    dsimp only
    have hx3 := (unhide HX2).trans (x3.mono (unhide HX2).size)
    have HX3 := hide (hx3.alloc hx3.size (.cells #[.int .i64 0, .slice none 0 0] 30))
    clear HC3 HX2 x3 hx3
    go_wp2_with fail
    refine bodyPost_ret (results_tmp rfl _ _ _) rfl ⟨rfl, unhide HX3⟩
  have HN1 := hide fun (Y : World) => GNew_at n Y hr
  have HN2 := hide fun (Y : World) => RNewR_at n Y hr
  have HRq := hide hr
  clear hr
  go_enter Try.func5, Try.ntmps5
  go_wp2_with fail
  refine (unhide HAw).mono ?_
  rintro y w1 ⟨rfl, x1⟩
  dsimp only
  have HX1 := hide x1
  have HC2 := hide (unhide HN1 w1)
  clear HAw HN1 x1
  go_wp2_with fail
  refine (unhide HC2).mono ?_
  rintro y w2 ⟨g0, rfl, _, s2, x2⟩
  dsimp only
  have HX2 := hide ((unhide HX1).trans (x2.mono (unhide HX1).size))
  have HS2 := hide s2
  have HC3 := hide (unhide HN2 w2)
  clear HC2 HX1 x2 HN2 s2
  go_wp2_with fail
  refine (unhide HC3).mono ?_
  rintro y w3 ⟨rfl, x3⟩
  dsimp only
  have hx3 := (unhide HX2).trans (x3.mono (unhide HX2).size)
  have b3 := (Below.refl w3.heap.size w3).alloc (Nat.le_refl _) (.cells #[.int .i64 n, .slice none 0 0] 30)
  have HJ0 : Hid (ScR w (w3.alloc (.cells #[.int .i64 n, .slice none 0 0] 30)) w3.heap.size g0 n [] none 0 []) := hide ⟨⟨((unhide HS2).below x3 (Nat.le_refl _)).below b3 (Nat.le_refl _), .inl rfl, Rel.nil, by simp [InR], by simp, unhide HRq, .inl rfl⟩, Cls.new w3 30 _, hx3.trans (b3.mono hx3.size), hx3.size⟩
  clear HC3 HX2 x3 hx3 HS2 b3
  go_upto_region 7 with fail
  generalize w3.alloc (.cells #[.int .i64 n, .slice none 0 0] 30) = w4 at *
  generalize w3.heap.size = G9 at *
  have HG4 : Hid (G9 < w4.heap.size) := hide (unhide HJ0).k.lt
  go_cut [9, 10] (fun v9 v10 wz => Hid (SyJ w wz G9 w4.heap.size ⟨g0, n, [], none, 0, []⟩ v9 v10 [⟨g0, n, [], none, 0, []⟩] [⟨g0, n, [], none, 0, []⟩]))
  case first =>
    have HJZ := hide ((unhide HJ0).on (Below.refl w4.heap.size w4).drew)
    refine regionL (S := fun z => z.cell? ⟨G9, 0, none⟩ = some (.int .i64 n) ∧ z.cell? ⟨G9, 1, none⟩ = some (.slice none 0 0)) (fun _ => false) (by kernel_rfl) ?_
    generalize hzz : w4.drew = zz at *
    have HZS : Hid (w4.heap.size ≤ zz.heap.size) := hide (Nat.le_of_eq (by rw [← hzz]; rfl))
    clear hzz
    refine anyL_take (i := 0) (v := ?vr719) rfl (by kernel_rfl) (by kernel_rfl) (by kernel_rfl) (by kernel_rfl) (fun _ _ _ h => h) (Or.inl ⟨by rfl, ?hr719⟩) (clsR_two (unhide HJZ).k) ?_
    case hr719 => (intro w hSw; (try dsimp only at hSw); go_simp) <;> with_reducible rfl
    simp only [Act.put, List.getElem_toArray, List.getElem_cons_zero, List.setIfInBounds_toArray, List.set_cons_zero, List.set_cons_succ]
    refine anyL_take (i := 2) (v := ?vr720) rfl (by kernel_rfl) (by kernel_rfl) (by kernel_rfl) (by kernel_rfl) (fun _ _ _ h => h) (Or.inl ⟨by rfl, ?hr720⟩) (clsR_two (unhide HJZ).k) ?_
    case hr720 => (intro w hSw; (try dsimp only at hSw); go_simp) <;> with_reducible rfl
    simp only [Act.put, List.getElem_toArray, List.getElem_cons_zero, List.getElem_cons_succ, List.setIfInBounds_toArray, List.set_cons_zero, List.set_cons_succ]
    refine anyL_ready (rs := [1, 3]) (by kernel_rfl) (by simp) ?_
    refine AllL.cons rfl (fun K hK => ?_) (AllL.cons rfl (fun K hK => ?_) AllL.nil)
    · go_simp
      have xa := (Below.refl zz.heap.size zz).alloc (Nat.le_refl _) (.cells #[.pointer (some ⟨g0, 0, none⟩)] 24)
      have HJwa0 := hide ((unhide HJZ).on xa)
      have Ka := hide (Cls.new zz 24 #[.pointer (some ⟨g0, 0, none⟩)])
      have La : Hid (w4.heap.size ≤ zz.heap.size) := hide (unhide HZS)
      refine unhide hK _ _ (fun _ => clsR_two (unhide HJwa0).k) ?_
      clear hK K xa
      generalize hba : zz.heap.size = ba at Ka La ⊢
      have LLa : Hid (zz.heap.size ≤ (zz.alloc (.cells #[.pointer (some ⟨g0, 0, none⟩)] 24)).heap.size) := hide (by rw [World.size_alloc]; omega)
      clear hba
      generalize zz.alloc (.cells #[.pointer (some ⟨g0, 0, none⟩)] 24) = wa0 at *
      refine anyL_take (i := 4) (v := ?vr721) rfl (by kernel_rfl) (by kernel_rfl) (by kernel_rfl) (by kernel_rfl) (fun _ _ _ h => h) (Or.inl ⟨by rfl, ?hr721⟩) (clsR_two (unhide HJwa0).k) ?_
      case hr721 => (intro w hSw; (try dsimp only at hSw); go_simp) <;> with_reducible rfl
      simp only [Act.put, List.getElem_toArray, List.getElem_cons_zero, List.getElem_cons_succ, List.setIfInBounds_toArray, List.set_cons_zero, List.set_cons_succ]
      refine anyL_ready (rs := [3]) (by kernel_rfl) (by simp) ?_
      refine AllL.cons rfl (fun K hK => ?_) AllL.nil
      go_simp
      have xa := (Below.refl wa0.heap.size wa0).alloc (Nat.le_refl _) (.cells #[.int .i64 n, .slice none 0 0] 30)
      have HJwba1 := hide ((unhide HJwa0).on xa)
      have Kb := hide (Cls.new wa0 30 #[.int .i64 n, .slice none 0 0])
      have Lb : Hid (w4.heap.size ≤ wa0.heap.size) := hide (Nat.le_trans (unhide HZS) (unhide LLa))
      have Ka2 := hide ((unhide Ka).below xa (unhide Ka).lt)
      refine unhide hK _ _ (fun _ => clsR_two (unhide HJwba1).k) ?_
      clear hK K xa
      generalize hbb : wa0.heap.size = bb at Kb Lb ⊢
      have LLb : Hid (wa0.heap.size ≤ (wa0.alloc (.cells #[.int .i64 n, .slice none 0 0] 30)).heap.size) := hide (by rw [World.size_alloc]; omega)
      clear hbb
      generalize wa0.alloc (.cells #[.int .i64 n, .slice none 0 0] 30) = wba1 at *
      refine anyL_take (i := 5) (v := ?vr722) rfl (by kernel_rfl) (by kernel_rfl) (by kernel_rfl) (by kernel_rfl) (fun _ _ _ h => h) (Or.inl ⟨by rfl, ?hr722⟩) (clsR_two (unhide HJwba1).k) ?_
      case hr722 => (intro w hSw; (try dsimp only at hSw); go_simp) <;> with_reducible rfl
      simp only [Act.put, List.getElem_toArray, List.getElem_cons_zero, List.getElem_cons_succ, List.setIfInBounds_toArray, List.set_cons_zero, List.set_cons_succ]
      refine anyL_done (by kernel_rfl) ?_ _
      go_wp2_with fail
      go_meet
      exact hide ⟨unhide HJwba1, row_of_cls (unhide Ka2) (unhide La) rfl, row_of_cls (unhide Kb) (unhide Lb) rfl, fun y hy => by rw [List.mem_singleton.1 hy]; exact (unhide HJwba1).s, unhide HG4, Nat.le_trans (Nat.le_trans (unhide HZS) (unhide LLa)) (unhide LLb)⟩
    · go_simp
      have xa := (Below.refl zz.heap.size zz).alloc (Nat.le_refl _) (.cells #[.int .i64 n, .slice none 0 0] 30)
      have HJwb0 := hide ((unhide HJZ).on xa)
      have Kb := hide (Cls.new zz 30 #[.int .i64 n, .slice none 0 0])
      have Lb : Hid (w4.heap.size ≤ zz.heap.size) := hide (unhide HZS)
      refine unhide hK _ _ (fun _ => clsR_two (unhide HJwb0).k) ?_
      clear hK K xa
      generalize hbb : zz.heap.size = bb at Kb Lb ⊢
      have LLb : Hid (zz.heap.size ≤ (zz.alloc (.cells #[.int .i64 n, .slice none 0 0] 30)).heap.size) := hide (by rw [World.size_alloc]; omega)
      clear hbb
      generalize zz.alloc (.cells #[.int .i64 n, .slice none 0 0] 30) = wb0 at *
      refine anyL_ready (rs := [1]) (by kernel_rfl) (by simp) ?_
      refine AllL.cons rfl (fun K hK => ?_) AllL.nil
      go_simp
      have xa := (Below.refl wb0.heap.size wb0).alloc (Nat.le_refl _) (.cells #[.pointer (some ⟨g0, 0, none⟩)] 24)
      have HJwab1 := hide ((unhide HJwb0).on xa)
      have Ka := hide (Cls.new wb0 24 #[.pointer (some ⟨g0, 0, none⟩)])
      have La : Hid (w4.heap.size ≤ wb0.heap.size) := hide (Nat.le_trans (unhide HZS) (unhide LLb))
      have Kb2 := hide ((unhide Kb).below xa (unhide Kb).lt)
      refine unhide hK _ _ (fun _ => clsR_two (unhide HJwab1).k) ?_
      clear hK K xa
      generalize hba : wb0.heap.size = ba at Ka La ⊢
      have LLa : Hid (wb0.heap.size ≤ (wb0.alloc (.cells #[.pointer (some ⟨g0, 0, none⟩)] 24)).heap.size) := hide (by rw [World.size_alloc]; omega)
      clear hba
      generalize wb0.alloc (.cells #[.pointer (some ⟨g0, 0, none⟩)] 24) = wab1 at *
      refine anyL_take (i := 4) (v := ?vr723) rfl (by kernel_rfl) (by kernel_rfl) (by kernel_rfl) (by kernel_rfl) (fun _ _ _ h => h) (Or.inl ⟨by rfl, ?hr723⟩) (clsR_two (unhide HJwab1).k) ?_
      case hr723 => (intro w hSw; (try dsimp only at hSw); go_simp) <;> with_reducible rfl
      simp only [Act.put, List.getElem_toArray, List.getElem_cons_zero, List.getElem_cons_succ, List.setIfInBounds_toArray, List.set_cons_zero, List.set_cons_succ]
      refine anyL_take (i := 5) (v := ?vr724) rfl (by kernel_rfl) (by kernel_rfl) (by kernel_rfl) (by kernel_rfl) (fun _ _ _ h => h) (Or.inl ⟨by rfl, ?hr724⟩) (clsR_two (unhide HJwab1).k) ?_
      case hr724 => (intro w hSw; (try dsimp only at hSw); go_simp) <;> with_reducible rfl
      simp only [Act.put, List.getElem_toArray, List.getElem_cons_zero, List.getElem_cons_succ, List.setIfInBounds_toArray, List.set_cons_zero, List.set_cons_succ]
      refine anyL_done (by kernel_rfl) ?_ _
      go_wp2_with fail
      go_meet
      exact hide ⟨unhide HJwab1, row_of_cls (unhide Ka) (unhide La) rfl, row_of_cls (unhide Kb2) (unhide Lb) rfl, fun y hy => by rw [List.mem_singleton.1 hy]; exact (unhide HJwab1).s, unhide HG4, Nat.le_trans (Nat.le_trans (unhide HZS) (unhide LLb)) (unhide LLa)⟩
  case rest =>
    have HS0 := hcut
    clear hcut HJ0
    go_wp2_with fail
    generalize w4.heap.size = B0 at *
    go_loopw [5, 9, 10, 11, 12] (fun v5 v9 v10 v11 v12 wx => (∃ z, v12 = z) ∧ ∃ (i : Nat) (x : Rst) (S : List Rst), v11 = .int .i64 (i : Int) ∧ v5 = .pointer (some ⟨x.g, 0, none⟩) ∧ i ≤ N ∧ i ≤ 60 ∧ Hid (SyJ w wx G9 B0 x v9 v10 S S ∧ S.length = i + 1)) (fun _ _ _ v11 _ _ => N - (intOf v11).toNat)
    case atStart => exact ⟨⟨_, rfl⟩, 0, ⟨g0, n, [], none, 0, []⟩, [⟨g0, n, [], none, 0, []⟩], rfl, rfl, Nat.zero_le _, Nat.zero_le _, hide ⟨unhide HS0, rfl⟩⟩
    case round =>
      clear HS0
      obtain ⟨⟨z1, rfl⟩, i, x, S, rfl, rfl, hi, hi6, HI⟩ := hrel
      obtain ⟨g1, n1, L1, a1, c1, D⟩ := x
      obtain ⟨hS, hSl⟩ := unhide HI
      have HS := hide hS
      have hln : S.length ≤ 1000 := by omega
      dsimp only
      clear HI hS
      by_cases hlt : i < N ∧ i < 60
      case pos =>
        have t1 : decide ((i : Int) < (N : Int)) = true := decide_eq_true (by omega)
        have t2 : decide ((i : Int) < 60) = true := decide_eq_true (by omega)
        have t3 : decide (i < 60) = true := decide_eq_true (by omega)
        have h1 := hlt.1
        have h2 := hlt.2
        have h3 : (i : Int) < (N : Int) := by omega
        have h4 : (i : Int) < 60 := by omega
        have hlt' : i < l.length := by rw [← unhide HN]; exact hlt.1
        have HJ : Hid (ScR w wr G9 g1 n1 L1 a1 c1 D) := hide (unhide HS).j
        obtain ⟨hAI, eg, eo, ha, heg, hcl⟩ := (unhide HAc).at hlt' (unhide HJ).b
        subst ha
        generalize l.getD i ocZ = ac at *
        obtain ⟨kd, ⟨xn, xl, xh, xs, xe⟩, ad, cd, d⟩ := ac
        have q0 := hcl 0 (by decide)
        have q1 := hcl 1 (by decide)
        have q2 := hcl 2 (by decide)
        have q3 := hcl 3 (by decide)
        have q4 := hcl 4 (by decide)
        have q5 := hcl 5 (by decide)
        have q6 := hcl 6 (by decide)
        have hSc : wr.cell? ⟨G9, 0, none⟩ = some (.int .i64 n1) ∧ wr.cell? ⟨G9, 1, none⟩ = some (.slice a1 D.length c1) ∧ wr.cell? ⟨eg, eo + i * 7, none⟩ = some (.int .i64 kd) ∧ wr.cell? ⟨eg, eo + i * 7 + 1, none⟩ = some (.string xn) ∧ wr.cell? ⟨eg, eo + i * 7 + 2, none⟩ = some (.int .i64 xl) ∧ wr.cell? ⟨eg, eo + i * 7 + 3, none⟩ = some (.int .i64 xh) ∧ wr.cell? ⟨eg, eo + i * 7 + 4, none⟩ = some (.int .i64 xs) ∧ wr.cell? ⟨eg, eo + i * 7 + 5, none⟩ = some (.int .i64 xe) ∧ wr.cell? ⟨eg, eo + i * 7 + 6, none⟩ = some (.slice ad d.length cd) := ⟨(clsR_two (unhide HJ).k).1, (clsR_two (unhide HJ).k).2, q0, q1, q2, q3, q4, q5, q6⟩
        have heg' : eg < wr.heap.size := Nat.lt_of_lt_of_le heg (unhide HJ).b.size
        have HSw : Hid (∀ Y, Below wr.heap.size wr Y → Y.cell? ⟨G9, 0, none⟩ = some (.int .i64 n1) ∧ Y.cell? ⟨G9, 1, none⟩ = some (.slice a1 D.length c1) ∧ Y.cell? ⟨eg, eo + i * 7, none⟩ = some (.int .i64 kd) ∧ Y.cell? ⟨eg, eo + i * 7 + 1, none⟩ = some (.string xn) ∧ Y.cell? ⟨eg, eo + i * 7 + 2, none⟩ = some (.int .i64 xl) ∧ Y.cell? ⟨eg, eo + i * 7 + 3, none⟩ = some (.int .i64 xh) ∧ Y.cell? ⟨eg, eo + i * 7 + 4, none⟩ = some (.int .i64 xs) ∧ Y.cell? ⟨eg, eo + i * 7 + 5, none⟩ = some (.int .i64 xe) ∧ Y.cell? ⟨eg, eo + i * 7 + 6, none⟩ = some (.slice ad d.length cd)) := hide fun Y hY => by
          obtain ⟨p0, p1, p2, p3, p4, p5, p6, p7, p8⟩ := hSc
          have hb : ∀ (g o : Nat), g < wr.heap.size → Y.cell? ⟨g, o, none⟩ = wr.cell? ⟨g, o, none⟩ := fun g o hg => hY.cell (p := ⟨g, o, none⟩) hg
          have kl := (unhide HJ).k.lt
          exact ⟨(hb _ _ kl).trans p0, (hb _ _ kl).trans p1, (hb _ _ heg').trans p2, (hb _ _ heg').trans p3, (hb _ _ heg').trans p4, (hb _ _ heg').trans p5, (hb _ _ heg').trans p6, (hb _ _ heg').trans p7, (hb _ _ heg').trans p8⟩
        have HX0 := hide ((Below.refl wr.heap.size wr).drew)
        have HDo := hide (play_at g1 n1 L1 a1 c1 D kd ⟨xn, xl, xh, xs, xe⟩ ad cd d wr.drew ((unhide HJ).s.below (unhide HX0) (Nat.le_refl _)) (hAI.o.below (unhide HX0) (Nat.le_refl _)) hAI.z hAI.l (fun o ho => (hAI.t o ho).2))
        unfold rsV ocA at HDo
        dsimp only at HDo
        clear hAI hcl q0 q1 q2 q3 q4 q5 q6 hSc heg heg' hlt'
        go_upto_region 12 with fail
        refine regionL (S := fun z => z.cell? ⟨G9, 0, none⟩ = some (.int .i64 n1) ∧ z.cell? ⟨G9, 1, none⟩ = some (.slice a1 D.length c1) ∧ z.cell? ⟨eg, eo + i * 7, none⟩ = some (.int .i64 kd) ∧ z.cell? ⟨eg, eo + i * 7 + 1, none⟩ = some (.string xn) ∧ z.cell? ⟨eg, eo + i * 7 + 2, none⟩ = some (.int .i64 xl) ∧ z.cell? ⟨eg, eo + i * 7 + 3, none⟩ = some (.int .i64 xh) ∧ z.cell? ⟨eg, eo + i * 7 + 4, none⟩ = some (.int .i64 xs) ∧ z.cell? ⟨eg, eo + i * 7 + 5, none⟩ = some (.int .i64 xe) ∧ z.cell? ⟨eg, eo + i * 7 + 6, none⟩ = some (.slice ad d.length cd)) (fun i => i == 10 || i == 12 || i == 13) (by kernel_rfl) ?_
        generalize wr.drew = zz at *
        refine anyL_take2 (i := 0) (v := ?vsc8) rfl (by kernel_rfl) (by kernel_rfl) (by kernel_rfl) (by kernel_rfl) (fun _ _ _ h => h) (Or.inl ⟨by rfl, ?hsc8⟩) (unhide HSw _ (unhide HX0)) ?_
        case hsc8 => (intro w hSw; (try dsimp only at hSw); go_simp) <;> with_reducible rfl
        simp only [Act.put, List.getElem_toArray, List.getElem_cons_zero, List.setIfInBounds_toArray, List.set_cons_zero, List.set_cons_succ]
        refine anyL_take2 (i := 1) (v := ?vsc9) rfl (by kernel_rfl) (by kernel_rfl) (by kernel_rfl) (by kernel_rfl) (fun _ _ _ h => h) (Or.inl ⟨by rfl, ?hsc9⟩) (unhide HSw _ (unhide HX0)) ?_
        case hsc9 => (intro w hSw; (try dsimp only at hSw); go_simp) <;> with_reducible rfl
        simp only [Act.put, List.getElem_toArray, List.getElem_cons_zero, List.getElem_cons_succ, List.setIfInBounds_toArray, List.set_cons_zero, List.set_cons_succ]
        refine anyL_take2 (i := 2) (v := ?vsc10) rfl (by kernel_rfl) (by kernel_rfl) (by kernel_rfl) (by kernel_rfl) (fun _ _ _ h => h) (Or.inl ⟨by rfl, ?hsc10⟩) (unhide HSw _ (unhide HX0)) ?_
        case hsc10 => (intro w hSw; (try dsimp only at hSw); go_simp) <;> with_reducible rfl
        simp only [Act.put, List.getElem_toArray, List.getElem_cons_zero, List.getElem_cons_succ, List.setIfInBounds_toArray, List.set_cons_zero, List.set_cons_succ]
        refine anyL_take2 (i := 3) (v := ?vsc11) rfl (by kernel_rfl) (by kernel_rfl) (by kernel_rfl) (by kernel_rfl) (fun _ _ _ h => h) (Or.inl ⟨by rfl, ?hsc11⟩) (unhide HSw _ (unhide HX0)) ?_
        case hsc11 => (intro w hSw; (try dsimp only at hSw); go_simp) <;> with_reducible rfl
        simp only [Act.put, List.getElem_toArray, List.getElem_cons_zero, List.getElem_cons_succ, List.setIfInBounds_toArray, List.set_cons_zero, List.set_cons_succ]
        refine anyL_take2 (i := 4) (v := ?vsc12) rfl (by kernel_rfl) (by kernel_rfl) (by kernel_rfl) (by kernel_rfl) (fun _ _ _ h => h) (Or.inl ⟨by rfl, ?hsc12⟩) (unhide HSw _ (unhide HX0)) ?_
        case hsc12 => (intro w hSw; (try dsimp only at hSw); go_simp) <;> with_reducible rfl
        simp only [Act.put, List.getElem_toArray, List.getElem_cons_zero, List.getElem_cons_succ, List.setIfInBounds_toArray, List.set_cons_zero, List.set_cons_succ]
        refine anyL_take2 (i := 5) (v := ?vsc13) rfl (by kernel_rfl) (by kernel_rfl) (by kernel_rfl) (by kernel_rfl) (fun _ _ _ h => h) (Or.inl ⟨by rfl, ?hsc13⟩) (unhide HSw _ (unhide HX0)) ?_
        case hsc13 => (intro w hSw; (try dsimp only at hSw); go_simp) <;> with_reducible rfl
        simp only [Act.put, List.getElem_toArray, List.getElem_cons_zero, List.getElem_cons_succ, List.setIfInBounds_toArray, List.set_cons_zero, List.set_cons_succ]
        refine anyL_ready (rs := [6]) (by kernel_rfl) (by simp) ?_
        refine AllL.cons rfl (fun K hK => ?_) AllL.nil
        go_simp
        refine (unhide HDo).mono ?_
        rintro y w1 hq
        unfold PlQ rsV at hq
        obtain ⟨g', n2, L2, a2, c2, D2, rfl, s1, x1⟩ := hq
        have hx1 := (unhide HX0).trans (x1.mono (unhide HX0).size)
        have HX1 := hide hx1
        have HJ2 := hide (And.intro ((unhide HJ).k.below hx1 (unhide HJ).k.lt) (And.intro ((unhide HJ).b.trans (hx1.mono (unhide HJ).b.size)) s1))
        have HS2 := hide ((unhide HS).on hx1)
        have HY := hide (show AtS w1 ⟨g', n2, L2, a2, c2, D2⟩ from s1)
        clear HDo s1 x1 hx1
        refine unhide hK _ _ (fun _ => unhide HSw w1 (unhide HX1)) ?_
        clear hK K
        refine anyL_take2 (i := 7) (v := ?vsc14) rfl (by kernel_rfl) (by kernel_rfl) (by kernel_rfl) (by kernel_rfl) (fun _ _ _ h => h) (Or.inl ⟨by rfl, ?hsc14⟩) (unhide HSw w1 (unhide HX1)) ?_
        case hsc14 => (intro w hSw; (try dsimp only at hSw); go_simp) <;> with_reducible rfl
        simp only [Act.put, List.getElem_toArray, List.getElem_cons_zero, List.getElem_cons_succ, List.setIfInBounds_toArray, List.set_cons_zero, List.set_cons_succ]
        refine anyL_free (i := 10) (v := ?vscf15) rfl (by kernel_rfl) (by kernel_rfl) (by kernel_rfl) rfl (fun _ _ _ h => h) (Or.inl ⟨by rfl, ?hscf15⟩) ?_
        case hscf15 => (intro w hSw; go_simp) <;> with_reducible rfl
        simp only [Act.put, List.getElem_toArray, List.getElem_cons_zero, List.getElem_cons_succ, List.setIfInBounds_toArray, List.set_cons_zero, List.set_cons_succ]
        refine anyL_take2 (i := 8) (v := ?vsc16) rfl (by kernel_rfl) (by kernel_rfl) (by kernel_rfl) (by kernel_rfl) (fun _ _ _ h => h) (Or.inl ⟨by rfl, ?hsc16⟩) (unhide HSw w1 (unhide HX1)) ?_
        case hsc16 => (intro w hSw; (try dsimp only at hSw); go_simp) <;> with_reducible rfl
        simp only [Act.put, List.getElem_toArray, List.getElem_cons_zero, List.getElem_cons_succ, List.setIfInBounds_toArray, List.set_cons_zero, List.set_cons_succ]
        refine anyL_take2 (i := 9) (v := ?vsc17) rfl (by kernel_rfl) (by kernel_rfl) (by kernel_rfl) (by kernel_rfl) (fun _ _ _ h => h) (Or.inl ⟨by rfl, ?hsc17⟩) (unhide HSw w1 (unhide HX1)) ?_
        case hsc17 => (intro w hSw; (try dsimp only at hSw); go_simp) <;> with_reducible rfl
        simp only [Act.put, List.getElem_toArray, List.getElem_cons_zero, List.getElem_cons_succ, List.setIfInBounds_toArray, List.set_cons_zero, List.set_cons_succ]
        refine anyL_take2 (i := 11) (v := ?vsc18) rfl (by kernel_rfl) (by kernel_rfl) (by kernel_rfl) (by kernel_rfl) (fun _ _ _ h => h) (Or.inl ⟨by rfl, ?hsc18⟩) (unhide HSw w1 (unhide HX1)) ?_
        case hsc18 => (intro w hSw; (try dsimp only at hSw); go_simp) <;> with_reducible rfl
        simp only [Act.put, List.getElem_toArray, List.getElem_cons_zero, List.getElem_cons_succ, List.setIfInBounds_toArray, List.set_cons_zero, List.set_cons_succ]
        refine anyL_ready (rs := [12]) (by kernel_rfl) (by simp) ?_
        refine AllL.cons rfl (fun K hK => ?_) AllL.nil
        obtain ⟨y0, y1⟩ := clsR_two (unhide HJ2).1
        have f0 := (unhide HJ2).1.frozen 0
        have f1 := (unhide HJ2).1.frozen 1
        have kp := clsR_put2 (unhide HJ2).1 (.int .i64 n2) (.slice a2 D2.length c2) (unhide HJ2).2.1 (unhide HJ).g
        have HJN : Hid (ScR w ((w1.setCell ⟨G9, 0, none⟩ (.int .i64 n2)).setCell ⟨G9, 1, none⟩ (.slice a2 D2.length c2)) G9 g' n2 L2 a2 c2 D2) := hide ⟨(unhide HJ2).2.2.put2 (unhide HJ2).1 _ _, kp.1, kp.2, (unhide HJ).g⟩
        have HSN : Hid (SyJ w ((w1.setCell ⟨G9, 0, none⟩ (.int .i64 n2)).setCell ⟨G9, 1, none⟩ (.slice a2 D2.length c2)) G9 B0 ⟨g', n2, L2, a2, c2, D2⟩ u9 u10 S S) := hide ((unhide HS2).put ⟨g', n2, L2, a2, c2, D2⟩ (unhide HY))
        clear kp HJ2 HY
        go_simp
        clear y0 y1 f0 f1
        refine unhide hK _ _ (fun h => by cases h) ?_
        clear hK K
        refine anyL_ready (rs := [13]) (by kernel_rfl) (by simp) ?_
        refine AllL.cons rfl (fun K hK => ?_) AllL.nil
        go_simp
        refine unhide hK _ _ (fun h => by cases h) ?_
        clear hK K
        refine anyL_done (by kernel_rfl) ?_ _
        generalize (w1.setCell ⟨G9, 0, none⟩ (.int .i64 n2)).setCell ⟨G9, 1, none⟩ (.slice a2 D2.length c2) = wN at *
        clear HSw HX0 HX1 HJ HJN HS HS2
        go_upto_region 15 with fail
        have HSZ := hide ((unhide HSN).on (Below.refl wN.heap.size wN).drew)
        clear HSN
        refine regionL (S := fun z => z.cell? ⟨G9, 0, none⟩ = some (.int .i64 n2) ∧ z.cell? ⟨G9, 1, none⟩ = some (.slice a2 D2.length c2)) (fun _ => false) (by kernel_rfl) ?_
        generalize wN.drew = zw at *
        refine anyL_take (i := 0) (v := ?vr1525) rfl (by kernel_rfl) (by kernel_rfl) (by kernel_rfl) (by kernel_rfl) (fun _ _ _ h => h) (Or.inl ⟨by rfl, ?hr1525⟩) (clsR_two (unhide HSZ).j.k) ?_
        case hr1525 => (intro w hSw; (try dsimp only at hSw); go_simp) <;> with_reducible rfl
        simp only [Act.put, List.getElem_toArray, List.getElem_cons_zero, List.setIfInBounds_toArray, List.set_cons_zero, List.set_cons_succ]
        refine anyL_take (i := 1) (v := ?vr1526) rfl (by kernel_rfl) (by kernel_rfl) (by kernel_rfl) (by kernel_rfl) (fun _ _ _ h => h) (Or.inl ⟨by rfl, ?hr1526⟩) (clsR_two (unhide HSZ).j.k) ?_
        case hr1526 => (intro w hSw; (try dsimp only at hSw); go_simp) <;> with_reducible rfl
        simp only [Act.put, List.getElem_toArray, List.getElem_cons_zero, List.getElem_cons_succ, List.setIfInBounds_toArray, List.set_cons_zero, List.set_cons_succ]
        refine anyL_take (i := 4) (v := ?vr1527) rfl (by kernel_rfl) (by kernel_rfl) (by kernel_rfl) (by kernel_rfl) (fun _ _ _ h => h) (Or.inl ⟨by rfl, ?hr1527⟩) (clsR_two (unhide HSZ).j.k) ?_
        case hr1527 => (intro w hSw; (try dsimp only at hSw); go_simp) <;> with_reducible rfl
        simp only [Act.put, List.getElem_toArray, List.getElem_cons_zero, List.getElem_cons_succ, List.setIfInBounds_toArray, List.set_cons_zero, List.set_cons_succ]
        refine anyL_take (i := 5) (v := ?vr1528) rfl (by kernel_rfl) (by kernel_rfl) (by kernel_rfl) (by kernel_rfl) (fun _ _ _ h => h) (Or.inl ⟨by rfl, ?hr1528⟩) (clsR_two (unhide HSZ).j.k) ?_
        case hr1528 => (intro w hSw; (try dsimp only at hSw); go_simp) <;> with_reducible rfl
        simp only [Act.put, List.getElem_toArray, List.getElem_cons_zero, List.getElem_cons_succ, List.setIfInBounds_toArray, List.set_cons_zero, List.set_cons_succ]
        refine anyL_ready (rs := [2, 6]) (by kernel_rfl) (by simp) ?_
        refine AllL.cons rfl (fun K hK => ?_) (AllL.cons rfl (fun K hK => ?_) AllL.nil)
        · go_simp
          have xa := (Below.refl zw.heap.size zw).alloc (Nat.le_refl _) (.cells #[.pointer (some ⟨g', 0, none⟩)] 24)
          have HSwa := hide ((unhide HSZ).on xa)
          have Ka := hide (Cls.new zw 24 #[.pointer (some ⟨g', 0, none⟩)])
          refine unhide hK _ _ (fun _ => clsR_two (unhide HSwa).j.k) ?_
          clear hK K xa
          generalize zw.alloc (.cells #[.pointer (some ⟨g', 0, none⟩)] 24) = wa at *
          generalize zw.heap.size = ba at *
          refine anyL_ready (rs := [3, 6]) (by kernel_rfl) (by simp) ?_
          refine AllL.cons rfl (fun K hK => ?_) (AllL.cons rfl (fun K hK => ?_) AllL.nil)
          · obtain ⟨v3, w3a, rp, sp, kp⟩ := (unhide HSwa).pushp (b := ba) ((unhide Ka).cell 0) hln
            have RP := hide rp
            have HSw3a := hide sp
            clear rp sp kp Ka
            refine step_append_in rfl _ _ 46 46 rfl _ _ rfl rfl _ _ (unhide RP) ?_
            go_simp
            clear RP
            refine unhide hK _ _ (fun _ => clsR_two (unhide HSw3a).j.k) ?_
            clear hK K
            refine anyL_ready (rs := [6]) (by kernel_rfl) (by simp) ?_
            refine AllL.cons rfl (fun K hK => ?_) AllL.nil
            go_simp
            have xa := (Below.refl w3a.heap.size w3a).alloc (Nat.le_refl _) (.cells #[.int .i64 n2, .slice a2 D2.length c2] 30)
            have HSwba3 := hide ((unhide HSw3a).on xa)
            have Kb := hide (Cls.new w3a 30 #[.int .i64 n2, .slice a2 D2.length c2])
            refine unhide hK _ _ (fun _ => clsR_two (unhide HSwba3).j.k) ?_
            clear hK K xa
            generalize w3a.alloc (.cells #[.int .i64 n2, .slice a2 D2.length c2] 30) = wba3 at *
            generalize w3a.heap.size = bb at *
            refine anyL_ready (rs := [7]) (by kernel_rfl) (by simp) ?_
            refine AllL.cons rfl (fun K hK => ?_) AllL.nil
            obtain ⟨v7, w7a3b, rp, sp⟩ := (unhide HSwba3).pusht (b := bb) (unhide Kb) hln
            have RP := hide rp
            have HSw7a3b := hide sp
            clear rp sp Kb
            refine step_append_in rfl _ _ 47 47 rfl _ _ rfl rfl _ _ (unhide RP) ?_
            go_simp
            clear RP
            refine unhide hK _ _ (fun _ => clsR_two (unhide HSw7a3b).j.k) ?_
            clear hK K
            refine anyL_take (i := 8) (v := ?vr1529) rfl (by kernel_rfl) (by kernel_rfl) (by kernel_rfl) (by kernel_rfl) (fun _ _ _ h => h) (Or.inl ⟨by rfl, ?hr1529⟩) (clsR_two (unhide HSw7a3b).j.k) ?_
            case hr1529 => (intro w hSw; (try dsimp only at hSw); go_simp) <;> with_reducible rfl
            simp only [Act.put, List.getElem_toArray, List.getElem_cons_zero, List.getElem_cons_succ, List.setIfInBounds_toArray, List.set_cons_zero, List.set_cons_succ]
            refine anyL_take (i := 9) (v := ?vr1530) rfl (by kernel_rfl) (by kernel_rfl) (by kernel_rfl) (by kernel_rfl) (fun _ _ _ h => h) (Or.inl ⟨by rfl, ?hr1530⟩) (clsR_two (unhide HSw7a3b).j.k) ?_
            case hr1530 => (intro w hSw; (try dsimp only at hSw); go_simp) <;> with_reducible rfl
            simp only [Act.put, List.getElem_toArray, List.getElem_cons_zero, List.getElem_cons_succ, List.setIfInBounds_toArray, List.set_cons_zero, List.set_cons_succ]
            refine anyL_done (by kernel_rfl) ?_ _
            go_wp2_with fail
            go_roundw
            case rel => exact ⟨⟨_, rfl⟩, i + 1, ⟨g', n2, L2, a2, c2, D2⟩, _, by go_num, rfl, hlt.1, hlt.2, hide ⟨unhide HSw7a3b, by simp [hSl]⟩⟩
            case measure => simp [intOf]; omega
          · go_simp
            have xa := (Below.refl wa.heap.size wa).alloc (Nat.le_refl _) (.cells #[.int .i64 n2, .slice a2 D2.length c2] 30)
            have HSwba := hide ((unhide HSwa).on xa)
            have Kb := hide (Cls.new wa 30 #[.int .i64 n2, .slice a2 D2.length c2])
            have Ka9 := hide ((unhide Ka).below xa (unhide Ka).lt)
            clear Ka
            have Ka := Ka9
            clear Ka9
            refine unhide hK _ _ (fun _ => clsR_two (unhide HSwba).j.k) ?_
            clear hK K xa
            generalize wa.alloc (.cells #[.int .i64 n2, .slice a2 D2.length c2] 30) = wba at *
            generalize wa.heap.size = bb at *
            refine anyL_ready (rs := [3]) (by kernel_rfl) (by simp) ?_
            refine AllL.cons rfl (fun K hK => ?_) AllL.nil
            obtain ⟨v3, w3ab, rp, sp, kp⟩ := (unhide HSwba).pushp (b := ba) ((unhide Ka).cell 0) hln
            have RP := hide rp
            have HSw3ab := hide sp
            have Kb9 := hide (kp bb _ (unhide Kb))
            clear Kb
            have Kb := Kb9
            clear Kb9
            clear rp sp kp Ka
            refine step_append_in rfl _ _ 46 46 rfl _ _ rfl rfl _ _ (unhide RP) ?_
            go_simp
            clear RP
            refine unhide hK _ _ (fun _ => clsR_two (unhide HSw3ab).j.k) ?_
            clear hK K
            refine anyL_ready (rs := [7]) (by kernel_rfl) (by simp) ?_
            refine AllL.cons rfl (fun K hK => ?_) AllL.nil
            obtain ⟨v7, w7ab3, rp, sp⟩ := (unhide HSw3ab).pusht (b := bb) (unhide Kb) hln
            have RP := hide rp
            have HSw7ab3 := hide sp
            clear rp sp Kb
            refine step_append_in rfl _ _ 47 47 rfl _ _ rfl rfl _ _ (unhide RP) ?_
            go_simp
            clear RP
            refine unhide hK _ _ (fun _ => clsR_two (unhide HSw7ab3).j.k) ?_
            clear hK K
            refine anyL_take (i := 8) (v := ?vr1531) rfl (by kernel_rfl) (by kernel_rfl) (by kernel_rfl) (by kernel_rfl) (fun _ _ _ h => h) (Or.inl ⟨by rfl, ?hr1531⟩) (clsR_two (unhide HSw7ab3).j.k) ?_
            case hr1531 => (intro w hSw; (try dsimp only at hSw); go_simp) <;> with_reducible rfl
            simp only [Act.put, List.getElem_toArray, List.getElem_cons_zero, List.getElem_cons_succ, List.setIfInBounds_toArray, List.set_cons_zero, List.set_cons_succ]
            refine anyL_take (i := 9) (v := ?vr1532) rfl (by kernel_rfl) (by kernel_rfl) (by kernel_rfl) (by kernel_rfl) (fun _ _ _ h => h) (Or.inl ⟨by rfl, ?hr1532⟩) (clsR_two (unhide HSw7ab3).j.k) ?_
            case hr1532 => (intro w hSw; (try dsimp only at hSw); go_simp) <;> with_reducible rfl
            simp only [Act.put, List.getElem_toArray, List.getElem_cons_zero, List.getElem_cons_succ, List.setIfInBounds_toArray, List.set_cons_zero, List.set_cons_succ]
            refine anyL_done (by kernel_rfl) ?_ _
            go_wp2_with fail
            go_roundw
            case rel => exact ⟨⟨_, rfl⟩, i + 1, ⟨g', n2, L2, a2, c2, D2⟩, _, by go_num, rfl, hlt.1, hlt.2, hide ⟨unhide HSw7ab3, by simp [hSl]⟩⟩
            case measure => simp [intOf]; omega
        · go_simp
          have xa := (Below.refl zw.heap.size zw).alloc (Nat.le_refl _) (.cells #[.int .i64 n2, .slice a2 D2.length c2] 30)
          have HSwb := hide ((unhide HSZ).on xa)
          have Kb := hide (Cls.new zw 30 #[.int .i64 n2, .slice a2 D2.length c2])
          refine unhide hK _ _ (fun _ => clsR_two (unhide HSwb).j.k) ?_
          clear hK K xa
          generalize zw.alloc (.cells #[.int .i64 n2, .slice a2 D2.length c2] 30) = wb at *
          generalize zw.heap.size = bb at *
          refine anyL_ready (rs := [2]) (by kernel_rfl) (by simp) ?_
          refine AllL.cons rfl (fun K hK => ?_) AllL.nil
          go_simp
          have xa := (Below.refl wb.heap.size wb).alloc (Nat.le_refl _) (.cells #[.pointer (some ⟨g', 0, none⟩)] 24)
          have HSwab := hide ((unhide HSwb).on xa)
          have Ka := hide (Cls.new wb 24 #[.pointer (some ⟨g', 0, none⟩)])
          have Kb9 := hide ((unhide Kb).below xa (unhide Kb).lt)
          clear Kb
          have Kb := Kb9
          clear Kb9
          refine unhide hK _ _ (fun _ => clsR_two (unhide HSwab).j.k) ?_
          clear hK K xa
          generalize wb.alloc (.cells #[.pointer (some ⟨g', 0, none⟩)] 24) = wab at *
          generalize wb.heap.size = ba at *
          refine anyL_ready (rs := [3]) (by kernel_rfl) (by simp) ?_
          refine AllL.cons rfl (fun K hK => ?_) AllL.nil
          obtain ⟨v3, w3ba, rp, sp, kp⟩ := (unhide HSwab).pushp (b := ba) ((unhide Ka).cell 0) hln
          have RP := hide rp
          have HSw3ba := hide sp
          have Kb9 := hide (kp bb _ (unhide Kb))
          clear Kb
          have Kb := Kb9
          clear Kb9
          clear rp sp kp Ka
          refine step_append_in rfl _ _ 46 46 rfl _ _ rfl rfl _ _ (unhide RP) ?_
          go_simp
          clear RP
          refine unhide hK _ _ (fun _ => clsR_two (unhide HSw3ba).j.k) ?_
          clear hK K
          refine anyL_ready (rs := [7]) (by kernel_rfl) (by simp) ?_
          refine AllL.cons rfl (fun K hK => ?_) AllL.nil
          obtain ⟨v7, w7ba3, rp, sp⟩ := (unhide HSw3ba).pusht (b := bb) (unhide Kb) hln
          have RP := hide rp
          have HSw7ba3 := hide sp
          clear rp sp Kb
          refine step_append_in rfl _ _ 47 47 rfl _ _ rfl rfl _ _ (unhide RP) ?_
          go_simp
          clear RP
          refine unhide hK _ _ (fun _ => clsR_two (unhide HSw7ba3).j.k) ?_
          clear hK K
          refine anyL_take (i := 8) (v := ?vr1533) rfl (by kernel_rfl) (by kernel_rfl) (by kernel_rfl) (by kernel_rfl) (fun _ _ _ h => h) (Or.inl ⟨by rfl, ?hr1533⟩) (clsR_two (unhide HSw7ba3).j.k) ?_
          case hr1533 => (intro w hSw; (try dsimp only at hSw); go_simp) <;> with_reducible rfl
          simp only [Act.put, List.getElem_toArray, List.getElem_cons_zero, List.getElem_cons_succ, List.setIfInBounds_toArray, List.set_cons_zero, List.set_cons_succ]
          refine anyL_take (i := 9) (v := ?vr1534) rfl (by kernel_rfl) (by kernel_rfl) (by kernel_rfl) (by kernel_rfl) (fun _ _ _ h => h) (Or.inl ⟨by rfl, ?hr1534⟩) (clsR_two (unhide HSw7ba3).j.k) ?_
          case hr1534 => (intro w hSw; (try dsimp only at hSw); go_simp) <;> with_reducible rfl
          simp only [Act.put, List.getElem_toArray, List.getElem_cons_zero, List.getElem_cons_succ, List.setIfInBounds_toArray, List.set_cons_zero, List.set_cons_succ]
          refine anyL_done (by kernel_rfl) ?_ _
          go_wp2_with fail
          go_roundw
          case rel => exact ⟨⟨_, rfl⟩, i + 1, ⟨g', n2, L2, a2, c2, D2⟩, _, by go_num, rfl, hlt.1, hlt.2, hide ⟨unhide HSw7ba3, by simp [hSl]⟩⟩
          case measure => simp [intOf]; omega
      case neg =>
        obtain ⟨M, hM⟩ : ∃ M, M = S.length := ⟨_, rfl⟩
        have HM := hide hM
        have HS9 : Hid (∀ k, k < M → ∀ Y, Below wr.heap.size wr Y → ∃ gp cp gt ct, u9 = .slice (some ⟨gp, 0, none⟩) M cp ∧ u10 = .slice (some ⟨gt, 0, none⟩) M ct ∧ Y.cell? ⟨gp, k, none⟩ = some (.pointer (some ⟨(S.getD k rstZ).g, 0, none⟩)) ∧ Y.cell? ⟨gt, k * 2, none⟩ = some (.int .i64 (S.getD k rstZ).n) ∧ Y.cell? ⟨gt, k * 2 + 1, none⟩ = some (.slice (S.getD k rstZ).a (S.getD k rstZ).D.length (S.getD k rstZ).c) ∧ AtS Y (S.getD k rstZ)) := hide fun k hk Y hY => by
          rw [hM] at hk ⊢
          obtain ⟨gp, cp, gt, ct, e1, e2, _, q1, q2, q3, q4⟩ := ((unhide HS).on hY).both k hk
          exact ⟨gp, cp, gt, ct, e1, e2, q1, q2, q3, q4⟩
        obtain ⟨gp, cp, gt, ct, e1, e2, _⟩ := unhide HS9 0 (by omega) wr (Below.refl _ _)
        have hM6 : M ≤ 61 := by omega
        have HBW := hide (unhide HS).j.b
        subst e1 e2
        clear HS hM hSl hln hi hi6
        generalize wr = wq at *
        by_cases h1 : i < N
        · have h2 : ¬ i < 60 := fun h => hlt ⟨h1, h⟩
          have h3 : (i : Int) < (N : Int) := by omega
          have h4 : ¬ (i : Int) < 60 := by omega
          have t1 : decide ((i : Int) < (N : Int)) = true := decide_eq_true h3
          have t2 : decide ((i : Int) < 60) = false := decide_eq_false h4
          have t3 : decide (i < 60) = false := decide_eq_false h2
          clear hlt
          go_wp2_with fail
          --@dbg
          go_loopw [13, 75] (fun v13 v75 wx => (∃ z, v13 = z) ∧ ∃ k : Nat, v75 = .int .i64 (k : Int) ∧ k ≤ M ∧ Hid (Below wq.heap.size wq wx)) (fun _ v75 _ => M - (intOf v75).toNat)
          case atStart => exact ⟨⟨_, rfl⟩, 0, rfl, Nat.zero_le _, hide (Below.refl _ _)⟩
          case round =>
            obtain ⟨⟨z2, rfl⟩, k, rfl, hk, HX⟩ := hrel
            by_cases hlk : k < M
            · have p1 : decide ((k : Int) < (M : Int)) = true := decide_eq_true (by omega)
              have hxd := (unhide HX).drew
              obtain ⟨gp', cp', gt', ct', e1, e2, q1, q2, q3, q4⟩ := unhide HS9 k hlk _ hxd
              cases e1
              cases e2
              generalize S.getD k rstZ = y at *
              obtain ⟨yg, yn, yL, ya, yc, yD⟩ := y
              dsimp only at q1 q2 q3
              have HT := hide (tells_at yg yn yL ya yc yD _ q4)
              unfold rsV at HT
              have HXD := hide hxd
              have HSQ := hide (And.intro q1 (And.intro q2 q3))
              clear q1 q2 q3 q4 hxd
              go_upto_region 19 with fail
              refine regionL (S := fun z => z.cell? ⟨gp, k, none⟩ = some (.pointer (some ⟨yg, 0, none⟩)) ∧ z.cell? ⟨gt, k * 2, none⟩ = some (.int .i64 yn) ∧ z.cell? ⟨gt, k * 2 + 1, none⟩ = some (.slice ya yD.length yc)) (fun i => i == 8 || i == 9) (by kernel_rfl) ?_
              generalize wr.drew = zv at *
              refine anyL_take (i := 0) (v := ?vr190) rfl (by kernel_rfl) (by kernel_rfl) (by kernel_rfl) (by kernel_rfl) (fun _ _ _ h => h) (Or.inl ⟨by rfl, ?hr190⟩) (unhide HSQ) ?_
              case hr190 => (intro w hSw; (try dsimp only at hSw); go_simp) <;> with_reducible rfl
              simp only [Act.put, List.getElem_toArray, List.getElem_cons_zero, List.setIfInBounds_toArray, List.set_cons_zero, List.set_cons_succ]
              refine anyL_take (i := 1) (v := ?vr191) rfl (by kernel_rfl) (by kernel_rfl) (by kernel_rfl) (by kernel_rfl) (fun _ _ _ h => h) (Or.inl ⟨by rfl, ?hr191⟩) (unhide HSQ) ?_
              case hr191 => (intro w hSw; (try dsimp only at hSw); go_simp) <;> with_reducible rfl
              simp only [Act.put, List.getElem_toArray, List.getElem_cons_zero, List.getElem_cons_succ, List.setIfInBounds_toArray, List.set_cons_zero, List.set_cons_succ]
              refine anyL_take (i := 2) (v := ?vr192) rfl (by kernel_rfl) (by kernel_rfl) (by kernel_rfl) (by kernel_rfl) (fun _ _ _ h => h) (Or.inl ⟨by rfl, ?hr192⟩) (unhide HSQ) ?_
              case hr192 => (intro w hSw; (try dsimp only at hSw); go_simp) <;> with_reducible rfl
              simp only [Act.put, List.getElem_toArray, List.getElem_cons_zero, List.getElem_cons_succ, List.setIfInBounds_toArray, List.set_cons_zero, List.set_cons_succ]
              refine anyL_take (i := 3) (v := ?vr193) rfl (by kernel_rfl) (by kernel_rfl) (by kernel_rfl) (by kernel_rfl) (fun _ _ _ h => h) (Or.inl ⟨by rfl, ?hr193⟩) (unhide HSQ) ?_
              case hr193 => (intro w hSw; (try dsimp only at hSw); go_simp) <;> with_reducible rfl
              simp only [Act.put, List.getElem_toArray, List.getElem_cons_zero, List.getElem_cons_succ, List.setIfInBounds_toArray, List.set_cons_zero, List.set_cons_succ]
              refine anyL_take (i := 4) (v := ?vr194) rfl (by kernel_rfl) (by kernel_rfl) (by kernel_rfl) (by kernel_rfl) (fun _ _ _ h => h) (Or.inl ⟨by rfl, ?hr194⟩) (unhide HSQ) ?_
              case hr194 => (intro w hSw; (try dsimp only at hSw); go_simp) <;> with_reducible rfl
              simp only [Act.put, List.getElem_toArray, List.getElem_cons_zero, List.getElem_cons_succ, List.setIfInBounds_toArray, List.set_cons_zero, List.set_cons_succ]
              refine anyL_take (i := 5) (v := ?vr195) rfl (by kernel_rfl) (by kernel_rfl) (by kernel_rfl) (by kernel_rfl) (fun _ _ _ h => h) (Or.inl ⟨by rfl, ?hr195⟩) (unhide HSQ) ?_
              case hr195 => (intro w hSw; (try dsimp only at hSw); go_simp) <;> with_reducible rfl
              simp only [Act.put, List.getElem_toArray, List.getElem_cons_zero, List.getElem_cons_succ, List.setIfInBounds_toArray, List.set_cons_zero, List.set_cons_succ]
              refine anyL_take (i := 6) (v := ?vr196) rfl (by kernel_rfl) (by kernel_rfl) (by kernel_rfl) (by kernel_rfl) (fun _ _ _ h => h) (Or.inl ⟨by rfl, ?hr196⟩) (unhide HSQ) ?_
              case hr196 => (intro w hSw; (try dsimp only at hSw); go_simp) <;> with_reducible rfl
              simp only [Act.put, List.getElem_toArray, List.getElem_cons_zero, List.getElem_cons_succ, List.setIfInBounds_toArray, List.set_cons_zero, List.set_cons_succ]
              refine anyL_take (i := 7) (v := ?vr197) rfl (by kernel_rfl) (by kernel_rfl) (by kernel_rfl) (by kernel_rfl) (fun _ _ _ h => h) (Or.inl ⟨by rfl, ?hr197⟩) (unhide HSQ) ?_
              case hr197 => (intro w hSw; (try dsimp only at hSw); go_simp) <;> with_reducible rfl
              simp only [Act.put, List.getElem_toArray, List.getElem_cons_zero, List.getElem_cons_succ, List.setIfInBounds_toArray, List.set_cons_zero, List.set_cons_succ]
              refine anyL_ready (rs := [8]) (by kernel_rfl) (by simp) ?_
              refine AllL.cons rfl (fun K hK => ?_) AllL.nil
              go_simp
              refine (unhide HT).mono ?_
              rintro y v1 ⟨rfl, x1⟩
              have HX9 := hide ((unhide HXD).trans (x1.mono (unhide HXD).size))
              clear HT x1
              refine unhide hK _ _ (fun h => by cases h) ?_
              clear hK K
              refine anyL_ready (rs := [9]) (by kernel_rfl) (by simp) ?_
              refine AllL.cons rfl (fun K hK => ?_) AllL.nil
              go_simp
              refine unhide hK _ _ (fun h => by cases h) ?_
              clear hK K
              refine anyL_done (by kernel_rfl) ?_ _
              go_wp2_with fail
              go_roundw
              case rel => exact ⟨⟨_, rfl⟩, k + 1, by go_num, hlk, hide (unhide HX9)⟩
              case measure => simp [intOf]; omega
            · obtain rfl : k = M := by omega
              have p1 : decide ((k : Int) < (k : Int)) = false := decide_eq_false (by omega)
              go_wp2_with fail
              refine bodyPost_ret (results_tmp rfl _ _ _) rfl ⟨rfl, (unhide HBW).trans ((unhide HX).mono (unhide HBW).size)⟩
        · have h3 : ¬ (i : Int) < (N : Int) := by omega
          have t1 : decide ((i : Int) < (N : Int)) = false := decide_eq_false h3
          have t1' : decide (i < N) = false := decide_eq_false h1
          clear hlt
          go_wp2_with fail
          --@dbg
          go_loopw [13, 75] (fun v13 v75 wx => (∃ z, v13 = z) ∧ ∃ k : Nat, v75 = .int .i64 (k : Int) ∧ k ≤ M ∧ Hid (Below wq.heap.size wq wx)) (fun _ v75 _ => M - (intOf v75).toNat)
          case atStart => exact ⟨⟨_, rfl⟩, 0, rfl, Nat.zero_le _, hide (Below.refl _ _)⟩
          case round =>
            obtain ⟨⟨z2, rfl⟩, k, rfl, hk, HX⟩ := hrel
            by_cases hlk : k < M
            · have p1 : decide ((k : Int) < (M : Int)) = true := decide_eq_true (by omega)
              have hxd := (unhide HX).drew
              obtain ⟨gp', cp', gt', ct', e1, e2, q1, q2, q3, q4⟩ := unhide HS9 k hlk _ hxd
              cases e1
              cases e2
              generalize S.getD k rstZ = y at *
              obtain ⟨yg, yn, yL, ya, yc, yD⟩ := y
              dsimp only at q1 q2 q3
              have HT := hide (tells_at yg yn yL ya yc yD _ q4)
              unfold rsV at HT
              have HXD := hide hxd
              have HSQ := hide (And.intro q1 (And.intro q2 q3))
              clear q1 q2 q3 q4 hxd
              go_upto_region 19 with fail
              refine regionL (S := fun z => z.cell? ⟨gp, k, none⟩ = some (.pointer (some ⟨yg, 0, none⟩)) ∧ z.cell? ⟨gt, k * 2, none⟩ = some (.int .i64 yn) ∧ z.cell? ⟨gt, k * 2 + 1, none⟩ = some (.slice ya yD.length yc)) (fun i => i == 8 || i == 9) (by kernel_rfl) ?_
              generalize wr.drew = zv at *
              refine anyL_take (i := 0) (v := ?vr200) rfl (by kernel_rfl) (by kernel_rfl) (by kernel_rfl) (by kernel_rfl) (fun _ _ _ h => h) (Or.inl ⟨by rfl, ?hr200⟩) (unhide HSQ) ?_
              case hr200 => (intro w hSw; (try dsimp only at hSw); go_simp) <;> with_reducible rfl
              simp only [Act.put, List.getElem_toArray, List.getElem_cons_zero, List.setIfInBounds_toArray, List.set_cons_zero, List.set_cons_succ]
              refine anyL_take (i := 1) (v := ?vr201) rfl (by kernel_rfl) (by kernel_rfl) (by kernel_rfl) (by kernel_rfl) (fun _ _ _ h => h) (Or.inl ⟨by rfl, ?hr201⟩) (unhide HSQ) ?_
              case hr201 => (intro w hSw; (try dsimp only at hSw); go_simp) <;> with_reducible rfl
              simp only [Act.put, List.getElem_toArray, List.getElem_cons_zero, List.getElem_cons_succ, List.setIfInBounds_toArray, List.set_cons_zero, List.set_cons_succ]
              refine anyL_take (i := 2) (v := ?vr202) rfl (by kernel_rfl) (by kernel_rfl) (by kernel_rfl) (by kernel_rfl) (fun _ _ _ h => h) (Or.inl ⟨by rfl, ?hr202⟩) (unhide HSQ) ?_
              case hr202 => (intro w hSw; (try dsimp only at hSw); go_simp) <;> with_reducible rfl
              simp only [Act.put, List.getElem_toArray, List.getElem_cons_zero, List.getElem_cons_succ, List.setIfInBounds_toArray, List.set_cons_zero, List.set_cons_succ]
              refine anyL_take (i := 3) (v := ?vr203) rfl (by kernel_rfl) (by kernel_rfl) (by kernel_rfl) (by kernel_rfl) (fun _ _ _ h => h) (Or.inl ⟨by rfl, ?hr203⟩) (unhide HSQ) ?_
              case hr203 => (intro w hSw; (try dsimp only at hSw); go_simp) <;> with_reducible rfl
              simp only [Act.put, List.getElem_toArray, List.getElem_cons_zero, List.getElem_cons_succ, List.setIfInBounds_toArray, List.set_cons_zero, List.set_cons_succ]
              refine anyL_take (i := 4) (v := ?vr204) rfl (by kernel_rfl) (by kernel_rfl) (by kernel_rfl) (by kernel_rfl) (fun _ _ _ h => h) (Or.inl ⟨by rfl, ?hr204⟩) (unhide HSQ) ?_
              case hr204 => (intro w hSw; (try dsimp only at hSw); go_simp) <;> with_reducible rfl
              simp only [Act.put, List.getElem_toArray, List.getElem_cons_zero, List.getElem_cons_succ, List.setIfInBounds_toArray, List.set_cons_zero, List.set_cons_succ]
              refine anyL_take (i := 5) (v := ?vr205) rfl (by kernel_rfl) (by kernel_rfl) (by kernel_rfl) (by kernel_rfl) (fun _ _ _ h => h) (Or.inl ⟨by rfl, ?hr205⟩) (unhide HSQ) ?_
              case hr205 => (intro w hSw; (try dsimp only at hSw); go_simp) <;> with_reducible rfl
              simp only [Act.put, List.getElem_toArray, List.getElem_cons_zero, List.getElem_cons_succ, List.setIfInBounds_toArray, List.set_cons_zero, List.set_cons_succ]
              refine anyL_take (i := 6) (v := ?vr206) rfl (by kernel_rfl) (by kernel_rfl) (by kernel_rfl) (by kernel_rfl) (fun _ _ _ h => h) (Or.inl ⟨by rfl, ?hr206⟩) (unhide HSQ) ?_
              case hr206 => (intro w hSw; (try dsimp only at hSw); go_simp) <;> with_reducible rfl
              simp only [Act.put, List.getElem_toArray, List.getElem_cons_zero, List.getElem_cons_succ, List.setIfInBounds_toArray, List.set_cons_zero, List.set_cons_succ]
              refine anyL_take (i := 7) (v := ?vr207) rfl (by kernel_rfl) (by kernel_rfl) (by kernel_rfl) (by kernel_rfl) (fun _ _ _ h => h) (Or.inl ⟨by rfl, ?hr207⟩) (unhide HSQ) ?_
              case hr207 => (intro w hSw; (try dsimp only at hSw); go_simp) <;> with_reducible rfl
              simp only [Act.put, List.getElem_toArray, List.getElem_cons_zero, List.getElem_cons_succ, List.setIfInBounds_toArray, List.set_cons_zero, List.set_cons_succ]
              refine anyL_ready (rs := [8]) (by kernel_rfl) (by simp) ?_
              refine AllL.cons rfl (fun K hK => ?_) AllL.nil
              go_simp
              refine (unhide HT).mono ?_
              rintro y v1 ⟨rfl, x1⟩
              have HX9 := hide ((unhide HXD).trans (x1.mono (unhide HXD).size))
              clear HT x1
              refine unhide hK _ _ (fun h => by cases h) ?_
              clear hK K
              refine anyL_ready (rs := [9]) (by kernel_rfl) (by simp) ?_
              refine AllL.cons rfl (fun K hK => ?_) AllL.nil
              go_simp
              refine unhide hK _ _ (fun h => by cases h) ?_
              clear hK K
              refine anyL_done (by kernel_rfl) ?_ _
              go_wp2_with fail
              go_roundw
              case rel => exact ⟨⟨_, rfl⟩, k + 1, by go_num, hlk, hide (unhide HX9)⟩
              case measure => simp [intOf]; omega
            · obtain rfl : k = M := by omega
              have p1 : decide ((k : Int) < (k : Int)) = false := decide_eq_false (by omega)
              go_wp2_with fail
              refine bodyPost_ret (results_tmp rfl _ _ _) rfl ⟨rfl, (unhide HBW).trans ((unhide HX).mono (unhide HBW).size)⟩
end Go.Proofs.Ytifpjdodignflaa
