/- Layer 15: MarksAsks' walk, second form (written by wip/tools/mla.py). -/
import Derived.Test.YtnnnilodknkadaaMa51
import Derived.Deep.QuietTactic
import Derived.BigQuiet
import Derived.WalkSmall

namespace Go.Proofs.Ytnnnilodknkadaa
open Go.ChangeShapes Go.WideShapes Go.ChangeAt Go.RowKit
attribute [local go_sem] Oper.semAt_some

theorem fd_none {s : ByteArray} {D : List Mk} (h : getM s D = none) : fdM s D = -1 := by
  unfold getM at h
  rw [Option.map_eq_none_iff] at h
  unfold fdM; rw [h]
theorem fd_some {s : ByteArray} {D : List Mk} {m : Mk} (h : getM s D = some m) : ∃ j : Nat, fdM s D = (j : Int) ∧ j < D.length ∧ D.getD j mkZ = m := by
  unfold getM at h
  cases ha : atM s D 0 with
  | none => rw [ha] at h; cases h
  | some y =>
    rw [ha] at h
    obtain ⟨j, y⟩ := y
    cases h
    obtain ⟨_, h2, _, h4⟩ := atM_lt s D 0 j _ ha
    rw [Nat.sub_zero] at h4
    exact ⟨j, by unfold fdM; rw [ha], by omega, by rw [List.getD_eq_getElem?_getD, h4]; rfl⟩
set_option maxRecDepth 100000 in
set_option maxHeartbeats 8000000 in
theorem MarksAsks_any (n : Int) (A : Option Addr) (cp : Nat) (l : List Ac) (p0 p1 : Int) (w : World) (_hn : (Lit.int .i64 n).wf = true) (hA : IsAc w A l) (hl : l.length ≤ 1048576) :
    Calls Try.prog 4 #[.int .i64 n, .slice A l.length cp, .agg #[.int .i64 p0, .int .i64 p1]] w fun y w' => y = .returned (.bool true) ∧ Below w.heap.size w w' := by
  have b0 := (Below.refl w.heap.size w).alloc (Nat.le_refl _) (.cells #[.int .i64 p0, .int .i64 p1] 43)
  have HX0 := hide b0
  have HK0 := hide (Cls.new w 43 #[.int .i64 p0, .int .i64 p1])
  have HAw := hide (awake15_at (w.alloc (.cells #[.int .i64 p0, .int .i64 p1] 43)))
  have HAc := hide hA
  have HAB := hide fun (Y : World) (hY : Below w.heap.size w Y) => (show IsAc Y A l from ⟨fun y hy => (hA.1 y hy).below hY, hA.2.imp id fun ⟨g, off, e, hg, hc⟩ => ⟨g, off, e, Nat.lt_of_lt_of_le hg hY.size, fun k hk j hj => (hY.cell (p := ⟨g, off + k * 5 + j, none⟩) hg).trans (hc k hk j hj)⟩⟩)
  clear b0 hA _hn
  by_cases hr : 0 ≤ n ∧ n ≤ 268435456
  case neg =>
    have HPl := hide fun (Y : World) => playedE_at n A cp l.length Y hr
    have ht : (decide (n < 0) = true) ∨ (decide (n < 0) = false ∧ decide (n > 268435456) = true ∧ decide (268435456 < n) = true) := by
      by_cases h1 : n < 0
      · exact .inl (decide_eq_true h1)
      · exact .inr ⟨decide_eq_false h1, decide_eq_true (by omega), decide_eq_true (by omega)⟩
    clear hr
    rcases ht with t1 | ⟨t1, t2, t2'⟩
    all_goals
      go_enter Try.func4, Try.ntmps4
      go_wp2_with fail
      refine (unhide HAw).mono ?_
      rintro y w1 ⟨rfl, x1⟩
      dsimp only
      have HX1 := hide ((unhide HX0).trans (x1.mono (unhide HX0).size))
      have HC2 := hide (unhide HPl w1)
      clear HAw HPl HX0 x1
      go_wp2_with fail
      refine (unhide HC2).mono ?_
      rintro y w2 ⟨rfl, x2⟩
      dsimp only
      have hx2 := (unhide HX1).trans (x2.mono (unhide HX1).size)
      have HX2 := hide (hx2.alloc hx2.size (.cells #[.int .i64 n, .slice none 0 0] 29))
      clear HC2 HX1 x2 hx2
      go_wp2_with fail
      refine bodyPost_ret (results_tmp rfl _ _ _) rfl ⟨rfl, unhide HX2⟩
  have HPl := hide fun (Y : World) (hY : Below w.heap.size w Y) => played_at n A cp l Y (unhide HAB Y hY) hl hr
  obtain ⟨N, hN⟩ : ∃ N, N = l.length := ⟨_, rfl⟩
  have HN := hide hN
  rw [← hN] at hl HPl ⊢
  clear hr hN HAB
  go_enter Try.func4, Try.ntmps4
  go_wp2_with fail
  refine (unhide HAw).mono ?_
  rintro y w1 ⟨rfl, x1⟩
  dsimp only
  have HX1 := hide ((unhide HX0).trans (x1.mono (unhide HX0).size))
  have HK1 := hide ((unhide HK0).below x1 (unhide HK0).lt)
  have HC2 := hide (unhide HPl w1 (unhide HX1))
  clear HAw HPl HX0 HK0 x1
  go_wp2_with fail
  refine (unhide HC2).mono ?_
  rintro y w2 ⟨g1, n1, L1, a1, c1, D, rfl, s2, x2⟩
  dsimp only
  have hx2 := (unhide HX1).trans (x2.mono (unhide HX1).size)
  have b3 := (Below.refl w2.heap.size w2).alloc (Nat.le_refl _) (.cells #[.int .i64 n1, .slice a1 D.length c1] 29)
  have HX3 := hide (hx2.trans (b3.mono hx2.size))
  have HS3 := hide (s2.below b3)
  have HK3 := hide (And.intro (((unhide HK1).below x2 (unhide HK1).lt).below b3 ((unhide HK1).below x2 (unhide HK1).lt).lt) (Cls.new w2 29 #[.int .i64 n1, .slice a1 D.length c1]))
  clear HC2 HX1 HK1 s2 x2 hx2 b3
  go_upto_region 6 with fail
  generalize w2.alloc (.cells #[.int .i64 n1, .slice a1 D.length c1] 29) = w3 at *
  generalize w2.heap.size = G8 at *
  have JD := hide ((unhide HS3).below (Below.refl w3.heap.size w3).drew)
  have HKD : Hid (Cls w3.drew w.heap.size 43 #[.int .i64 p0, .int .i64 p1] ∧ Cls w3.drew G8 29 #[.int .i64 n1, .slice a1 D.length c1]) := hide (unhide HK3)
  have HSw : Hid (∀ Y, Below w3.drew.heap.size w3.drew Y → Y.cell? ⟨w.heap.size, 0, none⟩ = some (.int .i64 p0) ∧ Y.cell? ⟨w.heap.size, 1, none⟩ = some (.int .i64 p1) ∧ Y.cell? ⟨G8, 0, none⟩ = some (.int .i64 n1) ∧ Y.cell? ⟨G8, 1, none⟩ = some (.slice a1 D.length c1)) := hide fun Y hY => by
    have k1 := (unhide HKD).1.below hY (unhide HKD).1.lt
    have k2 := (unhide HKD).2.below hY (unhide HKD).2.lt
    exact ⟨k1.two.1, k1.two.2, k2.two.1, k2.two.2⟩
  have HXD := hide (unhide HX3).drew
  have HT1 := hide (MBtw_at g1 n1 L1 p0 p1 w3.drew (unhide JD).m (unhide JD).len)
  clear HS3 HK3 HX3
  refine regionL (S := fun z => z.cell? ⟨w.heap.size, 0, none⟩ = some (.int .i64 p0) ∧ z.cell? ⟨w.heap.size, 1, none⟩ = some (.int .i64 p1) ∧ z.cell? ⟨G8, 0, none⟩ = some (.int .i64 n1) ∧ z.cell? ⟨G8, 1, none⟩ = some (.slice a1 D.length c1)) (fun _ => false) (by kernel_rfl) ?_
  generalize w3.drew = z0 at *
  refine anyL_take (i := 0) (v := ?vka62) rfl (by kernel_rfl) (by kernel_rfl) (by kernel_rfl) (by kernel_rfl) (fun _ _ _ h => h) (Or.inl ⟨by rfl, ?hka62⟩) (unhide HSw _ (Below.refl _ _)) ?_
  case hka62 => (intro w hSw; (try dsimp only at hSw); go_simp) <;> with_reducible rfl
  simp only [Act.put, List.getElem_toArray, List.getElem_cons_zero, List.setIfInBounds_toArray, List.set_cons_zero, List.set_cons_succ]
  refine anyL_take (i := 1) (v := ?vka63) rfl (by kernel_rfl) (by kernel_rfl) (by kernel_rfl) (by kernel_rfl) (fun _ _ _ h => h) (Or.inl ⟨by rfl, ?hka63⟩) (unhide HSw _ (Below.refl _ _)) ?_
  case hka63 => (intro w hSw; (try dsimp only at hSw); go_simp) <;> with_reducible rfl
  simp only [Act.put, List.getElem_toArray, List.getElem_cons_zero, List.getElem_cons_succ, List.setIfInBounds_toArray, List.set_cons_zero, List.set_cons_succ]
  refine anyL_take (i := 2) (v := ?vka64) rfl (by kernel_rfl) (by kernel_rfl) (by kernel_rfl) (by kernel_rfl) (fun _ _ _ h => h) (Or.inl ⟨by rfl, ?hka64⟩) (unhide HSw _ (Below.refl _ _)) ?_
  case hka64 => (intro w hSw; (try dsimp only at hSw); go_simp) <;> with_reducible rfl
  simp only [Act.put, List.getElem_toArray, List.getElem_cons_zero, List.getElem_cons_succ, List.setIfInBounds_toArray, List.set_cons_zero, List.set_cons_succ]
  refine anyL_take (i := 3) (v := ?vka65) rfl (by kernel_rfl) (by kernel_rfl) (by kernel_rfl) (by kernel_rfl) (fun _ _ _ h => h) (Or.inl ⟨by rfl, ?hka65⟩) (unhide HSw _ (Below.refl _ _)) ?_
  case hka65 => (intro w hSw; (try dsimp only at hSw); go_simp) <;> with_reducible rfl
  simp only [Act.put, List.getElem_toArray, List.getElem_cons_zero, List.getElem_cons_succ, List.setIfInBounds_toArray, List.set_cons_zero, List.set_cons_succ]
  refine anyL_take (i := 4) (v := ?vka66) rfl (by kernel_rfl) (by kernel_rfl) (by kernel_rfl) (by kernel_rfl) (fun _ _ _ h => h) (Or.inl ⟨by rfl, ?hka66⟩) (unhide HSw _ (Below.refl _ _)) ?_
  case hka66 => (intro w hSw; (try dsimp only at hSw); go_simp) <;> with_reducible rfl
  simp only [Act.put, List.getElem_toArray, List.getElem_cons_zero, List.getElem_cons_succ, List.setIfInBounds_toArray, List.set_cons_zero, List.set_cons_succ]
  refine anyL_take (i := 6) (v := ?vka67) rfl (by kernel_rfl) (by kernel_rfl) (by kernel_rfl) (by kernel_rfl) (fun _ _ _ h => h) (Or.inl ⟨by rfl, ?hka67⟩) (unhide HSw _ (Below.refl _ _)) ?_
  case hka67 => (intro w hSw; (try dsimp only at hSw); go_simp) <;> with_reducible rfl
  simp only [Act.put, List.getElem_toArray, List.getElem_cons_zero, List.getElem_cons_succ, List.setIfInBounds_toArray, List.set_cons_zero, List.set_cons_succ]
  refine anyL_take (i := 7) (v := ?vka68) rfl (by kernel_rfl) (by kernel_rfl) (by kernel_rfl) (by kernel_rfl) (fun _ _ _ h => h) (Or.inl ⟨by rfl, ?hka68⟩) (unhide HSw _ (Below.refl _ _)) ?_
  case hka68 => (intro w hSw; (try dsimp only at hSw); go_simp) <;> with_reducible rfl
  simp only [Act.put, List.getElem_toArray, List.getElem_cons_zero, List.getElem_cons_succ, List.setIfInBounds_toArray, List.set_cons_zero, List.set_cons_succ]
  refine anyL_take (i := 8) (v := ?vka69) rfl (by kernel_rfl) (by kernel_rfl) (by kernel_rfl) (by kernel_rfl) (fun _ _ _ h => h) (Or.inl ⟨by rfl, ?hka69⟩) (unhide HSw _ (Below.refl _ _)) ?_
  case hka69 => (intro w hSw; (try dsimp only at hSw); go_simp) <;> with_reducible rfl
  simp only [Act.put, List.getElem_toArray, List.getElem_cons_zero, List.getElem_cons_succ, List.setIfInBounds_toArray, List.set_cons_zero, List.set_cons_succ]
  refine anyL_take (i := 9) (v := ?vka70) rfl (by kernel_rfl) (by kernel_rfl) (by kernel_rfl) (by kernel_rfl) (fun _ _ _ h => h) (Or.inl ⟨by rfl, ?hka70⟩) (unhide HSw _ (Below.refl _ _)) ?_
  case hka70 => (intro w hSw; (try dsimp only at hSw); go_simp) <;> with_reducible rfl
  simp only [Act.put, List.getElem_toArray, List.getElem_cons_zero, List.getElem_cons_succ, List.setIfInBounds_toArray, List.set_cons_zero, List.set_cons_succ]
  refine anyL_take (i := 10) (v := ?vka71) rfl (by kernel_rfl) (by kernel_rfl) (by kernel_rfl) (by kernel_rfl) (fun _ _ _ h => h) (Or.inl ⟨by rfl, ?hka71⟩) (unhide HSw _ (Below.refl _ _)) ?_
  case hka71 => (intro w hSw; (try dsimp only at hSw); go_simp) <;> with_reducible rfl
  simp only [Act.put, List.getElem_toArray, List.getElem_cons_zero, List.getElem_cons_succ, List.setIfInBounds_toArray, List.set_cons_zero, List.set_cons_succ]
  refine anyL_ready (rs := [5]) (by kernel_rfl) (by simp) ?_
  refine AllL.cons rfl (fun K hK => ?_) AllL.nil
  go_simp
  refine (unhide HT1).mono ?_
  rintro y v1 ⟨a5, c5, E, rfl, p5, s5, o5, x5⟩
  obtain rfl : E = D.filter (inM p0 p1) := (unhide JD).r.some (inM p0 p1) p5 s5
  have HO1 := hide o5
  have JV1 := hide ((unhide JD).below x5)
  have HY1 := hide x5
  have HT2 := hide (RBtw_at n1 a1 c1 D p0 p1 v1 (unhide JV1).k (Nat.le_trans (unhide JV1).l (by omega)))
  unfold msV at HT2
  refine unhide hK _ _ (fun _ => unhide HSw v1 (unhide HY1)) ?_
  clear hK K HT1 p5 s5 o5 x5
  refine anyL_ready (rs := [11]) (by kernel_rfl) (by simp) ?_
  refine AllL.cons rfl (fun K hK => ?_) AllL.nil
  go_simp
  refine (unhide HT2).mono ?_
  rintro y v2 ⟨u6, rfl, o6, x6⟩
  obtain ⟨a6, c6, e6, i6, _⟩ := own_isK o6
  subst e6
  obtain ⟨a7, c7, e7, i7, _⟩ := own_isK (rowD_below (unhide HO1) x6 (Nat.le_refl _))
  injection e7 with e71 e72 e73
  subst e71 e73
  have JV2 := hide ((unhide JV1).below x6)
  have HY2 := hide ((unhide HY1).trans (x6.mono (unhide HY1).size))
  have HT3 := hide (RSameK_at a5 c5 a6 c6 (D.filter (inM p0 p1)) v2 i7 i6 (Nat.le_trans (List.length_filter_le _ _) (Nat.le_trans (unhide JV2).l (by omega))))
  refine unhide hK _ _ (fun _ => unhide HSw v2 (unhide HY2)) ?_
  clear hK K HT2 HO1 o6 x6 i6 i7 e72
  refine anyL_ready (rs := [12]) (by kernel_rfl) (by simp) ?_
  refine AllL.cons rfl (fun K hK => ?_) AllL.nil
  go_simp
  refine (unhide HT3).mono ?_
  rintro y v3 ⟨rfl, x7⟩
  have JV3 := hide ((unhide JV2).below x7)
  have HY3 := hide ((unhide HY2).trans (x7.mono (unhide HY2).size))
  refine unhide hK _ _ (fun _ => unhide HSw v3 (unhide HY3)) ?_
  clear hK K HT3 x7
  refine anyL_take (i := 13) (v := ?vka72) rfl (by kernel_rfl) (by kernel_rfl) (by kernel_rfl) (by kernel_rfl) (fun _ _ _ h => h) (Or.inl ⟨by rfl, ?hka72⟩) (unhide HSw v3 (unhide HY3)) ?_
  case hka72 => (intro w hSw; (try dsimp only at hSw); go_simp) <;> with_reducible rfl
  simp only [Act.put, List.getElem_toArray, List.getElem_cons_zero, List.getElem_cons_succ, List.setIfInBounds_toArray, List.set_cons_zero, List.set_cons_succ]
  refine anyL_done (by kernel_rfl) ?_ _
  have HJ0 : Hid (StM v3 g1 n1 L1 a1 D ∧ Cls v3 G8 29 #[.int .i64 n1, .slice a1 D.length c1] ∧ Below w.heap.size w v3) := hide ⟨unhide JV3, (unhide HKD).2.below (unhide HY3) (unhide HKD).2.lt, (unhide HXD).trans ((unhide HY3).mono (unhide HXD).size)⟩
  clear JD JV1 JV2 JV3 HY1 HY2 HY3 HSw HKD HXD
  go_wp2_with fail
  go_loopw [9, 10, 11, 12] (fun v9 v10 v11 v12 wx => ((∃ z, v10 = z) ∧ (∃ z, v11 = z) ∧ (∃ z, v12 = z)) ∧ ∃ i : Nat, v9 = .int .i64 (i : Int) ∧ i ≤ N ∧ Hid (StM wx g1 n1 L1 a1 D ∧ Cls wx G8 29 #[.int .i64 n1, .slice a1 D.length c1] ∧ Below w.heap.size w wx)) (fun v9 _ _ _ _ => N - (intOf v9).toNat)
  case atStart => exact ⟨⟨⟨_, rfl⟩, ⟨_, rfl⟩, ⟨_, rfl⟩⟩, 0, rfl, Nat.zero_le _, HJ0⟩
  case round =>
    clear HJ0
    obtain ⟨⟨⟨z1, rfl⟩, ⟨z2, rfl⟩, ⟨z3, rfl⟩⟩, i, rfl, hi, HJ⟩ := hrel
    by_cases hlt : i < N
    · have t1 : decide ((i : Int) < (N : Int)) = true := decide_eq_true (by omega)
      have hlt' : i < l.length := by rw [← unhide HN]; exact hlt
      obtain ⟨_, eg, eo, ha, heg, hcl⟩ := (unhide HAc).at hlt' (unhide HJ).2.2
      subst ha
      have q1a := hcl 1 (by decide)
      generalize l.getD i acZ = ac at *
      obtain ⟨kd, ⟨xn, xp, xg⟩, ad, cd, d⟩ := ac
      have q1 : wr.cell? ⟨eg, eo + i * 5 + 1, none⟩ = some (.string xn) := q1a
      have heg' : eg < wr.heap.size := Nat.lt_of_lt_of_le heg (unhide HJ).2.2.size
      have HQ : Hid (∀ Y, Below wr.heap.size wr Y → Y.cell? ⟨eg, eo + i * 5 + 1, none⟩ = some (.string xn)) := hide fun Y hY => (hY.cell (p := ⟨eg, eo + i * 5 + 1, none⟩) heg').trans q1
      have HG := hide (MGet_at g1 n1 L1 xn wr (unhide HJ).1.m)
      rw [(unhide HJ).1.r.get xn] at HG
      have HFd := hide fun (Y : World) (hY : StM Y g1 n1 L1 a1 D) => RFind_at n1 a1 c1 D xn Y hY.k (Nat.le_trans hY.l (by omega))
      unfold msV at HFd
      clear hcl heg heg' hlt' q1a
      cases hg : getM xn D with
      | none =>
        rw [hg] at HG
        rw [fd_none hg] at HFd
        simp only [Option.map_none, Option.getD_none, Option.isSome_none] at HG
        clear hg
        go_wp2_with fail
        refine (unhide HG).mono ?_
        rintro y v1 ⟨rfl, x1⟩
        dsimp only
        have b2 := x1.alloc x1.size (.cells #[.string ⟨#[]⟩, .int .i64 0, .int .i64 0] 34)
        have HY1 := hide b2
        have HKx := hide (Cls.new v1 34 #[.string ⟨#[]⟩, .int .i64 0, .int .i64 0])
        clear HG x1 b2 q1
        go_upto_region 12 with fail
        generalize v1.alloc (.cells #[.string ⟨#[]⟩, .int .i64 0, .int .i64 0] 34) = va at *
        generalize v1.heap.size = bx at *
        have HS1 := hide (((unhide HJ).1.below (unhide HY1)).below (Below.refl va.heap.size va).drew)
        have HKG : Hid (Cls va.drew G8 29 #[.int .i64 n1, .slice a1 D.length c1]) := hide ((unhide HJ).2.1.below (unhide HY1).drew (unhide HJ).2.1.lt)
        have HYD := hide (unhide HY1).drew
        have HSw2 : Hid (∀ Y, Below va.drew.heap.size va.drew Y → Y.cell? ⟨G8, 0, none⟩ = some (.int .i64 n1) ∧ Y.cell? ⟨G8, 1, none⟩ = some (.slice a1 D.length c1) ∧ Y.cell? ⟨eg, eo + i * 5 + 1, none⟩ = some (.string xn)) := hide fun Y hY => by
          have k2 := (unhide HKG).below hY (unhide HKG).lt
          exact ⟨k2.two.1, k2.two.2, unhide HQ Y ((unhide HYD).trans (hY.mono (unhide HYD).size))⟩
        have HT2 := hide (unhide HFd va.drew (unhide HS1))
        refine regionL (S := fun z => z.cell? ⟨G8, 0, none⟩ = some (.int .i64 n1) ∧ z.cell? ⟨G8, 1, none⟩ = some (.slice a1 D.length c1) ∧ z.cell? ⟨eg, eo + i * 5 + 1, none⟩ = some (.string xn)) (fun _ => false) (by kernel_rfl) ?_
        refine anyL_take (i := 0) (v := ?vkf073) rfl (by kernel_rfl) (by kernel_rfl) (by kernel_rfl) (by kernel_rfl) (fun _ _ _ h => h) (Or.inl ⟨by rfl, ?hkf073⟩) (unhide HSw2 _ (Below.refl _ _)) ?_
        case hkf073 => (intro w hSw; (try dsimp only at hSw); go_simp) <;> with_reducible rfl
        simp only [Act.put, List.getElem_toArray, List.getElem_cons_zero, List.setIfInBounds_toArray, List.set_cons_zero, List.set_cons_succ]
        refine anyL_take (i := 1) (v := ?vkf074) rfl (by kernel_rfl) (by kernel_rfl) (by kernel_rfl) (by kernel_rfl) (fun _ _ _ h => h) (Or.inl ⟨by rfl, ?hkf074⟩) (unhide HSw2 _ (Below.refl _ _)) ?_
        case hkf074 => (intro w hSw; (try dsimp only at hSw); go_simp) <;> with_reducible rfl
        simp only [Act.put, List.getElem_toArray, List.getElem_cons_zero, List.getElem_cons_succ, List.setIfInBounds_toArray, List.set_cons_zero, List.set_cons_succ]
        refine anyL_take (i := 2) (v := ?vkf075) rfl (by kernel_rfl) (by kernel_rfl) (by kernel_rfl) (by kernel_rfl) (fun _ _ _ h => h) (Or.inl ⟨by rfl, ?hkf075⟩) (unhide HSw2 _ (Below.refl _ _)) ?_
        case hkf075 => (intro w hSw; (try dsimp only at hSw); go_simp) <;> with_reducible rfl
        simp only [Act.put, List.getElem_toArray, List.getElem_cons_zero, List.getElem_cons_succ, List.setIfInBounds_toArray, List.set_cons_zero, List.set_cons_succ]
        refine anyL_take (i := 3) (v := ?vkf076) rfl (by kernel_rfl) (by kernel_rfl) (by kernel_rfl) (by kernel_rfl) (fun _ _ _ h => h) (Or.inl ⟨by rfl, ?hkf076⟩) (unhide HSw2 _ (Below.refl _ _)) ?_
        case hkf076 => (intro w hSw; (try dsimp only at hSw); go_simp) <;> with_reducible rfl
        simp only [Act.put, List.getElem_toArray, List.getElem_cons_zero, List.getElem_cons_succ, List.setIfInBounds_toArray, List.set_cons_zero, List.set_cons_succ]
        refine anyL_take (i := 4) (v := ?vkf077) rfl (by kernel_rfl) (by kernel_rfl) (by kernel_rfl) (by kernel_rfl) (fun _ _ _ h => h) (Or.inl ⟨by rfl, ?hkf077⟩) (unhide HSw2 _ (Below.refl _ _)) ?_
        case hkf077 => (intro w hSw; (try dsimp only at hSw); go_simp) <;> with_reducible rfl
        simp only [Act.put, List.getElem_toArray, List.getElem_cons_zero, List.getElem_cons_succ, List.setIfInBounds_toArray, List.set_cons_zero, List.set_cons_succ]
        refine anyL_take (i := 5) (v := ?vkf078) rfl (by kernel_rfl) (by kernel_rfl) (by kernel_rfl) (by kernel_rfl) (fun _ _ _ h => h) (Or.inl ⟨by rfl, ?hkf078⟩) (unhide HSw2 _ (Below.refl _ _)) ?_
        case hkf078 => (intro w hSw; (try dsimp only at hSw); go_simp) <;> with_reducible rfl
        simp only [Act.put, List.getElem_toArray, List.getElem_cons_zero, List.getElem_cons_succ, List.setIfInBounds_toArray, List.set_cons_zero, List.set_cons_succ]
        refine anyL_take (i := 6) (v := ?vkf079) rfl (by kernel_rfl) (by kernel_rfl) (by kernel_rfl) (by kernel_rfl) (fun _ _ _ h => h) (Or.inl ⟨by rfl, ?hkf079⟩) (unhide HSw2 _ (Below.refl _ _)) ?_
        case hkf079 => (intro w hSw; (try dsimp only at hSw); go_simp) <;> with_reducible rfl
        simp only [Act.put, List.getElem_toArray, List.getElem_cons_zero, List.getElem_cons_succ, List.setIfInBounds_toArray, List.set_cons_zero, List.set_cons_succ]
        refine anyL_ready (rs := [7]) (by kernel_rfl) (by simp) ?_
        refine AllL.cons rfl (fun K hK => ?_) AllL.nil
        go_simp
        refine (unhide HT2).mono ?_
        rintro y v2 ⟨rfl, x6⟩
        have HY2 := hide x6
        refine unhide hK _ _ (fun _ => unhide HSw2 v2 x6) ?_
        clear hK K HT2 x6
        refine anyL_take (i := 8) (v := ?vkf080) rfl (by kernel_rfl) (by kernel_rfl) (by kernel_rfl) (by kernel_rfl) (fun _ _ _ h => h) (Or.inl ⟨by rfl, ?hkf080⟩) (unhide HSw2 v2 (unhide HY2)) ?_
        case hkf080 => (intro w hSw; (try dsimp only at hSw); go_simp) <;> with_reducible rfl
        simp only [Act.put, List.getElem_toArray, List.getElem_cons_zero, List.getElem_cons_succ, List.setIfInBounds_toArray, List.set_cons_zero, List.set_cons_succ]
        refine anyL_done (by kernel_rfl) ?_ _
        have kx : Cls va.drew bx 34 #[.string ⟨#[]⟩, .int .i64 0, .int .i64 0] := unhide HKx
        have kx := kx.below (unhide HY2) kx.lt
        have d0 := (kx.cell 0).trans rfl
        have d1 := (kx.cell 1).trans rfl
        have d2 := (kx.cell 2).trans rfl
        have kg := (unhide HKG).below (unhide HY2) (unhide HKG).lt
        obtain ⟨g0, g1'⟩ := kg.two
        have HSN := hide ((unhide HS1).below (unhide HY2))
        have HYN := hide ((unhide HYD).trans ((unhide HY2).mono (unhide HYD).size))
        have tj : decide ((-1 : Int) ≥ 0) = false := rfl
        have tj' : decide ((0 : Int) ≤ -1) = false := rfl
        clear HS1 HKG HYD HSw2 HY2 HKx kx kg HFd HQ HY1
        go_upto_region 13 with fail
        go_quiet (fail)
        have HJN : Hid (StM (v2.drewN nq) g1 n1 L1 a1 D ∧ Cls (v2.drewN nq) G8 29 #[.int .i64 n1, .slice a1 D.length c1] ∧ Below w.heap.size w (v2.drewN nq)) := hide (by
          have bq := below_drewN (Below.refl v2.heap.size v2) nq
          refine ⟨(unhide HSN).below bq, ?_, (unhide HJ).2.2.trans (((unhide HYN).trans (bq.mono (unhide HYN).size)).mono (unhide HJ).2.2.size)⟩
          exact (unhide HJ).2.1.below ((unhide HYN).trans (bq.mono (unhide HYN).size)) (unhide HJ).2.1.lt)
        clear HSN HYN HJ
        go_wp2_with fail
        go_roundw
        case rel => exact ⟨⟨⟨_, rfl⟩, ⟨_, rfl⟩, ⟨_, rfl⟩⟩, i + 1, by go_num, hlt, HJN⟩
        case measure => simp [intOf]; omega
      | some m =>
        obtain ⟨j, hj, hjl, hjm⟩ := fd_some hg
        rw [hg] at HG
        rw [hj] at HFd
        simp only [Option.map_some, Option.getD_some, Option.isSome_some] at HG
        have HMM := hide (And.intro hjl hjm)
        clear hg hj hjl hjm
        obtain ⟨un, up, ug⟩ := m
        unfold mkV at HG
        dsimp only at HG
        go_wp2_with fail
        refine (unhide HG).mono ?_
        rintro y v1 ⟨rfl, x1⟩
        dsimp only
        have b2 := x1.alloc x1.size (.cells #[.string un, .int .i64 up, .int .i64 ug] 34)
        have HY1 := hide b2
        have HKx := hide (Cls.new v1 34 #[.string un, .int .i64 up, .int .i64 ug])
        clear HG x1 b2 q1
        go_upto_region 12 with fail
        generalize v1.alloc (.cells #[.string un, .int .i64 up, .int .i64 ug] 34) = va at *
        generalize v1.heap.size = bx at *
        have HS1 := hide (((unhide HJ).1.below (unhide HY1)).below (Below.refl va.heap.size va).drew)
        have HKG : Hid (Cls va.drew G8 29 #[.int .i64 n1, .slice a1 D.length c1]) := hide ((unhide HJ).2.1.below (unhide HY1).drew (unhide HJ).2.1.lt)
        have HYD := hide (unhide HY1).drew
        have HSw2 : Hid (∀ Y, Below va.drew.heap.size va.drew Y → Y.cell? ⟨G8, 0, none⟩ = some (.int .i64 n1) ∧ Y.cell? ⟨G8, 1, none⟩ = some (.slice a1 D.length c1) ∧ Y.cell? ⟨eg, eo + i * 5 + 1, none⟩ = some (.string xn)) := hide fun Y hY => by
          have k2 := (unhide HKG).below hY (unhide HKG).lt
          exact ⟨k2.two.1, k2.two.2, unhide HQ Y ((unhide HYD).trans (hY.mono (unhide HYD).size))⟩
        have HT2 := hide (unhide HFd va.drew (unhide HS1))
        refine regionL (S := fun z => z.cell? ⟨G8, 0, none⟩ = some (.int .i64 n1) ∧ z.cell? ⟨G8, 1, none⟩ = some (.slice a1 D.length c1) ∧ z.cell? ⟨eg, eo + i * 5 + 1, none⟩ = some (.string xn)) (fun _ => false) (by kernel_rfl) ?_
        refine anyL_take (i := 0) (v := ?vkf181) rfl (by kernel_rfl) (by kernel_rfl) (by kernel_rfl) (by kernel_rfl) (fun _ _ _ h => h) (Or.inl ⟨by rfl, ?hkf181⟩) (unhide HSw2 _ (Below.refl _ _)) ?_
        case hkf181 => (intro w hSw; (try dsimp only at hSw); go_simp) <;> with_reducible rfl
        simp only [Act.put, List.getElem_toArray, List.getElem_cons_zero, List.setIfInBounds_toArray, List.set_cons_zero, List.set_cons_succ]
        refine anyL_take (i := 1) (v := ?vkf182) rfl (by kernel_rfl) (by kernel_rfl) (by kernel_rfl) (by kernel_rfl) (fun _ _ _ h => h) (Or.inl ⟨by rfl, ?hkf182⟩) (unhide HSw2 _ (Below.refl _ _)) ?_
        case hkf182 => (intro w hSw; (try dsimp only at hSw); go_simp) <;> with_reducible rfl
        simp only [Act.put, List.getElem_toArray, List.getElem_cons_zero, List.getElem_cons_succ, List.setIfInBounds_toArray, List.set_cons_zero, List.set_cons_succ]
        refine anyL_take (i := 2) (v := ?vkf183) rfl (by kernel_rfl) (by kernel_rfl) (by kernel_rfl) (by kernel_rfl) (fun _ _ _ h => h) (Or.inl ⟨by rfl, ?hkf183⟩) (unhide HSw2 _ (Below.refl _ _)) ?_
        case hkf183 => (intro w hSw; (try dsimp only at hSw); go_simp) <;> with_reducible rfl
        simp only [Act.put, List.getElem_toArray, List.getElem_cons_zero, List.getElem_cons_succ, List.setIfInBounds_toArray, List.set_cons_zero, List.set_cons_succ]
        refine anyL_take (i := 3) (v := ?vkf184) rfl (by kernel_rfl) (by kernel_rfl) (by kernel_rfl) (by kernel_rfl) (fun _ _ _ h => h) (Or.inl ⟨by rfl, ?hkf184⟩) (unhide HSw2 _ (Below.refl _ _)) ?_
        case hkf184 => (intro w hSw; (try dsimp only at hSw); go_simp) <;> with_reducible rfl
        simp only [Act.put, List.getElem_toArray, List.getElem_cons_zero, List.getElem_cons_succ, List.setIfInBounds_toArray, List.set_cons_zero, List.set_cons_succ]
        refine anyL_take (i := 4) (v := ?vkf185) rfl (by kernel_rfl) (by kernel_rfl) (by kernel_rfl) (by kernel_rfl) (fun _ _ _ h => h) (Or.inl ⟨by rfl, ?hkf185⟩) (unhide HSw2 _ (Below.refl _ _)) ?_
        case hkf185 => (intro w hSw; (try dsimp only at hSw); go_simp) <;> with_reducible rfl
        simp only [Act.put, List.getElem_toArray, List.getElem_cons_zero, List.getElem_cons_succ, List.setIfInBounds_toArray, List.set_cons_zero, List.set_cons_succ]
        refine anyL_take (i := 5) (v := ?vkf186) rfl (by kernel_rfl) (by kernel_rfl) (by kernel_rfl) (by kernel_rfl) (fun _ _ _ h => h) (Or.inl ⟨by rfl, ?hkf186⟩) (unhide HSw2 _ (Below.refl _ _)) ?_
        case hkf186 => (intro w hSw; (try dsimp only at hSw); go_simp) <;> with_reducible rfl
        simp only [Act.put, List.getElem_toArray, List.getElem_cons_zero, List.getElem_cons_succ, List.setIfInBounds_toArray, List.set_cons_zero, List.set_cons_succ]
        refine anyL_take (i := 6) (v := ?vkf187) rfl (by kernel_rfl) (by kernel_rfl) (by kernel_rfl) (by kernel_rfl) (fun _ _ _ h => h) (Or.inl ⟨by rfl, ?hkf187⟩) (unhide HSw2 _ (Below.refl _ _)) ?_
        case hkf187 => (intro w hSw; (try dsimp only at hSw); go_simp) <;> with_reducible rfl
        simp only [Act.put, List.getElem_toArray, List.getElem_cons_zero, List.getElem_cons_succ, List.setIfInBounds_toArray, List.set_cons_zero, List.set_cons_succ]
        refine anyL_ready (rs := [7]) (by kernel_rfl) (by simp) ?_
        refine AllL.cons rfl (fun K hK => ?_) AllL.nil
        go_simp
        refine (unhide HT2).mono ?_
        rintro y v2 ⟨rfl, x6⟩
        have HY2 := hide x6
        refine unhide hK _ _ (fun _ => unhide HSw2 v2 x6) ?_
        clear hK K HT2 x6
        refine anyL_take (i := 8) (v := ?vkf188) rfl (by kernel_rfl) (by kernel_rfl) (by kernel_rfl) (by kernel_rfl) (fun _ _ _ h => h) (Or.inl ⟨by rfl, ?hkf188⟩) (unhide HSw2 v2 (unhide HY2)) ?_
        case hkf188 => (intro w hSw; (try dsimp only at hSw); go_simp) <;> with_reducible rfl
        simp only [Act.put, List.getElem_toArray, List.getElem_cons_zero, List.getElem_cons_succ, List.setIfInBounds_toArray, List.set_cons_zero, List.set_cons_succ]
        refine anyL_done (by kernel_rfl) ?_ _
        have kx : Cls va.drew bx 34 #[.string un, .int .i64 up, .int .i64 ug] := unhide HKx
        have kx := kx.below (unhide HY2) kx.lt
        have d0 := (kx.cell 0).trans rfl
        have d1 := (kx.cell 1).trans rfl
        have d2 := (kx.cell 2).trans rfl
        have kg := (unhide HKG).below (unhide HY2) (unhide HKG).lt
        obtain ⟨g0, g1'⟩ := kg.two
        have HSN := hide ((unhide HS1).below (unhide HY2))
        have HYN := hide ((unhide HYD).trans ((unhide HY2).mono (unhide HYD).size))
        obtain ⟨fg, fo, ha, hfg, e0, e1, e2⟩ := (unhide HSN).k.three (unhide HMM).1
        rw [(unhide HMM).2] at e0 e1 e2
        dsimp only at e0 e1 e2
        subst ha
        have tj : decide ((j : Int) ≥ 0) = true := decide_eq_true (by omega)
        have tj' : decide ((0 : Int) ≤ (j : Int)) = true := decide_eq_true (by omega)
        have hj1 : (j : Int) < (D.length : Int) := by have := (unhide HMM).1; omega
        have hj2 : j < D.length := (unhide HMM).1
        clear HS1 HKG HYD HSw2 HY2 HKx kx kg HFd HQ HY1
        go_upto_region 13 with fail
        go_quiet (fail)
        have HJN : Hid (StM (v2.drewN nq) g1 n1 L1 (some ⟨fg, fo, none⟩) D ∧ Cls (v2.drewN nq) G8 29 #[.int .i64 n1, .slice (some ⟨fg, fo, none⟩) D.length c1] ∧ Below w.heap.size w (v2.drewN nq)) := hide (by
          have bq := below_drewN (Below.refl v2.heap.size v2) nq
          refine ⟨(unhide HSN).below bq, ?_, (unhide HJ).2.2.trans (((unhide HYN).trans (bq.mono (unhide HYN).size)).mono (unhide HJ).2.2.size)⟩
          exact (unhide HJ).2.1.below ((unhide HYN).trans (bq.mono (unhide HYN).size)) (unhide HJ).2.1.lt)
        clear HSN HYN HJ
        go_wp2_with fail
        go_roundw
        case rel => exact ⟨⟨⟨_, rfl⟩, ⟨_, rfl⟩, ⟨_, rfl⟩⟩, i + 1, by go_num, hlt, HJN⟩
        case measure => simp [intOf]; omega
    · obtain rfl : i = N := by omega
      have t1 : decide ((i : Int) < (i : Int)) = false := decide_eq_false (by omega)
      go_wp2_with fail
      refine bodyPost_ret (results_tmp rfl _ _ _) rfl ⟨rfl, (unhide HJ).2.2⟩
end Go.Proofs.Ytnnnilodknkadaa
