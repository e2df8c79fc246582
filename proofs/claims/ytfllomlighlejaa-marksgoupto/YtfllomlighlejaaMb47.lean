/- Layer 15: MarksGo's walk, second form (written by wip/tools/mle.py). -/
import Derived.Test.YtfllomlighlejaaMb46
import Derived.Test.YtfllomlighlejaaMb12

namespace Go.Proofs.Ytfllomlighlejaa
open Go.ChangeShapes Go.WideShapes Go.ChangeAt Go.RowKit
attribute [local go_sem] Oper.semAt_some

theorem run_leqS {P : Program} (a b : ByteArray) (ty : TypeId) (w : World) : (binOp .leq ty (.string a) (.string b)).run P w = .ok (.bool (Op.bytesLess a.toList b.toList || a.toList == b.toList)) w := rfl
attribute [local go_sem] run_leqS
theorem wrap_prev {i q : Nat} (h : i = q + 1) (hi : i ≤ 1073741824) : IntKind.i64.wrap ((i : Int) - 1) = (q : Int) := by
  rw [IntKind.wrap_i64]; omega
set_option maxRecDepth 100000 in
set_option maxHeartbeats 8000000 in
theorem MarksGo_any (n : Int) (A : Option Addr) (cp : Nat) (l : List Ac) (ad : Option Addr) (cd : Nat) (d : List Dop) (w : World) (_hn : (Lit.int .i64 n).wf = true) (hA : IsAc w A l) (hl : l.length ≤ 1048576) (ho : IsO w ad d) (hz : d = [] ∨ ∃ q, ad = some q) (hdl : d.length ≤ 1048576) (_ht : ∀ o ∈ d, TbD o ∧ o.t.length ≤ 1048576) :
    Calls Try.prog 3 #[.int .i64 n, .slice A l.length cp, .slice ad d.length cd] w fun y w' => y = .returned (.bool true) ∧ Below w.heap.size w w' := by
  have HX0 := hide (Below.refl w.heap.size w)
  have HAw := hide (awake15_at w)
  have HAB := hide fun (Y : World) (hY : Below w.heap.size w Y) => (show IsAc Y A l from ⟨fun y hy => (hA.1 y hy).below hY, hA.2.imp id fun ⟨g, off, e, hg, hc⟩ => ⟨g, off, e, Nat.lt_of_lt_of_le hg hY.size, fun k hk j hj => (hY.cell (p := ⟨g, off + k * 5 + j, none⟩) hg).trans (hc k hk j hj)⟩⟩)
  have HCP := hide fun (Y : World) (hY : Below w.heap.size w Y) => copy_op Y ad cd d 24 (ho.below hY (Nat.le_refl _)) hz (by omega)
  have hdl2 : d.length ≤ 4611686018427387904 := by omega
  have HOt := hide fun (Y : World) (hY : Below w.heap.size w Y) => ho.below hY (Nat.le_refl _)
  have htx : txD d ≤ 1099511627776 := by
    have h1 := txD_le (d := d) (fun o ho => (_ht o ho).2)
    have h3 : d.length * 1048576 ≤ 1048576 * 1048576 := Nat.mul_le_mul_right _ hdl
    omega
  clear hA _hn ho hz hdl _ht
  by_cases hr : 0 ≤ n ∧ n ≤ 268435456
  case neg =>
    have HPl := hide fun (Y : World) => playedE_at n A cp l.length Y hr
    have ht : (decide (n < 0) = true) ∨ (decide (n < 0) = false ∧ decide (n > 268435456) = true ∧ decide (268435456 < n) = true) := by
      by_cases h1 : n < 0
      · exact .inl (decide_eq_true h1)
      · exact .inr ⟨decide_eq_false h1, decide_eq_true (by omega), decide_eq_true (by omega)⟩
    clear hr
    rcases ht with t1 | ⟨t1, t2, t2'⟩
    all_goals
      go_enter Try.func3, Try.ntmps3
      go_wp2_with fail
      refine (unhide HAw).mono ?_
      rintro y w1 ⟨rfl, x1⟩
      dsimp only
      have HX1 := hide ((unhide HX0).trans (x1.mono (unhide HX0).size))
      have HC2 := hide (unhide HPl w1)
      clear HAw HPl HX0 x1
      go_wp2_with fail
      refine (unhide HC2).mono ?_
      rintro y w2 ⟨rfl, x2⟩
      dsimp only
      have hx2 := (unhide HX1).trans (x2.mono (unhide HX1).size)
      have HX2 := hide (hx2.alloc hx2.size (.cells #[.int .i64 n, .slice none 0 0] 29))
      clear HC2 HX1 x2 hx2
      go_wp2_with fail
      refine bodyPost_ret (results_tmp rfl _ _ _) rfl ⟨rfl, unhide HX2⟩
  have HPl := hide fun (Y : World) (hY : Below w.heap.size w Y) => played_at n A cp l Y (unhide HAB Y hY) hl hr
  clear hr HAB
  go_enter Try.func3, Try.ntmps3
  go_wp2_with fail
  refine (unhide HAw).mono ?_
  rintro y w1 ⟨rfl, x1⟩
  dsimp only
  have HX1 := hide ((unhide HX0).trans (x1.mono (unhide HX0).size))
  have HC2 := hide (unhide HPl w1 (unhide HX1))
  clear HAw HPl HX0 x1
  go_wp2_with fail
  refine (unhide HC2).mono ?_
  rintro y w2 ⟨g1, n1, L1, a1, c1, D, rfl, s2, x2⟩
  dsimp only
  have hx2 := (unhide HX1).trans (x2.mono (unhide HX1).size)
  have b3 := (Below.refl w2.heap.size w2).alloc (Nat.le_refl _) (.cells #[.int .i64 n1, .slice a1 D.length c1] 29)
  have HX3 := hide (hx2.trans (b3.mono hx2.size))
  have HS3 := hide (s2.below b3)
  have HQ := hide s2.q
  clear HC2 HX1 s2 x2 hx2 b3
  obtain ⟨vc, wc, rc, oc, xc⟩ := unhide HCP (w2.alloc (.cells #[.int .i64 n1, .slice a1 D.length c1] 29)) (unhide HX3)
  obtain ⟨ac, cc, hvc, ic, _⟩ := own_isO oc
  subst hvc
  have R := hide rc
  have HX13 := hide ((unhide HX3).trans (xc.mono (unhide HX3).size))
  have HS13 := hide ((unhide HS3).below xc)
  clear rc oc xc HX3 HS3
  cases hv : valB d with
  | false =>
    have HC13 := hide (MBehV_at g1 ac cc d wc ic hdl2 hv)
    have HV := hide hv
    clear hv ic HCP
    go_upto_region 6 with fail
    generalize w2.alloc (.cells #[.int .i64 n1, .slice a1 D.length c1] 29) = w3 at *
    go_wp2_with (at_builtin; refine wpList_append_known rfl _ _ 24 24 rfl _ _ rfl rfl _ _ (unhide R) ?_; clear R)
    refine (unhide HC13).mono ?_
    rintro y w13 ⟨rfl, x13⟩
    dsimp only
    have HX14 := hide ((unhide HX13).trans (x13.mono (unhide HX13).size))
    clear HC13 HX13 HS13 x13
    have HC15 := hide (RLensAny_at ad cd d w13 (unhide HOt w13 (unhide HX14)) hdl2)
    go_wp2_with fail
    refine (unhide HC15).mono ?_
    rintro y w15 ⟨f15, t15, rfl, x15⟩
    dsimp only
    have HX15 := hide ((unhide HX14).trans (x15.mono (unhide HX14).size))
    clear HC15 HX14 x15
    have HC16 := hide (RValid14_at ad cd d w15 (unhide HOt w15 (unhide HX15)) hdl2 htx)
    rw [unhide HV] at HC16
    go_wp2_with fail
    refine (unhide HC16).mono ?_
    rintro y w16 ⟨rfl, x16⟩
    dsimp only
    have HX16 := hide ((unhide HX15).trans (x16.mono (unhide HX15).size))
    clear HC16 HX15 x16
    go_wp2_with fail
    refine bodyPost_ret (results_tmp rfl _ _ _) rfl ⟨rfl, unhide HX16⟩
  | true =>
    by_cases hf : (frD d : Int) = n1
    case neg =>
      have HC13 := hide (MBehF_at g1 n1 L1 ac cc d wc (unhide HS13).m ic hdl2 hv hf)
      have HV := hide hv
      have e1 : ((frD d : Int) != n1) = true := by simpa using hf
      have e2 : ((frD d : Int) == n1) = false := by simpa using hf
      clear hv ic hf HCP
      have HLn := hide fun (Y : World) (hY : Below w.heap.size w Y) => RLensM_at ad cd d Y (unhide HOt Y hY) hdl2 (unhide HV)
      generalize (frD d : Int) = FD at *
      generalize (toD d : Int) = TD at *
      go_upto_region 6 with fail
      generalize w2.alloc (.cells #[.int .i64 n1, .slice a1 D.length c1] 29) = w3 at *
      go_wp2_with (at_builtin; refine wpList_append_known rfl _ _ 24 24 rfl _ _ rfl rfl _ _ (unhide R) ?_; clear R)
      refine (unhide HC13).mono ?_
      rintro y w13 ⟨rfl, x13⟩
      dsimp only
      have HX14 := hide ((unhide HX13).trans (x13.mono (unhide HX13).size))
      have HS14 := hide ((unhide HS13).below x13)
      clear HC13 HX13 HS13 x13
      have HC15 := hide (unhide HLn w13 (unhide HX14))
      go_wp2_with fail
      refine (unhide HC15).mono ?_
      rintro y w15 ⟨rfl, x15⟩
      dsimp only
      have HX15 := hide ((unhide HX14).trans (x15.mono (unhide HX14).size))
      have HS15 := hide ((unhide HS14).below x15)
      clear HC15 HX14 HS14 x15 HLn
      have HC16 := hide (RValid14_at ad cd d w15 (unhide HOt w15 (unhide HX15)) hdl2 htx)
      rw [unhide HV] at HC16
      go_wp2_with fail
      refine (unhide HC16).mono ?_
      rintro y w16 ⟨rfl, x16⟩
      dsimp only
      have HX16 := hide ((unhide HX15).trans (x16.mono (unhide HX15).size))
      have HS16 := hide ((unhide HS15).below x16)
      clear HC16 HX15 HS15 x16
      have HC17 := hide (MLen_at g1 n1 L1 w16 (unhide HS16).m)
      go_wp2_with fail
      refine (unhide HC17).mono ?_
      rintro y w17 ⟨rfl, x17⟩
      dsimp only
      have HX17 := hide ((unhide HX16).trans (x17.mono (unhide HX16).size))
      clear HC17 HX16 HS16 x17
      go_wp2_with fail
      refine bodyPost_ret (results_tmp rfl _ _ _) rfl ⟨rfl, unhide HX17⟩
    have HC13 := hide (MBeh_at g1 n1 L1 ac cc d wc (unhide HS13).m ic hdl2 hv hf ((unhide HS13).r.u.perm (unhide HS13).r.p))
    have HV := hide (And.intro hv hf)
    clear hv ic hf
    go_upto_region 6 with fail
    generalize w2.alloc (.cells #[.int .i64 n1, .slice a1 D.length c1] 29) = w3 at *
    go_wp2_with (at_builtin; refine wpList_append_known rfl _ _ 24 24 rfl _ _ rfl rfl _ _ (unhide R) ?_; clear R)
    refine (unhide HC13).mono ?_
    rintro y w13 ⟨g13, T, rfl, hpT, mT, x13⟩
    dsimp only
    have HX14 := hide ((unhide HX13).trans (x13.mono (unhide HX13).size))
    have HS14 := hide ((unhide HS13).below x13)
    have HMT := hide mT
    have HPT := hide hpT
    clear HC13 HX13 HS13 x13 mT hpT
    have HC15 := hide (MList_at g1 n1 L1 w13 (unhide HS14).m (unhide HS14).len)
    go_wp2_with fail
    refine (unhide HC15).mono ?_
    rintro y w15 ⟨a15, c15, E15, rfl, p15, s15, o15, x15⟩
    dsimp only
    obtain rfl : E15 = D := (unhide HS14).list p15 s15
    have HX15 := hide ((unhide HX14).trans (x15.mono (unhide HX14).size))
    have HS15 := hide ((unhide HS14).below x15)
    have HM15 := hide ((unhide HMT).below x15 (Nat.le_refl _))
    have HO15 := hide o15
    clear HC15 HX14 HS14 HMT p15 s15 o15 x15
    obtain ⟨D2, hD2⟩ : ∃ D2, D2 = movM (mvM d) E15 := ⟨_, rfl⟩
    have hR2 : Rel (T.map (mvM d)) D2 := by rw [hD2]; exact (unhide HS15).r.mov (mvM d) (mvM_n d) (unhide HPT)
    have hI2 : InP (toD d) D2 := by rw [hD2]; exact InP.mov (by rw [(unhide HV).2]; exact (unhide HS15).p) (unhide HV).1
    have hl2 : D2.length = E15.length := by rw [hD2, mov_len]
    have HR2 := hide (And.intro hR2 (And.intro hI2 hl2))
    clear hD2
    have HC16 := hide (MList_at g13 (toD d) (T.map (mvM d)) w15 (unhide HM15) (by rw [hR2.len, hl2]; exact Nat.le_trans (unhide HS15).l (by omega)))
    clear hR2 hI2 hl2
    go_wp2_with fail
    refine (unhide HC16).mono ?_
    rintro y w16 ⟨a16, c16, E16, rfl, p16, s16, o16, x16⟩
    dsimp only
    obtain rfl : E16 = D2 := ((unhide HR2).1.some _ p16 s16).trans (unhide HR2).2.1.all
    obtain ⟨ab1, cb1, eb1, ib1, _⟩ := own_isK (rowD_below (unhide HO15) x16 (Nat.le_refl _))
    injection eb1 with eb11 eb12 eb13
    subst eb11 eb13
    obtain ⟨ab2, cb2, eb2, ib2, _⟩ := own_isK o16
    injection eb2 with eb21 eb22 eb23
    subst eb21 eb23
    have HJ0 : Hid (IsK w16 a15 E15 ∧ IsK w16 a16 E16 ∧ IsMs w16 g13 (toD d) (T.map (mvM d)) ∧ Below w.heap.size w w16) := hide ⟨ib1, ib2, (unhide HM15).below x16 (Nat.le_refl _), (unhide HX15).trans (x16.mono (unhide HX15).size)⟩
    have HFa : Hid (∀ i, i < E15.length → getM (E15.getD i mkZ).n (T.map (mvM d)) = some (mvM d (E15.getD i mkZ)) ∧ plE d (E15.getD i mkZ).p (E15.getD i mkZ).g = 0) := hide fun i hi => ⟨get_mv (unhide HS15).r (unhide HPT) (mem_getD hi), (pl_zero (unhide HV).1 (by rw [(unhide HV).2]; exact ((unhide HS15).p _ (mem_getD hi)).1) ((unhide HS15).p _ (mem_getD hi)).2).1⟩
    have HFb : Hid (∀ i, i < E15.length → i < E16.length ∧ 0 ≤ (E16.getD i mkZ).p ∧ (E16.getD i mkZ).p ≤ toD d) := hide fun i hi => by
      have hi2 : i < E16.length := by rw [(unhide HR2).2.2]; exact hi
      exact ⟨hi2, ((unhide HR2).2.1 _ (mem_getD hi2)).1⟩
    have HFc : Hid (∀ i, i + 1 < E15.length → ltM (E16.getD i mkZ) (E16.getD (i + 1) mkZ) = true) := hide fun i hi => srt_next (unhide HR2).1.s (by rw [(unhide HR2).2.2]; exact hi)
    have hEl : E15.length ≤ 1048576 := Nat.le_trans (unhide HS15).l (by omega)
    have hEq : E16.length = E15.length := (unhide HR2).2.2
    rw [hEq]
    obtain ⟨N, hN⟩ : ∃ N, N = E15.length := ⟨_, rfl⟩
    rw [← hN] at hEl ⊢
    have HN := hide hN
    clear HC16 HX15 HS15 HM15 HO15 HR2 HPT p16 s16 o16 x16 ib1 ib2 eb12 eb22 hEq hN
    generalize (toD d : Int) = TD at *
    go_wp2_with fail
    go_loopw [15, 16, 17, 18, 19] (fun v15 v16 v17 v18 v19 wx => ((∃ z, v16 = z) ∧ (∃ z, v17 = z) ∧ (∃ z, v18 = z) ∧ (∃ z, v19 = z)) ∧ ∃ i : Nat, v15 = .int .i64 (i : Int) ∧ i ≤ N ∧ Hid (IsK wx a15 E15 ∧ IsK wx a16 E16 ∧ IsMs wx g13 TD (T.map (mvM d)) ∧ Below w.heap.size w wx)) (fun v15 _ _ _ _ _ => N - (intOf v15).toNat)
    case atStart => exact ⟨⟨⟨_, rfl⟩, ⟨_, rfl⟩, ⟨_, rfl⟩, ⟨_, rfl⟩⟩, 0, rfl, Nat.zero_le _, HJ0⟩
    case round =>
      clear HJ0
      obtain ⟨⟨⟨z1, rfl⟩, ⟨z2, rfl⟩, ⟨z3, rfl⟩, ⟨z4, rfl⟩⟩, i, rfl, hi, HJ⟩ := hrel
      by_cases hlt : i < N
      · have t1 : decide ((i : Int) < (N : Int)) = true := decide_eq_true (by omega)
        have hlt' : i < E15.length := by rw [← unhide HN]; exact hlt
        obtain ⟨hgi, hpe⟩ := unhide HFa i hlt'
        obtain ⟨hl2, hk0, hk1⟩ := unhide HFb i hlt'
        have HEi := hide fun (Y : World) (hY : IsK Y a15 E15) => hY.three hlt'
        have HEk := hide fun (Y : World) (hY : IsK Y a16 E16) => hY.three hl2
        have HPrev : Hid (i = 0 ∨ ∃ q, i = q + 1 ∧ q < E16.length ∧ ltM (E16.getD q mkZ) (E16.getD i mkZ) = true) := hide (by
          rcases Nat.eq_zero_or_pos i with h | h
          · exact .inl h
          · refine .inr ⟨i - 1, by omega, by omega, ?_⟩
            have := unhide HFc (i - 1) (by omega)
            rwa [show i - 1 + 1 = i by omega] at this)
        have tk0 : decide ((E16.getD i mkZ).p < 0) = false := decide_eq_false (by omega)
        have tk1 : decide ((E16.getD i mkZ).p > TD) = false := decide_eq_false (by omega)
        have tk1' : decide (TD < (E16.getD i mkZ).p) = false := decide_eq_false (by omega)
        generalize hki : E16.getD i mkZ = ki at *
        generalize E15.getD i mkZ = mi at *
        obtain ⟨inm, ip, ig⟩ := mi
        obtain ⟨knm, kp, kg⟩ := ki
        dsimp only at tk0 tk1 tk1' hpe
        have HKI := hide hki
        have HCi := hide (MGet_at g13 TD (T.map (mvM d)) inm wr (unhide HJ).2.2.1)
        rw [show getM inm (T.map (mvM d)) = some (mvM d ⟨inm, ip, ig⟩) from hgi] at HCi
        simp only [Option.map_some, Option.getD_some, Option.isSome_some] at HCi
        unfold mvM mkV at HCi
        dsimp only at HCi
        have HPl := hide fun (Y : World) (av : Option Addr) (cv : Nat) (hY : IsO Y av d) => Place_at av cv d ip ig Y hY hdl2
        rw [hpe] at HPl
        generalize plV d ip ig = xi at HCi HPl
        obtain ⟨eg, eo, ha, heg, i0, i1, i2⟩ := unhide HEi wr (unhide HJ).1
        obtain ⟨fg, fo, hb, hfg, f0, f1, f2⟩ := unhide HEk wr (unhide HJ).2.1
        subst ha
        subst hb
        clear hgi hpe hki hk0 hk1 hl2 hlt' f0 f1 f2
        go_wp2_with fail
        refine (unhide HCi).mono ?_
        rintro y u1 ⟨rfl, x1⟩
        dsimp only
        have b1 := x1.alloc x1.size (.cells #[.string inm, .int .i64 xi, .int .i64 ig] 42)
        have HY1 := hide b1
        have HKx := hide (Cls.new u1 42 #[.string inm, .int .i64 xi, .int .i64 ig])
        clear HCi x1 b1 i0 i1 i2
        go_upto_region 19 with fail
        generalize u1.alloc (.cells #[.string inm, .int .i64 xi, .int .i64 ig] 42) = ua at *
        generalize u1.heap.size = bx at *
        have HYD := hide (unhide HY1).drew
        have HSw : Hid (∀ Y, Below ua.drew.heap.size ua.drew Y → Y.cell? ⟨eg, eo + i * 3 + 1, none⟩ = some (.int .i64 ip) ∧ Y.cell? ⟨eg, eo + i * 3 + 2, none⟩ = some (.int .i64 ig)) := hide fun Y hY => by
          obtain ⟨q1, q2, hqa, _, n0, n1, n2⟩ := unhide HEi Y ((unhide HJ).1.below ((unhide HYD).trans (hY.mono (unhide HYD).size)) (Nat.le_refl _))
          cases hqa
          exact ⟨n1, n2⟩
        have hXD := (unhide HJ).2.2.2.trans ((unhide HYD).mono (unhide HJ).2.2.2.size)
        obtain ⟨vq, wq, rq, oq, xq⟩ := unhide HCP ua.drew hXD
        obtain ⟨aq, cq, hvq, iq, _⟩ := own_isO oq
        subst hvq
        have RQ := hide rq
        have HPq := hide (unhide HPl wq aq cq iq)
        have HXq := hide xq
        have HXa := hide ((Below.refl ua.drew.heap.size ua.drew).alloc (Nat.le_refl _) (.cells #[] 50))
        clear rq oq xq iq hXD HPl
        refine regionL (S := fun z => z.cell? ⟨eg, eo + i * 3 + 1, none⟩ = some (.int .i64 ip) ∧ z.cell? ⟨eg, eo + i * 3 + 2, none⟩ = some (.int .i64 ig)) (fun _ => false) (by kernel_rfl) ?_
        refine anyL_take (i := 1) (v := ?vgp88) rfl (by kernel_rfl) (by kernel_rfl) (by kernel_rfl) (by kernel_rfl) (fun _ _ _ h => h) (Or.inl ⟨by rfl, ?hgp88⟩) (unhide HSw _ (Below.refl _ _)) ?_
        case hgp88 => (intro w hSw; (try dsimp only at hSw); go_simp) <;> with_reducible rfl
        simp only [Act.put, List.getElem_toArray, List.getElem_cons_zero, List.getElem_cons_succ, List.setIfInBounds_toArray, List.set_cons_zero, List.set_cons_succ]
        refine anyL_take (i := 3) (v := ?vgp89) rfl (by kernel_rfl) (by kernel_rfl) (by kernel_rfl) (by kernel_rfl) (fun _ _ _ h => h) (Or.inl ⟨by rfl, ?hgp89⟩) (unhide HSw _ (Below.refl _ _)) ?_
        case hgp89 => (intro w hSw; (try dsimp only at hSw); go_simp) <;> with_reducible rfl
        simp only [Act.put, List.getElem_toArray, List.getElem_cons_zero, List.getElem_cons_succ, List.setIfInBounds_toArray, List.set_cons_zero, List.set_cons_succ]
        refine anyL_take (i := 4) (v := ?vgp90) rfl (by kernel_rfl) (by kernel_rfl) (by kernel_rfl) (by kernel_rfl) (fun _ _ _ h => h) (Or.inl ⟨by rfl, ?hgp90⟩) (unhide HSw _ (Below.refl _ _)) ?_
        case hgp90 => (intro w hSw; (try dsimp only at hSw); go_simp) <;> with_reducible rfl
        simp only [Act.put, List.getElem_toArray, List.getElem_cons_zero, List.getElem_cons_succ, List.setIfInBounds_toArray, List.set_cons_zero, List.set_cons_succ]
        refine anyL_take (i := 5) (v := ?vgp91) rfl (by kernel_rfl) (by kernel_rfl) (by kernel_rfl) (by kernel_rfl) (fun _ _ _ h => h) (Or.inl ⟨by rfl, ?hgp91⟩) (unhide HSw _ (Below.refl _ _)) ?_
        case hgp91 => (intro w hSw; (try dsimp only at hSw); go_simp) <;> with_reducible rfl
        simp only [Act.put, List.getElem_toArray, List.getElem_cons_zero, List.getElem_cons_succ, List.setIfInBounds_toArray, List.set_cons_zero, List.set_cons_succ]
        refine anyL_take (i := 6) (v := ?vgp92) rfl (by kernel_rfl) (by kernel_rfl) (by kernel_rfl) (by kernel_rfl) (fun _ _ _ h => h) (Or.inl ⟨by rfl, ?hgp92⟩) (unhide HSw _ (Below.refl _ _)) ?_
        case hgp92 => (intro w hSw; (try dsimp only at hSw); go_simp) <;> with_reducible rfl
        simp only [Act.put, List.getElem_toArray, List.getElem_cons_zero, List.getElem_cons_succ, List.setIfInBounds_toArray, List.set_cons_zero, List.set_cons_succ]
        refine anyL_take (i := 7) (v := ?vgp93) rfl (by kernel_rfl) (by kernel_rfl) (by kernel_rfl) (by kernel_rfl) (fun _ _ _ h => h) (Or.inl ⟨by rfl, ?hgp93⟩) (unhide HSw _ (Below.refl _ _)) ?_
        case hgp93 => (intro w hSw; (try dsimp only at hSw); go_simp) <;> with_reducible rfl
        simp only [Act.put, List.getElem_toArray, List.getElem_cons_zero, List.getElem_cons_succ, List.setIfInBounds_toArray, List.set_cons_zero, List.set_cons_succ]
        refine anyL_take (i := 8) (v := ?vgp94) rfl (by kernel_rfl) (by kernel_rfl) (by kernel_rfl) (by kernel_rfl) (fun _ _ _ h => h) (Or.inl ⟨by rfl, ?hgp94⟩) (unhide HSw _ (Below.refl _ _)) ?_
        case hgp94 => (intro w hSw; (try dsimp only at hSw); go_simp) <;> with_reducible rfl
        simp only [Act.put, List.getElem_toArray, List.getElem_cons_zero, List.getElem_cons_succ, List.setIfInBounds_toArray, List.set_cons_zero, List.set_cons_succ]
        refine anyL_take (i := 9) (v := ?vgp95) rfl (by kernel_rfl) (by kernel_rfl) (by kernel_rfl) (by kernel_rfl) (fun _ _ _ h => h) (Or.inl ⟨by rfl, ?hgp95⟩) (unhide HSw _ (Below.refl _ _)) ?_
        case hgp95 => (intro w hSw; (try dsimp only at hSw); go_simp) <;> with_reducible rfl
        simp only [Act.put, List.getElem_toArray, List.getElem_cons_zero, List.getElem_cons_succ, List.setIfInBounds_toArray, List.set_cons_zero, List.set_cons_succ]
        refine anyL_take (i := 10) (v := ?vgp96) rfl (by kernel_rfl) (by kernel_rfl) (by kernel_rfl) (by kernel_rfl) (fun _ _ _ h => h) (Or.inl ⟨by rfl, ?hgp96⟩) (unhide HSw _ (Below.refl _ _)) ?_
        case hgp96 => (intro w hSw; (try dsimp only at hSw); go_simp) <;> with_reducible rfl
        simp only [Act.put, List.getElem_toArray, List.getElem_cons_zero, List.getElem_cons_succ, List.setIfInBounds_toArray, List.set_cons_zero, List.set_cons_succ]
        refine anyL_take (i := 11) (v := ?vgp97) rfl (by kernel_rfl) (by kernel_rfl) (by kernel_rfl) (by kernel_rfl) (fun _ _ _ h => h) (Or.inl ⟨by rfl, ?hgp97⟩) (unhide HSw _ (Below.refl _ _)) ?_
        case hgp97 => (intro w hSw; (try dsimp only at hSw); go_simp) <;> with_reducible rfl
        simp only [Act.put, List.getElem_toArray, List.getElem_cons_zero, List.getElem_cons_succ, List.setIfInBounds_toArray, List.set_cons_zero, List.set_cons_succ]
        refine anyL_take (i := 12) (v := ?vgp98) rfl (by kernel_rfl) (by kernel_rfl) (by kernel_rfl) (by kernel_rfl) (fun _ _ _ h => h) (Or.inl ⟨by rfl, ?hgp98⟩) (unhide HSw _ (Below.refl _ _)) ?_
        case hgp98 => (intro w hSw; (try dsimp only at hSw); go_simp) <;> with_reducible rfl
        simp only [Act.put, List.getElem_toArray, List.getElem_cons_zero, List.getElem_cons_succ, List.setIfInBounds_toArray, List.set_cons_zero, List.set_cons_succ]
        refine anyL_ready (rs := [0]) (by kernel_rfl) (by simp) ?_
        refine AllL.cons rfl (fun K hK => ?_) AllL.nil
        go_simp
        refine unhide hK _ _ (fun _ => unhide HSw _ (unhide HXa)) ?_
        clear hK K
        refine anyL_ready (rs := [2]) (by kernel_rfl) (by simp) ?_
        refine AllL.cons rfl (fun K hK => ?_) AllL.nil
        refine step_append_in rfl _ _ 24 24 rfl _ _ rfl rfl _ _ (unhide RQ) ?_
        go_simp
        clear RQ
        refine unhide hK _ _ (fun _ => unhide HSw _ (unhide HXq)) ?_
        clear hK K HXa
        refine anyL_ready (rs := [13]) (by kernel_rfl) (by simp) ?_
        refine AllL.cons rfl (fun K hK => ?_) AllL.nil
        go_simp
        refine (unhide HPq).mono ?_
        rintro y u3 ⟨rfl, x3⟩
        have HX3 := hide ((unhide HXq).trans (x3.mono (unhide HXq).size))
        refine unhide hK _ _ (fun _ => unhide HSw _ (unhide HX3)) ?_
        clear hK K HPq HXq x3
        refine anyL_take (i := 14) (v := ?vgp99) rfl (by kernel_rfl) (by kernel_rfl) (by kernel_rfl) (by kernel_rfl) (fun _ _ _ h => h) (Or.inl ⟨by rfl, ?hgp99⟩) (unhide HSw _ (unhide HX3)) ?_
        case hgp99 => (intro w hSw; (try dsimp only at hSw); go_simp) <;> with_reducible rfl
        simp only [Act.put, List.getElem_toArray, List.getElem_cons_zero, List.getElem_cons_succ, List.setIfInBounds_toArray, List.set_cons_zero, List.set_cons_succ]
        refine anyL_take (i := 15) (v := ?vgp100) rfl (by kernel_rfl) (by kernel_rfl) (by kernel_rfl) (by kernel_rfl) (fun _ _ _ h => h) (Or.inl ⟨by rfl, ?hgp100⟩) (unhide HSw _ (unhide HX3)) ?_
        case hgp100 => (intro w hSw; (try dsimp only at hSw); go_simp) <;> with_reducible rfl
        simp only [Act.put, List.getElem_toArray, List.getElem_cons_zero, List.getElem_cons_succ, List.setIfInBounds_toArray, List.set_cons_zero, List.set_cons_succ]
        refine anyL_take (i := 16) (v := ?vgp101) rfl (by kernel_rfl) (by kernel_rfl) (by kernel_rfl) (by kernel_rfl) (fun _ _ _ h => h) (Or.inl ⟨by rfl, ?hgp101⟩) (unhide HSw _ (unhide HX3)) ?_
        case hgp101 => (intro w hSw; (try dsimp only at hSw); go_simp) <;> with_reducible rfl
        simp only [Act.put, List.getElem_toArray, List.getElem_cons_zero, List.getElem_cons_succ, List.setIfInBounds_toArray, List.set_cons_zero, List.set_cons_succ]
        refine anyL_take (i := 17) (v := ?vgp102) rfl (by kernel_rfl) (by kernel_rfl) (by kernel_rfl) (by kernel_rfl) (fun _ _ _ h => h) (Or.inl ⟨by rfl, ?hgp102⟩) (unhide HSw _ (unhide HX3)) ?_
        case hgp102 => (intro w hSw; (try dsimp only at hSw); go_simp) <;> with_reducible rfl
        simp only [Act.put, List.getElem_toArray, List.getElem_cons_zero, List.getElem_cons_succ, List.setIfInBounds_toArray, List.set_cons_zero, List.set_cons_succ]
        refine anyL_take (i := 18) (v := ?vgp103) rfl (by kernel_rfl) (by kernel_rfl) (by kernel_rfl) (by kernel_rfl) (fun _ _ _ h => h) (Or.inl ⟨by rfl, ?hgp103⟩) (unhide HSw _ (unhide HX3)) ?_
        case hgp103 => (intro w hSw; (try dsimp only at hSw); go_simp) <;> with_reducible rfl
        simp only [Act.put, List.getElem_toArray, List.getElem_cons_zero, List.getElem_cons_succ, List.setIfInBounds_toArray, List.set_cons_zero, List.set_cons_succ]
        refine anyL_done (by kernel_rfl) ?_ _
        go_upto_region 20 with fail
        have HYE := hide (((unhide HYD).trans ((unhide HX3).mono (unhide HYD).size)).drew)
        have kxE : Cls u3.drew bx 42 #[.string inm, .int .i64 xi, .int .i64 ig] := by
          have k0 : Cls ua.drew bx 42 #[.string inm, .int .i64 xi, .int .i64 ig] := unhide HKx
          exact k0.below (unhide HX3).drew k0.lt
        have HKE := hide kxE
        clear kxE
        have HS20 : Hid (∀ Y, Below u3.drew.heap.size u3.drew Y → Y.cell? ⟨bx, 0, none⟩ = some (.string inm) ∧ Y.cell? ⟨bx, 1, none⟩ = some (.int .i64 xi) ∧ Y.cell? ⟨bx, 2, none⟩ = some (.int .i64 ig) ∧ Y.cell? ⟨eg, eo + i * 3, none⟩ = some (.string inm) ∧ Y.cell? ⟨eg, eo + i * 3 + 2, none⟩ = some (.int .i64 ig) ∧ Y.cell? ⟨fg, fo + i * 3 + 1, none⟩ = some (.int .i64 kp)) := hide fun Y hY => by
          have hYY := (unhide HYE).trans (hY.mono (unhide HYE).size)
          obtain ⟨q1, q2, hqa, _, n0, n1, n2⟩ := unhide HEi Y ((unhide HJ).1.below hYY (Nat.le_refl _))
          cases hqa
          obtain ⟨q3, q4, hqb, _, m0, m1, m2⟩ := unhide HEk Y ((unhide HJ).2.1.below hYY (Nat.le_refl _))
          cases hqb
          have kx := (unhide HKE).below hY (unhide HKE).lt
          exact ⟨(kx.cell 0).trans rfl, (kx.cell 1).trans rfl, (kx.cell 2).trans rfl, n0, n2, m1⟩
        have HLnB := hide (MLen_at g13 TD (T.map (mvM d)) u3.drew ((unhide HJ).2.2.1.below (unhide HYE) (Nat.le_refl _)))
        refine regionL (S := fun z => z.cell? ⟨bx, 0, none⟩ = some (.string inm) ∧ z.cell? ⟨bx, 1, none⟩ = some (.int .i64 xi) ∧ z.cell? ⟨bx, 2, none⟩ = some (.int .i64 ig) ∧ z.cell? ⟨eg, eo + i * 3, none⟩ = some (.string inm) ∧ z.cell? ⟨eg, eo + i * 3 + 2, none⟩ = some (.int .i64 ig) ∧ z.cell? ⟨fg, fo + i * 3 + 1, none⟩ = some (.int .i64 kp)) (fun _ => false) (by kernel_rfl) ?_
        refine anyL_take (i := 0) (v := ?vgq104) rfl (by kernel_rfl) (by kernel_rfl) (by kernel_rfl) (by kernel_rfl) (fun _ _ _ h => h) (Or.inl ⟨by rfl, ?hgq104⟩) (unhide HS20 _ (Below.refl _ _)) ?_
        case hgq104 => (intro w hSw; (try dsimp only at hSw); go_simp) <;> with_reducible rfl
        simp only [Act.put, List.getElem_toArray, List.getElem_cons_zero, List.setIfInBounds_toArray, List.set_cons_zero, List.set_cons_succ]
        refine anyL_take (i := 1) (v := ?vgq105) rfl (by kernel_rfl) (by kernel_rfl) (by kernel_rfl) (by kernel_rfl) (fun _ _ _ h => h) (Or.inl ⟨by rfl, ?hgq105⟩) (unhide HS20 _ (Below.refl _ _)) ?_
        case hgq105 => (intro w hSw; (try dsimp only at hSw); go_simp) <;> with_reducible rfl
        simp only [Act.put, List.getElem_toArray, List.getElem_cons_zero, List.getElem_cons_succ, List.setIfInBounds_toArray, List.set_cons_zero, List.set_cons_succ]
        refine anyL_take (i := 2) (v := ?vgq106) rfl (by kernel_rfl) (by kernel_rfl) (by kernel_rfl) (by kernel_rfl) (fun _ _ _ h => h) (Or.inl ⟨by rfl, ?hgq106⟩) (unhide HS20 _ (Below.refl _ _)) ?_
        case hgq106 => (intro w hSw; (try dsimp only at hSw); go_simp) <;> with_reducible rfl
        simp only [Act.put, List.getElem_toArray, List.getElem_cons_zero, List.getElem_cons_succ, List.setIfInBounds_toArray, List.set_cons_zero, List.set_cons_succ]
        refine anyL_take (i := 3) (v := ?vgq107) rfl (by kernel_rfl) (by kernel_rfl) (by kernel_rfl) (by kernel_rfl) (fun _ _ _ h => h) (Or.inl ⟨by rfl, ?hgq107⟩) (unhide HS20 _ (Below.refl _ _)) ?_
        case hgq107 => (intro w hSw; (try dsimp only at hSw); go_simp) <;> with_reducible rfl
        simp only [Act.put, List.getElem_toArray, List.getElem_cons_zero, List.getElem_cons_succ, List.setIfInBounds_toArray, List.set_cons_zero, List.set_cons_succ]
        refine anyL_take (i := 4) (v := ?vgq108) rfl (by kernel_rfl) (by kernel_rfl) (by kernel_rfl) (by kernel_rfl) (fun _ _ _ h => h) (Or.inl ⟨by rfl, ?hgq108⟩) (unhide HS20 _ (Below.refl _ _)) ?_
        case hgq108 => (intro w hSw; (try dsimp only at hSw); go_simp) <;> with_reducible rfl
        simp only [Act.put, List.getElem_toArray, List.getElem_cons_zero, List.getElem_cons_succ, List.setIfInBounds_toArray, List.set_cons_zero, List.set_cons_succ]
        refine anyL_take (i := 5) (v := ?vgq109) rfl (by kernel_rfl) (by kernel_rfl) (by kernel_rfl) (by kernel_rfl) (fun _ _ _ h => h) (Or.inl ⟨by rfl, ?hgq109⟩) (unhide HS20 _ (Below.refl _ _)) ?_
        case hgq109 => (intro w hSw; (try dsimp only at hSw); go_simp) <;> with_reducible rfl
        simp only [Act.put, List.getElem_toArray, List.getElem_cons_zero, List.getElem_cons_succ, List.setIfInBounds_toArray, List.set_cons_zero, List.set_cons_succ]
        refine anyL_take (i := 6) (v := ?vgq110) rfl (by kernel_rfl) (by kernel_rfl) (by kernel_rfl) (by kernel_rfl) (fun _ _ _ h => h) (Or.inl ⟨by rfl, ?hgq110⟩) (unhide HS20 _ (Below.refl _ _)) ?_
        case hgq110 => (intro w hSw; (try dsimp only at hSw); go_simp) <;> with_reducible rfl
        simp only [Act.put, List.getElem_toArray, List.getElem_cons_zero, List.getElem_cons_succ, List.setIfInBounds_toArray, List.set_cons_zero, List.set_cons_succ]
        refine anyL_take (i := 7) (v := ?vgq111) rfl (by kernel_rfl) (by kernel_rfl) (by kernel_rfl) (by kernel_rfl) (fun _ _ _ h => h) (Or.inl ⟨by rfl, ?hgq111⟩) (unhide HS20 _ (Below.refl _ _)) ?_
        case hgq111 => (intro w hSw; (try dsimp only at hSw); go_simp) <;> with_reducible rfl
        simp only [Act.put, List.getElem_toArray, List.getElem_cons_zero, List.getElem_cons_succ, List.setIfInBounds_toArray, List.set_cons_zero, List.set_cons_succ]
        refine anyL_take (i := 8) (v := ?vgq112) rfl (by kernel_rfl) (by kernel_rfl) (by kernel_rfl) (by kernel_rfl) (fun _ _ _ h => h) (Or.inl ⟨by rfl, ?hgq112⟩) (unhide HS20 _ (Below.refl _ _)) ?_
        case hgq112 => (intro w hSw; (try dsimp only at hSw); go_simp) <;> with_reducible rfl
        simp only [Act.put, List.getElem_toArray, List.getElem_cons_zero, List.getElem_cons_succ, List.setIfInBounds_toArray, List.set_cons_zero, List.set_cons_succ]
        refine anyL_take (i := 9) (v := ?vgq113) rfl (by kernel_rfl) (by kernel_rfl) (by kernel_rfl) (by kernel_rfl) (fun _ _ _ h => h) (Or.inl ⟨by rfl, ?hgq113⟩) (unhide HS20 _ (Below.refl _ _)) ?_
        case hgq113 => (intro w hSw; (try dsimp only at hSw); go_simp) <;> with_reducible rfl
        simp only [Act.put, List.getElem_toArray, List.getElem_cons_zero, List.getElem_cons_succ, List.setIfInBounds_toArray, List.set_cons_zero, List.set_cons_succ]
        refine anyL_take (i := 10) (v := ?vgq114) rfl (by kernel_rfl) (by kernel_rfl) (by kernel_rfl) (by kernel_rfl) (fun _ _ _ h => h) (Or.inl ⟨by rfl, ?hgq114⟩) (unhide HS20 _ (Below.refl _ _)) ?_
        case hgq114 => (intro w hSw; (try dsimp only at hSw); go_simp) <;> with_reducible rfl
        simp only [Act.put, List.getElem_toArray, List.getElem_cons_zero, List.getElem_cons_succ, List.setIfInBounds_toArray, List.set_cons_zero, List.set_cons_succ]
        refine anyL_take (i := 11) (v := ?vgq115) rfl (by kernel_rfl) (by kernel_rfl) (by kernel_rfl) (by kernel_rfl) (fun _ _ _ h => h) (Or.inl ⟨by rfl, ?hgq115⟩) (unhide HS20 _ (Below.refl _ _)) ?_
        case hgq115 => (intro w hSw; (try dsimp only at hSw); go_simp) <;> with_reducible rfl
        simp only [Act.put, List.getElem_toArray, List.getElem_cons_zero, List.getElem_cons_succ, List.setIfInBounds_toArray, List.set_cons_zero, List.set_cons_succ]
        refine anyL_take (i := 12) (v := ?vgq116) rfl (by kernel_rfl) (by kernel_rfl) (by kernel_rfl) (by kernel_rfl) (fun _ _ _ h => h) (Or.inl ⟨by rfl, ?hgq116⟩) (unhide HS20 _ (Below.refl _ _)) ?_
        case hgq116 => (intro w hSw; (try dsimp only at hSw); go_simp) <;> with_reducible rfl
        simp only [Act.put, List.getElem_toArray, List.getElem_cons_zero, List.getElem_cons_succ, List.setIfInBounds_toArray, List.set_cons_zero, List.set_cons_succ]
        refine anyL_take (i := 13) (v := ?vgq117) rfl (by kernel_rfl) (by kernel_rfl) (by kernel_rfl) (by kernel_rfl) (fun _ _ _ h => h) (Or.inl ⟨by rfl, ?hgq117⟩) (unhide HS20 _ (Below.refl _ _)) ?_
        case hgq117 => (intro w hSw; (try dsimp only at hSw); go_simp) <;> with_reducible rfl
        simp only [Act.put, List.getElem_toArray, List.getElem_cons_zero, List.getElem_cons_succ, List.setIfInBounds_toArray, List.set_cons_zero, List.set_cons_succ]
        refine anyL_take (i := 14) (v := ?vgq118) rfl (by kernel_rfl) (by kernel_rfl) (by kernel_rfl) (by kernel_rfl) (fun _ _ _ h => h) (Or.inl ⟨by rfl, ?hgq118⟩) (unhide HS20 _ (Below.refl _ _)) ?_
        case hgq118 => (intro w hSw; (try dsimp only at hSw); go_simp) <;> with_reducible rfl
        simp only [Act.put, List.getElem_toArray, List.getElem_cons_zero, List.getElem_cons_succ, List.setIfInBounds_toArray, List.set_cons_zero, List.set_cons_succ]
        refine anyL_take (i := 15) (v := ?vgq119) rfl (by kernel_rfl) (by kernel_rfl) (by kernel_rfl) (by kernel_rfl) (fun _ _ _ h => h) (Or.inl ⟨by rfl, ?hgq119⟩) (unhide HS20 _ (Below.refl _ _)) ?_
        case hgq119 => (intro w hSw; (try dsimp only at hSw); go_simp) <;> with_reducible rfl
        simp only [Act.put, List.getElem_toArray, List.getElem_cons_zero, List.getElem_cons_succ, List.setIfInBounds_toArray, List.set_cons_zero, List.set_cons_succ]
        refine anyL_take (i := 16) (v := ?vgq120) rfl (by kernel_rfl) (by kernel_rfl) (by kernel_rfl) (by kernel_rfl) (fun _ _ _ h => h) (Or.inl ⟨by rfl, ?hgq120⟩) (unhide HS20 _ (Below.refl _ _)) ?_
        case hgq120 => (intro w hSw; (try dsimp only at hSw); go_simp) <;> with_reducible rfl
        simp only [Act.put, List.getElem_toArray, List.getElem_cons_zero, List.getElem_cons_succ, List.setIfInBounds_toArray, List.set_cons_zero, List.set_cons_succ]
        refine anyL_take (i := 17) (v := ?vgq121) rfl (by kernel_rfl) (by kernel_rfl) (by kernel_rfl) (by kernel_rfl) (fun _ _ _ h => h) (Or.inl ⟨by rfl, ?hgq121⟩) (unhide HS20 _ (Below.refl _ _)) ?_
        case hgq121 => (intro w hSw; (try dsimp only at hSw); go_simp) <;> with_reducible rfl
        simp only [Act.put, List.getElem_toArray, List.getElem_cons_zero, List.getElem_cons_succ, List.setIfInBounds_toArray, List.set_cons_zero, List.set_cons_succ]
        refine anyL_take (i := 18) (v := ?vgq122) rfl (by kernel_rfl) (by kernel_rfl) (by kernel_rfl) (by kernel_rfl) (fun _ _ _ h => h) (Or.inl ⟨by rfl, ?hgq122⟩) (unhide HS20 _ (Below.refl _ _)) ?_
        case hgq122 => (intro w hSw; (try dsimp only at hSw); go_simp) <;> with_reducible rfl
        simp only [Act.put, List.getElem_toArray, List.getElem_cons_zero, List.getElem_cons_succ, List.setIfInBounds_toArray, List.set_cons_zero, List.set_cons_succ]
        refine anyL_take (i := 19) (v := ?vgq123) rfl (by kernel_rfl) (by kernel_rfl) (by kernel_rfl) (by kernel_rfl) (fun _ _ _ h => h) (Or.inl ⟨by rfl, ?hgq123⟩) (unhide HS20 _ (Below.refl _ _)) ?_
        case hgq123 => (intro w hSw; (try dsimp only at hSw); go_simp) <;> with_reducible rfl
        simp only [Act.put, List.getElem_toArray, List.getElem_cons_zero, List.getElem_cons_succ, List.setIfInBounds_toArray, List.set_cons_zero, List.set_cons_succ]
        refine anyL_take (i := 20) (v := ?vgq124) rfl (by kernel_rfl) (by kernel_rfl) (by kernel_rfl) (by kernel_rfl) (fun _ _ _ h => h) (Or.inl ⟨by rfl, ?hgq124⟩) (unhide HS20 _ (Below.refl _ _)) ?_
        case hgq124 => (intro w hSw; (try dsimp only at hSw); go_simp) <;> with_reducible rfl
        simp only [Act.put, List.getElem_toArray, List.getElem_cons_zero, List.getElem_cons_succ, List.setIfInBounds_toArray, List.set_cons_zero, List.set_cons_succ]
        refine anyL_take (i := 21) (v := ?vgq125) rfl (by kernel_rfl) (by kernel_rfl) (by kernel_rfl) (by kernel_rfl) (fun _ _ _ h => h) (Or.inl ⟨by rfl, ?hgq125⟩) (unhide HS20 _ (Below.refl _ _)) ?_
        case hgq125 => (intro w hSw; (try dsimp only at hSw); go_simp) <;> with_reducible rfl
        simp only [Act.put, List.getElem_toArray, List.getElem_cons_zero, List.getElem_cons_succ, List.setIfInBounds_toArray, List.set_cons_zero, List.set_cons_succ]
        refine anyL_take (i := 22) (v := ?vgq126) rfl (by kernel_rfl) (by kernel_rfl) (by kernel_rfl) (by kernel_rfl) (fun _ _ _ h => h) (Or.inl ⟨by rfl, ?hgq126⟩) (unhide HS20 _ (Below.refl _ _)) ?_
        case hgq126 => (intro w hSw; (try dsimp only at hSw); go_simp) <;> with_reducible rfl
        simp only [Act.put, List.getElem_toArray, List.getElem_cons_zero, List.getElem_cons_succ, List.setIfInBounds_toArray, List.set_cons_zero, List.set_cons_succ]
        refine anyL_take (i := 23) (v := ?vgq127) rfl (by kernel_rfl) (by kernel_rfl) (by kernel_rfl) (by kernel_rfl) (fun _ _ _ h => h) (Or.inl ⟨by rfl, ?hgq127⟩) (unhide HS20 _ (Below.refl _ _)) ?_
        case hgq127 => (intro w hSw; (try dsimp only at hSw); go_simp) <;> with_reducible rfl
        simp only [Act.put, List.getElem_toArray, List.getElem_cons_zero, List.getElem_cons_succ, List.setIfInBounds_toArray, List.set_cons_zero, List.set_cons_succ]
        refine anyL_take (i := 24) (v := ?vgq128) rfl (by kernel_rfl) (by kernel_rfl) (by kernel_rfl) (by kernel_rfl) (fun _ _ _ h => h) (Or.inl ⟨by rfl, ?hgq128⟩) (unhide HS20 _ (Below.refl _ _)) ?_
        case hgq128 => (intro w hSw; (try dsimp only at hSw); go_simp) <;> with_reducible rfl
        simp only [Act.put, List.getElem_toArray, List.getElem_cons_zero, List.getElem_cons_succ, List.setIfInBounds_toArray, List.set_cons_zero, List.set_cons_succ]
        refine anyL_take (i := 25) (v := ?vgq129) rfl (by kernel_rfl) (by kernel_rfl) (by kernel_rfl) (by kernel_rfl) (fun _ _ _ h => h) (Or.inl ⟨by rfl, ?hgq129⟩) (unhide HS20 _ (Below.refl _ _)) ?_
        case hgq129 => (intro w hSw; (try dsimp only at hSw); go_simp) <;> with_reducible rfl
        simp only [Act.put, List.getElem_toArray, List.getElem_cons_zero, List.getElem_cons_succ, List.setIfInBounds_toArray, List.set_cons_zero, List.set_cons_succ]
        refine anyL_take (i := 26) (v := ?vgq130) rfl (by kernel_rfl) (by kernel_rfl) (by kernel_rfl) (by kernel_rfl) (fun _ _ _ h => h) (Or.inl ⟨by rfl, ?hgq130⟩) (unhide HS20 _ (Below.refl _ _)) ?_
        case hgq130 => (intro w hSw; (try dsimp only at hSw); go_simp) <;> with_reducible rfl
        simp only [Act.put, List.getElem_toArray, List.getElem_cons_zero, List.getElem_cons_succ, List.setIfInBounds_toArray, List.set_cons_zero, List.set_cons_succ]
        refine anyL_take (i := 27) (v := ?vgq131) rfl (by kernel_rfl) (by kernel_rfl) (by kernel_rfl) (by kernel_rfl) (fun _ _ _ h => h) (Or.inl ⟨by rfl, ?hgq131⟩) (unhide HS20 _ (Below.refl _ _)) ?_
        case hgq131 => (intro w hSw; (try dsimp only at hSw); go_simp) <;> with_reducible rfl
        simp only [Act.put, List.getElem_toArray, List.getElem_cons_zero, List.getElem_cons_succ, List.setIfInBounds_toArray, List.set_cons_zero, List.set_cons_succ]
        refine anyL_take (i := 28) (v := ?vgq132) rfl (by kernel_rfl) (by kernel_rfl) (by kernel_rfl) (by kernel_rfl) (fun _ _ _ h => h) (Or.inl ⟨by rfl, ?hgq132⟩) (unhide HS20 _ (Below.refl _ _)) ?_
        case hgq132 => (intro w hSw; (try dsimp only at hSw); go_simp) <;> with_reducible rfl
        simp only [Act.put, List.getElem_toArray, List.getElem_cons_zero, List.getElem_cons_succ, List.setIfInBounds_toArray, List.set_cons_zero, List.set_cons_succ]
        refine anyL_take (i := 29) (v := ?vgq133) rfl (by kernel_rfl) (by kernel_rfl) (by kernel_rfl) (by kernel_rfl) (fun _ _ _ h => h) (Or.inl ⟨by rfl, ?hgq133⟩) (unhide HS20 _ (Below.refl _ _)) ?_
        case hgq133 => (intro w hSw; (try dsimp only at hSw); go_simp) <;> with_reducible rfl
        simp only [Act.put, List.getElem_toArray, List.getElem_cons_zero, List.getElem_cons_succ, List.setIfInBounds_toArray, List.set_cons_zero, List.set_cons_succ]
        refine anyL_take (i := 30) (v := ?vgq134) rfl (by kernel_rfl) (by kernel_rfl) (by kernel_rfl) (by kernel_rfl) (fun _ _ _ h => h) (Or.inl ⟨by rfl, ?hgq134⟩) (unhide HS20 _ (Below.refl _ _)) ?_
        case hgq134 => (intro w hSw; (try dsimp only at hSw); go_simp) <;> with_reducible rfl
        simp only [Act.put, List.getElem_toArray, List.getElem_cons_zero, List.getElem_cons_succ, List.setIfInBounds_toArray, List.set_cons_zero, List.set_cons_succ]
        refine anyL_take (i := 31) (v := ?vgq135) rfl (by kernel_rfl) (by kernel_rfl) (by kernel_rfl) (by kernel_rfl) (fun _ _ _ h => h) (Or.inl ⟨by rfl, ?hgq135⟩) (unhide HS20 _ (Below.refl _ _)) ?_
        case hgq135 => (intro w hSw; (try dsimp only at hSw); go_simp) <;> with_reducible rfl
        simp only [Act.put, List.getElem_toArray, List.getElem_cons_zero, List.getElem_cons_succ, List.setIfInBounds_toArray, List.set_cons_zero, List.set_cons_succ]
        refine anyL_take (i := 32) (v := ?vgq136) rfl (by kernel_rfl) (by kernel_rfl) (by kernel_rfl) (by kernel_rfl) (fun _ _ _ h => h) (Or.inl ⟨by rfl, ?hgq136⟩) (unhide HS20 _ (Below.refl _ _)) ?_
        case hgq136 => (intro w hSw; (try dsimp only at hSw); go_simp) <;> with_reducible rfl
        simp only [Act.put, List.getElem_toArray, List.getElem_cons_zero, List.getElem_cons_succ, List.setIfInBounds_toArray, List.set_cons_zero, List.set_cons_succ]
        refine anyL_take (i := 33) (v := ?vgq137) rfl (by kernel_rfl) (by kernel_rfl) (by kernel_rfl) (by kernel_rfl) (fun _ _ _ h => h) (Or.inl ⟨by rfl, ?hgq137⟩) (unhide HS20 _ (Below.refl _ _)) ?_
        case hgq137 => (intro w hSw; (try dsimp only at hSw); go_simp) <;> with_reducible rfl
        simp only [Act.put, List.getElem_toArray, List.getElem_cons_zero, List.getElem_cons_succ, List.setIfInBounds_toArray, List.set_cons_zero, List.set_cons_succ]
        refine anyL_take (i := 34) (v := ?vgq138) rfl (by kernel_rfl) (by kernel_rfl) (by kernel_rfl) (by kernel_rfl) (fun _ _ _ h => h) (Or.inl ⟨by rfl, ?hgq138⟩) (unhide HS20 _ (Below.refl _ _)) ?_
        case hgq138 => (intro w hSw; (try dsimp only at hSw); go_simp) <;> with_reducible rfl
        simp only [Act.put, List.getElem_toArray, List.getElem_cons_zero, List.getElem_cons_succ, List.setIfInBounds_toArray, List.set_cons_zero, List.set_cons_succ]
        refine anyL_take (i := 35) (v := ?vgq139) rfl (by kernel_rfl) (by kernel_rfl) (by kernel_rfl) (by kernel_rfl) (fun _ _ _ h => h) (Or.inl ⟨by rfl, ?hgq139⟩) (unhide HS20 _ (Below.refl _ _)) ?_
        case hgq139 => (intro w hSw; (try dsimp only at hSw); go_simp) <;> with_reducible rfl
        simp only [Act.put, List.getElem_toArray, List.getElem_cons_zero, List.getElem_cons_succ, List.setIfInBounds_toArray, List.set_cons_zero, List.set_cons_succ]
        refine anyL_take (i := 36) (v := ?vgq140) rfl (by kernel_rfl) (by kernel_rfl) (by kernel_rfl) (by kernel_rfl) (fun _ _ _ h => h) (Or.inl ⟨by rfl, ?hgq140⟩) (unhide HS20 _ (Below.refl _ _)) ?_
        case hgq140 => (intro w hSw; (try dsimp only at hSw); go_simp) <;> with_reducible rfl
        simp only [Act.put, List.getElem_toArray, List.getElem_cons_zero, List.getElem_cons_succ, List.setIfInBounds_toArray, List.set_cons_zero, List.set_cons_succ]
        refine anyL_ready (rs := [37]) (by kernel_rfl) (by simp) ?_
        refine AllL.cons rfl (fun K hK => ?_) AllL.nil
        go_simp
        refine (unhide HLnB).mono ?_
        rintro y u4 ⟨rfl, x4⟩
        have HX4 := hide x4
        refine unhide hK _ _ (fun _ => unhide HS20 _ (unhide HX4)) ?_
        clear hK K HLnB x4
        refine anyL_take (i := 38) (v := ?vgq141) rfl (by kernel_rfl) (by kernel_rfl) (by kernel_rfl) (by kernel_rfl) (fun _ _ _ h => h) (Or.inl ⟨by rfl, ?hgq141⟩) (unhide HS20 _ (unhide HX4)) ?_
        case hgq141 => (intro w hSw; (try dsimp only at hSw); go_simp) <;> with_reducible rfl
        simp only [Act.put, List.getElem_toArray, List.getElem_cons_zero, List.getElem_cons_succ, List.setIfInBounds_toArray, List.set_cons_zero, List.set_cons_succ]
        refine anyL_take (i := 39) (v := ?vgq142) rfl (by kernel_rfl) (by kernel_rfl) (by kernel_rfl) (by kernel_rfl) (fun _ _ _ h => h) (Or.inl ⟨by rfl, ?hgq142⟩) (unhide HS20 _ (unhide HX4)) ?_
        case hgq142 => (intro w hSw; (try dsimp only at hSw); go_simp) <;> with_reducible rfl
        simp only [Act.put, List.getElem_toArray, List.getElem_cons_zero, List.getElem_cons_succ, List.setIfInBounds_toArray, List.set_cons_zero, List.set_cons_succ]
        refine anyL_done (by kernel_rfl) ?_ _
        have HYF := hide ((unhide HYE).trans ((unhide HX4).mono (unhide HYE).size))
        have HJN : Hid (∀ Y, Below u4.heap.size u4 Y → IsK Y (some ⟨eg, eo, none⟩) E15 ∧ IsK Y (some ⟨fg, fo, none⟩) E16 ∧ IsMs Y g13 TD (T.map (mvM d)) ∧ Below w.heap.size w Y) := hide fun Y hY => by
          have hYY := (unhide HYF).trans (hY.mono (unhide HYF).size)
          exact ⟨(unhide HJ).1.below hYY (Nat.le_refl _), (unhide HJ).2.1.below hYY (Nat.le_refl _), (unhide HJ).2.2.1.below hYY (Nat.le_refl _), (unhide HJ).2.2.2.trans (hYY.mono (unhide HJ).2.2.2.size)⟩
        clear HYF HYE HS20 HKE HX4 HX3 HYD HSw HKx HY1 HJ
        rcases unhide HPrev with h0 | ⟨q, hq, hql, hlq⟩
        · subst h0
          clear HPrev
          go_upto_region 22 with fail
          go_quiet (fail)
          go_wp2_with fail
          go_roundw
          case rel => exact ⟨⟨⟨_, rfl⟩, ⟨_, rfl⟩, ⟨_, rfl⟩, ⟨_, rfl⟩⟩, 0 + 1, by go_num, hlt, hide (unhide HJN _ (below_drewN (Below.refl _ _) _))⟩
          case measure => simp [intOf]; omega
        · obtain ⟨q1, q2, hqa, _, n0, n1, n2⟩ := (unhide HJN u4 (Below.refl _ _)).2.1.three hql
          cases hqa
          generalize E16.getD q mkZ = kq at *
          obtain ⟨qnm, qp, qg⟩ := kq
          try rw [unhide HKI] at hlq
          obtain ⟨s1, s2⟩ := ltM_tests hlq
          obtain ⟨_, _, hka, _, m0, m1, m2⟩ := unhide HEk u4 (unhide HJN u4 (Below.refl _ _)).2.1
          cases hka
          dsimp only at n0 n1 n2 s1 s2 m0 m1 m2
          have p1 : decide ((i : Int) > 0) = true := decide_eq_true (by omega)
          have p2 : decide ((0 : Int) < (i : Int)) = true := decide_eq_true (by omega)
          have p3 : decide (0 < i) = true := decide_eq_true (by omega)
          have p4 : (0 : Int) < (i : Int) := by omega
          have p6 : (q : Int) < (N : Int) := by omega
          have p7 : 0 < i := by omega
          have p8 : (i : Int) - 1 = (q : Int) := by omega
          have p12 : q < N := by omega
          have p9 : (0 : Int) ≤ (q : Int) := Int.natCast_nonneg q
          have p5 : IntKind.i64.wrap ((i : Int) - 1) = (q : Int) := wrap_prev hq (by omega)
          clear HPrev hql hlq hq p8 tk0 tk1 tk1' n2 m2
          have HS22 : Hid (u4.drew.cell? ⟨fg, fo + i * 3, none⟩ = some (.string knm) ∧ u4.drew.cell? ⟨fg, fo + i * 3 + 1, none⟩ = some (.int .i64 kp) ∧ u4.drew.cell? ⟨fg, fo + q * 3, none⟩ = some (.string qnm) ∧ u4.drew.cell? ⟨fg, fo + q * 3 + 1, none⟩ = some (.int .i64 qp)) := hide ⟨m0, m1, n0, n1⟩
          clear m0 m1 n0 n1
          rcases s2 with s2 | ⟨s3, s2⟩
          · go_upto_region 22 with fail
            refine regionL (S := fun z => z.cell? ⟨fg, fo + i * 3, none⟩ = some (.string knm) ∧ z.cell? ⟨fg, fo + i * 3 + 1, none⟩ = some (.int .i64 kp) ∧ z.cell? ⟨fg, fo + q * 3, none⟩ = some (.string qnm) ∧ z.cell? ⟨fg, fo + q * 3 + 1, none⟩ = some (.int .i64 qp)) (fun _ => false) (by kernel_rfl) ?_
            refine anyL_take (i := 0) (v := ?vgr00) rfl (by kernel_rfl) (by kernel_rfl) (by kernel_rfl) (by kernel_rfl) (fun _ _ _ h => h) (Or.inl ⟨by rfl, ?hgr00⟩) (unhide HS22) ?_
            case hgr00 => (intro w hSw; (try dsimp only at hSw); go_simp) <;> with_reducible rfl
            simp only [Act.put, List.getElem_toArray, List.getElem_cons_zero, List.setIfInBounds_toArray, List.set_cons_zero, List.set_cons_succ]
            refine anyL_take (i := 1) (v := ?vgr01) rfl (by kernel_rfl) (by kernel_rfl) (by kernel_rfl) (by kernel_rfl) (fun _ _ _ h => h) (Or.inl ⟨by rfl, ?hgr01⟩) (unhide HS22) ?_
            case hgr01 => (intro w hSw; (try dsimp only at hSw); go_simp) <;> with_reducible rfl
            simp only [Act.put, List.getElem_toArray, List.getElem_cons_zero, List.getElem_cons_succ, List.setIfInBounds_toArray, List.set_cons_zero, List.set_cons_succ]
            refine anyL_take (i := 2) (v := ?vgr02) rfl (by kernel_rfl) (by kernel_rfl) (by kernel_rfl) (by kernel_rfl) (fun _ _ _ h => h) (Or.inl ⟨by rfl, ?hgr02⟩) (unhide HS22) ?_
            case hgr02 => (intro w hSw; (try dsimp only at hSw); go_simp) <;> with_reducible rfl
            simp only [Act.put, List.getElem_toArray, List.getElem_cons_zero, List.getElem_cons_succ, List.setIfInBounds_toArray, List.set_cons_zero, List.set_cons_succ]
            refine anyL_take (i := 3) (v := ?vgr03) rfl (by kernel_rfl) (by kernel_rfl) (by kernel_rfl) (by kernel_rfl) (fun _ _ _ h => h) (Or.inl ⟨by rfl, ?hgr03⟩) (unhide HS22) ?_
            case hgr03 => (intro w hSw; (try dsimp only at hSw); go_simp) <;> with_reducible rfl
            simp only [Act.put, List.getElem_toArray, List.getElem_cons_zero, List.getElem_cons_succ, List.setIfInBounds_toArray, List.set_cons_zero, List.set_cons_succ]
            refine anyL_take (i := 4) (v := ?vgr04) rfl (by kernel_rfl) (by kernel_rfl) (by kernel_rfl) (by kernel_rfl) (fun _ _ _ h => h) (Or.inl ⟨by rfl, ?hgr04⟩) (unhide HS22) ?_
            case hgr04 => (intro w hSw; (try dsimp only at hSw); go_simp) <;> with_reducible rfl
            simp only [Act.put, List.getElem_toArray, List.getElem_cons_zero, List.getElem_cons_succ, List.setIfInBounds_toArray, List.set_cons_zero, List.set_cons_succ]
            refine anyL_take (i := 5) (v := ?vgr05) rfl (by kernel_rfl) (by kernel_rfl) (by kernel_rfl) (by kernel_rfl) (fun _ _ _ h => h) (Or.inl ⟨by rfl, ?hgr05⟩) (unhide HS22) ?_
            case hgr05 => (intro w hSw; (try dsimp only at hSw); go_simp) <;> with_reducible rfl
            simp only [Act.put, List.getElem_toArray, List.getElem_cons_zero, List.getElem_cons_succ, List.setIfInBounds_toArray, List.set_cons_zero, List.set_cons_succ]
            refine anyL_take (i := 6) (v := ?vgr06) rfl (by kernel_rfl) (by kernel_rfl) (by kernel_rfl) (by kernel_rfl) (fun _ _ _ h => h) (Or.inl ⟨by rfl, ?hgr06⟩) (unhide HS22) ?_
            case hgr06 => (intro w hSw; (try dsimp only at hSw); go_simp) <;> with_reducible rfl
            simp only [Act.put, List.getElem_toArray, List.getElem_cons_zero, List.getElem_cons_succ, List.setIfInBounds_toArray, List.set_cons_zero, List.set_cons_succ]
            refine anyL_take (i := 7) (v := ?vgr07) rfl (by kernel_rfl) (by kernel_rfl) (by kernel_rfl) (by kernel_rfl) (fun _ _ _ h => h) (Or.inl ⟨by rfl, ?hgr07⟩) (unhide HS22) ?_
            case hgr07 => (intro w hSw; (try dsimp only at hSw); go_simp) <;> with_reducible rfl
            simp only [Act.put, List.getElem_toArray, List.getElem_cons_zero, List.getElem_cons_succ, List.setIfInBounds_toArray, List.set_cons_zero, List.set_cons_succ]
            refine anyL_take (i := 8) (v := ?vgr08) rfl (by kernel_rfl) (by kernel_rfl) (by kernel_rfl) (by kernel_rfl) (fun _ _ _ h => h) (Or.inl ⟨by rfl, ?hgr08⟩) (unhide HS22) ?_
            case hgr08 => (intro w hSw; (try dsimp only at hSw); go_simp) <;> with_reducible rfl
            simp only [Act.put, List.getElem_toArray, List.getElem_cons_zero, List.getElem_cons_succ, List.setIfInBounds_toArray, List.set_cons_zero, List.set_cons_succ]
            refine anyL_take (i := 9) (v := ?vgr09) rfl (by kernel_rfl) (by kernel_rfl) (by kernel_rfl) (by kernel_rfl) (fun _ _ _ h => h) (Or.inl ⟨by rfl, ?hgr09⟩) (unhide HS22) ?_
            case hgr09 => (intro w hSw; (try dsimp only at hSw); go_simp) <;> with_reducible rfl
            simp only [Act.put, List.getElem_toArray, List.getElem_cons_zero, List.getElem_cons_succ, List.setIfInBounds_toArray, List.set_cons_zero, List.set_cons_succ]
            refine anyL_take (i := 10) (v := ?vgr010) rfl (by kernel_rfl) (by kernel_rfl) (by kernel_rfl) (by kernel_rfl) (fun _ _ _ h => h) (Or.inl ⟨by rfl, ?hgr010⟩) (unhide HS22) ?_
            case hgr010 => (intro w hSw; (try dsimp only at hSw); go_simp) <;> with_reducible rfl
            simp only [Act.put, List.getElem_toArray, List.getElem_cons_zero, List.getElem_cons_succ, List.setIfInBounds_toArray, List.set_cons_zero, List.set_cons_succ]
            refine anyL_take (i := 11) (v := ?vgr011) rfl (by kernel_rfl) (by kernel_rfl) (by kernel_rfl) (by kernel_rfl) (fun _ _ _ h => h) (Or.inl ⟨by rfl, ?hgr011⟩) (unhide HS22) ?_
            case hgr011 => (intro w hSw; (try dsimp only at hSw); go_simp) <;> with_reducible rfl
            simp only [Act.put, List.getElem_toArray, List.getElem_cons_zero, List.getElem_cons_succ, List.setIfInBounds_toArray, List.set_cons_zero, List.set_cons_succ]
            refine anyL_take (i := 12) (v := ?vgr012) rfl (by kernel_rfl) (by kernel_rfl) (by kernel_rfl) (by kernel_rfl) (fun _ _ _ h => h) (Or.inl ⟨by rfl, ?hgr012⟩) (unhide HS22) ?_
            case hgr012 => (intro w hSw; (try dsimp only at hSw); go_simp) <;> with_reducible rfl
            simp only [Act.put, List.getElem_toArray, List.getElem_cons_zero, List.getElem_cons_succ, List.setIfInBounds_toArray, List.set_cons_zero, List.set_cons_succ]
            refine anyL_take (i := 13) (v := ?vgr013) rfl (by kernel_rfl) (by kernel_rfl) (by kernel_rfl) (by kernel_rfl) (fun _ _ _ h => h) (Or.inl ⟨by rfl, ?hgr013⟩) (unhide HS22) ?_
            case hgr013 => (intro w hSw; (try dsimp only at hSw); go_simp) <;> with_reducible rfl
            simp only [Act.put, List.getElem_toArray, List.getElem_cons_zero, List.getElem_cons_succ, List.setIfInBounds_toArray, List.set_cons_zero, List.set_cons_succ]
            refine anyL_take (i := 14) (v := ?vgr014) rfl (by kernel_rfl) (by kernel_rfl) (by kernel_rfl) (by kernel_rfl) (fun _ _ _ h => h) (Or.inl ⟨by rfl, ?hgr014⟩) (unhide HS22) ?_
            case hgr014 => (intro w hSw; (try dsimp only at hSw); go_simp) <;> with_reducible rfl
            simp only [Act.put, List.getElem_toArray, List.getElem_cons_zero, List.getElem_cons_succ, List.setIfInBounds_toArray, List.set_cons_zero, List.set_cons_succ]
            refine anyL_take (i := 15) (v := ?vgr015) rfl (by kernel_rfl) (by kernel_rfl) (by kernel_rfl) (by kernel_rfl) (fun _ _ _ h => h) (Or.inl ⟨by rfl, ?hgr015⟩) (unhide HS22) ?_
            case hgr015 => (intro w hSw; (try dsimp only at hSw); go_simp) <;> with_reducible rfl
            simp only [Act.put, List.getElem_toArray, List.getElem_cons_zero, List.getElem_cons_succ, List.setIfInBounds_toArray, List.set_cons_zero, List.set_cons_succ]
            refine anyL_take (i := 16) (v := ?vgr016) rfl (by kernel_rfl) (by kernel_rfl) (by kernel_rfl) (by kernel_rfl) (fun _ _ _ h => h) (Or.inl ⟨by rfl, ?hgr016⟩) (unhide HS22) ?_
            case hgr016 => (intro w hSw; (try dsimp only at hSw); go_simp) <;> with_reducible rfl
            simp only [Act.put, List.getElem_toArray, List.getElem_cons_zero, List.getElem_cons_succ, List.setIfInBounds_toArray, List.set_cons_zero, List.set_cons_succ]
            refine anyL_take (i := 17) (v := ?vgr017) rfl (by kernel_rfl) (by kernel_rfl) (by kernel_rfl) (by kernel_rfl) (fun _ _ _ h => h) (Or.inl ⟨by rfl, ?hgr017⟩) (unhide HS22) ?_
            case hgr017 => (intro w hSw; (try dsimp only at hSw); go_simp) <;> with_reducible rfl
            simp only [Act.put, List.getElem_toArray, List.getElem_cons_zero, List.getElem_cons_succ, List.setIfInBounds_toArray, List.set_cons_zero, List.set_cons_succ]
            refine anyL_take (i := 18) (v := ?vgr018) rfl (by kernel_rfl) (by kernel_rfl) (by kernel_rfl) (by kernel_rfl) (fun _ _ _ h => h) (Or.inl ⟨by rfl, ?hgr018⟩) (unhide HS22) ?_
            case hgr018 => (intro w hSw; (try dsimp only at hSw); go_simp) <;> with_reducible rfl
            simp only [Act.put, List.getElem_toArray, List.getElem_cons_zero, List.getElem_cons_succ, List.setIfInBounds_toArray, List.set_cons_zero, List.set_cons_succ]
            refine anyL_take (i := 19) (v := ?vgr019) rfl (by kernel_rfl) (by kernel_rfl) (by kernel_rfl) (by kernel_rfl) (fun _ _ _ h => h) (Or.inl ⟨by rfl, ?hgr019⟩) (unhide HS22) ?_
            case hgr019 => (intro w hSw; (try dsimp only at hSw); go_simp) <;> with_reducible rfl
            simp only [Act.put, List.getElem_toArray, List.getElem_cons_zero, List.getElem_cons_succ, List.setIfInBounds_toArray, List.set_cons_zero, List.set_cons_succ]
            refine anyL_take (i := 20) (v := ?vgr020) rfl (by kernel_rfl) (by kernel_rfl) (by kernel_rfl) (by kernel_rfl) (fun _ _ _ h => h) (Or.inl ⟨by rfl, ?hgr020⟩) (unhide HS22) ?_
            case hgr020 => (intro w hSw; (try dsimp only at hSw); go_simp) <;> with_reducible rfl
            simp only [Act.put, List.getElem_toArray, List.getElem_cons_zero, List.getElem_cons_succ, List.setIfInBounds_toArray, List.set_cons_zero, List.set_cons_succ]
            refine anyL_take (i := 21) (v := ?vgr021) rfl (by kernel_rfl) (by kernel_rfl) (by kernel_rfl) (by kernel_rfl) (fun _ _ _ h => h) (Or.inl ⟨by rfl, ?hgr021⟩) (unhide HS22) ?_
            case hgr021 => (intro w hSw; (try dsimp only at hSw); go_simp) <;> with_reducible rfl
            simp only [Act.put, List.getElem_toArray, List.getElem_cons_zero, List.getElem_cons_succ, List.setIfInBounds_toArray, List.set_cons_zero, List.set_cons_succ]
            refine anyL_take (i := 22) (v := ?vgr022) rfl (by kernel_rfl) (by kernel_rfl) (by kernel_rfl) (by kernel_rfl) (fun _ _ _ h => h) (Or.inl ⟨by rfl, ?hgr022⟩) (unhide HS22) ?_
            case hgr022 => (intro w hSw; (try dsimp only at hSw); go_simp) <;> with_reducible rfl
            simp only [Act.put, List.getElem_toArray, List.getElem_cons_zero, List.getElem_cons_succ, List.setIfInBounds_toArray, List.set_cons_zero, List.set_cons_succ]
            refine anyL_take (i := 23) (v := ?vgr023) rfl (by kernel_rfl) (by kernel_rfl) (by kernel_rfl) (by kernel_rfl) (fun _ _ _ h => h) (Or.inl ⟨by rfl, ?hgr023⟩) (unhide HS22) ?_
            case hgr023 => (intro w hSw; (try dsimp only at hSw); go_simp) <;> with_reducible rfl
            simp only [Act.put, List.getElem_toArray, List.getElem_cons_zero, List.getElem_cons_succ, List.setIfInBounds_toArray, List.set_cons_zero, List.set_cons_succ]
            refine anyL_take (i := 24) (v := ?vgr024) rfl (by kernel_rfl) (by kernel_rfl) (by kernel_rfl) (by kernel_rfl) (fun _ _ _ h => h) (Or.inl ⟨by rfl, ?hgr024⟩) (unhide HS22) ?_
            case hgr024 => (intro w hSw; (try dsimp only at hSw); go_simp) <;> with_reducible rfl
            simp only [Act.put, List.getElem_toArray, List.getElem_cons_zero, List.getElem_cons_succ, List.setIfInBounds_toArray, List.set_cons_zero, List.set_cons_succ]
            refine anyL_take (i := 25) (v := ?vgr025) rfl (by kernel_rfl) (by kernel_rfl) (by kernel_rfl) (by kernel_rfl) (fun _ _ _ h => h) (Or.inl ⟨by rfl, ?hgr025⟩) (unhide HS22) ?_
            case hgr025 => (intro w hSw; (try dsimp only at hSw); go_simp) <;> with_reducible rfl
            simp only [Act.put, List.getElem_toArray, List.getElem_cons_zero, List.getElem_cons_succ, List.setIfInBounds_toArray, List.set_cons_zero, List.set_cons_succ]
            refine anyL_take (i := 26) (v := ?vgr026) rfl (by kernel_rfl) (by kernel_rfl) (by kernel_rfl) (by kernel_rfl) (fun _ _ _ h => h) (Or.inl ⟨by rfl, ?hgr026⟩) (unhide HS22) ?_
            case hgr026 => (intro w hSw; (try dsimp only at hSw); go_simp) <;> with_reducible rfl
            simp only [Act.put, List.getElem_toArray, List.getElem_cons_zero, List.getElem_cons_succ, List.setIfInBounds_toArray, List.set_cons_zero, List.set_cons_succ]
            refine anyL_take (i := 27) (v := ?vgr027) rfl (by kernel_rfl) (by kernel_rfl) (by kernel_rfl) (by kernel_rfl) (fun _ _ _ h => h) (Or.inl ⟨by rfl, ?hgr027⟩) (unhide HS22) ?_
            case hgr027 => (intro w hSw; (try dsimp only at hSw); go_simp) <;> with_reducible rfl
            simp only [Act.put, List.getElem_toArray, List.getElem_cons_zero, List.getElem_cons_succ, List.setIfInBounds_toArray, List.set_cons_zero, List.set_cons_succ]
            refine anyL_take (i := 28) (v := ?vgr028) rfl (by kernel_rfl) (by kernel_rfl) (by kernel_rfl) (by kernel_rfl) (fun _ _ _ h => h) (Or.inl ⟨by rfl, ?hgr028⟩) (unhide HS22) ?_
            case hgr028 => (intro w hSw; (try dsimp only at hSw); go_simp) <;> with_reducible rfl
            simp only [Act.put, List.getElem_toArray, List.getElem_cons_zero, List.getElem_cons_succ, List.setIfInBounds_toArray, List.set_cons_zero, List.set_cons_succ]
            refine anyL_take (i := 29) (v := undef) rfl (by kernel_rfl) (by kernel_rfl) (by kernel_rfl) (by kernel_rfl) (fun _ _ _ h => h) (Or.inr ⟨by rfl, rfl⟩) (unhide HS22) ?_
            simp only [Act.put, List.getElem_toArray, List.getElem_cons_zero, List.getElem_cons_succ, List.setIfInBounds_toArray, List.set_cons_zero, List.set_cons_succ]
            refine anyL_take (i := 30) (v := undef) rfl (by kernel_rfl) (by kernel_rfl) (by kernel_rfl) (by kernel_rfl) (fun _ _ _ h => h) (Or.inr ⟨by rfl, rfl⟩) (unhide HS22) ?_
            simp only [Act.put, List.getElem_toArray, List.getElem_cons_zero, List.getElem_cons_succ, List.setIfInBounds_toArray, List.set_cons_zero, List.set_cons_succ]
            refine anyL_take (i := 31) (v := undef) rfl (by kernel_rfl) (by kernel_rfl) (by kernel_rfl) (by kernel_rfl) (fun _ _ _ h => h) (Or.inr ⟨by rfl, rfl⟩) (unhide HS22) ?_
            simp only [Act.put, List.getElem_toArray, List.getElem_cons_zero, List.getElem_cons_succ, List.setIfInBounds_toArray, List.set_cons_zero, List.set_cons_succ]
            refine anyL_take (i := 32) (v := undef) rfl (by kernel_rfl) (by kernel_rfl) (by kernel_rfl) (by kernel_rfl) (fun _ _ _ h => h) (Or.inr ⟨by rfl, rfl⟩) (unhide HS22) ?_
            simp only [Act.put, List.getElem_toArray, List.getElem_cons_zero, List.getElem_cons_succ, List.setIfInBounds_toArray, List.set_cons_zero, List.set_cons_succ]
            refine anyL_take (i := 33) (v := undef) rfl (by kernel_rfl) (by kernel_rfl) (by kernel_rfl) (by kernel_rfl) (fun _ _ _ h => h) (Or.inr ⟨by rfl, rfl⟩) (unhide HS22) ?_
            simp only [Act.put, List.getElem_toArray, List.getElem_cons_zero, List.getElem_cons_succ, List.setIfInBounds_toArray, List.set_cons_zero, List.set_cons_succ]
            refine anyL_take (i := 34) (v := undef) rfl (by kernel_rfl) (by kernel_rfl) (by kernel_rfl) (by kernel_rfl) (fun _ _ _ h => h) (Or.inr ⟨by rfl, rfl⟩) (unhide HS22) ?_
            simp only [Act.put, List.getElem_toArray, List.getElem_cons_zero, List.getElem_cons_succ, List.setIfInBounds_toArray, List.set_cons_zero, List.set_cons_succ]
            refine anyL_take (i := 35) (v := undef) rfl (by kernel_rfl) (by kernel_rfl) (by kernel_rfl) (by kernel_rfl) (fun _ _ _ h => h) (Or.inr ⟨by rfl, rfl⟩) (unhide HS22) ?_
            simp only [Act.put, List.getElem_toArray, List.getElem_cons_zero, List.getElem_cons_succ, List.setIfInBounds_toArray, List.set_cons_zero, List.set_cons_succ]
            refine anyL_take (i := 36) (v := undef) rfl (by kernel_rfl) (by kernel_rfl) (by kernel_rfl) (by kernel_rfl) (fun _ _ _ h => h) (Or.inr ⟨by rfl, rfl⟩) (unhide HS22) ?_
            simp only [Act.put, List.getElem_toArray, List.getElem_cons_zero, List.getElem_cons_succ, List.setIfInBounds_toArray, List.set_cons_zero, List.set_cons_succ]
            refine anyL_take (i := 37) (v := undef) rfl (by kernel_rfl) (by kernel_rfl) (by kernel_rfl) (by kernel_rfl) (fun _ _ _ h => h) (Or.inr ⟨by rfl, rfl⟩) (unhide HS22) ?_
            simp only [Act.put, List.getElem_toArray, List.getElem_cons_zero, List.getElem_cons_succ, List.setIfInBounds_toArray, List.set_cons_zero, List.set_cons_succ]
            refine anyL_take (i := 38) (v := undef) rfl (by kernel_rfl) (by kernel_rfl) (by kernel_rfl) (by kernel_rfl) (fun _ _ _ h => h) (Or.inr ⟨by rfl, rfl⟩) (unhide HS22) ?_
            simp only [Act.put, List.getElem_toArray, List.getElem_cons_zero, List.getElem_cons_succ, List.setIfInBounds_toArray, List.set_cons_zero, List.set_cons_succ]
            refine anyL_take (i := 39) (v := undef) rfl (by kernel_rfl) (by kernel_rfl) (by kernel_rfl) (by kernel_rfl) (fun _ _ _ h => h) (Or.inr ⟨by rfl, rfl⟩) (unhide HS22) ?_
            simp only [Act.put, List.getElem_toArray, List.getElem_cons_zero, List.getElem_cons_succ, List.setIfInBounds_toArray, List.set_cons_zero, List.set_cons_succ]
            refine anyL_take (i := 40) (v := undef) rfl (by kernel_rfl) (by kernel_rfl) (by kernel_rfl) (by kernel_rfl) (fun _ _ _ h => h) (Or.inr ⟨by rfl, rfl⟩) (unhide HS22) ?_
            simp only [Act.put, List.getElem_toArray, List.getElem_cons_zero, List.getElem_cons_succ, List.setIfInBounds_toArray, List.set_cons_zero, List.set_cons_succ]
            refine anyL_take (i := 41) (v := ?vgr041) rfl (by kernel_rfl) (by kernel_rfl) (by kernel_rfl) (by kernel_rfl) (fun _ _ _ h => h) (Or.inl ⟨by rfl, ?hgr041⟩) (unhide HS22) ?_
            case hgr041 => (intro w hSw; (try dsimp only at hSw); go_simp) <;> with_reducible rfl
            simp only [Act.put, List.getElem_toArray, List.getElem_cons_zero, List.getElem_cons_succ, List.setIfInBounds_toArray, List.set_cons_zero, List.set_cons_succ]
            refine anyL_take (i := 42) (v := ?vgr042) rfl (by kernel_rfl) (by kernel_rfl) (by kernel_rfl) (by kernel_rfl) (fun _ _ _ h => h) (Or.inl ⟨by rfl, ?hgr042⟩) (unhide HS22) ?_
            case hgr042 => (intro w hSw; (try dsimp only at hSw); go_simp) <;> with_reducible rfl
            simp only [Act.put, List.getElem_toArray, List.getElem_cons_zero, List.getElem_cons_succ, List.setIfInBounds_toArray, List.set_cons_zero, List.set_cons_succ]
            refine anyL_take (i := 43) (v := ?vgr043) rfl (by kernel_rfl) (by kernel_rfl) (by kernel_rfl) (by kernel_rfl) (fun _ _ _ h => h) (Or.inl ⟨by rfl, ?hgr043⟩) (unhide HS22) ?_
            case hgr043 => (intro w hSw; (try dsimp only at hSw); go_simp) <;> with_reducible rfl
            simp only [Act.put, List.getElem_toArray, List.getElem_cons_zero, List.getElem_cons_succ, List.setIfInBounds_toArray, List.set_cons_zero, List.set_cons_succ]
            refine anyL_done (by kernel_rfl) ?_ _
            go_wp2_with fail
            go_roundw
            case rel => exact ⟨⟨⟨_, rfl⟩, ⟨_, rfl⟩, ⟨_, rfl⟩, ⟨_, rfl⟩⟩, i + 1, by go_num, hlt, hide (unhide HJN _ (Below.refl _ _).drew)⟩
            case measure => simp [intOf]; omega
          · subst s3
            go_upto_region 22 with fail
            refine regionL (S := fun z => z.cell? ⟨fg, fo + i * 3, none⟩ = some (.string knm) ∧ z.cell? ⟨fg, fo + i * 3 + 1, none⟩ = some (.int .i64 kp) ∧ z.cell? ⟨fg, fo + q * 3, none⟩ = some (.string qnm) ∧ z.cell? ⟨fg, fo + q * 3 + 1, none⟩ = some (.int .i64 kp)) (fun _ => false) (by kernel_rfl) ?_
            refine anyL_take (i := 0) (v := ?vgr144) rfl (by kernel_rfl) (by kernel_rfl) (by kernel_rfl) (by kernel_rfl) (fun _ _ _ h => h) (Or.inl ⟨by rfl, ?hgr144⟩) (unhide HS22) ?_
            case hgr144 => (intro w hSw; (try dsimp only at hSw); go_simp) <;> with_reducible rfl
            simp only [Act.put, List.getElem_toArray, List.getElem_cons_zero, List.setIfInBounds_toArray, List.set_cons_zero, List.set_cons_succ]
            refine anyL_take (i := 1) (v := ?vgr145) rfl (by kernel_rfl) (by kernel_rfl) (by kernel_rfl) (by kernel_rfl) (fun _ _ _ h => h) (Or.inl ⟨by rfl, ?hgr145⟩) (unhide HS22) ?_
            case hgr145 => (intro w hSw; (try dsimp only at hSw); go_simp) <;> with_reducible rfl
            simp only [Act.put, List.getElem_toArray, List.getElem_cons_zero, List.getElem_cons_succ, List.setIfInBounds_toArray, List.set_cons_zero, List.set_cons_succ]
            refine anyL_take (i := 2) (v := ?vgr146) rfl (by kernel_rfl) (by kernel_rfl) (by kernel_rfl) (by kernel_rfl) (fun _ _ _ h => h) (Or.inl ⟨by rfl, ?hgr146⟩) (unhide HS22) ?_
            case hgr146 => (intro w hSw; (try dsimp only at hSw); go_simp) <;> with_reducible rfl
            simp only [Act.put, List.getElem_toArray, List.getElem_cons_zero, List.getElem_cons_succ, List.setIfInBounds_toArray, List.set_cons_zero, List.set_cons_succ]
            refine anyL_take (i := 3) (v := ?vgr147) rfl (by kernel_rfl) (by kernel_rfl) (by kernel_rfl) (by kernel_rfl) (fun _ _ _ h => h) (Or.inl ⟨by rfl, ?hgr147⟩) (unhide HS22) ?_
            case hgr147 => (intro w hSw; (try dsimp only at hSw); go_simp) <;> with_reducible rfl
            simp only [Act.put, List.getElem_toArray, List.getElem_cons_zero, List.getElem_cons_succ, List.setIfInBounds_toArray, List.set_cons_zero, List.set_cons_succ]
            refine anyL_take (i := 4) (v := ?vgr148) rfl (by kernel_rfl) (by kernel_rfl) (by kernel_rfl) (by kernel_rfl) (fun _ _ _ h => h) (Or.inl ⟨by rfl, ?hgr148⟩) (unhide HS22) ?_
            case hgr148 => (intro w hSw; (try dsimp only at hSw); go_simp) <;> with_reducible rfl
            simp only [Act.put, List.getElem_toArray, List.getElem_cons_zero, List.getElem_cons_succ, List.setIfInBounds_toArray, List.set_cons_zero, List.set_cons_succ]
            refine anyL_take (i := 5) (v := ?vgr149) rfl (by kernel_rfl) (by kernel_rfl) (by kernel_rfl) (by kernel_rfl) (fun _ _ _ h => h) (Or.inl ⟨by rfl, ?hgr149⟩) (unhide HS22) ?_
            case hgr149 => (intro w hSw; (try dsimp only at hSw); go_simp) <;> with_reducible rfl
            simp only [Act.put, List.getElem_toArray, List.getElem_cons_zero, List.getElem_cons_succ, List.setIfInBounds_toArray, List.set_cons_zero, List.set_cons_succ]
            refine anyL_take (i := 6) (v := ?vgr150) rfl (by kernel_rfl) (by kernel_rfl) (by kernel_rfl) (by kernel_rfl) (fun _ _ _ h => h) (Or.inl ⟨by rfl, ?hgr150⟩) (unhide HS22) ?_
            case hgr150 => (intro w hSw; (try dsimp only at hSw); go_simp) <;> with_reducible rfl
            simp only [Act.put, List.getElem_toArray, List.getElem_cons_zero, List.getElem_cons_succ, List.setIfInBounds_toArray, List.set_cons_zero, List.set_cons_succ]
            refine anyL_take (i := 7) (v := ?vgr151) rfl (by kernel_rfl) (by kernel_rfl) (by kernel_rfl) (by kernel_rfl) (fun _ _ _ h => h) (Or.inl ⟨by rfl, ?hgr151⟩) (unhide HS22) ?_
            case hgr151 => (intro w hSw; (try dsimp only at hSw); go_simp) <;> with_reducible rfl
            simp only [Act.put, List.getElem_toArray, List.getElem_cons_zero, List.getElem_cons_succ, List.setIfInBounds_toArray, List.set_cons_zero, List.set_cons_succ]
            refine anyL_take (i := 8) (v := ?vgr152) rfl (by kernel_rfl) (by kernel_rfl) (by kernel_rfl) (by kernel_rfl) (fun _ _ _ h => h) (Or.inl ⟨by rfl, ?hgr152⟩) (unhide HS22) ?_
            case hgr152 => (intro w hSw; (try dsimp only at hSw); go_simp) <;> with_reducible rfl
            simp only [Act.put, List.getElem_toArray, List.getElem_cons_zero, List.getElem_cons_succ, List.setIfInBounds_toArray, List.set_cons_zero, List.set_cons_succ]
            refine anyL_take (i := 9) (v := ?vgr153) rfl (by kernel_rfl) (by kernel_rfl) (by kernel_rfl) (by kernel_rfl) (fun _ _ _ h => h) (Or.inl ⟨by rfl, ?hgr153⟩) (unhide HS22) ?_
            case hgr153 => (intro w hSw; (try dsimp only at hSw); go_simp) <;> with_reducible rfl
            simp only [Act.put, List.getElem_toArray, List.getElem_cons_zero, List.getElem_cons_succ, List.setIfInBounds_toArray, List.set_cons_zero, List.set_cons_succ]
            refine anyL_take (i := 10) (v := ?vgr154) rfl (by kernel_rfl) (by kernel_rfl) (by kernel_rfl) (by kernel_rfl) (fun _ _ _ h => h) (Or.inl ⟨by rfl, ?hgr154⟩) (unhide HS22) ?_
            case hgr154 => (intro w hSw; (try dsimp only at hSw); go_simp) <;> with_reducible rfl
            simp only [Act.put, List.getElem_toArray, List.getElem_cons_zero, List.getElem_cons_succ, List.setIfInBounds_toArray, List.set_cons_zero, List.set_cons_succ]
            refine anyL_take (i := 11) (v := ?vgr155) rfl (by kernel_rfl) (by kernel_rfl) (by kernel_rfl) (by kernel_rfl) (fun _ _ _ h => h) (Or.inl ⟨by rfl, ?hgr155⟩) (unhide HS22) ?_
            case hgr155 => (intro w hSw; (try dsimp only at hSw); go_simp) <;> with_reducible rfl
            simp only [Act.put, List.getElem_toArray, List.getElem_cons_zero, List.getElem_cons_succ, List.setIfInBounds_toArray, List.set_cons_zero, List.set_cons_succ]
            refine anyL_take (i := 12) (v := ?vgr156) rfl (by kernel_rfl) (by kernel_rfl) (by kernel_rfl) (by kernel_rfl) (fun _ _ _ h => h) (Or.inl ⟨by rfl, ?hgr156⟩) (unhide HS22) ?_
            case hgr156 => (intro w hSw; (try dsimp only at hSw); go_simp) <;> with_reducible rfl
            simp only [Act.put, List.getElem_toArray, List.getElem_cons_zero, List.getElem_cons_succ, List.setIfInBounds_toArray, List.set_cons_zero, List.set_cons_succ]
            refine anyL_take (i := 13) (v := ?vgr157) rfl (by kernel_rfl) (by kernel_rfl) (by kernel_rfl) (by kernel_rfl) (fun _ _ _ h => h) (Or.inl ⟨by rfl, ?hgr157⟩) (unhide HS22) ?_
            case hgr157 => (intro w hSw; (try dsimp only at hSw); go_simp) <;> with_reducible rfl
            simp only [Act.put, List.getElem_toArray, List.getElem_cons_zero, List.getElem_cons_succ, List.setIfInBounds_toArray, List.set_cons_zero, List.set_cons_succ]
            refine anyL_take (i := 14) (v := ?vgr158) rfl (by kernel_rfl) (by kernel_rfl) (by kernel_rfl) (by kernel_rfl) (fun _ _ _ h => h) (Or.inl ⟨by rfl, ?hgr158⟩) (unhide HS22) ?_
            case hgr158 => (intro w hSw; (try dsimp only at hSw); go_simp) <;> with_reducible rfl
            simp only [Act.put, List.getElem_toArray, List.getElem_cons_zero, List.getElem_cons_succ, List.setIfInBounds_toArray, List.set_cons_zero, List.set_cons_succ]
            refine anyL_take (i := 15) (v := ?vgr159) rfl (by kernel_rfl) (by kernel_rfl) (by kernel_rfl) (by kernel_rfl) (fun _ _ _ h => h) (Or.inl ⟨by rfl, ?hgr159⟩) (unhide HS22) ?_
            case hgr159 => (intro w hSw; (try dsimp only at hSw); go_simp) <;> with_reducible rfl
            simp only [Act.put, List.getElem_toArray, List.getElem_cons_zero, List.getElem_cons_succ, List.setIfInBounds_toArray, List.set_cons_zero, List.set_cons_succ]
            refine anyL_take (i := 16) (v := ?vgr160) rfl (by kernel_rfl) (by kernel_rfl) (by kernel_rfl) (by kernel_rfl) (fun _ _ _ h => h) (Or.inl ⟨by rfl, ?hgr160⟩) (unhide HS22) ?_
            case hgr160 => (intro w hSw; (try dsimp only at hSw); go_simp) <;> with_reducible rfl
            simp only [Act.put, List.getElem_toArray, List.getElem_cons_zero, List.getElem_cons_succ, List.setIfInBounds_toArray, List.set_cons_zero, List.set_cons_succ]
            refine anyL_take (i := 17) (v := ?vgr161) rfl (by kernel_rfl) (by kernel_rfl) (by kernel_rfl) (by kernel_rfl) (fun _ _ _ h => h) (Or.inl ⟨by rfl, ?hgr161⟩) (unhide HS22) ?_
            case hgr161 => (intro w hSw; (try dsimp only at hSw); go_simp) <;> with_reducible rfl
            simp only [Act.put, List.getElem_toArray, List.getElem_cons_zero, List.getElem_cons_succ, List.setIfInBounds_toArray, List.set_cons_zero, List.set_cons_succ]
            refine anyL_take (i := 18) (v := ?vgr162) rfl (by kernel_rfl) (by kernel_rfl) (by kernel_rfl) (by kernel_rfl) (fun _ _ _ h => h) (Or.inl ⟨by rfl, ?hgr162⟩) (unhide HS22) ?_
            case hgr162 => (intro w hSw; (try dsimp only at hSw); go_simp) <;> with_reducible rfl
            simp only [Act.put, List.getElem_toArray, List.getElem_cons_zero, List.getElem_cons_succ, List.setIfInBounds_toArray, List.set_cons_zero, List.set_cons_succ]
            refine anyL_take (i := 19) (v := ?vgr163) rfl (by kernel_rfl) (by kernel_rfl) (by kernel_rfl) (by kernel_rfl) (fun _ _ _ h => h) (Or.inl ⟨by rfl, ?hgr163⟩) (unhide HS22) ?_
            case hgr163 => (intro w hSw; (try dsimp only at hSw); go_simp) <;> with_reducible rfl
            simp only [Act.put, List.getElem_toArray, List.getElem_cons_zero, List.getElem_cons_succ, List.setIfInBounds_toArray, List.set_cons_zero, List.set_cons_succ]
            refine anyL_take (i := 20) (v := ?vgr164) rfl (by kernel_rfl) (by kernel_rfl) (by kernel_rfl) (by kernel_rfl) (fun _ _ _ h => h) (Or.inl ⟨by rfl, ?hgr164⟩) (unhide HS22) ?_
            case hgr164 => (intro w hSw; (try dsimp only at hSw); go_simp) <;> with_reducible rfl
            simp only [Act.put, List.getElem_toArray, List.getElem_cons_zero, List.getElem_cons_succ, List.setIfInBounds_toArray, List.set_cons_zero, List.set_cons_succ]
            refine anyL_take (i := 21) (v := ?vgr165) rfl (by kernel_rfl) (by kernel_rfl) (by kernel_rfl) (by kernel_rfl) (fun _ _ _ h => h) (Or.inl ⟨by rfl, ?hgr165⟩) (unhide HS22) ?_
            case hgr165 => (intro w hSw; (try dsimp only at hSw); go_simp) <;> with_reducible rfl
            simp only [Act.put, List.getElem_toArray, List.getElem_cons_zero, List.getElem_cons_succ, List.setIfInBounds_toArray, List.set_cons_zero, List.set_cons_succ]
            refine anyL_take (i := 22) (v := ?vgr166) rfl (by kernel_rfl) (by kernel_rfl) (by kernel_rfl) (by kernel_rfl) (fun _ _ _ h => h) (Or.inl ⟨by rfl, ?hgr166⟩) (unhide HS22) ?_
            case hgr166 => (intro w hSw; (try dsimp only at hSw); go_simp) <;> with_reducible rfl
            simp only [Act.put, List.getElem_toArray, List.getElem_cons_zero, List.getElem_cons_succ, List.setIfInBounds_toArray, List.set_cons_zero, List.set_cons_succ]
            refine anyL_take (i := 23) (v := ?vgr167) rfl (by kernel_rfl) (by kernel_rfl) (by kernel_rfl) (by kernel_rfl) (fun _ _ _ h => h) (Or.inl ⟨by rfl, ?hgr167⟩) (unhide HS22) ?_
            case hgr167 => (intro w hSw; (try dsimp only at hSw); go_simp) <;> with_reducible rfl
            simp only [Act.put, List.getElem_toArray, List.getElem_cons_zero, List.getElem_cons_succ, List.setIfInBounds_toArray, List.set_cons_zero, List.set_cons_succ]
            refine anyL_take (i := 24) (v := ?vgr168) rfl (by kernel_rfl) (by kernel_rfl) (by kernel_rfl) (by kernel_rfl) (fun _ _ _ h => h) (Or.inl ⟨by rfl, ?hgr168⟩) (unhide HS22) ?_
            case hgr168 => (intro w hSw; (try dsimp only at hSw); go_simp) <;> with_reducible rfl
            simp only [Act.put, List.getElem_toArray, List.getElem_cons_zero, List.getElem_cons_succ, List.setIfInBounds_toArray, List.set_cons_zero, List.set_cons_succ]
            refine anyL_take (i := 25) (v := ?vgr169) rfl (by kernel_rfl) (by kernel_rfl) (by kernel_rfl) (by kernel_rfl) (fun _ _ _ h => h) (Or.inl ⟨by rfl, ?hgr169⟩) (unhide HS22) ?_
            case hgr169 => (intro w hSw; (try dsimp only at hSw); go_simp) <;> with_reducible rfl
            simp only [Act.put, List.getElem_toArray, List.getElem_cons_zero, List.getElem_cons_succ, List.setIfInBounds_toArray, List.set_cons_zero, List.set_cons_succ]
            refine anyL_take (i := 26) (v := ?vgr170) rfl (by kernel_rfl) (by kernel_rfl) (by kernel_rfl) (by kernel_rfl) (fun _ _ _ h => h) (Or.inl ⟨by rfl, ?hgr170⟩) (unhide HS22) ?_
            case hgr170 => (intro w hSw; (try dsimp only at hSw); go_simp) <;> with_reducible rfl
            simp only [Act.put, List.getElem_toArray, List.getElem_cons_zero, List.getElem_cons_succ, List.setIfInBounds_toArray, List.set_cons_zero, List.set_cons_succ]
            refine anyL_take (i := 27) (v := ?vgr171) rfl (by kernel_rfl) (by kernel_rfl) (by kernel_rfl) (by kernel_rfl) (fun _ _ _ h => h) (Or.inl ⟨by rfl, ?hgr171⟩) (unhide HS22) ?_
            case hgr171 => (intro w hSw; (try dsimp only at hSw); go_simp) <;> with_reducible rfl
            simp only [Act.put, List.getElem_toArray, List.getElem_cons_zero, List.getElem_cons_succ, List.setIfInBounds_toArray, List.set_cons_zero, List.set_cons_succ]
            refine anyL_take (i := 28) (v := ?vgr172) rfl (by kernel_rfl) (by kernel_rfl) (by kernel_rfl) (by kernel_rfl) (fun _ _ _ h => h) (Or.inl ⟨by rfl, ?hgr172⟩) (unhide HS22) ?_
            case hgr172 => (intro w hSw; (try dsimp only at hSw); go_simp) <;> with_reducible rfl
            simp only [Act.put, List.getElem_toArray, List.getElem_cons_zero, List.getElem_cons_succ, List.setIfInBounds_toArray, List.set_cons_zero, List.set_cons_succ]
            refine anyL_take (i := 29) (v := ?vgr173) rfl (by kernel_rfl) (by kernel_rfl) (by kernel_rfl) (by kernel_rfl) (fun _ _ _ h => h) (Or.inl ⟨by rfl, ?hgr173⟩) (unhide HS22) ?_
            case hgr173 => (intro w hSw; (try dsimp only at hSw); go_simp) <;> with_reducible rfl
            simp only [Act.put, List.getElem_toArray, List.getElem_cons_zero, List.getElem_cons_succ, List.setIfInBounds_toArray, List.set_cons_zero, List.set_cons_succ]
            refine anyL_take (i := 30) (v := ?vgr174) rfl (by kernel_rfl) (by kernel_rfl) (by kernel_rfl) (by kernel_rfl) (fun _ _ _ h => h) (Or.inl ⟨by rfl, ?hgr174⟩) (unhide HS22) ?_
            case hgr174 => (intro w hSw; (try dsimp only at hSw); go_simp) <;> with_reducible rfl
            simp only [Act.put, List.getElem_toArray, List.getElem_cons_zero, List.getElem_cons_succ, List.setIfInBounds_toArray, List.set_cons_zero, List.set_cons_succ]
            refine anyL_take (i := 31) (v := ?vgr175) rfl (by kernel_rfl) (by kernel_rfl) (by kernel_rfl) (by kernel_rfl) (fun _ _ _ h => h) (Or.inl ⟨by rfl, ?hgr175⟩) (unhide HS22) ?_
            case hgr175 => (intro w hSw; (try dsimp only at hSw); go_simp) <;> with_reducible rfl
            simp only [Act.put, List.getElem_toArray, List.getElem_cons_zero, List.getElem_cons_succ, List.setIfInBounds_toArray, List.set_cons_zero, List.set_cons_succ]
            refine anyL_take (i := 32) (v := ?vgr176) rfl (by kernel_rfl) (by kernel_rfl) (by kernel_rfl) (by kernel_rfl) (fun _ _ _ h => h) (Or.inl ⟨by rfl, ?hgr176⟩) (unhide HS22) ?_
            case hgr176 => (intro w hSw; (try dsimp only at hSw); go_simp) <;> with_reducible rfl
            simp only [Act.put, List.getElem_toArray, List.getElem_cons_zero, List.getElem_cons_succ, List.setIfInBounds_toArray, List.set_cons_zero, List.set_cons_succ]
            refine anyL_take (i := 33) (v := ?vgr177) rfl (by kernel_rfl) (by kernel_rfl) (by kernel_rfl) (by kernel_rfl) (fun _ _ _ h => h) (Or.inl ⟨by rfl, ?hgr177⟩) (unhide HS22) ?_
            case hgr177 => (intro w hSw; (try dsimp only at hSw); go_simp) <;> with_reducible rfl
            simp only [Act.put, List.getElem_toArray, List.getElem_cons_zero, List.getElem_cons_succ, List.setIfInBounds_toArray, List.set_cons_zero, List.set_cons_succ]
            refine anyL_take (i := 34) (v := ?vgr178) rfl (by kernel_rfl) (by kernel_rfl) (by kernel_rfl) (by kernel_rfl) (fun _ _ _ h => h) (Or.inl ⟨by rfl, ?hgr178⟩) (unhide HS22) ?_
            case hgr178 => (intro w hSw; (try dsimp only at hSw); go_simp) <;> with_reducible rfl
            simp only [Act.put, List.getElem_toArray, List.getElem_cons_zero, List.getElem_cons_succ, List.setIfInBounds_toArray, List.set_cons_zero, List.set_cons_succ]
            refine anyL_take (i := 35) (v := ?vgr179) rfl (by kernel_rfl) (by kernel_rfl) (by kernel_rfl) (by kernel_rfl) (fun _ _ _ h => h) (Or.inl ⟨by rfl, ?hgr179⟩) (unhide HS22) ?_
            case hgr179 => (intro w hSw; (try dsimp only at hSw); go_simp) <;> with_reducible rfl
            simp only [Act.put, List.getElem_toArray, List.getElem_cons_zero, List.getElem_cons_succ, List.setIfInBounds_toArray, List.set_cons_zero, List.set_cons_succ]
            refine anyL_take (i := 36) (v := ?vgr180) rfl (by kernel_rfl) (by kernel_rfl) (by kernel_rfl) (by kernel_rfl) (fun _ _ _ h => h) (Or.inl ⟨by rfl, ?hgr180⟩) (unhide HS22) ?_
            case hgr180 => (intro w hSw; (try dsimp only at hSw); go_simp) <;> with_reducible rfl
            simp only [Act.put, List.getElem_toArray, List.getElem_cons_zero, List.getElem_cons_succ, List.setIfInBounds_toArray, List.set_cons_zero, List.set_cons_succ]
            refine anyL_take (i := 37) (v := ?vgr181) rfl (by kernel_rfl) (by kernel_rfl) (by kernel_rfl) (by kernel_rfl) (fun _ _ _ h => h) (Or.inl ⟨by rfl, ?hgr181⟩) (unhide HS22) ?_
            case hgr181 => (intro w hSw; (try dsimp only at hSw); go_simp) <;> with_reducible rfl
            simp only [Act.put, List.getElem_toArray, List.getElem_cons_zero, List.getElem_cons_succ, List.setIfInBounds_toArray, List.set_cons_zero, List.set_cons_succ]
            refine anyL_take (i := 38) (v := ?vgr182) rfl (by kernel_rfl) (by kernel_rfl) (by kernel_rfl) (by kernel_rfl) (fun _ _ _ h => h) (Or.inl ⟨by rfl, ?hgr182⟩) (unhide HS22) ?_
            case hgr182 => (intro w hSw; (try dsimp only at hSw); go_simp) <;> with_reducible rfl
            simp only [Act.put, List.getElem_toArray, List.getElem_cons_zero, List.getElem_cons_succ, List.setIfInBounds_toArray, List.set_cons_zero, List.set_cons_succ]
            refine anyL_take (i := 39) (v := ?vgr183) rfl (by kernel_rfl) (by kernel_rfl) (by kernel_rfl) (by kernel_rfl) (fun _ _ _ h => h) (Or.inl ⟨by rfl, ?hgr183⟩) (unhide HS22) ?_
            case hgr183 => (intro w hSw; (try dsimp only at hSw); go_simp) <;> with_reducible rfl
            simp only [Act.put, List.getElem_toArray, List.getElem_cons_zero, List.getElem_cons_succ, List.setIfInBounds_toArray, List.set_cons_zero, List.set_cons_succ]
            refine anyL_take (i := 40) (v := ?vgr184) rfl (by kernel_rfl) (by kernel_rfl) (by kernel_rfl) (by kernel_rfl) (fun _ _ _ h => h) (Or.inl ⟨by rfl, ?hgr184⟩) (unhide HS22) ?_
            case hgr184 => (intro w hSw; (try dsimp only at hSw); go_simp) <;> with_reducible rfl
            simp only [Act.put, List.getElem_toArray, List.getElem_cons_zero, List.getElem_cons_succ, List.setIfInBounds_toArray, List.set_cons_zero, List.set_cons_succ]
            refine anyL_take (i := 41) (v := ?vgr185) rfl (by kernel_rfl) (by kernel_rfl) (by kernel_rfl) (by kernel_rfl) (fun _ _ _ h => h) (Or.inl ⟨by rfl, ?hgr185⟩) (unhide HS22) ?_
            case hgr185 => (intro w hSw; (try dsimp only at hSw); go_simp) <;> with_reducible rfl
            simp only [Act.put, List.getElem_toArray, List.getElem_cons_zero, List.getElem_cons_succ, List.setIfInBounds_toArray, List.set_cons_zero, List.set_cons_succ]
            refine anyL_take (i := 42) (v := ?vgr186) rfl (by kernel_rfl) (by kernel_rfl) (by kernel_rfl) (by kernel_rfl) (fun _ _ _ h => h) (Or.inl ⟨by rfl, ?hgr186⟩) (unhide HS22) ?_
            case hgr186 => (intro w hSw; (try dsimp only at hSw); go_simp) <;> with_reducible rfl
            simp only [Act.put, List.getElem_toArray, List.getElem_cons_zero, List.getElem_cons_succ, List.setIfInBounds_toArray, List.set_cons_zero, List.set_cons_succ]
            refine anyL_take (i := 43) (v := ?vgr187) rfl (by kernel_rfl) (by kernel_rfl) (by kernel_rfl) (by kernel_rfl) (fun _ _ _ h => h) (Or.inl ⟨by rfl, ?hgr187⟩) (unhide HS22) ?_
            case hgr187 => (intro w hSw; (try dsimp only at hSw); go_simp) <;> with_reducible rfl
            simp only [Act.put, List.getElem_toArray, List.getElem_cons_zero, List.getElem_cons_succ, List.setIfInBounds_toArray, List.set_cons_zero, List.set_cons_succ]
            refine anyL_done (by kernel_rfl) ?_ _
            go_wp2_with fail
            go_roundw
            case rel => exact ⟨⟨⟨_, rfl⟩, ⟨_, rfl⟩, ⟨_, rfl⟩, ⟨_, rfl⟩⟩, i + 1, by go_num, hlt, hide (unhide HJN _ (Below.refl _ _).drew)⟩
            case measure => simp [intOf]; omega
      · obtain rfl : i = N := by omega
        have t1 : decide ((i : Int) < (i : Int)) = false := decide_eq_false (by omega)
        go_wp2_with fail
        refine bodyPost_ret (results_tmp rfl _ _ _) rfl ⟨rfl, (unhide HJ).2.2.2⟩
end Go.Proofs.Ytfllomlighlejaa
