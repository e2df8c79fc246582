/- Layer 15: MarksOrder's walk, second form (written by wip/tools/mlc.py). -/
import Derived.Test.YtnnnilodknkadaaMo52

namespace Go.Proofs.Ytnnnilodknkadaa
open Go.ChangeShapes Go.WideShapes Go.ChangeAt Go.RowKit
attribute [local go_sem] Oper.semAt_some

/-- Behind, of a delta that only keeps -/
theorem stillM_at (g : Nat) (n : Int) (L : List Mk) (a : Option Addr) (D : List Mk) (sa : Option Addr) (sc : Nat) (X : World) (h : StM X g n L a D) (ho : IsO X sa (stD n.toNat)) :
    Calls Try.prog 20 #[.pointer (some ⟨g, 0, none⟩), .slice sa (stD n.toNat).length sc] X fun y X' => ∃ (g' : Nat) (S : List Mk), y = .returned (.tuple #[.pointer (some ⟨g', 0, none⟩), .int .i64 0]) ∧ S.Perm L ∧ IsMs X' g' n S ∧ Below X.heap.size X X' := by
  have hn : n.toNat ≤ 268435456 := by have := h.q; omega
  have en : ((n.toNat : Nat) : Int) = n := by have := h.q; omega
  obtain ⟨hv, hf, ht, _⟩ := stD_all hn
  have hl : (stD n.toNat).length ≤ 4611686018427387904 := by unfold stD; split <;> simp
  refine (MBeh_at g n L sa sc (stD n.toNat) X h.m ho hl hv (by rw [hf]; exact en) (h.r.u.perm h.r.p)).mono fun y X' ⟨g', S, e, hp, hm, hb⟩ => ⟨g', S, e, hp, ?_, hb⟩
  rw [ht, en, stD_mov hn (S := S) (fun m hm => by rw [en]; exact h.p m (h.r.p.mem_iff.2 (hp.mem_iff.1 hm)))] at hm
  exact hm
set_option maxRecDepth 100000 in
set_option maxHeartbeats 8000000 in
theorem MarksOrder_any (n : Int) (A : Option Addr) (cp : Nat) (l : List Ac) (ad : Option Addr) (cd : Nat) (d : List Dop) (w : World) (_hn : (Lit.int .i64 n).wf = true) (hA : IsAc w A l) (hl : l.length ≤ 1048576) (ho : IsO w ad d) (hz : d = [] ∨ ∃ q, ad = some q) (hdl : d.length ≤ 1048576) (_ht : ∀ o ∈ d, TbD o ∧ o.t.length ≤ 1048576) :
    Calls Try.prog 6 #[.int .i64 n, .slice A l.length cp, .slice ad d.length cd] w fun y w' => y = .returned (.bool true) ∧ Below w.heap.size w w' := by
  have HX0 := hide (Below.refl w.heap.size w)
  have HAw := hide (awake15_at w)
  have HAB := hide fun (Y : World) (hY : Below w.heap.size w Y) => (show IsAc Y A l from ⟨fun y hy => (hA.1 y hy).below hY, hA.2.imp id fun ⟨g, off, e, hg, hc⟩ => ⟨g, off, e, Nat.lt_of_lt_of_le hg hY.size, fun k hk j hj => (hY.cell (p := ⟨g, off + k * 5 + j, none⟩) hg).trans (hc k hk j hj)⟩⟩)
  have HCP := hide fun (Y : World) (hY : Below w.heap.size w Y) => copy_op Y ad cd d 36 (ho.below hY (Nat.le_refl _)) hz (by omega)
  have hdl2 : d.length ≤ 4611686018427387904 := by omega
  clear hA _hn ho hz hdl _ht
  by_cases hr : 0 ≤ n ∧ n ≤ 268435456
  case neg =>
    have HPl := hide fun (Y : World) => playedE_at n A cp l.length Y hr
    have ht : (decide (n < 0) = true) ∨ (decide (n < 0) = false ∧ decide (n > 268435456) = true ∧ decide (268435456 < n) = true) := by
      by_cases h1 : n < 0
      · exact .inl (decide_eq_true h1)
      · exact .inr ⟨decide_eq_false h1, decide_eq_true (by omega), decide_eq_true (by omega)⟩
    clear hr
    rcases ht with t1 | ⟨t1, t2, t2'⟩
    all_goals
      go_enter Try.func6, Try.ntmps6
      go_wp2_with fail
      refine (unhide HAw).mono ?_
      rintro y w1 ⟨rfl, x1⟩
      dsimp only
      have HX1 := hide ((unhide HX0).trans (x1.mono (unhide HX0).size))
      have HC2 := hide (unhide HPl w1)
      clear HAw HPl HX0 x1
      go_wp2_with fail
      refine (unhide HC2).mono ?_
      rintro y w2 ⟨rfl, x2⟩
      dsimp only
      have hx2 := (unhide HX1).trans (x2.mono (unhide HX1).size)
      have HX2 := hide (hx2.alloc hx2.size (.cells #[.int .i64 n, .slice none 0 0] 29))
      clear HC2 HX1 x2 hx2
      go_wp2_with fail
      refine bodyPost_ret (results_tmp rfl _ _ _) rfl ⟨rfl, unhide HX2⟩
  have HPl := hide fun (Y : World) (hY : Below w.heap.size w Y) => played_at n A cp l Y (unhide HAB Y hY) hl hr
  clear hr HAB
  go_enter Try.func6, Try.ntmps6
  go_wp2_with fail
  refine (unhide HAw).mono ?_
  rintro y w1 ⟨rfl, x1⟩
  dsimp only
  have HX1 := hide ((unhide HX0).trans (x1.mono (unhide HX0).size))
  have HC2 := hide (unhide HPl w1 (unhide HX1))
  clear HAw HPl HX0 x1
  go_wp2_with fail
  refine (unhide HC2).mono ?_
  rintro y w2 ⟨g1, n1, L1, a1, c1, D, rfl, s2, x2⟩
  dsimp only
  have hx2 := (unhide HX1).trans (x2.mono (unhide HX1).size)
  have b3 := (Below.refl w2.heap.size w2).alloc (Nat.le_refl _) (.cells #[.int .i64 n1, .slice a1 D.length c1] 29)
  have HX3 := hide (hx2.trans (b3.mono hx2.size))
  have HS3 := hide (s2.below b3)
  have HQ := hide s2.q
  clear HC2 HX1 s2 x2 hx2 b3
  go_upto_region 7 with fail
  generalize w2.alloc (.cells #[.int .i64 n1, .slice a1 D.length c1] 29) = w3 at *
  have HC3 := hide (MLen_at g1 n1 L1 w3 (unhide HS3).m)
  go_wp2_with fail
  refine (unhide HC3).mono ?_
  rintro y w4 ⟨rfl, x4⟩
  dsimp only
  have HX4 := hide ((unhide HX3).trans (x4.mono (unhide HX3).size))
  have HS4 := hide ((unhide HS3).below x4)
  clear HC3 HX3 HS3 x4
  by_cases h0 : n1 > 0
  · have t0 : decide (n1 > 0) = true := decide_eq_true h0
    have t0' : decide (0 < n1) = true := decide_eq_true h0
    have HC5 := hide (MLen_at g1 n1 L1 w4 (unhide HS4).m)
    go_wp2_with fail
    refine (unhide HC5).mono ?_
    rintro y w5 ⟨rfl, x5⟩
    dsimp only
    have hx5 := (unhide HX4).trans (x5.mono (unhide HX4).size)
    have b6 := (Below.refl w5.heap.size w5).alloc (Nat.le_refl _) (.cells #[.int .i64 1, .int .i64 n1, .string ⟨#[]⟩] 63)
    have hI := lit_keep w5 n1.toNat
    have en : ((n1.toNat : Nat) : Int) = n1 := by omega
    rw [en] at hI
    have hst : stD n1.toNat = [⟨1, n1, []⟩] := by unfold stD; rw [if_neg (by omega), en]
    have HC6 := hide (stillM_at g1 n1 L1 a1 D (some ⟨w5.heap.size, 0, none⟩) 1 _ (((unhide HS4).below x5).below b6) (by rw [hst]; exact hI))
    rw [hst] at HC6
    have HX6 := hide (hx5.trans (b6.mono hx5.size))
    have HS6 := hide (((unhide HS4).below x5).below b6)
    clear HC5 HX4 HS4 x5 hx5 b6 hI en hst h0
    go_upto_region 9 with fail
    generalize w5.alloc (.cells #[.int .i64 1, .int .i64 n1, .string ⟨#[]⟩] 63) = w6 at *
    go_wp2_with fail
    refine (unhide HC6).mono ?_
    rintro y w7 ⟨g7, S, rfl, hp, m7, x7⟩
    dsimp only
    have HX7 := hide ((unhide HX6).trans (x7.mono (unhide HX6).size))
    have HS7 := hide ((unhide HS6).below x7)
    have HM7 := hide m7
    have HP7 := hide hp
    clear HC6 HX6 HS6 x7 m7 hp
    have HC8 := hide (MList_at g7 n1 S w7 (unhide HM7) (by rw [(unhide HP7).length_eq]; exact (unhide HS7).len))
    go_wp2_with fail
    refine (unhide HC8).mono ?_
    rintro y w8 ⟨a8, c8, E8, rfl, p8, s8, o8, x8⟩
    dsimp only
    obtain rfl : E8 = D := (unhide HS7).list (p8.trans ((unhide HP7).filter _)) s8
    have HX8 := hide ((unhide HX7).trans (x8.mono (unhide HX7).size))
    have HS8 := hide ((unhide HS7).below x8)
    have HM8 := hide ((unhide HM7).below x8 (Nat.le_refl _))
    have HO8 := hide o8
    clear HC8 HX7 HS7 HM7 x8 p8 s8 o8
    have HC9 := hide (MList_at g1 n1 L1 w8 (unhide HS8).m (unhide HS8).len)
    go_wp2_with fail
    refine (unhide HC9).mono ?_
    rintro y w9 ⟨a9, c9, E9, rfl, p9, s9, o9, x9⟩
    dsimp only
    obtain rfl : E9 = E8 := (unhide HS8).list p9 s9
    obtain ⟨aa, ca, ea, ia, _⟩ := own_isK (rowD_below (unhide HO8) x9 (Nat.le_refl _))
    injection ea with ea1 ea2 ea3
    subst ea1 ea3
    obtain ⟨ab, cb, eb, ib, _⟩ := own_isK o9
    injection eb with eb1 eb2 eb3
    subst eb1 eb3
    have HX9 := hide ((unhide HX8).trans (x9.mono (unhide HX8).size))
    have HS9 := hide ((unhide HS8).below x9)
    have HM9 := hide ((unhide HM8).below x9 (Nat.le_refl _))
    have HC10 := hide (RSameK_at a8 c8 a9 c9 E9 w9 ia ib (Nat.le_trans (unhide HS9).l (by omega)))
    clear HC9 HX8 HS8 HM8 HO8 x9 p9 s9 o9 ia ib ea2 eb2
    go_wp2_with fail
    refine (unhide HC10).mono ?_
    rintro y w10 ⟨rfl, x10⟩
    dsimp only
    have HX10 := hide ((unhide HX9).trans (x10.mono (unhide HX9).size))
    have HS10 := hide ((unhide HS9).below x10)
    have HM10 := hide ((unhide HM9).below x10 (Nat.le_refl _))
    clear HC10 HX9 HS9 HM9 x10
    have HC11 := hide (MLen_at g7 n1 S w10 (unhide HM10))
    go_wp2_with fail
    refine (unhide HC11).mono ?_
    rintro y w11 ⟨rfl, x11⟩
    dsimp only
    have HX11 := hide ((unhide HX10).trans (x11.mono (unhide HX10).size))
    have HS11 := hide ((unhide HS10).below x11)
    clear HC11 HX10 HS10 HM10 HP7 x11
    have HC12 := hide (MLen_at g1 n1 L1 w11 (unhide HS11).m)
    go_wp2_with fail
    refine (unhide HC12).mono ?_
    rintro y w12 ⟨rfl, x12⟩
    dsimp only
    have HX12 := hide ((unhide HX11).trans (x12.mono (unhide HX11).size))
    have HS12 := hide ((unhide HS11).below x12)
    clear HC12 HX11 HS11 x12
    obtain ⟨vc, wc, rc, oc, xc⟩ := unhide HCP w12 (unhide HX12)
    obtain ⟨ac, cc, hvc, ic, _⟩ := own_isO oc
    subst hvc
    have R := hide rc
    have HX13 := hide ((unhide HX12).trans (xc.mono (unhide HX12).size))
    have HS13 := hide ((unhide HS12).below xc)
    clear rc oc xc HX12 HS12 HCP
    cases hv : valB d with
    | false =>
      have HC13 := hide (MBehV_at g1 ac cc d wc ic hdl2 hv)
      clear hv ic
      go_wp2_with (at_builtin; refine wpList_append_known rfl _ _ 36 36 rfl _ _ rfl rfl _ _ (unhide R) ?_; clear R)
      refine (unhide HC13).mono ?_
      rintro y w13 ⟨rfl, x13⟩
      dsimp only
      have HX14 := hide ((unhide HX13).trans (x13.mono (unhide HX13).size))
      clear HC13 HX13 HS13 x13
      go_wp2_with fail
      refine bodyPost_ret (results_tmp rfl _ _ _) rfl ⟨rfl, unhide HX14⟩
    | true =>
      by_cases hf : (frD d : Int) = n1
      case neg =>
        have HC13 := hide (MBehF_at g1 n1 L1 ac cc d wc (unhide HS13).m ic hdl2 hv hf)
        clear hv ic hf
        go_wp2_with (at_builtin; refine wpList_append_known rfl _ _ 36 36 rfl _ _ rfl rfl _ _ (unhide R) ?_; clear R)
        refine (unhide HC13).mono ?_
        rintro y w13 ⟨rfl, x13⟩
        dsimp only
        have HX14 := hide ((unhide HX13).trans (x13.mono (unhide HX13).size))
        clear HC13 HX13 HS13 x13
        go_wp2_with fail
        refine bodyPost_ret (results_tmp rfl _ _ _) rfl ⟨rfl, unhide HX14⟩
      have HC13 := hide (MBeh_at g1 n1 L1 ac cc d wc (unhide HS13).m ic hdl2 hv hf ((unhide HS13).r.u.perm (unhide HS13).r.p))
      have HV := hide (And.intro hv hf)
      clear hv ic hf
      go_wp2_with (at_builtin; refine wpList_append_known rfl _ _ 36 36 rfl _ _ rfl rfl _ _ (unhide R) ?_; clear R)
      refine (unhide HC13).mono ?_
      rintro y w13 ⟨g13, T, rfl, hpT, mT, x13⟩
      dsimp only
      have HX14 := hide ((unhide HX13).trans (x13.mono (unhide HX13).size))
      have HS14 := hide ((unhide HS13).below x13)
      have HMT := hide mT
      have HPT := hide hpT
      clear HC13 HX13 HS13 x13 mT hpT
      have HC15 := hide (MList_at g1 n1 L1 w13 (unhide HS14).m (unhide HS14).len)
      go_wp2_with fail
      refine (unhide HC15).mono ?_
      rintro y w15 ⟨a15, c15, E15, rfl, p15, s15, o15, x15⟩
      dsimp only
      obtain rfl : E15 = E9 := (unhide HS14).list p15 s15
      obtain ⟨ab2, cb2, eb2, ib2, _⟩ := own_isK o15
      injection eb2 with eb21 eb22 eb23
      subst eb21 eb23
      have HJ0 : Hid (IsK w15 a15 E15 ∧ IsMs w15 g13 (toD d) (T.map (mvM d)) ∧ Below w.heap.size w w15) := hide ⟨ib2, (unhide HMT).below x15 (Nat.le_refl _), (unhide HX14).trans (x15.mono (unhide HX14).size)⟩
      have HFa : Hid (∀ i, i < E15.length → getM (E15.getD i mkZ).n (T.map (mvM d)) = some (mvM d (E15.getD i mkZ)) ∧ ((0 ≤ (E15.getD i mkZ).p ∧ (E15.getD i mkZ).p ≤ frD d) ∧ ((E15.getD i mkZ).g = 1 ∨ (E15.getD i mkZ).g = 2))) := hide fun i hi => ⟨get_mv (unhide HS14).r (unhide HPT) (mem_getD hi), by rw [(unhide HV).2]; exact (unhide HS14).p _ (mem_getD hi)⟩
      have hEl : E15.length ≤ 1048576 := Nat.le_trans (unhide HS14).l (by omega)
      clear HC15 HX14 HS14 HMT HPT p15 s15 o15 x15 ib2 eb22
      go_wp2_with fail
      obtain ⟨N, hN⟩ : ∃ N, N = E15.length := ⟨_, rfl⟩
      rw [← hN] at hEl ⊢
      have HN := hide hN
      clear hN
      go_loopw [14, 15, 16, 17, 18, 19] (fun v14 v15 v16 v17 v18 v19 wx => ((∃ z, v15 = z) ∧ (∃ z, v16 = z) ∧ (∃ z, v17 = z) ∧ (∃ z, v18 = z) ∧ (∃ z, v19 = z)) ∧ ∃ i : Nat, v14 = .int .i64 (i : Int) ∧ i ≤ N ∧ Hid (IsK wx a15 E15 ∧ IsMs wx g13 (toD d) (T.map (mvM d)) ∧ Below w.heap.size w wx)) (fun v14 _ _ _ _ _ _ => N - (intOf v14).toNat)
      case atStart => exact ⟨⟨⟨_, rfl⟩, ⟨_, rfl⟩, ⟨_, rfl⟩, ⟨_, rfl⟩, ⟨_, rfl⟩⟩, 0, rfl, Nat.zero_le _, HJ0⟩
      case round =>
        clear HJ0
        obtain ⟨⟨⟨z1, rfl⟩, ⟨z2, rfl⟩, ⟨z3, rfl⟩, ⟨z4, rfl⟩, ⟨z5, rfl⟩⟩, i, rfl, hi, HJ⟩ := hrel
        by_cases hlt : i < N
        · have t1 : decide ((i : Int) < (N : Int)) = true := decide_eq_true (by omega)
          have hlt' : i < E15.length := by rw [← unhide HN]; exact hlt
          obtain ⟨hgi, hbi⟩ := unhide HFa i hlt'
          have HEi := hide fun (Y : World) (hY : IsK Y a15 E15) => hY.three hlt'
          generalize E15.getD i mkZ = mi at *
          obtain ⟨inm, ip, ig⟩ := mi
          have HGi := hide hgi
          have HBi := hide hbi
          clear hgi hbi hlt'
          go_wp2_with fail
          go_loopw [15, 16, 17, 18, 19] (fun v15 v16 v17 v18 v19 wx => ((∃ z, v16 = z) ∧ (∃ z, v17 = z) ∧ (∃ z, v18 = z) ∧ (∃ z, v19 = z)) ∧ ∃ j : Nat, v15 = .int .i64 (j : Int) ∧ j ≤ N ∧ Hid (IsK wx a15 E15 ∧ IsMs wx g13 (toD d) (T.map (mvM d)) ∧ Below w.heap.size w wx)) (fun v15 _ _ _ _ _ => N - (intOf v15).toNat)
          case atStart => exact ⟨⟨⟨_, rfl⟩, ⟨_, rfl⟩, ⟨_, rfl⟩, ⟨_, rfl⟩⟩, 0, rfl, Nat.zero_le _, HJ⟩
          case round =>
            clear HJ
            obtain ⟨⟨⟨y2, rfl⟩, ⟨y3, rfl⟩, ⟨y4, rfl⟩, ⟨y5, rfl⟩⟩, j, rfl, hj, HJ⟩ := hrel
            by_cases hlt2 : j < N
            · have t2 : decide ((j : Int) < (N : Int)) = true := decide_eq_true (by omega)
              have hlt' : j < E15.length := by rw [← unhide HN]; exact hlt2
              obtain ⟨hgj, hbj⟩ := unhide HFa j hlt'
              have HEj := hide fun (Y : World) (hY : IsK Y a15 E15) => hY.three hlt'
              generalize E15.getD j mkZ = mj at *
              obtain ⟨jnm, jp, jg⟩ := mj
              have hord := ord_same (a := ⟨inm, ip, ig⟩) (b := ⟨jnm, jp, jg⟩) (unhide HV).1 (unhide HBi) hbj
              dsimp only at hord
              have HGj := hide hgj
              clear hgj hbj hlt'
              obtain ⟨eg, eo, ha, heg, i0, i1, i2⟩ := unhide HEi wr (unhide HJ).1
              obtain ⟨eg', eo', ha', heg', j0, j1, j2⟩ := unhide HEj wr (unhide HJ).1
              subst ha
              cases ha'
              dsimp only at i0 i1 i2 j0 j1 j2
              have HCi := hide (MGet_at g13 (toD d) (T.map (mvM d)) inm wr (unhide HJ).2.1)
              rw [show getM inm (T.map (mvM d)) = some (mvM d ⟨inm, ip, ig⟩) from unhide HGi] at HCi
              simp only [Option.map_some, Option.getD_some, Option.isSome_some] at HCi
              unfold mvM mkV at HCi
              dsimp only at HCi
              have HCj := hide fun (Y : World) (hY : IsMs Y g13 (toD d) (T.map (mvM d))) => MGet_at g13 (toD d) (T.map (mvM d)) jnm Y hY
              rw [show getM jnm (T.map (mvM d)) = some (mvM d ⟨jnm, jp, jg⟩) from unhide HGj] at HCj
              simp only [Option.map_some, Option.getD_some, Option.isSome_some] at HCj
              unfold mvM mkV at HCj
              dsimp only at HCj
              generalize hxi : plV d ip ig = xi at HCi hord
              generalize hxj : plV d jp jg = xj at HCj hord
              have HO := hide hord
              have HXI := hide (And.intro hxi hxj)
              clear hord hxi hxj HGi HGj HBi heg heg'
              go_wp2_with fail
              refine (unhide HCi).mono ?_
              rintro y u1 ⟨rfl, x1⟩
              dsimp only
              have b1 := x1.alloc x1.size (.cells #[.string inm, .int .i64 xi, .int .i64 ig] 34)
              have HY1 := hide b1
              have HKx := hide (Cls.new u1 34 #[.string inm, .int .i64 xi, .int .i64 ig])
              have HJ1 : Hid (IsK (u1.alloc (.cells #[.string inm, .int .i64 xi, .int .i64 ig] 34)) (some ⟨eg, eo, none⟩) E15 ∧ IsMs (u1.alloc (.cells #[.string inm, .int .i64 xi, .int .i64 ig] 34)) g13 (toD d) (T.map (mvM d))) := hide ⟨(unhide HJ).1.below b1 (Nat.le_refl _), (unhide HJ).2.1.below b1 (Nat.le_refl _)⟩
              clear HCi x1 b1 i0 i1 i2 j0 j1 j2
              go_upto_region 23 with fail
              generalize u1.alloc (.cells #[.string inm, .int .i64 xi, .int .i64 ig] 34) = ua at *
              generalize u1.heap.size = bx at *
              obtain ⟨q1, q2, hq, _, j0, j1, j2⟩ := unhide HEj ua (unhide HJ1).1
              cases hq
              try dsimp only at j0 j1 j2
              have HC2 := hide (unhide HCj ua (unhide HJ1).2)
              clear HCj
              go_wp2_with fail
              refine (unhide HC2).mono ?_
              rintro y u2 ⟨rfl, x2⟩
              dsimp only
              have b2 := x2.alloc x2.size (.cells #[.string jnm, .int .i64 xj, .int .i64 jg] 34)
              have ky := Cls.new u2 34 #[.string jnm, .int .i64 xj, .int .i64 jg]
              have kx := (unhide HKx).below b2 (unhide HKx).lt
              have hJ2 := (unhide HJ1).1.below b2 (Nat.le_refl _)
              have hM2 := (unhide HJ1).2.below b2 (Nat.le_refl _)
              have hB2 := (unhide HJ).2.2.trans (((unhide HY1).trans (b2.mono (unhide HY1).size)).mono (unhide HJ).2.2.size)
              clear HC2 x2 b2 j0 j1 j2
              go_upto_region 24 with fail
              generalize u2.alloc (.cells #[.string jnm, .int .i64 xj, .int .i64 jg] 34) = ub at *
              generalize u2.heap.size = bz at *
              have HJN : Hid (∀ Y, Below ub.heap.size ub Y → IsK Y (some ⟨eg, eo, none⟩) E15 ∧ IsMs Y g13 (toD d) (T.map (mvM d)) ∧ Below w.heap.size w Y) := hide fun Y hY => ⟨hJ2.below hY (Nat.le_refl _), hM2.below hY (Nat.le_refl _), hB2.trans (hY.mono hB2.size)⟩
              have d1 := (kx.cell 1).trans rfl
              have d2 := (ky.cell 1).trans rfl
              obtain ⟨r1, r2, hr, _, _, i1, i2⟩ := unhide HEi ub hJ2
              cases hr
              obtain ⟨r3, r4, hr, _, _, j1, j2⟩ := unhide HEj ub hJ2
              cases hr
              try dsimp only at i1 i2 j1 j2
              clear kx ky hJ2 hM2 hB2 HJ1 HKx HY1 HJ HEi HEj HXI
              by_cases cA : ig = jg
              · subst cA
                by_cases cB : ip ≤ jp
                · have tB : decide (ip ≤ jp) = true := decide_eq_true cB
                  have hx := (unhide HO).1 rfl cB
                  have tX : decide (xi > xj) = false := decide_eq_false (by omega)
                  have tX' : decide (xj < xi) = false := decide_eq_false (by omega)
                  clear hx
                  by_cases cP : ip = jp
                  · subst cP
                    by_cases cQ : ig = 1
                    · subst cQ
                      clear cB
                      clear HO
                      go_quiet (fail)
                      go_upto_region 26 with fail
                      go_quiet (fail)
                      go_wp2_with fail
                      go_roundw
                      case rel => exact ⟨⟨⟨_, rfl⟩, ⟨_, rfl⟩, ⟨_, rfl⟩, ⟨_, rfl⟩⟩, j + 1, by go_num, hlt2, hide (unhide HJN _ (below_drewN (Below.refl _ _) _))⟩
                      case measure => simp [intOf]; omega
                    · have tQ : (ig == 1) = false := by simpa using cQ
                      clear cB cQ
                      clear HO
                      go_quiet (fail)
                      go_upto_region 26 with fail
                      go_quiet (fail)
                      go_wp2_with fail
                      go_roundw
                      case rel => exact ⟨⟨⟨_, rfl⟩, ⟨_, rfl⟩, ⟨_, rfl⟩, ⟨_, rfl⟩⟩, j + 1, by go_num, hlt2, hide (unhide HJN _ (below_drewN (Below.refl _ _) _))⟩
                      case measure => simp [intOf]; omega
                  · have tP : (ip == jp) = false := by simpa using cP
                    clear cB cP
                    clear HO
                    go_quiet (fail)
                    go_upto_region 26 with fail
                    go_quiet (fail)
                    go_wp2_with fail
                    go_roundw
                    case rel => exact ⟨⟨⟨_, rfl⟩, ⟨_, rfl⟩, ⟨_, rfl⟩, ⟨_, rfl⟩⟩, j + 1, by go_num, hlt2, hide (unhide HJN _ (below_drewN (Below.refl _ _) _))⟩
                    case measure => simp [intOf]; omega
                · have tB : decide (ip ≤ jp) = false := decide_eq_false cB
                  have tP : (ip == jp) = false := by simp; omega
                  clear cB
                  clear HO
                  go_quiet (fail)
                  go_upto_region 26 with fail
                  go_quiet (fail)
                  go_wp2_with fail
                  go_roundw
                  case rel => exact ⟨⟨⟨_, rfl⟩, ⟨_, rfl⟩, ⟨_, rfl⟩, ⟨_, rfl⟩⟩, j + 1, by go_num, hlt2, hide (unhide HJN _ (below_drewN (Below.refl _ _) _))⟩
                  case measure => simp [intOf]; omega
              · have tA : (ig == jg) = false := by simpa using cA
                by_cases cP : ip = jp
                · subst cP
                  by_cases cQ : ig = 1
                  · subst cQ
                    by_cases cR : jg = 2
                    · subst cR
                      have hx := (unhide HO).2 rfl rfl rfl
                      have tX : decide (xi > xj) = false := decide_eq_false (by omega)
                      have tX' : decide (xj < xi) = false := decide_eq_false (by omega)
                      clear hx cA
                      clear HO
                      go_quiet (fail)
                      go_upto_region 26 with fail
                      go_quiet (fail)
                      go_wp2_with fail
                      go_roundw
                      case rel => exact ⟨⟨⟨_, rfl⟩, ⟨_, rfl⟩, ⟨_, rfl⟩, ⟨_, rfl⟩⟩, j + 1, by go_num, hlt2, hide (unhide HJN _ (below_drewN (Below.refl _ _) _))⟩
                      case measure => simp [intOf]; omega
                    · have tR : (jg == 2) = false := by simpa using cR
                      clear cR cA
                      clear HO
                      go_quiet (fail)
                      go_upto_region 26 with fail
                      go_quiet (fail)
                      go_wp2_with fail
                      go_roundw
                      case rel => exact ⟨⟨⟨_, rfl⟩, ⟨_, rfl⟩, ⟨_, rfl⟩, ⟨_, rfl⟩⟩, j + 1, by go_num, hlt2, hide (unhide HJN _ (below_drewN (Below.refl _ _) _))⟩
                      case measure => simp [intOf]; omega
                  · have tQ : (ig == 1) = false := by simpa using cQ
                    clear cQ cA
                    clear HO
                    go_quiet (fail)
                    go_upto_region 26 with fail
                    go_quiet (fail)
                    go_wp2_with fail
                    go_roundw
                    case rel => exact ⟨⟨⟨_, rfl⟩, ⟨_, rfl⟩, ⟨_, rfl⟩, ⟨_, rfl⟩⟩, j + 1, by go_num, hlt2, hide (unhide HJN _ (below_drewN (Below.refl _ _) _))⟩
                    case measure => simp [intOf]; omega
                · have tP : (ip == jp) = false := by simpa using cP
                  clear cP cA
                  clear HO
                  go_quiet (fail)
                  go_upto_region 26 with fail
                  go_quiet (fail)
                  go_wp2_with fail
                  go_roundw
                  case rel => exact ⟨⟨⟨_, rfl⟩, ⟨_, rfl⟩, ⟨_, rfl⟩, ⟨_, rfl⟩⟩, j + 1, by go_num, hlt2, hide (unhide HJN _ (below_drewN (Below.refl _ _) _))⟩
                  case measure => simp [intOf]; omega
            · obtain rfl : j = N := by omega
              have t2 : decide ((j : Int) < (j : Int)) = false := decide_eq_false (by omega)
              go_wp2_with fail
              go_roundw
              case rel => exact ⟨⟨⟨_, rfl⟩, ⟨_, rfl⟩, ⟨_, rfl⟩, ⟨_, rfl⟩, ⟨_, rfl⟩⟩, i + 1, by go_num, hlt, HJ⟩
              case measure => simp [intOf]; omega
        · obtain rfl : i = N := by omega
          have t1 : decide ((i : Int) < (i : Int)) = false := decide_eq_false (by omega)
          go_wp2_with fail
          refine bodyPost_ret (results_tmp rfl _ _ _) rfl ⟨rfl, (unhide HJ).2.2⟩
  · have t0 : decide (n1 > 0) = false := decide_eq_false h0
    have t0' : decide (0 < n1) = false := decide_eq_false h0
    have hst : stD n1.toNat = [] := by unfold stD; rw [if_pos (by omega)]
    have HC6 := hide (stillM_at g1 n1 L1 a1 D none 0 w4 (unhide HS4) (by rw [hst]; exact .inl rfl))
    rw [hst] at HC6
    obtain ⟨w6, hw6⟩ : ∃ w6, w6 = w4 := ⟨_, rfl⟩
    rw [← hw6] at HC6 HX4 HS4 ⊢
    have HX6 := hide (unhide HX4)
    have HS6 := hide (unhide HS4)
    clear hst h0 HX4 HS4 hw6
    go_wp2_with fail
    refine (unhide HC6).mono ?_
    rintro y w7 ⟨g7, S, rfl, hp, m7, x7⟩
    dsimp only
    have HX7 := hide ((unhide HX6).trans (x7.mono (unhide HX6).size))
    have HS7 := hide ((unhide HS6).below x7)
    have HM7 := hide m7
    have HP7 := hide hp
    clear HC6 HX6 HS6 x7 m7 hp
    have HC8 := hide (MList_at g7 n1 S w7 (unhide HM7) (by rw [(unhide HP7).length_eq]; exact (unhide HS7).len))
    go_wp2_with fail
    refine (unhide HC8).mono ?_
    rintro y w8 ⟨a8, c8, E8, rfl, p8, s8, o8, x8⟩
    dsimp only
    obtain rfl : E8 = D := (unhide HS7).list (p8.trans ((unhide HP7).filter _)) s8
    have HX8 := hide ((unhide HX7).trans (x8.mono (unhide HX7).size))
    have HS8 := hide ((unhide HS7).below x8)
    have HM8 := hide ((unhide HM7).below x8 (Nat.le_refl _))
    have HO8 := hide o8
    clear HC8 HX7 HS7 HM7 x8 p8 s8 o8
    have HC9 := hide (MList_at g1 n1 L1 w8 (unhide HS8).m (unhide HS8).len)
    go_wp2_with fail
    refine (unhide HC9).mono ?_
    rintro y w9 ⟨a9, c9, E9, rfl, p9, s9, o9, x9⟩
    dsimp only
    obtain rfl : E9 = E8 := (unhide HS8).list p9 s9
    obtain ⟨aa, ca, ea, ia, _⟩ := own_isK (rowD_below (unhide HO8) x9 (Nat.le_refl _))
    injection ea with ea1 ea2 ea3
    subst ea1 ea3
    obtain ⟨ab, cb, eb, ib, _⟩ := own_isK o9
    injection eb with eb1 eb2 eb3
    subst eb1 eb3
    have HX9 := hide ((unhide HX8).trans (x9.mono (unhide HX8).size))
    have HS9 := hide ((unhide HS8).below x9)
    have HM9 := hide ((unhide HM8).below x9 (Nat.le_refl _))
    have HC10 := hide (RSameK_at a8 c8 a9 c9 E9 w9 ia ib (Nat.le_trans (unhide HS9).l (by omega)))
    clear HC9 HX8 HS8 HM8 HO8 x9 p9 s9 o9 ia ib ea2 eb2
    go_wp2_with fail
    refine (unhide HC10).mono ?_
    rintro y w10 ⟨rfl, x10⟩
    dsimp only
    have HX10 := hide ((unhide HX9).trans (x10.mono (unhide HX9).size))
    have HS10 := hide ((unhide HS9).below x10)
    have HM10 := hide ((unhide HM9).below x10 (Nat.le_refl _))
    clear HC10 HX9 HS9 HM9 x10
    have HC11 := hide (MLen_at g7 n1 S w10 (unhide HM10))
    go_wp2_with fail
    refine (unhide HC11).mono ?_
    rintro y w11 ⟨rfl, x11⟩
    dsimp only
    have HX11 := hide ((unhide HX10).trans (x11.mono (unhide HX10).size))
    have HS11 := hide ((unhide HS10).below x11)
    clear HC11 HX10 HS10 HM10 HP7 x11
    have HC12 := hide (MLen_at g1 n1 L1 w11 (unhide HS11).m)
    go_wp2_with fail
    refine (unhide HC12).mono ?_
    rintro y w12 ⟨rfl, x12⟩
    dsimp only
    have HX12 := hide ((unhide HX11).trans (x12.mono (unhide HX11).size))
    have HS12 := hide ((unhide HS11).below x12)
    clear HC12 HX11 HS11 x12
    obtain ⟨vc, wc, rc, oc, xc⟩ := unhide HCP w12 (unhide HX12)
    obtain ⟨ac, cc, hvc, ic, _⟩ := own_isO oc
    subst hvc
    have R := hide rc
    have HX13 := hide ((unhide HX12).trans (xc.mono (unhide HX12).size))
    have HS13 := hide ((unhide HS12).below xc)
    clear rc oc xc HX12 HS12 HCP
    cases hv : valB d with
    | false =>
      have HC13 := hide (MBehV_at g1 ac cc d wc ic hdl2 hv)
      clear hv ic
      go_wp2_with (at_builtin; refine wpList_append_known rfl _ _ 36 36 rfl _ _ rfl rfl _ _ (unhide R) ?_; clear R)
      refine (unhide HC13).mono ?_
      rintro y w13 ⟨rfl, x13⟩
      dsimp only
      have HX14 := hide ((unhide HX13).trans (x13.mono (unhide HX13).size))
      clear HC13 HX13 HS13 x13
      go_wp2_with fail
      refine bodyPost_ret (results_tmp rfl _ _ _) rfl ⟨rfl, unhide HX14⟩
    | true =>
      by_cases hf : (frD d : Int) = n1
      case neg =>
        have HC13 := hide (MBehF_at g1 n1 L1 ac cc d wc (unhide HS13).m ic hdl2 hv hf)
        clear hv ic hf
        go_wp2_with (at_builtin; refine wpList_append_known rfl _ _ 36 36 rfl _ _ rfl rfl _ _ (unhide R) ?_; clear R)
        refine (unhide HC13).mono ?_
        rintro y w13 ⟨rfl, x13⟩
        dsimp only
        have HX14 := hide ((unhide HX13).trans (x13.mono (unhide HX13).size))
        clear HC13 HX13 HS13 x13
        go_wp2_with fail
        refine bodyPost_ret (results_tmp rfl _ _ _) rfl ⟨rfl, unhide HX14⟩
      have HC13 := hide (MBeh_at g1 n1 L1 ac cc d wc (unhide HS13).m ic hdl2 hv hf ((unhide HS13).r.u.perm (unhide HS13).r.p))
      have HV := hide (And.intro hv hf)
      clear hv ic hf
      go_wp2_with (at_builtin; refine wpList_append_known rfl _ _ 36 36 rfl _ _ rfl rfl _ _ (unhide R) ?_; clear R)
      refine (unhide HC13).mono ?_
      rintro y w13 ⟨g13, T, rfl, hpT, mT, x13⟩
      dsimp only
      have HX14 := hide ((unhide HX13).trans (x13.mono (unhide HX13).size))
      have HS14 := hide ((unhide HS13).below x13)
      have HMT := hide mT
      have HPT := hide hpT
      clear HC13 HX13 HS13 x13 mT hpT
      have HC15 := hide (MList_at g1 n1 L1 w13 (unhide HS14).m (unhide HS14).len)
      go_wp2_with fail
      refine (unhide HC15).mono ?_
      rintro y w15 ⟨a15, c15, E15, rfl, p15, s15, o15, x15⟩
      dsimp only
      obtain rfl : E15 = E9 := (unhide HS14).list p15 s15
      obtain ⟨ab2, cb2, eb2, ib2, _⟩ := own_isK o15
      injection eb2 with eb21 eb22 eb23
      subst eb21 eb23
      have HJ0 : Hid (IsK w15 a15 E15 ∧ IsMs w15 g13 (toD d) (T.map (mvM d)) ∧ Below w.heap.size w w15) := hide ⟨ib2, (unhide HMT).below x15 (Nat.le_refl _), (unhide HX14).trans (x15.mono (unhide HX14).size)⟩
      have HFa : Hid (∀ i, i < E15.length → getM (E15.getD i mkZ).n (T.map (mvM d)) = some (mvM d (E15.getD i mkZ)) ∧ ((0 ≤ (E15.getD i mkZ).p ∧ (E15.getD i mkZ).p ≤ frD d) ∧ ((E15.getD i mkZ).g = 1 ∨ (E15.getD i mkZ).g = 2))) := hide fun i hi => ⟨get_mv (unhide HS14).r (unhide HPT) (mem_getD hi), by rw [(unhide HV).2]; exact (unhide HS14).p _ (mem_getD hi)⟩
      have hEl : E15.length ≤ 1048576 := Nat.le_trans (unhide HS14).l (by omega)
      clear HC15 HX14 HS14 HMT HPT p15 s15 o15 x15 ib2 eb22
      go_wp2_with fail
      obtain ⟨N, hN⟩ : ∃ N, N = E15.length := ⟨_, rfl⟩
      rw [← hN] at hEl ⊢
      have HN := hide hN
      clear hN
      go_loopw [14, 15, 16, 17, 18, 19] (fun v14 v15 v16 v17 v18 v19 wx => ((∃ z, v15 = z) ∧ (∃ z, v16 = z) ∧ (∃ z, v17 = z) ∧ (∃ z, v18 = z) ∧ (∃ z, v19 = z)) ∧ ∃ i : Nat, v14 = .int .i64 (i : Int) ∧ i ≤ N ∧ Hid (IsK wx a15 E15 ∧ IsMs wx g13 (toD d) (T.map (mvM d)) ∧ Below w.heap.size w wx)) (fun v14 _ _ _ _ _ _ => N - (intOf v14).toNat)
      case atStart => exact ⟨⟨⟨_, rfl⟩, ⟨_, rfl⟩, ⟨_, rfl⟩, ⟨_, rfl⟩, ⟨_, rfl⟩⟩, 0, rfl, Nat.zero_le _, HJ0⟩
      case round =>
        clear HJ0
        obtain ⟨⟨⟨z1, rfl⟩, ⟨z2, rfl⟩, ⟨z3, rfl⟩, ⟨z4, rfl⟩, ⟨z5, rfl⟩⟩, i, rfl, hi, HJ⟩ := hrel
        by_cases hlt : i < N
        · have t1 : decide ((i : Int) < (N : Int)) = true := decide_eq_true (by omega)
          have hlt' : i < E15.length := by rw [← unhide HN]; exact hlt
          obtain ⟨hgi, hbi⟩ := unhide HFa i hlt'
          have HEi := hide fun (Y : World) (hY : IsK Y a15 E15) => hY.three hlt'
          generalize E15.getD i mkZ = mi at *
          obtain ⟨inm, ip, ig⟩ := mi
          have HGi := hide hgi
          have HBi := hide hbi
          clear hgi hbi hlt'
          go_wp2_with fail
          go_loopw [15, 16, 17, 18, 19] (fun v15 v16 v17 v18 v19 wx => ((∃ z, v16 = z) ∧ (∃ z, v17 = z) ∧ (∃ z, v18 = z) ∧ (∃ z, v19 = z)) ∧ ∃ j : Nat, v15 = .int .i64 (j : Int) ∧ j ≤ N ∧ Hid (IsK wx a15 E15 ∧ IsMs wx g13 (toD d) (T.map (mvM d)) ∧ Below w.heap.size w wx)) (fun v15 _ _ _ _ _ => N - (intOf v15).toNat)
          case atStart => exact ⟨⟨⟨_, rfl⟩, ⟨_, rfl⟩, ⟨_, rfl⟩, ⟨_, rfl⟩⟩, 0, rfl, Nat.zero_le _, HJ⟩
          case round =>
            clear HJ
            obtain ⟨⟨⟨y2, rfl⟩, ⟨y3, rfl⟩, ⟨y4, rfl⟩, ⟨y5, rfl⟩⟩, j, rfl, hj, HJ⟩ := hrel
            by_cases hlt2 : j < N
            · have t2 : decide ((j : Int) < (N : Int)) = true := decide_eq_true (by omega)
              have hlt' : j < E15.length := by rw [← unhide HN]; exact hlt2
              obtain ⟨hgj, hbj⟩ := unhide HFa j hlt'
              have HEj := hide fun (Y : World) (hY : IsK Y a15 E15) => hY.three hlt'
              generalize E15.getD j mkZ = mj at *
              obtain ⟨jnm, jp, jg⟩ := mj
              have hord := ord_same (a := ⟨inm, ip, ig⟩) (b := ⟨jnm, jp, jg⟩) (unhide HV).1 (unhide HBi) hbj
              dsimp only at hord
              have HGj := hide hgj
              clear hgj hbj hlt'
              obtain ⟨eg, eo, ha, heg, i0, i1, i2⟩ := unhide HEi wr (unhide HJ).1
              obtain ⟨eg', eo', ha', heg', j0, j1, j2⟩ := unhide HEj wr (unhide HJ).1
              subst ha
              cases ha'
              dsimp only at i0 i1 i2 j0 j1 j2
              have HCi := hide (MGet_at g13 (toD d) (T.map (mvM d)) inm wr (unhide HJ).2.1)
              rw [show getM inm (T.map (mvM d)) = some (mvM d ⟨inm, ip, ig⟩) from unhide HGi] at HCi
              simp only [Option.map_some, Option.getD_some, Option.isSome_some] at HCi
              unfold mvM mkV at HCi
              dsimp only at HCi
              have HCj := hide fun (Y : World) (hY : IsMs Y g13 (toD d) (T.map (mvM d))) => MGet_at g13 (toD d) (T.map (mvM d)) jnm Y hY
              rw [show getM jnm (T.map (mvM d)) = some (mvM d ⟨jnm, jp, jg⟩) from unhide HGj] at HCj
              simp only [Option.map_some, Option.getD_some, Option.isSome_some] at HCj
              unfold mvM mkV at HCj
              dsimp only at HCj
              generalize hxi : plV d ip ig = xi at HCi hord
              generalize hxj : plV d jp jg = xj at HCj hord
              have HO := hide hord
              have HXI := hide (And.intro hxi hxj)
              clear hord hxi hxj HGi HGj HBi heg heg'
              go_wp2_with fail
              refine (unhide HCi).mono ?_
              rintro y u1 ⟨rfl, x1⟩
              dsimp only
              have b1 := x1.alloc x1.size (.cells #[.string inm, .int .i64 xi, .int .i64 ig] 34)
              have HY1 := hide b1
              have HKx := hide (Cls.new u1 34 #[.string inm, .int .i64 xi, .int .i64 ig])
              have HJ1 : Hid (IsK (u1.alloc (.cells #[.string inm, .int .i64 xi, .int .i64 ig] 34)) (some ⟨eg, eo, none⟩) E15 ∧ IsMs (u1.alloc (.cells #[.string inm, .int .i64 xi, .int .i64 ig] 34)) g13 (toD d) (T.map (mvM d))) := hide ⟨(unhide HJ).1.below b1 (Nat.le_refl _), (unhide HJ).2.1.below b1 (Nat.le_refl _)⟩
              clear HCi x1 b1 i0 i1 i2 j0 j1 j2
              go_upto_region 23 with fail
              generalize u1.alloc (.cells #[.string inm, .int .i64 xi, .int .i64 ig] 34) = ua at *
              generalize u1.heap.size = bx at *
              obtain ⟨q1, q2, hq, _, j0, j1, j2⟩ := unhide HEj ua (unhide HJ1).1
              cases hq
              try dsimp only at j0 j1 j2
              have HC2 := hide (unhide HCj ua (unhide HJ1).2)
              clear HCj
              go_wp2_with fail
              refine (unhide HC2).mono ?_
              rintro y u2 ⟨rfl, x2⟩
              dsimp only
              have b2 := x2.alloc x2.size (.cells #[.string jnm, .int .i64 xj, .int .i64 jg] 34)
              have ky := Cls.new u2 34 #[.string jnm, .int .i64 xj, .int .i64 jg]
              have kx := (unhide HKx).below b2 (unhide HKx).lt
              have hJ2 := (unhide HJ1).1.below b2 (Nat.le_refl _)
              have hM2 := (unhide HJ1).2.below b2 (Nat.le_refl _)
              have hB2 := (unhide HJ).2.2.trans (((unhide HY1).trans (b2.mono (unhide HY1).size)).mono (unhide HJ).2.2.size)
              clear HC2 x2 b2 j0 j1 j2
              go_upto_region 24 with fail
              generalize u2.alloc (.cells #[.string jnm, .int .i64 xj, .int .i64 jg] 34) = ub at *
              generalize u2.heap.size = bz at *
              have HJN : Hid (∀ Y, Below ub.heap.size ub Y → IsK Y (some ⟨eg, eo, none⟩) E15 ∧ IsMs Y g13 (toD d) (T.map (mvM d)) ∧ Below w.heap.size w Y) := hide fun Y hY => ⟨hJ2.below hY (Nat.le_refl _), hM2.below hY (Nat.le_refl _), hB2.trans (hY.mono hB2.size)⟩
              have d1 := (kx.cell 1).trans rfl
              have d2 := (ky.cell 1).trans rfl
              obtain ⟨r1, r2, hr, _, _, i1, i2⟩ := unhide HEi ub hJ2
              cases hr
              obtain ⟨r3, r4, hr, _, _, j1, j2⟩ := unhide HEj ub hJ2
              cases hr
              try dsimp only at i1 i2 j1 j2
              clear kx ky hJ2 hM2 hB2 HJ1 HKx HY1 HJ HEi HEj HXI
              by_cases cA : ig = jg
              · subst cA
                by_cases cB : ip ≤ jp
                · have tB : decide (ip ≤ jp) = true := decide_eq_true cB
                  have hx := (unhide HO).1 rfl cB
                  have tX : decide (xi > xj) = false := decide_eq_false (by omega)
                  have tX' : decide (xj < xi) = false := decide_eq_false (by omega)
                  clear hx
                  by_cases cP : ip = jp
                  · subst cP
                    by_cases cQ : ig = 1
                    · subst cQ
                      clear cB
                      clear HO
                      go_quiet (fail)
                      go_upto_region 26 with fail
                      go_quiet (fail)
                      go_wp2_with fail
                      go_roundw
                      case rel => exact ⟨⟨⟨_, rfl⟩, ⟨_, rfl⟩, ⟨_, rfl⟩, ⟨_, rfl⟩⟩, j + 1, by go_num, hlt2, hide (unhide HJN _ (below_drewN (Below.refl _ _) _))⟩
                      case measure => simp [intOf]; omega
                    · have tQ : (ig == 1) = false := by simpa using cQ
                      clear cB cQ
                      clear HO
                      go_quiet (fail)
                      go_upto_region 26 with fail
                      go_quiet (fail)
                      go_wp2_with fail
                      go_roundw
                      case rel => exact ⟨⟨⟨_, rfl⟩, ⟨_, rfl⟩, ⟨_, rfl⟩, ⟨_, rfl⟩⟩, j + 1, by go_num, hlt2, hide (unhide HJN _ (below_drewN (Below.refl _ _) _))⟩
                      case measure => simp [intOf]; omega
                  · have tP : (ip == jp) = false := by simpa using cP
                    clear cB cP
                    clear HO
                    go_quiet (fail)
                    go_upto_region 26 with fail
                    go_quiet (fail)
                    go_wp2_with fail
                    go_roundw
                    case rel => exact ⟨⟨⟨_, rfl⟩, ⟨_, rfl⟩, ⟨_, rfl⟩, ⟨_, rfl⟩⟩, j + 1, by go_num, hlt2, hide (unhide HJN _ (below_drewN (Below.refl _ _) _))⟩
                    case measure => simp [intOf]; omega
                · have tB : decide (ip ≤ jp) = false := decide_eq_false cB
                  have tP : (ip == jp) = false := by simp; omega
                  clear cB
                  clear HO
                  go_quiet (fail)
                  go_upto_region 26 with fail
                  go_quiet (fail)
                  go_wp2_with fail
                  go_roundw
                  case rel => exact ⟨⟨⟨_, rfl⟩, ⟨_, rfl⟩, ⟨_, rfl⟩, ⟨_, rfl⟩⟩, j + 1, by go_num, hlt2, hide (unhide HJN _ (below_drewN (Below.refl _ _) _))⟩
                  case measure => simp [intOf]; omega
              · have tA : (ig == jg) = false := by simpa using cA
                by_cases cP : ip = jp
                · subst cP
                  by_cases cQ : ig = 1
                  · subst cQ
                    by_cases cR : jg = 2
                    · subst cR
                      have hx := (unhide HO).2 rfl rfl rfl
                      have tX : decide (xi > xj) = false := decide_eq_false (by omega)
                      have tX' : decide (xj < xi) = false := decide_eq_false (by omega)
                      clear hx cA
                      clear HO
                      go_quiet (fail)
                      go_upto_region 26 with fail
                      go_quiet (fail)
                      go_wp2_with fail
                      go_roundw
                      case rel => exact ⟨⟨⟨_, rfl⟩, ⟨_, rfl⟩, ⟨_, rfl⟩, ⟨_, rfl⟩⟩, j + 1, by go_num, hlt2, hide (unhide HJN _ (below_drewN (Below.refl _ _) _))⟩
                      case measure => simp [intOf]; omega
                    · have tR : (jg == 2) = false := by simpa using cR
                      clear cR cA
                      clear HO
                      go_quiet (fail)
                      go_upto_region 26 with fail
                      go_quiet (fail)
                      go_wp2_with fail
                      go_roundw
                      case rel => exact ⟨⟨⟨_, rfl⟩, ⟨_, rfl⟩, ⟨_, rfl⟩, ⟨_, rfl⟩⟩, j + 1, by go_num, hlt2, hide (unhide HJN _ (below_drewN (Below.refl _ _) _))⟩
                      case measure => simp [intOf]; omega
                  · have tQ : (ig == 1) = false := by simpa using cQ
                    clear cQ cA
                    clear HO
                    go_quiet (fail)
                    go_upto_region 26 with fail
                    go_quiet (fail)
                    go_wp2_with fail
                    go_roundw
                    case rel => exact ⟨⟨⟨_, rfl⟩, ⟨_, rfl⟩, ⟨_, rfl⟩, ⟨_, rfl⟩⟩, j + 1, by go_num, hlt2, hide (unhide HJN _ (below_drewN (Below.refl _ _) _))⟩
                    case measure => simp [intOf]; omega
                · have tP : (ip == jp) = false := by simpa using cP
                  clear cP cA
                  clear HO
                  go_quiet (fail)
                  go_upto_region 26 with fail
                  go_quiet (fail)
                  go_wp2_with fail
                  go_roundw
                  case rel => exact ⟨⟨⟨_, rfl⟩, ⟨_, rfl⟩, ⟨_, rfl⟩, ⟨_, rfl⟩⟩, j + 1, by go_num, hlt2, hide (unhide HJN _ (below_drewN (Below.refl _ _) _))⟩
                  case measure => simp [intOf]; omega
            · obtain rfl : j = N := by omega
              have t2 : decide ((j : Int) < (j : Int)) = false := decide_eq_false (by omega)
              go_wp2_with fail
              go_roundw
              case rel => exact ⟨⟨⟨_, rfl⟩, ⟨_, rfl⟩, ⟨_, rfl⟩, ⟨_, rfl⟩, ⟨_, rfl⟩⟩, i + 1, by go_num, hlt, HJ⟩
              case measure => simp [intOf]; omega
        · obtain rfl : i = N := by omega
          have t1 : decide ((i : Int) < (i : Int)) = false := decide_eq_false (by omega)
          go_wp2_with fail
          refine bodyPost_ret (results_tmp rfl _ _ _) rfl ⟨rfl, (unhide HJ).2.2⟩
end Go.Proofs.Ytnnnilodknkadaa
