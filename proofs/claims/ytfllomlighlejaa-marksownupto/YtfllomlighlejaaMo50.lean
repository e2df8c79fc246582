/- Layer 15: MarksOwn's walk, second form (written by wip/tools/mlf.py). -/
import Derived.Test.YtfllomlighlejaaMo49

namespace Go.Proofs.Ytfllomlighlejaa
open Go.ChangeShapes Go.WideShapes Go.ChangeAt Go.RowKit
attribute [local go_sem] Oper.semAt_some

theorem MBeh_any (g : Nat) (n : Int) (L : List Mk) (a : Option Addr) (c : Nat) (d : List Dop) (X : World) (h : IsMs X g n L) (ho : IsO X a d) (hl : d.length ≤ 4611686018427387904) (hN : Unl L) :
    Calls Try.prog 7 #[.pointer (some ⟨g, 0, none⟩), .slice a d.length c] X fun y X' => ∃ r v, y = .returned (.tuple #[r, v]) ∧ Below X.heap.size X X' ∧ (((valB d = false ∨ (frD d : Int) ≠ n) ∧ r = .pointer none) ∨ (valB d = true ∧ (frD d : Int) = n ∧ ∃ (g' : Nat) (S : List Mk), r = .pointer (some ⟨g', 0, none⟩) ∧ S.Perm L ∧ IsMs X' g' (toD d) (S.map (mvM d)))) := by
  cases hv : valB d with
  | false => exact (MBehV_at g a c d X ho hl hv).mono fun y w ⟨e, b⟩ => ⟨_, _, e, b, .inl ⟨.inl rfl, rfl⟩⟩
  | true =>
    by_cases hf : (frD d : Int) = n
    · exact (MBeh_at g n L a c d X h ho hl hv hf hN).mono fun y w ⟨g', S, e, p, m, b⟩ => ⟨_, _, e, b, .inr ⟨rfl, hf, g', S, rfl, p, m⟩⟩
    · exact (MBehF_at g n L a c d X h ho hl hv hf).mono fun y w ⟨e, b⟩ => ⟨_, _, e, b, .inl ⟨.inr hf, rfl⟩⟩
/-- what both calls of Behind leave -/
def BothM (W : World) (d : List Dop) (n : Int) (L : List Mk) (r1 r2 : Value) (ex : List (Nat × Int × List Mk)) : Prop :=
  (∀ z ∈ ex, IsMs W z.1 z.2.1 z.2.2) ∧ (((valB d = false ∨ (frD d : Int) ≠ n) ∧ r1 = .pointer none ∧ r2 = .pointer none) ∨ (valB d = true ∧ (frD d : Int) = n ∧ ∃ (g' g'' : Nat) (S S' : List Mk), r1 = .pointer (some ⟨g', 0, none⟩) ∧ r2 = .pointer (some ⟨g'', 0, none⟩) ∧ S.Perm L ∧ S'.Perm L ∧ (g', (toD d : Int), S.map (mvM d)) ∈ ex ∧ (g'', (toD d : Int), S'.map (mvM d)) ∈ ex))
theorem both_make {W1 W2 : World} {d : List Dop} {n : Int} {L : List Mk} {r1 r2 : Value} (hb : Below W1.heap.size W1 W2)
    (h1 : ((valB d = false ∨ (frD d : Int) ≠ n) ∧ r1 = .pointer none) ∨ (valB d = true ∧ (frD d : Int) = n ∧ ∃ (g' : Nat) (S : List Mk), r1 = .pointer (some ⟨g', 0, none⟩) ∧ S.Perm L ∧ IsMs W1 g' (toD d) (S.map (mvM d))))
    (h2 : ((valB d = false ∨ (frD d : Int) ≠ n) ∧ r2 = .pointer none) ∨ (valB d = true ∧ (frD d : Int) = n ∧ ∃ (g' : Nat) (S : List Mk), r2 = .pointer (some ⟨g', 0, none⟩) ∧ S.Perm L ∧ IsMs W2 g' (toD d) (S.map (mvM d)))) :
    ∃ ex, BothM W2 d n L r1 r2 ex := by
  rcases h1 with ⟨b1, e1⟩ | ⟨v1, f1, g1, S1, e1, p1, m1⟩
  · rcases h2 with ⟨b2, e2⟩ | ⟨v2, f2, _⟩
    · exact ⟨[], fun z hz => by simp at hz, .inl ⟨b1, e1, e2⟩⟩
    · rcases b1 with b1 | b1
      · rw [v2] at b1; cases b1
      · exact absurd f2 b1
  · rcases h2 with ⟨b2, e2⟩ | ⟨v2, f2, g2, S2, e2, p2, m2⟩
    · rcases b2 with b2 | b2
      · rw [v1] at b2; cases b2
      · exact absurd f1 b2
    · refine ⟨[(g1, (toD d : Int), S1.map (mvM d)), (g2, (toD d : Int), S2.map (mvM d))], fun z hz => ?_, .inr ⟨v1, f1, g1, g2, S1, S2, e1, e2, p1, p2, by simp, by simp⟩⟩
      rcases List.mem_cons.1 hz with rfl | hz
      · exact m1.below hb (Nat.le_refl _)
      · rw [List.mem_singleton.1 hz]; exact m2
theorem own_isOv {W : World} {B g c : Nat} {d : List Dop} (h : W.ownsRow B 50 3 (.slice (some ⟨g, 0, none⟩) d.length c) d.length (opsV d)) : IsO W (some ⟨g, 0, none⟩) d := by
  obtain ⟨_, _, e, hi, _⟩ := own_isO h
  cases e
  exact hi
theorem own_isKv {W : World} {B c : Nat} {a : Option Addr} {d : List Mk} (h : W.ownsRow B 42 3 (.slice a d.length c) d.length (mksV d)) : IsK W a d := by
  obtain ⟨_, _, e, hi, _⟩ := own_isK h
  cases e
  exact hi
/-- both states and the document's in its block, over the rows -/
structure OgM (W : World) (B8 g : Nat) (n : Int) (L : List Mk) (a : Option Addr) (c : Nat) (D : List Mk) : Prop where
  s : StM W g n L a D
  k : Cls W B8 29 #[.int .i64 n, .slice a D.length c]
theorem OgM.on3 {W Y : World} {B8 g : Nat} {n : Int} {L : List Mk} {a : Option Addr} {c : Nat} {D : List Mk} (h : OgM W B8 g n L a c D) (hb : Below W.heap.size W Y) : OgM Y B8 g n L a c D := ⟨h.s.below hb, h.k.below hb h.k.lt⟩
set_option maxRecDepth 100000 in
set_option maxHeartbeats 8000000 in
theorem MarksOwn_any (n : Int) (A : Option Addr) (cp : Nat) (l : List Ac) (ad : Option Addr) (cd : Nat) (d : List Dop) (w : World) (_hn : (Lit.int .i64 n).wf = true) (hA : IsAc w A l) (hl : l.length ≤ 1048576) (ho : IsO w ad d) (hz : d = [] ∨ ∃ q, ad = some q) (hdl : d.length ≤ 1048576) (_ht : ∀ o ∈ d, TbD o ∧ o.t.length ≤ 1048576) :
    Calls Try.prog 4 #[.int .i64 n, .slice A l.length cp, .slice ad d.length cd] w fun y w' => y = .returned (.bool true) ∧ Below w.heap.size w w' := by
  have HX0 := hide (Below.refl w.heap.size w)
  have HAw := hide (awake15_at w)
  have HAB := hide fun (Y : World) (hY : Below w.heap.size w Y) => (show IsAc Y A l from ⟨fun y hy => (hA.1 y hy).below hY, hA.2.imp id fun ⟨g, off, e, hg, hc⟩ => ⟨g, off, e, Nat.lt_of_lt_of_le hg hY.size, fun k hk j hj => (hY.cell (p := ⟨g, off + k * 5 + j, none⟩) hg).trans (hc k hk j hj)⟩⟩)
  have HCP := hide fun (Y : World) (hY : Below w.heap.size w Y) => copy_op Y ad cd d 24 (ho.below hY (Nat.le_refl _)) hz (by omega)
  have hdl2 : d.length ≤ 4611686018427387904 := by omega
  have HOt := hide fun (Y : World) (hY : Below w.heap.size w Y) => ho.below hY (Nat.le_refl _)
  have HTB := hide fun (o : Dop) (ho : o ∈ d) => (_ht o ho).1
  have htx : txD d ≤ 1099511627776 := by
    have h1 := txD_le (d := d) (fun o ho => (_ht o ho).2)
    have h3 : d.length * 1048576 ≤ 1048576 * 1048576 := Nat.mul_le_mul_right _ hdl
    omega
  clear hA _hn ho hz _ht
  by_cases hr : 0 ≤ n ∧ n ≤ 268435456
  case neg =>
    have HPl := hide fun (Y : World) => playedE_at n A cp l.length Y hr
    have ht : (decide (n < 0) = true) ∨ (decide (n < 0) = false ∧ decide (n > 268435456) = true ∧ decide (268435456 < n) = true) := by
      by_cases h1 : n < 0
      · exact .inl (decide_eq_true h1)
      · exact .inr ⟨decide_eq_false h1, decide_eq_true (by omega), decide_eq_true (by omega)⟩
    clear hr
    rcases ht with t1 | ⟨t1, t2, t2'⟩
    all_goals
      go_enter Try.func4, Try.ntmps4
      go_wp2_with fail
      refine (unhide HAw).mono ?_
      rintro y w1 ⟨rfl, x1⟩
      dsimp only
      have HX1 := hide ((unhide HX0).trans (x1.mono (unhide HX0).size))
      have HC2 := hide (unhide HPl w1)
      clear HAw HPl HX0 x1
      go_wp2_with fail
      refine (unhide HC2).mono ?_
      rintro y w2 ⟨rfl, x2⟩
      dsimp only
      have hx2 := (unhide HX1).trans (x2.mono (unhide HX1).size)
      have HX2 := hide (hx2.alloc hx2.size (.cells #[.int .i64 n, .slice none 0 0] 29))
      clear HC2 HX1 x2 hx2
      go_wp2_with fail
      refine bodyPost_ret (results_tmp rfl _ _ _) rfl ⟨rfl, unhide HX2⟩
  have HPl := hide fun (Y : World) (hY : Below w.heap.size w Y) => played_at n A cp l Y (unhide HAB Y hY) hl hr
  clear hr HAB
  go_enter Try.func4, Try.ntmps4
  go_wp2_with fail
  refine (unhide HAw).mono ?_
  rintro y w1 ⟨rfl, x1⟩
  dsimp only
  have HX1 := hide ((unhide HX0).trans (x1.mono (unhide HX0).size))
  have HC2 := hide (unhide HPl w1 (unhide HX1))
  clear HAw HPl HX0 x1
  go_wp2_with fail
  refine (unhide HC2).mono ?_
  rintro y w2 ⟨g1, n1, L1, a1, c1, D, rfl, s2, x2⟩
  dsimp only
  have hx2 := (unhide HX1).trans (x2.mono (unhide HX1).size)
  have b3 := (Below.refl w2.heap.size w2).alloc (Nat.le_refl _) (.cells #[.int .i64 n1, .slice a1 D.length c1] 29)
  have HX3 := hide (hx2.trans (b3.mono hx2.size))
  have HS3 : Hid (OgM (w2.alloc (.cells #[.int .i64 n1, .slice a1 D.length c1] 29)) w2.heap.size g1 n1 L1 a1 c1 D) := hide ⟨s2.below b3, Cls.new w2 29 _⟩
  clear HC2 HX1 s2 x2 hx2 b3
  go_upto_region 6 with fail
  generalize w2.alloc (.cells #[.int .i64 n1, .slice a1 D.length c1] 29) = W3 at *
  generalize w2.heap.size = B8 at *
  obtain ⟨vc, wc, rc, oc, xc⟩ := unhide HCP W3 (unhide HX3)
  obtain ⟨ac, cc, hvc, _, _⟩ := own_isO oc
  subst hvc
  obtain ⟨gd, kd2, wf, rp, op, _, bp⟩ := push_op wc W3.heap.size d.length (.slice ac d.length cc) (opsV d) 9 (-7) ⟨#[]⟩ 24 oc (by omega) xc.size
  have hk2 : d.length + 1 ≤ kd2 := by
    rcases op.2 with ⟨e, _⟩ | ⟨_, _, _, e, _, _, hk, _⟩
    · cases e
    · cases e; exact hk
  have R1 := hide rc
  have R2 := hide rp
  have HXF := hide (xc.trans (bp.mono (Nat.le_refl _)))
  have HOF := hide op
  clear rc oc xc rp op bp HCP
  have hk3 : d.length ≤ kd2 := by omega
  have hk4 : (d.length : Int) ≤ (kd2 : Int) := by omega
  have hk5 : d.length ≤ d.length + 1 := by omega
  go_wp2_with (at_builtin; first | (refine wpList_append_known rfl _ _ 24 24 rfl _ _ rfl rfl _ _ (unhide R1) ?_; clear R1) | (refine wpList_append_known rfl _ _ 24 24 rfl _ _ rfl rfl _ _ (unhide R2) ?_; clear R2))
  have HSF := hide ((unhide HS3).on3 (unhide HXF))
  have HIO := hide fun (Y : World) (hY : Below wf.heap.size wf Y) => own_isOv (rwk_cut (rowD_below (unhide HOF) hY (Nat.le_refl _)) (opsV_lenM d) (by simp))
  have HL1 := hide (MList_at g1 n1 L1 wf (unhide HSF).s.m (unhide HSF).s.len)
  refine (unhide HL1).mono ?_
  rintro y u1 ⟨a5, c5, E5, rfl, p5, s5, o5, x1⟩
  dsimp only
  have e5 : D = E5 := ((unhide HSF).s.list p5 s5).symm
  subst e5
  have HS1 := hide ((unhide HSF).on3 x1)
  have HO5 := hide o5
  have HB1 := hide x1
  have HL2 := hide (MList_at g1 n1 L1 u1 (unhide HS1).s.m (unhide HS1).s.len)
  clear HL1 p5 s5 o5 x1 HSF
  go_wp2_with fail
  refine (unhide HL2).mono ?_
  rintro y u2 ⟨a6, c6, E6, rfl, p6, s6, o6, x2⟩
  dsimp only
  have e6 : D = E6 := ((unhide HS1).s.list p6 s6).symm
  subst e6
  have HS2 := hide ((unhide HS1).on3 x2)
  have HO6 := hide o6
  have HB2 := hide ((unhide HB1).trans (x2.mono (unhide HB1).size))
  have HX2 := hide x2
  have HL3 := hide (MBeh_any g1 n1 L1 (some ⟨gd, 0, none⟩) kd2 d u2 (unhide HS2).s.m (unhide HIO u2 (unhide HB2)) hdl2 (Unl.perm (unhide HS2).s.r.u (unhide HS2).s.r.p))
  clear HL2 p6 s6 o6 x2 HS1
  go_wp2_with fail
  refine (unhide HL3).mono ?_
  rintro y u3 ⟨rc, vc3, rfl, x3, hc3⟩
  dsimp only
  have HS3' := hide ((unhide HS2).on3 x3)
  have HB3 := hide ((unhide HB2).trans (x3.mono (unhide HB2).size))
  have HX3' := hide x3
  have HCc := hide hc3
  have HL4 := hide (MBeh_any g1 n1 L1 (some ⟨gd, 0, none⟩) kd2 d u3 (unhide HS3').s.m (unhide HIO u3 (unhide HB3)) hdl2 (Unl.perm (unhide HS3').s.r.u (unhide HS3').s.r.p))
  clear HL3 x3 hc3 HS2
  go_wp2_with fail
  refine (unhide HL4).mono ?_
  rintro y u4 ⟨re, vc4, rfl, x4, hc4⟩
  dsimp only
  have HS4 := hide ((unhide HS3').on3 x4)
  have HB4 := hide ((unhide HB3).trans (x4.mono (unhide HB3).size))
  have HX4' := hide x4
  obtain ⟨ex, hex⟩ := both_make x4 (unhide HCc) hc4
  have HEX := hide hex
  have HL5 := hide (MBtw_at g1 n1 L1 0 n u4 (unhide HS4).s.m (unhide HS4).s.len)
  clear HL4 x4 hc4 HS3' HCc hex
  go_wp2_with fail
  refine (unhide HL5).mono ?_
  rintro y u5 ⟨a7, c7, E7, rfl, p7, _, o7, x5⟩
  dsimp only
  have hE7 : E7.length ≤ 1073741824 := by rw [p7.length_eq]; exact Nat.le_trans (List.length_filter_le _ _) (Nat.le_trans (unhide HS4).s.len (by decide))
  have HS5 := hide ((unhide HS4).on3 x5)
  have HB5 := hide ((unhide HB4).trans (x5.mono (unhide HB4).size))
  have HO7 := hide o7
  have HX5' := hide x5
  have HF5 := hide (rowD_below (unhide HOF) (unhide HB5) (Nat.le_refl _))
  have d9 := (rwk_cell (unhide HF5) (d.length * 3) (by omega)).1
  have d10 := (rwk_cell (unhide HF5) (d.length * 3 + 1) (by omega)).1
  have d11 := (rwk_cell (unhide HF5) (d.length * 3 + 2) (by omega)).1
  rw [List.getElem?_append_right (by rw [opsV_lenM]; omega), opsV_lenM] at d9 d10 d11
  rw [Nat.sub_self] at d9
  rw [Nat.add_sub_cancel_left] at d10 d11
  simp only [List.getElem?_cons_zero, List.getElem?_cons_succ] at d9 d10 d11
  have HL6 := hide (RSame14_at (some ⟨gd, 0, none⟩) kd2 d ad cd d u5 (unhide HIO u5 (unhide HB5)) (unhide HOt u5 (((unhide HX3).trans ((unhide HXF).mono (unhide HX3).size)).trans ((unhide HB5).mono (Nat.le_trans (unhide HX3).size (unhide HXF).size)))) hdl2 hdl2 (unhide HTB) (unhide HTB))
  rw [decide_eq_true (rfl : d = d)] at HL6
  clear HL5 p7 o7 x5 HS4
  go_wp2_with fail
  refine (unhide HL6).mono ?_
  rintro y u6 ⟨rfl, x6⟩
  dsimp only
  have HT0 : Hid (OwM W3 u6 (.slice a5 D.length c5) (.slice a6 D.length c6) (.slice a7 E7.length c7) (.slice (some ⟨gd, 0, none⟩) (d.length + 1) kd2) D.length E7.length (d.length + 1) D ex) := by
    have b1 := unhide HB1
    have b2 := unhide HB2
    have b5 := (unhide HB5).trans (x6.mono (unhide HB5).size)
    have z1 := (unhide HX2).trans ((unhide HX3').mono (unhide HX2).size)
    have z2 := z1.trans ((unhide HX4').mono z1.size)
    have z3 := z2.trans ((unhide HX5').mono z2.size)
    have z4 := z3.trans (x6.mono z3.size)
    have y1 := (unhide HX3').trans ((unhide HX4').mono (unhide HX3').size)
    have y2 := y1.trans ((unhide HX5').mono y1.size)
    have y3 := y2.trans (x6.mono y2.size)
    have q1 := (unhide HX5').trans (x6.mono (unhide HX5').size)
    have f := unhide HXF
    exact hide ⟨⟨_, rowM_base (rowD_below (unhide HO5) z4 (Nat.le_refl _)) f.size⟩, rowM_base (rowD_below (unhide HO6) y3 (Nat.le_refl _)) (Nat.le_trans f.size b1.size), ⟨_, rowM_base (rowD_below (unhide HO7) x6 (Nat.le_refl _)) (Nat.le_trans f.size (unhide HB4).size)⟩, ⟨_, rowD_below (unhide HF5) x6 (Nat.le_refl _)⟩,
      nb_age (unhide HO5) (Nat.le_refl _) (unhide HO6) (Nat.le_refl _), nb_age (unhide HO5) z2.size (unhide HO7) (Nat.le_refl _), nb_age (unhide HO6) y1.size (unhide HO7) (Nat.le_refl _),
      f.trans (b5.mono f.size), fun z hz => ((unhide HEX).1 z hz).below q1 (Nat.le_refl _)⟩
  have HEY := hide (unhide HEX).2
  have hDl : D.length ≤ 1024 := (unhide HS5).s.l
  clear HL6 HO5 HO6 HO7 HB1 HB2 HB3 HB4 HB5 HX2 HX3' HX4' HX5' HF5 HOF HIO HEX HS5 x6 d9 d10 d11 hk2 hk3 hk4 hk5
  have hnd : D.length ≤ 1073741824 := Nat.le_trans hDl (by decide)
  have hnf : d.length + 1 ≤ 1073741824 := by omega
  generalize E7.length = nm at *
  generalize hnfe : d.length + 1 = nf at *
  clear hnfe
  go_wp2_with fail
  go_loopw [17, 88] (fun vv vk wx => (∃ z, vv = z) ∧ ∃ k : Nat, vk = .int .i64 (k : Int) ∧ k ≤ D.length ∧ Hid (OwM W3 wx (.slice a5 D.length c5) (.slice a6 D.length c6) (.slice a7 nm c7) (.slice (some ⟨gd, 0, none⟩) nf kd2) D.length nm nf D ex)) (fun _ vk _ => D.length - (intOf vk).toNat)
  case atStart => exact ⟨⟨_, rfl⟩, 0, rfl, Nat.zero_le _, hide (unhide HT0)⟩
  case round =>
    obtain ⟨⟨zz, rfl⟩, k, rfl, hk, HT⟩ := hrel
    by_cases hlk : k < D.length
    · have p1 : decide ((k : Int) < (D.length : Int)) = true := decide_eq_true (by omega)
      obtain ⟨rs, hrs⟩ := (unhide HT).a
      obtain ⟨gx, rfl⟩ : ∃ gx, a5 = some ⟨gx, 0, none⟩ := by
        rcases hrs.2 with ⟨_, h0⟩ | ⟨gx, _, _, e, _⟩
        · omega
        · injection e with e1 e2 e3
          exact ⟨gx, e1⟩
      obtain ⟨⟨⟨ob0, so0⟩, sf0, ⟨ob1, so1⟩, sf1, ⟨ob2, so2⟩, sf2⟩, _⟩ := row_steps3 hrs hlk (.string ⟨#[115, 112, 111, 105, 108, 116]⟩) (.int .i64 0) (.int .i64 0)
      have HTn := hide ((unhide HT).seta (i := k) (.string ⟨#[115, 112, 111, 105, 108, 116]⟩) (.int .i64 0) (.int .i64 0))
      have hkb : k ≤ 1073741824 := Nat.le_trans hk hnd
      clear HT hrs
      go_wp2_with fail
      go_roundw
      case rel => exact ⟨⟨_, rfl⟩, k + 1, by go_num, hlk, hide (unhide HTn)⟩
      case measure => simp [intOf]; omega
    · have hkk : D.length = k := by omega
      subst hkk
      have p1 : decide ((D.length : Int) < (D.length : Int)) = false := decide_eq_false (by omega)
      have HT1 := HT
      clear hlk hk HT
      go_wp2_with fail
      go_loopw [18, 98] (fun vv vk wx => (∃ z, vv = z) ∧ ∃ k : Nat, vk = .int .i64 (k : Int) ∧ k ≤ nm ∧ Hid (OwM W3 wx (.slice a5 D.length c5) (.slice a6 D.length c6) (.slice a7 nm c7) (.slice (some ⟨gd, 0, none⟩) nf kd2) D.length nm nf D ex)) (fun _ vk _ => nm - (intOf vk).toNat)
      case atStart => exact ⟨⟨_, rfl⟩, 0, rfl, Nat.zero_le _, hide (unhide HT1)⟩
      case round =>
        obtain ⟨⟨zz, rfl⟩, k, rfl, hk, HT⟩ := hrel
        by_cases hlk : k < nm
        · have p1 : decide ((k : Int) < (nm : Int)) = true := decide_eq_true (by omega)
          obtain ⟨rs, hrs⟩ := (unhide HT).m
          obtain ⟨gx, rfl⟩ : ∃ gx, a7 = some ⟨gx, 0, none⟩ := by
            rcases hrs.2 with ⟨_, h0⟩ | ⟨gx, _, _, e, _⟩
            · omega
            · injection e with e1 e2 e3
              exact ⟨gx, e1⟩
          obtain ⟨⟨⟨ob0, so0⟩, sf0, ⟨ob1, so1⟩, sf1, ⟨ob2, so2⟩, sf2⟩, _⟩ := row_steps3 hrs hlk (.string ⟨#[115, 112, 111, 105, 108, 116]⟩) (.int .i64 0) (.int .i64 0)
          have HTn := hide ((unhide HT).setm (i := k) (.string ⟨#[115, 112, 111, 105, 108, 116]⟩) (.int .i64 0) (.int .i64 0))
          have hkb : k ≤ 1073741824 := Nat.le_trans hk hE7
          clear HT hrs
          go_wp2_with fail
          go_roundw
          case rel => exact ⟨⟨_, rfl⟩, k + 1, by go_num, hlk, hide (unhide HTn)⟩
          case measure => simp [intOf]; omega
        · have hkk : nm = k := by omega
          subst hkk
          have p1 : decide ((nm : Int) < (nm : Int)) = false := decide_eq_false (by omega)
          have HT2 := HT
          clear hlk hk HT
          go_wp2_with fail
          go_loopw [10, 19] (fun v10 v19 wx => ∃ k : Nat, v19 = .int .i64 (k : Int) ∧ k ≤ 40 ∧ Hid (OwM W3 wx v10 (.slice a6 D.length c6) (.slice a7 nm c7) (.slice (some ⟨gd, 0, none⟩) nf kd2) (D.length + k) nm nf D ex)) (fun _ v19 _ => 40 - (intOf v19).toNat)
          case atStart => exact ⟨0, rfl, Nat.zero_le _, hide (unhide HT2)⟩
          case round =>
            obtain ⟨k, rfl, hk, HT⟩ := hrel
            by_cases hlk : k < 40
            · have p1 : decide ((k : Int) < 40) = true := decide_eq_true (by omega)
              obtain ⟨vx', W1, r1, h1⟩ := (unhide HT).pusha ⟨#[103, 114, 111, 119, 110]⟩ (by omega)
              have R1 := hide r1
              have HTn := hide h1
              clear HT r1 h1
              go_wp2_with (at_builtin; refine wpList_append_known rfl _ _ 27 27 rfl _ _ rfl rfl _ _ (unhide R1) ?_; clear R1)
              go_roundw
              case rel => exact ⟨k + 1, by go_num, hlk, hide (unhide HTn)⟩
              case measure => simp [intOf]; omega
            · obtain rfl : k = 40 := by omega
              have p1 : decide (((40 : Nat) : Int) < 40) = false := by decide
              have HT3 := HT
              clear hlk hk HT
              go_wp2_with fail
              go_loopw [20, 116] (fun vv vk wx => (∃ z, vv = z) ∧ ∃ k : Nat, vk = .int .i64 (k : Int) ∧ k ≤ nf ∧ Hid (OwM W3 wx u10 (.slice a6 D.length c6) (.slice a7 nm c7) (.slice (some ⟨gd, 0, none⟩) nf kd2) (D.length + 40) nm nf D ex)) (fun _ vk _ => nf - (intOf vk).toNat)
              case atStart => exact ⟨⟨_, rfl⟩, 0, rfl, Nat.zero_le _, hide (unhide HT3)⟩
              case round =>
                obtain ⟨⟨zz, rfl⟩, k, rfl, hk, HT⟩ := hrel
                by_cases hlk : k < nf
                · have p1 : decide ((k : Int) < (nf : Int)) = true := decide_eq_true (by omega)
                  obtain ⟨rs, hrs⟩ := (unhide HT).f
                  obtain ⟨⟨⟨ob0, so0⟩, sf0, ⟨ob1, so1⟩, sf1, ⟨ob2, so2⟩, sf2⟩, _⟩ := row_steps3 hrs hlk (.int .i64 0) (.int .i64 0) (.string ⟨#[]⟩)
                  have HTn := hide ((unhide HT).setf (i := k) (.int .i64 0) (.int .i64 0) (.string ⟨#[]⟩))
                  have hkb : k ≤ 1073741824 := Nat.le_trans hk hnf
                  clear HT hrs
                  go_wp2_with fail
                  go_roundw
                  case rel => exact ⟨⟨_, rfl⟩, k + 1, by go_num, hlk, hide (unhide HTn)⟩
                  case measure => simp [intOf]; omega
                · have hkk : nf = k := by omega
                  subst hkk
                  have p1 : decide ((nf : Int) < (nf : Int)) = false := decide_eq_false (by omega)
                  have HT4 := HT
                  clear hlk hk HT
                  have HSW := hide ((unhide HS3).on3 (unhide HT4).o)
                  have HC := hide (MSet_any g1 n1 L1 ⟨⟨#[110, 101, 119]⟩, 0, 1⟩ wr (unhide HSW).s.m)
                  unfold mkV at HC
                  dsimp only at HC
                  go_wp2_with fail
                  refine (unhide HC).mono ?_
                  rintro y wa ⟨⟨vs, rfl⟩, xa⟩
                  dsimp only
                  have HTa := hide ((unhide HT4).on xa)
                  have HSa := hide ((unhide HSW).on3 xa)
                  clear HC HT4 HSW xa
                  go_upto_if 129 with fail
                  go_cut [130] (fun _ wz => Hid (OwM W3 wz u10 (.slice a6 D.length c6) (.slice a7 nm c7) (.slice (some ⟨gd, 0, none⟩) nf kd2) (D.length + 40) nm nf D ex))
                  case first =>
                    by_cases hD : D.length = 0
                    · have t1 : decide ((D.length : Int) > 0) = false := decide_eq_false (by omega)
                      have t2 : decide ((0 : Int) < (D.length : Int)) = false := decide_eq_false (by omega)
                      have t3 : decide (0 < D.length) = false := decide_eq_false (by omega)
                      clear HSa
                      go_wp2_with fail
                      go_meet
                      exact hide (unhide HTa)
                    · have h0 : 0 < D.length := by omega
                      have t0 : (0 : Int) < (D.length : Int) := by omega
                      have t1 : decide ((D.length : Int) > 0) = true := decide_eq_true (by omega)
                      have t2 : decide ((0 : Int) < (D.length : Int)) = true := decide_eq_true (by omega)
                      have t3 : decide (0 < D.length) = true := decide_eq_true h0
                      obtain ⟨gb, ob, hga, _, c0, _, _⟩ := (own_isKv (unhide HTa).b).three h0
                      subst hga
                      have HC := hide (MDrop_any g1 n1 L1 (D.getD 0 mkZ).n wa (unhide HSa).s.m)
                      simp only [Nat.zero_mul, Nat.add_zero] at c0
                      generalize (D.getD 0 mkZ).n = nm0 at *
                      clear HSa
                      go_wp2_with fail
                      refine (unhide HC).mono ?_
                      rintro y wb ⟨⟨vs2, rfl⟩, xb⟩
                      dsimp only
                      have HTb := hide ((unhide HTa).on xb)
                      clear HC HTa xb c0
                      go_wp2_with fail
                      go_meet
                      exact hide (unhide HTb)
                  case rest =>
                    have HTr := hcut
                    clear HTa HSa hcut
                    rcases unhide HEY with ⟨hbad, rfl, rfl⟩ | ⟨hv, hf, g', g'', S, S', rfl, rfl, pS, pS', hm1, hm2⟩
                    · clear HEY
                      skip
                      have hT := (unhide HTr).on (Below.refl wc.heap.size wc).drew
                      have HY0 := hide hT
                      have HG0 := hide ((unhide HS3).on3 hT.o)
                      have HC := hide (RSameK_at a6 c6 a1 c1 D wc.drew (own_isKv hT.b) (unhide HG0).s.k (Nat.le_trans (unhide HG0).s.l (by decide)))
                      clear hT HTr
                      go_upto_region 35 with fail
                      refine regionL (S := fun z => z.cell? ⟨B8, 0, none⟩ = some (.int .i64 n1) ∧ z.cell? ⟨B8, 1, none⟩ = some (.slice a1 D.length c1)) (fun _ => false) (by kernel_rfl) ?_
                      generalize wc.drew = zz0 at *
                      refine anyL_take (i := 0) (v := ?vr3500) rfl (by kernel_rfl) (by kernel_rfl) (by kernel_rfl) (by kernel_rfl) (fun _ _ _ h => h) (Or.inl ⟨by rfl, ?hr3500⟩) ((unhide HG0).k.two) ?_
                      case hr3500 => (intro w hSw; (try dsimp only at hSw); go_simp) <;> with_reducible rfl
                      simp only [Act.put, List.getElem_toArray, List.getElem_cons_zero, List.setIfInBounds_toArray, List.set_cons_zero, List.set_cons_succ]
                      refine anyL_take (i := 1) (v := ?vr3501) rfl (by kernel_rfl) (by kernel_rfl) (by kernel_rfl) (by kernel_rfl) (fun _ _ _ h => h) (Or.inl ⟨by rfl, ?hr3501⟩) ((unhide HG0).k.two) ?_
                      case hr3501 => (intro w hSw; (try dsimp only at hSw); go_simp) <;> with_reducible rfl
                      simp only [Act.put, List.getElem_toArray, List.getElem_cons_zero, List.getElem_cons_succ, List.setIfInBounds_toArray, List.set_cons_zero, List.set_cons_succ]
                      refine anyL_take (i := 2) (v := ?vr3502) rfl (by kernel_rfl) (by kernel_rfl) (by kernel_rfl) (by kernel_rfl) (fun _ _ _ h => h) (Or.inl ⟨by rfl, ?hr3502⟩) ((unhide HG0).k.two) ?_
                      case hr3502 => (intro w hSw; (try dsimp only at hSw); go_simp) <;> with_reducible rfl
                      simp only [Act.put, List.getElem_toArray, List.getElem_cons_zero, List.getElem_cons_succ, List.setIfInBounds_toArray, List.set_cons_zero, List.set_cons_succ]
                      refine anyL_ready (rs := [3]) (by kernel_rfl) (by simp) ?_
                      refine AllL.cons rfl (fun K hK => ?_) AllL.nil
                      go_simp
                      refine (unhide HC).mono ?_
                      rintro y z1 ⟨rfl, x1⟩
                      have HY1 := hide ((unhide HY0).on x1)
                      have HG1 := hide ((unhide HG0).on3 x1)
                      clear HC
                      have HC := hide (MList_at g1 n1 L1 z1 (unhide HG1).s.m (unhide HG1).s.len)
                      clear x1 HY0 HG0
                      refine unhide hK _ _ (fun _ => (unhide HG1).k.two) ?_
                      clear hK K
                      refine anyL_take (i := 4) (v := ?vr3503) rfl (by kernel_rfl) (by kernel_rfl) (by kernel_rfl) (by kernel_rfl) (fun _ _ _ h => h) (Or.inl ⟨by rfl, ?hr3503⟩) ((unhide HG1).k.two) ?_
                      case hr3503 => (intro w hSw; (try dsimp only at hSw); go_simp) <;> with_reducible rfl
                      simp only [Act.put, List.getElem_toArray, List.getElem_cons_zero, List.getElem_cons_succ, List.setIfInBounds_toArray, List.set_cons_zero, List.set_cons_succ]
                      refine anyL_take (i := 5) (v := ?vr3504) rfl (by kernel_rfl) (by kernel_rfl) (by kernel_rfl) (by kernel_rfl) (fun _ _ _ h => h) (Or.inl ⟨by rfl, ?hr3504⟩) ((unhide HG1).k.two) ?_
                      case hr3504 => (intro w hSw; (try dsimp only at hSw); go_simp) <;> with_reducible rfl
                      simp only [Act.put, List.getElem_toArray, List.getElem_cons_zero, List.getElem_cons_succ, List.setIfInBounds_toArray, List.set_cons_zero, List.set_cons_succ]
                      refine anyL_take (i := 6) (v := ?vr3505) rfl (by kernel_rfl) (by kernel_rfl) (by kernel_rfl) (by kernel_rfl) (fun _ _ _ h => h) (Or.inl ⟨by rfl, ?hr3505⟩) ((unhide HG1).k.two) ?_
                      case hr3505 => (intro w hSw; (try dsimp only at hSw); go_simp) <;> with_reducible rfl
                      simp only [Act.put, List.getElem_toArray, List.getElem_cons_zero, List.getElem_cons_succ, List.setIfInBounds_toArray, List.set_cons_zero, List.set_cons_succ]
                      refine anyL_take (i := 8) (v := ?vr3506) rfl (by kernel_rfl) (by kernel_rfl) (by kernel_rfl) (by kernel_rfl) (fun _ _ _ h => h) (Or.inl ⟨by rfl, ?hr3506⟩) ((unhide HG1).k.two) ?_
                      case hr3506 => (intro w hSw; (try dsimp only at hSw); go_simp) <;> with_reducible rfl
                      simp only [Act.put, List.getElem_toArray, List.getElem_cons_zero, List.getElem_cons_succ, List.setIfInBounds_toArray, List.set_cons_zero, List.set_cons_succ]
                      refine anyL_take (i := 9) (v := ?vr3507) rfl (by kernel_rfl) (by kernel_rfl) (by kernel_rfl) (by kernel_rfl) (fun _ _ _ h => h) (Or.inl ⟨by rfl, ?hr3507⟩) ((unhide HG1).k.two) ?_
                      case hr3507 => (intro w hSw; (try dsimp only at hSw); go_simp) <;> with_reducible rfl
                      simp only [Act.put, List.getElem_toArray, List.getElem_cons_zero, List.getElem_cons_succ, List.setIfInBounds_toArray, List.set_cons_zero, List.set_cons_succ]
                      refine anyL_ready (rs := [7]) (by kernel_rfl) (by simp) ?_
                      refine AllL.cons rfl (fun K hK => ?_) AllL.nil
                      go_simp
                      refine (unhide HC).mono ?_
                      rintro y z2 ⟨a8, c8, E8, rfl, p8, s8, o8, x1⟩
                      have HY2 := hide ((unhide HY1).on x1)
                      have HG2 := hide ((unhide HG1).on3 x1)
                      have e8 : D = E8 := ((unhide HG1).s.list p8 s8).symm
                      subst e8
                      clear HC
                      have HC := hide (RSameK_at a8 c8 a1 c1 D z2 (own_isKv o8) (unhide HG2).s.k (Nat.le_trans (unhide HG2).s.l (by decide)))
                      clear p8 s8 o8
                      clear x1 HY1 HG1
                      refine unhide hK _ _ (fun _ => (unhide HG2).k.two) ?_
                      clear hK K
                      refine anyL_ready (rs := [10]) (by kernel_rfl) (by simp) ?_
                      refine AllL.cons rfl (fun K hK => ?_) AllL.nil
                      go_simp
                      refine (unhide HC).mono ?_
                      rintro y z3 ⟨rfl, x1⟩
                      have HY3 := hide ((unhide HY2).on x1)
                      have HG3 := hide ((unhide HG2).on3 x1)
                      clear HC
                      have HC := hide (MLen_at g1 n1 L1 z3 (unhide HG3).s.m)
                      clear x1 HY2 HG2
                      refine unhide hK _ _ (fun _ => (unhide HG3).k.two) ?_
                      clear hK K
                      refine anyL_take (i := 11) (v := ?vr3508) rfl (by kernel_rfl) (by kernel_rfl) (by kernel_rfl) (by kernel_rfl) (fun _ _ _ h => h) (Or.inl ⟨by rfl, ?hr3508⟩) ((unhide HG3).k.two) ?_
                      case hr3508 => (intro w hSw; (try dsimp only at hSw); go_simp) <;> with_reducible rfl
                      simp only [Act.put, List.getElem_toArray, List.getElem_cons_zero, List.getElem_cons_succ, List.setIfInBounds_toArray, List.set_cons_zero, List.set_cons_succ]
                      refine anyL_take (i := 12) (v := ?vr3509) rfl (by kernel_rfl) (by kernel_rfl) (by kernel_rfl) (by kernel_rfl) (fun _ _ _ h => h) (Or.inl ⟨by rfl, ?hr3509⟩) ((unhide HG3).k.two) ?_
                      case hr3509 => (intro w hSw; (try dsimp only at hSw); go_simp) <;> with_reducible rfl
                      simp only [Act.put, List.getElem_toArray, List.getElem_cons_zero, List.getElem_cons_succ, List.setIfInBounds_toArray, List.set_cons_zero, List.set_cons_succ]
                      refine anyL_take (i := 13) (v := ?vr35010) rfl (by kernel_rfl) (by kernel_rfl) (by kernel_rfl) (by kernel_rfl) (fun _ _ _ h => h) (Or.inl ⟨by rfl, ?hr35010⟩) ((unhide HG3).k.two) ?_
                      case hr35010 => (intro w hSw; (try dsimp only at hSw); go_simp) <;> with_reducible rfl
                      simp only [Act.put, List.getElem_toArray, List.getElem_cons_zero, List.getElem_cons_succ, List.setIfInBounds_toArray, List.set_cons_zero, List.set_cons_succ]
                      refine anyL_take (i := 14) (v := ?vr35011) rfl (by kernel_rfl) (by kernel_rfl) (by kernel_rfl) (by kernel_rfl) (fun _ _ _ h => h) (Or.inl ⟨by rfl, ?hr35011⟩) ((unhide HG3).k.two) ?_
                      case hr35011 => (intro w hSw; (try dsimp only at hSw); go_simp) <;> with_reducible rfl
                      simp only [Act.put, List.getElem_toArray, List.getElem_cons_zero, List.getElem_cons_succ, List.setIfInBounds_toArray, List.set_cons_zero, List.set_cons_succ]
                      refine anyL_take (i := 16) (v := ?vr35012) rfl (by kernel_rfl) (by kernel_rfl) (by kernel_rfl) (by kernel_rfl) (fun _ _ _ h => h) (Or.inl ⟨by rfl, ?hr35012⟩) ((unhide HG3).k.two) ?_
                      case hr35012 => (intro w hSw; (try dsimp only at hSw); go_simp) <;> with_reducible rfl
                      simp only [Act.put, List.getElem_toArray, List.getElem_cons_zero, List.getElem_cons_succ, List.setIfInBounds_toArray, List.set_cons_zero, List.set_cons_succ]
                      refine anyL_take (i := 17) (v := ?vr35013) rfl (by kernel_rfl) (by kernel_rfl) (by kernel_rfl) (by kernel_rfl) (fun _ _ _ h => h) (Or.inl ⟨by rfl, ?hr35013⟩) ((unhide HG3).k.two) ?_
                      case hr35013 => (intro w hSw; (try dsimp only at hSw); go_simp) <;> with_reducible rfl
                      simp only [Act.put, List.getElem_toArray, List.getElem_cons_zero, List.getElem_cons_succ, List.setIfInBounds_toArray, List.set_cons_zero, List.set_cons_succ]
                      refine anyL_ready (rs := [15]) (by kernel_rfl) (by simp) ?_
                      refine AllL.cons rfl (fun K hK => ?_) AllL.nil
                      go_simp
                      refine (unhide HC).mono ?_
                      rintro y z4 ⟨rfl, x1⟩
                      have HY4 := hide ((unhide HY3).on x1)
                      have HG4 := hide ((unhide HG3).on3 x1)
                      clear HC
                      clear x1 HY3 HG3
                      refine unhide hK _ _ (fun _ => (unhide HG4).k.two) ?_
                      clear hK K
                      refine anyL_take (i := 18) (v := ?vr35014) rfl (by kernel_rfl) (by kernel_rfl) (by kernel_rfl) (by kernel_rfl) (fun _ _ _ h => h) (Or.inl ⟨by rfl, ?hr35014⟩) ((unhide HG4).k.two) ?_
                      case hr35014 => (intro w hSw; (try dsimp only at hSw); go_simp) <;> with_reducible rfl
                      simp only [Act.put, List.getElem_toArray, List.getElem_cons_zero, List.getElem_cons_succ, List.setIfInBounds_toArray, List.set_cons_zero, List.set_cons_succ]
                      refine anyL_take (i := 19) (v := ?vr35015) rfl (by kernel_rfl) (by kernel_rfl) (by kernel_rfl) (by kernel_rfl) (fun _ _ _ h => h) (Or.inl ⟨by rfl, ?hr35015⟩) ((unhide HG4).k.two) ?_
                      case hr35015 => (intro w hSw; (try dsimp only at hSw); go_simp) <;> with_reducible rfl
                      simp only [Act.put, List.getElem_toArray, List.getElem_cons_zero, List.getElem_cons_succ, List.setIfInBounds_toArray, List.set_cons_zero, List.set_cons_succ]
                      refine anyL_take (i := 20) (v := ?vr35016) rfl (by kernel_rfl) (by kernel_rfl) (by kernel_rfl) (by kernel_rfl) (fun _ _ _ h => h) (Or.inl ⟨by rfl, ?hr35016⟩) ((unhide HG4).k.two) ?_
                      case hr35016 => (intro w hSw; (try dsimp only at hSw); go_simp) <;> with_reducible rfl
                      simp only [Act.put, List.getElem_toArray, List.getElem_cons_zero, List.getElem_cons_succ, List.setIfInBounds_toArray, List.set_cons_zero, List.set_cons_succ]
                      refine anyL_take (i := 21) (v := ?vr35017) rfl (by kernel_rfl) (by kernel_rfl) (by kernel_rfl) (by kernel_rfl) (fun _ _ _ h => h) (Or.inl ⟨by rfl, ?hr35017⟩) ((unhide HG4).k.two) ?_
                      case hr35017 => (intro w hSw; (try dsimp only at hSw); go_simp) <;> with_reducible rfl
                      simp only [Act.put, List.getElem_toArray, List.getElem_cons_zero, List.getElem_cons_succ, List.setIfInBounds_toArray, List.set_cons_zero, List.set_cons_succ]
                      refine anyL_take (i := 22) (v := ?vr35018) rfl (by kernel_rfl) (by kernel_rfl) (by kernel_rfl) (by kernel_rfl) (fun _ _ _ h => h) (Or.inl ⟨by rfl, ?hr35018⟩) ((unhide HG4).k.two) ?_
                      case hr35018 => (intro w hSw; (try dsimp only at hSw); go_simp) <;> with_reducible rfl
                      simp only [Act.put, List.getElem_toArray, List.getElem_cons_zero, List.getElem_cons_succ, List.setIfInBounds_toArray, List.set_cons_zero, List.set_cons_succ]
                      refine anyL_take (i := 23) (v := ?vr35019) rfl (by kernel_rfl) (by kernel_rfl) (by kernel_rfl) (by kernel_rfl) (fun _ _ _ h => h) (Or.inl ⟨by rfl, ?hr35019⟩) ((unhide HG4).k.two) ?_
                      case hr35019 => (intro w hSw; (try dsimp only at hSw); go_simp) <;> with_reducible rfl
                      simp only [Act.put, List.getElem_toArray, List.getElem_cons_zero, List.getElem_cons_succ, List.setIfInBounds_toArray, List.set_cons_zero, List.set_cons_succ]
                      refine anyL_take (i := 24) (v := ?vr35020) rfl (by kernel_rfl) (by kernel_rfl) (by kernel_rfl) (by kernel_rfl) (fun _ _ _ h => h) (Or.inl ⟨by rfl, ?hr35020⟩) ((unhide HG4).k.two) ?_
                      case hr35020 => (intro w hSw; (try dsimp only at hSw); go_simp) <;> with_reducible rfl
                      simp only [Act.put, List.getElem_toArray, List.getElem_cons_zero, List.getElem_cons_succ, List.setIfInBounds_toArray, List.set_cons_zero, List.set_cons_succ]
                      refine anyL_take (i := 25) (v := ?vr35021) rfl (by kernel_rfl) (by kernel_rfl) (by kernel_rfl) (by kernel_rfl) (fun _ _ _ h => h) (Or.inl ⟨by rfl, ?hr35021⟩) ((unhide HG4).k.two) ?_
                      case hr35021 => (intro w hSw; (try dsimp only at hSw); go_simp) <;> with_reducible rfl
                      simp only [Act.put, List.getElem_toArray, List.getElem_cons_zero, List.getElem_cons_succ, List.setIfInBounds_toArray, List.set_cons_zero, List.set_cons_succ]
                      refine anyL_take (i := 26) (v := ?vr35022) rfl (by kernel_rfl) (by kernel_rfl) (by kernel_rfl) (by kernel_rfl) (fun _ _ _ h => h) (Or.inl ⟨by rfl, ?hr35022⟩) ((unhide HG4).k.two) ?_
                      case hr35022 => (intro w hSw; (try dsimp only at hSw); go_simp) <;> with_reducible rfl
                      simp only [Act.put, List.getElem_toArray, List.getElem_cons_zero, List.getElem_cons_succ, List.setIfInBounds_toArray, List.set_cons_zero, List.set_cons_succ]
                      refine anyL_done (by kernel_rfl) ?_ _
                      obtain ⟨k0, k1⟩ := (unhide HG4).k.two
                      have hb4 := (unhide HX3).trans ((unhide HY4).o.mono (unhide HX3).size)
                      have HB4 := hide hb4
                      have HC := hide (RBeh_all n1 a1 c1 D ad cd d z4 (unhide HG4).s.k (Nat.le_trans (unhide HG4).s.l (by decide)) (unhide HOt z4 hb4) hdl2 htx)
                      unfold msV at HC
                      clear hb4
                      go_wp2_with fail
                      refine (unhide HC).mono ?_
                      rintro y wv h2
                      rcases h2 with ⟨_, rfl, xv⟩ | ⟨_, _, rfl, xv⟩ | ⟨hv, hf, _⟩
                      rotate_left
                      rotate_left
                      · rcases hbad with h | h
                        · rw [hv] at h; cases h
                        · exact absurd hf h
                      all_goals
                        dsimp only
                        have hbv := (unhide HB4).trans (xv.mono (unhide HB4).size)
                        have HBV := hide (hbv.alloc hbv.size (.cells #[.int .i64 n1, .slice a1 D.length c1] 29))
                        clear HC HB4 HG4 HY4 xv hbv k0 k1
                        go_wp2_with fail
                        refine bodyPost_ret (results_tmp rfl _ _ _) rfl ⟨rfl, unhide HBV⟩
                    · clear HEY
                      skip
                      have hT := (unhide HTr).on (Below.refl wc.heap.size wc).drew
                      have HY0 := hide hT
                      have HG0 := hide ((unhide HS3).on3 hT.o)
                      have HC := hide (RSameK_at a6 c6 a1 c1 D wc.drew (own_isKv hT.b) (unhide HG0).s.k (Nat.le_trans (unhide HG0).s.l (by decide)))
                      clear hT HTr
                      go_upto_region 35 with fail
                      refine regionL (S := fun z => z.cell? ⟨B8, 0, none⟩ = some (.int .i64 n1) ∧ z.cell? ⟨B8, 1, none⟩ = some (.slice a1 D.length c1)) (fun _ => false) (by kernel_rfl) ?_
                      generalize wc.drew = zz0 at *
                      refine anyL_take (i := 0) (v := ?vr35123) rfl (by kernel_rfl) (by kernel_rfl) (by kernel_rfl) (by kernel_rfl) (fun _ _ _ h => h) (Or.inl ⟨by rfl, ?hr35123⟩) ((unhide HG0).k.two) ?_
                      case hr35123 => (intro w hSw; (try dsimp only at hSw); go_simp) <;> with_reducible rfl
                      simp only [Act.put, List.getElem_toArray, List.getElem_cons_zero, List.setIfInBounds_toArray, List.set_cons_zero, List.set_cons_succ]
                      refine anyL_take (i := 1) (v := ?vr35124) rfl (by kernel_rfl) (by kernel_rfl) (by kernel_rfl) (by kernel_rfl) (fun _ _ _ h => h) (Or.inl ⟨by rfl, ?hr35124⟩) ((unhide HG0).k.two) ?_
                      case hr35124 => (intro w hSw; (try dsimp only at hSw); go_simp) <;> with_reducible rfl
                      simp only [Act.put, List.getElem_toArray, List.getElem_cons_zero, List.getElem_cons_succ, List.setIfInBounds_toArray, List.set_cons_zero, List.set_cons_succ]
                      refine anyL_take (i := 2) (v := ?vr35125) rfl (by kernel_rfl) (by kernel_rfl) (by kernel_rfl) (by kernel_rfl) (fun _ _ _ h => h) (Or.inl ⟨by rfl, ?hr35125⟩) ((unhide HG0).k.two) ?_
                      case hr35125 => (intro w hSw; (try dsimp only at hSw); go_simp) <;> with_reducible rfl
                      simp only [Act.put, List.getElem_toArray, List.getElem_cons_zero, List.getElem_cons_succ, List.setIfInBounds_toArray, List.set_cons_zero, List.set_cons_succ]
                      refine anyL_ready (rs := [3]) (by kernel_rfl) (by simp) ?_
                      refine AllL.cons rfl (fun K hK => ?_) AllL.nil
                      go_simp
                      refine (unhide HC).mono ?_
                      rintro y z1 ⟨rfl, x1⟩
                      have HY1 := hide ((unhide HY0).on x1)
                      have HG1 := hide ((unhide HG0).on3 x1)
                      clear HC
                      have HC := hide (MList_at g1 n1 L1 z1 (unhide HG1).s.m (unhide HG1).s.len)
                      clear x1 HY0 HG0
                      refine unhide hK _ _ (fun _ => (unhide HG1).k.two) ?_
                      clear hK K
                      refine anyL_take (i := 4) (v := ?vr35126) rfl (by kernel_rfl) (by kernel_rfl) (by kernel_rfl) (by kernel_rfl) (fun _ _ _ h => h) (Or.inl ⟨by rfl, ?hr35126⟩) ((unhide HG1).k.two) ?_
                      case hr35126 => (intro w hSw; (try dsimp only at hSw); go_simp) <;> with_reducible rfl
                      simp only [Act.put, List.getElem_toArray, List.getElem_cons_zero, List.getElem_cons_succ, List.setIfInBounds_toArray, List.set_cons_zero, List.set_cons_succ]
                      refine anyL_take (i := 5) (v := ?vr35127) rfl (by kernel_rfl) (by kernel_rfl) (by kernel_rfl) (by kernel_rfl) (fun _ _ _ h => h) (Or.inl ⟨by rfl, ?hr35127⟩) ((unhide HG1).k.two) ?_
                      case hr35127 => (intro w hSw; (try dsimp only at hSw); go_simp) <;> with_reducible rfl
                      simp only [Act.put, List.getElem_toArray, List.getElem_cons_zero, List.getElem_cons_succ, List.setIfInBounds_toArray, List.set_cons_zero, List.set_cons_succ]
                      refine anyL_take (i := 6) (v := ?vr35128) rfl (by kernel_rfl) (by kernel_rfl) (by kernel_rfl) (by kernel_rfl) (fun _ _ _ h => h) (Or.inl ⟨by rfl, ?hr35128⟩) ((unhide HG1).k.two) ?_
                      case hr35128 => (intro w hSw; (try dsimp only at hSw); go_simp) <;> with_reducible rfl
                      simp only [Act.put, List.getElem_toArray, List.getElem_cons_zero, List.getElem_cons_succ, List.setIfInBounds_toArray, List.set_cons_zero, List.set_cons_succ]
                      refine anyL_take (i := 8) (v := ?vr35129) rfl (by kernel_rfl) (by kernel_rfl) (by kernel_rfl) (by kernel_rfl) (fun _ _ _ h => h) (Or.inl ⟨by rfl, ?hr35129⟩) ((unhide HG1).k.two) ?_
                      case hr35129 => (intro w hSw; (try dsimp only at hSw); go_simp) <;> with_reducible rfl
                      simp only [Act.put, List.getElem_toArray, List.getElem_cons_zero, List.getElem_cons_succ, List.setIfInBounds_toArray, List.set_cons_zero, List.set_cons_succ]
                      refine anyL_take (i := 9) (v := ?vr35130) rfl (by kernel_rfl) (by kernel_rfl) (by kernel_rfl) (by kernel_rfl) (fun _ _ _ h => h) (Or.inl ⟨by rfl, ?hr35130⟩) ((unhide HG1).k.two) ?_
                      case hr35130 => (intro w hSw; (try dsimp only at hSw); go_simp) <;> with_reducible rfl
                      simp only [Act.put, List.getElem_toArray, List.getElem_cons_zero, List.getElem_cons_succ, List.setIfInBounds_toArray, List.set_cons_zero, List.set_cons_succ]
                      refine anyL_ready (rs := [7]) (by kernel_rfl) (by simp) ?_
                      refine AllL.cons rfl (fun K hK => ?_) AllL.nil
                      go_simp
                      refine (unhide HC).mono ?_
                      rintro y z2 ⟨a8, c8, E8, rfl, p8, s8, o8, x1⟩
                      have HY2 := hide ((unhide HY1).on x1)
                      have HG2 := hide ((unhide HG1).on3 x1)
                      have e8 : D = E8 := ((unhide HG1).s.list p8 s8).symm
                      subst e8
                      clear HC
                      have HC := hide (RSameK_at a8 c8 a1 c1 D z2 (own_isKv o8) (unhide HG2).s.k (Nat.le_trans (unhide HG2).s.l (by decide)))
                      clear p8 s8 o8
                      clear x1 HY1 HG1
                      refine unhide hK _ _ (fun _ => (unhide HG2).k.two) ?_
                      clear hK K
                      refine anyL_ready (rs := [10]) (by kernel_rfl) (by simp) ?_
                      refine AllL.cons rfl (fun K hK => ?_) AllL.nil
                      go_simp
                      refine (unhide HC).mono ?_
                      rintro y z3 ⟨rfl, x1⟩
                      have HY3 := hide ((unhide HY2).on x1)
                      have HG3 := hide ((unhide HG2).on3 x1)
                      clear HC
                      have HC := hide (MLen_at g1 n1 L1 z3 (unhide HG3).s.m)
                      clear x1 HY2 HG2
                      refine unhide hK _ _ (fun _ => (unhide HG3).k.two) ?_
                      clear hK K
                      refine anyL_take (i := 11) (v := ?vr35131) rfl (by kernel_rfl) (by kernel_rfl) (by kernel_rfl) (by kernel_rfl) (fun _ _ _ h => h) (Or.inl ⟨by rfl, ?hr35131⟩) ((unhide HG3).k.two) ?_
                      case hr35131 => (intro w hSw; (try dsimp only at hSw); go_simp) <;> with_reducible rfl
                      simp only [Act.put, List.getElem_toArray, List.getElem_cons_zero, List.getElem_cons_succ, List.setIfInBounds_toArray, List.set_cons_zero, List.set_cons_succ]
                      refine anyL_take (i := 12) (v := ?vr35132) rfl (by kernel_rfl) (by kernel_rfl) (by kernel_rfl) (by kernel_rfl) (fun _ _ _ h => h) (Or.inl ⟨by rfl, ?hr35132⟩) ((unhide HG3).k.two) ?_
                      case hr35132 => (intro w hSw; (try dsimp only at hSw); go_simp) <;> with_reducible rfl
                      simp only [Act.put, List.getElem_toArray, List.getElem_cons_zero, List.getElem_cons_succ, List.setIfInBounds_toArray, List.set_cons_zero, List.set_cons_succ]
                      refine anyL_take (i := 13) (v := ?vr35133) rfl (by kernel_rfl) (by kernel_rfl) (by kernel_rfl) (by kernel_rfl) (fun _ _ _ h => h) (Or.inl ⟨by rfl, ?hr35133⟩) ((unhide HG3).k.two) ?_
                      case hr35133 => (intro w hSw; (try dsimp only at hSw); go_simp) <;> with_reducible rfl
                      simp only [Act.put, List.getElem_toArray, List.getElem_cons_zero, List.getElem_cons_succ, List.setIfInBounds_toArray, List.set_cons_zero, List.set_cons_succ]
                      refine anyL_take (i := 14) (v := ?vr35134) rfl (by kernel_rfl) (by kernel_rfl) (by kernel_rfl) (by kernel_rfl) (fun _ _ _ h => h) (Or.inl ⟨by rfl, ?hr35134⟩) ((unhide HG3).k.two) ?_
                      case hr35134 => (intro w hSw; (try dsimp only at hSw); go_simp) <;> with_reducible rfl
                      simp only [Act.put, List.getElem_toArray, List.getElem_cons_zero, List.getElem_cons_succ, List.setIfInBounds_toArray, List.set_cons_zero, List.set_cons_succ]
                      refine anyL_take (i := 16) (v := ?vr35135) rfl (by kernel_rfl) (by kernel_rfl) (by kernel_rfl) (by kernel_rfl) (fun _ _ _ h => h) (Or.inl ⟨by rfl, ?hr35135⟩) ((unhide HG3).k.two) ?_
                      case hr35135 => (intro w hSw; (try dsimp only at hSw); go_simp) <;> with_reducible rfl
                      simp only [Act.put, List.getElem_toArray, List.getElem_cons_zero, List.getElem_cons_succ, List.setIfInBounds_toArray, List.set_cons_zero, List.set_cons_succ]
                      refine anyL_take (i := 17) (v := ?vr35136) rfl (by kernel_rfl) (by kernel_rfl) (by kernel_rfl) (by kernel_rfl) (fun _ _ _ h => h) (Or.inl ⟨by rfl, ?hr35136⟩) ((unhide HG3).k.two) ?_
                      case hr35136 => (intro w hSw; (try dsimp only at hSw); go_simp) <;> with_reducible rfl
                      simp only [Act.put, List.getElem_toArray, List.getElem_cons_zero, List.getElem_cons_succ, List.setIfInBounds_toArray, List.set_cons_zero, List.set_cons_succ]
                      refine anyL_ready (rs := [15]) (by kernel_rfl) (by simp) ?_
                      refine AllL.cons rfl (fun K hK => ?_) AllL.nil
                      go_simp
                      refine (unhide HC).mono ?_
                      rintro y z4 ⟨rfl, x1⟩
                      have HY4 := hide ((unhide HY3).on x1)
                      have HG4 := hide ((unhide HG3).on3 x1)
                      clear HC
                      clear x1 HY3 HG3
                      refine unhide hK _ _ (fun _ => (unhide HG4).k.two) ?_
                      clear hK K
                      refine anyL_take (i := 18) (v := ?vr35137) rfl (by kernel_rfl) (by kernel_rfl) (by kernel_rfl) (by kernel_rfl) (fun _ _ _ h => h) (Or.inl ⟨by rfl, ?hr35137⟩) ((unhide HG4).k.two) ?_
                      case hr35137 => (intro w hSw; (try dsimp only at hSw); go_simp) <;> with_reducible rfl
                      simp only [Act.put, List.getElem_toArray, List.getElem_cons_zero, List.getElem_cons_succ, List.setIfInBounds_toArray, List.set_cons_zero, List.set_cons_succ]
                      refine anyL_take (i := 19) (v := ?vr35138) rfl (by kernel_rfl) (by kernel_rfl) (by kernel_rfl) (by kernel_rfl) (fun _ _ _ h => h) (Or.inl ⟨by rfl, ?hr35138⟩) ((unhide HG4).k.two) ?_
                      case hr35138 => (intro w hSw; (try dsimp only at hSw); go_simp) <;> with_reducible rfl
                      simp only [Act.put, List.getElem_toArray, List.getElem_cons_zero, List.getElem_cons_succ, List.setIfInBounds_toArray, List.set_cons_zero, List.set_cons_succ]
                      refine anyL_take (i := 20) (v := ?vr35139) rfl (by kernel_rfl) (by kernel_rfl) (by kernel_rfl) (by kernel_rfl) (fun _ _ _ h => h) (Or.inl ⟨by rfl, ?hr35139⟩) ((unhide HG4).k.two) ?_
                      case hr35139 => (intro w hSw; (try dsimp only at hSw); go_simp) <;> with_reducible rfl
                      simp only [Act.put, List.getElem_toArray, List.getElem_cons_zero, List.getElem_cons_succ, List.setIfInBounds_toArray, List.set_cons_zero, List.set_cons_succ]
                      refine anyL_take (i := 21) (v := ?vr35140) rfl (by kernel_rfl) (by kernel_rfl) (by kernel_rfl) (by kernel_rfl) (fun _ _ _ h => h) (Or.inl ⟨by rfl, ?hr35140⟩) ((unhide HG4).k.two) ?_
                      case hr35140 => (intro w hSw; (try dsimp only at hSw); go_simp) <;> with_reducible rfl
                      simp only [Act.put, List.getElem_toArray, List.getElem_cons_zero, List.getElem_cons_succ, List.setIfInBounds_toArray, List.set_cons_zero, List.set_cons_succ]
                      refine anyL_take (i := 22) (v := ?vr35141) rfl (by kernel_rfl) (by kernel_rfl) (by kernel_rfl) (by kernel_rfl) (fun _ _ _ h => h) (Or.inl ⟨by rfl, ?hr35141⟩) ((unhide HG4).k.two) ?_
                      case hr35141 => (intro w hSw; (try dsimp only at hSw); go_simp) <;> with_reducible rfl
                      simp only [Act.put, List.getElem_toArray, List.getElem_cons_zero, List.getElem_cons_succ, List.setIfInBounds_toArray, List.set_cons_zero, List.set_cons_succ]
                      refine anyL_take (i := 23) (v := ?vr35142) rfl (by kernel_rfl) (by kernel_rfl) (by kernel_rfl) (by kernel_rfl) (fun _ _ _ h => h) (Or.inl ⟨by rfl, ?hr35142⟩) ((unhide HG4).k.two) ?_
                      case hr35142 => (intro w hSw; (try dsimp only at hSw); go_simp) <;> with_reducible rfl
                      simp only [Act.put, List.getElem_toArray, List.getElem_cons_zero, List.getElem_cons_succ, List.setIfInBounds_toArray, List.set_cons_zero, List.set_cons_succ]
                      refine anyL_take (i := 24) (v := ?vr35143) rfl (by kernel_rfl) (by kernel_rfl) (by kernel_rfl) (by kernel_rfl) (fun _ _ _ h => h) (Or.inl ⟨by rfl, ?hr35143⟩) ((unhide HG4).k.two) ?_
                      case hr35143 => (intro w hSw; (try dsimp only at hSw); go_simp) <;> with_reducible rfl
                      simp only [Act.put, List.getElem_toArray, List.getElem_cons_zero, List.getElem_cons_succ, List.setIfInBounds_toArray, List.set_cons_zero, List.set_cons_succ]
                      refine anyL_take (i := 25) (v := ?vr35144) rfl (by kernel_rfl) (by kernel_rfl) (by kernel_rfl) (by kernel_rfl) (fun _ _ _ h => h) (Or.inl ⟨by rfl, ?hr35144⟩) ((unhide HG4).k.two) ?_
                      case hr35144 => (intro w hSw; (try dsimp only at hSw); go_simp) <;> with_reducible rfl
                      simp only [Act.put, List.getElem_toArray, List.getElem_cons_zero, List.getElem_cons_succ, List.setIfInBounds_toArray, List.set_cons_zero, List.set_cons_succ]
                      refine anyL_take (i := 26) (v := ?vr35145) rfl (by kernel_rfl) (by kernel_rfl) (by kernel_rfl) (by kernel_rfl) (fun _ _ _ h => h) (Or.inl ⟨by rfl, ?hr35145⟩) ((unhide HG4).k.two) ?_
                      case hr35145 => (intro w hSw; (try dsimp only at hSw); go_simp) <;> with_reducible rfl
                      simp only [Act.put, List.getElem_toArray, List.getElem_cons_zero, List.getElem_cons_succ, List.setIfInBounds_toArray, List.set_cons_zero, List.set_cons_succ]
                      refine anyL_done (by kernel_rfl) ?_ _
                      obtain ⟨k0, k1⟩ := (unhide HG4).k.two
                      have hb4 := (unhide HX3).trans ((unhide HY4).o.mono (unhide HX3).size)
                      have HB4 := hide hb4
                      have HC := hide (RBeh_all n1 a1 c1 D ad cd d z4 (unhide HG4).s.k (Nat.le_trans (unhide HG4).s.l (by decide)) (unhide HOt z4 hb4) hdl2 htx)
                      unfold msV at HC
                      clear hb4
                      go_wp2_with fail
                      refine (unhide HC).mono ?_
                      rintro y wv h2
                      rcases h2 with ⟨h0, _⟩ | ⟨_, h0, _⟩ | ⟨_, _, v2, rfl, o2, xv⟩
                      · rw [hv] at h0; cases h0
                      · exact absurd hf h0
                      dsimp only
                      obtain ⟨av, cv, hvv, _⟩ := rowD_form o2
                      subst hvv
                      have hD2 : (movM (mvM d) D).length ≤ 1048576 := by rw [mov_len]; exact Nat.le_trans hDl (by decide)
                      have hst := (unhide HG4).s
                      have HEQ1 := hide fun (E : List Mk) (hE : E.Perm ((S.map (mvM d)).filter (inM 0 (toD d)))) (hs : E.Pairwise fun a b => ltM b a = false) => ((hst.r.mov (mvM d) (mvM_n d) pS).some (inM 0 (toD d)) hE hs).trans (show InP (toD d) (movM (mvM d) D) from InP.mov (by rw [hf]; exact hst.p) hv).all
                      have HEQ2 := hide fun (E : List Mk) (hE : E.Perm ((S'.map (mvM d)).filter (inM 0 (toD d)))) (hs : E.Pairwise fun a b => ltM b a = false) => ((hst.r.mov (mvM d) (mvM_n d) pS').some (inM 0 (toD d)) hE hs).trans (show InP (toD d) (movM (mvM d) D) from InP.mov (by rw [hf]; exact hst.p) hv).all
                      have hS1 : (S.map (mvM d)).length ≤ 1048576 := by rw [List.length_map, pS.length_eq]; exact hst.len
                      have hS2 : (S'.map (mvM d)).length ≤ 1048576 := by rw [List.length_map, pS'.length_eq]; exact hst.len
                      generalize movM (mvM d) D = D2 at *
                      have hbv := (unhide HB4).trans (xv.mono (unhide HB4).size)
                      have hYv := (unhide HY4).on xv
                      have bx := (Below.refl wv.heap.size wv).alloc (Nat.le_refl _) (.cells #[.int .i64 (toD d : Int), .slice av D2.length cv] 29)
                      have HYV := hide (hYv.on bx)
                      have HNV := hide (And.intro ((own_isKv o2).below bx (Nat.le_refl _)) (And.intro (Cls.new wv 29 #[.int .i64 (toD d : Int), .slice av D2.length cv]) (hbv.trans (bx.mono hbv.size))))
                      clear HC HB4 HG4 HY4 xv hbv hYv bx o2 hst k0 k1
                      go_upto_region 40 with fail
                      generalize wv.alloc (.cells #[.int .i64 (toD d : Int), .slice av D2.length cv] 29) = wx at *
                      generalize wv.heap.size = B21 at *
                      have HY0 := hide ((unhide HYV).on (Below.refl wx.heap.size wx).drew)
                      have HN0 : Hid (IsK wx.drew av D2 ∧ Cls wx.drew B21 29 #[.int .i64 (toD d : Int), .slice av D2.length cv] ∧ Below w.heap.size w wx.drew) := hide ⟨(unhide HNV).1.below (Below.refl wx.heap.size wx).drew (Nat.le_refl _), (unhide HNV).2.1.below (Below.refl wx.heap.size wx).drew (unhide HNV).2.1.lt, (unhide HNV).2.2.drew⟩
                      have HM := hide (And.intro hm1 hm2)
                      have HC := hide (MList_at g' (toD d) (S.map (mvM d)) wx.drew ((unhide HY0).e _ hm1) hS1)
                      clear HYV HNV hm1 hm2
                      refine regionL (S := fun z => z.cell? ⟨B21, 0, none⟩ = some (.int .i64 (toD d : Int)) ∧ z.cell? ⟨B21, 1, none⟩ = some (.slice av D2.length cv)) (fun _ => false) (by kernel_rfl) ?_
                      generalize wx.drew = zz1 at *
                      refine anyL_take (i := 0) (v := ?vr4046) rfl (by kernel_rfl) (by kernel_rfl) (by kernel_rfl) (by kernel_rfl) (fun _ _ _ h => h) (Or.inl ⟨by rfl, ?hr4046⟩) ((unhide HN0).2.1.two) ?_
                      case hr4046 => (intro w hSw; (try dsimp only at hSw); go_simp) <;> with_reducible rfl
                      simp only [Act.put, List.getElem_toArray, List.getElem_cons_zero, List.setIfInBounds_toArray, List.set_cons_zero, List.set_cons_succ]
                      refine anyL_take (i := 1) (v := ?vr4047) rfl (by kernel_rfl) (by kernel_rfl) (by kernel_rfl) (by kernel_rfl) (fun _ _ _ h => h) (Or.inl ⟨by rfl, ?hr4047⟩) ((unhide HN0).2.1.two) ?_
                      case hr4047 => (intro w hSw; (try dsimp only at hSw); go_simp) <;> with_reducible rfl
                      simp only [Act.put, List.getElem_toArray, List.getElem_cons_zero, List.getElem_cons_succ, List.setIfInBounds_toArray, List.set_cons_zero, List.set_cons_succ]
                      refine anyL_take (i := 2) (v := ?vr4048) rfl (by kernel_rfl) (by kernel_rfl) (by kernel_rfl) (by kernel_rfl) (fun _ _ _ h => h) (Or.inl ⟨by rfl, ?hr4048⟩) ((unhide HN0).2.1.two) ?_
                      case hr4048 => (intro w hSw; (try dsimp only at hSw); go_simp) <;> with_reducible rfl
                      simp only [Act.put, List.getElem_toArray, List.getElem_cons_zero, List.getElem_cons_succ, List.setIfInBounds_toArray, List.set_cons_zero, List.set_cons_succ]
                      refine anyL_take (i := 3) (v := ?vr4049) rfl (by kernel_rfl) (by kernel_rfl) (by kernel_rfl) (by kernel_rfl) (fun _ _ _ h => h) (Or.inl ⟨by rfl, ?hr4049⟩) ((unhide HN0).2.1.two) ?_
                      case hr4049 => (intro w hSw; (try dsimp only at hSw); go_simp) <;> with_reducible rfl
                      simp only [Act.put, List.getElem_toArray, List.getElem_cons_zero, List.getElem_cons_succ, List.setIfInBounds_toArray, List.set_cons_zero, List.set_cons_succ]
                      refine anyL_take (i := 5) (v := ?vr4050) rfl (by kernel_rfl) (by kernel_rfl) (by kernel_rfl) (by kernel_rfl) (fun _ _ _ h => h) (Or.inl ⟨by rfl, ?hr4050⟩) ((unhide HN0).2.1.two) ?_
                      case hr4050 => (intro w hSw; (try dsimp only at hSw); go_simp) <;> with_reducible rfl
                      simp only [Act.put, List.getElem_toArray, List.getElem_cons_zero, List.getElem_cons_succ, List.setIfInBounds_toArray, List.set_cons_zero, List.set_cons_succ]
                      refine anyL_take (i := 6) (v := ?vr4051) rfl (by kernel_rfl) (by kernel_rfl) (by kernel_rfl) (by kernel_rfl) (fun _ _ _ h => h) (Or.inl ⟨by rfl, ?hr4051⟩) ((unhide HN0).2.1.two) ?_
                      case hr4051 => (intro w hSw; (try dsimp only at hSw); go_simp) <;> with_reducible rfl
                      simp only [Act.put, List.getElem_toArray, List.getElem_cons_zero, List.getElem_cons_succ, List.setIfInBounds_toArray, List.set_cons_zero, List.set_cons_succ]
                      refine anyL_ready (rs := [4]) (by kernel_rfl) (by simp) ?_
                      refine AllL.cons rfl (fun K hK => ?_) AllL.nil
                      go_simp
                      refine (unhide HC).mono ?_
                      rintro y q1 ⟨a8, c8, E8, rfl, p8, s8, o8, x1⟩
                      have HY1 := hide ((unhide HY0).on x1)
                      have HN1 := hide (And.intro ((unhide HN0).1.below x1 (Nat.le_refl _)) (And.intro ((unhide HN0).2.1.below x1 (unhide HN0).2.1.lt) ((unhide HN0).2.2.trans (x1.mono (unhide HN0).2.2.size))))
                      have e8 : D2 = E8 := ((unhide HEQ1) _ p8 s8).symm
                      subst e8
                      clear HC
                      have HC := hide (RSameK_at a8 c8 av cv D2 q1 (own_isKv o8) (unhide HN1).1 (Nat.le_trans hD2 (by decide)))
                      clear p8 s8 o8
                      clear x1 HY0 HN0
                      refine unhide hK _ _ (fun _ => (unhide HN1).2.1.two) ?_
                      clear hK K
                      refine anyL_ready (rs := [7]) (by kernel_rfl) (by simp) ?_
                      refine AllL.cons rfl (fun K hK => ?_) AllL.nil
                      go_simp
                      refine (unhide HC).mono ?_
                      rintro y q2 ⟨rfl, x1⟩
                      have HY2 := hide ((unhide HY1).on x1)
                      have HN2 := hide (And.intro ((unhide HN1).1.below x1 (Nat.le_refl _)) (And.intro ((unhide HN1).2.1.below x1 (unhide HN1).2.1.lt) ((unhide HN1).2.2.trans (x1.mono (unhide HN1).2.2.size))))
                      clear HC
                      have HC := hide (MList_at g'' (toD d) (S'.map (mvM d)) q2 ((unhide HY2).e _ (unhide HM).2) hS2)
                      clear x1 HY1 HN1
                      refine unhide hK _ _ (fun _ => (unhide HN2).2.1.two) ?_
                      clear hK K
                      refine anyL_take (i := 8) (v := ?vr4052) rfl (by kernel_rfl) (by kernel_rfl) (by kernel_rfl) (by kernel_rfl) (fun _ _ _ h => h) (Or.inl ⟨by rfl, ?hr4052⟩) ((unhide HN2).2.1.two) ?_
                      case hr4052 => (intro w hSw; (try dsimp only at hSw); go_simp) <;> with_reducible rfl
                      simp only [Act.put, List.getElem_toArray, List.getElem_cons_zero, List.getElem_cons_succ, List.setIfInBounds_toArray, List.set_cons_zero, List.set_cons_succ]
                      refine anyL_take (i := 9) (v := ?vr4053) rfl (by kernel_rfl) (by kernel_rfl) (by kernel_rfl) (by kernel_rfl) (fun _ _ _ h => h) (Or.inl ⟨by rfl, ?hr4053⟩) ((unhide HN2).2.1.two) ?_
                      case hr4053 => (intro w hSw; (try dsimp only at hSw); go_simp) <;> with_reducible rfl
                      simp only [Act.put, List.getElem_toArray, List.getElem_cons_zero, List.getElem_cons_succ, List.setIfInBounds_toArray, List.set_cons_zero, List.set_cons_succ]
                      refine anyL_take (i := 10) (v := ?vr4054) rfl (by kernel_rfl) (by kernel_rfl) (by kernel_rfl) (by kernel_rfl) (fun _ _ _ h => h) (Or.inl ⟨by rfl, ?hr4054⟩) ((unhide HN2).2.1.two) ?_
                      case hr4054 => (intro w hSw; (try dsimp only at hSw); go_simp) <;> with_reducible rfl
                      simp only [Act.put, List.getElem_toArray, List.getElem_cons_zero, List.getElem_cons_succ, List.setIfInBounds_toArray, List.set_cons_zero, List.set_cons_succ]
                      refine anyL_take (i := 12) (v := ?vr4055) rfl (by kernel_rfl) (by kernel_rfl) (by kernel_rfl) (by kernel_rfl) (fun _ _ _ h => h) (Or.inl ⟨by rfl, ?hr4055⟩) ((unhide HN2).2.1.two) ?_
                      case hr4055 => (intro w hSw; (try dsimp only at hSw); go_simp) <;> with_reducible rfl
                      simp only [Act.put, List.getElem_toArray, List.getElem_cons_zero, List.getElem_cons_succ, List.setIfInBounds_toArray, List.set_cons_zero, List.set_cons_succ]
                      refine anyL_take (i := 13) (v := ?vr4056) rfl (by kernel_rfl) (by kernel_rfl) (by kernel_rfl) (by kernel_rfl) (fun _ _ _ h => h) (Or.inl ⟨by rfl, ?hr4056⟩) ((unhide HN2).2.1.two) ?_
                      case hr4056 => (intro w hSw; (try dsimp only at hSw); go_simp) <;> with_reducible rfl
                      simp only [Act.put, List.getElem_toArray, List.getElem_cons_zero, List.getElem_cons_succ, List.setIfInBounds_toArray, List.set_cons_zero, List.set_cons_succ]
                      refine anyL_ready (rs := [11]) (by kernel_rfl) (by simp) ?_
                      refine AllL.cons rfl (fun K hK => ?_) AllL.nil
                      go_simp
                      refine (unhide HC).mono ?_
                      rintro y q3 ⟨a9, c9, E9, rfl, p9, s9, o9, x1⟩
                      have HY3 := hide ((unhide HY2).on x1)
                      have HN3 := hide (And.intro ((unhide HN2).1.below x1 (Nat.le_refl _)) (And.intro ((unhide HN2).2.1.below x1 (unhide HN2).2.1.lt) ((unhide HN2).2.2.trans (x1.mono (unhide HN2).2.2.size))))
                      have e8 : D2 = E9 := ((unhide HEQ2) _ p9 s9).symm
                      subst e8
                      clear HC
                      have HC := hide (RSameK_at a9 c9 av cv D2 q3 (own_isKv o9) (unhide HN3).1 (Nat.le_trans hD2 (by decide)))
                      clear p9 s9 o9
                      clear x1 HY2 HN2
                      refine unhide hK _ _ (fun _ => (unhide HN3).2.1.two) ?_
                      clear hK K
                      refine anyL_ready (rs := [14]) (by kernel_rfl) (by simp) ?_
                      refine AllL.cons rfl (fun K hK => ?_) AllL.nil
                      go_simp
                      refine (unhide HC).mono ?_
                      rintro y q4 ⟨rfl, x1⟩
                      have HY4 := hide ((unhide HY3).on x1)
                      have HN4 := hide (And.intro ((unhide HN3).1.below x1 (Nat.le_refl _)) (And.intro ((unhide HN3).2.1.below x1 (unhide HN3).2.1.lt) ((unhide HN3).2.2.trans (x1.mono (unhide HN3).2.2.size))))
                      clear HC
                      clear x1 HY3 HN3
                      refine unhide hK _ _ (fun _ => (unhide HN4).2.1.two) ?_
                      clear hK K
                      refine anyL_take (i := 15) (v := ?vr4057) rfl (by kernel_rfl) (by kernel_rfl) (by kernel_rfl) (by kernel_rfl) (fun _ _ _ h => h) (Or.inl ⟨by rfl, ?hr4057⟩) ((unhide HN4).2.1.two) ?_
                      case hr4057 => (intro w hSw; (try dsimp only at hSw); go_simp) <;> with_reducible rfl
                      simp only [Act.put, List.getElem_toArray, List.getElem_cons_zero, List.getElem_cons_succ, List.setIfInBounds_toArray, List.set_cons_zero, List.set_cons_succ]
                      refine anyL_take (i := 16) (v := ?vr4058) rfl (by kernel_rfl) (by kernel_rfl) (by kernel_rfl) (by kernel_rfl) (fun _ _ _ h => h) (Or.inl ⟨by rfl, ?hr4058⟩) ((unhide HN4).2.1.two) ?_
                      case hr4058 => (intro w hSw; (try dsimp only at hSw); go_simp) <;> with_reducible rfl
                      simp only [Act.put, List.getElem_toArray, List.getElem_cons_zero, List.getElem_cons_succ, List.setIfInBounds_toArray, List.set_cons_zero, List.set_cons_succ]
                      refine anyL_done (by kernel_rfl) ?_ _
                      go_wp2_with fail
                      refine bodyPost_ret (results_tmp rfl _ _ _) rfl ⟨rfl, (unhide HN4).2.2⟩
end Go.Proofs.Ytfllomlighlejaa
