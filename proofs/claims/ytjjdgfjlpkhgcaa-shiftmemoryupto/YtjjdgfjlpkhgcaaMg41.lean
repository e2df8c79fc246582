/- Layer 14: ShiftMemory's walk (written by wip/tools/shm.py). -/
import Derived.Test.YtjjdgfjlpkhgcaaMg40

namespace Go.Proofs.Ytjjdgfjlpkhgcaa
open Go.ChangeShapes Go.WideShapes Go.ChangeAt Go.RowKit
attribute [local go_sem] Oper.semAt_some

theorem memAq {ds : List Dl} {b : Dl} {k : Nat} (hk : k < (ds ++ [b]).length) : (ds ++ [b]).getD k dlZ ∈ ds ++ [b] := mem_dl hk
theorem len2 {n : Nat} (h : n ≤ 1048576) : wrap64 ((n : Int) + 2) = (n : Int) + 2 := by rw [wrapD _ (by omega) (by omega)]
theorem ln_sp (d : List Dop) : (d ++ spare).length = d.length + 2 := by simp [spare]
theorem al_b1 {a b n k : Nat} (h1 : a ≤ k * (n + 4)) (h2 : b ≤ n) (h3 : n ≤ 1048576) (h4 : k < 3) : (a + 1 + b) * 24 ≤ 140737488355328 := by
  have : k * (n + 4) ≤ 3 * (n + 4) := Nat.mul_le_mul_right _ (by omega)
  omega
theorem al_b2 {L QL : List (List Dop)} {QD : List Dop} {n k : Nat} (h1 : L.length ≤ k * (n + 4)) (h2 : QL.length ≤ n) (h3 : n ≤ 1048576) (h4 : k < 3) : ((L ++ QD :: QL).length + 3) * 24 ≤ 140737488355328 := by
  have : k * (n + 4) ≤ 3 * (n + 4) := Nat.mul_le_mul_right _ (by omega)
  simp only [List.length_append, List.length_cons]
  omega
theorem al_b3 {a n : Nat} (h : a ≤ n) (h2 : n ≤ 1048576) : wrap64 (1 + (a : Int)) = 1 + (a : Int) := by rw [wrapD _ (by omega) (by omega)]
theorem al_l1 {L QL M : List (List Dop)} {QD : List Dop} (h : L = QD :: QL ++ M) : 1 + QL.length ≤ L.length := by rw [h]; simp; omega
theorem al_next {L QL R : List (List Dop)} {QD : List Dop} {n k : Nat} (h1 : ∀ d ∈ L, d.length ≤ 536870912) (h2 : L.length ≤ k * (n + 4)) (h3 : 0 < k → ∃ M, L = QD :: QL ++ M) (h7 : k ≤ L.length) (h4 : (QD.length ≤ 536870912 ∧ ∀ d ∈ QL, d.length ≤ 536870912) ∧ QL.length ≤ n) (h5 : ∀ d ∈ R, d.length ≤ 536870912) (h6 : R.length ≤ 3) :
    (∀ d ∈ L ++ QD :: QL ++ R, d.length ≤ 536870912) ∧ (L ++ QD :: QL ++ R).length ≤ (k + 1) * (n + 4) ∧ (0 < k + 1 → ∃ M, L ++ QD :: QL ++ R = QD :: QL ++ M) ∧ k + 1 ≤ (L ++ QD :: QL ++ R).length := by
  refine ⟨fun d hd => ?_, ?_, fun _ => ?_, by simp; omega⟩
  · rcases List.mem_append.1 hd with hd | hd
    · rcases List.mem_append.1 hd with hd | hd
      · exact h1 d hd
      · rcases List.mem_cons.1 hd with rfl | hd
        · exact h4.1.1
        · exact h4.1.2 d hd
    · exact h5 d hd
  · rw [Nat.add_mul, Nat.one_mul]
    simp only [List.length_append, List.length_cons]
    omega
  · rcases Nat.eq_zero_or_pos k with h | h
    · subst h
      have : L = [] := List.eq_nil_of_length_eq_zero (by omega)
      subst this
      exact ⟨R, by simp⟩
    · obtain ⟨M, e⟩ := h3 h
      exact ⟨M ++ QD :: QL ++ R, by rw [e]; simp⟩
theorem al_b4 {a n : Nat} (h : a ≤ 3 * (n + 4)) (h2 : n ≤ 1048576) : a ≤ 4611686018427387904 := by omega
theorem al_lk {X : World} {B k n : Nat} {vs : List Value} {a : Option Addr} {c : Nat} (hp : vs.Pairwise NB) (hk : k < vs.length) (hv : vs.getD k undef = .slice a n c) (hr : ∃ ys, X.ownsRow B 34 3 (.slice a n c) n ys) : ∀ u ∈ vs, Lk u (.slice a n c) := fun u hu => by
  obtain ⟨j, hj, rfl⟩ := List.getElem_of_mem hu
  obtain ⟨ys, hys⟩ := hr
  have e : ∀ m (hm : m < vs.length), vs.getD m undef = vs[m] := fun m hm => by simp [List.getD, List.getElem?_eq_getElem hm]
  by_cases hjk : j = k
  · subst hjk
    rw [← e j hj, hv]; exact Lk.self hys
  · right
    have := nb_get hp hj hk hjk
    rwa [e j hj, hv] at this
theorem len1 {n : Nat} (h : n ≤ 1048576) : wrap64 ((n : Int) + 1) = (n : Int) + 1 ∧ IntKind.i64.wrap ((n : Int) + 1) = (n : Int) + 1 := by
  have h1 : wrap64 ((n : Int) + 1) = (n : Int) + 1 := wrapD _ (by omega) (by omega)
  exact ⟨h1, by rw [IntKind.wrap_i64]; omega⟩
theorem celM_lt {X : World} {g o : Nat} {v : Value} (h : X.cell? ⟨g, o, none⟩ = some v) : g < X.heap.size := by
  rcases Nat.lt_or_ge g X.heap.size with h' | h'
  · exact h'
  · simp [World.cell?, Array.getElem?_eq_none h'] at h
theorem s8_on {X Y : World} {a b c a0 b0 c0 c1 c2 c3 c4 c5 : Nat} {v1 v2 v3 v4 v5 v6 v7 v8 : Value} (hl : a < X.heap.size ∧ b < X.heap.size ∧ c < X.heap.size) (hx : Below X.heap.size X Y)
    (h : X.cell? ⟨a, a0, none⟩ = some v1 ∧ X.cell? ⟨b, b0, none⟩ = some v2 ∧ X.cell? ⟨c, c0, none⟩ = some v3 ∧ X.cell? ⟨c, c1, none⟩ = some v4 ∧ X.cell? ⟨c, c2, none⟩ = some v5 ∧ X.cell? ⟨c, c3, none⟩ = some v6 ∧ X.cell? ⟨c, c4, none⟩ = some v7 ∧ X.cell? ⟨c, c5, none⟩ = some v8) :
    Y.cell? ⟨a, a0, none⟩ = some v1 ∧ Y.cell? ⟨b, b0, none⟩ = some v2 ∧ Y.cell? ⟨c, c0, none⟩ = some v3 ∧ Y.cell? ⟨c, c1, none⟩ = some v4 ∧ Y.cell? ⟨c, c2, none⟩ = some v5 ∧ Y.cell? ⟨c, c3, none⟩ = some v6 ∧ Y.cell? ⟨c, c4, none⟩ = some v7 ∧ Y.cell? ⟨c, c5, none⟩ = some v8 := by
  obtain ⟨h1, h2, h3, h4, h5, h6, h7, h8⟩ := h
  exact ⟨(hx.cell (p := ⟨a, a0, none⟩) hl.1).trans h1, (hx.cell (p := ⟨b, b0, none⟩) hl.2.1).trans h2, (hx.cell (p := ⟨c, c0, none⟩) hl.2.2).trans h3, (hx.cell (p := ⟨c, c1, none⟩) hl.2.2).trans h4, (hx.cell (p := ⟨c, c2, none⟩) hl.2.2).trans h5, (hx.cell (p := ⟨c, c3, none⟩) hl.2.2).trans h6, (hx.cell (p := ⟨c, c4, none⟩) hl.2.2).trans h7, (hx.cell (p := ⟨c, c5, none⟩) hl.2.2).trans h8⟩
theorem l9_on {X Y : World} {a b c : Nat} (hl : a < X.heap.size ∧ b < X.heap.size ∧ c < X.heap.size) (hx : Below X.heap.size X Y) : a < Y.heap.size ∧ b < Y.heap.size ∧ c < Y.heap.size := ⟨Nat.lt_of_lt_of_le hl.1 hx.size, Nat.lt_of_lt_of_le hl.2.1 hx.size, Nat.lt_of_lt_of_le hl.2.2 hx.size⟩
theorem bd_sp {d : List Dop} (h : d.length ≤ 1048576) : (([] : List Dop).length + d.length) * 32 ≤ 140737488355328 ∧ (([] ++ d : List Dop).length + spare.length) * 32 ≤ 140737488355328 := by simp [spare]; omega
set_option maxRecDepth 100000 in
set_option maxHeartbeats 8000000 in
theorem ShiftMemory_any (A0 : Option Addr) (cc : Nat) (ds : List Dl) (a2 : Option Addr) (c2 : Nat) (e : List Dop) (w : World) (hx : IsDx w w A0 ds) (hlx : ds.length ≤ 1048576) (hdx : ∀ x ∈ ds, DlIu w x) (hy : IsO w a2 e) (_hzy : e = [] ∨ ∃ q, a2 = some q) (hly : e.length ≤ 1048576) (hty : ∀ o ∈ e, TbD o ∧ o.t.length ≤ 1048576) :
    Calls Try.prog 4 #[.slice A0 ds.length cc, .slice a2 e.length c2] w fun y w' => y = .returned (.bool true) ∧ Below w.heap.size w w' := by
  have HAw := hide (fixed14_at w)
  have qY : ∀ o ∈ e, o.t.length ≤ 140737488355328 := fun o ho => Nat.le_trans (hty o ho).2 (by decide)
  have tY := tx_of hly hty
  have lY : e.length ≤ 4611686018427387904 := Nat.le_trans hly (by decide)
  have hds : ∀ x ∈ ds, x.d.length ≤ 4611686018427387904 ∧ txD x.d ≤ 1099511627776 := fun x hx => ⟨Nat.le_trans (hdx x hx).l (by decide), tx_of (hdx x hx).l (hdx x hx).t⟩
  have HG1 := hide fun (X : World) (hX : Below w.heap.size w X) => great14_at A0 cc ds w X (hx.on hX) hX (Nat.le_trans hlx (by decide)) hds
  have HG2 := hide fun (X : World) (hX : Below w.heap.size w X) => great1_at ⟨a2, c2, e⟩ w X hy qY hX ⟨lY, tY⟩
  dsimp only at HG2
  have HCP := hide fun (X : World) (hX : Below w.heap.size w X) => as_copy A0 cc ds ⟨a2, c2, e⟩ w X (hx.on hX) hlx
  have HRC := hide fun (X : World) (hX : Below w.heap.size w X) => RChain14_at A0 cc ds a2 c2 e X (hx.up hX) (hy.below hX (Nat.le_refl _)) hlx hly tY hds
  have HAS : Hid (∀ x ∈ ds ++ [(⟨a2, c2, e⟩ : Dl)], AsI w x) := hide fun x hx => by
    rcases List.mem_append.1 hx with hx | hx
    · exact ⟨(hdx x hx).o, (hdx x hx).l, (hdx x hx).t⟩
    · rw [List.mem_singleton.1 hx]; exact ⟨hy, hly, hty⟩
  have hN : (ds ++ [(⟨a2, c2, e⟩ : Dl)]).length = ds.length + 1 := by simp
  have hq1 : ((ds ++ [(⟨a2, c2, e⟩ : Dl)]).map (·.d)).take ds.length = ds.map (·.d) := by simp
  have hq2 : ((ds ++ [(⟨a2, c2, e⟩ : Dl)]).map (·.d)).getD ds.length [] = e := by simp [List.getD]
  have HQ := hide (And.intro hq1 hq2)
  have hNl : (ds ++ [(⟨a2, c2, e⟩ : Dl)]).length ≤ 1048577 := by rw [hN]; omega
  have HN := hide (And.intro hN hNl)
  have hpd : ∀ x ∈ ds, PdL x.d := fun x hx => ⟨fun o ho => ⟨((hdx x hx).t o ho).1, Nat.le_trans ((hdx x hx).t o ho).2 (by decide)⟩, Nat.le_trans (hdx x hx).l (by decide)⟩
  have hpe : PdL e := ⟨fun o ho => ⟨(hty o ho).1, qY o ho⟩, lY⟩
  obtain ⟨pD, pL⟩ := pd_cn hpd hpe
  have HLS := hide (And.intro (cn_lenS ds e) (cn_len (ds := ds) (e := e)))
  have HSM := hide fun (X : World) (a3 : Option Addr) (c3 : Nat) (a4 : Option Addr) (c4 : Nat) (h3 : IsO X a3 (cnQ ds e).1.1) (h4 : IsO X a4 (cnQ ds e).1.1) => RSame14_at a3 c3 _ a4 c4 _ X h3 h4 pD.2 pD.2 (fun o ho => (pD.1 o ho).1) (fun o ho => (pD.1 o ho).1)
  simp only [decide_true] at HSM
  have HPL := hide pL
  clear hx hdx hy hty qY tY lY hds hN hNl hq1 hq2 hpd hpe pD pL
  dsimp only at HCP
  obtain ⟨Q, hQ⟩ : ∃ Q, Q = cnQ ds e := ⟨_, rfl⟩
  unfold RChP at HRC
  rw [← hQ] at HRC HLS HSM HPL
  obtain ⟨⟨QD, QL⟩, QE⟩ := Q
  dsimp only at HRC HLS HSM HPL
  have HQQ := hide hQ
  clear hQ
  generalize haq : ds ++ [(⟨a2, c2, e⟩ : Dl)] = aq at *
  have HAQ := hide haq
  clear haq
  generalize gwB0 : grB ds = G1 at *
  generalize gwB1 : grB [⟨a2, c2, e⟩] = G2 at *
  clear gwB0 gwB1
  go_enter Try.func4, Try.ntmps4
  go_wp2_with fail
  refine (unhide HAw).mono ?_
  rintro y w1 ⟨rfl, x1⟩
  dsimp only
  have HX1 := hide x1
  clear HAw x1
  have HC2 := hide (unhide HG1 w1 (unhide HX1))
  go_wp2_with fail
  refine (unhide HC2).mono ?_
  rintro y w2 ⟨rfl, x2⟩
  dsimp only
  have HX2 := hide ((unhide HX1).trans (x2.mono (unhide HX1).size))
  clear HC2 HX1 x2 HG1
  cases G1 with
  | true =>
    go_wp2_with fail
    refine bodyPost_ret (results_tmp rfl _ _ _) rfl ⟨rfl, unhide HX2⟩
  | false =>
    have HC3 := hide (unhide HG2 w2 (unhide HX2))
    go_wp2_with fail
    refine (unhide HC3).mono ?_
    rintro y w3 ⟨rfl, x3⟩
    dsimp only
    have HX3 := hide ((unhide HX2).trans (x3.mono (unhide HX2).size))
    clear HC3 HX2 x3 HG2
    cases G2 with
    | true =>
      go_wp2_with fail
      refine bodyPost_ret (results_tmp rfl _ _ _) rfl ⟨rfl, unhide HX3⟩
    | false =>
      obtain ⟨l1, X1, gL, cL, Xa, r1, r2, oL, bL⟩ := unhide HCP w3 (unhide HX3)
      have R1 := hide r1
      have R2 := hide r2
      have HOL := hide oL
      have HXa := hide ((unhide HX3).trans (bL.mono (unhide HX3).size))
      clear r1 r2 oL bL HX3
      go_wp2_with (at_builtin; first | (refine wpList_append_known rfl _ _ 57 57 rfl _ _ rfl rfl _ _ (unhide R1) ?_; clear R1) | (refine wpList_append_known rfl _ _ 57 57 rfl _ _ rfl rfl _ _ (unhide R2) ?_; clear R2))
      go_loopw [5, 6, 8, 9, 49] (fun v5 v6 v8 v9 v49 wx => ((∃ z, v8 = z) ∧ (∃ z, v9 = z)) ∧ ∃ k : Nat, v49 = .int .i64 (k : Int) ∧ k ≤ aq.length ∧ Hid (MiM Xa wx v5 v6 ((aq.take k).map (·.d)))) (fun _ _ _ _ v49 _ => aq.length - (intOf v49).toNat)
      case atStart => exact ⟨⟨⟨_, rfl⟩, ⟨_, rfl⟩⟩, ⟨0, rfl, Nat.zero_le _, hide (MiM.nil Xa)⟩⟩
      case round =>
        obtain ⟨⟨⟨z1, rfl⟩, ⟨z2, rfl⟩⟩, ⟨k, rfl, hk, HM⟩⟩ := hrel
        by_cases hlt : k < aq.length
        · obtain ⟨s1, s2, s3⟩ := dlt hlt
          have hq := (rwk_cell (unhide HOL) k (by omega)).1
          have q0 := ((unhide HM).d.cell (p := ⟨gL, k, none⟩) (rwk_lt (unhide HOL) (g := gL) rfl)).trans hq
          rw [List.getElem?_map, List.getElem?_eq_getElem hlt, Option.map_some, show aq[k] = aq.getD k dlZ by simp [List.getD, List.getElem?_eq_getElem hlt]] at q0
          have hA := unhide HAS _ (mem_dl hlt)
          have HTK := hide (tkD hlt)
          have hsz := lenM hlt (unhide HN).2
          have Wk := gr_w hlt (Nat.le_trans (unhide HN).2 (show 1048577 ≤ 4611686018427387904 by decide))
          clear hk hq
          generalize aq.getD k dlZ = x at *
          obtain ⟨xa, xc, xd⟩ := x
          unfold dlV at q0
          dsimp only at *
          have hW2 := len2 hA.l
          obtain ⟨wm, rm, om, bm⟩ := make_opM wr (xd.length + 2) (by have := hA.l; dsimp only at this; omega)
          rw [show (((xd.length + 2 : Nat)) : Int) = (xd.length : Int) + 2 by omega] at rm
          have hOx : IsO wm xa xd := hA.o.below ((unhide HXa).trans ((unhide HM).d.mono (unhide HXa).size) |>.trans (bm.mono (Nat.le_trans (unhide HXa).size (unhide HM).d.size))) (Nat.le_refl _)
          obtain ⟨vr, Wr, rr, orr, _, br⟩ := app_op wm wr.heap.size _ [] xa xc xd 24 om hOx (bd_sp hA.l).1 bm.size
          have hbr := bm.trans br
          have HOr := hide orr
          have HBr := hide hbr
          have R1 := hide rr
          have HbS := hide (bd_sp hA.l).2
          have HlA := hide hA.l
          clear om bm hOx orr br hbr rr hA HOL
          go_wp2_with (at_builtin; refine wpList_append_known rfl _ _ 24 24 rfl _ _ rfl rfl _ _ (unhide R1) ?_; clear R1)
          have HCp := hide (put14_at ⟨#[115, 112, 97, 114, 101]⟩ Wr)
          refine (unhide HCp).mono ?_
          rintro y w4 ⟨rfl, x4⟩
          dsimp only
          have HCd := hide (drop14_at 77 w4)
          have HOr4 := hide (rowD_below (unhide HOr) x4 (Nat.le_refl _))
          have HBr4 := hide ((unhide HBr).trans (x4.mono (unhide HBr).size))
          clear HCp HOr HBr x4
          go_wp2_with fail
          refine (unhide HCd).mono ?_
          rintro y w5 ⟨rfl, x5⟩
          dsimp only
          have HOr5 := hide (rowD_below (unhide HOr4) x5 (Nat.le_refl _))
          have HBr5 := hide ((unhide HBr4).trans (x5.mono (unhide HBr4).size))
          clear HCd HOr4 HBr4 x5
          have bS := (Below.refl w5.heap.size w5).alloc (Nat.le_refl _) (.cells #[.int .i64 2, .int .i64 0, .string ⟨#[115, 112, 97, 114, 101]⟩, .int .i64 3, .int .i64 77, .string ⟨#[]⟩] 34)
          obtain ⟨vq, Wq, rq, oq, _, bq⟩ := app_op _ wr.heap.size vr ([] ++ xd) (some ⟨w5.heap.size, 0, none⟩) 2 spare 24 (rowD_below (unhide HOr5) bS (Nat.le_refl _)) (spare_lit w5) (unhide HbS) (by rw [World.size_alloc]; exact Nat.le_succ_of_le (unhide HBr5).size)
          rw [List.nil_append] at oq
          have HBq := hide (((unhide HBr5).trans (bS.mono (unhide HBr5).size)).trans bq)
          have R2 := hide rq
          have hqq := oq
          obtain ⟨aq9, cq, hvq, _, hcq⟩ := own_isO oq
          rw [ln_sp] at hvq hcq
          obtain ⟨gq, haq⟩ : ∃ gq, aq9 = some ⟨gq, 0, none⟩ := by
            rcases hqq.2 with ⟨h1, h2⟩ | ⟨g, c, _, h1, _⟩
            · rw [ln_sp] at h2; omega
            · rw [hvq] at h1; injection h1 with h1; exact ⟨g, h1⟩
          subst haq
          subst hvq
          have hqq2 := own_lower hqq (unhide HM).d.size
          obtain ⟨v6', W7, v5', W8, r3, r4, m8⟩ := ((unhide HM).on (unhide HBq)).push hqq2 hsz
          rw [← unhide HTK] at m8
          have R3 := hide r3
          have R4 := hide r4
          have HM8 := hide m8
          have hc9 : xd.length ≤ cq := by omega
          clear HOr5 HBr5 bS rq oq bq hqq HbS hqq2 r3 r4 m8 HBq HM HTK hsz hcq q0
          go_wp2_with (at_builtin; first | (refine wpList_append_known rfl _ _ 24 24 rfl _ _ rfl rfl _ _ (unhide R2) ?_; clear R2) | (refine wpList_append_known rfl _ _ 57 57 rfl _ _ rfl rfl _ _ (unhide R3) ?_; clear R3) | (refine wpList_append_known rfl _ _ 57 57 rfl _ _ rfl rfl _ _ (unhide R4) ?_; clear R4))
          go_roundw
          case rel => exact ⟨⟨⟨_, rfl⟩, ⟨_, rfl⟩⟩, ⟨k + 1, by first | rfl | exact congrArg _ Wk | go_num, hlt, HM8⟩⟩
          case measure => first | exact gr_ms3 hlt | exact gr_ms hlt Wk
        · obtain rfl : k = aq.length := Nat.le_antisymm hk (Nat.not_lt.1 hlt)
          obtain ⟨s1, s2, s3⟩ := dnl hlt
          rw [List.take_length] at HM
          have hmm := unhide HM
          rw [← unhide HAQ] at hmm
          obtain ⟨G, c5, aN, cN, a0, c0, hv5, hc5, hG, qN, hCH, hPos⟩ := mine_of (w := w) hmm (by rw [unhide HAQ]; exact unhide HAS) hlx
          obtain ⟨g6, n6, c6, hv6⟩ : ∃ g6 n6 c6, u6 = .slice (some ⟨g6, 0, none⟩) n6 c6 := by
            obtain ⟨ms, rs, _, o6, _⟩ := hmm.m
            obtain ⟨g6, c6, e6, _, _⟩ := o6.form (by simp)
            exact ⟨g6, _, c6, e6⟩
          dsimp only at qN hCH hPos
          rw [← unhide HQQ] at hCH
          dsimp only at hCH
          subst hv5
          subst hv6
          have HMb := hide (unhide HM)
          have HCH := hide hCH
          have HPos := hide hPos
          have HWb := hide ((unhide HXa).trans (hmm.d.mono (unhide HXa).size))
          have HQN := hide (And.intro hG qN)
          clear hCH hPos hmm HM hk hlt HOL HXa qN hG
          generalize wr = wb at *
          go_wp2_with fail
          go_loopw [11, 12, 13, 14, 15, 16, 17, 18, 19, 20] (fun v11 v12 v13 v14 v15 v16 v17 v18 v19 v20 wx => ((∃ z, v13 = z) ∧ (∃ z, v14 = z) ∧ (∃ z, v15 = z) ∧ (∃ z, v16 = z) ∧ (∃ z, v17 = z) ∧ (∃ z, v18 = z) ∧ (∃ z, v19 = z) ∧ (∃ z, v20 = z)) ∧ ∃ (k : Nat) (vs : List Value) (L : List (List Dop)), v12 = .int .i64 (k : Int) ∧ k ≤ 3 ∧ Hid (AlM wb wx v11 vs L ∧ (∀ d ∈ L, d.length ≤ 536870912) ∧ L.length ≤ k * (ds.length + 4) ∧ (0 < k → ∃ M, L = QD :: QL ++ M) ∧ k ≤ L.length)) (fun _ v12 _ _ _ _ _ _ _ _ _ => 3 - (intOf v12).toNat)
          case atStart => exact ⟨⟨⟨_, rfl⟩, ⟨_, rfl⟩, ⟨_, rfl⟩, ⟨_, rfl⟩, ⟨_, rfl⟩, ⟨_, rfl⟩, ⟨_, rfl⟩, ⟨_, rfl⟩⟩, ⟨0, [], [], rfl, Nat.zero_le _, hide ⟨AlM.nil wb wb (Below.refl _ _), by simp, by simp, by simp, Nat.zero_le _⟩⟩⟩
          case round =>
            obtain ⟨⟨⟨y1, rfl⟩, ⟨y2, rfl⟩, ⟨y3, rfl⟩, ⟨y4, rfl⟩, ⟨y5, rfl⟩, ⟨y6, rfl⟩, ⟨y7, rfl⟩, ⟨y8, rfl⟩⟩, ⟨k, vs, L, rfl, hk, HI⟩⟩ := hrel
            by_cases hlt : k < 3
            · have p1 : decide ((k : Int) < 3) = true := decide_eq_true (by omega)
              have p2 : (k : Int) < 3 := by omega
              obtain ⟨hA, hL1, hL2, hL3, hL4⟩ := unhide HI
              have q0 := (hA.d.cell (p := ⟨G, ds.length, none⟩) (unhide HQN).1).trans (unhide HQN).2
              have HS0 : Hid (wr.drew.cell? ⟨G, ds.length, none⟩ = some (.slice aN e.length cN)) := hide q0
              have HC := hide (unhide HCH wr.drew hA.d.drew)
              have HA := hide (hA.on (Below.refl wr.heap.size wr).drew)
              have HL := hide (And.intro hL1 (And.intro hL2 (And.intro hL3 hL4)))
              have hd1 : (ds.length : Int) < (ds.length : Int) + 1 := by omega
              have hd2 : ds.length ≤ c5 := by omega
              clear hA hL1 hL2 hL3 hL4 HI q0
              go_wp2_with fail
              refine regionL (S := fun w' => w'.cell? ⟨G, ds.length, none⟩ = some (.slice aN e.length cN)) (fun _ => false) (by kernel_rfl) ?_
              generalize wr.drew = wd at *
              refine anyL_take (i := 0) (v := ?vra0) rfl (by kernel_rfl) (by kernel_rfl) (by kernel_rfl) (by kernel_rfl) (fun _ _ _ h => h) (Or.inl ⟨by rfl, ?hra0⟩) (unhide HS0) ?_
              case hra0 => (intro w hSw; (try dsimp only at hSw); go_simp) <;> with_reducible rfl
              simp only [Act.put, List.getElem_toArray, List.getElem_cons_zero, List.setIfInBounds_toArray, List.set_cons_zero, List.set_cons_succ]
              refine anyL_take (i := 1) (v := ?vra1) rfl (by kernel_rfl) (by kernel_rfl) (by kernel_rfl) (by kernel_rfl) (fun _ _ _ h => h) (Or.inl ⟨by rfl, ?hra1⟩) (unhide HS0) ?_
              case hra1 => (intro w hSw; (try dsimp only at hSw); go_simp) <;> with_reducible rfl
              simp only [Act.put, List.getElem_toArray, List.getElem_cons_zero, List.getElem_cons_succ, List.setIfInBounds_toArray, List.set_cons_zero, List.set_cons_succ]
              refine anyL_take (i := 2) (v := ?vra2) rfl (by kernel_rfl) (by kernel_rfl) (by kernel_rfl) (by kernel_rfl) (fun _ _ _ h => h) (Or.inl ⟨by rfl, ?hra2⟩) (unhide HS0) ?_
              case hra2 => (intro w hSw; (try dsimp only at hSw); go_simp) <;> with_reducible rfl
              simp only [Act.put, List.getElem_toArray, List.getElem_cons_zero, List.getElem_cons_succ, List.setIfInBounds_toArray, List.set_cons_zero, List.set_cons_succ]
              refine anyL_take (i := 3) (v := ?vra3) rfl (by kernel_rfl) (by kernel_rfl) (by kernel_rfl) (by kernel_rfl) (fun _ _ _ h => h) (Or.inl ⟨by rfl, ?hra3⟩) (unhide HS0) ?_
              case hra3 => (intro w hSw; (try dsimp only at hSw); go_simp) <;> with_reducible rfl
              simp only [Act.put, List.getElem_toArray, List.getElem_cons_zero, List.getElem_cons_succ, List.setIfInBounds_toArray, List.set_cons_zero, List.set_cons_succ]
              refine anyL_take (i := 4) (v := ?vra4) rfl (by kernel_rfl) (by kernel_rfl) (by kernel_rfl) (by kernel_rfl) (fun _ _ _ h => h) (Or.inl ⟨by rfl, ?hra4⟩) (unhide HS0) ?_
              case hra4 => (intro w hSw; (try dsimp only at hSw); go_simp) <;> with_reducible rfl
              simp only [Act.put, List.getElem_toArray, List.getElem_cons_zero, List.getElem_cons_succ, List.setIfInBounds_toArray, List.set_cons_zero, List.set_cons_succ]
              refine anyL_take (i := 5) (v := ?vra5) rfl (by kernel_rfl) (by kernel_rfl) (by kernel_rfl) (by kernel_rfl) (fun _ _ _ h => h) (Or.inl ⟨by rfl, ?hra5⟩) (unhide HS0) ?_
              case hra5 => (intro w hSw; (try dsimp only at hSw); go_simp) <;> with_reducible rfl
              simp only [Act.put, List.getElem_toArray, List.getElem_cons_zero, List.getElem_cons_succ, List.setIfInBounds_toArray, List.set_cons_zero, List.set_cons_succ]
              refine anyL_take (i := 6) (v := ?vra6) rfl (by kernel_rfl) (by kernel_rfl) (by kernel_rfl) (by kernel_rfl) (fun _ _ _ h => h) (Or.inl ⟨by rfl, ?hra6⟩) (unhide HS0) ?_
              case hra6 => (intro w hSw; (try dsimp only at hSw); go_simp) <;> with_reducible rfl
              simp only [Act.put, List.getElem_toArray, List.getElem_cons_zero, List.getElem_cons_succ, List.setIfInBounds_toArray, List.set_cons_zero, List.set_cons_succ]
              refine anyL_ready (rs := [7]) (by kernel_rfl) (by simp) ?_
              refine AllL.cons rfl (fun K hK => ?_) AllL.nil
              go_simp
              refine (unhide HC).mono ?_
              rintro y w4 ⟨v1, v8, rfl, m4, a4⟩
              dsimp only
              have HM4 := hide m4
              have HA4 := hide a4
              have HS4 : Hid (w4.cell? ⟨G, ds.length, none⟩ = some (.slice aN e.length cN)) := hide ((((unhide HA).d.trans (m4.d.mono (unhide HA).d.size)).cell (p := ⟨G, ds.length, none⟩) (unhide HQN).1).trans (unhide HQN).2)
              clear m4 a4 HC
              refine unhide hK _ _ (fun _ => unhide HS4) ?_
              clear hK K
              refine anyL_take (i := 8) (v := ?vra7) rfl (by kernel_rfl) (by kernel_rfl) (by kernel_rfl) (by kernel_rfl) (fun _ _ _ h => h) (Or.inl ⟨by rfl, ?hra7⟩) (unhide HS4) ?_
              case hra7 => (intro w hSw; (try dsimp only at hSw); go_simp) <;> with_reducible rfl
              simp only [Act.put, List.getElem_toArray, List.getElem_cons_zero, List.getElem_cons_succ, List.setIfInBounds_toArray, List.set_cons_zero, List.set_cons_succ]
              refine anyL_take (i := 9) (v := ?vra8) rfl (by kernel_rfl) (by kernel_rfl) (by kernel_rfl) (by kernel_rfl) (fun _ _ _ h => h) (Or.inl ⟨by rfl, ?hra8⟩) (unhide HS4) ?_
              case hra8 => (intro w hSw; (try dsimp only at hSw); go_simp) <;> with_reducible rfl
              simp only [Act.put, List.getElem_toArray, List.getElem_cons_zero, List.getElem_cons_succ, List.setIfInBounds_toArray, List.set_cons_zero, List.set_cons_succ]
              refine anyL_take (i := 10) (v := ?vra9) rfl (by kernel_rfl) (by kernel_rfl) (by kernel_rfl) (by kernel_rfl) (fun _ _ _ h => h) (Or.inl ⟨by rfl, ?hra9⟩) (unhide HS4) ?_
              case hra9 => (intro w hSw; (try dsimp only at hSw); go_simp) <;> with_reducible rfl
              simp only [Act.put, List.getElem_toArray, List.getElem_cons_zero, List.getElem_cons_succ, List.setIfInBounds_toArray, List.set_cons_zero, List.set_cons_succ]
              refine anyL_take (i := 11) (v := ?vra10) rfl (by kernel_rfl) (by kernel_rfl) (by kernel_rfl) (by kernel_rfl) (fun _ _ _ h => h) (Or.inl ⟨by rfl, ?hra10⟩) (unhide HS4) ?_
              case hra10 => (intro w hSw; (try dsimp only at hSw); go_simp) <;> with_reducible rfl
              simp only [Act.put, List.getElem_toArray, List.getElem_cons_zero, List.getElem_cons_succ, List.setIfInBounds_toArray, List.set_cons_zero, List.set_cons_succ]
              refine anyL_take (i := 12) (v := ?vra11) rfl (by kernel_rfl) (by kernel_rfl) (by kernel_rfl) (by kernel_rfl) (fun _ _ _ h => h) (Or.inl ⟨by rfl, ?hra11⟩) (unhide HS4) ?_
              case hra11 => (intro w hSw; (try dsimp only at hSw); go_simp) <;> with_reducible rfl
              simp only [Act.put, List.getElem_toArray, List.getElem_cons_zero, List.getElem_cons_succ, List.setIfInBounds_toArray, List.set_cons_zero, List.set_cons_succ]
              refine anyL_take (i := 13) (v := ?vra12) rfl (by kernel_rfl) (by kernel_rfl) (by kernel_rfl) (by kernel_rfl) (fun _ _ _ h => h) (Or.inl ⟨by rfl, ?hra12⟩) (unhide HS4) ?_
              case hra12 => (intro w hSw; (try dsimp only at hSw); go_simp) <;> with_reducible rfl
              simp only [Act.put, List.getElem_toArray, List.getElem_cons_zero, List.getElem_cons_succ, List.setIfInBounds_toArray, List.set_cons_zero, List.set_cons_succ]
              refine anyL_take (i := 14) (v := ?vra13) rfl (by kernel_rfl) (by kernel_rfl) (by kernel_rfl) (by kernel_rfl) (fun _ _ _ h => h) (Or.inl ⟨by rfl, ?hra13⟩) (unhide HS4) ?_
              case hra13 => (intro w hSw; (try dsimp only at hSw); go_simp) <;> with_reducible rfl
              simp only [Act.put, List.getElem_toArray, List.getElem_cons_zero, List.getElem_cons_succ, List.setIfInBounds_toArray, List.set_cons_zero, List.set_cons_succ]
              refine anyL_done (by kernel_rfl) ?_ _
              clear HS4 HS0
              obtain ⟨aD, cD, hvD, _, _⟩ := own_isO (unhide HM4).b
              subst hvD
              have hlen : (L.length + 1 + QL.length) * 24 ≤ 140737488355328 := al_b1 (unhide HL).2.1 (unhide HLS).2 hlx hlt
              obtain ⟨v', W1, v'', W2, us, r1, r2, m2⟩ := al_chain (unhide HA) (unhide HM4) (unhide HA4) hlen
              have R1 := hide r1
              have R2 := hide r2
              have HA2 := hide m2
              clear r1 r2 m2 HA HM4 HA4 hlen
              by_cases hpos : 0 < ds.length
              · have p3 : decide ((ds.length : Int) > 0) = true := decide_eq_true (by omega)
                have p4 : decide (0 < (ds.length : Int)) = true := decide_eq_true (by omega)
                have p5 : decide (0 < ds.length) = true := decide_eq_true hpos
                obtain ⟨hq0, hBo, hOv⟩ := unhide HPos hpos
                have HBo := hide hBo
                have HOv := hide hOv
                have HQ0 := hide hq0
                clear hq0 hBo hOv HPos HCH
                generalize ds.getD 0 dlZ = x0 at *
                obtain ⟨xa0, xc0, d0⟩ := x0
                dsimp only at HBo HOv HQ0
                go_wp2_with (at_builtin; first | (refine wpList_append_known rfl _ _ 57 57 rfl _ _ rfl rfl _ _ (unhide R1) ?_; clear R1) | (refine wpList_append_known rfl _ _ 57 57 rfl _ _ rfl rfl _ _ (unhide R2) ?_; clear R2))
                have hA2 := unhide HA2
                have q1 := (hA2.d.cell (p := ⟨G, ds.length, none⟩) (unhide HQN).1).trans (unhide HQN).2
                have q2 := (hA2.d.cell (p := ⟨G, 0, none⟩) (unhide HQN).1).trans (unhide HQ0)
                have HS1 : Hid (W2.drew.cell? ⟨G, 0, none⟩ = some (.slice a0 d0.length c0) ∧ W2.drew.cell? ⟨G, ds.length, none⟩ = some (.slice aN e.length cN)) := hide ⟨q2, q1⟩
                have HC1 := hide (unhide HBo W2.drew hA2.d.drew)
                have HB2 := hide ((Below.refl W2.heap.size W2).drew)
                have hd3 : (0 : Int) < (ds.length : Int) + 1 := by omega
                clear hA2 q1 q2
                refine regionL (S := fun w' => w'.cell? ⟨G, 0, none⟩ = some (.slice a0 d0.length c0) ∧ w'.cell? ⟨G, ds.length, none⟩ = some (.slice aN e.length cN)) (fun _ => false) (by kernel_rfl) ?_
                generalize W2.drew = wd2 at *
                refine anyL_take (i := 0) (v := ?vrb14) rfl (by kernel_rfl) (by kernel_rfl) (by kernel_rfl) (by kernel_rfl) (fun _ _ _ h => h) (Or.inl ⟨by rfl, ?hrb14⟩) (unhide HS1) ?_
                case hrb14 => (intro w hSw; (try dsimp only at hSw); go_simp) <;> with_reducible rfl
                simp only [Act.put, List.getElem_toArray, List.getElem_cons_zero, List.setIfInBounds_toArray, List.set_cons_zero, List.set_cons_succ]
                refine anyL_take (i := 1) (v := ?vrb15) rfl (by kernel_rfl) (by kernel_rfl) (by kernel_rfl) (by kernel_rfl) (fun _ _ _ h => h) (Or.inl ⟨by rfl, ?hrb15⟩) (unhide HS1) ?_
                case hrb15 => (intro w hSw; (try dsimp only at hSw); go_simp) <;> with_reducible rfl
                simp only [Act.put, List.getElem_toArray, List.getElem_cons_zero, List.getElem_cons_succ, List.setIfInBounds_toArray, List.set_cons_zero, List.set_cons_succ]
                refine anyL_take (i := 2) (v := ?vrb16) rfl (by kernel_rfl) (by kernel_rfl) (by kernel_rfl) (by kernel_rfl) (fun _ _ _ h => h) (Or.inl ⟨by rfl, ?hrb16⟩) (unhide HS1) ?_
                case hrb16 => (intro w hSw; (try dsimp only at hSw); go_simp) <;> with_reducible rfl
                simp only [Act.put, List.getElem_toArray, List.getElem_cons_zero, List.getElem_cons_succ, List.setIfInBounds_toArray, List.set_cons_zero, List.set_cons_succ]
                refine anyL_take (i := 3) (v := ?vrb17) rfl (by kernel_rfl) (by kernel_rfl) (by kernel_rfl) (by kernel_rfl) (fun _ _ _ h => h) (Or.inl ⟨by rfl, ?hrb17⟩) (unhide HS1) ?_
                case hrb17 => (intro w hSw; (try dsimp only at hSw); go_simp) <;> with_reducible rfl
                simp only [Act.put, List.getElem_toArray, List.getElem_cons_zero, List.getElem_cons_succ, List.setIfInBounds_toArray, List.set_cons_zero, List.set_cons_succ]
                refine anyL_take (i := 4) (v := ?vrb18) rfl (by kernel_rfl) (by kernel_rfl) (by kernel_rfl) (by kernel_rfl) (fun _ _ _ h => h) (Or.inl ⟨by rfl, ?hrb18⟩) (unhide HS1) ?_
                case hrb18 => (intro w hSw; (try dsimp only at hSw); go_simp) <;> with_reducible rfl
                simp only [Act.put, List.getElem_toArray, List.getElem_cons_zero, List.getElem_cons_succ, List.setIfInBounds_toArray, List.set_cons_zero, List.set_cons_succ]
                refine anyL_take (i := 5) (v := ?vrb19) rfl (by kernel_rfl) (by kernel_rfl) (by kernel_rfl) (by kernel_rfl) (fun _ _ _ h => h) (Or.inl ⟨by rfl, ?hrb19⟩) (unhide HS1) ?_
                case hrb19 => (intro w hSw; (try dsimp only at hSw); go_simp) <;> with_reducible rfl
                simp only [Act.put, List.getElem_toArray, List.getElem_cons_zero, List.getElem_cons_succ, List.setIfInBounds_toArray, List.set_cons_zero, List.set_cons_succ]
                refine anyL_take (i := 6) (v := ?vrb20) rfl (by kernel_rfl) (by kernel_rfl) (by kernel_rfl) (by kernel_rfl) (fun _ _ _ h => h) (Or.inl ⟨by rfl, ?hrb20⟩) (unhide HS1) ?_
                case hrb20 => (intro w hSw; (try dsimp only at hSw); go_simp) <;> with_reducible rfl
                simp only [Act.put, List.getElem_toArray, List.getElem_cons_zero, List.getElem_cons_succ, List.setIfInBounds_toArray, List.set_cons_zero, List.set_cons_succ]
                refine anyL_ready (rs := [7]) (by kernel_rfl) (by simp) ?_
                refine AllL.cons rfl (fun K hK => ?_) AllL.nil
                go_simp
                refine (unhide HC1).mono ?_
                rintro y w5 ⟨v2, v3, rfl, o2, o3, n23, x5⟩
                dsimp only
                have HO2 := hide (And.intro o2 (And.intro o3 n23))
                have HX5 := hide x5
                have HS5 := hide (And.intro ((x5.cell (p := ⟨G, 0, none⟩) (Nat.lt_of_lt_of_le (unhide HQN).1 ((unhide HA2).d.trans ((unhide HB2).mono (unhide HA2).d.size)).size)).trans (unhide HS1).1) ((x5.cell (p := ⟨G, ds.length, none⟩) (Nat.lt_of_lt_of_le (unhide HQN).1 ((unhide HA2).d.trans ((unhide HB2).mono (unhide HA2).d.size)).size)).trans (unhide HS1).2))
                clear o2 o3 n23 x5 HC1
                refine unhide hK _ _ (fun _ => unhide HS5) ?_
                clear hK K
                refine anyL_take (i := 8) (v := ?vrb21) rfl (by kernel_rfl) (by kernel_rfl) (by kernel_rfl) (by kernel_rfl) (fun _ _ _ h => h) (Or.inl ⟨by rfl, ?hrb21⟩) (unhide HS5) ?_
                case hrb21 => (intro w hSw; (try dsimp only at hSw); go_simp) <;> with_reducible rfl
                simp only [Act.put, List.getElem_toArray, List.getElem_cons_zero, List.getElem_cons_succ, List.setIfInBounds_toArray, List.set_cons_zero, List.set_cons_succ]
                refine anyL_take (i := 9) (v := ?vrb22) rfl (by kernel_rfl) (by kernel_rfl) (by kernel_rfl) (by kernel_rfl) (fun _ _ _ h => h) (Or.inl ⟨by rfl, ?hrb22⟩) (unhide HS5) ?_
                case hrb22 => (intro w hSw; (try dsimp only at hSw); go_simp) <;> with_reducible rfl
                simp only [Act.put, List.getElem_toArray, List.getElem_cons_zero, List.getElem_cons_succ, List.setIfInBounds_toArray, List.set_cons_zero, List.set_cons_succ]
                refine anyL_take (i := 10) (v := ?vrb23) rfl (by kernel_rfl) (by kernel_rfl) (by kernel_rfl) (by kernel_rfl) (fun _ _ _ h => h) (Or.inl ⟨by rfl, ?hrb23⟩) (unhide HS5) ?_
                case hrb23 => (intro w hSw; (try dsimp only at hSw); go_simp) <;> with_reducible rfl
                simp only [Act.put, List.getElem_toArray, List.getElem_cons_zero, List.getElem_cons_succ, List.setIfInBounds_toArray, List.set_cons_zero, List.set_cons_succ]
                refine anyL_take (i := 11) (v := ?vrb24) rfl (by kernel_rfl) (by kernel_rfl) (by kernel_rfl) (by kernel_rfl) (fun _ _ _ h => h) (Or.inl ⟨by rfl, ?hrb24⟩) (unhide HS5) ?_
                case hrb24 => (intro w hSw; (try dsimp only at hSw); go_simp) <;> with_reducible rfl
                simp only [Act.put, List.getElem_toArray, List.getElem_cons_zero, List.getElem_cons_succ, List.setIfInBounds_toArray, List.set_cons_zero, List.set_cons_succ]
                refine anyL_take (i := 12) (v := ?vrb25) rfl (by kernel_rfl) (by kernel_rfl) (by kernel_rfl) (by kernel_rfl) (fun _ _ _ h => h) (Or.inl ⟨by rfl, ?hrb25⟩) (unhide HS5) ?_
                case hrb25 => (intro w hSw; (try dsimp only at hSw); go_simp) <;> with_reducible rfl
                simp only [Act.put, List.getElem_toArray, List.getElem_cons_zero, List.getElem_cons_succ, List.setIfInBounds_toArray, List.set_cons_zero, List.set_cons_succ]
                refine anyL_take (i := 13) (v := ?vrb26) rfl (by kernel_rfl) (by kernel_rfl) (by kernel_rfl) (by kernel_rfl) (fun _ _ _ h => h) (Or.inl ⟨by rfl, ?hrb26⟩) (unhide HS5) ?_
                case hrb26 => (intro w hSw; (try dsimp only at hSw); go_simp) <;> with_reducible rfl
                simp only [Act.put, List.getElem_toArray, List.getElem_cons_zero, List.getElem_cons_succ, List.setIfInBounds_toArray, List.set_cons_zero, List.set_cons_succ]
                refine anyL_take (i := 14) (v := ?vrb27) rfl (by kernel_rfl) (by kernel_rfl) (by kernel_rfl) (by kernel_rfl) (fun _ _ _ h => h) (Or.inl ⟨by rfl, ?hrb27⟩) (unhide HS5) ?_
                case hrb27 => (intro w hSw; (try dsimp only at hSw); go_simp) <;> with_reducible rfl
                simp only [Act.put, List.getElem_toArray, List.getElem_cons_zero, List.getElem_cons_succ, List.setIfInBounds_toArray, List.set_cons_zero, List.set_cons_succ]
                refine anyL_done (by kernel_rfl) ?_ _
                clear HS5 HS1
                obtain ⟨aA, cA, hvA, _, _⟩ := own_isO (unhide HO2).1
                subst hvA
                obtain ⟨aB, cB, hvB, _, _⟩ := own_isO (unhide HO2).2.1
                subst hvB
                go_wp2_with fail
                have hB5 := (unhide HB2).trans ((unhide HX5).mono (unhide HB2).size)
                have hA5 := (unhide HA2).d.trans (hB5.mono (unhide HA2).d.size)
                have q1 := (hA5.cell (p := ⟨G, ds.length, none⟩) (unhide HQN).1).trans (unhide HQN).2
                have q2 := (hA5.cell (p := ⟨G, 0, none⟩) (unhide HQN).1).trans (unhide HQ0)
                have HS2 : Hid (w5.drew.cell? ⟨G, 0, none⟩ = some (.slice a0 d0.length c0) ∧ w5.drew.cell? ⟨G, ds.length, none⟩ = some (.slice aN e.length cN)) := hide ⟨q2, q1⟩
                have HC2 := hide (unhide HOv w5.drew hA5.drew)
                have HB5 := hide hB5
                have HBd := hide ((Below.refl w5.heap.size w5).drew)
                clear hB5 hA5 q1 q2
                refine regionL (S := fun w' => w'.cell? ⟨G, 0, none⟩ = some (.slice a0 d0.length c0) ∧ w'.cell? ⟨G, ds.length, none⟩ = some (.slice aN e.length cN)) (fun _ => false) (by kernel_rfl) ?_
                generalize w5.drew = wd5 at *
                refine anyL_take (i := 0) (v := ?vrc28) rfl (by kernel_rfl) (by kernel_rfl) (by kernel_rfl) (by kernel_rfl) (fun _ _ _ h => h) (Or.inl ⟨by rfl, ?hrc28⟩) (unhide HS2) ?_
                case hrc28 => (intro w hSw; (try dsimp only at hSw); go_simp) <;> with_reducible rfl
                simp only [Act.put, List.getElem_toArray, List.getElem_cons_zero, List.setIfInBounds_toArray, List.set_cons_zero, List.set_cons_succ]
                refine anyL_take (i := 1) (v := ?vrc29) rfl (by kernel_rfl) (by kernel_rfl) (by kernel_rfl) (by kernel_rfl) (fun _ _ _ h => h) (Or.inl ⟨by rfl, ?hrc29⟩) (unhide HS2) ?_
                case hrc29 => (intro w hSw; (try dsimp only at hSw); go_simp) <;> with_reducible rfl
                simp only [Act.put, List.getElem_toArray, List.getElem_cons_zero, List.getElem_cons_succ, List.setIfInBounds_toArray, List.set_cons_zero, List.set_cons_succ]
                refine anyL_take (i := 2) (v := ?vrc30) rfl (by kernel_rfl) (by kernel_rfl) (by kernel_rfl) (by kernel_rfl) (fun _ _ _ h => h) (Or.inl ⟨by rfl, ?hrc30⟩) (unhide HS2) ?_
                case hrc30 => (intro w hSw; (try dsimp only at hSw); go_simp) <;> with_reducible rfl
                simp only [Act.put, List.getElem_toArray, List.getElem_cons_zero, List.getElem_cons_succ, List.setIfInBounds_toArray, List.set_cons_zero, List.set_cons_succ]
                refine anyL_take (i := 3) (v := ?vrc31) rfl (by kernel_rfl) (by kernel_rfl) (by kernel_rfl) (by kernel_rfl) (fun _ _ _ h => h) (Or.inl ⟨by rfl, ?hrc31⟩) (unhide HS2) ?_
                case hrc31 => (intro w hSw; (try dsimp only at hSw); go_simp) <;> with_reducible rfl
                simp only [Act.put, List.getElem_toArray, List.getElem_cons_zero, List.getElem_cons_succ, List.setIfInBounds_toArray, List.set_cons_zero, List.set_cons_succ]
                refine anyL_take (i := 4) (v := ?vrc32) rfl (by kernel_rfl) (by kernel_rfl) (by kernel_rfl) (by kernel_rfl) (fun _ _ _ h => h) (Or.inl ⟨by rfl, ?hrc32⟩) (unhide HS2) ?_
                case hrc32 => (intro w hSw; (try dsimp only at hSw); go_simp) <;> with_reducible rfl
                simp only [Act.put, List.getElem_toArray, List.getElem_cons_zero, List.getElem_cons_succ, List.setIfInBounds_toArray, List.set_cons_zero, List.set_cons_succ]
                refine anyL_take (i := 5) (v := ?vrc33) rfl (by kernel_rfl) (by kernel_rfl) (by kernel_rfl) (by kernel_rfl) (fun _ _ _ h => h) (Or.inl ⟨by rfl, ?hrc33⟩) (unhide HS2) ?_
                case hrc33 => (intro w hSw; (try dsimp only at hSw); go_simp) <;> with_reducible rfl
                simp only [Act.put, List.getElem_toArray, List.getElem_cons_zero, List.getElem_cons_succ, List.setIfInBounds_toArray, List.set_cons_zero, List.set_cons_succ]
                refine anyL_take (i := 6) (v := ?vrc34) rfl (by kernel_rfl) (by kernel_rfl) (by kernel_rfl) (by kernel_rfl) (fun _ _ _ h => h) (Or.inl ⟨by rfl, ?hrc34⟩) (unhide HS2) ?_
                case hrc34 => (intro w hSw; (try dsimp only at hSw); go_simp) <;> with_reducible rfl
                simp only [Act.put, List.getElem_toArray, List.getElem_cons_zero, List.getElem_cons_succ, List.setIfInBounds_toArray, List.set_cons_zero, List.set_cons_succ]
                refine anyL_ready (rs := [7]) (by kernel_rfl) (by simp) ?_
                refine AllL.cons rfl (fun K hK => ?_) AllL.nil
                go_simp
                refine (unhide HC2).mono ?_
                rintro y w6 ⟨v4, rfl, o4, x6⟩
                dsimp only
                have HO4 := hide o4
                have HX6 := hide x6
                have hlt9 := Nat.lt_of_lt_of_le (unhide HQN).1 ((unhide HA2).d.trans (((unhide HB5).trans ((unhide HBd).mono (unhide HB5).size)).mono (unhide HA2).d.size)).size
                have HS6 := hide (And.intro ((x6.cell (p := ⟨G, 0, none⟩) hlt9).trans (unhide HS2).1) ((x6.cell (p := ⟨G, ds.length, none⟩) hlt9).trans (unhide HS2).2))
                clear o4 x6 HC2 hlt9
                refine unhide hK _ _ (fun _ => unhide HS6) ?_
                clear hK K
                refine anyL_take (i := 8) (v := ?vrc35) rfl (by kernel_rfl) (by kernel_rfl) (by kernel_rfl) (by kernel_rfl) (fun _ _ _ h => h) (Or.inl ⟨by rfl, ?hrc35⟩) (unhide HS6) ?_
                case hrc35 => (intro w hSw; (try dsimp only at hSw); go_simp) <;> with_reducible rfl
                simp only [Act.put, List.getElem_toArray, List.getElem_cons_zero, List.getElem_cons_succ, List.setIfInBounds_toArray, List.set_cons_zero, List.set_cons_succ]
                refine anyL_take (i := 9) (v := ?vrc36) rfl (by kernel_rfl) (by kernel_rfl) (by kernel_rfl) (by kernel_rfl) (fun _ _ _ h => h) (Or.inl ⟨by rfl, ?hrc36⟩) (unhide HS6) ?_
                case hrc36 => (intro w hSw; (try dsimp only at hSw); go_simp) <;> with_reducible rfl
                simp only [Act.put, List.getElem_toArray, List.getElem_cons_zero, List.getElem_cons_succ, List.setIfInBounds_toArray, List.set_cons_zero, List.set_cons_succ]
                refine anyL_take (i := 10) (v := ?vrc37) rfl (by kernel_rfl) (by kernel_rfl) (by kernel_rfl) (by kernel_rfl) (fun _ _ _ h => h) (Or.inl ⟨by rfl, ?hrc37⟩) (unhide HS6) ?_
                case hrc37 => (intro w hSw; (try dsimp only at hSw); go_simp) <;> with_reducible rfl
                simp only [Act.put, List.getElem_toArray, List.getElem_cons_zero, List.getElem_cons_succ, List.setIfInBounds_toArray, List.set_cons_zero, List.set_cons_succ]
                refine anyL_take (i := 11) (v := ?vrc38) rfl (by kernel_rfl) (by kernel_rfl) (by kernel_rfl) (by kernel_rfl) (fun _ _ _ h => h) (Or.inl ⟨by rfl, ?hrc38⟩) (unhide HS6) ?_
                case hrc38 => (intro w hSw; (try dsimp only at hSw); go_simp) <;> with_reducible rfl
                simp only [Act.put, List.getElem_toArray, List.getElem_cons_zero, List.getElem_cons_succ, List.setIfInBounds_toArray, List.set_cons_zero, List.set_cons_succ]
                refine anyL_take (i := 12) (v := ?vrc39) rfl (by kernel_rfl) (by kernel_rfl) (by kernel_rfl) (by kernel_rfl) (fun _ _ _ h => h) (Or.inl ⟨by rfl, ?hrc39⟩) (unhide HS6) ?_
                case hrc39 => (intro w hSw; (try dsimp only at hSw); go_simp) <;> with_reducible rfl
                simp only [Act.put, List.getElem_toArray, List.getElem_cons_zero, List.getElem_cons_succ, List.setIfInBounds_toArray, List.set_cons_zero, List.set_cons_succ]
                refine anyL_done (by kernel_rfl) ?_ _
                clear HS6 HS2
                obtain ⟨aC, cC, hvC, _, _⟩ := own_isO (unhide HO4)
                subst hvC
                have HB6 := hide ((unhide HB5).trans (((unhide HBd).trans ((unhide HX6).mono (unhide HBd).size)).mono (unhide HB5).size))
                have b56 := (unhide HBd).trans ((unhide HX6).mono (unhide HBd).size)
                have o4 := own_lower (unhide HO4) (unhide HBd).size
                have n24 := nb_of (unhide HO2).1 o4
                have n34 := nb_of (unhide HO2).2.1 o4
                have hlen := al_b2 (L := L) (QD := QD) (QL := QL) (unhide HL).2.1 (unhide HLS).2 hlx hlt
                obtain ⟨v9, W9, r9, m9⟩ := al_three (unhide HA2) (unhide HB6) (rowD_below (own_lower (unhide HO2).1 (unhide HB2).size) b56 (Nat.le_refl _)) (rowD_below (own_lower (unhide HO2).2.1 (unhide HB2).size) b56 (Nat.le_refl _)) (own_lower o4 (unhide HB5).size) (unhide HO2).2.2 n24 n34 hlen
                have R9 := hide r9
                have HA9 := hide m9
                have HNX := hide (al_next (R := [boA d0 e, boB d0 e, ovD e d0 true]) (unhide HL).1 (unhide HL).2.1 (unhide HL).2.2.1 (unhide HL).2.2.2 (unhide HLS) (by
                  intro d hd
                  simp only [List.mem_cons, List.not_mem_nil, or_false] at hd
                  rcases hd with rfl | rfl | rfl
                  · exact (bo_len _ _).1
                  · exact (bo_len _ _).2
                  · exact ov_lenS _ _ _) (Nat.le_refl 3))
                clear b56 o4 n24 n34 hlen r9 m9 HA2 HB6 HO2 HO4 HB5 HBd HX6 HX5 HB2 HBo HOv HQ0 HL
                generalize boA d0 e = dA at *
                generalize boB d0 e = dB at *
                generalize ovD e d0 true = dC at *
                go_wp2_with (at_builtin; refine wpList_append_known rfl _ _ 57 57 rfl _ _ rfl rfl _ _ (unhide R9) ?_; clear R9)
                go_roundw
                case rel => exact ⟨⟨⟨_, rfl⟩, ⟨_, rfl⟩, ⟨_, rfl⟩, ⟨_, rfl⟩, ⟨_, rfl⟩, ⟨_, rfl⟩, ⟨_, rfl⟩, ⟨_, rfl⟩⟩, ⟨k + 1, _, _, by first | rfl | go_num, hlt, hide ⟨unhide HA9, unhide HNX⟩⟩⟩
                case measure => first | exact gr_ms3 hlt | (simp [intOf]; omega)
              · have p3 : decide ((ds.length : Int) > 0) = false := decide_eq_false (by omega)
                have p4 : decide (0 < (ds.length : Int)) = false := decide_eq_false (by omega)
                have p5 : decide (0 < ds.length) = false := decide_eq_false hpos
                have p6 : ¬ (0 : Int) < (ds.length : Int) := by omega
                have HNX := hide (al_next (R := []) (unhide HL).1 (unhide HL).2.1 (unhide HL).2.2.1 (unhide HL).2.2.2 (unhide HLS) (by simp) (by simp))
                rw [List.append_nil] at HNX
                clear HL
                go_wp2_with (at_builtin; first | (refine wpList_append_known rfl _ _ 57 57 rfl _ _ rfl rfl _ _ (unhide R1) ?_; clear R1) | (refine wpList_append_known rfl _ _ 57 57 rfl _ _ rfl rfl _ _ (unhide R2) ?_; clear R2))
                go_roundw
                case rel => exact ⟨⟨⟨_, rfl⟩, ⟨_, rfl⟩, ⟨_, rfl⟩, ⟨_, rfl⟩, ⟨_, rfl⟩, ⟨_, rfl⟩, ⟨_, rfl⟩, ⟨_, rfl⟩⟩, ⟨k + 1, _, _, by first | rfl | go_num, hlt, hide ⟨unhide HA2, unhide HNX⟩⟩⟩
                case measure => first | exact gr_ms3 hlt | (simp [intOf]; omega)
            · obtain rfl : k = 3 := by omega
              obtain ⟨hA, hL1, hL2, hL3, hL4⟩ := unhide HI
              obtain ⟨M, hM⟩ := hL3 (by omega)
              have hLp : 0 < L.length := by rw [hM]; simp
              obtain ⟨gA, cA, hvA, hcA, hgA⟩ := hA.form hLp
              subst hvA
              have hcA1 : ¬ cA = 1 := by omega
              have p1 : decide ((3 : Int) < 3) = false := by decide
              have HC := hide (unhide HRC wr ((unhide HWb).trans (hA.d.mono (unhide HWb).size)))
              have HA := hide hA
              have HL1 := hide hL1
              have HLM := hide hM
              have HWr := hide ((unhide HWb).trans (hA.d.mono (unhide HWb).size))
              have HZ : Hid (L.length ≤ 3 * (ds.length + 4)) := hide hL2
              clear hA hL1 hL2 hL3 hL4 HI hM hgA HPos HCH HQN HRC hlt hk
              go_wp2_with fail
              refine (unhide HC).mono ?_
              rintro y w12 ⟨aE, cE, v8', rfl, iE, m12⟩
              dsimp only
              obtain ⟨AE, c8, dE, e8, eM, eD⟩ := ch_isDx m12 (fun d hd o ho => ((unhide HPL d hd).1 o ho).2)
              subst e8
              have hA12 := (unhide HA).on m12.d
              have q0 : ∃ a ck, w12.cell? ⟨gA, 0, none⟩ = some (.slice a QD.length ck) ∧ IsO w12 a QD := by
                obtain ⟨a, ck, _, h2, h3, _⟩ := al_get hA12 hLp
                have e0 : L.getD 0 [] = QD := by rw [unhide HLM]; rfl
                rw [e0] at h2 h3
                exact ⟨a, ck, h2, h3⟩
              obtain ⟨aF, cF, q1, i1⟩ := q0
              have HC2 := hide (unhide HSM w12 aF cF aE cE i1 iE)
              have HX12 := hide ((unhide HWr).trans (m12.d.mono (unhide HWr).size))
              have HA12 := hide hA12
              have HD12 := hide eD
              have HDM := hide eM
              have hll := al_l1 (unhide HLM)
              have hb1 := al_b3 (unhide HLS).2 hlx
              have t1 : decide ((L.length : Int) < 1 + (QL.length : Int)) = false := decide_eq_false (by omega)
              have t1' : ¬ (L.length : Int) < 1 + (QL.length : Int) := by omega
              have t2 : (0 : Int) < (L.length : Int) := by omega
              have t3 : 1 + QL.length ≤ cA := by omega
              clear HC HA HWr m12 iE eM eD hA12 i1 HSM hll
              go_wp2_with fail
              refine (unhide HC2).mono ?_
              rintro y w13 ⟨rfl, x13⟩
              dsimp only
              have hA13 := (unhide HA12).on x13
              obtain ⟨dA2, eA1, eA2⟩ := al_isD1 hA13 (unhide HLM) (fun d hd o ho => ((unhide HPL d hd).1 o ho).2)
              have HX13 := hide ((unhide HX12).trans (x13.mono (unhide HX12).size))
              have HA13 := hide hA13
              have HC3 := hide (sameD_at (c := cA - 1) (c' := c8) eA2 ((unhide HD12).up x13) eA1 (unhide HDM) (unhide HPL) (Nat.le_trans (unhide HLS).2 hlx))
              clear HC2 HX12 HA12 HD12 HDM x13 hA13 eA1 eA2 q1
              go_wp2_with fail
              refine (unhide HC3).mono ?_
              rintro y w14 ⟨rfl, x14⟩
              dsimp only
              have HX14 := hide ((unhide HX13).trans (x14.mono (unhide HX13).size))
              have HA14 := hide ((unhide HA13).on x14)
              have hnL : L.length ≤ 4611686018427387904 := al_b4 (unhide HZ) hlx
              clear HC3 HX13 HA13 x14 t1 t1' t3 hb1 HPL HLM HZ hcA1
              go_wp2_with fail
              rw [show 1 + QL.length - 1 = QL.length by omega]
              go_loopw [24, 25, 26, 27, 163, 170] (fun v24 v25 v26 v27 v163 v170 wx => ((∃ z, v24 = z) ∧ (∃ z, v25 = z) ∧ (∃ z, v26 = z) ∧ (∃ z, v27 = z) ∧ (∃ z, v170 = z)) ∧ ∃ (k : Nat) (L' : List (List Dop)), v163 = .int .i64 (k : Int) ∧ k ≤ L.length ∧ Hid (AlM wb wx (.slice (some ⟨gA, 0, none⟩) L.length cA) vs L' ∧ WrS L k 0 L')) (fun _ _ _ _ v163 _ _ => L.length - (intOf v163).toNat)
              case atStart => exact ⟨⟨⟨_, rfl⟩, ⟨_, rfl⟩, ⟨_, rfl⟩, ⟨_, rfl⟩, ⟨_, rfl⟩⟩, ⟨0, L, rfl, Nat.zero_le _, hide ⟨unhide HA14, WrS.zero L⟩⟩⟩
              case round =>
                clear HA14 HX14
                obtain ⟨⟨⟨z3, rfl⟩, ⟨z4, rfl⟩, ⟨z5, rfl⟩, ⟨z6, rfl⟩, ⟨z8, rfl⟩⟩, ⟨k, L', rfl, hk, HI⟩⟩ := hrel
                by_cases hlt : k < L.length
                · obtain ⟨s4, s5, s6⟩ := dlt hlt
                  obtain ⟨hA, hW⟩ := unhide HI
                  have hlt' : k < L'.length := by rw [hW.n]; exact hlt
                  have hA' := hA
                  rw [← hW.n] at hA'
                  obtain ⟨ak, ck, ev, qk, _, fk⟩ := al_get hA' hlt'
                  have en : (L'.getD k []).length = (L.getD k []).length := hW.len (Nat.zero_le _)
                  have hlk : (L.getD k []).length ≤ 536870912 := unhide HL1 _ (by rw [show L.getD k [] = L[k] by simp [List.getD, List.getElem?_eq_getElem hlt]]; exact List.getElem_mem hlt)
                  obtain ⟨Wn1, Wn2⟩ := neg_w hlt hnL
                  have Wk := gr_w hlt hnL
                  obtain ⟨N, hN⟩ : ∃ N, N = (L.getD k []).length := ⟨_, rfl⟩
                  rw [en, ← hN] at ev qk
                  have hfk : N = 0 ∨ ∃ gk, ak = some ⟨gk, 0, none⟩ := by
                    rcases fk with fk | fk
                    · left; rw [hN, ← en, fk]; rfl
                    · exact .inr fk
                  have HA := hide hA
                  have HW := hide hW
                  have HE := hide (And.intro ev hN)
                  have HFK := hide hfk
                  have hNl : N ≤ 536870912 := by rw [hN]; exact hlk
                  clear hA hW hA' HI hk fk en ev hlk hlt' hN hfk
                  go_wp2_with fail
                  go_loopw [26, 170] (fun v26 v170 wx => (∃ z, v26 = z) ∧ ∃ (i : Nat) (L2 : List (List Dop)), v170 = .int .i64 (i : Int) ∧ i ≤ N ∧ Hid (AlM wb wx (.slice (some ⟨gA, 0, none⟩) L.length cA) vs L2 ∧ WrS L k i L2)) (fun _ v170 _ => N - (intOf v170).toNat)
                  case atStart => exact ⟨⟨_, rfl⟩, ⟨0, L', rfl, Nat.zero_le _, hide ⟨unhide HA, unhide HW⟩⟩⟩
                  case round =>
                    clear HA HW qk
                    obtain ⟨⟨z7, rfl⟩, ⟨i, L2, rfl, hi, HI⟩⟩ := hrel
                    by_cases hlu : i < N
                    · obtain ⟨s7, s8, s9⟩ := dlt hlu
                      obtain ⟨gk, hgk⟩ : ∃ gk, ak = some ⟨gk, 0, none⟩ := by
                        rcases unhide HFK with h | h
                        · omega
                        · exact h
                      subst hgk
                      have Wi := gr_w hlu (Nat.le_trans hNl (by decide))
                      have HC := hide (keep14_at (-(k : Int) - 1) wr)
                      go_wp2_with fail
                      refine (unhide HC).mono ?_
                      rintro y w15 ⟨rfl, x15⟩
                      dsimp only
                      obtain ⟨hA, hW⟩ := unhide HI
                      have hA15 := hA.on x15
                      have hl2 : k < L2.length := by rw [hW.n]; exact hlt
                      have hi2 : i < (L.getD k []).length := by rw [← (unhide HE).2]; exact hlu
                      have hi3 : i < (L2.getD k []).length := by rw [hW.len (Nat.le_of_lt hi2)]; exact hi2
                      obtain ⟨ca, cb, cs, c0, f0, c1, f1, c2, f2⟩ := al_steps hA15 hl2 (unhide HE).1 hi3 (.int .i64 1) (.int .i64 (-(k : Int) - 1))
                      have HA16 := hide (And.intro (al_set (x := kp k) hA15 hl2 (unhide HE).1 hi3) (hW.set hlt hi2))
                      simp only [kp] at HA16
                      rw [show strOfNums [] = ⟨#[]⟩ from rfl] at HA16
                      clear HC HI hA hW hA15 hl2 hi2 hi3 x15 s4 s5 s6 s7 s8
                      have HWi := hide Wi
                      have HLu := hide hlu
                      clear Wi hNl hnL hcA t2 hc5 hlx hly Wn1 Wn2 Wk hlt hlu hi
                      go_wp2_with fail
                      have Wi := unhide HWi
                      have hlu := unhide HLu
                      go_roundw
                      case rel => exact ⟨⟨_, rfl⟩, ⟨i + 1, _, by first | rfl | exact congrArg _ Wi | go_num, hlu, HA16⟩⟩
                      case measure => first | exact gr_ms3 hlu | exact gr_ms hlu Wi
                    · obtain rfl : i = N := Nat.le_antisymm hi (Nat.not_lt.1 hlu)
                      obtain ⟨s7, s8, s9⟩ := dnl hlu
                      obtain ⟨hA, hW⟩ := unhide HI
                      have hW2 := hW
                      rw [(unhide HE).2] at hW2
                      have hrow : ∃ ys, wr.ownsRow wb.heap.size 34 3 (.slice ak i ck) i ys := by
                        have h1 := hA.r.2 k (by rw [hW.n]; exact hlt)
                        rw [(unhide HE).1, hW.len (by rw [← (unhide HE).2]; exact Nat.le_refl _), ← (unhide HE).2] at h1
                        exact ⟨_, h1⟩
                      have hkv : k < vs.length := by rw [hA.r.1, hW.n]; exact hlt
                      have hlk : ∀ u ∈ vs, Lk u (.slice ak i ck) := al_lk hA.p hkv (unhide HE).1 hrow
                      have H8 : Hid (∃ n ys, AlM wb wr (.slice (some ⟨gA, 0, none⟩) L.length cA) vs L2 ∧ (∀ u ∈ vs, Lk u (.slice ak i ck)) ∧ wr.ownsRow wb.heap.size 34 3 (.slice ak i ck) n ys ∧ n ≤ 536870912 + 0) := hide (by
                        obtain ⟨ys, hys⟩ := hrow
                        exact ⟨i, ys, hA, hlk, hys, by omega⟩)
                      have HWN := hide (WrS.next hW2)
                      clear hA hW hW2 hrow hkv hlk HI hi hlu HFK Wn1 Wn2 s4 s5 s6
                      go_wp2_with fail
                      go_loopw [25, 27] (fun v25 v27 wx => ∃ (i : Nat), v27 = .int .i64 (i : Int) ∧ i ≤ 8 ∧ Hid (∃ n ys, AlM wb wx (.slice (some ⟨gA, 0, none⟩) L.length cA) vs L2 ∧ (∀ u ∈ vs, Lk u v25) ∧ wx.ownsRow wb.heap.size 34 3 v25 n ys ∧ n ≤ 536870912 + i)) (fun _ v27 _ => 8 - (intOf v27).toNat)
                      case atStart => exact ⟨0, rfl, Nat.zero_le _, H8⟩
                      case round =>
                        clear H8
                        obtain ⟨j, rfl, hj, HI⟩ := hrel
                        by_cases hlj : j < 8
                        · have p8 : decide ((j : Int) < 8) = true := decide_eq_true (by omega)
                          have p9 : (j : Int) < 8 := by omega
                          have HC := hide (put14_at ⟨#[120]⟩ wr)
                          go_wp2_with fail
                          refine (unhide HC).mono ?_
                          rintro y w17 ⟨rfl, x17⟩
                          dsimp only
                          obtain ⟨n, ys, hA, hlk, hys, hn⟩ := unhide HI
                          obtain ⟨v', W', rr, hA', hlk', ys', hys'⟩ := al_push 2 0 ⟨#[120]⟩ (hA.on x17) hlk (rowD_below hys x17 (Nat.le_refl _)) (by omega)
                          have R := hide rr
                          have HI' : Hid (∃ n ys, AlM wb W' (.slice (some ⟨gA, 0, none⟩) L.length cA) vs L2 ∧ (∀ u ∈ vs, Lk u v') ∧ W'.ownsRow wb.heap.size 34 3 v' n ys ∧ n ≤ 536870912 + (j + 1)) := hide ⟨n + 1, ys', hA', hlk', hys', by omega⟩
                          clear HC HI hA hlk hys hn rr hA' hlk' hys' x17
                          go_wp2_with (at_builtin; refine wpList_append_known rfl _ _ 24 24 rfl _ _ rfl rfl _ _ (unhide R) ?_; clear R)
                          go_roundw
                          case rel => exact ⟨j + 1, by first | rfl | go_num, hlj, HI'⟩
                          case measure => first | exact gr_ms3 hlj | (simp [intOf]; omega)
                        · obtain rfl : j = 8 := by omega
                          have p8 : decide ((8 : Int) < 8) = false := by decide
                          have HA18 : Hid (AlM wb wr (.slice (some ⟨gA, 0, none⟩) L.length cA) vs L2 ∧ WrS L (k + 1) 0 L2) := hide (by
                            obtain ⟨_, _, hA, _⟩ := unhide HI
                            exact ⟨hA, unhide HWN⟩)
                          clear HI HWN hlj hj
                          go_wp2_with fail
                          go_roundw
                          case rel => exact ⟨⟨⟨_, rfl⟩, ⟨_, rfl⟩, ⟨_, rfl⟩, ⟨_, rfl⟩, ⟨_, rfl⟩⟩, ⟨k + 1, L2, by first | rfl | exact congrArg _ Wk | go_num, hlt, HA18⟩⟩
                          case measure => first | exact gr_ms3 hlt | exact gr_ms hlt Wk
                · obtain rfl : k = L.length := Nat.le_antisymm hk (Nat.not_lt.1 hlt)
                  obtain ⟨s4, s5, s6⟩ := dnl hlt
                  have HA := hide (unhide HI)
                  clear HI hk hlt
                  go_wp2_with fail
                  go_loopw [28, 29, 30, 192] (fun v28 v29 v30 v192 wx => ((∃ z, v28 = z) ∧ (∃ z, v29 = z) ∧ (∃ z, v30 = z)) ∧ ∃ (k : Nat), v192 = .int .i64 (k : Int) ∧ k ≤ L.length ∧ Hid (AlM wb wx (.slice (some ⟨gA, 0, none⟩) L.length cA) vs L')) (fun _ _ _ v192 _ => L.length - (intOf v192).toNat)
                  case atStart => exact ⟨⟨⟨_, rfl⟩, ⟨_, rfl⟩, ⟨_, rfl⟩⟩, ⟨0, rfl, Nat.zero_le _, hide (unhide HA).1⟩⟩
                  case round =>
                    have HWS := hide (unhide HA).2
                    clear HA
                    obtain ⟨⟨⟨z9, rfl⟩, ⟨za, rfl⟩, ⟨zb, rfl⟩⟩, ⟨k, rfl, hk, HI⟩⟩ := hrel
                    by_cases hlt : k < L.length
                    · obtain ⟨s4, s5, s6⟩ := dlt hlt
                      have hlt' : k < L'.length := by rw [(unhide HWS).n]; exact hlt
                      have hA' := unhide HI
                      rw [← (unhide HWS).n] at hA'
                      obtain ⟨ak, ck, ev, qk, _, fk⟩ := al_get hA' hlt'
                      have hrow := (unhide HWS).a k hlt
                      have Wk := gr_w hlt hnL
                      obtain ⟨N, hN⟩ : ∃ N, N = (L'.getD k []).length := ⟨_, rfl⟩
                      have hfk : N = 0 ∨ ∃ gk, ak = some ⟨gk, 0, none⟩ := by
                        rcases fk with fk | fk
                        · left; rw [hN, fk]; rfl
                        · exact .inr fk
                      have hNr : L'.getD k [] = List.replicate N (kp k) := by rw [hN, hrow, List.length_replicate]
                      have hNl : N ≤ 4611686018427387904 := by
                        have h9 : (L.getD k []).length ≤ 536870912 := unhide HL1 _ (by rw [show L.getD k [] = L[k] by simp [List.getD, List.getElem?_eq_getElem hlt]]; exact List.getElem_mem hlt)
                        rw [hN, hrow, List.length_replicate]
                        exact Nat.le_trans h9 (by decide)
                      rw [← hN] at ev qk
                      have HE := hide (And.intro ev (And.intro hlt' hNr))
                      have HFK := hide hfk
                      clear hA' hk fk ev hlt' hN hfk hrow hNr
                      go_wp2_with fail
                      go_loopw [30, 199] (fun v30 v199 wx => (∃ z, v30 = z) ∧ ∃ (i : Nat), v199 = .int .i64 (i : Int) ∧ i ≤ N ∧ Hid (AlM wb wx (.slice (some ⟨gA, 0, none⟩) L.length cA) vs L')) (fun _ v199 _ => N - (intOf v199).toNat)
                      case atStart => exact ⟨⟨_, rfl⟩, ⟨0, rfl, Nat.zero_le _, HI⟩⟩
                      case round =>
                        clear HI qk
                        obtain ⟨⟨zc, rfl⟩, ⟨i, rfl, hi, HI⟩⟩ := hrel
                        by_cases hlu : i < N
                        · obtain ⟨s7, s8, s9⟩ := dlt hlu
                          obtain ⟨gk, hgk⟩ : ∃ gk, ak = some ⟨gk, 0, none⟩ := by
                            rcases unhide HFK with h | h
                            · omega
                            · exact h
                          subst hgk
                          have Wi := gr_w hlu hNl
                          obtain ⟨ev, hlt', hNr⟩ := unhide HE
                          obtain ⟨c0, c1, c2, _, _, _⟩ := al_cells (unhide HI) hlt' ev (i := i) (by rw [hNr, List.length_replicate]; exact hlu)
                          rw [hNr, show (List.replicate N (kp k)).getD i opZ = kp k by simp [List.getD, hlu]] at c0 c1 c2
                          have HS0 : Hid (wr.drew.cell? ⟨gk, i * 3, none⟩ = some (.int .i64 1) ∧ wr.drew.cell? ⟨gk, i * 3 + 1, none⟩ = some (.int .i64 (-(k : Int) - 1)) ∧ wr.drew.cell? ⟨gk, i * 3 + 2, none⟩ = some (.string ⟨#[]⟩)) := hide ⟨c0, c1, c2⟩
                          have HC := hide (keep14_at (-(k : Int) - 1) wr.drew)
                          have HA := hide ((unhide HI).on (Below.refl wr.heap.size wr).drew)
                          have hgx : gk < wr.heap.size := rwk_lt ((unhide HI).r.2 k hlt') (g := gk) (by rw [ev]; rfl)
                          have HGx : Hid (gk < wr.drew.heap.size) := hide hgx
                          obtain ⟨Wn1, Wn2⟩ := neg_w hlt hnL
                          have Wn3 : IntKind.i64.wrap (-(k : Int)) = -(k : Int) := by rw [IntKind.wrap_i64]; omega
                          have Wn4 : IntKind.i64.wrap (-(k : Int) - 1) = -(k : Int) - 1 := by rw [IntKind.wrap_i64]; omega
                          clear ev hlt' hNr c0 c1 c2 HI hgx s4 s5 s6
                          go_wp2_with fail
                          refine regionL (S := fun w' => w'.cell? ⟨gk, i * 3, none⟩ = some (.int .i64 1) ∧ w'.cell? ⟨gk, i * 3 + 1, none⟩ = some (.int .i64 (-(k : Int) - 1)) ∧ w'.cell? ⟨gk, i * 3 + 2, none⟩ = some (.string ⟨#[]⟩)) (fun _ => false) (by kernel_rfl) ?_
                          generalize wr.drew = wd at *
                          refine anyL_take (i := 0) (v := ?vre40) rfl (by kernel_rfl) (by kernel_rfl) (by kernel_rfl) (by kernel_rfl) (fun _ _ _ h => h) (Or.inl ⟨by rfl, ?hre40⟩) (unhide HS0) ?_
                          case hre40 => (intro w hSw; (try dsimp only at hSw); go_simp) <;> with_reducible rfl
                          simp only [Act.put, List.getElem_toArray, List.getElem_cons_zero, List.setIfInBounds_toArray, List.set_cons_zero, List.set_cons_succ]
                          refine anyL_take (i := 1) (v := ?vre41) rfl (by kernel_rfl) (by kernel_rfl) (by kernel_rfl) (by kernel_rfl) (fun _ _ _ h => h) (Or.inl ⟨by rfl, ?hre41⟩) (unhide HS0) ?_
                          case hre41 => (intro w hSw; (try dsimp only at hSw); go_simp) <;> with_reducible rfl
                          simp only [Act.put, List.getElem_toArray, List.getElem_cons_zero, List.getElem_cons_succ, List.setIfInBounds_toArray, List.set_cons_zero, List.set_cons_succ]
                          refine anyL_take (i := 2) (v := ?vre42) rfl (by kernel_rfl) (by kernel_rfl) (by kernel_rfl) (by kernel_rfl) (fun _ _ _ h => h) (Or.inl ⟨by rfl, ?hre42⟩) (unhide HS0) ?_
                          case hre42 => (intro w hSw; (try dsimp only at hSw); go_simp) <;> with_reducible rfl
                          simp only [Act.put, List.getElem_toArray, List.getElem_cons_zero, List.getElem_cons_succ, List.setIfInBounds_toArray, List.set_cons_zero, List.set_cons_succ]
                          refine anyL_take (i := 3) (v := ?vre43) rfl (by kernel_rfl) (by kernel_rfl) (by kernel_rfl) (by kernel_rfl) (fun _ _ _ h => h) (Or.inl ⟨by rfl, ?hre43⟩) (unhide HS0) ?_
                          case hre43 => (intro w hSw; (try dsimp only at hSw); go_simp) <;> with_reducible rfl
                          simp only [Act.put, List.getElem_toArray, List.getElem_cons_zero, List.getElem_cons_succ, List.setIfInBounds_toArray, List.set_cons_zero, List.set_cons_succ]
                          refine anyL_take (i := 4) (v := ?vre44) rfl (by kernel_rfl) (by kernel_rfl) (by kernel_rfl) (by kernel_rfl) (fun _ _ _ h => h) (Or.inl ⟨by rfl, ?hre44⟩) (unhide HS0) ?_
                          case hre44 => (intro w hSw; (try dsimp only at hSw); go_simp) <;> with_reducible rfl
                          simp only [Act.put, List.getElem_toArray, List.getElem_cons_zero, List.getElem_cons_succ, List.setIfInBounds_toArray, List.set_cons_zero, List.set_cons_succ]
                          refine anyL_take (i := 5) (v := ?vre45) rfl (by kernel_rfl) (by kernel_rfl) (by kernel_rfl) (by kernel_rfl) (fun _ _ _ h => h) (Or.inl ⟨by rfl, ?hre45⟩) (unhide HS0) ?_
                          case hre45 => (intro w hSw; (try dsimp only at hSw); go_simp) <;> with_reducible rfl
                          simp only [Act.put, List.getElem_toArray, List.getElem_cons_zero, List.getElem_cons_succ, List.setIfInBounds_toArray, List.set_cons_zero, List.set_cons_succ]
                          refine anyL_take (i := 6) (v := ?vre46) rfl (by kernel_rfl) (by kernel_rfl) (by kernel_rfl) (by kernel_rfl) (fun _ _ _ h => h) (Or.inl ⟨by rfl, ?hre46⟩) (unhide HS0) ?_
                          case hre46 => (intro w hSw; (try dsimp only at hSw); go_simp) <;> with_reducible rfl
                          simp only [Act.put, List.getElem_toArray, List.getElem_cons_zero, List.getElem_cons_succ, List.setIfInBounds_toArray, List.set_cons_zero, List.set_cons_succ]
                          refine anyL_ready (rs := [7]) (by kernel_rfl) (by simp) ?_
                          refine AllL.cons rfl (fun K hK => ?_) AllL.nil
                          go_simp
                          refine (unhide HC).mono ?_
                          rintro y w20 ⟨rfl, x20⟩
                          dsimp only
                          have HA2 := hide ((unhide HA).on x20)
                          have HS4 := hide (And.intro ((x20.cell (p := ⟨gk, i * 3, none⟩) (unhide HGx)).trans (unhide HS0).1) (And.intro ((x20.cell (p := ⟨gk, i * 3 + 1, none⟩) (unhide HGx)).trans (unhide HS0).2.1) ((x20.cell (p := ⟨gk, i * 3 + 2, none⟩) (unhide HGx)).trans (unhide HS0).2.2)))
                          clear x20 HC HA
                          refine unhide hK _ _ (fun _ => unhide HS4) ?_
                          clear hK K
                          refine anyL_take (i := 8) (v := ?vre47) rfl (by kernel_rfl) (by kernel_rfl) (by kernel_rfl) (by kernel_rfl) (fun _ _ _ h => h) (Or.inl ⟨by rfl, ?hre47⟩) (unhide HS4) ?_
                          case hre47 => (intro w hSw; (try dsimp only at hSw); go_simp) <;> with_reducible rfl
                          simp only [Act.put, List.getElem_toArray, List.getElem_cons_zero, List.getElem_cons_succ, List.setIfInBounds_toArray, List.set_cons_zero, List.set_cons_succ]
                          refine anyL_done (by kernel_rfl) ?_ _
                          clear HS4 HS0 HGx
                          have HWi := hide Wi
                          have HLu := hide hlu
                          clear Wi hNl hnL hcA t2 hc5 hlx hly Wn1 Wn2 Wn3 Wn4 Wk hlt hlu hi s7 s8 s9
                          go_wp2_with fail
                          have Wi := unhide HWi
                          have hlu := unhide HLu
                          go_roundw
                          case rel => exact ⟨⟨_, rfl⟩, ⟨i + 1, by first | rfl | exact congrArg _ Wi | go_num, hlu, HA2⟩⟩
                          case measure => first | exact gr_ms3 hlu | exact gr_ms hlu Wi
                        · obtain rfl : i = N := Nat.le_antisymm hi (Nat.not_lt.1 hlu)
                          obtain ⟨s7, s8, s9⟩ := dnl hlu
                          clear hi hlu HFK HE s4 s5 s6
                          go_wp2_with fail
                          go_roundw
                          case rel => exact ⟨⟨⟨_, rfl⟩, ⟨_, rfl⟩, ⟨_, rfl⟩⟩, ⟨k + 1, by first | rfl | exact congrArg _ Wk | go_num, hlt, HI⟩⟩
                          case measure => first | exact gr_ms3 hlt | exact gr_ms hlt Wk
                    · obtain rfl : k = L.length := Nat.le_antisymm hk (Nat.not_lt.1 hlt)
                      obtain ⟨s4, s5, s6⟩ := dnl hlt
                      have HB := hide ((unhide HWb).trans ((unhide HI).d.mono (unhide HWb).size))
                      have HM := hide ((unhide HMb).on (unhide HI).d)
                      obtain ⟨l2, X1', gF, cF, Xf, r1, r2, oF, bF⟩ := unhide HCP wr (unhide HB)
                      have R1 := hide r1
                      have R2 := hide r2
                      have HOF := hide oF
                      have HBf := hide ((unhide HB).trans (bF.mono (unhide HB).size))
                      have HMf := hide ((unhide HM).on bF)
                      clear r1 r2 oF bF HI hk hlt HWS HM HB HMb HCP hnL hcA t2 s4 s5 s6
                      go_wp2_with (at_builtin; first | (refine wpList_append_known rfl _ _ 57 57 rfl _ _ rfl rfl _ _ (unhide R1) ?_; clear R1) | (refine wpList_append_known rfl _ _ 57 57 rfl _ _ rfl rfl _ _ (unhide R2) ?_; clear R2))
                      go_loopw [31, 32, 220] (fun v31 v32 v220 wx => ((∃ z, v31 = z) ∧ (∃ z, v32 = z)) ∧ ∃ (k : Nat), v220 = .int .i64 (k : Int) ∧ k ≤ aq.length ∧ Hid (Below Xf.heap.size Xf wx)) (fun _ _ v220 _ => aq.length - (intOf v220).toNat)
                      case atStart => exact ⟨⟨⟨_, rfl⟩, ⟨_, rfl⟩⟩, ⟨0, rfl, Nat.zero_le _, hide (Below.refl _ _)⟩⟩
                      case round =>
                        obtain ⟨⟨⟨zd, rfl⟩, ⟨ze, rfl⟩⟩, ⟨k, rfl, hk, HX⟩⟩ := hrel
                        by_cases hlt : k < aq.length
                        · obtain ⟨s4, s5, s6⟩ := dlt hlt
                          have hq := (rwk_cell (unhide HOF) k (by omega)).1
                          have q0 := ((unhide HX).cell (p := ⟨gF, k, none⟩) (rwk_lt (unhide HOF) (g := gF) rfl)).trans hq
                          rw [List.getElem?_map, List.getElem?_eq_getElem hlt, Option.map_some, show aq[k] = aq.getD k dlZ by simp [List.getD, List.getElem?_eq_getElem hlt]] at q0
                          have hA := unhide HAS _ (mem_dl hlt)
                          have Wk := gr_w hlt (Nat.le_trans (unhide HN).2 (show 1048577 ≤ 4611686018427387904 by decide))
                          have hmm := (unhide HMf).on (unhide HX)
                          have hgm : (aq.map (·.d)).getD k [] = (aq.getD k dlZ).d := by simp [List.getD, List.getElem?_eq_getElem hlt]
                          obtain ⟨e5, e6, g, c, m1, m2, m3, m4, m5, m6, m7, m8, m9⟩ := mi_get hmm (k := k) (by simpa using hlt)
                          rw [hgm] at m1 m2 m3 m4 m5 m6 m7 m8 m9
                          have hlq : (aq.map (·.d)).length = aq.length := by simp
                          rw [hlq] at e5 e6
                          have HBw := hide ((unhide HBf).trans ((unhide HX).mono (unhide HBf).size))
                          clear hk hq hgm hlq hmm
                          generalize aq.getD k dlZ = x at *
                          obtain ⟨xa, xc, xd⟩ := x
                          unfold dlV at q0
                          dsimp only at *
                          subst e6
                          have hk5 : (k : Int) < (ds.length : Int) + 1 := by omega
                          clear e5
                          obtain ⟨Wl, Wl'⟩ := len1 hA.l
                          have i1 : (xd.length : Int) < (xd.length : Int) + 2 := by omega
                          have i2 : (xd.length : Int) + 1 < (xd.length : Int) + 2 := by omega
                          have i3 : (0 : Int) ≤ (xd.length : Int) + 1 := by omega
                          have HS0 : Hid (wr.drew.cell? ⟨G, k, none⟩ = some (.slice (some ⟨g, 0, none⟩) xd.length c) ∧ wr.drew.cell? ⟨g6, k, none⟩ = some (.slice (some ⟨g, 0, none⟩) (xd.length + 2) c) ∧ wr.drew.cell? ⟨g, xd.length * 3, none⟩ = some (.int .i64 2) ∧ wr.drew.cell? ⟨g, xd.length * 3 + 1, none⟩ = some (.int .i64 0) ∧ wr.drew.cell? ⟨g, xd.length * 3 + 2, none⟩ = some (.string ⟨#[115, 112, 97, 114, 101]⟩) ∧ wr.drew.cell? ⟨g, (xd.length + 1) * 3, none⟩ = some (.int .i64 3) ∧ wr.drew.cell? ⟨g, (xd.length + 1) * 3 + 1, none⟩ = some (.int .i64 77) ∧ wr.drew.cell? ⟨g, (xd.length + 1) * 3 + 2, none⟩ = some (.string ⟨#[]⟩)) := hide ⟨m1, m2, m4, m5, m6, m7, m8, m9⟩
                          have HC1 := hide (RSame14_at (some ⟨g, 0, none⟩) c xd xa xc xd wr.drew (m3.below ((Below.refl wr.heap.size wr).drew) (Nat.le_refl _)) (hA.o.below (unhide HBw).drew (Nat.le_refl _)) (Nat.le_trans hA.l (by decide)) (Nat.le_trans hA.l (by decide)) (fun o ho => (hA.t o ho).1) (fun o ho => (hA.t o ho).1))
                          simp only [decide_true] at HC1
                          have HL9 : Hid (G < wr.drew.heap.size ∧ g6 < wr.drew.heap.size ∧ g < wr.drew.heap.size) := hide ⟨celM_lt m1, celM_lt m2, celM_lt m4⟩
                          have HXd : Hid (Below Xf.heap.size Xf wr.drew) := hide ((unhide HX).drew)
                          clear hA m1 m2 m3 m4 m5 m6 m7 m8 m9 HBw HX HOF HMf HBf
                          go_wp2_with fail
                          refine regionL (S := fun w' => w'.cell? ⟨G, k, none⟩ = some (.slice (some ⟨g, 0, none⟩) xd.length c) ∧ w'.cell? ⟨g6, k, none⟩ = some (.slice (some ⟨g, 0, none⟩) (xd.length + 2) c) ∧ w'.cell? ⟨g, xd.length * 3, none⟩ = some (.int .i64 2) ∧ w'.cell? ⟨g, xd.length * 3 + 1, none⟩ = some (.int .i64 0) ∧ w'.cell? ⟨g, xd.length * 3 + 2, none⟩ = some (.string ⟨#[115, 112, 97, 114, 101]⟩) ∧ w'.cell? ⟨g, (xd.length + 1) * 3, none⟩ = some (.int .i64 3) ∧ w'.cell? ⟨g, (xd.length + 1) * 3 + 1, none⟩ = some (.int .i64 77) ∧ w'.cell? ⟨g, (xd.length + 1) * 3 + 2, none⟩ = some (.string ⟨#[]⟩)) (fun _ => false) (by kernel_rfl) ?_
                          generalize wr.drew = wd at *
                          refine anyL_take (i := 0) (v := ?vrf48) rfl (by kernel_rfl) (by kernel_rfl) (by kernel_rfl) (by kernel_rfl) (fun _ _ _ h => h) (Or.inl ⟨by rfl, ?hrf48⟩) (unhide HS0) ?_
                          case hrf48 => (intro w hSw; (try dsimp only at hSw); go_simp) <;> with_reducible rfl
                          simp only [Act.put, List.getElem_toArray, List.getElem_cons_zero, List.setIfInBounds_toArray, List.set_cons_zero, List.set_cons_succ]
                          refine anyL_take (i := 1) (v := ?vrf49) rfl (by kernel_rfl) (by kernel_rfl) (by kernel_rfl) (by kernel_rfl) (fun _ _ _ h => h) (Or.inl ⟨by rfl, ?hrf49⟩) (unhide HS0) ?_
                          case hrf49 => (intro w hSw; (try dsimp only at hSw); go_simp) <;> with_reducible rfl
                          simp only [Act.put, List.getElem_toArray, List.getElem_cons_zero, List.getElem_cons_succ, List.setIfInBounds_toArray, List.set_cons_zero, List.set_cons_succ]
                          refine anyL_take (i := 2) (v := ?vrf50) rfl (by kernel_rfl) (by kernel_rfl) (by kernel_rfl) (by kernel_rfl) (fun _ _ _ h => h) (Or.inl ⟨by rfl, ?hrf50⟩) (unhide HS0) ?_
                          case hrf50 => (intro w hSw; (try dsimp only at hSw); go_simp) <;> with_reducible rfl
                          simp only [Act.put, List.getElem_toArray, List.getElem_cons_zero, List.getElem_cons_succ, List.setIfInBounds_toArray, List.set_cons_zero, List.set_cons_succ]
                          refine anyL_take (i := 3) (v := ?vrf51) rfl (by kernel_rfl) (by kernel_rfl) (by kernel_rfl) (by kernel_rfl) (fun _ _ _ h => h) (Or.inl ⟨by rfl, ?hrf51⟩) (unhide HS0) ?_
                          case hrf51 => (intro w hSw; (try dsimp only at hSw); go_simp) <;> with_reducible rfl
                          simp only [Act.put, List.getElem_toArray, List.getElem_cons_zero, List.getElem_cons_succ, List.setIfInBounds_toArray, List.set_cons_zero, List.set_cons_succ]
                          refine anyL_take (i := 4) (v := ?vrf52) rfl (by kernel_rfl) (by kernel_rfl) (by kernel_rfl) (by kernel_rfl) (fun _ _ _ h => h) (Or.inl ⟨by rfl, ?hrf52⟩) (unhide HS0) ?_
                          case hrf52 => (intro w hSw; (try dsimp only at hSw); go_simp) <;> with_reducible rfl
                          simp only [Act.put, List.getElem_toArray, List.getElem_cons_zero, List.getElem_cons_succ, List.setIfInBounds_toArray, List.set_cons_zero, List.set_cons_succ]
                          refine anyL_ready (rs := [5]) (by kernel_rfl) (by simp) ?_
                          refine AllL.cons rfl (fun K hK => ?_) AllL.nil
                          go_simp
                          refine (unhide HC1).mono ?_
                          rintro y w31 ⟨rfl, xw31⟩
                          dsimp only
                          have HSw31 := hide (s8_on (unhide HL9) xw31 (unhide HS0))
                          have HXdw31 := hide ((unhide HXd).trans (xw31.mono (unhide HXd).size))
                          have HL9' := hide (l9_on (unhide HL9) xw31)
                          clear HL9
                          have HL9 := HL9'
                          clear HL9'
                          have HC2 := hide (put14_at ⟨#[115, 112, 97, 114, 101]⟩ w31)
                          clear HC1 xw31
                          refine unhide hK _ _ (fun _ => unhide HSw31) ?_
                          clear hK K
                          refine anyL_take (i := 6) (v := ?vrf53) rfl (by kernel_rfl) (by kernel_rfl) (by kernel_rfl) (by kernel_rfl) (fun _ _ _ h => h) (Or.inl ⟨by rfl, ?hrf53⟩) (unhide HSw31) ?_
                          case hrf53 => (intro w hSw; (try dsimp only at hSw); go_simp) <;> with_reducible rfl
                          simp only [Act.put, List.getElem_toArray, List.getElem_cons_zero, List.getElem_cons_succ, List.setIfInBounds_toArray, List.set_cons_zero, List.set_cons_succ]
                          refine anyL_take (i := 7) (v := ?vrf54) rfl (by kernel_rfl) (by kernel_rfl) (by kernel_rfl) (by kernel_rfl) (fun _ _ _ h => h) (Or.inl ⟨by rfl, ?hrf54⟩) (unhide HSw31) ?_
                          case hrf54 => (intro w hSw; (try dsimp only at hSw); go_simp) <;> with_reducible rfl
                          simp only [Act.put, List.getElem_toArray, List.getElem_cons_zero, List.getElem_cons_succ, List.setIfInBounds_toArray, List.set_cons_zero, List.set_cons_succ]
                          refine anyL_take (i := 8) (v := ?vrf55) rfl (by kernel_rfl) (by kernel_rfl) (by kernel_rfl) (by kernel_rfl) (fun _ _ _ h => h) (Or.inl ⟨by rfl, ?hrf55⟩) (unhide HSw31) ?_
                          case hrf55 => (intro w hSw; (try dsimp only at hSw); go_simp) <;> with_reducible rfl
                          simp only [Act.put, List.getElem_toArray, List.getElem_cons_zero, List.getElem_cons_succ, List.setIfInBounds_toArray, List.set_cons_zero, List.set_cons_succ]
                          refine anyL_take (i := 9) (v := ?vrf56) rfl (by kernel_rfl) (by kernel_rfl) (by kernel_rfl) (by kernel_rfl) (fun _ _ _ h => h) (Or.inl ⟨by rfl, ?hrf56⟩) (unhide HSw31) ?_
                          case hrf56 => (intro w hSw; (try dsimp only at hSw); go_simp) <;> with_reducible rfl
                          simp only [Act.put, List.getElem_toArray, List.getElem_cons_zero, List.getElem_cons_succ, List.setIfInBounds_toArray, List.set_cons_zero, List.set_cons_succ]
                          refine anyL_take (i := 10) (v := ?vrf57) rfl (by kernel_rfl) (by kernel_rfl) (by kernel_rfl) (by kernel_rfl) (fun _ _ _ h => h) (Or.inl ⟨by rfl, ?hrf57⟩) (unhide HSw31) ?_
                          case hrf57 => (intro w hSw; (try dsimp only at hSw); go_simp) <;> with_reducible rfl
                          simp only [Act.put, List.getElem_toArray, List.getElem_cons_zero, List.getElem_cons_succ, List.setIfInBounds_toArray, List.set_cons_zero, List.set_cons_succ]
                          refine anyL_take (i := 11) (v := ?vrf58) rfl (by kernel_rfl) (by kernel_rfl) (by kernel_rfl) (by kernel_rfl) (fun _ _ _ h => h) (Or.inl ⟨by rfl, ?hrf58⟩) (unhide HSw31) ?_
                          case hrf58 => (intro w hSw; (try dsimp only at hSw); go_simp) <;> with_reducible rfl
                          simp only [Act.put, List.getElem_toArray, List.getElem_cons_zero, List.getElem_cons_succ, List.setIfInBounds_toArray, List.set_cons_zero, List.set_cons_succ]
                          refine anyL_take (i := 12) (v := ?vrf59) rfl (by kernel_rfl) (by kernel_rfl) (by kernel_rfl) (by kernel_rfl) (fun _ _ _ h => h) (Or.inl ⟨by rfl, ?hrf59⟩) (unhide HSw31) ?_
                          case hrf59 => (intro w hSw; (try dsimp only at hSw); go_simp) <;> with_reducible rfl
                          simp only [Act.put, List.getElem_toArray, List.getElem_cons_zero, List.getElem_cons_succ, List.setIfInBounds_toArray, List.set_cons_zero, List.set_cons_succ]
                          refine anyL_take (i := 13) (v := ?vrf60) rfl (by kernel_rfl) (by kernel_rfl) (by kernel_rfl) (by kernel_rfl) (fun _ _ _ h => h) (Or.inl ⟨by rfl, ?hrf60⟩) (unhide HSw31) ?_
                          case hrf60 => (intro w hSw; (try dsimp only at hSw); go_simp) <;> with_reducible rfl
                          simp only [Act.put, List.getElem_toArray, List.getElem_cons_zero, List.getElem_cons_succ, List.setIfInBounds_toArray, List.set_cons_zero, List.set_cons_succ]
                          refine anyL_take (i := 14) (v := ?vrf61) rfl (by kernel_rfl) (by kernel_rfl) (by kernel_rfl) (by kernel_rfl) (fun _ _ _ h => h) (Or.inl ⟨by rfl, ?hrf61⟩) (unhide HSw31) ?_
                          case hrf61 => (intro w hSw; (try dsimp only at hSw); go_simp) <;> with_reducible rfl
                          simp only [Act.put, List.getElem_toArray, List.getElem_cons_zero, List.getElem_cons_succ, List.setIfInBounds_toArray, List.set_cons_zero, List.set_cons_succ]
                          refine anyL_take (i := 15) (v := ?vrf62) rfl (by kernel_rfl) (by kernel_rfl) (by kernel_rfl) (by kernel_rfl) (fun _ _ _ h => h) (Or.inl ⟨by rfl, ?hrf62⟩) (unhide HSw31) ?_
                          case hrf62 => (intro w hSw; (try dsimp only at hSw); go_simp) <;> with_reducible rfl
                          simp only [Act.put, List.getElem_toArray, List.getElem_cons_zero, List.getElem_cons_succ, List.setIfInBounds_toArray, List.set_cons_zero, List.set_cons_succ]
                          refine anyL_ready (rs := [16]) (by kernel_rfl) (by simp) ?_
                          refine AllL.cons rfl (fun K hK => ?_) AllL.nil
                          go_simp
                          refine (unhide HC2).mono ?_
                          rintro y w32 ⟨rfl, xw32⟩
                          dsimp only
                          have HSw32 := hide (s8_on (unhide HL9) xw32 (unhide HSw31))
                          have HXdw32 := hide ((unhide HXdw31).trans (xw32.mono (unhide HXdw31).size))
                          have HL9' := hide (l9_on (unhide HL9) xw32)
                          clear HL9
                          have HL9 := HL9'
                          clear HL9'
                          have HC3 := hide (drop14_at 77 w32)
                          clear HC2 xw32
                          refine unhide hK _ _ (fun _ => unhide HSw32) ?_
                          clear hK K
                          refine anyL_take (i := 17) (v := ?vrf63) rfl (by kernel_rfl) (by kernel_rfl) (by kernel_rfl) (by kernel_rfl) (fun _ _ _ h => h) (Or.inl ⟨by rfl, ?hrf63⟩) (unhide HSw32) ?_
                          case hrf63 => (intro w hSw; (try dsimp only at hSw); go_simp) <;> with_reducible rfl
                          simp only [Act.put, List.getElem_toArray, List.getElem_cons_zero, List.getElem_cons_succ, List.setIfInBounds_toArray, List.set_cons_zero, List.set_cons_succ]
                          refine anyL_take (i := 18) (v := ?vrf64) rfl (by kernel_rfl) (by kernel_rfl) (by kernel_rfl) (by kernel_rfl) (fun _ _ _ h => h) (Or.inl ⟨by rfl, ?hrf64⟩) (unhide HSw32) ?_
                          case hrf64 => (intro w hSw; (try dsimp only at hSw); go_simp) <;> with_reducible rfl
                          simp only [Act.put, List.getElem_toArray, List.getElem_cons_zero, List.getElem_cons_succ, List.setIfInBounds_toArray, List.set_cons_zero, List.set_cons_succ]
                          refine anyL_take (i := 19) (v := ?vrf65) rfl (by kernel_rfl) (by kernel_rfl) (by kernel_rfl) (by kernel_rfl) (fun _ _ _ h => h) (Or.inl ⟨by rfl, ?hrf65⟩) (unhide HSw32) ?_
                          case hrf65 => (intro w hSw; (try dsimp only at hSw); go_simp) <;> with_reducible rfl
                          simp only [Act.put, List.getElem_toArray, List.getElem_cons_zero, List.getElem_cons_succ, List.setIfInBounds_toArray, List.set_cons_zero, List.set_cons_succ]
                          refine anyL_take (i := 20) (v := ?vrf66) rfl (by kernel_rfl) (by kernel_rfl) (by kernel_rfl) (by kernel_rfl) (fun _ _ _ h => h) (Or.inl ⟨by rfl, ?hrf66⟩) (unhide HSw32) ?_
                          case hrf66 => (intro w hSw; (try dsimp only at hSw); go_simp) <;> with_reducible rfl
                          simp only [Act.put, List.getElem_toArray, List.getElem_cons_zero, List.getElem_cons_succ, List.setIfInBounds_toArray, List.set_cons_zero, List.set_cons_succ]
                          refine anyL_take (i := 21) (v := ?vrf67) rfl (by kernel_rfl) (by kernel_rfl) (by kernel_rfl) (by kernel_rfl) (fun _ _ _ h => h) (Or.inl ⟨by rfl, ?hrf67⟩) (unhide HSw32) ?_
                          case hrf67 => (intro w hSw; (try dsimp only at hSw); go_simp) <;> with_reducible rfl
                          simp only [Act.put, List.getElem_toArray, List.getElem_cons_zero, List.getElem_cons_succ, List.setIfInBounds_toArray, List.set_cons_zero, List.set_cons_succ]
                          refine anyL_take (i := 22) (v := ?vrf68) rfl (by kernel_rfl) (by kernel_rfl) (by kernel_rfl) (by kernel_rfl) (fun _ _ _ h => h) (Or.inl ⟨by rfl, ?hrf68⟩) (unhide HSw32) ?_
                          case hrf68 => (intro w hSw; (try dsimp only at hSw); go_simp) <;> with_reducible rfl
                          simp only [Act.put, List.getElem_toArray, List.getElem_cons_zero, List.getElem_cons_succ, List.setIfInBounds_toArray, List.set_cons_zero, List.set_cons_succ]
                          refine anyL_take (i := 23) (v := ?vrf69) rfl (by kernel_rfl) (by kernel_rfl) (by kernel_rfl) (by kernel_rfl) (fun _ _ _ h => h) (Or.inl ⟨by rfl, ?hrf69⟩) (unhide HSw32) ?_
                          case hrf69 => (intro w hSw; (try dsimp only at hSw); go_simp) <;> with_reducible rfl
                          simp only [Act.put, List.getElem_toArray, List.getElem_cons_zero, List.getElem_cons_succ, List.setIfInBounds_toArray, List.set_cons_zero, List.set_cons_succ]
                          refine anyL_take (i := 24) (v := ?vrf70) rfl (by kernel_rfl) (by kernel_rfl) (by kernel_rfl) (by kernel_rfl) (fun _ _ _ h => h) (Or.inl ⟨by rfl, ?hrf70⟩) (unhide HSw32) ?_
                          case hrf70 => (intro w hSw; (try dsimp only at hSw); go_simp) <;> with_reducible rfl
                          simp only [Act.put, List.getElem_toArray, List.getElem_cons_zero, List.getElem_cons_succ, List.setIfInBounds_toArray, List.set_cons_zero, List.set_cons_succ]
                          refine anyL_take (i := 25) (v := ?vrf71) rfl (by kernel_rfl) (by kernel_rfl) (by kernel_rfl) (by kernel_rfl) (fun _ _ _ h => h) (Or.inl ⟨by rfl, ?hrf71⟩) (unhide HSw32) ?_
                          case hrf71 => (intro w hSw; (try dsimp only at hSw); go_simp) <;> with_reducible rfl
                          simp only [Act.put, List.getElem_toArray, List.getElem_cons_zero, List.getElem_cons_succ, List.setIfInBounds_toArray, List.set_cons_zero, List.set_cons_succ]
                          refine anyL_take (i := 26) (v := ?vrf72) rfl (by kernel_rfl) (by kernel_rfl) (by kernel_rfl) (by kernel_rfl) (fun _ _ _ h => h) (Or.inl ⟨by rfl, ?hrf72⟩) (unhide HSw32) ?_
                          case hrf72 => (intro w hSw; (try dsimp only at hSw); go_simp) <;> with_reducible rfl
                          simp only [Act.put, List.getElem_toArray, List.getElem_cons_zero, List.getElem_cons_succ, List.setIfInBounds_toArray, List.set_cons_zero, List.set_cons_succ]
                          refine anyL_take (i := 27) (v := ?vrf73) rfl (by kernel_rfl) (by kernel_rfl) (by kernel_rfl) (by kernel_rfl) (fun _ _ _ h => h) (Or.inl ⟨by rfl, ?hrf73⟩) (unhide HSw32) ?_
                          case hrf73 => (intro w hSw; (try dsimp only at hSw); go_simp) <;> with_reducible rfl
                          simp only [Act.put, List.getElem_toArray, List.getElem_cons_zero, List.getElem_cons_succ, List.setIfInBounds_toArray, List.set_cons_zero, List.set_cons_succ]
                          refine anyL_take (i := 28) (v := ?vrf74) rfl (by kernel_rfl) (by kernel_rfl) (by kernel_rfl) (by kernel_rfl) (fun _ _ _ h => h) (Or.inl ⟨by rfl, ?hrf74⟩) (unhide HSw32) ?_
                          case hrf74 => (intro w hSw; (try dsimp only at hSw); go_simp) <;> with_reducible rfl
                          simp only [Act.put, List.getElem_toArray, List.getElem_cons_zero, List.getElem_cons_succ, List.setIfInBounds_toArray, List.set_cons_zero, List.set_cons_succ]
                          refine anyL_ready (rs := [29]) (by kernel_rfl) (by simp) ?_
                          refine AllL.cons rfl (fun K hK => ?_) AllL.nil
                          go_simp
                          refine (unhide HC3).mono ?_
                          rintro y w33 ⟨rfl, xw33⟩
                          dsimp only
                          have HSw33 := hide (s8_on (unhide HL9) xw33 (unhide HSw32))
                          have HXdw33 := hide ((unhide HXdw32).trans (xw33.mono (unhide HXdw32).size))
                          clear HC3 xw33
                          refine unhide hK _ _ (fun _ => unhide HSw33) ?_
                          clear hK K
                          refine anyL_take (i := 30) (v := ?vrf75) rfl (by kernel_rfl) (by kernel_rfl) (by kernel_rfl) (by kernel_rfl) (fun _ _ _ h => h) (Or.inl ⟨by rfl, ?hrf75⟩) (unhide HSw33) ?_
                          case hrf75 => (intro w hSw; (try dsimp only at hSw); go_simp) <;> with_reducible rfl
                          simp only [Act.put, List.getElem_toArray, List.getElem_cons_zero, List.getElem_cons_succ, List.setIfInBounds_toArray, List.set_cons_zero, List.set_cons_succ]
                          refine anyL_take (i := 31) (v := ?vrf76) rfl (by kernel_rfl) (by kernel_rfl) (by kernel_rfl) (by kernel_rfl) (fun _ _ _ h => h) (Or.inl ⟨by rfl, ?hrf76⟩) (unhide HSw33) ?_
                          case hrf76 => (intro w hSw; (try dsimp only at hSw); go_simp) <;> with_reducible rfl
                          simp only [Act.put, List.getElem_toArray, List.getElem_cons_zero, List.getElem_cons_succ, List.setIfInBounds_toArray, List.set_cons_zero, List.set_cons_succ]
                          refine anyL_done (by kernel_rfl) ?_ _
                          clear HS0
                          have HWk := hide Wk
                          have HLt := hide hlt
                          clear Wk hlt Wl Wl' i1 i2 i3 hk5 hc5 hlx hly s4 s5 s6
                          go_wp2_with fail
                          have Wk := unhide HWk
                          have hlt := unhide HLt
                          go_roundw
                          case rel => exact ⟨⟨⟨_, rfl⟩, ⟨_, rfl⟩⟩, ⟨k + 1, by first | rfl | exact congrArg _ Wk | go_num, hlt, HXdw33⟩⟩
                          case measure => first | exact gr_ms3 hlt | exact gr_ms hlt Wk
                        · obtain rfl : k = aq.length := Nat.le_antisymm hk (Nat.not_lt.1 hlt)
                          obtain ⟨s4, s5, s6⟩ := dnl hlt
                          have HZ := hide ((unhide HBf).trans ((unhide HX).mono (unhide HBf).size))
                          clear hk hlt HOF HMf HBf HX
                          go_wp2_with fail
                          refine bodyPost_ret (results_tmp rfl _ _ _) rfl ⟨rfl, unhide HZ⟩
end Go.Proofs.Ytjjdgfjlpkhgcaa
