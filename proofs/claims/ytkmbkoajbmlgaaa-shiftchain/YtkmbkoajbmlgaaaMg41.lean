/- Layer 14: ShiftChain's walk (written by wip/tools/sgy.py). · Layer 14: ShiftChain's walk, first form (written by wip/tools/shd.py out of Sgy). · ShiftChain: for every input the law returns true and every argument reads afterwards as it read before; conditions: none. -/
import Derived.Test.YtkmbkoajbmlgaaaMg37
import Derived.Test.YtkmbkoajbmlgaaaMg40
import Derived.Test.YtkmbkoajbmlgaaaMg39
import Derived.Below
import Derived.ChangeOld
import Derived.ShutString

section
namespace Go.Proofs.Ytkmbkoajbmlgaaa
open Go.ChangeShapes Go.WideShapes Go.ChangeAt Go.RowKit
attribute [local go_sem] Oper.semAt_some

theorem IsDx.up {w X : World} {A0 : Option Addr} {ds : List Dl} (h : IsDx w w A0 ds) (hb : Below w.heap.size w X) : IsDx X X A0 ds := ⟨(h.on hb).c, fun i hi => ⟨(h.o i hi).1.below hb (Nat.le_refl _), (h.o i hi).2⟩⟩
/-- lists in a row of one's own, with their room -/
theorem ch_isDc {w X : World} {v1 v8 : Value} {b : List Dop} {L : List (List Dop)} (h : ChM w X v1 v8 b L) (ht : ∀ d ∈ L, ∀ o ∈ d, o.t.length ≤ 140737488355328) : ∃ A0 c ds, v8 = .slice A0 L.length c ∧ ds.map (·.d) = L ∧ IsDx X X A0 ds ∧ ∀ x ∈ ds, x.d.length ≤ x.c := by
  obtain ⟨vs, h1, h2, h3⟩ := h.l
  obtain ⟨A0, c, hv, _⟩ := rowD_form h1
  have each : ∀ i, i < L.length → ∃ x : Dl, vs.getD i undef = .slice x.a x.d.length x.c ∧ x.d = L.getD i [] ∧ IsO X x.a x.d ∧ x.d.length ≤ x.c := fun i hi => by
    obtain ⟨a, c, e1, e2, e3⟩ := own_isO (h3 i hi)
    exact ⟨⟨a, c, L.getD i []⟩, e1, rfl, e2, e3⟩
  let f : Nat → Dl := fun i => if hi : i < L.length then Classical.choose (each i hi) else dlZ
  have hf : ∀ i, i < L.length → vs.getD i undef = .slice (f i).a (f i).d.length (f i).c ∧ (f i).d = L.getD i [] ∧ IsO X (f i).a (f i).d ∧ (f i).d.length ≤ (f i).c := fun i hi => by
    have := Classical.choose_spec (each i hi)
    simp only [f, hi, dif_pos]
    exact this
  have hget : ∀ i, i < L.length → ((List.range L.length).map f).getD i dlZ = f i := fun i hi => by simp [List.getD, hi]
  refine ⟨A0, c, (List.range L.length).map f, hv, ?_, ⟨fun i hi => ?_, fun i hi => ?_⟩, fun x hx => ?_⟩
  · apply List.ext_getElem?
    intro i
    rcases Nat.lt_or_ge i L.length with hi | hi
    · have := (hf i hi).2.1
      simp [hi, this, List.getD]
    · simp [hi]
  · have hi' : i < L.length := by simpa using hi
    obtain ⟨G, c2, hv2, hG, hlt⟩ := h1.form (Nat.lt_of_le_of_lt (Nat.zero_le _) hi')
    rw [hv] at hv2
    cases hv2
    rw [hget i hi', ← (hf i hi').1]
    rw [hv] at h1
    have hc := World.ownsRow.cells h1 rfl i (vs.getD i undef) (by simp [List.getD, List.getElem?_eq_getElem (show i < vs.length by omega)])
    rw [Addr.add_lit] at hc
    exact ⟨G, 0, rfl, hlt, hc⟩
  · have hi' : i < L.length := by simpa using hi
    rw [hget i hi']
    refine ⟨(hf i hi').2.2.1, ?_⟩
    rw [(hf i hi').2.1]
    refine ht _ ?_
    simp [List.getD, List.getElem?_eq_getElem hi']
  · obtain ⟨r, hr, rfl⟩ := List.mem_map.1 hx
    exact (hf r (by simpa using hr)).2.2.2
theorem lk_congr : ∀ {ds ds' : List Dl} (n : Nat), ds.map (·.d) = ds'.map (·.d) → lkF n ds = lkF n ds' ∧ ds.all (fun x => valB x.d) = ds'.all (fun x => valB x.d)
  | [], [], _, _ => ⟨rfl, rfl⟩
  | [], _ :: _, _, h => by simp at h
  | _ :: _, [], _, h => by simp at h
  | a :: r, b :: s, n, h => by
    simp only [List.map_cons, List.cons.injEq] at h
    obtain ⟨h1, h2⟩ := lk_congr (toD a.d) h.2
    simp only [lkF, List.all_cons]
    rw [h1, h2, h.1]
    exact ⟨rfl, rfl⟩
theorem cn_congr {ds ds' : List Dl} (e : List Dop) (h : ds.map (·.d) = ds'.map (·.d)) : cnQ ds e = cnQ ds' e := by
  have hk : lkE ds e = lkE ds' e := by
    unfold lkE
    rw [(lk_congr (frD e) h).1, (lk_congr (frD e) h).2]
  unfold cnQ
  rw [hk, h]
/-- a list that may be held against others -/
def PdL (d : List Dop) : Prop := (∀ o ∈ d, TbD o ∧ o.t.length ≤ 140737488355328) ∧ d.length ≤ 4611686018427387904
theorem pd_nil : PdL [] := ⟨by simp, by simp⟩
theorem pd_bo {d e : List Dop} (hd : PdL d) (he : PdL e) : PdL (boA d e) ∧ PdL (boB d e) := by
  obtain ⟨t1, t2⟩ := bo_tb (fun o ho => (hd.1 o ho).1) (fun o ho => (he.1 o ho).1)
  obtain ⟨s1, s2⟩ := boA_small d e
  by_cases hE : boE d e = 0
  · obtain ⟨o1, o2, eA, eB⟩ := bo_ok hE
    have v1 : valB (boA d e) = true := by rw [eA]; exact o1.v
    have v2 : valB (boB d e) = true := by rw [eB]; exact o2.v
    exact ⟨⟨fun o ho => ⟨t1 o ho, val_tl v1 o ho⟩, s1⟩, ⟨fun o ho => ⟨t2 o ho, val_tl v2 o ho⟩, s2⟩⟩
  · have e1 : boA d e = [] := by unfold boA; rw [if_neg hE]
    have e2 : boB d e = [] := by unfold boB; rw [if_neg hE]
    rw [e1, e2]; exact ⟨pd_nil, pd_nil⟩
theorem pd_pre {L : List (List Dop)} {q : (List Dop × List (List Dop)) × Int} (hL : ∀ d ∈ L, PdL d) (h1 : PdL q.1.1) (h2 : ∀ d ∈ q.1.2, PdL d) : PdL (preL L q).1.1 ∧ ∀ d ∈ (preL L q).1.2, PdL d := by
  unfold preL
  split
  · refine ⟨h1, fun d hd => ?_⟩
    rcases List.mem_append.1 hd with hd | hd
    · exact hL d hd
    · exact h2 d hd
  · exact ⟨h1, h2⟩
theorem pd_ch : ∀ (l : List (List Dop)) (b : List Dop), (∀ d ∈ l, PdL d) → PdL b → PdL (chL l b).1.1 ∧ ∀ d ∈ (chL l b).1.2, PdL d
  | [], b, _, hb => ⟨hb, by simp [chL]⟩
  | a :: r, b, hl, hb => by
    obtain ⟨p1, p2⟩ := pd_bo (hl a (by simp)) hb
    simp only [chL]
    split
    · obtain ⟨q1, q2⟩ := pd_ch r (boB a b) (fun d hd => hl d (by simp [hd])) p2
      exact pd_pre (fun d hd => by simp only [List.mem_singleton] at hd; rw [hd]; exact p1) q1 q2
    · exact ⟨pd_nil, by simp⟩
theorem pd_cn {ds : List Dl} {e : List Dop} (h1 : ∀ x ∈ ds, PdL x.d) (h2 : PdL e) : PdL (cnQ ds e).1.1 ∧ ∀ d ∈ (cnQ ds e).1.2, PdL d := by
  unfold cnQ
  split
  · exact pd_ch _ _ (fun d hd => by obtain ⟨x, hx, rfl⟩ := List.mem_map.1 hd; exact h1 x hx) h2
  · exact ⟨pd_nil, by simp⟩
theorem cn_len {ds : List Dl} {e : List Dop} : (cnQ ds e).1.2.length ≤ ds.length := by
  have key : ∀ (l : List (List Dop)) (b : List Dop), (chL l b).1.2.length ≤ l.length := by
    intro l
    induction l with
    | nil => intro b; simp [chL]
    | cons a r ih =>
      intro b
      simp only [chL]
      split
      · have := ih (boB a b)
        unfold preL
        split
        · simp only [List.length_append, List.length_cons, List.length_nil]; omega
        · simp only [List.length_cons]; omega
      · simp
  unfold cnQ
  split
  · have := key (ds.map (·.d)) e
    simpa using this
  · simp
/-- great of one -/
theorem great1_at (x : Dl) (w X : World) (hx : IsO w x.a x.d) (tx : ∀ o ∈ x.d, o.t.length ≤ 140737488355328) (hd : Below w.heap.size w X) (lx : x.d.length ≤ 4611686018427387904 ∧ txD x.d ≤ 1099511627776) :
    Calls Try.prog 31 #[.slice (some ⟨X.heap.size, 0, none⟩) 1 1] (X.alloc (.cells #[.slice x.a x.d.length x.c] 24)) fun z X' => z = .returned (.bool (grB [x])) ∧ Below X.heap.size X X' := by
  have kN := Cls.new X 24 #[.slice x.a x.d.length x.c]
  have bA := (Below.refl X.heap.size X).alloc (Nat.le_refl _) (.cells #[.slice x.a x.d.length x.c] 24)
  have hD : IsDx w (X.alloc (.cells #[.slice x.a x.d.length x.c] 24)) (some ⟨X.heap.size, 0, none⟩) [x] := ⟨fun i hi => by
    match i with
    | 0 => exact ⟨_, 0, rfl, kN.lt, kN.cell 0⟩
    | i + 1 => simp at hi, fun i hi => by
    match i with
    | 0 => exact ⟨hx, tx⟩
    | i + 1 => simp at hi⟩
  exact (great14_at _ 1 [x] w _ hD (hd.trans (bA.mono hd.size)) (by simp) (fun z hz => by
    simp only [List.mem_cons, List.not_mem_nil, or_false] at hz
    rw [hz]; exact lx)).mono fun z X' ⟨e, x⟩ => ⟨e, bA.trans (x.mono bA.size)⟩
theorem chainM_at {w X : World} {v5 : Value} {ds : List Dl} {e : List Dop} (hM : ChM w X (.slice none 0 0) v5 [] (ds.map (·.d))) (hpd : ∀ x ∈ ds, PdL x.d) (hlx : ds.length ≤ 1048576) (hly : e.length ≤ 1048576) :
    ∃ A1 c1, v5 = .slice A1 ds.length c1 ∧ (∀ a4 c4, IsO X a4 e → Calls Try.prog 37 #[.slice A1 ds.length c1, .slice a4 e.length c4] X fun y w' => ∃ v1 v8, y = .returned (.tuple #[v1, v8, .int .i64 (cnQ ds e).2]) ∧ ChM X w' v1 v8 (cnQ ds e).1.1 (cnQ ds e).1.2) := by
  obtain ⟨A1, c1, dsM, e1, e2, e3, e4⟩ := ch_isDc hM (fun d hd o ho => by obtain ⟨x, hx, rfl⟩ := List.mem_map.1 hd; exact ((hpd x hx).1 o ho).2)
  have hlm : dsM.length = ds.length := by have := congrArg List.length e2; simpa using this
  refine ⟨A1, c1, by rw [e1, List.length_map], fun a4 c4 h4 => ?_⟩
  have hd : ∀ x ∈ dsM, x.d.length ≤ 4611686018427387904 ∧ x.d.length ≤ x.c := fun x hx => by
    refine ⟨?_, e4 x hx⟩
    have hm : x.d ∈ dsM.map (·.d) := List.mem_map.2 ⟨x, hx, rfl⟩
    rw [e2] at hm
    obtain ⟨x', hx', e5⟩ := List.mem_map.1 hm
    rw [← e5]; exact (hpd x' hx').2
  have hc := ChainX_at A1 c1 dsM a4 c4 e X e3 h4 (by omega) (by omega) hd
  rw [cn_congr e e2, hlm] at hc
  exact hc
theorem sameM_at {X W1 W2 : World} {v1 v8 v1' v8' : Value} {b b' : List Dop} {QL : List (List Dop)} (h1 : ChM W1 X v1 v8 b QL) (h2 : ChM W2 X v1' v8' b' QL) (pL : ∀ d ∈ QL, PdL d) (hl : QL.length ≤ 1099511627776) :
    Calls Try.prog 39 #[v8, v8'] X fun y X' => y = .returned (.bool true) ∧ Below X.heap.size X X' := by
  obtain ⟨A1, c1, d1, e1, e2, e3⟩ := ch_isDx h1 (fun d hd o ho => ((pL d hd).1 o ho).2)
  obtain ⟨A2, c2, d2, f1, f2, f3⟩ := ch_isDx h2 (fun d hd o ho => ((pL d hd).1 o ho).2)
  have l1 : d1.length = QL.length := by have := congrArg List.length e2; simpa using this
  have l2 : d2.length = QL.length := by have := congrArg List.length f2; simpa using this
  have hc := RSameAllX_at A1 A2 c1 c2 d1 d2 X X e3 f3 (Below.refl _ _) (e2.trans f2.symm) (by rw [l1]; exact Nat.le_trans hl (by decide)) (fun x hx => by
    have hm : x.d ∈ d1.map (·.d) := List.mem_map.2 ⟨x, hx, rfl⟩
    rw [e2] at hm
    exact ⟨(pL _ hm).2, fun o ho => ((pL _ hm).1 o ho).1⟩)
  rw [l1, l2] at hc
  rw [e1, f1]
  exact hc
theorem take_mapD {ds : List Dl} {k : Nat} (hk : k < ds.length) : (ds.take (k + 1)).map (·.d) = (ds.take k).map (·.d) ++ [(ds.getD k dlZ).d] := by
  rw [List.take_add_one, List.getElem?_eq_getElem hk, Option.toList_some, List.map_append]
  simp [List.getD, List.getElem?_eq_getElem hk]
theorem tk_sz {ds : List Dl} {k : Nat} (hk : k < ds.length) (h : ds.length ≤ 1048576) : (((ds.take k).map (·.d)).length + 1) * 24 ≤ 140737488355328 := by rw [List.length_map, List.length_take]; omega
set_option maxRecDepth 100000 in
set_option maxHeartbeats 8000000 in
theorem ShiftChain_any (A0 : Option Addr) (cc : Nat) (ds : List Dl) (a2 : Option Addr) (c2 : Nat) (e : List Dop) (w : World) (hx : IsDx w w A0 ds) (hlx : ds.length ≤ 1048576) (hdx : ∀ x ∈ ds, DlIu w x) (hy : IsO w a2 e) (hzy : e = [] ∨ ∃ q, a2 = some q) (hly : e.length ≤ 1048576) (hty : ∀ o ∈ e, TbD o ∧ o.t.length ≤ 1048576) :
    Calls Try.prog 6 #[.slice A0 ds.length cc, .slice a2 e.length c2] w fun y w' => y = .returned (.bool true) ∧ Below w.heap.size w w' := by
  have HAw := hide (fixed14_at w)
  have tY := tx_of hly hty
  have qY : ∀ o ∈ e, o.t.length ≤ 140737488355328 := fun o ho => Nat.le_trans (hty o ho).2 (by decide)
  have lY : e.length ≤ 4611686018427387904 := Nat.le_trans hly (by decide)
  have hds : ∀ x ∈ ds, x.d.length ≤ 4611686018427387904 ∧ txD x.d ≤ 1099511627776 := fun x hx => ⟨Nat.le_trans (hdx x hx).l (by decide), tx_of (hdx x hx).l (hdx x hx).t⟩
  have HG1 := hide fun (X : World) (hX : Below w.heap.size w X) => great14_at A0 cc ds w X (hx.on hX) hX (Nat.le_trans hlx (by decide)) hds
  have HG2 := hide fun (X : World) (hX : Below w.heap.size w X) => great1_at ⟨a2, c2, e⟩ w X hy qY hX ⟨lY, tY⟩
  dsimp only at HG2
  have HCB := hide fun (X : World) (hX : Below w.heap.size w X) => copiedO_at a2 c2 e X (hy.below hX (Nat.le_refl _)) hzy (by omega)
  have HCD := hide fun (X : World) (hX : Below w.heap.size w X) (k : Nat) (hk : k < ds.length) => copied14_at (ds.getD k dlZ).a (ds.getD k dlZ).c (ds.getD k dlZ).d X ((hdx _ (mem_dl hk)).o.below hX (Nat.le_refl _)) (hdx _ (mem_dl hk)).z (by have := (hdx _ (mem_dl hk)).l; omega)
  have HXC := hide fun (X : World) (hX : Below w.heap.size w X) => hx.on hX
  have hpd : ∀ x ∈ ds, PdL x.d := fun x hx => ⟨fun o ho => ⟨((hdx x hx).t o ho).1, Nat.le_trans ((hdx x hx).t o ho).2 (by decide)⟩, Nat.le_trans (hdx x hx).l (by decide)⟩
  have hpe : PdL e := ⟨fun o ho => ⟨(hty o ho).1, qY o ho⟩, lY⟩
  obtain ⟨pD, pL⟩ := pd_cn hpd hpe
  have HML := hide fun (X : World) (v5 : Value) (hM : ChM w X (.slice none 0 0) v5 [] (ds.map (·.d))) => chainM_at hM hpd hlx hly
  have HRC := hide fun (X : World) (hX : Below w.heap.size w X) => RChain14_at A0 cc ds a2 c2 e X (hx.up hX) (hy.below hX (Nat.le_refl _)) hlx hly tY hds
  have HS1 := hide fun (X : World) (a3 : Option Addr) (c3 : Nat) (a4 : Option Addr) (c4 : Nat) (h3 : IsO X a3 (cnQ ds e).1.1) (h4 : IsO X a4 (cnQ ds e).1.1) => RSame14_at a3 c3 _ a4 c4 _ X h3 h4 pD.2 pD.2 (fun o ho => (pD.1 o ho).1) (fun o ho => (pD.1 o ho).1)
  simp only [decide_true] at HS1
  have HS2 := hide fun (X W1 W2 : World) (v1 v8 v1' v8' : Value) (b b' : List Dop) (h1 : ChM W1 X v1 v8 b (cnQ ds e).1.2) (h2 : ChM W2 X v1' v8' b' (cnQ ds e).1.2) => sameM_at h1 h2 pL (Nat.le_trans cn_len (Nat.le_trans hlx (show 1048576 ≤ 1099511627776 by decide)))
  clear hx hy hzy hly hty tY qY lY hds hdx hpd hpe pD pL
  generalize hQ : cnQ ds e = Q at *
  obtain ⟨⟨QD, QL⟩, QE⟩ := Q
  dsimp only at *
  unfold RChP at HRC
  rw [hQ] at HRC
  dsimp only at HRC
  clear hQ
  generalize grB ds = G1 at *
  generalize grB [⟨a2, c2, e⟩] = G2 at *
  go_enter Try.func6, Try.ntmps6
  go_wp2_with fail
  refine (unhide HAw).mono ?_
  rintro y w1 ⟨rfl, x1⟩
  dsimp only
  have HX1 := hide x1
  clear HAw x1
  have HC2 := hide (unhide HG1 w1 (unhide HX1))
  go_wp2_with fail
  refine (unhide HC2).mono ?_
  rintro y w2 ⟨rfl, x2⟩
  dsimp only
  have HX2 := hide ((unhide HX1).trans (x2.mono (unhide HX1).size))
  clear HC2 HX1 x2  HG1
  cases G1 with
  | true =>
    go_wp2_with fail
    refine bodyPost_ret (results_tmp rfl _ _ _) rfl ⟨rfl, unhide HX2⟩
  | false =>
    have HC3 := hide (unhide HG2 w2 (unhide HX2))
    go_wp2_with fail
    refine (unhide HC3).mono ?_
    rintro y w3 ⟨rfl, x3⟩
    dsimp only
    have HX3 := hide ((unhide HX2).trans (x3.mono (unhide HX2).size))
    clear HC3 HX2 x3  HG2
    cases G2 with
    | true =>
      go_wp2_with fail
      refine bodyPost_ret (results_tmp rfl _ _ _) rfl ⟨rfl, unhide HX3⟩
    | false =>
      go_wp2_with fail
      go_loopw [5, 7, 25] (fun v5 v7 v25 wx => (∃ z, v7 = z) ∧ ∃ k : Nat, v25 = .int .i64 (k : Int) ∧ k ≤ ds.length ∧ Hid (ChM w wx (.slice none 0 0) v5 [] ((ds.take k).map (·.d)))) (fun _ _ v25 _ => ds.length - (intOf v25).toNat)
      case atStart => exact ⟨⟨_, rfl⟩, ⟨0, rfl, Nat.zero_le _, hide (ChM.nil w _ (unhide HX3))⟩⟩
      case round =>
        clear HX3
        obtain ⟨⟨z1, rfl⟩, ⟨k, rfl, hk, HM⟩⟩ := hrel
        by_cases hlt : k < ds.length
        · obtain ⟨s1, s2, s3⟩ := dlt hlt
          obtain ⟨gA, oA, hA0, _, q0⟩ := (unhide HXC wr (unhide HM).d).c k hlt
          subst hA0
          have HC := hide (unhide HCD wr (unhide HM).d k hlt)
          have Wk := gr_w hlt (Nat.le_trans hlx (show 1048576 ≤ 4611686018427387904 by decide))
          have HTK := hide (take_mapD hlt)
          have hsz := tk_sz hlt hlx
          clear hk
          generalize ds.getD k dlZ = x at *
          obtain ⟨xa, xc, xd⟩ := x
          dsimp only at *
          go_wp2_with fail
          refine (unhide HC).mono ?_
          rintro y w9 ⟨v, rfl, o9, x9⟩
          dsimp only
          obtain ⟨a9, c9, rfl, _, _⟩ := own_isO o9
          have hm3 := (unhide HM).on x9
          obtain ⟨v', W', r2, m2⟩ := hm3.push (own_lower o9 (unhide HM).d.size) (row_nilD _ _) hsz
          have R2 := hide r2
          rw [← unhide HTK] at m2
          have HM2 := hide m2
          clear HC HM o9 x9 hm3 r2 m2 q0 hsz HTK
          go_wp2_with (at_builtin; refine wpList_append_known rfl _ _ 57 57 rfl _ _ rfl rfl _ _ (unhide R2) ?_; clear R2)
          go_roundw
          case rel => exact ⟨⟨_, rfl⟩, ⟨k + 1, by first | rfl | exact congrArg _ Wk | go_num, hlt, HM2⟩⟩
          case measure => first | exact gr_ms3 hlt | exact gr_ms hlt Wk
        · obtain rfl : k = ds.length := Nat.le_antisymm hk (Nat.not_lt.1 hlt)
          obtain ⟨s1, s2, s3⟩ := dnl hlt
          rw [List.take_length] at HM
          have HX9 := hide (unhide HM).d
          have HC1 := hide (unhide HCB wr (unhide HX9))
          clear hk hlt HCB HCD HXC
          go_wp2_with fail
          refine (unhide HC1).mono ?_
          rintro y w10 ⟨a4, c4, rfl, ⟨i4, k4⟩, x10⟩
          dsimp only
          have HX10 := hide ((unhide HX9).trans (x10.mono (unhide HX9).size))
          have hm := (unhide HM).on x10
          generalize hu5 : u5 = v5 at *
          obtain ⟨A1, c1, rfl, hC⟩ := unhide HML w10 _ hm
          have HC2 := hide (hC a4 c4 i4)
          subst hu5
          clear HC1 HX9 x10 i4 k4 HM hm hC HML
          go_wp2_with fail
          refine (unhide HC2).mono ?_
          rintro y w11 ⟨v1, v8, rfl, m11⟩
          dsimp only
          have HX11 := hide ((unhide HX10).trans (m11.d.mono (unhide HX10).size))
          have HM11 := hide m11
          obtain ⟨aD, cD, rfl, iD, _⟩ := own_isO m11.b
          have HID := hide iD
          have HC3 := hide (unhide HRC w11 (unhide HX11))
          clear HC2 HX10 m11 iD HRC
          go_wp2_with fail
          refine (unhide HC3).mono ?_
          rintro y w12 ⟨aE, cE, v8', rfl, iE, m12⟩
          dsimp only
          have HX12 := hide ((unhide HX11).trans (m12.d.mono (unhide HX11).size))
          have HM12 := hide m12
          have HN11 := hide ((unhide HM11).on m12.d)
          have HC4 := hide (unhide HS1 w12 aD cD aE cE ((unhide HID).below m12.d (Nat.le_refl _)) iE)
          clear HC3 HX11 m12 iE HM11 HID HS1
          go_wp2_with fail
          refine (unhide HC4).mono ?_
          rintro y w13 ⟨rfl, x13⟩
          dsimp only
          have HX13 := hide ((unhide HX12).trans (x13.mono (unhide HX12).size))
          have HC5 := hide (unhide HS2 w13 _ _ _ _ _ _ _ _ ((unhide HN11).on x13) ((unhide HM12).on x13))
          clear HC4 HX12 x13 HN11 HM12 HS2
          go_wp2_with fail
          refine (unhide HC5).mono ?_
          rintro y w14 ⟨rfl, x14⟩
          dsimp only
          have HX14 := hide ((unhide HX13).trans (x14.mono (unhide HX13).size))
          clear HC5 HX13 x14
          go_wp2_with fail
          refine bodyPost_ret (results_tmp rfl _ _ _) rfl ⟨rfl, unhide HX14⟩

end Go.Proofs.Ytkmbkoajbmlgaaa
end

section
namespace Go.Proofs.Ytkmbkoajbmlgaaa
open Go.ChangeShapes Go.WideShapes Go.ChangeAt Go.RowKit
attribute [local go_sem] Oper.semAt_some

theorem isO_z {W : World} {a : Option Addr} {d : List Dop} (h : IsO W a d) : d = [] ∨ ∃ q, a = some q := by
  rcases h with h | ⟨g, off, h, _⟩
  · exact .inl h
  · exact .inr ⟨_, h⟩
/-- great of one -/
theorem great1W_at (x : Dl) (w X : World) (hx : IsO w x.a x.d) (tx : ∀ o ∈ x.d, o.t.length ≤ 140737488355328) (hd : Below w.heap.size w X) (lx : x.d.length ≤ 4611686018427387904) :
    Calls Try.prog 31 #[.slice (some ⟨X.heap.size, 0, none⟩) 1 1] (X.alloc (.cells #[.slice x.a x.d.length x.c] 24)) fun z X' => z = .returned (.bool (gwB [x])) ∧ Below X.heap.size X X' := by
  have kN := Cls.new X 24 #[.slice x.a x.d.length x.c]
  have bA := (Below.refl X.heap.size X).alloc (Nat.le_refl _) (.cells #[.slice x.a x.d.length x.c] 24)
  have hD : IsDx w (X.alloc (.cells #[.slice x.a x.d.length x.c] 24)) (some ⟨X.heap.size, 0, none⟩) [x] := ⟨fun i hi => by
    match i with
    | 0 => exact ⟨_, 0, rfl, kN.lt, kN.cell 0⟩
    | i + 1 => simp at hi, fun i hi => by
    match i with
    | 0 => exact ⟨hx, tx⟩
    | i + 1 => simp at hi⟩
  exact (great14W_at _ 1 [x] w _ hD (hd.trans (bA.mono hd.size)) (by simp) (fun z hz => by
    simp only [List.mem_cons, List.not_mem_nil, or_false] at hz
    rw [hz]; exact lx)).mono fun z X' ⟨e, x⟩ => ⟨e, bA.trans (x.mono bA.size)⟩
theorem chainMS_at {w X : World} {v5 : Value} {ds : List Dl} {e : List Dop} (hM : ChM w X (.slice none 0 0) v5 [] (ds.map (·.d))) (hpd : ∀ x ∈ ds, PdL x.d) (hlx : ds.length * 24 ≤ 140737488355328) (hly : e.length * 32 ≤ 140737488355328) :
    ∃ A1 c1, v5 = .slice A1 ds.length c1 ∧ (∀ a4 c4, IsO X a4 e → Calls Try.prog 37 #[.slice A1 ds.length c1, .slice a4 e.length c4] X fun y w' => ∃ v1 v8, y = .returned (.tuple #[v1, v8, .int .i64 (cnQ ds e).2]) ∧ ChM X w' v1 v8 (cnQ ds e).1.1 (cnQ ds e).1.2) := by
  obtain ⟨A1, c1, dsM, e1, e2, e3, e4⟩ := ch_isDc hM (fun d hd o ho => by obtain ⟨x, hx, rfl⟩ := List.mem_map.1 hd; exact ((hpd x hx).1 o ho).2)
  have hlm : dsM.length = ds.length := by have := congrArg List.length e2; simpa using this
  refine ⟨A1, c1, by rw [e1, List.length_map], fun a4 c4 h4 => ?_⟩
  have hd : ∀ x ∈ dsM, x.d.length ≤ 4611686018427387904 ∧ x.d.length ≤ x.c := fun x hx => by
    refine ⟨?_, e4 x hx⟩
    have hm : x.d ∈ dsM.map (·.d) := List.mem_map.2 ⟨x, hx, rfl⟩
    rw [e2] at hm
    obtain ⟨x', hx', e5⟩ := List.mem_map.1 hm
    rw [← e5]; exact (hpd x' hx').2
  have hc := ChainX_at A1 c1 dsM a4 c4 e X e3 h4 (by rw [hlm]; exact hlx) hly hd
  rw [cn_congr e e2, hlm] at hc
  exact hc
theorem sameMS_at {X W1 W2 : World} {v1 v8 v1' v8' : Value} {b b' : List Dop} {QL : List (List Dop)} (h1 : ChM W1 X v1 v8 b QL) (h2 : ChM W2 X v1' v8' b' QL) (pL : ∀ d ∈ QL, PdL d) (hl : QL.length ≤ 4611686018427387904) :
    Calls Try.prog 39 #[v8, v8'] X fun y X' => y = .returned (.bool true) ∧ Below X.heap.size X X' := by
  obtain ⟨A1, c1, d1, e1, e2, e3⟩ := ch_isDx h1 (fun d hd o ho => ((pL d hd).1 o ho).2)
  obtain ⟨A2, c2, d2, f1, f2, f3⟩ := ch_isDx h2 (fun d hd o ho => ((pL d hd).1 o ho).2)
  have l1 : d1.length = QL.length := by have := congrArg List.length e2; simpa using this
  have l2 : d2.length = QL.length := by have := congrArg List.length f2; simpa using this
  have hc := RSameAllX_at A1 A2 c1 c2 d1 d2 X X e3 f3 (Below.refl _ _) (e2.trans f2.symm) (by rw [l1]; exact hl) (fun x hx => by
    have hm : x.d ∈ d1.map (·.d) := List.mem_map.2 ⟨x, hx, rfl⟩
    rw [e2] at hm
    exact ⟨(pL _ hm).2, fun o ho => ((pL _ hm).1 o ho).1⟩)
  rw [l1, l2] at hc
  rw [e1, f1]
  exact hc
theorem tk_szS {ds : List Dl} {k : Nat} (hk : k < ds.length) (h : ds.length * 24 ≤ 140737488355328) : (((ds.take k).map (·.d)).length + 1) * 24 ≤ 140737488355328 := by rw [List.length_map, List.length_take]; omega
set_option maxRecDepth 100000 in
set_option maxHeartbeats 8000000 in
theorem ShiftChainS_any (A0 : Option Addr) (cc : Nat) (ds : List Dl) (a2 : Option Addr) (c2 : Nat) (e : List Dop) (w : World) (hx : IsDx w w A0 ds) (hlx : ds.length * 24 ≤ 140737488355328) (hdx : ∀ x ∈ ds, DlIn w x) (hy : IsO w a2 e) (hzy : e = [] ∨ ∃ q, a2 = some q) (hly : e.length * 32 ≤ 140737488355328) (hty : ∀ o ∈ e, TbD o ∧ o.t.length ≤ 140737488355328) :
    Calls Try.prog 6 #[.slice A0 ds.length cc, .slice a2 e.length c2] w fun y w' => y = .returned (.bool true) ∧ Below w.heap.size w w' := by
  have HAw := hide (fixed14_at w)
  have qY : ∀ o ∈ e, o.t.length ≤ 140737488355328 := fun o ho => (hty o ho).2
  have lY : e.length ≤ 4611686018427387904 := by omega
  have hds : ∀ x ∈ ds, x.d.length ≤ 4611686018427387904 := fun x hx => by have := (hdx x hx).l; omega
  have HG1 := hide fun (X : World) (hX : Below w.heap.size w X) => great14W_at A0 cc ds w X (hx.on hX) hX (len24 hlx) hds
  have HG2 := hide fun (X : World) (hX : Below w.heap.size w X) => great1W_at ⟨a2, c2, e⟩ w X hy qY hX lY
  dsimp only at HG2
  have HCB := hide fun (X : World) (hX : Below w.heap.size w X) => copiedO_at a2 c2 e X (hy.below hX (Nat.le_refl _)) hzy hly
  have HCD := hide fun (X : World) (hX : Below w.heap.size w X) (k : Nat) (hk : k < ds.length) => copied14_at (ds.getD k dlZ).a (ds.getD k dlZ).c (ds.getD k dlZ).d X ((hdx _ (mem_dl hk)).o.below hX (Nat.le_refl _)) (isO_z (hdx _ (mem_dl hk)).o) (hdx _ (mem_dl hk)).l
  have HXC := hide fun (X : World) (hX : Below w.heap.size w X) => hx.on hX
  have hpd : ∀ x ∈ ds, PdL x.d := fun x hx => ⟨fun o ho => ⟨((hdx x hx).t o ho).1, ((hdx x hx).t o ho).2⟩, hds x hx⟩
  have hpe : PdL e := ⟨fun o ho => ⟨(hty o ho).1, qY o ho⟩, lY⟩
  obtain ⟨pD, pL⟩ := pd_cn hpd hpe
  have HML := hide fun (X : World) (v5 : Value) (hM : ChM w X (.slice none 0 0) v5 [] (ds.map (·.d))) => chainMS_at hM hpd hlx hly
  have HRC := hide fun (X : World) (hX : Below w.heap.size w X) (g1 : gwB ds = false) (g2 : gwB [⟨a2, c2, e⟩] = false) => RChain14V_at A0 cc ds a2 c2 e X (hx.up hX) (hy.below hX (Nat.le_refl _)) hlx lY (gw_ok (x := ⟨a2, c2, e⟩) g2 (by simp) qY) (fun x hx => ⟨hds x hx, gw_ok g1 hx (fun o ho => ((hdx x hx).t o ho).2)⟩)
  have HS1 := hide fun (X : World) (a3 : Option Addr) (c3 : Nat) (a4 : Option Addr) (c4 : Nat) (h3 : IsO X a3 (cnQ ds e).1.1) (h4 : IsO X a4 (cnQ ds e).1.1) => RSame14_at a3 c3 _ a4 c4 _ X h3 h4 pD.2 pD.2 (fun o ho => (pD.1 o ho).1) (fun o ho => (pD.1 o ho).1)
  simp only [decide_true] at HS1
  have HS2 := hide fun (X W1 W2 : World) (v1 v8 v1' v8' : Value) (b b' : List Dop) (h1 : ChM W1 X v1 v8 b (cnQ ds e).1.2) (h2 : ChM W2 X v1' v8' b' (cnQ ds e).1.2) => sameMS_at h1 h2 pL (Nat.le_trans cn_len (len24 hlx))
  clear hx hy hzy hly hty qY lY hds hdx hpd hpe pD pL
  generalize hQ : cnQ ds e = Q at *
  obtain ⟨⟨QD, QL⟩, QE⟩ := Q
  dsimp only at *
  unfold RChP at HRC
  rw [hQ] at HRC
  dsimp only at HRC
  clear hQ
  generalize gwB ds = G1 at *
  generalize gwB [⟨a2, c2, e⟩] = G2 at *
  go_enter Try.func6, Try.ntmps6
  go_wp2_with fail
  refine (unhide HAw).mono ?_
  rintro y w1 ⟨rfl, x1⟩
  dsimp only
  have HX1 := hide x1
  clear HAw x1
  have HC2 := hide (unhide HG1 w1 (unhide HX1))
  go_wp2_with fail
  refine (unhide HC2).mono ?_
  rintro y w2 ⟨rfl, x2⟩
  dsimp only
  have HX2 := hide ((unhide HX1).trans (x2.mono (unhide HX1).size))
  clear HC2 HX1 x2  HG1
  cases G1 with
  | true =>
    go_wp2_with fail
    refine bodyPost_ret (results_tmp rfl _ _ _) rfl ⟨rfl, unhide HX2⟩
  | false =>
    have HC3 := hide (unhide HG2 w2 (unhide HX2))
    go_wp2_with fail
    refine (unhide HC3).mono ?_
    rintro y w3 ⟨rfl, x3⟩
    dsimp only
    have HX3 := hide ((unhide HX2).trans (x3.mono (unhide HX2).size))
    clear HC3 HX2 x3  HG2
    cases G2 with
    | true =>
      go_wp2_with fail
      refine bodyPost_ret (results_tmp rfl _ _ _) rfl ⟨rfl, unhide HX3⟩
    | false =>
      go_wp2_with fail
      go_loopw [5, 7, 25] (fun v5 v7 v25 wx => (∃ z, v7 = z) ∧ ∃ k : Nat, v25 = .int .i64 (k : Int) ∧ k ≤ ds.length ∧ Hid (ChM w wx (.slice none 0 0) v5 [] ((ds.take k).map (·.d)))) (fun _ _ v25 _ => ds.length - (intOf v25).toNat)
      case atStart => exact ⟨⟨_, rfl⟩, ⟨0, rfl, Nat.zero_le _, hide (ChM.nil w _ (unhide HX3))⟩⟩
      case round =>
        clear HX3
        obtain ⟨⟨z1, rfl⟩, ⟨k, rfl, hk, HM⟩⟩ := hrel
        by_cases hlt : k < ds.length
        · obtain ⟨s1, s2, s3⟩ := dlt hlt
          obtain ⟨gA, oA, hA0, _, q0⟩ := (unhide HXC wr (unhide HM).d).c k hlt
          subst hA0
          have HC := hide (unhide HCD wr (unhide HM).d k hlt)
          have Wk := gr_w hlt (len24 hlx)
          have HTK := hide (take_mapD hlt)
          have hsz := tk_szS hlt hlx
          clear hk
          generalize ds.getD k dlZ = x at *
          obtain ⟨xa, xc, xd⟩ := x
          dsimp only at *
          go_wp2_with fail
          refine (unhide HC).mono ?_
          rintro y w9 ⟨v, rfl, o9, x9⟩
          dsimp only
          obtain ⟨a9, c9, rfl, _, _⟩ := own_isO o9
          have hm3 := (unhide HM).on x9
          obtain ⟨v', W', r2, m2⟩ := hm3.push (own_lower o9 (unhide HM).d.size) (row_nilD _ _) hsz
          have R2 := hide r2
          rw [← unhide HTK] at m2
          have HM2 := hide m2
          clear HC HM o9 x9 hm3 r2 m2 q0 hsz HTK
          go_wp2_with (at_builtin; refine wpList_append_known rfl _ _ 57 57 rfl _ _ rfl rfl _ _ (unhide R2) ?_; clear R2)
          go_roundw
          case rel => exact ⟨⟨_, rfl⟩, ⟨k + 1, by first | rfl | exact congrArg _ Wk | go_num, hlt, HM2⟩⟩
          case measure => first | exact gr_ms3 hlt | exact gr_ms hlt Wk
        · obtain rfl : k = ds.length := Nat.le_antisymm hk (Nat.not_lt.1 hlt)
          obtain ⟨s1, s2, s3⟩ := dnl hlt
          rw [List.take_length] at HM
          have HX9 := hide (unhide HM).d
          have HC1 := hide (unhide HCB wr (unhide HX9))
          clear hk hlt HCB HCD HXC
          go_wp2_with fail
          refine (unhide HC1).mono ?_
          rintro y w10 ⟨a4, c4, rfl, ⟨i4, k4⟩, x10⟩
          dsimp only
          have HX10 := hide ((unhide HX9).trans (x10.mono (unhide HX9).size))
          have hm := (unhide HM).on x10
          generalize hu5 : u5 = v5 at *
          obtain ⟨A1, c1, rfl, hC⟩ := unhide HML w10 _ hm
          have HC2 := hide (hC a4 c4 i4)
          subst hu5
          clear HC1 HX9 x10 i4 k4 HM hm hC HML
          go_wp2_with fail
          refine (unhide HC2).mono ?_
          rintro y w11 ⟨v1, v8, rfl, m11⟩
          dsimp only
          have HX11 := hide ((unhide HX10).trans (m11.d.mono (unhide HX10).size))
          have HM11 := hide m11
          obtain ⟨aD, cD, rfl, iD, _⟩ := own_isO m11.b
          have HID := hide iD
          have HC3 := hide (unhide HRC w11 (unhide HX11) (by trivial) (by trivial))
          clear HC2 HX10 m11 iD HRC
          go_wp2_with fail
          refine (unhide HC3).mono ?_
          rintro y w12 ⟨aE, cE, v8', rfl, iE, m12⟩
          dsimp only
          have HX12 := hide ((unhide HX11).trans (m12.d.mono (unhide HX11).size))
          have HM12 := hide m12
          have HN11 := hide ((unhide HM11).on m12.d)
          have HC4 := hide (unhide HS1 w12 aD cD aE cE ((unhide HID).below m12.d (Nat.le_refl _)) iE)
          clear HC3 HX11 m12 iE HM11 HID HS1
          go_wp2_with fail
          refine (unhide HC4).mono ?_
          rintro y w13 ⟨rfl, x13⟩
          dsimp only
          have HX13 := hide ((unhide HX12).trans (x13.mono (unhide HX12).size))
          have HC5 := hide (unhide HS2 w13 _ _ _ _ _ _ _ _ ((unhide HN11).on x13) ((unhide HM12).on x13))
          clear HC4 HX12 x13 HN11 HM12 HS2
          go_wp2_with fail
          refine (unhide HC5).mono ?_
          rintro y w14 ⟨rfl, x14⟩
          dsimp only
          have HX14 := hide ((unhide HX13).trans (x14.mono (unhide HX13).size))
          clear HC5 HX13 x14
          go_wp2_with fail
          refine bodyPost_ret (results_tmp rfl _ _ _) rfl ⟨rfl, unhide HX14⟩


end Go.Proofs.Ytkmbkoajbmlgaaa
end

section
namespace Go.Proofs.Ytkmbkoajbmlgaaa
open Go.ChangeShapes Go.WideShapes Go.ChangeAt Go.RowKit
open Go.ChangeMaps (open_string shut_string)

set_option maxRecDepth 100000 in
theorem shiftChain_contract (H : Type) (enc : TypeId × Value → H) (W : World) (base : Nat) (args : Array Value) (ds gs : List (DataW H)) (before : List MemPlace)
    (hval : ∀ (j : Nat) t v, Try.f6.params[j]? = some t → args[j]? = some v → Value.okWide Try.prog W .any base t v)
    (hW : DataW.Whole enc Try.prog Try.f6.params.toList Rows.shiftChainSpec.vars false W args.toList ds gs before) (hsz : (DataW.weightsEach Try.prog (Try.f6.params.toList ++ (OpenSpec.ofChange Rows.shiftChainSpec).bare.plain.varTypes Try.prog) (ds ++ gs)).all (· ≤ reachBytes) = true) (_hL : laidMetH Try.prog Rows.shiftChainRow.laid W) :
    Calls Try.prog 6 args W fun e W' => ∃ v, e = .returned v ∧ Rows.shiftChainSpec.post enc Try.prog Try.f6 false true false false W args v W' := by
  have hW' := hW
  obtain ⟨p, q, hA0, hV, rfl, _, _⟩ := hW
  have hA : DataW.TrodAll enc Try.prog W 0 (fun _ => true) true Try.f6.params.toList args.toList ds p := hA0
  rw [Try.params6] at hA hval hsz
  obtain ⟨v0, vs0, d0, ds0, p0, q0, hargs, rfl, rfl, h0, r0⟩ := trodAll_cons hA
  obtain ⟨v1, vs1, d1, ds1, p1, q1, rfl, rfl, rfl, h1, r1⟩ := trodAll_cons r0
  obtain ⟨rfl, rfl, rfl⟩ := trodAll_nil r1
  obtain rfl : args = #[v0, v1] := by cases args; simp_all
  obtain ⟨rfl, rfl⟩ := trodVars_none hV
  obtain ⟨a0, len0, cap0, rfl⟩ := okWide_slice Try.underlying57 (hval 0 57 v0 rfl rfl)
  have k0 := h0
  have lt0 : ∀ x ∈ p0, x.block < W.heap.size := by obtain ⟨m, hm⟩ := k0; exact DataW.trod_lt m _ _ _ hm
  obtain ⟨l0, rfl, w0, u0⟩ := deltas_of_trod h0 hsz (j := 0) rfl rfl
  obtain ⟨a1, len1, cap1, rfl⟩ := okWide_slice Try.underlying24 (hval 1 24 v1 rfl rfl)
  have k1 := h1
  have lt1 : ∀ x ∈ p1, x.block < W.heap.size := by obtain ⟨m, hm⟩ := k1; exact DataW.trod_lt m _ _ _ hm
  obtain ⟨l1, rfl, w1, u1⟩ := ops_of_trod h1 hsz (j := 1) rfl rfl
  clear hA0
  refine (ShiftChainS_any a0 cap0 l0 a1 cap1 l1 W w0 u0.2.1 u0.2.2 w1 u1.1 u1.2.1 u1.2.2).mono fun e W' ⟨he, bel⟩ => ?_
  subst he
  exact ⟨_, rfl, _, _, _, [], _, [], hW', trodAll_mk1 (shut_bool Try.underlying4 _), (trodAll_cons_mk (Below.trod laidOut (by kernel_rfl) (of_decide_eq_true (by kernel_rfl)) k0 bel lt0) (trodAll_cons_mk (Below.trod laidOut (by kernel_rfl) (of_decide_eq_true (by kernel_rfl)) k1 bel lt1) trodAll_mk0)), rfl, bel.frame _, fun h => by cases h⟩

theorem shiftChain_met (os : Os) : laidMet Try.prog Rows.shiftChainRow.laid ((laidWorld os).forCall (fun _ _ => 0) ⟨#[], #[.slice none 0 0, .slice none 0 0], []⟩).memory :=
  laidMet_of_run' 8 (by kernel_rfl) (by kernel_rfl)
theorem shiftChain_reads (os : Os) {H : Type} (enc : TypeId × Value → H) : ∃ places, DataW.whole enc Try.prog ((laidWorld os).forCall (fun _ _ => 0) ⟨#[], #[.slice none 0 0, .slice none 0 0], []⟩).memory Try.f6.params.toList Rows.shiftChainSpec.vars false (#[.slice none 0 0, .slice none 0 0] : Array Value).toList 8 = some ([.nil, .nil], [], places) :=
  ⟨[], by kernel_rfl⟩

set_option maxRecDepth 100000 in
theorem shiftChain_lifted (os : Os) (started : os.Started) (H : Type) (enc : TypeId × Value → H) (F : Stop.Interp) :
    ReturnsInHanded {} Try.checked os 6 .any ((OpenSpec.ofChange Rows.shiftChainSpec).preRow enc Try.prog Try.f6 Rows.shiftChainRow.domain false Rows.shiftChainRow.laid) (((OpenSpec.ofChange Rows.shiftChainSpec).at F).post enc Try.prog Try.f6 false true false false) := by
  obtain ⟨places, hx⟩ := shiftChain_reads os enc
  refine returnsInHanded_of_row (C := Try.checked) (s := OpenSpec.ofChange Rows.shiftChainSpec) ownC started (by kernel_rfl) Try.func6
    (witness_row_at (enc := enc) (C := Try.checked) false (laidWorld os) #[.slice none 0 0, .slice none 0 0] rfl (by kernel_rfl) (by kernel_rfl) (by kernel_rfl)
      (OpenSpec.preRow_of_cond 8 hx (by kernel_rfl) (fun k hk => by cases hk) (by kernel_rfl) (shiftChain_met os))) ?_
  intro W base args ds gs before hval hW _ _ hsz hL _ _
  exact shiftChain_contract H enc W base args ds gs before hval hW hsz hL

theorem shiftChain_said : Rows.ShiftChainSaid :=
  OpenClaim.holds_of_cond 6 Try.f6 rfl rfl rfl rfl rfl rfl rfl ⟨rfl, rfl, rfl, rfl, rfl⟩ rfl rfl rfl rfl rfl (by kernel_rfl) Try.func6 (by kernel_rfl)
    (of_decide_eq_true (by kernel_rfl)) (by unfold Func.isWrapper; first | (rw [if_pos (by decide +kernel)]; kernel_rfl) | (rw [if_neg (by decide +kernel)]; exact ⟨rfl, rfl⟩))
    (fun os started H enc _ F => by rw [OpenClaim.pre_eq_preRow]; exact shiftChain_lifted os started H enc F)

#print axioms shiftChain_said
end Go.Proofs.Ytkmbkoajbmlgaaa
end
