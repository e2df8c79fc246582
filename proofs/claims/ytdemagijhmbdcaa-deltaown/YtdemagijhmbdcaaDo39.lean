/- Layer 13: DeltaOwn's walk (written by wip/tools/dox.py). -/
import Derived.Test.YtdemagijhmbdcaaDo38
import Derived.Test.YtdemagijhmbdcaaDo31
import Derived.Test.YtdemagijhmbdcaaDo15

namespace Go.Proofs.Ytdemagijhmbdcaa
open Go.ChangeShapes Go.WideShapes Go.ChangeAt Go.RowKit
attribute [local go_sem] Oper.semAt_some

theorem nb_lt {V : World} {B s n N g m c : Nat} {t : TypeId} {v : Value} {xs : List Value} (h : V.ownsRow B t s v n xs) (hg : g < N) (hN : N ≤ B) : NB v (.slice (some ⟨g, 0, none⟩) m c) := fun q e1 e2 => by
  have hq : g = q := Option.some.inj e2
  subst hq
  have := (h.lt _ e1).1
  omega
theorem lk_all {vs : List Value} (hp : vs.Pairwise NB) (hs : ∀ u ∈ vs, LkO u u) {k : Nat} (hk : k < vs.length) : ∀ u ∈ vs, LkO u (vs.getD k undef) := fun u hu => by
  obtain ⟨j, hj, e⟩ := List.getElem_of_mem hu
  have ej : vs.getD j undef = u := by rw [← e]; simp [List.getD, List.getElem?_eq_getElem hj]
  by_cases hjk : j = k
  · subst hjk
    rw [ej]
    exact hs u hu
  · rw [← ej]
    exact .inr (pw_get hp hj hk hjk)
theorem LsJ.selfs {B : Nat} {W0 W : World} {gl : Nat} {vs : List Value} {ns : List Nat} {M : Nat → Nat → Prop} (h : LsJ B W0 W gl vs ns M) : ∀ u ∈ vs, LkO u u := fun u hu => by
  obtain ⟨j, hj, e⟩ := List.getElem_of_mem hu
  obtain ⟨xs, hx, _⟩ := h.r j (by rw [← h.len]; exact hj)
  rw [show vs.getD j undef = u by rw [← e]; simp [List.getD, List.getElem?_eq_getElem hj]] at hx
  exact LkO.self hx
theorem LsJ.mark {B : Nat} {W0 W : World} {gl : Nat} {vs : List Value} {ns : List Nat} {M M' : Nat → Nat → Prop} (h : LsJ B W0 W gl vs ns M) (hM : ∀ j q, q < ns.getD j 0 → M' j q → M j q) : LsJ B W0 W gl vs ns M' := ⟨h.o, h.n, fun j hj => by
  obtain ⟨xs, hx, hm⟩ := h.r j hj
  exact ⟨xs, hx, fun q hq hq' => hm q hq (hM j q hq hq')⟩, h.p, h.d⟩
theorem LsJ.on {B : Nat} {W0 W Y : World} {gl : Nat} {vs : List Value} {ns : List Nat} {M : Nat → Nat → Prop} (h : LsJ B W0 W gl vs ns M) (hb : Below W.heap.size W Y) (hB : B ≤ W.heap.size) : LsJ B W0 Y gl vs ns M := ⟨rowD_below h.o hb (Nat.le_refl _), h.n, fun j hj => by
  obtain ⟨xs, hx, hm⟩ := h.r j hj
  exact ⟨xs, rowD_below hx hb (Nat.le_refl _), hm⟩, h.p, h.d.trans (hb.mono hB)⟩
theorem iv_tight {b : List Int} {d : List Dop} (hv : valB d = true) (hf : frD d = b.length) : (canA (dA (ivD b d))).length ≤ 1099511627000 := by
  have h1 := can_len (canA_can (dA (ivD b d))).p
  have h2 : (dA (canA (dA (ivD b d)))).length = (dA (ivD b d)).length := fin_len _
  have h3 := (runV_len hv hf d.length (Nat.le_refl _)).2
  have h4 := (valB_nn hv).2
  rw [List.take_length] at h3
  have h5 : (dA (ivD b d)).length ≤ frD d + toD d := h3
  omega
theorem canD_tight (d : List Dop) : (canD d).1.length ≤ 1099511627000 := by
  unfold canD
  cases h1 : d.all knB with
  | false => simp
  | true =>
    cases h2 : lonB d with
    | true => simp
    | false =>
      simp only [if_true, Bool.false_eq_true, if_false]
      have h3 : ¬ (268435456 < frD d ∨ 268435456 < toD d) := of_decide_eq_false h2
      have := can_small (d := d) (fun o ho => kn_k h1 ho) (by omega)
      omega
theorem form1 {W : World} {B s n : Nat} {t : TypeId} {v : Value} {xs : List Value} (h : W.ownsRow B t s v n xs) (hn : 0 < n) : ∃ g c, v = .slice (some ⟨g, 0, none⟩) n c ∧ n ≤ c := by
  rcases h.2 with ⟨_, h0⟩ | ⟨g, c, _, e, _, _, hc, _⟩
  · omega
  · exact ⟨g, c, e, hc⟩
theorem form_lt {W : World} {B s n g c : Nat} {t : TypeId} {xs : List Value} (h : W.ownsRow B t s (.slice (some ⟨g, 0, none⟩) n c) n xs) : n ≤ c := by
  rcases h.2 with ⟨e, _⟩ | ⟨_, _, _, e, _, _, hc, _⟩
  · cases e
  · cases e; exact hc
theorem own_isOw {W : World} {B g c : Nat} {d : List Dop} (h : W.ownsRow B 34 3 (.slice (some ⟨g, 0, none⟩) d.length c) d.length (opsV d)) : IsO W (some ⟨g, 0, none⟩) d := by
  obtain ⟨_, _, e, hi, _⟩ := own_isO h
  cases e
  exact hi
theorem own_isOy {W : World} {B c : Nat} {a : Option Addr} {t : TypeId} {d : List Dop} (h : W.ownsRow B t 3 (.slice a d.length c) d.length (opsV d)) : IsO W a d := by
  obtain ⟨_, _, e, hi, _⟩ := own_isOC h
  cases e
  exact hi
theorem own_isBw {W : World} {B g c : Nat} {l : List Int} (h : W.ownsRow B 5 1 (.slice (some ⟨g, 0, none⟩) l.length c) l.length (l.map (Value.int .u8))) (hl : ∀ x ∈ l, 0 ≤ x ∧ x ≤ 255) (hn : l.length ≤ 140737488351232) : IsB W (some ⟨g, 0, none⟩) c l := by
  obtain ⟨_, _, e, hi⟩ := Own.isB (show Own W B _ l from h) hl hn
  cases e
  exact hi
set_option maxRecDepth 100000 in
set_option maxHeartbeats 8000000 in
theorem DeltaOwn_any (a0 : Option Addr) (c0 : Nat) (b : List Int) (a1 : Option Addr) (c1 : Nat) (x : List Dop) (a2 : Option Addr) (c2 : Nat) (y : List Dop) (w : World) (hb : IsB w a0 c0 b) (hx : IsO w a1 x) (_hzx : x = [] ∨ ∃ q, a1 = some q) (_hlx : x.length * 32 ≤ 140737488355328) (htx : ∀ o ∈ x, TbD o ∧ o.t.length ≤ 140737488355328) (hy : IsO w a2 y) (_hzy : y = [] ∨ ∃ q, a2 = some q) (_hly : y.length * 32 ≤ 140737488355328) (hty : ∀ o ∈ y, TbD o ∧ o.t.length ≤ 140737488355328) :
    Calls Try.prog 3 #[.slice a0 b.length c0, .slice a1 x.length c1, .slice a2 y.length c2] w fun y w' => y = .returned (.bool true) ∧ Below w.heap.size w w' := by
  have HAw := hide (awake13_at w)
  have HSh := hide fun (X : World) (hX : Below w.heap.size w X) => short_at a0 b.length c0 X.heap.size 2 [⟨a1, c1, x⟩, ⟨a2, c2, y⟩] w (X.alloc (.cells #[.slice a1 x.length c1, .slice a2 y.length c2] 24)) (by
    have kN := Cls.new X 24 #[.slice a1 x.length c1, .slice a2 y.length c2]
    refine ⟨fun i hi => ?_, fun i hi => ?_, kN.lt⟩
    · match i with
      | 0 => exact kN.cell 0
      | 1 => exact kN.cell 1
      | i + 2 => simp at hi; omega
    · match i with
      | 0 => exact ⟨hx, fun o ho => (htx o ho).2⟩
      | 1 => exact ⟨hy, fun o ho => (hty o ho).2⟩
      | i + 2 => simp at hi; omega) (hX.alloc hX.size _) (by simp)
  have HBb := hide fun (X : World) (hX : Below w.heap.size w X) => hb.below hX (Nat.le_refl _)
  have HXx := hide fun (X : World) (hX : Below w.heap.size w X) => hx.below hX (Nat.le_refl _)
  have HYy := hide fun (X : World) (hX : Below w.heap.size w X) => hy.below hX (Nat.le_refl _)
  have HZx := hide _hzx
  have HTx := hide htx
  have HTy := hide hty
  have hb7 := hb.2.2.2
  have HB7' := hide hb7
  clear hb hx hy htx hty _hzx _hzy _hly hb7
  go_enter Try.func3, Try.ntmps3
  go_wp2_with fail
  refine (unhide HAw).mono ?_
  rintro yy w1 ⟨rfl, x1⟩
  dsimp only
  have HX1 := hide x1
  have HS1 := hide (unhide HSh w1 x1)
  simp only [List.length_cons, List.length_nil] at HS1
  have HXa := hide (x1.alloc x1.size (.cells #[.slice a1 x.length c1, .slice a2 y.length c2] 24))
  clear HAw HSh x1
  go_upto_region 3 with fail
  generalize hv1 : w1.alloc (.cells #[.slice a1 x.length c1, .slice a2 y.length c2] 24) = v1 at HS1 HXa
  go_wp2_with fail
  clear hv1
  refine (unhide HS1).mono ?_
  rintro yy w2 ⟨r, rfl, hr, x2⟩
  dsimp only
  have HX2 := hide ((unhide HXa).trans (x2.mono (unhide HXa).size))
  have HR := hide hr
  clear HS1 HX1 HXa x2 hr
  cases r with
  | false =>
    clear HR HBb HXx HYy
    go_wp2_with fail
    refine bodyPost_ret (results_tmp rfl _ _ _) rfl ⟨rfl, unhide HX2⟩
  | true =>
    obtain ⟨hbl, hsh⟩ := unhide HR rfl
    have sx : ShD x := hsh 0 (by simp)
    have sy : ShD y := hsh 1 (by simp)
    have kx : ∀ o ∈ x, (o.k = 1 ∨ o.k = 2 ∨ o.k = 3) ∧ TbD o ∧ o.t.length ≤ 140737488355328 := fun o ho => ⟨sx.2.1 o ho, unhide HTx o ho⟩
    have ky : ∀ o ∈ y, (o.k = 1 ∨ o.k = 2 ∨ o.k = 3) ∧ TbD o ∧ o.t.length ≤ 140737488355328 := fun o ho => ⟨sy.2.1 o ho, unhide HTy o ho⟩
    have hsx := sx.2.2
    have hsy := sy.2.2
    have hlx := sx.1
    have hly := sy.1
    obtain ⟨vA, fA, tA, bA⟩ := fitD_ok (n := b.length) kx (by omega)
    obtain ⟨vC, fC, tC, bC⟩ := fitD_ok (d := y) (n := toD (fitD x b.length)) ky (by omega)
    have two := two_ok vA vC fC.symm
    have btw := two_tb bA bC
    have cA := fitD_can x b.length
    have HF1 := hide fun (X : World) (hX : Below w.heap.size w X) => fit_at a1 c1 x b.length X (unhide HXx X hX) (by omega) (by omega) kx
    have HF2 := hide fun (X : World) (hX : Below w.heap.size w X) => fit_at a2 c2 y (toD (fitD x b.length)) X (unhide HYy X hX) (by omega) (by omega) ky
    generalize fitD x b.length = A at *
    generalize fitD y (toD A) = C at *
    have hA := (val_small vA).1
    have hA32 := (val_small vA).2
    have hC := (val_small vC).1
    have hK := (val_small two.v).1
    have hAn := val_len vA
    have HV := hide (And.intro (And.intro vA (And.intro fA (And.intro bA cA))) (And.intro (And.intro vC (And.intro fC bC)) (And.intro two btw)))
    have HKX := hide kx
    clear HR hsh sx sy kx ky hsx hsy hly tA tC cA two btw
    have HC3 := hide (unhide HF1 w2 (unhide HX2))
    go_wp2_with fail
    refine (unhide HC3).mono ?_
    rintro yy w3 ⟨aA, cA, rfl, iA, lA, x3⟩
    dsimp only
    clear HC3
    have HX3 := hide ((unhide HX2).trans (x3.mono (unhide HX2).size))
    have Hx3 := hide x3
    have HA3 := hide iA
    have HlA := hide lA
    clear iA lA HF1
    clear x3
    have HC4 := hide (RLens_at aA cA A w3 (unhide HA3) hA (unhide HV).1.1)
    go_wp2_with fail
    refine (unhide HC4).mono ?_
    rintro yy w4 ⟨rfl, x4⟩
    dsimp only
    clear HC4
    have HX4 := hide ((unhide HX3).trans (x4.mono (unhide HX3).size))
    have Hx4 := hide x4
    have HA4 := hide ((unhide HA3).below x4 (Nat.le_refl _))
    clear HA3
    clear x4
    have HC5 := hide (unhide HF2 w4 (unhide HX4))
    go_wp2_with fail
    refine (unhide HC5).mono ?_
    rintro yy w5 ⟨aC, cC, rfl, iC, lC, x5⟩
    dsimp only
    clear HC5
    have HX5 := hide ((unhide HX4).trans (x5.mono (unhide HX4).size))
    have Hx5 := hide x5
    have HA5 := hide ((unhide HA4).below x5 (Nat.le_refl _))
    have HC5' := hide iC
    have HCf := hide iC
    have HlC := hide lC
    clear HA4 iC lC
    clear x5
    have HC6 := hide (bytes13_at a0 c0 b w5 (unhide HBb w5 (unhide HX5)))
    go_wp2_with fail
    refine (unhide HC6).mono ?_
    rintro yy w6 ⟨vf0, rfl, of0, x6⟩
    dsimp only
    obtain ⟨vf, w7, gf', rf, _, of7, _, bf7, _⟩ := push1 w6 w5.heap.size b.length vf0 (b.map (Value.int .u8)) (.int .u8 7) 22 of0 rfl (by omega) x6.size
    obtain ⟨gf, cf, hvf, hcf⟩ := form1 of7 (by omega)
    subst hvf
    have R1 := hide rf
    have b7 := x6.trans (bf7.mono (Nat.le_refl _))
    have HX7 := hide ((unhide HX5).trans (b7.mono (unhide HX5).size))
    have HA7 := hide ((unhide HA5).below b7 (Nat.le_refl _))
    have HC7' := hide ((unhide HC5').below b7 (Nat.le_refl _))
    have HB7 := hide b7
    have Of7 := hide of7
    clear HC6 of0 x6 rf of7 bf7 b7 HA5 HC5'
    have HC8 := hide (own13_at aA cA A w7 (unhide HA7) (unhide HA7).some hA32)
    go_wp2_with (at_builtin; refine wpList_append_known rfl _ _ 22 22 rfl _ _ rfl rfl _ _ (unhide R1) ?_; clear R1)
    refine (unhide HC8).mono ?_
    rintro yy w8 ⟨vr0, rfl, or0, x8⟩
    dsimp only
    obtain ⟨gr, cr, w9, rr, or9, _, br9⟩ := push_op w8 w7.heap.size A.length vr0 (opsV A) 9 0 ⟨#[]⟩ 24 or0 (by omega) x8.size
    have R2 := hide rr
    have b9 := x8.trans (br9.mono (Nat.le_refl _))
    have HX9 := hide ((unhide HX7).trans (b9.mono (unhide HX7).size))
    have HA9 := hide ((unhide HA7).below b9 (Nat.le_refl _))
    have HC9' := hide ((unhide HC7').below b9 (Nat.le_refl _))
    have Of9 := hide (rowD_below (unhide Of7) b9 (Nat.le_refl _))
    have Or9 := hide or9
    have hcr := form_lt or9
    have r1 : A.length ≤ cr := by omega
    have r2 : (A.length : Int) ≤ (cr : Int) := by omega
    have HB9 := hide ((unhide HB7).trans (b9.mono (unhide HB7).size))
    clear HC8 or0 x8 rr or9 br9 b9 HA7 HC7' Of7 hcr
    have HC10 := hide (own13_at a1 c1 x w9 (unhide HXx w9 (unhide HX9)) (unhide HZx) (by omega))
    go_wp2_with (at_builtin; refine wpList_append_known rfl _ _ 24 24 rfl _ _ rfl rfl _ _ (unhide R2) ?_; clear R2)
    refine (unhide HC10).mono ?_
    rintro yy w10 ⟨vq0, rfl, oq0, x10⟩
    dsimp only
    obtain ⟨gq, cq, w11, rq, oq11, _, bq11⟩ := push_op w10 w9.heap.size x.length vq0 (opsV x) 9 0 ⟨#[]⟩ 24 oq0 (by omega) x10.size
    have R3 := hide rq
    have b11 := x10.trans (bq11.mono (Nat.le_refl _))
    have HX11 := hide ((unhide HX9).trans (b11.mono (unhide HX9).size))
    have iA11 := (unhide HA9).below b11 (Nat.le_refl _)
    have iC11 := (unhide HC9').below b11 (Nat.le_refl _)
    have of11 := rowD_below (unhide Of9) b11 (Nat.le_refl _)
    have or11 := rowD_below (unhide Or9) b11 (Nat.le_refl _)
    have HAa := hide fun (Y : World) (hY : Below w11.heap.size w11 Y) => iA11.below hY (Nat.le_refl _)
    have HCc := hide fun (Y : World) (hY : Below w11.heap.size w11 Y) => iC11.below hY (Nat.le_refl _)
    have HFb := hide fun (Y : World) (hY : Below w11.heap.size w11 Y) => own_isBw (rwk_cut (rowD_below of11 hY (Nat.le_refl _)) (by simp) (by simp)) (unhide HB7') (by omega)
    have HRr := hide fun (Y : World) (hY : Below w11.heap.size w11 Y) => own_isOw (rwk_cut (rowD_below or11 hY (Nat.le_refl _)) (opsV_lenO A) (by simp))
    have HQq := hide fun (Y : World) (hY : Below w11.heap.size w11 Y) => own_isOw (rwk_cut (rowD_below oq11 hY (Nat.le_refl _)) (opsV_lenO x) (by simp))
    have hcq := form_lt oq11
    have q1 : x.length ≤ cq := by omega
    have q2 : (x.length : Int) ≤ (cq : Int) := by omega
    have f1 : b.length ≤ cf := by omega
    have f2 : (b.length : Int) ≤ (cf : Int) := by omega
    have HGL := hide (And.intro (of11.lt gf rfl).2 (And.intro (or11.lt gr rfl).2 (oq11.lt gq rfl).2))
    have HB5 := hide ((unhide HB9).trans (b11.mono (unhide HB9).size))
    have Rf11 := hide (rowO_base of11 (Nat.le_refl _))
    have Rr11 := hide (rowO_base or11 (unhide HB7).size)
    have Rq11 := hide (rowO_base oq11 (unhide HB9).size)
    have HB11 := hide (Below.refl w11.heap.size w11)
    clear HC10 oq0 x10 rq oq11 bq11 b11 HA9 HC9' Of9 Or9 iA11 iC11 of11 or11 hcq hcf HB7 HB9
    have HC12 := hide (Apply_at (some ⟨gf, 0, none⟩) cf b (some ⟨gr, 0, none⟩) cr A w11 (unhide HFb w11 (unhide HB11)) (unhide HRr w11 (unhide HB11)) hA (unhide HV).1.2.2.1)
    go_wp2_with (at_builtin; refine wpList_append_known rfl _ _ 24 24 rfl _ _ rfl rfl _ _ (unhide R3) ?_; clear R3)
    refine (unhide HC12).mono ?_
    rintro yy w12 ⟨vg, rfl, og, x12⟩
    dsimp only
    clear HC12
    have HX12 := hide ((unhide HX11).trans (x12.mono (unhide HX11).size))
    have HB12 := hide ((unhide HB11).trans (x12.mono (unhide HB11).size))
    have Rf12 := hide (rowD_below (unhide Rf11) x12 (Nat.le_refl _))
    clear Rf11
    have Rr12 := hide (rowD_below (unhide Rr11) x12 (Nat.le_refl _))
    clear Rr11
    have Rq12 := hide (rowD_below (unhide Rq11) x12 (Nat.le_refl _))
    clear Rq11
    have Hx12 := hide x12
    rw [fit_zero (unhide HV).1.1 (unhide HV).1.2.1, if_pos rfl] at og
    have Rg12 := hide og
    have Og := hide og
    clear og
    clear x12
    have HC13 := hide (Invert_at (some ⟨gf, 0, none⟩) cf b (some ⟨gr, 0, none⟩) cr A w12 (unhide HFb w12 (unhide HB12)) (unhide HRr w12 (unhide HB12)) hA)
    go_wp2_with fail
    refine (unhide HC13).mono ?_
    rintro yy w13 ⟨vi, rfl, oi, x13⟩
    dsimp only
    clear HC13
    have HX13 := hide ((unhide HX12).trans (x13.mono (unhide HX12).size))
    have HB13 := hide ((unhide HB12).trans (x13.mono (unhide HB12).size))
    have Rf13 := hide (rowD_below (unhide Rf12) x13 (Nat.le_refl _))
    clear Rf12
    have Rr13 := hide (rowD_below (unhide Rr12) x13 (Nat.le_refl _))
    clear Rr12
    have Rq13 := hide (rowD_below (unhide Rq12) x13 (Nat.le_refl _))
    clear Rq12
    have Rg13 := hide (rowD_below (unhide Rg12) x13 (Nat.le_refl _))
    clear Rg12
    have Hx13 := hide x13
    have hI : invD b A = canA (dA (ivD b A)) := by unfold invD; rw [fit_zero (unhide HV).1.1 (unhide HV).1.2.1, if_pos rfl]
    rw [hI] at oi
    clear hI
    have Ri13 := hide oi
    have Oi := hide oi
    clear oi
    clear x13
    have HC14 := hide (Compose_atD (some ⟨gr, 0, none⟩) cr A aC cC C w13 (unhide HRr w13 (unhide HB13)) (unhide HCc w13 (unhide HB13)) r1 (unhide HlC) hA hC)
    go_wp2_with fail
    refine (unhide HC14).mono ?_
    rintro yy w14 ⟨vk, rfl, ok, x14⟩
    dsimp only
    clear HC14
    have HX14 := hide ((unhide HX13).trans (x14.mono (unhide HX13).size))
    have HB14 := hide ((unhide HB13).trans (x14.mono (unhide HB13).size))
    have Rf14 := hide (rowD_below (unhide Rf13) x14 (Nat.le_refl _))
    clear Rf13
    have Rr14 := hide (rowD_below (unhide Rr13) x14 (Nat.le_refl _))
    clear Rr13
    have Rq14 := hide (rowD_below (unhide Rq13) x14 (Nat.le_refl _))
    clear Rq13
    have Rg14 := hide (rowD_below (unhide Rg13) x14 (Nat.le_refl _))
    clear Rg13
    have Ri14 := hide (rowD_below (unhide Ri13) x14 (Nat.le_refl _))
    clear Ri13
    have Hx14 := hide x14
    have Rk14 := hide ok
    have Ok := hide ok
    clear ok
    clear x14
    have HC15 := hide (Canon_at (some ⟨gq, 0, none⟩) cq x w14 (unhide HQq w14 (unhide HB14)) (by omega))
    go_wp2_with fail
    refine (unhide HC15).mono ?_
    rintro yy w15 ⟨vn, rfl, on, x15⟩
    dsimp only
    clear HC15
    have HX15 := hide ((unhide HX14).trans (x15.mono (unhide HX14).size))
    have HB15 := hide ((unhide HB14).trans (x15.mono (unhide HB14).size))
    have Rf15 := hide (rowD_below (unhide Rf14) x15 (Nat.le_refl _))
    clear Rf14
    have Rr15 := hide (rowD_below (unhide Rr14) x15 (Nat.le_refl _))
    clear Rr14
    have Rq15 := hide (rowD_below (unhide Rq14) x15 (Nat.le_refl _))
    clear Rq14
    have Rg15 := hide (rowD_below (unhide Rg14) x15 (Nat.le_refl _))
    clear Rg14
    have Ri15 := hide (rowD_below (unhide Ri14) x15 (Nat.le_refl _))
    clear Ri14
    have Rk15 := hide (rowD_below (unhide Rk14) x15 (Nat.le_refl _))
    clear Rk14
    have Hx15 := hide x15
    have Rn15 := hide on
    have On := hide on
    clear on
    clear x15
    have HC16 := hide (Changes_at (some ⟨gr, 0, none⟩) cr A w15 (unhide HRr w15 (unhide HB15)) hA)
    go_wp2_with fail
    refine (unhide HC16).mono ?_
    rintro yy w16 ⟨vc, rfl, oc, x16⟩
    dsimp only
    clear HC16
    have HX16 := hide ((unhide HX15).trans (x16.mono (unhide HX15).size))
    have HB16 := hide ((unhide HB15).trans (x16.mono (unhide HB15).size))
    have Rf16 := hide (rowD_below (unhide Rf15) x16 (Nat.le_refl _))
    clear Rf15
    have Rr16 := hide (rowD_below (unhide Rr15) x16 (Nat.le_refl _))
    clear Rr15
    have Rq16 := hide (rowD_below (unhide Rq15) x16 (Nat.le_refl _))
    clear Rq15
    have Rg16 := hide (rowD_below (unhide Rg15) x16 (Nat.le_refl _))
    clear Rg15
    have Ri16 := hide (rowD_below (unhide Ri15) x16 (Nat.le_refl _))
    clear Ri15
    have Rk16 := hide (rowD_below (unhide Rk15) x16 (Nat.le_refl _))
    clear Rk15
    have Rn16 := hide (rowD_below (unhide Rn15) x16 (Nat.le_refl _))
    clear Rn15
    have Hx16 := hide x16
    obtain ⟨ch1, ch2, ch3, ch4⟩ := of_changes (unhide HV).1.1 (unhide HV).1.2.2.2 (unhide HV).1.2.1
    rw [ch1] at oc ⊢
    dsimp only at oc ⊢
    generalize (runL A).2 = Ch at *
    obtain ⟨ac, cc, hvc, _⟩ := rowD_form oc
    subst hvc
    have Rc16 := hide oc
    have Oc := hide oc
    have HCH := hide (And.intro ch2 (And.intro ch3 ch4))
    clear oc ch1 ch2 ch3 ch4
    clear x16
    have HC17 := hide (Of_atD ac cc b.length Ch 0 w16 (own_isOy (unhide Oc)) (by have := (unhide HCH).2.2; omega) (unhide HCH).1)
    go_wp2_with fail
    refine (unhide HC17).mono ?_
    rintro yy w17 ⟨vo, rfl, oo, x17⟩
    dsimp only
    clear HC17
    have HX17 := hide ((unhide HX16).trans (x17.mono (unhide HX16).size))
    have HB17 := hide ((unhide HB16).trans (x17.mono (unhide HB16).size))
    have Rf17 := hide (rowD_below (unhide Rf16) x17 (Nat.le_refl _))
    clear Rf16
    have Rr17 := hide (rowD_below (unhide Rr16) x17 (Nat.le_refl _))
    clear Rr16
    have Rq17 := hide (rowD_below (unhide Rq16) x17 (Nat.le_refl _))
    clear Rq16
    have Rg17 := hide (rowD_below (unhide Rg16) x17 (Nat.le_refl _))
    clear Rg16
    have Ri17 := hide (rowD_below (unhide Ri16) x17 (Nat.le_refl _))
    clear Ri16
    have Rk17 := hide (rowD_below (unhide Rk16) x17 (Nat.le_refl _))
    clear Rk16
    have Rn17 := hide (rowD_below (unhide Rn16) x17 (Nat.le_refl _))
    clear Rn16
    have Rc17 := hide (rowD_below (unhide Rc16) x17 (Nat.le_refl _))
    clear Rc16
    have Hx17 := hide x17
    rw [(unhide HCH).2.1] at oo
    dsimp only at oo
    have Ro17 := hide oo
    have Oo := hide oo
    clear oo
    clear x17
    have HC18 := hide (Valid_atD (some ⟨gr, 0, none⟩) cr A w17 (unhide HRr w17 (unhide HB17)) hA)
    go_wp2_with fail
    refine (unhide HC18).mono ?_
    rintro yy w18 ⟨rfl, x18⟩
    dsimp only
    clear HC18
    have HX18 := hide ((unhide HX17).trans (x18.mono (unhide HX17).size))
    have HB18 := hide ((unhide HB17).trans (x18.mono (unhide HB17).size))
    have Rf18 := hide (rowD_below (unhide Rf17) x18 (Nat.le_refl _))
    clear Rf17
    have Rr18 := hide (rowD_below (unhide Rr17) x18 (Nat.le_refl _))
    clear Rr17
    have Rq18 := hide (rowD_below (unhide Rq17) x18 (Nat.le_refl _))
    clear Rq17
    have Rg18 := hide (rowD_below (unhide Rg17) x18 (Nat.le_refl _))
    clear Rg17
    have Ri18 := hide (rowD_below (unhide Ri17) x18 (Nat.le_refl _))
    clear Ri17
    have Rk18 := hide (rowD_below (unhide Rk17) x18 (Nat.le_refl _))
    clear Rk17
    have Rn18 := hide (rowD_below (unhide Rn17) x18 (Nat.le_refl _))
    clear Rn17
    have Rc18 := hide (rowD_below (unhide Rc17) x18 (Nat.le_refl _))
    clear Rc17
    have Ro18 := hide (rowD_below (unhide Ro17) x18 (Nat.le_refl _))
    clear Ro17
    have Hx18 := hide x18
    clear x18
    have HC19 := hide (Lens_at (some ⟨gr, 0, none⟩) cr A w18 (unhide HRr w18 (unhide HB18)) hA)
    go_wp2_with fail
    refine (unhide HC19).mono ?_
    rintro yy w19 ⟨rfl, x19⟩
    dsimp only
    clear HC19
    have HX19 := hide ((unhide HX18).trans (x19.mono (unhide HX18).size))
    have HB19 := hide ((unhide HB18).trans (x19.mono (unhide HB18).size))
    have Rf19 := hide (rowD_below (unhide Rf18) x19 (Nat.le_refl _))
    clear Rf18
    have Rr19 := hide (rowD_below (unhide Rr18) x19 (Nat.le_refl _))
    clear Rr18
    have Rq19 := hide (rowD_below (unhide Rq18) x19 (Nat.le_refl _))
    clear Rq18
    have Rg19 := hide (rowD_below (unhide Rg18) x19 (Nat.le_refl _))
    clear Rg18
    have Ri19 := hide (rowD_below (unhide Ri18) x19 (Nat.le_refl _))
    clear Ri18
    have Rk19 := hide (rowD_below (unhide Rk18) x19 (Nat.le_refl _))
    clear Rk18
    have Rn19 := hide (rowD_below (unhide Rn18) x19 (Nat.le_refl _))
    clear Rn18
    have Rc19 := hide (rowD_below (unhide Rc18) x19 (Nat.le_refl _))
    clear Rc18
    have Ro19 := hide (rowD_below (unhide Ro18) x19 (Nat.le_refl _))
    clear Ro18
    have Hx19 := hide x19
    clear x19
    go_upto_region 20 with fail
    have hb1 : b.length < b.length + 1 := Nat.lt_succ_self _
    have hb2 : (b.length : Int) < (b.length : Int) + 1 := by omega
    have hb3 : (0 : Int) ≤ (b.length : Int) := Int.natCast_nonneg _
    have ha1 : A.length < A.length + 1 := Nat.lt_succ_self _
    have ha2 : (A.length : Int) < (A.length : Int) + 1 := by omega
    have ha3 : (0 : Int) ≤ (A.length : Int) := Int.natCast_nonneg _
    have hx1 : x.length < x.length + 1 := Nat.lt_succ_self _
    have hx2 : (x.length : Int) < (x.length : Int) + 1 := by omega
    have hx3 : (0 : Int) ≤ (x.length : Int) := Int.natCast_nonneg _
    have HW : Hid (∀ Y, Below w19.heap.size w19 Y → (Y.cell? ⟨gf, b.length, none⟩ = some (.int .u8 7) ∧ Y.cell? ⟨gr, A.length * 3, none⟩ = some (.int .i64 9) ∧ Y.cell? ⟨gq, x.length * 3, none⟩ = some (.int .i64 9)) ∧ (convert 22 9 (.slice (some ⟨gf, 0, none⟩) b.length cf)).run Try.prog Y = .ok (.string (strOfNums b)) Y ∧ (convert 22 9 (.slice a0 b.length c0)).run Try.prog Y = .ok (.string (strOfNums b)) Y) := hide fun Y hY => by
      have b11 := (unhide HB19).trans (hY.mono (unhide HB19).size)
      have bw := (unhide HX19).trans (hY.mono (unhide HX19).size)
      have d1 := (rwk_cell (rowD_below (unhide Rf19) hY (Nat.le_refl _)) b.length (by omega)).1
      have d2 := (rwk_cell (rowD_below (unhide Rr19) hY (Nat.le_refl _)) (A.length * 3) (by omega)).1
      have d3 := (rwk_cell (rowD_below (unhide Rq19) hY (Nat.le_refl _)) (x.length * 3) (by omega)).1
      rw [List.getElem?_append_right (by simp)] at d1
      rw [List.getElem?_append_right (by rw [opsV_lenO]; exact Nat.le_refl _), opsV_lenO, Nat.sub_self] at d2 d3
      simp only [List.length_map, Nat.sub_self, List.getElem?_cons_zero] at d1 d2 d3
      exact ⟨⟨d1, d2, d3⟩, str_bs Y _ cf b (unhide HFb Y b11).2.2.1, str_bs Y a0 c0 b (unhide HBb Y bw).2.2.1⟩
    have HSD : Hid ((w19.drew.cell? ⟨gf, b.length, none⟩ = some (.int .u8 7) ∧ w19.drew.cell? ⟨gr, A.length * 3, none⟩ = some (.int .i64 9) ∧ w19.drew.cell? ⟨gq, x.length * 3, none⟩ = some (.int .i64 9)) ∧ (convert 22 9 (.slice (some ⟨gf, 0, none⟩) b.length cf)).run Try.prog w19.drew = .ok (.string (strOfNums b)) w19.drew ∧ (convert 22 9 (.slice a0 b.length c0)).run Try.prog w19.drew = .ok (.string (strOfNums b)) w19.drew) := hide (unhide HW _ (Below.refl w19.heap.size w19).drew)
    have HBD := hide (Below.refl w19.heap.size w19).drew
    have HC20 := hide (same13_at (some ⟨gr, 0, none⟩) cr A aA cA A w19.drew (unhide HRr _ ((unhide HB19).trans ((unhide HBD).mono (unhide HB19).size))) (unhide HAa _ ((unhide HB19).trans ((unhide HBD).mono (unhide HB19).size))) hA hA (unhide HV).1.2.2.1 (unhide HV).1.2.2.1)
    rw [decide_eq_true (rfl : A = A)] at HC20
    generalize strOfNums b = sb at *
    refine regionL (S := fun z => (z.cell? ⟨gf, b.length, none⟩ = some (.int .u8 7) ∧ z.cell? ⟨gr, A.length * 3, none⟩ = some (.int .i64 9) ∧ z.cell? ⟨gq, x.length * 3, none⟩ = some (.int .i64 9)) ∧ (convert 22 9 (.slice (some ⟨gf, 0, none⟩) b.length cf)).run Try.prog z = .ok (.string sb) z ∧ (convert 22 9 (.slice a0 b.length c0)).run Try.prog z = .ok (.string sb) z) (fun _ => false) (by kernel_rfl) ?_
    generalize w19.drew = zz at *
    refine anyL_take (i := 0) (v := ?vo200) rfl (by kernel_rfl) (by kernel_rfl) (by kernel_rfl) (by kernel_rfl) (fun _ _ _ h => h) (Or.inl ⟨by rfl, ?ho200⟩) (unhide HSD) ?_
    case ho200 => (intro w hSw; (try dsimp only at hSw); go_simp) <;> with_reducible rfl
    simp only [Act.put, List.getElem_toArray, List.getElem_cons_zero, List.setIfInBounds_toArray, List.set_cons_zero, List.set_cons_succ]
    refine anyL_take (i := 1) (v := ?vo201) rfl (by kernel_rfl) (by kernel_rfl) (by kernel_rfl) (by kernel_rfl) (fun _ _ _ h => h) (Or.inl ⟨by rfl, ?ho201⟩) (unhide HSD) ?_
    case ho201 => (intro w hSw; (try dsimp only at hSw); go_simp) <;> with_reducible rfl
    simp only [Act.put, List.getElem_toArray, List.getElem_cons_zero, List.getElem_cons_succ, List.setIfInBounds_toArray, List.set_cons_zero, List.set_cons_succ]
    refine anyL_take (i := 2) (v := ?vo202) rfl (by kernel_rfl) (by kernel_rfl) (by kernel_rfl) (by kernel_rfl) (fun _ _ _ h => h) (Or.inl ⟨by rfl, ?ho202⟩) (unhide HSD) ?_
    case ho202 => (intro w hSw; (try dsimp only at hSw); go_simp) <;> with_reducible rfl
    simp only [Act.put, List.getElem_toArray, List.getElem_cons_zero, List.getElem_cons_succ, List.setIfInBounds_toArray, List.set_cons_zero, List.set_cons_succ]
    refine anyL_take (i := 3) (v := ?vo203) rfl (by kernel_rfl) (by kernel_rfl) (by kernel_rfl) (by kernel_rfl) (fun _ _ _ h => h) (Or.inl ⟨by rfl, ?ho203⟩) (unhide HSD) ?_
    case ho203 => (intro w hSw; (try dsimp only at hSw); go_simp) <;> with_reducible rfl
    simp only [Act.put, List.getElem_toArray, List.getElem_cons_zero, List.getElem_cons_succ, List.setIfInBounds_toArray, List.set_cons_zero, List.set_cons_succ]
    refine anyL_take (i := 4) (v := ?vo204) rfl (by kernel_rfl) (by kernel_rfl) (by kernel_rfl) (by kernel_rfl) (fun _ _ _ h => h) (Or.inl ⟨by rfl, ?ho204⟩) (unhide HSD) ?_
    case ho204 => (intro w hSw; (try dsimp only at hSw); go_simp) <;> with_reducible rfl
    simp only [Act.put, List.getElem_toArray, List.getElem_cons_zero, List.getElem_cons_succ, List.setIfInBounds_toArray, List.set_cons_zero, List.set_cons_succ]
    refine anyL_take (i := 5) (v := ?vo205) rfl (by kernel_rfl) (by kernel_rfl) (by kernel_rfl) (by kernel_rfl) (fun _ _ _ h => h) (Or.inl ⟨by rfl, ?ho205⟩) (unhide HSD) ?_
    case ho205 => (intro w hSw; (try dsimp only at hSw); go_simp) <;> with_reducible rfl
    simp only [Act.put, List.getElem_toArray, List.getElem_cons_zero, List.getElem_cons_succ, List.setIfInBounds_toArray, List.set_cons_zero, List.set_cons_succ]
    refine anyL_take (i := 6) (v := ?vo206) rfl (by kernel_rfl) (by kernel_rfl) (by kernel_rfl) (by kernel_rfl) (fun _ _ _ h => h) (Or.inl ⟨by rfl, ?ho206⟩) (unhide HSD) ?_
    case ho206 => (intro w hSw; (try dsimp only at hSw); go_simp) <;> with_reducible rfl
    simp only [Act.put, List.getElem_toArray, List.getElem_cons_zero, List.getElem_cons_succ, List.setIfInBounds_toArray, List.set_cons_zero, List.set_cons_succ]
    refine anyL_take (i := 7) (v := ?vo207) rfl (by kernel_rfl) (by kernel_rfl) (by kernel_rfl) (by kernel_rfl) (fun _ _ _ h => h) (Or.inl ⟨by rfl, ?ho207⟩) (unhide HSD) ?_
    case ho207 => (intro w hSw; (try dsimp only at hSw); go_simp) <;> with_reducible rfl
    simp only [Act.put, List.getElem_toArray, List.getElem_cons_zero, List.getElem_cons_succ, List.setIfInBounds_toArray, List.set_cons_zero, List.set_cons_succ]
    refine anyL_take (i := 8) (v := ?vo208) rfl (by kernel_rfl) (by kernel_rfl) (by kernel_rfl) (by kernel_rfl) (fun _ _ _ h => h) (Or.inl ⟨by rfl, ?ho208⟩) (unhide HSD) ?_
    case ho208 => (intro w hSw; (try dsimp only at hSw); go_simp) <;> with_reducible rfl
    simp only [Act.put, List.getElem_toArray, List.getElem_cons_zero, List.getElem_cons_succ, List.setIfInBounds_toArray, List.set_cons_zero, List.set_cons_succ]
    refine anyL_take (i := 9) (v := ?vo209) rfl (by kernel_rfl) (by kernel_rfl) (by kernel_rfl) (by kernel_rfl) (fun _ _ _ h => h) (Or.inl ⟨by rfl, ?ho209⟩) (unhide HSD) ?_
    case ho209 => (intro w hSw; (try dsimp only at hSw); go_simp) <;> with_reducible rfl
    simp only [Act.put, List.getElem_toArray, List.getElem_cons_zero, List.getElem_cons_succ, List.setIfInBounds_toArray, List.set_cons_zero, List.set_cons_succ]
    refine anyL_take (i := 10) (v := ?vo2010) rfl (by kernel_rfl) (by kernel_rfl) (by kernel_rfl) (by kernel_rfl) (fun _ _ _ h => h) (Or.inl ⟨by rfl, ?ho2010⟩) (unhide HSD) ?_
    case ho2010 => (intro w hSw; (try dsimp only at hSw); go_simp) <;> with_reducible rfl
    simp only [Act.put, List.getElem_toArray, List.getElem_cons_zero, List.getElem_cons_succ, List.setIfInBounds_toArray, List.set_cons_zero, List.set_cons_succ]
    refine anyL_take (i := 11) (v := ?vo2011) rfl (by kernel_rfl) (by kernel_rfl) (by kernel_rfl) (by kernel_rfl) (fun _ _ _ h => h) (Or.inl ⟨by rfl, ?ho2011⟩) (unhide HSD) ?_
    case ho2011 => (intro w hSw; (try dsimp only at hSw); go_simp) <;> with_reducible rfl
    simp only [Act.put, List.getElem_toArray, List.getElem_cons_zero, List.getElem_cons_succ, List.setIfInBounds_toArray, List.set_cons_zero, List.set_cons_succ]
    refine anyL_take (i := 12) (v := ?vo2012) rfl (by kernel_rfl) (by kernel_rfl) (by kernel_rfl) (by kernel_rfl) (fun _ _ _ h => h) (Or.inl ⟨by rfl, ?ho2012⟩) (unhide HSD) ?_
    case ho2012 => (intro w hSw; (try dsimp only at hSw); go_simp) <;> with_reducible rfl
    simp only [Act.put, List.getElem_toArray, List.getElem_cons_zero, List.getElem_cons_succ, List.setIfInBounds_toArray, List.set_cons_zero, List.set_cons_succ]
    refine anyL_take (i := 13) (v := ?vo2013) rfl (by kernel_rfl) (by kernel_rfl) (by kernel_rfl) (by kernel_rfl) (fun _ _ _ h => h) (Or.inl ⟨by rfl, ?ho2013⟩) (unhide HSD) ?_
    case ho2013 => (intro w hSw; (try dsimp only at hSw); go_simp) <;> with_reducible rfl
    simp only [Act.put, List.getElem_toArray, List.getElem_cons_zero, List.getElem_cons_succ, List.setIfInBounds_toArray, List.set_cons_zero, List.set_cons_succ]
    refine anyL_take (i := 14) (v := ?vo2014) rfl (by kernel_rfl) (by kernel_rfl) (by kernel_rfl) (by kernel_rfl) (fun _ _ _ h => h) (Or.inl ⟨by rfl, ?ho2014⟩) (unhide HSD) ?_
    case ho2014 => (intro w hSw; (try dsimp only at hSw); go_simp) <;> with_reducible rfl
    simp only [Act.put, List.getElem_toArray, List.getElem_cons_zero, List.getElem_cons_succ, List.setIfInBounds_toArray, List.set_cons_zero, List.set_cons_succ]
    refine anyL_take (i := 15) (v := ?vo2015) rfl (by kernel_rfl) (by kernel_rfl) (by kernel_rfl) (by kernel_rfl) (fun _ _ _ h => h) (Or.inl ⟨by rfl, ?ho2015⟩) (unhide HSD) ?_
    case ho2015 => (intro w hSw; (try dsimp only at hSw); go_simp) <;> with_reducible rfl
    simp only [Act.put, List.getElem_toArray, List.getElem_cons_zero, List.getElem_cons_succ, List.setIfInBounds_toArray, List.set_cons_zero, List.set_cons_succ]
    refine anyL_take (i := 16) (v := ?vo2016) rfl (by kernel_rfl) (by kernel_rfl) (by kernel_rfl) (by kernel_rfl) (fun _ _ _ h => h) (Or.inl ⟨by rfl, ?ho2016⟩) (unhide HSD) ?_
    case ho2016 => (intro w hSw; (try dsimp only at hSw); go_simp) <;> with_reducible rfl
    simp only [Act.put, List.getElem_toArray, List.getElem_cons_zero, List.getElem_cons_succ, List.setIfInBounds_toArray, List.set_cons_zero, List.set_cons_succ]
    refine anyL_take (i := 17) (v := ?vo2017) rfl (by kernel_rfl) (by kernel_rfl) (by kernel_rfl) (by kernel_rfl) (fun _ _ _ h => h) (Or.inl ⟨by rfl, ?ho2017⟩) (unhide HSD) ?_
    case ho2017 => (intro w hSw; (try dsimp only at hSw); go_simp) <;> with_reducible rfl
    simp only [Act.put, List.getElem_toArray, List.getElem_cons_zero, List.getElem_cons_succ, List.setIfInBounds_toArray, List.set_cons_zero, List.set_cons_succ]
    refine anyL_take (i := 18) (v := ?vo2018) rfl (by kernel_rfl) (by kernel_rfl) (by kernel_rfl) (by kernel_rfl) (fun _ _ _ h => h) (Or.inl ⟨by rfl, ?ho2018⟩) (unhide HSD) ?_
    case ho2018 => (intro w hSw; (try dsimp only at hSw); go_simp) <;> with_reducible rfl
    simp only [Act.put, List.getElem_toArray, List.getElem_cons_zero, List.getElem_cons_succ, List.setIfInBounds_toArray, List.set_cons_zero, List.set_cons_succ]
    refine anyL_ready (rs := [19]) (by kernel_rfl) (by simp) ?_
    refine AllL.cons rfl (fun K hK => ?_) AllL.nil
    go_simp
    refine (unhide HC20).mono ?_
    rintro yy w20 ⟨rfl, x20⟩
    have y20 := (unhide HBD).trans (x20.mono (unhide HBD).size)
    have HY20 := hide y20
    have HC21 := hide (same13_at (some ⟨gq, 0, none⟩) cq x a1 c1 x w20 (unhide HQq _ ((unhide HB19).trans (y20.mono (unhide HB19).size))) (unhide HXx _ ((unhide HX19).trans (y20.mono (unhide HX19).size))) (by omega) (by omega) (fun o ho => (unhide HTx o ho).1) (fun o ho => (unhide HTx o ho).1))
    rw [decide_eq_true (rfl : x = x)] at HC21
    clear HC20 x20 y20
    refine unhide hK _ _ (fun _ => unhide HW w20 (unhide HY20)) ?_
    clear hK K
    refine anyL_take (i := 20) (v := ?vo2019) rfl (by kernel_rfl) (by kernel_rfl) (by kernel_rfl) (by kernel_rfl) (fun _ _ _ h => h) (Or.inl ⟨by rfl, ?ho2019⟩) (unhide HW w20 (unhide HY20)) ?_
    case ho2019 => (intro w hSw; (try dsimp only at hSw); go_simp) <;> with_reducible rfl
    simp only [Act.put, List.getElem_toArray, List.getElem_cons_zero, List.getElem_cons_succ, List.setIfInBounds_toArray, List.set_cons_zero, List.set_cons_succ]
    refine anyL_take (i := 21) (v := ?vo2020) rfl (by kernel_rfl) (by kernel_rfl) (by kernel_rfl) (by kernel_rfl) (fun _ _ _ h => h) (Or.inl ⟨by rfl, ?ho2020⟩) (unhide HW w20 (unhide HY20)) ?_
    case ho2020 => (intro w hSw; (try dsimp only at hSw); go_simp) <;> with_reducible rfl
    simp only [Act.put, List.getElem_toArray, List.getElem_cons_zero, List.getElem_cons_succ, List.setIfInBounds_toArray, List.set_cons_zero, List.set_cons_succ]
    refine anyL_take (i := 22) (v := ?vo2021) rfl (by kernel_rfl) (by kernel_rfl) (by kernel_rfl) (by kernel_rfl) (fun _ _ _ h => h) (Or.inl ⟨by rfl, ?ho2021⟩) (unhide HW w20 (unhide HY20)) ?_
    case ho2021 => (intro w hSw; (try dsimp only at hSw); go_simp) <;> with_reducible rfl
    simp only [Act.put, List.getElem_toArray, List.getElem_cons_zero, List.getElem_cons_succ, List.setIfInBounds_toArray, List.set_cons_zero, List.set_cons_succ]
    refine anyL_take (i := 23) (v := ?vo2022) rfl (by kernel_rfl) (by kernel_rfl) (by kernel_rfl) (by kernel_rfl) (fun _ _ _ h => h) (Or.inl ⟨by rfl, ?ho2022⟩) (unhide HW w20 (unhide HY20)) ?_
    case ho2022 => (intro w hSw; (try dsimp only at hSw); go_simp) <;> with_reducible rfl
    simp only [Act.put, List.getElem_toArray, List.getElem_cons_zero, List.getElem_cons_succ, List.setIfInBounds_toArray, List.set_cons_zero, List.set_cons_succ]
    refine anyL_take (i := 24) (v := ?vo2023) rfl (by kernel_rfl) (by kernel_rfl) (by kernel_rfl) (by kernel_rfl) (fun _ _ _ h => h) (Or.inl ⟨by rfl, ?ho2023⟩) (unhide HW w20 (unhide HY20)) ?_
    case ho2023 => (intro w hSw; (try dsimp only at hSw); go_simp) <;> with_reducible rfl
    simp only [Act.put, List.getElem_toArray, List.getElem_cons_zero, List.getElem_cons_succ, List.setIfInBounds_toArray, List.set_cons_zero, List.set_cons_succ]
    refine anyL_take (i := 25) (v := ?vo2024) rfl (by kernel_rfl) (by kernel_rfl) (by kernel_rfl) (by kernel_rfl) (fun _ _ _ h => h) (Or.inl ⟨by rfl, ?ho2024⟩) (unhide HW w20 (unhide HY20)) ?_
    case ho2024 => (intro w hSw; (try dsimp only at hSw); go_simp) <;> with_reducible rfl
    simp only [Act.put, List.getElem_toArray, List.getElem_cons_zero, List.getElem_cons_succ, List.setIfInBounds_toArray, List.set_cons_zero, List.set_cons_succ]
    refine anyL_take (i := 26) (v := ?vo2025) rfl (by kernel_rfl) (by kernel_rfl) (by kernel_rfl) (by kernel_rfl) (fun _ _ _ h => h) (Or.inl ⟨by rfl, ?ho2025⟩) (unhide HW w20 (unhide HY20)) ?_
    case ho2025 => (intro w hSw; (try dsimp only at hSw); go_simp) <;> with_reducible rfl
    simp only [Act.put, List.getElem_toArray, List.getElem_cons_zero, List.getElem_cons_succ, List.setIfInBounds_toArray, List.set_cons_zero, List.set_cons_succ]
    refine anyL_take (i := 27) (v := ?vo2026) rfl (by kernel_rfl) (by kernel_rfl) (by kernel_rfl) (by kernel_rfl) (fun _ _ _ h => h) (Or.inl ⟨by rfl, ?ho2026⟩) (unhide HW w20 (unhide HY20)) ?_
    case ho2026 => (intro w hSw; (try dsimp only at hSw); go_simp) <;> with_reducible rfl
    simp only [Act.put, List.getElem_toArray, List.getElem_cons_zero, List.getElem_cons_succ, List.setIfInBounds_toArray, List.set_cons_zero, List.set_cons_succ]
    refine anyL_take (i := 28) (v := ?vo2027) rfl (by kernel_rfl) (by kernel_rfl) (by kernel_rfl) (by kernel_rfl) (fun _ _ _ h => h) (Or.inl ⟨by rfl, ?ho2027⟩) (unhide HW w20 (unhide HY20)) ?_
    case ho2027 => (intro w hSw; (try dsimp only at hSw); go_simp) <;> with_reducible rfl
    simp only [Act.put, List.getElem_toArray, List.getElem_cons_zero, List.getElem_cons_succ, List.setIfInBounds_toArray, List.set_cons_zero, List.set_cons_succ]
    refine anyL_take (i := 29) (v := ?vo2028) rfl (by kernel_rfl) (by kernel_rfl) (by kernel_rfl) (by kernel_rfl) (fun _ _ _ h => h) (Or.inl ⟨by rfl, ?ho2028⟩) (unhide HW w20 (unhide HY20)) ?_
    case ho2028 => (intro w hSw; (try dsimp only at hSw); go_simp) <;> with_reducible rfl
    simp only [Act.put, List.getElem_toArray, List.getElem_cons_zero, List.getElem_cons_succ, List.setIfInBounds_toArray, List.set_cons_zero, List.set_cons_succ]
    refine anyL_take (i := 30) (v := ?vo2029) rfl (by kernel_rfl) (by kernel_rfl) (by kernel_rfl) (by kernel_rfl) (fun _ _ _ h => h) (Or.inl ⟨by rfl, ?ho2029⟩) (unhide HW w20 (unhide HY20)) ?_
    case ho2029 => (intro w hSw; (try dsimp only at hSw); go_simp) <;> with_reducible rfl
    simp only [Act.put, List.getElem_toArray, List.getElem_cons_zero, List.getElem_cons_succ, List.setIfInBounds_toArray, List.set_cons_zero, List.set_cons_succ]
    refine anyL_take (i := 31) (v := ?vo2030) rfl (by kernel_rfl) (by kernel_rfl) (by kernel_rfl) (by kernel_rfl) (fun _ _ _ h => h) (Or.inl ⟨by rfl, ?ho2030⟩) (unhide HW w20 (unhide HY20)) ?_
    case ho2030 => (intro w hSw; (try dsimp only at hSw); go_simp) <;> with_reducible rfl
    simp only [Act.put, List.getElem_toArray, List.getElem_cons_zero, List.getElem_cons_succ, List.setIfInBounds_toArray, List.set_cons_zero, List.set_cons_succ]
    refine anyL_take (i := 32) (v := ?vo2031) rfl (by kernel_rfl) (by kernel_rfl) (by kernel_rfl) (by kernel_rfl) (fun _ _ _ h => h) (Or.inl ⟨by rfl, ?ho2031⟩) (unhide HW w20 (unhide HY20)) ?_
    case ho2031 => (intro w hSw; (try dsimp only at hSw); go_simp) <;> with_reducible rfl
    simp only [Act.put, List.getElem_toArray, List.getElem_cons_zero, List.getElem_cons_succ, List.setIfInBounds_toArray, List.set_cons_zero, List.set_cons_succ]
    refine anyL_take (i := 33) (v := ?vo2032) rfl (by kernel_rfl) (by kernel_rfl) (by kernel_rfl) (by kernel_rfl) (fun _ _ _ h => h) (Or.inl ⟨by rfl, ?ho2032⟩) (unhide HW w20 (unhide HY20)) ?_
    case ho2032 => (intro w hSw; (try dsimp only at hSw); go_simp) <;> with_reducible rfl
    simp only [Act.put, List.getElem_toArray, List.getElem_cons_zero, List.getElem_cons_succ, List.setIfInBounds_toArray, List.set_cons_zero, List.set_cons_succ]
    refine anyL_take (i := 34) (v := ?vo2033) rfl (by kernel_rfl) (by kernel_rfl) (by kernel_rfl) (by kernel_rfl) (fun _ _ _ h => h) (Or.inl ⟨by rfl, ?ho2033⟩) (unhide HW w20 (unhide HY20)) ?_
    case ho2033 => (intro w hSw; (try dsimp only at hSw); go_simp) <;> with_reducible rfl
    simp only [Act.put, List.getElem_toArray, List.getElem_cons_zero, List.getElem_cons_succ, List.setIfInBounds_toArray, List.set_cons_zero, List.set_cons_succ]
    refine anyL_take (i := 35) (v := ?vo2034) rfl (by kernel_rfl) (by kernel_rfl) (by kernel_rfl) (by kernel_rfl) (fun _ _ _ h => h) (Or.inl ⟨by rfl, ?ho2034⟩) (unhide HW w20 (unhide HY20)) ?_
    case ho2034 => (intro w hSw; (try dsimp only at hSw); go_simp) <;> with_reducible rfl
    simp only [Act.put, List.getElem_toArray, List.getElem_cons_zero, List.getElem_cons_succ, List.setIfInBounds_toArray, List.set_cons_zero, List.set_cons_succ]
    refine anyL_take (i := 36) (v := ?vo2035) rfl (by kernel_rfl) (by kernel_rfl) (by kernel_rfl) (by kernel_rfl) (fun _ _ _ h => h) (Or.inl ⟨by rfl, ?ho2035⟩) (unhide HW w20 (unhide HY20)) ?_
    case ho2035 => (intro w hSw; (try dsimp only at hSw); go_simp) <;> with_reducible rfl
    simp only [Act.put, List.getElem_toArray, List.getElem_cons_zero, List.getElem_cons_succ, List.setIfInBounds_toArray, List.set_cons_zero, List.set_cons_succ]
    refine anyL_ready (rs := [37]) (by kernel_rfl) (by simp) ?_
    refine AllL.cons rfl (fun K hK => ?_) AllL.nil
    go_simp
    refine (unhide HC21).mono ?_
    rintro yy w21 ⟨rfl, x21⟩
    have y21 := (unhide HY20).trans (x21.mono (unhide HY20).size)
    have HY21 := hide y21
    clear HC21 x21 y21
    refine unhide hK _ _ (fun _ => unhide HW w21 (unhide HY21)) ?_
    clear hK K
    refine anyL_take (i := 38) (v := ?vo2036) rfl (by kernel_rfl) (by kernel_rfl) (by kernel_rfl) (by kernel_rfl) (fun _ _ _ h => h) (Or.inl ⟨by rfl, ?ho2036⟩) (unhide HW w21 (unhide HY21)) ?_
    case ho2036 => (intro w hSw; (try dsimp only at hSw); go_simp) <;> with_reducible rfl
    simp only [Act.put, List.getElem_toArray, List.getElem_cons_zero, List.getElem_cons_succ, List.setIfInBounds_toArray, List.set_cons_zero, List.set_cons_succ]
    refine anyL_take (i := 39) (v := ?vo2037) rfl (by kernel_rfl) (by kernel_rfl) (by kernel_rfl) (by kernel_rfl) (fun _ _ _ h => h) (Or.inl ⟨by rfl, ?ho2037⟩) (unhide HW w21 (unhide HY21)) ?_
    case ho2037 => (intro w hSw; (try dsimp only at hSw); go_simp) <;> with_reducible rfl
    simp only [Act.put, List.getElem_toArray, List.getElem_cons_zero, List.getElem_cons_succ, List.setIfInBounds_toArray, List.set_cons_zero, List.set_cons_succ]
    refine anyL_take (i := 40) (v := ?vo2038) rfl (by kernel_rfl) (by kernel_rfl) (by kernel_rfl) (by kernel_rfl) (fun _ _ _ h => h) (Or.inl ⟨by rfl, ?ho2038⟩) (unhide HW w21 (unhide HY21)) ?_
    case ho2038 => (intro w hSw; (try dsimp only at hSw); go_simp) <;> with_reducible rfl
    simp only [Act.put, List.getElem_toArray, List.getElem_cons_zero, List.getElem_cons_succ, List.setIfInBounds_toArray, List.set_cons_zero, List.set_cons_succ]
    refine anyL_take (i := 41) (v := ?vo2039) rfl (by kernel_rfl) (by kernel_rfl) (by kernel_rfl) (by kernel_rfl) (fun _ _ _ h => h) (Or.inl ⟨by rfl, ?ho2039⟩) (unhide HW w21 (unhide HY21)) ?_
    case ho2039 => (intro w hSw; (try dsimp only at hSw); go_simp) <;> with_reducible rfl
    simp only [Act.put, List.getElem_toArray, List.getElem_cons_zero, List.getElem_cons_succ, List.setIfInBounds_toArray, List.set_cons_zero, List.set_cons_succ]
    refine anyL_take (i := 42) (v := ?vo2040) rfl (by kernel_rfl) (by kernel_rfl) (by kernel_rfl) (by kernel_rfl) (fun _ _ _ h => h) (Or.inl ⟨by rfl, ?ho2040⟩) (unhide HW w21 (unhide HY21)) ?_
    case ho2040 => (intro w hSw; (try dsimp only at hSw); go_simp) <;> with_reducible rfl
    simp only [Act.put, List.getElem_toArray, List.getElem_cons_zero, List.getElem_cons_succ, List.setIfInBounds_toArray, List.set_cons_zero, List.set_cons_succ]
    refine anyL_take (i := 43) (v := ?vo2041) rfl (by kernel_rfl) (by kernel_rfl) (by kernel_rfl) (by kernel_rfl) (fun _ _ _ h => h) (Or.inl ⟨by rfl, ?ho2041⟩) (unhide HW w21 (unhide HY21)) ?_
    case ho2041 => (intro w hSw; (try dsimp only at hSw); go_simp) <;> with_reducible rfl
    simp only [Act.put, List.getElem_toArray, List.getElem_cons_zero, List.getElem_cons_succ, List.setIfInBounds_toArray, List.set_cons_zero, List.set_cons_succ]
    refine anyL_take (i := 44) (v := ?vo2042) rfl (by kernel_rfl) (by kernel_rfl) (by kernel_rfl) (by kernel_rfl) (fun _ _ _ h => h) (Or.inl ⟨by rfl, ?ho2042⟩) (unhide HW w21 (unhide HY21)) ?_
    case ho2042 => (intro w hSw; (try dsimp only at hSw); go_simp) <;> with_reducible rfl
    simp only [Act.put, List.getElem_toArray, List.getElem_cons_zero, List.getElem_cons_succ, List.setIfInBounds_toArray, List.set_cons_zero, List.set_cons_succ]
    refine anyL_take (i := 45) (v := ?vo2043) rfl (by kernel_rfl) (by kernel_rfl) (by kernel_rfl) (by kernel_rfl) (fun _ _ _ h => h) (Or.inl ⟨by rfl, ?ho2043⟩) (unhide HW w21 (unhide HY21)) ?_
    case ho2043 => (intro w hSw; (try dsimp only at hSw); go_simp) <;> with_reducible rfl
    simp only [Act.put, List.getElem_toArray, List.getElem_cons_zero, List.getElem_cons_succ, List.setIfInBounds_toArray, List.set_cons_zero, List.set_cons_succ]
    refine anyL_take (i := 46) (v := ?vo2044) rfl (by kernel_rfl) (by kernel_rfl) (by kernel_rfl) (by kernel_rfl) (fun _ _ _ h => h) (Or.inl ⟨by rfl, ?ho2044⟩) (unhide HW w21 (unhide HY21)) ?_
    case ho2044 => (intro w hSw; (try dsimp only at hSw); go_simp) <;> with_reducible rfl
    simp only [Act.put, List.getElem_toArray, List.getElem_cons_zero, List.getElem_cons_succ, List.setIfInBounds_toArray, List.set_cons_zero, List.set_cons_succ]
    refine anyL_take (i := 47) (v := ?vo2045) rfl (by kernel_rfl) (by kernel_rfl) (by kernel_rfl) (by kernel_rfl) (fun _ _ _ h => h) (Or.inl ⟨by rfl, ?ho2045⟩) (unhide HW w21 (unhide HY21)) ?_
    case ho2045 => (intro w hSw; (try dsimp only at hSw); go_simp) <;> with_reducible rfl
    simp only [Act.put, List.getElem_toArray, List.getElem_cons_zero, List.getElem_cons_succ, List.setIfInBounds_toArray, List.set_cons_zero, List.set_cons_succ]
    refine anyL_take (i := 48) (v := ?vo2046) rfl (by kernel_rfl) (by kernel_rfl) (by kernel_rfl) (by kernel_rfl) (fun _ _ _ h => h) (Or.inl ⟨by rfl, ?ho2046⟩) (unhide HW w21 (unhide HY21)) ?_
    case ho2046 => (intro w hSw; (try dsimp only at hSw); go_simp) <;> with_reducible rfl
    simp only [Act.put, List.getElem_toArray, List.getElem_cons_zero, List.getElem_cons_succ, List.setIfInBounds_toArray, List.set_cons_zero, List.set_cons_succ]
    refine anyL_done (by kernel_rfl) ?_ _
    have x21 := unhide HY21
    have HX21 := hide ((unhide HX19).trans (x21.mono (unhide HX19).size))
    have HB21 := hide ((unhide HB19).trans (x21.mono (unhide HB19).size))
    have Rf21 := hide (rowD_below (unhide Rf19) x21 (Nat.le_refl _))
    clear Rf19
    have Rr21 := hide (rowD_below (unhide Rr19) x21 (Nat.le_refl _))
    clear Rr19
    have Rq21 := hide (rowD_below (unhide Rq19) x21 (Nat.le_refl _))
    clear Rq19
    have Rg21 := hide (rowD_below (unhide Rg19) x21 (Nat.le_refl _))
    clear Rg19
    have Ri21 := hide (rowD_below (unhide Ri19) x21 (Nat.le_refl _))
    clear Ri19
    have Rk21 := hide (rowD_below (unhide Rk19) x21 (Nat.le_refl _))
    clear Rk19
    have Rn21 := hide (rowD_below (unhide Rn19) x21 (Nat.le_refl _))
    clear Rn19
    have Rc21 := hide (rowD_below (unhide Rc19) x21 (Nat.le_refl _))
    clear Rc19
    have Ro21 := hide (rowD_below (unhide Ro19) x21 (Nat.le_refl _))
    clear Ro19
    have HZ19 : Hid (w19.heap.size ≤ w21.heap.size) := hide x21.size
    clear x21 HW HSD HBD HY20 HY21 hb1 hb2 hb3 ha1 ha2 ha3 hx1 hx2 hx3 HX19 HB19
    have HC22 := hide (RInvertF_at a0 c0 b aA cA A w21 (unhide HBb w21 (unhide HX21)) (unhide HAa w21 (unhide HB21)) hA (unhide HV).1.1 (unhide HV).1.2.1)
    go_wp2_with fail
    refine (unhide HC22).mono ?_
    rintro yy w22 ⟨ai, ci, rfl, ii, _, x22⟩
    dsimp only
    clear HC22
    have HX22 := hide ((unhide HX21).trans (x22.mono (unhide HX21).size))
    have HB22 := hide ((unhide HB21).trans (x22.mono (unhide HB21).size))
    have Rf22 := hide (rowD_below (unhide Rf21) x22 (Nat.le_refl _))
    clear Rf21
    have Rr22 := hide (rowD_below (unhide Rr21) x22 (Nat.le_refl _))
    clear Rr21
    have Rq22 := hide (rowD_below (unhide Rq21) x22 (Nat.le_refl _))
    clear Rq21
    have Rg22 := hide (rowD_below (unhide Rg21) x22 (Nat.le_refl _))
    clear Rg21
    have Ri22 := hide (rowD_below (unhide Ri21) x22 (Nat.le_refl _))
    clear Ri21
    have Rk22 := hide (rowD_below (unhide Rk21) x22 (Nat.le_refl _))
    clear Rk21
    have Rn22 := hide (rowD_below (unhide Rn21) x22 (Nat.le_refl _))
    clear Rn21
    have Rc22 := hide (rowD_below (unhide Rc21) x22 (Nat.le_refl _))
    clear Rc21
    have Ro22 := hide (rowD_below (unhide Ro21) x22 (Nat.le_refl _))
    clear Ro21
    have Hx22 := hide x22
    have Wi22 := hide ii
    clear ii
    clear x22
    have HC23 := hide (RComposeF_at aA cA A aC cC C w22 (unhide HAa w22 (unhide HB22)) (unhide HCc w22 (unhide HB22)) (unhide HV).1.1 (unhide HV).2.1.1 (unhide HV).2.1.2.1.symm)
    go_wp2_with fail
    refine (unhide HC23).mono ?_
    rintro yy w23 ⟨ak, ck, rfl, ik, x23⟩
    dsimp only
    clear HC23
    have HX23 := hide ((unhide HX22).trans (x23.mono (unhide HX22).size))
    have HB23 := hide ((unhide HB22).trans (x23.mono (unhide HB22).size))
    have Rf23 := hide (rowD_below (unhide Rf22) x23 (Nat.le_refl _))
    clear Rf22
    have Rr23 := hide (rowD_below (unhide Rr22) x23 (Nat.le_refl _))
    clear Rr22
    have Rq23 := hide (rowD_below (unhide Rq22) x23 (Nat.le_refl _))
    clear Rq22
    have Rg23 := hide (rowD_below (unhide Rg22) x23 (Nat.le_refl _))
    clear Rg22
    have Ri23 := hide (rowD_below (unhide Ri22) x23 (Nat.le_refl _))
    clear Ri22
    have Rk23 := hide (rowD_below (unhide Rk22) x23 (Nat.le_refl _))
    clear Rk22
    have Rn23 := hide (rowD_below (unhide Rn22) x23 (Nat.le_refl _))
    clear Rn22
    have Rc23 := hide (rowD_below (unhide Rc22) x23 (Nat.le_refl _))
    clear Rc22
    have Ro23 := hide (rowD_below (unhide Ro22) x23 (Nat.le_refl _))
    clear Ro22
    have Hx23 := hide x23
    have Wi23 := hide ((unhide Wi22).below x23 (Nat.le_refl _))
    clear Wi22
    have Wk23 := hide ik
    clear ik
    clear x23
    have HC24 := hide (own13_at aA cA A w23 (unhide HAa w23 (unhide HB23)) (unhide HAa w23 (unhide HB23)).some hA32)
    go_wp2_with fail
    refine (unhide HC24).mono ?_
    rintro yy w24 ⟨vw, rfl, ow, x24⟩
    dsimp only
    clear HC24
    have HX24 := hide ((unhide HX23).trans (x24.mono (unhide HX23).size))
    have HB24 := hide ((unhide HB23).trans (x24.mono (unhide HB23).size))
    have Rf24 := hide (rowD_below (unhide Rf23) x24 (Nat.le_refl _))
    clear Rf23
    have Rr24 := hide (rowD_below (unhide Rr23) x24 (Nat.le_refl _))
    clear Rr23
    have Rq24 := hide (rowD_below (unhide Rq23) x24 (Nat.le_refl _))
    clear Rq23
    have Rg24 := hide (rowD_below (unhide Rg23) x24 (Nat.le_refl _))
    clear Rg23
    have Ri24 := hide (rowD_below (unhide Ri23) x24 (Nat.le_refl _))
    clear Ri23
    have Rk24 := hide (rowD_below (unhide Rk23) x24 (Nat.le_refl _))
    clear Rk23
    have Rn24 := hide (rowD_below (unhide Rn23) x24 (Nat.le_refl _))
    clear Rn23
    have Rc24 := hide (rowD_below (unhide Rc23) x24 (Nat.le_refl _))
    clear Rc23
    have Ro24 := hide (rowD_below (unhide Ro23) x24 (Nat.le_refl _))
    clear Ro23
    have Hx24 := hide x24
    have Wi24 := hide ((unhide Wi23).below x24 (Nat.le_refl _))
    clear Wi23
    have Wk24 := hide ((unhide Wk23).below x24 (Nat.le_refl _))
    clear Wk23
    obtain ⟨aw, cw, hvw, iw, _⟩ := own_isF ow (Nat.le_refl _)
    subst hvw
    have Ww24 := hide iw
    clear iw ow
    clear x24
    have HC25 := hide (RApplyB_at a0 c0 b aA cA A w24 (unhide HBb w24 (unhide HX24)) (unhide HAa w24 (unhide HB24)) hA (unhide HV).1.1 (unhide HV).1.2.1 (unhide HV).1.2.2.1)
    go_wp2_with fail
    refine (unhide HC25).mono ?_
    rintro yy w25 ⟨vv, rfl, hvv, x25⟩
    dsimp only
    clear HC25
    have HX25 := hide ((unhide HX24).trans (x25.mono (unhide HX24).size))
    have HB25 := hide ((unhide HB24).trans (x25.mono (unhide HB24).size))
    have Rf25 := hide (rowD_below (unhide Rf24) x25 (Nat.le_refl _))
    clear Rf24
    have Rr25 := hide (rowD_below (unhide Rr24) x25 (Nat.le_refl _))
    clear Rr24
    have Rq25 := hide (rowD_below (unhide Rq24) x25 (Nat.le_refl _))
    clear Rq24
    have Rg25 := hide (rowD_below (unhide Rg24) x25 (Nat.le_refl _))
    clear Rg24
    have Ri25 := hide (rowD_below (unhide Ri24) x25 (Nat.le_refl _))
    clear Ri24
    have Rk25 := hide (rowD_below (unhide Rk24) x25 (Nat.le_refl _))
    clear Rk24
    have Rn25 := hide (rowD_below (unhide Rn24) x25 (Nat.le_refl _))
    clear Rn24
    have Rc25 := hide (rowD_below (unhide Rc24) x25 (Nat.le_refl _))
    clear Rc24
    have Ro25 := hide (rowD_below (unhide Ro24) x25 (Nat.le_refl _))
    clear Ro24
    have Hx25 := hide x25
    have Wi25 := hide ((unhide Wi24).below x25 (Nat.le_refl _))
    clear Wi24
    have Wk25 := hide ((unhide Wk24).below x25 (Nat.le_refl _))
    clear Wk24
    have Ww25 := hide ((unhide Ww24).below x25 (Nat.le_refl _))
    clear Ww24
    have hcv := hvv w25 (Below.refl _ _)
    clear hvv
    clear x25
    have HC26 := hide (RCanonF_at a1 c1 x w25 (unhide HXx w25 (unhide HX25)) (by omega) (fun o ho => (unhide HTx o ho).2))
    go_wp2_with fail
    refine (unhide HC26).mono ?_
    rintro yy w26 ⟨an, cn, rfl, in_, _, x26⟩
    dsimp only
    clear HC26
    have HX26 := hide ((unhide HX25).trans (x26.mono (unhide HX25).size))
    have HB26 := hide ((unhide HB25).trans (x26.mono (unhide HB25).size))
    have Rf26 := hide (rowD_below (unhide Rf25) x26 (Nat.le_refl _))
    clear Rf25
    have Rr26 := hide (rowD_below (unhide Rr25) x26 (Nat.le_refl _))
    clear Rr25
    have Rq26 := hide (rowD_below (unhide Rq25) x26 (Nat.le_refl _))
    clear Rq25
    have Rg26 := hide (rowD_below (unhide Rg25) x26 (Nat.le_refl _))
    clear Rg25
    have Ri26 := hide (rowD_below (unhide Ri25) x26 (Nat.le_refl _))
    clear Ri25
    have Rk26 := hide (rowD_below (unhide Rk25) x26 (Nat.le_refl _))
    clear Rk25
    have Rn26 := hide (rowD_below (unhide Rn25) x26 (Nat.le_refl _))
    clear Rn25
    have Rc26 := hide (rowD_below (unhide Rc25) x26 (Nat.le_refl _))
    clear Rc25
    have Ro26 := hide (rowD_below (unhide Ro25) x26 (Nat.le_refl _))
    clear Ro25
    have Hx26 := hide x26
    have Wi26 := hide ((unhide Wi25).below x26 (Nat.le_refl _))
    clear Wi25
    have Wk26 := hide ((unhide Wk25).below x26 (Nat.le_refl _))
    clear Wk25
    have Ww26 := hide ((unhide Ww25).below x26 (Nat.le_refl _))
    clear Ww25
    have Wn26 := hide in_
    clear in_ hcv
    clear x26
    have HI0 := hide (And.intro (iv_small (unhide HV).1.1 (unhide HV).1.2.1) (can_tb (runV_tb (unhide HB7') A).2))
    have HG0 := hide (And.intro (runW_tb (unhide HB7') A (unhide HV).1.2.2.1).2 (ap_len (unhide HV).1.1 (unhide HV).1.2.1))
    have HI8 := hide (iv_tight (unhide HV).1.1 (unhide HV).1.2.1)
    have HN8 := hide (canD_tight x)
    have HCC := hide (And.intro hC (unhide HV).2.1.2.2)
    have HN0 := hide (And.intro (canD_len x) (canD_tb (fun o ho => (unhide HTx o ho).1)))
    have HZ : Hid (w11.heap.size ≤ w21.heap.size) := hide (unhide HB21).size
    have HZ12 : Hid (w12.heap.size ≤ w25.heap.size) := hide (by
      have h1 := (unhide Hx13).size
      have h2 := (unhide Hx14).size
      have h3 := (unhide Hx15).size
      have h4 := (unhide Hx16).size
      have h5 := (unhide Hx17).size
      have h6 := (unhide Hx18).size
      have h7 := (unhide Hx19).size
      have h8 := unhide HZ19
      have h9 := (unhide Hx22).size
      have h10 := (unhide Hx23).size
      have h11 := (unhide Hx24).size
      have h12 := (unhide Hx25).size
      omega)
    have HT0 : Hid (WoJ w5.heap.size w26 w26 (.slice (some ⟨gf, 0, none⟩) (b.length + 1) cf) (.slice (some ⟨gr, 0, none⟩) A.length cr) (.slice ac Ch.length cc) (b.length + 1) A.length Ch.length) := hide ⟨⟨_, unhide Rf26⟩, ⟨_, rwk_cut (unhide Rr26) (opsV_lenO A) (by simp)⟩, ⟨_, rowO_base (unhide Rc26) (Nat.le_trans (unhide HB5).size (unhide HB15).size)⟩, fun q _ _ _ => rfl, rfl, Below.refl _ _⟩
    have hCh : Ch.length ≤ 5001 := by have := (unhide HCH).2.2; omega
    generalize hnf : b.length + 1 = nf at *
    have hnf2 : nf ≤ 5001 := by omega
    have hnf0 : 0 < nf := by omega
    clear hnf
    go_wp2_with fail
    go_loopw [33, 198] (fun vv vk wx => (∃ z, vv = z) ∧ ∃ k : Nat, vk = .int .i64 (k : Int) ∧ k ≤ nf ∧ Hid (WoJ w5.heap.size w26 wx (.slice (some ⟨gf, 0, none⟩) (nf) cf) (.slice (some ⟨gr, 0, none⟩) A.length cr) (.slice ac Ch.length cc) nf A.length Ch.length)) (fun _ vk _ => nf - (intOf vk).toNat)
    case atStart => exact ⟨⟨_, rfl⟩, 0, rfl, Nat.zero_le _, hide (unhide HT0)⟩
    case round =>
      obtain ⟨⟨zz, rfl⟩, k, rfl, hk, HT⟩ := hrel
      by_cases hlk : k < nf
      · have p1 : decide ((k : Int) < (nf : Int)) = true := decide_eq_true (by omega)
        obtain ⟨rs, hrs⟩ := (unhide HT).f
        obtain ⟨e1, e2⟩ := rwk_cell hrs k (by omega)
        have e3 : ∃ o, wr.cell? ⟨gf, k, none⟩ = some o := ⟨_, e1.trans (List.getElem?_eq_getElem (by rw [hrs.1]; omega))⟩
        obtain ⟨oo, e3⟩ := e3
        clear e1
        have HTn := hide ((unhide HT).setf (i := k) (.int .u8 120))
        have hkb : k ≤ 1073741824 := by omega
        clear HT hrs
        go_wp2_with fail
        go_roundw
        case rel => exact ⟨⟨_, rfl⟩, k + 1, by go_num, hlk, hide (unhide HTn)⟩
        case measure => simp [intOf]; omega
      · have hkk : nf = k := by omega
        subst hkk
        have p1 : decide ((nf : Int) < (nf : Int)) = false := decide_eq_false (by omega)
        have HT1 := HT
        clear hlk hk HT
        go_wp2_with fail
        go_loopw [34, 207] (fun vv vk wx => (∃ z, vv = z) ∧ ∃ k : Nat, vk = .int .i64 (k : Int) ∧ k ≤ A.length ∧ Hid (WoJ w5.heap.size w26 wx (.slice (some ⟨gf, 0, none⟩) (nf) cf) (.slice (some ⟨gr, 0, none⟩) A.length cr) (.slice ac Ch.length cc) nf A.length Ch.length)) (fun _ vk _ => A.length - (intOf vk).toNat)
        case atStart => exact ⟨⟨_, rfl⟩, 0, rfl, Nat.zero_le _, hide (unhide HT1)⟩
        case round =>
          obtain ⟨⟨zz, rfl⟩, k, rfl, hk, HT⟩ := hrel
          by_cases hlk : k < A.length
          · have p1 : decide ((k : Int) < (A.length : Int)) = true := decide_eq_true (by omega)
            obtain ⟨rs, hrs⟩ := (unhide HT).r
            obtain ⟨⟨⟨ob0, so0⟩, sf0, ⟨ob1, so1⟩, sf1, ⟨ob2, so2⟩, sf2⟩, _⟩ := row_steps3 hrs hlk (.int .i64 8) (.int .i64 0) (.string ⟨#[]⟩)
            have HTn := hide ((unhide HT).setr (i := k) (.int .i64 8) (.int .i64 0) (.string ⟨#[]⟩))
            have hkb : k ≤ 1073741824 := by omega
            clear HT hrs
            go_wp2_with fail
            go_roundw
            case rel => exact ⟨⟨_, rfl⟩, k + 1, by go_num, hlk, hide (unhide HTn)⟩
            case measure => simp [intOf]; omega
          · have hkk : A.length = k := by omega
            subst hkk
            have p1 : decide ((A.length : Int) < (A.length : Int)) = false := decide_eq_false (by omega)
            have HT2 := HT
            clear hlk hk HT
            go_wp2_with fail
            go_loopw [35, 217] (fun vv vk wx => (∃ z, vv = z) ∧ ∃ k : Nat, vk = .int .i64 (k : Int) ∧ k ≤ Ch.length ∧ Hid (WoJ w5.heap.size w26 wx (.slice (some ⟨gf, 0, none⟩) (nf) cf) (.slice (some ⟨gr, 0, none⟩) A.length cr) (.slice ac Ch.length cc) nf A.length Ch.length)) (fun _ vk _ => Ch.length - (intOf vk).toNat)
            case atStart => exact ⟨⟨_, rfl⟩, 0, rfl, Nat.zero_le _, hide (unhide HT2)⟩
            case round =>
              obtain ⟨⟨zz, rfl⟩, k, rfl, hk, HT⟩ := hrel
              by_cases hlk : k < Ch.length
              · have p1 : decide ((k : Int) < (Ch.length : Int)) = true := decide_eq_true (by omega)
                obtain ⟨rs, hrs⟩ := (unhide HT).c
                obtain ⟨gx, rfl⟩ : ∃ gx, ac = some ⟨gx, 0, none⟩ := by
                  rcases hrs.2 with ⟨_, h0⟩ | ⟨gx, _, _, e, _⟩
                  · omega
                  · injection e with e1 e2 e3
                    exact ⟨gx, e1⟩
                obtain ⟨⟨⟨ob0, so0⟩, sf0, ⟨ob1, so1⟩, sf1, ⟨ob2, so2⟩, sf2⟩, _⟩ := row_steps3 hrs hlk (.int .i64 (-1)) (.int .i64 0) (.string ⟨#[]⟩)
                have HTn := hide ((unhide HT).setc (i := k) (.int .i64 (-1)) (.int .i64 0) (.string ⟨#[]⟩))
                have hkb : k ≤ 1073741824 := by omega
                clear HT hrs
                go_wp2_with fail
                go_roundw
                case rel => exact ⟨⟨_, rfl⟩, k + 1, by go_num, hlk, hide (unhide HTn)⟩
                case measure => simp [intOf]; omega
              · have hkk : Ch.length = k := by omega
                subst hkk
                have p1 : decide ((Ch.length : Int) < (Ch.length : Int)) = false := decide_eq_false (by omega)
                have HT3 := HT
                clear hlk hk HT
                have h11_12 := (unhide Hx12).size
                have h12_13 := (unhide Hx13).size
                have h13_14 := (unhide Hx14).size
                have h14_15 := (unhide Hx15).size
                have h15_16 := (unhide Hx16).size
                have h11_21 := unhide HZ
                have h21_22 := (unhide Hx22).size
                have h22_23 := (unhide Hx23).size
                have h23_24 := (unhide Hx24).size
                have h24_25 := (unhide Hx25).size
                have hgf := (unhide HGL).1
                have hgr := (unhide HGL).2.1
                have hs16 : w16.heap.size ≤ w21.heap.size := by
                  have h1 := (unhide Hx17).size
                  have h2 := (unhide Hx18).size
                  have h3 := (unhide Hx19).size
                  have h4 := unhide HZ19
                  omega
                have hgc : ∀ q, (Value.slice ac Ch.length cc).ownBlock = some q → q < w16.heap.size := fun q e => ((unhide Oc).lt q e).2
                have Pi := (unhide HT3).row (unhide Ri26) (nbO_typ (unhide Ri26) (unhide Rf26) (by decide)) (nb_lt (unhide Ri26) hgr h11_12) (nbO_typ (unhide Ri26) (unhide Rc26) (by decide))
                have Pk := (unhide HT3).row (unhide Rk26) (nbO_typ (unhide Rk26) (unhide Rf26) (by decide)) (nb_lt (unhide Rk26) hgr (by omega)) (nbO_typ (unhide Rk26) (unhide Rc26) (by decide))
                have Pn := (unhide HT3).row (unhide Rn26) (nbO_typ (unhide Rn26) (unhide Rf26) (by decide)) (nb_lt (unhide Rn26) hgr (by omega)) (nbO_typ (unhide Rn26) (unhide Rc26) (by decide))
                have Po := (unhide HT3).row (unhide Ro26) (nbO_typ (unhide Ro26) (unhide Rf26) (by decide)) (nb_lt (unhide Ro26) hgr (by omega)) (nbO_typ (unhide Ro26) (unhide Rc26) (by decide))
                have Pg := (unhide HT3).row (unhide Rg26) (nb_lt (unhide Rg26) hgf (Nat.le_refl _)) (nbO_typ (unhide Rg26) (rwk_cut (unhide Rr26) (opsV_lenO A) (by simp)) (by decide)) (nbO_typ (unhide Rg26) (unhide Rc26) (by decide))
                have Qi := (unhide HT3).isF (unhide Wi26) (fun q e => by have hq : gf = q := Option.some.inj e; subst hq; omega) (fun q e => by have hq : gr = q := Option.some.inj e; subst hq; omega) (fun q e => by have := hgc q e; omega)
                have Qk := (unhide HT3).isF (unhide Wk26) (fun q e => by have hq : gf = q := Option.some.inj e; subst hq; omega) (fun q e => by have hq : gr = q := Option.some.inj e; subst hq; omega) (fun q e => by have := hgc q e; omega)
                have Qo := (unhide HT3).isF (unhide Ww26) (fun q e => by have hq : gf = q := Option.some.inj e; subst hq; omega) (fun q e => by have hq : gr = q := Option.some.inj e; subst hq; omega) (fun q e => by have := hgc q e; omega)
                have Qn := (unhide HT3).isF (unhide Wn26) (fun q e => by have hq : gf = q := Option.some.inj e; subst hq; omega) (fun q e => by have hq : gr = q := Option.some.inj e; subst hq; omega) (fun q e => by have := hgc q e; omega)
                have Nik := nbO_age (unhide Oi) (Nat.le_refl _) (unhide Ok) (Nat.le_refl _)
                have Nio := nbO_age (unhide Oi) (N := w16.heap.size) (by omega) (unhide Oo) (Nat.le_refl _)
                have Nin := nbO_age (unhide Oi) (N := w14.heap.size) (by omega) (unhide On) (Nat.le_refl _)
                have Nko := nbO_age (unhide Ok) (N := w16.heap.size) (by omega) (unhide Oo) (Nat.le_refl _)
                have Nkn := nbO_age (unhide Ok) (Nat.le_refl _) (unhide On) (Nat.le_refl _)
                have Nno := nbO_age (unhide On) (N := w16.heap.size) (by omega) (unhide Oo) (Nat.le_refl _)
                have HNB := hide (And.intro Nik (And.intro Nio (And.intro Nin (And.intro Nko (And.intro Nkn Nno)))))
                have B5 := (unhide HB5).trans ((unhide HB26).mono (unhide HB5).size)
                have B26 := B5.trans (unhide HT3).d
                have hw26 : w12.heap.size ≤ wr.heap.size := by
                  have h1 := (unhide HB26).size
                  have h2 := (unhide HT3).z
                  have h3 := (unhide Hx26).size
                  have h4 := unhide HZ12
                  omega
                have HB12w := hide hw26
                have HS12 := hide (Nat.le_trans (unhide HB5).size h11_12)
                have HS5 := hide (unhide HX5).size
                have HBW := hide B26
                have HXW := hide ((unhide HX5).trans (B26.mono (unhide HX5).size))
                have HPi := hide Pi
                have HPk := hide (rowO_base Pk h12_13)
                have HPn := hide (rowO_base Pn (Nat.le_trans h12_13 h13_14))
                have HPo := hide (rowO_base Po (by omega : w12.heap.size ≤ w16.heap.size))
                have HPg := hide (rowO_base Pg (Nat.le_refl _))
                have HQi := hide Qi
                have HQk := hide Qk
                have HQo := hide Qo
                have HQn := hide Qn
                clear h11_12 h12_13 h13_14 h14_15 h15_16 h11_21 h21_22 h22_23 h23_24 h24_25 hgf hgr hs16 hgc Pi Pk Pn Po Pg Qi Qk Qo Qn Nik Nio Nin Nko Nkn Nno B5 B26 hw26
                clear HT0 HT1 HT2 HT3 Rf26 Rr26 Rq26 Rg26 Ri26 Rk26 Rn26 Rc26 Ro26 Oi Ok On Oo Og Oc Wi26 Wk26 Ww26 Wn26 HCc HAa HFb HRr HQq HCH HBb HXx r1 r2 q1 q2 f1 f2
                obtain ⟨avi, cvi, hvi, _⟩ := rowD_form (unhide HPi)
                subst hvi
                obtain ⟨avk, cvk, hvk, _⟩ := rowD_form (unhide HPk)
                subst hvk
                obtain ⟨avn, cvn, hvn, _⟩ := rowD_form (unhide HPn)
                subst hvn
                obtain ⟨avo, cvo, hvo, _⟩ := rowD_form (unhide HPo)
                subst hvo
                have HKb := hide (And.intro hK (unhide HV).2.2.2)
                have HK8 := hide (val_len (unhide HV).2.2.1.v)
                have HA8 := hide (val_len (unhide HV).1.1)
                have HAb := hide (And.intro hA (unhide HV).1.2.2.1)
                have HGs := hide fun (Y : World) (v : Value) (h : Own Y w11.heap.size v (apD b A)) => (show (convert 22 9 v).run Try.prog Y = .ok (.string (strOfNums (apD b A))) Y from by
                  obtain ⟨ag, cg, e, hi⟩ := h.isB (unhide HG0).1 (by have h1 := (unhide HG0).2; have h2 := (valB_nn (unhide HV).1.1).2; omega)
                  subst e
                  exact str_bs Y ag cg _ hi.2.2.1)
                have HI1 : Hid ((canA (dA (ivD b A))).length ≤ 4611686018427387904 ∧ ∀ o ∈ canA (dA (ivD b A)), TbD o) := HI0
                clear HI0
                have HI0 := HI1
                clear HI1
                have HI9 : Hid ((canA (dA (ivD b A))).length ≤ 1099511627000) := HI8
                clear HI8
                generalize canA (dA (ivD b A)) = II at *
                generalize cmD A C = KK at *
                generalize (canD x).1 = NN at *
                generalize strOfNums (apD b A) = sg at *
                generalize wr = w30 at *
                have HC31 := hide (same13_at avi cvi II ai ci II w30 (own_isOy (unhide HPi)) (unhide HQi) (unhide HI0).1 (unhide HI0).1 (unhide HI0).2 (unhide HI0).2)
                rw [decide_eq_true (rfl : II = II)] at HC31
                go_wp2_with fail
                refine (unhide HC31).mono ?_
                rintro yy w31 ⟨rfl, x31⟩
                dsimp only
                have HY31 := hide x31
                have HB12_31 : Hid (w12.heap.size ≤ w31.heap.size) := hide (Nat.le_trans (unhide HB12w) x31.size)
                clear HC31 HB12w
                have HPi_31 := hide (rowD_below (unhide HPi) x31 (Nat.le_refl _))
                clear HPi
                have HPk_31 := hide (rowD_below (unhide HPk) x31 (Nat.le_refl _))
                clear HPk
                have HPn_31 := hide (rowD_below (unhide HPn) x31 (Nat.le_refl _))
                clear HPn
                have HPo_31 := hide (rowD_below (unhide HPo) x31 (Nat.le_refl _))
                clear HPo
                have HPg_31 := hide (rowD_below (unhide HPg) x31 (Nat.le_refl _))
                clear HPg
                have HQi_31 := hide ((unhide HQi).below x31 (Nat.le_refl _))
                clear HQi
                have HQk_31 := hide ((unhide HQk).below x31 (Nat.le_refl _))
                clear HQk
                have HQo_31 := hide ((unhide HQo).below x31 (Nat.le_refl _))
                clear HQo
                have HQn_31 := hide ((unhide HQn).below x31 (Nat.le_refl _))
                clear HQn
                clear x31
                have HC32 := hide (same13_at avk cvk KK ak ck KK w31 (own_isOy (unhide HPk_31)) (unhide HQk_31) (unhide HKb).1 (unhide HKb).1 (unhide HKb).2 (unhide HKb).2)
                rw [decide_eq_true (rfl : KK = KK)] at HC32
                go_wp2_with fail
                refine (unhide HC32).mono ?_
                rintro yy w32 ⟨rfl, x32⟩
                dsimp only
                have HY32 := hide ((unhide HY31).trans (x32.mono (unhide HY31).size))
                have HB12_32 : Hid (w12.heap.size ≤ w32.heap.size) := hide (Nat.le_trans (unhide HB12_31) x32.size)
                clear HC32 HB12_31
                have HPi_32 := hide (rowD_below (unhide HPi_31) x32 (Nat.le_refl _))
                clear HPi_31
                have HPk_32 := hide (rowD_below (unhide HPk_31) x32 (Nat.le_refl _))
                clear HPk_31
                have HPn_32 := hide (rowD_below (unhide HPn_31) x32 (Nat.le_refl _))
                clear HPn_31
                have HPo_32 := hide (rowD_below (unhide HPo_31) x32 (Nat.le_refl _))
                clear HPo_31
                have HPg_32 := hide (rowD_below (unhide HPg_31) x32 (Nat.le_refl _))
                clear HPg_31
                have HQi_32 := hide ((unhide HQi_31).below x32 (Nat.le_refl _))
                clear HQi_31
                have HQk_32 := hide ((unhide HQk_31).below x32 (Nat.le_refl _))
                clear HQk_31
                have HQo_32 := hide ((unhide HQo_31).below x32 (Nat.le_refl _))
                clear HQo_31
                have HQn_32 := hide ((unhide HQn_31).below x32 (Nat.le_refl _))
                clear HQn_31
                clear x32
                have HC33 := hide (same13_at avo cvo A aw cw A w32 (own_isOy (unhide HPo_32)) (unhide HQo_32) (unhide HAb).1 (unhide HAb).1 (unhide HAb).2 (unhide HAb).2)
                rw [decide_eq_true (rfl : A = A)] at HC33
                go_wp2_with fail
                refine (unhide HC33).mono ?_
                rintro yy w33 ⟨rfl, x33⟩
                dsimp only
                have HY33 := hide ((unhide HY32).trans (x33.mono (unhide HY32).size))
                have HB12_33 : Hid (w12.heap.size ≤ w33.heap.size) := hide (Nat.le_trans (unhide HB12_32) x33.size)
                clear HC33 HB12_32
                have HPi_33 := hide (rowD_below (unhide HPi_32) x33 (Nat.le_refl _))
                clear HPi_32
                have HPk_33 := hide (rowD_below (unhide HPk_32) x33 (Nat.le_refl _))
                clear HPk_32
                have HPn_33 := hide (rowD_below (unhide HPn_32) x33 (Nat.le_refl _))
                clear HPn_32
                have HPo_33 := hide (rowD_below (unhide HPo_32) x33 (Nat.le_refl _))
                clear HPo_32
                have HPg_33 := hide (rowD_below (unhide HPg_32) x33 (Nat.le_refl _))
                clear HPg_32
                have HQi_33 := hide ((unhide HQi_32).below x33 (Nat.le_refl _))
                clear HQi_32
                have HQk_33 := hide ((unhide HQk_32).below x33 (Nat.le_refl _))
                clear HQk_32
                have HQo_33 := hide ((unhide HQo_32).below x33 (Nat.le_refl _))
                clear HQo_32
                have HQn_33 := hide ((unhide HQn_32).below x33 (Nat.le_refl _))
                clear HQn_32
                clear x33
                have HC34 := hide (same13_at avn cvn NN an cn NN w33 (own_isOy (unhide HPn_33)) (unhide HQn_33) (unhide HN0).1 (unhide HN0).1 (unhide HN0).2 (unhide HN0).2)
                rw [decide_eq_true (rfl : NN = NN)] at HC34
                have hcg := unhide HGs w33 vg (unhide HPg_33)
                go_wp2_with fail
                refine (unhide HC34).mono ?_
                rintro yy w34 ⟨rfl, x34⟩
                dsimp only
                have HY34 := hide ((unhide HY33).trans (x34.mono (unhide HY33).size))
                have HB12_34 : Hid (w12.heap.size ≤ w34.heap.size) := hide (Nat.le_trans (unhide HB12_33) x34.size)
                clear HC34 HB12_33
                have HPi_34 := hide (rowD_below (unhide HPi_33) x34 (Nat.le_refl _))
                clear HPi_33
                have HPk_34 := hide (rowD_below (unhide HPk_33) x34 (Nat.le_refl _))
                clear HPk_33
                have HPn_34 := hide (rowD_below (unhide HPn_33) x34 (Nat.le_refl _))
                clear HPn_33
                have HPo_34 := hide (rowD_below (unhide HPo_33) x34 (Nat.le_refl _))
                clear HPo_33
                have HPg_34 := hide (rowD_below (unhide HPg_33) x34 (Nat.le_refl _))
                clear HPg_33
                have HQi_34 := hide ((unhide HQi_33).below x34 (Nat.le_refl _))
                clear HQi_33
                have HQk_34 := hide ((unhide HQk_33).below x34 (Nat.le_refl _))
                clear HQk_33
                have HQo_34 := hide ((unhide HQo_33).below x34 (Nat.le_refl _))
                clear HQo_33
                have HQn_34 := hide ((unhide HQn_33).below x34 (Nat.le_refl _))
                clear HQn_33
                clear x34
                clear hcg
                have B34 := (unhide HBW).trans ((unhide HY34).mono (unhide HBW).size)
                go_upto_region 43 with fail
                have kL := Cls.new w34 24 #[.slice avi II.length cvi, .slice avk KK.length cvk, .slice avo A.length cvo, .slice avn NN.length cvn]
                have bL := (Below.refl w34.heap.size w34).alloc (Nat.le_refl _) (.cells #[.slice avi II.length cvi, .slice avk KK.length cvk, .slice avo A.length cvo, .slice avn NN.length cvn] 24)
                have o1 := rowD_below (unhide HPi_34) bL (Nat.le_refl _)
                have o2 := rowD_below (unhide HPk_34) bL (Nat.le_refl _)
                have o3 := rowD_below (unhide HPo_34) bL (Nat.le_refl _)
                have o4 := rowD_below (unhide HPn_34) bL (Nat.le_refl _)
                obtain ⟨n1, n2, n3, n4, n5, n6⟩ := unhide HNB
                have HB35 := hide (B34.trans (bL.mono B34.size))
                have h12 := unhide HB12_34
                obtain ⟨vs, hvs⟩ : ∃ vs, vs = [Value.slice avi II.length cvi, Value.slice avk KK.length cvk, Value.slice avo A.length cvo, Value.slice avn NN.length cvn] := ⟨_, rfl⟩
                obtain ⟨ns, hns⟩ : ∃ ns, ns = [II.length, KK.length, A.length, NN.length] := ⟨_, rfl⟩
                have HL0 : Hid (LsJ w12.heap.size (w34.alloc (.cells #[.slice avi II.length cvi, .slice avk KK.length cvk, .slice avo A.length cvo, .slice avn NN.length cvn] 24)) (w34.alloc (.cells #[.slice avi II.length cvi, .slice avk KK.length cvk, .slice avo A.length cvo, .slice avn NN.length cvn] 24)) w34.heap.size vs ns (fun j _ => j < 0)) := by
                  subst hvs hns
                  refine hide ⟨⟨rfl, .inr ⟨w34.heap.size, 4, _, rfl, h12, kL, Nat.le_refl _, by decide, rfl, rfl⟩⟩, rfl, fun j hj => ?_, ?_, Below.refl _ _⟩
                  · match j with
                    | 0 => exact ⟨_, o1, fun _ _ h => absurd h (Nat.lt_irrefl 0)⟩
                    | 1 => exact ⟨_, o2, fun _ _ h => absurd h (by omega)⟩
                    | 2 => exact ⟨_, o3, fun _ _ h => absurd h (by omega)⟩
                    | 3 => exact ⟨_, o4, fun _ _ h => absurd h (by omega)⟩
                    | j + 4 => omega
                  · simp only [List.pairwise_cons, List.mem_cons, List.not_mem_nil, or_false]
                    refine ⟨?_, ?_, ?_, ?_, List.Pairwise.nil⟩
                    · rintro u (rfl | rfl | rfl)
                      · exact n1
                      · exact n2
                      · exact n3
                    · rintro u (rfl | rfl)
                      · exact n4
                      · exact n5
                    · rintro u rfl
                      exact n6.symm
                    · exact fun u h => by cases h
                have hnb : ∀ k, k < 4 → ns.getD k 0 ≤ 1099511627000 := fun k hk => by
                  subst hns
                  have h1 := unhide HI9
                  have h2 := unhide HK8
                  have h3 := unhide HA8
                  have h4 := unhide HN8
                  match k with
                  | 0 => exact h1
                  | 1 => exact Nat.le_trans h2 (by decide)
                  | 2 => exact Nat.le_trans h3 (by decide)
                  | 3 => exact h4
                  | k + 4 => omega
                have HNS := hide hnb
                have HLW := hide (Nat.le_trans h12 bL.size)
                clear kL bL o1 o2 o3 o4 n1 n2 n3 n4 n5 n6 B34 hvs hns hnb h12 HPi_34 HPk_34 HPo_34 HPn_34 HPg_34 HQi_34 HQk_34 HQo_34 HQn_34 HNB HB12_34
                generalize w34.alloc (.cells #[.slice avi II.length cvi, .slice avk KK.length cvk, .slice avo A.length cvo, .slice avn NN.length cvn] 24) = w35 at *
                generalize w34.heap.size = gl at *
                generalize w12.heap.size = BB at *
                go_wp2_with fail
                go_loopw [37, 38, 260] (fun v37 v38 v260 wx => ((∃ z, v37 = z) ∧ (∃ z, v38 = z)) ∧ ∃ k : Nat, v260 = .int .i64 (k : Int) ∧ k ≤ 4 ∧ Hid (LsJ BB w35 wx gl vs ns (fun j _ => j < k))) (fun _ _ v260 _ => 4 - (intOf v260).toNat)
                case atStart => exact ⟨⟨⟨_, rfl⟩, ⟨_, rfl⟩⟩, 0, rfl, by decide, hide ((unhide HL0).mark fun _ _ _ h => h)⟩
                case round =>
                  obtain ⟨⟨⟨z1, rfl⟩, ⟨z2, rfl⟩⟩, k, rfl, hk, HT⟩ := hrel
                  by_cases hlk : k < 4
                  · have p1 : decide ((k : Int) < 4) = true := decide_eq_true (by omega)
                    have p2 : (k : Int) < 4 := by omega
                    have hneg : wrap64 (-1 - (k : Int)) = -1 - (k : Int) := wrapD _ (by omega) (by omega)
                    have HNG := hide hneg
                    obtain ⟨al, cl, el, hcl, hgl⟩ := (unhide HT).cell hlk
                    have hml := unhide HNS k hlk
                    have HEL := hide (And.intro el hgl)
                    obtain ⟨m, hm⟩ : ∃ m, m = ns.getD k 0 := ⟨_, rfl⟩
                    have HM := hide hm
                    rw [← hm] at hcl hml
                    clear el hgl hm hneg
                    go_wp2_with fail
                    go_loopw [38, 268] (fun v38 v268 wx => (∃ z, v38 = z) ∧ ∃ i : Nat, v268 = .int .i64 (i : Int) ∧ i ≤ m ∧ Hid (LsJ BB w35 wx gl vs ns (fun j q => j < k ∨ (j = k ∧ q < i)))) (fun _ v268 _ => m - (intOf v268).toNat)
                    case atStart => exact ⟨⟨_, rfl⟩, 0, rfl, Nat.zero_le _, hide ((unhide HT).mark fun j q _ h => h.elim id fun h => absurd h.2 (Nat.not_lt_zero _))⟩
                    case round =>
                      clear hcl
                      obtain ⟨⟨z3, rfl⟩, i, rfl, hi, HT2⟩ := hrel
                      by_cases hli : i < m
                      · have p3 : decide ((i : Int) < (m : Int)) = true := decide_eq_true (by omega)
                        have hm0 : 0 < ns.getD k 0 := by rw [← unhide HM]; omega
                        have hik : i < ns.getD k 0 := by rw [← unhide HM]; exact hli
                        obtain ⟨g, hg⟩ := (unhide HEL).2 hm0
                        subst hg
                        obtain ⟨a9, c9, e9, hc9, _⟩ := (unhide HT2).cell hlk
                        rw [(unhide HEL).1] at e9
                        injection e9 with e91 e92 e93
                        subst e91 e93
                        rw [← unhide HM] at hc9
                        obtain ⟨xs, hx, _⟩ := (unhide HT2).r k hlk
                        rw [(unhide HEL).1] at hx
                        obtain ⟨⟨⟨ob0, so0⟩, sf0, ⟨ob1, so1⟩, sf1, ⟨ob2, so2⟩, sf2⟩, _⟩ := row_steps3 hx hik (.int .i64 0) (.int .i64 (-1 - (k : Int))) (.string ⟨#[]⟩)
                        have HTn := hide ((unhide HT2).set hlk (unhide HEL).1 hik (fun j q => j < k ∨ (j = k ∧ q < i + 1)) (fun j q h => by
                          rcases h with h | ⟨h1, h2⟩
                          · exact .inl (.inl h)
                          · by_cases hq : q = i
                            · exact .inr ⟨h1, hq⟩
                            · exact .inl (.inr ⟨h1, by omega⟩)) (.int .i64 0) (.string ⟨#[]⟩))
                        have hib : (i : Int) < (m : Int) := by omega
                        have hneg := unhide HNG
                        clear HT2 hx hm0 hik e92
                        go_wp2_with fail
                        go_roundw
                        case rel => exact ⟨⟨_, rfl⟩, i + 1, by go_num, hli, hide (unhide HTn)⟩
                        case measure => simp [intOf]; omega
                      · have hkk : m = i := by omega
                        subst hkk
                        have p3 : decide ((m : Int) < (m : Int)) = false := decide_eq_false (by omega)
                        have HTm := hide ((unhide HT2).mark (M' := fun j q => j < k + 1) fun j q hq h => by
                          by_cases hj : j < k
                          · exact .inl hj
                          · have hjk : j = k := by omega
                            subst hjk
                            exact .inr ⟨rfl, by rw [unhide HM]; exact hq⟩)
                        clear HT2 hli hi
                        go_wp2_with fail
                        go_roundw
                        case rel => exact ⟨⟨⟨_, rfl⟩, ⟨_, rfl⟩⟩, k + 1, by go_num, hlk, hide (unhide HTm)⟩
                        case measure => simp [intOf]; omega
                  · obtain rfl : k = 4 := by omega
                    have p1 : decide (((4 : Nat) : Int) < 4) = false := by decide
                    have HL1 := HT
                    clear hlk hk HT HL0
                    go_wp2_with fail
                    try rw [show ((4 : Nat) : Int) = 4 from rfl]
                    go_loopw [39, 40, 41, 284] (fun v39 v40 v41 v284 wx => ((∃ z, v39 = z) ∧ (∃ z, v40 = z) ∧ (∃ z, v41 = z)) ∧ ∃ k : Nat, v284 = .int .i64 (k : Int) ∧ k ≤ 4 ∧ Hid (BB ≤ wx.heap.size) ∧ Hid (LsJ BB w35 wx gl vs ns (fun j _ => j < 4))) (fun _ _ _ v284 _ => 4 - (intOf v284).toNat)
                    case atStart => exact ⟨⟨⟨_, rfl⟩, ⟨_, rfl⟩, ⟨_, rfl⟩⟩, 0, rfl, by decide, hide (Nat.le_trans (unhide HLW) (unhide HL1).d.size), hide (unhide HL1)⟩
                    case round =>
                      clear HL1
                      obtain ⟨⟨⟨z1, rfl⟩, ⟨z2, rfl⟩, ⟨z3, rfl⟩⟩, k, rfl, hk, HBx, HT⟩ := hrel
                      by_cases hlk : k < 4
                      · have p1 : decide ((k : Int) < 4) = true := decide_eq_true (by omega)
                        have p2 : (k : Int) < 4 := by omega
                        obtain ⟨al, cl, el, hcl, _⟩ := (unhide HT).cell hlk
                        have hml := unhide HNS k hlk
                        have hlk0 := lk_all (unhide HT).p (unhide HT).selfs (k := k) (by rw [(unhide HT).len]; exact hlk)
                        obtain ⟨xs0, hx0, _⟩ := (unhide HT).r k hlk
                        have HEL := hide el
                        have hx1 : ∃ ys, World.ownsRow _ BB 34 3 (vs.getD k undef) (ns.getD k 0) ys := ⟨_, hx0⟩
                        have hg0 := hide (And.intro (unhide HT) (And.intro hlk0 (And.intro hx1 (unhide HBx))))
                        rw [el] at hg0
                        obtain ⟨m, hm⟩ : ∃ m, m = ns.getD k 0 := ⟨_, rfl⟩
                        have HM := hide hm
                        rw [← hm] at hcl hml hg0
                        have HG5 := hg0
                        clear el hm hlk0 hx0 hx1 hg0 HT HBx
                        go_wp2_with fail
                        go_loopw [40, 41] (fun v40 v41 wx => ∃ i : Nat, v41 = .int .i64 (i : Int) ∧ i ≤ 20 ∧ Hid (LsJ BB w35 wx gl vs ns (fun j _ => j < 4) ∧ (∀ u ∈ vs, LkO u v40) ∧ (∃ ys, World.ownsRow wx BB 34 3 v40 (m + i) ys) ∧ BB ≤ wx.heap.size)) (fun _ v41 _ => 20 - (intOf v41).toNat)
                        case atStart => exact ⟨0, rfl, by decide, hide (unhide HG5)⟩
                        case round =>
                          clear HG5 hcl
                          obtain ⟨i, rfl, hi, HT2⟩ := hrel
                          by_cases hli : i < 20
                          · have p3 : decide ((i : Int) < 20) = true := decide_eq_true (by omega)
                            obtain ⟨t1, t2, ⟨ys, t3⟩, t4⟩ := unhide HT2
                            obtain ⟨vx', W1, r1, h1, h2, h3, h4⟩ := t1.push t2 t3 (by omega) t4 0 100 ⟨#[]⟩
                            have R1 := hide r1
                            have HTn : Hid (LsJ BB w35 W1 gl vs ns (fun j _ => j < 4) ∧ (∀ u ∈ vs, LkO u vx') ∧ (∃ ys, World.ownsRow W1 BB 34 3 vx' (m + (i + 1)) ys) ∧ BB ≤ W1.heap.size) := hide ⟨h1, h2, h3, h4⟩
                            clear HT2 t1 t2 t3 t4 r1 h1 h2 h3 h4
                            go_wp2_with (at_builtin; refine wpList_append_known rfl _ _ 24 24 rfl _ _ rfl rfl _ _ (unhide R1) ?_; clear R1)
                            go_roundw
                            case rel => exact ⟨i + 1, by go_num, hli, hide (unhide HTn)⟩
                            case measure => simp [intOf]; omega
                          · obtain rfl : i = 20 := by omega
                            have p3 : decide (((20 : Nat) : Int) < 20) = false := by decide
                            obtain ⟨t1, t2, ⟨ys, t3⟩, t4⟩ := unhide HT2
                            obtain ⟨a8, c8, e8, _⟩ := rowD_form t3
                            subst e8
                            obtain ⟨a9, c9, e9, hc9, _⟩ := t1.cell hlk
                            rw [unhide HEL] at e9
                            injection e9 with e91 e92 e93
                            subst e91 e93
                            rw [← unhide HM] at hc9
                            have hb4 := hide t4
                            have ht1 := hide t1
                            have h20 : wrap64 ((m : Int) + 20) = ((m + 20 : Nat) : Int) := by rw [wrapD _ (by omega) (by omega)]; omega
                            clear HT2 hli hi t1 t2 t3 t4 e92
                            go_wp2_with fail
                            go_roundw
                            case rel => exact ⟨⟨⟨_, rfl⟩, ⟨_, rfl⟩, ⟨_, rfl⟩⟩, k + 1, by go_num, hlk, hide (unhide hb4), hide (unhide ht1)⟩
                            case measure => simp [intOf]; omega
                      · obtain rfl : k = 4 := by omega
                        have p1 : decide (((4 : Nat) : Int) < 4) = false := by decide
                        have HL2 := HT
                        clear hlk hk HT HBx
                        go_wp2_with fail
                        go_loopw [42, 43, 311] (fun v42 v43 v311 wx => ((∃ z, v42 = z) ∧ (∃ z, v43 = z)) ∧ ∃ k : Nat, v311 = .int .i64 (k : Int) ∧ k ≤ 4 ∧ Hid (LsJ BB w35 wx gl vs ns (fun j _ => j < 4))) (fun _ _ v311 _ => 4 - (intOf v311).toNat)
                        case atStart => exact ⟨⟨⟨_, rfl⟩, ⟨_, rfl⟩⟩, 0, rfl, by decide, hide (unhide HL2)⟩
                        case round =>
                          clear HL2
                          obtain ⟨⟨⟨z4, rfl⟩, ⟨z5, rfl⟩⟩, k, rfl, hk, HT⟩ := hrel
                          by_cases hlk : k < 4
                          · have p1 : decide ((k : Int) < 4) = true := decide_eq_true (by omega)
                            have p2 : (k : Int) < 4 := by omega
                            have hneg : wrap64 (-1 - (k : Int)) = -1 - (k : Int) := wrapD _ (by omega) (by omega)
                            have HNG := hide hneg
                            obtain ⟨al, cl, el, hcl, hgl⟩ := (unhide HT).cell hlk
                            have hml := unhide HNS k hlk
                            have HEL := hide (And.intro el hgl)
                            obtain ⟨m, hm⟩ : ∃ m, m = ns.getD k 0 := ⟨_, rfl⟩
                            have HM := hide hm
                            rw [← hm] at hcl hml
                            clear el hgl hm hneg
                            go_wp2_with fail
                            go_loopw [43, 319] (fun v43 v319 wx => (∃ z, v43 = z) ∧ ∃ i : Nat, v319 = .int .i64 (i : Int) ∧ i ≤ m ∧ Hid (LsJ BB w35 wx gl vs ns (fun j _ => j < 4))) (fun _ v319 _ => m - (intOf v319).toNat)
                            case atStart => exact ⟨⟨_, rfl⟩, 0, rfl, Nat.zero_le _, hide (unhide HT)⟩
                            case round =>
                              clear hcl HT
                              obtain ⟨⟨z6, rfl⟩, i, rfl, hi, HT2⟩ := hrel
                              by_cases hli : i < m
                              · have p3 : decide ((i : Int) < (m : Int)) = true := decide_eq_true (by omega)
                                have hm0 : 0 < ns.getD k 0 := by rw [← unhide HM]; omega
                                have hik : i < ns.getD k 0 := by rw [← unhide HM]; exact hli
                                obtain ⟨g, hg⟩ := (unhide HEL).2 hm0
                                subst hg
                                obtain ⟨a9, c9, e9, hc9, _⟩ := (unhide HT2).cell hlk
                                rw [(unhide HEL).1] at e9
                                injection e9 with e91 e92 e93
                                subst e91 e93
                                rw [← unhide HM] at hc9
                                obtain ⟨xs, hx, hmk⟩ := (unhide HT2).r k hlk
                                rw [(unhide HEL).1] at hx
                                have hcn := (rwk_cell hx (i * 3 + 1) (by have := hx.1; omega)).1
                                have hcv : xs[i * 3 + 1]? = some (.int .i64 (-1 - (k : Int))) := hmk i hik hlk
                                have hcx := hcn.symm.trans (hcn.trans hcn.symm)
                                have hce := hcn.trans hcv
                                have hib : (i : Int) < (m : Int) := by omega
                                have hneg := unhide HNG
                                have HTn := HT2
                                clear HT2 hx hm0 hik e92 hcn hcv hcx hmk
                                go_wp2_with fail
                                go_roundw
                                case rel => exact ⟨⟨_, rfl⟩, i + 1, by go_num, hli, hide (unhide HTn)⟩
                                case measure => simp [intOf]; omega
                              · have hkk : m = i := by omega
                                subst hkk
                                have p3 : decide ((m : Int) < (m : Int)) = false := decide_eq_false (by omega)
                                have HTm := HT2
                                clear HT2 hli hi
                                go_wp2_with fail
                                go_roundw
                                case rel => exact ⟨⟨⟨_, rfl⟩, ⟨_, rfl⟩⟩, k + 1, by go_num, hlk, hide (unhide HTm)⟩
                                case measure => simp [intOf]; omega
                          · obtain rfl : k = 4 := by omega
                            have p1 : decide (((4 : Nat) : Int) < 4) = false := by decide
                            have d1 := (unhide HT).d
                            have b1 := unhide HS12
                            have b2 := unhide HS5
                            have BZ := (unhide HB35).trans (d1.mono b1)
                            have HXZ := hide ((unhide HX5).trans (BZ.mono b2))
                            have HCC5 := hide ((unhide HCf).below BZ (Nat.le_refl _))
                            have HC41 := hide (unhide HF2 _ (unhide HXZ))
                            clear hlk hk HT d1 b1 b2 BZ
                            go_wp2_with fail
                            refine (unhide HC41).mono ?_
                            rintro yy w41 ⟨a41, c41, rfl, i41, l41, x41⟩
                            dsimp only
                            have HX41 := hide ((unhide HXZ).trans (x41.mono (unhide HXZ).size))
                            have HC42 := hide (same13_at aC cC C a41 c41 C w41 ((unhide HCC5).below x41 (Nat.le_refl _)) i41 (unhide HCC).1 (unhide HCC).1 (unhide HCC).2 (unhide HCC).2)
                            rw [decide_eq_true (rfl : C = C)] at HC42
                            clear HC41 HXZ HCC5 x41 i41
                            go_wp2_with fail
                            refine (unhide HC42).mono ?_
                            rintro yy w42 ⟨rfl, x42⟩
                            dsimp only
                            have HX42 := hide ((unhide HX41).trans (x42.mono (unhide HX41).size))
                            clear HC42 HX41 x42
                            go_wp2_with fail
                            refine bodyPost_ret (results_tmp rfl _ _ _) rfl ⟨rfl, unhide HX42⟩
end Go.Proofs.Ytdemagijhmbdcaa
