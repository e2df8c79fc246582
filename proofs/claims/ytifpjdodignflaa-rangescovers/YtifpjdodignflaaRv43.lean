/- Layer 16: RangesCovers' walk. -/
import Derived.Test.YtifpjdodignflaaRv42
import Derived.Test.YtifpjdodignflaaRv09

namespace Go.Proofs.Ytifpjdodignflaa
open Go.ChangeShapes Go.WideShapes Go.ChangeAt Go.RowKit
attribute [local go_sem] Oper.semAt_some

/-- what the first loop keeps -/
structure CoI (w wx : World) (n : Int) (g : Nat) (L : List Rg) : Prop where
  m : IsRs wx g n L
  v : InR n L
  u : Unl L
  l : L.length ≤ 1024
  b : Below w.heap.size w wx
theorem CoI.on {w wx wy : World} {n : Int} {g : Nat} {L : List Rg} (h : CoI w wx n g L) (hb : Below wx.heap.size wx wy) : CoI w wy n g L := ⟨h.m.below hb (Nat.le_refl _), h.v, h.u, h.l, h.b.trans (hb.mono h.b.size)⟩
/-- a list of pieces that lies there -/
def IsHt (W : World) (a : Option Addr) (d : List (Int × Int)) : Prop := d = [] ∨ ∃ g off, a = some ⟨g, off, none⟩ ∧ g < W.heap.size ∧ ∀ k, k < d.length →
  W.cell? ⟨g, off + k * 2, none⟩ = some (.int .i64 (d.getD k (0, 0)).1) ∧ W.cell? ⟨g, off + k * 2 + 1, none⟩ = some (.int .i64 (d.getD k (0, 0)).2)
theorem IsHt.below {W W' : World} {B : Nat} {a : Option Addr} {d : List (Int × Int)} (h : IsHt W a d) (hb : Below B W W') (hB : W.heap.size ≤ B) : IsHt W' a d := by
  rcases h with h | ⟨g, off, rfl, hg, hc⟩
  · exact Or.inl h
  · refine Or.inr ⟨g, off, rfl, Nat.lt_of_lt_of_le hg hb.size, fun k hk => ?_⟩
    obtain ⟨c0, c1⟩ := hc k hk
    exact ⟨(hb.cell (p := ⟨g, off + k * 2, none⟩) (by show g < B; omega)).trans c0, (hb.cell (p := ⟨g, off + k * 2 + 1, none⟩) (by show g < B; omega)).trans c1⟩
theorem IsHt.two {W : World} {a : Option Addr} {d : List (Int × Int)} (h : IsHt W a d) {k : Nat} (hk : k < d.length) : ∃ g off, a = some ⟨g, off, none⟩ ∧ g < W.heap.size ∧
    W.cell? ⟨g, off + k * 2, none⟩ = some (.int .i64 (d.getD k (0, 0)).1) ∧ W.cell? ⟨g, off + k * 2 + 1, none⟩ = some (.int .i64 (d.getD k (0, 0)).2) := by
  rcases h with h | ⟨g, off, rfl, hg, hc⟩
  · rw [h] at hk; simp at hk
  · exact ⟨g, off, rfl, hg, hc k hk⟩
theorem own_isHt {W : World} {B c : Nat} {a : Option Addr} {d : List (Int × Int)} (h : W.ownsRow B 59 2 (.slice a d.length c) d.length (hitsV d)) : IsHt W a d := by
  have hh := h
  rcases h.2 with ⟨e, h0⟩ | ⟨g, cap, cur, e, hB, hg, hc, hm, hs, ht⟩
  · exact Or.inl (List.length_eq_zero_iff.1 h0)
  · injection e with e1 e2 e3
    subst e1
    refine Or.inr ⟨g, 0, rfl, (Array.getElem?_eq_some_iff.1 hg).1, fun k hk => ?_⟩
    have f : ∀ j, j < 2 → W.cell? ⟨g, 0 + (k * 2 + j), none⟩ = (htL (d.getD k (0, 0)))[j]? := fun j hj => by
      have e := hitsV_get d k j hk hj
      obtain ⟨u, hu⟩ : ∃ u, (htL (d.getD k (0, 0)))[j]? = some u := ⟨_, List.getElem?_eq_getElem (by simpa [htL] using hj)⟩
      rw [hu] at e ⊢
      have := World.ownsRow.cells hh rfl (k * 2 + j) u e
      rwa [Addr.add_lit] at this
    exact ⟨f 0 (by decide), f 1 (by decide)⟩
/-- what the loops over the pieces keep: pieces ahead of k end at p or ahead of it -/
structure CoJ (w wx : World) (n : Int) (g : Nat) (L : List Rg) (a : Option Addr) (C : List (Int × Int)) (k p : Nat) : Prop where
  i : CoI w wx n g L
  h : IsHt wx a C
  b : ∀ j, j < k → j < C.length → (C.getD j (0, 0)).2 ≤ (p : Int)
theorem CoJ.on {w wx wy : World} {n : Int} {g : Nat} {L : List Rg} {a : Option Addr} {C : List (Int × Int)} {k p : Nat} (h : CoJ w wx n g L a C k p) (hb : Below wx.heap.size wx wy) : CoJ w wy n g L a C k p := ⟨h.i.on hb, h.h.below hb (Nat.le_refl _), h.b⟩
theorem wrap_succ {k : Nat} (h : k ≤ 1073741824) : IntKind.i64.wrap ((k : Int) + 1) = (k : Int) + 1 := by
  rw [IntKind.wrap_i64]; omega
set_option maxRecDepth 100000 in
set_option maxHeartbeats 8000000 in
theorem RangesCovers_any (n : Int) (A : Option Addr) (cp : Nat) (l : List Oc) (w : World) (_hn : (Lit.int .i64 n).wf = true) (hA : IsOc w A l) (hl : l.length ≤ 4398046511104) :
    Calls Try.prog 6 #[.int .i64 n, .slice A l.length cp] w fun y w' => y = .returned (.bool true) ∧ Below w.heap.size w w' := by
  have HAw := hide (awake16_at w)
  by_cases hr : 1 ≤ n ∧ n ≤ 400
  case neg =>
    have ht : (decide (n < 1) = true) ∨ (decide (n < 1) = false ∧ decide (n > 400) = true ∧ decide (400 < n) = true) := by
      by_cases h1 : n < 1
      · exact .inl (decide_eq_true h1)
      · exact .inr ⟨decide_eq_false h1, decide_eq_true (by omega), decide_eq_true (by omega)⟩
    clear hr hA hl _hn
    generalize l.length = N at *
    rcases ht with t1 | ⟨t1, t2, t2'⟩
    all_goals
      go_enter Try.func6, Try.ntmps6
      go_wp2_with fail
      refine (unhide HAw).mono ?_
      rintro y w1 ⟨rfl, x1⟩
      dsimp only
      have HX1 := hide x1
      clear HAw x1
      go_wp2_with fail
      refine bodyPost_ret (results_tmp rfl _ _ _) rfl ⟨rfl, unhide HX1⟩
  have t1 : decide (n < 1) = false := decide_eq_false (by omega)
  have t2 : decide (n > 400) = false := decide_eq_false (by omega)
  have t2' : decide (400 < n) = false := decide_eq_false (by omega)
  obtain ⟨n0, rfl⟩ : ∃ k : Nat, n = k := ⟨n.toNat, by omega⟩
  have HNw := hide fun (Y : World) => GNew_at (n0 : Int) Y (by omega)
  have HSt := hide fun (Y : World) (g : Nat) (L : List Rg) (x : Rg) (h : IsRs Y g n0 L) (hr : refG n0 L x = 0) => GSet_at g n0 L x Y h hr
  have HSe := hide fun (Y : World) (g : Nat) (L : List Rg) (x : Rg) (h : IsRs Y g n0 L) (hr : refG n0 L x ≠ 0) => GSetE_at g n0 L x Y h hr
  have HAB := hide hA
  have hr0 : 0 < n0 ∧ n0 ≤ 400 := by omega
  obtain ⟨N, hN⟩ : ∃ N, N = l.length := ⟨_, rfl⟩
  have HN := hide hN
  rw [← hN] at hl ⊢
  have HR0 := hide hr0
  clear hr hA _hn hN hr0
  go_enter Try.func6, Try.ntmps6
  go_wp2_with fail
  refine (unhide HAw).mono ?_
  rintro y w1 ⟨rfl, x1⟩
  dsimp only
  have HX1 := hide x1
  have HC2 := hide (unhide HNw w1)
  clear HAw HNw x1
  go_wp2_with fail
  refine (unhide HC2).mono ?_
  rintro y w2 ⟨g2, rfl, _, s2, x2⟩
  dsimp only
  have HI0 : Hid (CoI w w2 n0 g2 []) := hide ⟨s2, by simp [InR], List.nodup_nil, by simp, (unhide HX1).trans (x2.mono (unhide HX1).size)⟩
  clear HC2 HX1 s2 x2 t1 t2 t2'
  go_wp2_with fail
  go_loopw [5, 7, 8, 9] (fun v5 v7 v8 v9 wx => ((∃ z, v8 = z) ∧ (∃ z, v9 = z)) ∧ ∃ (i g : Nat) (L : List Rg), v7 = .int .i64 (i : Int) ∧ v5 = .pointer (some ⟨g, 0, none⟩) ∧ i ≤ N ∧ Hid (CoI w wx n0 g L)) (fun _ v7 _ _ _ => N - (intOf v7).toNat)
  case atStart => exact ⟨⟨⟨_, rfl⟩, ⟨_, rfl⟩⟩, 0, g2, [], rfl, rfl, Nat.zero_le _, HI0⟩
  case round =>
    clear HI0
    obtain ⟨⟨⟨z1, rfl⟩, ⟨z2, rfl⟩⟩, i, g, L, rfl, rfl, hi, HI⟩ := hrel
    by_cases hlt : i < N
    · have t1 : decide ((i : Int) < (N : Int)) = true := decide_eq_true (by omega)
      have hlt' : i < l.length := by rw [← unhide HN]; exact hlt
      obtain ⟨_, eg, eo, ha, heg, hcl⟩ := (unhide HAB).at hlt' (unhide HI).b
      have c1 := hcl 1 (by decide)
      have c2 := hcl 2 (by decide)
      have c3 := hcl 3 (by decide)
      have c4 := hcl 4 (by decide)
      have c5 := hcl 5 (by decide)
      subst ha
      unfold ocL at c1 c2 c3 c4 c5
      generalize l.getD i ocZ = y at *
      obtain ⟨yk, ⟨xn, xl, xh, xs, xe⟩, ya, yc, yd⟩ := y
      simp only [List.getElem?_cons_zero, List.getElem?_cons_succ] at c1 c2 c3 c4 c5
      by_cases hrf : refG n0 L ⟨xn, xl, xh, xs, xe⟩ = 0
      · have HC := hide (unhide HSt wr g L ⟨xn, xl, xh, xs, xe⟩ (unhide HI).m hrf)
        have HRF := hide hrf
        unfold rgV at HC
        dsimp only at HC
        clear hcl hlt' heg hrf
        go_wp2_with fail
        refine (unhide HC).mono ?_
        rintro y wB ⟨g', rfl, sB, xB⟩
        dsimp only
        have HIB : Hid (CoI w wB n0 g' (putG ⟨xn, xl, xh, xs, xe⟩ L)) := hide ⟨sB, (unhide HI).v.put (unhide HRF), unl_put (unhide HI).u _, put_many (unhide HI).l (unhide HRF), (unhide HI).b.trans (xB.mono (unhide HI).b.size)⟩
        clear HC HI sB xB c1 c2 c3 c4 c5 HRF
        go_wp2_with fail
        go_roundw
        case rel => exact ⟨⟨⟨_, rfl⟩, ⟨_, rfl⟩⟩, i + 1, g', _, by go_num, rfl, hlt, HIB⟩
        case measure => simp [intOf]; omega
      · have HC := hide (unhide HSe wr g L ⟨xn, xl, xh, xs, xe⟩ (unhide HI).m hrf)
        have t9 : (refG n0 L ⟨xn, xl, xh, xs, xe⟩ == 0) = false := by simpa using hrf
        unfold rgV at HC
        dsimp only at HC
        clear hcl hlt' heg hrf
        generalize refG n0 L ⟨xn, xl, xh, xs, xe⟩ = ef at *
        go_wp2_with fail
        refine (unhide HC).mono ?_
        rintro y wB ⟨rfl, xB⟩
        dsimp only
        have HIB : Hid (CoI w wB n0 g L) := hide ((unhide HI).on xB)
        clear HC HI xB c1 c2 c3 c4 c5
        go_wp2_with fail
        go_roundw
        case rel => exact ⟨⟨⟨_, rfl⟩, ⟨_, rfl⟩⟩, i + 1, g, _, by go_num, rfl, hlt, HIB⟩
        case measure => simp [intOf]; omega
    · obtain rfl : i = N := by omega
      have t1 : decide ((i : Int) < (i : Int)) = false := decide_eq_false (by omega)
      clear HSt HSe HAB HN hl
      obtain ⟨hn0, hn4⟩ := unhide HR0
      obtain ⟨hv, hf, hto, _⟩ := stR_all hn0 (show n0 ≤ 268435456 by omega)
      have b1 := (Below.refl wr.heap.size wr).alloc (Nat.le_refl _) (.cells #[.int .i64 1, .int .i64 (n0 : Int), .string ⟨#[]⟩] 54)
      have hI1 := (unhide HI).on b1
      have HC := hide (GBeh_at g n0 L (some ⟨wr.heap.size, 0, none⟩) 1 (stR n0) _ hI1.m (lit_isOR wr (stR n0) _ rfl) (by simp [stR]) hv (by rw [hf]) hI1.u hI1.l)
      rw [show (stR (n0 : Int)).length = 1 from rfl, hto] at HC
      have HI1 := hide hI1
      clear HI hv hf hto b1 hI1
      go_wp2_with fail
      refine (unhide HC).mono ?_
      rintro y v1 ⟨g1, S, ag, cg, rfl, hp, m1, x1⟩
      dsimp only
      have hvS : InR n0 S := fun x hx => (unhide HI1).v x (hp.mem_iff.1 hx)
      obtain ⟨hk, hgo⟩ := stR_kp hn0 (show n0 ≤ 268435456 by omega) hvS
      rw [hk] at m1
      rw [hgo]
      have HI2 := hide ((unhide HI1).on x1)
      have HP := hide (And.intro hp (And.intro (hvS.all (Int.natCast_nonneg n0)) ((unhide HI1).v.all (Int.natCast_nonneg n0))))
      have hSl : S.length ≤ 1048576 := by have := hp.length_eq; have := (unhide HI1).l; omega
      have HL1 := hide (GList_at g1 n0 S v1 m1 hSl)
      clear HC HI1 hk hgo hvS x1 hp m1 hSl
      go_wp2_with fail
      refine (unhide HL1).mono ?_
      rintro y v2 ⟨a1, c1, E1, rfl, p1, q1, o1, x2⟩
      dsimp only
      have HI3 := hide ((unhide HI2).on x2)
      have HL2 := hide (GList_at g n0 L v2 (unhide HI3).m (Nat.le_trans (unhide HI3).l (by decide)))
      have HO1 := hide o1
      have HE1 := hide (And.intro p1 q1)
      clear HL1 HI2 p1 q1 o1 x2
      go_wp2_with fail
      refine (unhide HL2).mono ?_
      rintro y v3 ⟨a2, c2, E2, rfl, p2, q2, o2, x3⟩
      dsimp only
      have hee : E1 = E2 := by
        have h1 := (unhide HE1).1
        rw [(unhide HP).2.1] at h1
        rw [(unhide HP).2.2] at p2
        exact two_one (unhide HI3).u (unhide HP).1 h1 (unhide HE1).2 p2 q2
      subst hee
      have HI4 := hide ((unhide HI3).on x3)
      have hl1 : E1.length ≤ 1048576 := by
        have h1 := p2.length_eq
        rw [(unhide HP).2.2] at h1
        have := (unhide HI3).l
        omega
      obtain ⟨_, _, e1, i1, _⟩ := own_isRl (rowD_below (unhide HO1) x3 (Nat.le_refl _))
      injection e1 with e11 e12 e13
      subst e11
      obtain ⟨_, _, e2, i2, _⟩ := own_isRl o2
      injection e2 with e21 e22 e23
      subst e21
      have HSm := hide (RSameR_at a1 c1 a2 c2 E1 v3 i1 i2 hl1)
      clear HL2 HI3 HO1 HE1 HP p2 q2 o2 x3 i1 i2 hl1 e12 e13 e22 e23
      go_wp2_with fail
      refine (unhide HSm).mono ?_
      rintro y v4 ⟨rfl, x4⟩
      dsimp only
      have HI5 := hide ((unhide HI4).on x4)
      clear HSm HI4 x4
      have HCv := hide (GCov_at g n0 L v4 (unhide HI5).m (Nat.le_trans (unhide HI5).l (by decide)))
      go_wp2_with fail
      refine (unhide HCv).mono ?_
      rintro y v5 ⟨a3, c3, E3, rfl, p3, q3, o3, x5⟩
      dsimp only
      have hI6 := (unhide HI5).on x5
      rw [hI6.v.all (Int.natCast_nonneg n0)] at p3
      obtain ⟨hpc, htl⟩ := cov_is hI6.v p3 q3
      have hml : (covL E3).length ≤ 1048576 := by
        have h1 := cov_len E3 []
        have h2 := p3.length_eq
        have h3 := hI6.l
        simp only [List.length_nil] at h1
        unfold covL
        omega
      have hih := own_isHt o3
      have HPC := hide (And.intro hpc htl)
      have HI6 := hide (And.intro hI6 hih)
      clear HCv HI5 p3 q3 o3 x5 hI6 hpc htl hih
      generalize covL E3 = C at *
      obtain ⟨M, hM⟩ : ∃ M, M = C.length := ⟨_, rfl⟩
      rw [← hM] at hml ⊢
      have HM := hide hM
      clear hM hi
      go_wp2_with fail
      have hml1 : M ≤ 1073741824 := Nat.le_trans hml (by decide)
      clear hml
      go_loopw [14, 15, 16] (fun v14 v15 v16 wx => (∃ z, v16 = z) ∧ ∃ (k q : Nat), v14 = .int .i64 (k : Int) ∧ v15 = .int .i64 (q : Int) ∧ k ≤ M ∧ q ≤ n0 ∧ Hid (CoJ w wx n0 g L a3 C k q)) (fun _ v15 _ _ => n0 - (intOf v15).toNat)
      case atStart => exact ⟨⟨_, rfl⟩, 0, 0, rfl, rfl, Nat.zero_le _, Nat.zero_le _, hide ⟨(unhide HI6).1, (unhide HI6).2, fun j hj => absurd hj (Nat.not_lt_zero j)⟩⟩
      case round =>
        clear HI6
        obtain ⟨⟨z1, rfl⟩, k, q, rfl, rfl, hk, hq, HJ⟩ := hrel
        by_cases hlt : q < n0
        · have t1 : decide ((q : Int) < (n0 : Int)) = true := decide_eq_true (by omega)
          go_upto_region 22 with fail
          go_loopw [14] (fun v14 wx => ∃ (k' : Nat), v14 = .int .i64 (k' : Int) ∧ k' ≤ M ∧ Hid (CoJ w wx n0 g L a3 C k' q)) (fun v14 _ => M - (intOf v14).toNat)
          case atStart => exact ⟨k, rfl, hk, HJ⟩
          case round =>
            clear HJ
            obtain ⟨k', rfl, hk', HJ⟩ := hrel
            by_cases hkM : k' < M
            · have s1 : decide ((k' : Int) < (M : Int)) = true := decide_eq_true (by omega)
              have s1' : (k' : Int) < (M : Int) := by omega
              have hkC : k' < C.length := by rw [← unhide HM]; exact hkM
              obtain ⟨hg, ho, ha, hgl, d0, d1⟩ := (unhide HJ).h.two hkC
              by_cases hpk : (C.getD k' (0, 0)).2 ≤ (q : Int)
              · have s2 : decide ((C.getD k' (0, 0)).2 ≤ (q : Int)) = true := decide_eq_true hpk
                have HJ2 : Hid (CoJ w wr n0 g L a3 C (k' + 1) q) := hide ⟨(unhide HJ).i, (unhide HJ).h, fun j hj hjl => by
                  rcases Nat.eq_or_lt_of_le (Nat.le_of_lt_succ hj) with e | hl
                  · rw [e]; exact hpk
                  · exact (unhide HJ).b j hl hjl⟩
                by_cases hk1 : k' + 1 < M
                · have hkC1 : k' + 1 < C.length := by rw [← unhide HM]; exact hk1
                  have s3 : decide ((k' : Int) + 1 < (M : Int)) = true := decide_eq_true (by omega)
                  have s3' : (k' : Int) + 1 < (M : Int) := by omega
                  have hnx := (unhide HPC).1.next hkC1
                  have s4 : decide ((C.getD (k' + 1) (0, 0)).1 ≤ (C.getD k' (0, 0)).2) = false := decide_eq_false (by omega)
                  obtain ⟨hg2, ho2, ha2, _, f0, f1⟩ := (unhide HJ).h.two hkC1
                  rw [ha] at ha2
                  cases ha2
                  subst ha
                  clear hnx hpk hkC hkC1 HJ f1
                  generalize C.getD k' (0, 0) = ck at *
                  generalize C.getD (k' + 1) (0, 0) = ck1 at *
                  obtain ⟨cl, ch⟩ := ck
                  obtain ⟨cl1, ch1⟩ := ck1
                  dsimp only at d0 d1 f0 s2 s4
                  have s5 := wrap_succ (k := k') (by omega)
                  go_upto_region 23 with fail
                  go_quiet (fail)
                  go_wp2_with fail
                  have s6 : k' + 1 ≤ M := hkM
                  have s7 : M - (k' + 1) < M - k' := by omega
                  refine ⟨⟨k' + 1, by go_num, s6, hide ((unhide HJ2).on (below_drewN (Below.refl _ _) _))⟩, ?_⟩
                  simp only [intOf]
                  rw [show ((k' : Int) + 1).toNat = k' + 1 from rfl]
                  exact s7
                · have s3 : decide ((k' : Int) + 1 < (M : Int)) = false := decide_eq_false (by omega)
                  subst ha
                  clear hpk hkC HJ
                  generalize C.getD k' (0, 0) = ck at *
                  obtain ⟨cl, ch⟩ := ck
                  dsimp only at d0 d1 s2
                  have s5 := wrap_succ (k := k') (by omega)
                  have s6 : k' + 1 ≤ M := hkM
                  have s7 : M - (k' + 1) < M - k' := by omega
                  go_upto_region 23 with fail
                  go_quiet (fail)
                  go_wp2_with fail
                  refine ⟨⟨k' + 1, by go_num, s6, hide ((unhide HJ2).on (below_drewN (Below.refl _ _) _))⟩, ?_⟩
                  simp only [intOf]
                  rw [show ((k' : Int) + 1).toNat = k' + 1 from rfl]
                  exact s7
              · have s2 : decide ((C.getD k' (0, 0)).2 ≤ (q : Int)) = false := decide_eq_false hpk
                have hte := (unhide HPC).1.tells (k := k') (p := (q : Int)) (unhide HJ).b (fun _ => by omega)
                rw [(unhide HPC).2 (q : Int)] at hte
                have HV := hide fun (Y : World) (hY : Below wr.heap.size wr Y) => GOver_at g n0 L (q : Int) ((q : Int) + 1) Y ((unhide HJ).i.m.below hY (Nat.le_refl _)) (Nat.le_trans (unhide HJ).i.l (by decide))
                have hw1 := wrap_succ (k := q) (by have := (unhide HR0).2; omega)
                subst ha
                clear hpk
                by_cases hin : (C.getD k' (0, 0)).1 ≤ (q : Int)
                · have s3 : decide ((C.getD k' (0, 0)).1 ≤ (q : Int)) = true := decide_eq_true hin
                  have hne := hte.2 ⟨hkC, hin⟩
                  have HNE := hide hne
                  clear hte hin hne hkC
                  generalize C.getD k' (0, 0) = ck at *
                  obtain ⟨cl, ch⟩ := ck
                  dsimp only at d0 d1 s2 s3
                  have HC := hide (unhide HV wr (Below.refl _ _))
                  clear HV
                  go_wp2_with fail
                  refine (unhide HC).mono ?_
                  rintro y v6 ⟨a6, c6, E6, rfl, p6, _, _, x6⟩
                  dsimp only
                  have z6 := p6.length_eq
                  have HJ3 : Hid (CoJ w v6 n0 g L (some ⟨hg, ho, none⟩) C k' (q + 1)) := hide ⟨(unhide HJ).i.on x6, (unhide HJ).h.below x6 (Nat.le_refl _), fun j hj hjl => by
                    have := (unhide HJ).b j hj hjl
                    omega⟩
                  have t6 : decide ((E6.length : Int) > 0) = true := decide_eq_true (by
                    have := List.length_pos_iff.2 (unhide HNE)
                    omega)
                  have t6' : decide ((0 : Int) < (E6.length : Int)) = true := t6
                  have t6n : decide (0 < E6.length) = true := decide_eq_true (List.length_pos_iff.2 (by rintro rfl; rw [List.length_nil] at z6; exact unhide HNE (List.length_eq_zero_iff.1 z6.symm)))
                  have t6m : 0 < E6.length := of_decide_eq_true t6n
                  generalize E6.length = e6 at *
                  have s8 : q + 1 ≤ n0 := hlt
                  have s9 : n0 - (q + 1) < n0 - q := by omega
                  clear HC HJ x6 p6 z6 HNE
                  go_wp2_with fail
                  refine ⟨⟨⟨_, rfl⟩, k', q + 1, rfl, by go_num, hk', s8, HJ3⟩, ?_⟩
                  simp only [intOf]
                  rw [show ((q : Int) + 1).toNat = q + 1 from rfl]
                  exact s9
                · have s3 : decide ((C.getD k' (0, 0)).1 ≤ (q : Int)) = false := decide_eq_false hin
                  have hno : L.filter (inG (q : Int) ((q : Int) + 1)) = [] := Classical.byContradiction fun hc => hin (hte.1 hc).2
                  have HNE := hide hno
                  clear hte hin hno hkC
                  generalize C.getD k' (0, 0) = ck at *
                  obtain ⟨cl, ch⟩ := ck
                  dsimp only at d0 d1 s2 s3
                  have HC := hide (unhide HV wr (Below.refl _ _))
                  clear HV
                  go_wp2_with fail
                  refine (unhide HC).mono ?_
                  rintro y v6 ⟨a6, c6, E6, rfl, p6, _, _, x6⟩
                  dsimp only
                  have z6 := p6.length_eq
                  have HJ3 : Hid (CoJ w v6 n0 g L (some ⟨hg, ho, none⟩) C k' (q + 1)) := hide ⟨(unhide HJ).i.on x6, (unhide HJ).h.below x6 (Nat.le_refl _), fun j hj hjl => by
                    have := (unhide HJ).b j hj hjl
                    omega⟩
                  have e0 : E6 = [] := by
                    rw [unhide HNE] at z6
                    exact List.length_eq_zero_iff.1 z6
                  subst e0
                  have s8 : q + 1 ≤ n0 := hlt
                  have s9 : n0 - (q + 1) < n0 - q := by omega
                  clear HC HJ x6 p6 z6 HNE
                  go_wp2_with fail
                  refine ⟨⟨⟨_, rfl⟩, k', q + 1, rfl, by go_num, hk', s8, HJ3⟩, ?_⟩
                  simp only [intOf]
                  rw [show ((q : Int) + 1).toNat = q + 1 from rfl]
                  exact s9
            · obtain rfl : k' = M := by omega
              have s1 : decide ((k' : Int) < (k' : Int)) = false := decide_eq_false (by omega)
              have hte := (unhide HPC).1.tells (k := k') (p := (q : Int)) (unhide HJ).b (fun h => absurd h (by rw [← unhide HM]; omega))
              rw [(unhide HPC).2 (q : Int)] at hte
              have hno : L.filter (inG (q : Int) ((q : Int) + 1)) = [] := Classical.byContradiction fun hc => absurd (hte.1 hc).1 (by rw [← unhide HM]; omega)
              have HNE := hide hno
              have HC := hide (GOver_at g n0 L (q : Int) ((q : Int) + 1) wr (unhide HJ).i.m (Nat.le_trans (unhide HJ).i.l (by decide)))
              have hw1 := wrap_succ (k := q) (by have := (unhide HR0).2; omega)
              clear hte hno
              go_wp2_with fail
              refine (unhide HC).mono ?_
              rintro y v6 ⟨a6, c6, E6, rfl, p6, _, _, x6⟩
              dsimp only
              have z6 := p6.length_eq
              have HJ3 : Hid (CoJ w v6 n0 g L a3 C k' (q + 1)) := hide ⟨(unhide HJ).i.on x6, (unhide HJ).h.below x6 (Nat.le_refl _), fun j hj hjl => by
                have := (unhide HJ).b j hj hjl
                omega⟩
              have e0 : E6 = [] := by
                rw [unhide HNE] at z6
                exact List.length_eq_zero_iff.1 z6
              subst e0
              have s8 : q + 1 ≤ n0 := hlt
              have s9 : n0 - (q + 1) < n0 - q := by omega
              clear HC HJ x6 p6 z6 HNE
              go_wp2_with fail
              refine ⟨⟨⟨_, rfl⟩, k', q + 1, rfl, by go_num, hk', s8, HJ3⟩, ?_⟩
              simp only [intOf]
              rw [show ((q : Int) + 1).toNat = q + 1 from rfl]
              exact s9
        · obtain rfl : q = n0 := by omega
          have t1 : decide ((q : Int) < (q : Int)) = false := decide_eq_false (by omega)
          clear hlt
          go_wp2_with fail
          go_loopw [17, 149] (fun v17 v149 wx => (∃ z, v17 = z) ∧ ∃ (m : Nat), v149 = .int .i64 (m : Int) ∧ m ≤ M ∧ Hid (CoJ w wx q g L a3 C k q)) (fun _ v149 _ => M - (intOf v149).toNat)
          case atStart => exact ⟨⟨_, rfl⟩, 0, rfl, Nat.zero_le _, HJ⟩
          case round =>
            clear HJ
            obtain ⟨⟨z2, rfl⟩, m, rfl, hm, HJ⟩ := hrel
            by_cases hmM : m < M
            · have s1 : decide ((m : Int) < (M : Int)) = true := decide_eq_true (by omega)
              have s1' : (m : Int) < (M : Int) := by omega
              have hmC : m < C.length := by rw [← unhide HM]; exact hmM
              obtain ⟨hg, ho, ha, hgl, d0, d1⟩ := (unhide HJ).h.two hmC
              obtain ⟨v0, v1', v2'⟩ := (unhide HPC).1.at hmC
              have s2 : decide ((C.getD m (0, 0)).1 ≥ (C.getD m (0, 0)).2) = false := decide_eq_false (by omega)
              have s2' : decide ((C.getD m (0, 0)).2 ≤ (C.getD m (0, 0)).1) = false := s2
              have s3 : decide ((C.getD m (0, 0)).1 < 0) = false := decide_eq_false (by omega)
              have s4 : decide ((C.getD m (0, 0)).2 > (q : Int)) = false := decide_eq_false (by omega)
              have s4' : decide ((q : Int) < (C.getD m (0, 0)).2) = false := s4
              have s6 : m + 1 ≤ M := hmM
              have s7 : M - (m + 1) < M - m := by omega
              have s5 := wrap_succ (k := m) (by omega)
              clear v0 v1' v2' hmC hgl
              subst ha
              generalize C.getD m (0, 0) = cm at *
              obtain ⟨cl, ch⟩ := cm
              dsimp only at d0 d1 s2 s2' s3 s4 s4'
              go_upto_region 32 with fail
              go_quiet (fail)
              go_wp2_with fail
              refine ⟨⟨⟨_, rfl⟩, m + 1, by go_num, s6, hide ((unhide HJ).on (below_drewN (Below.refl _ _) _))⟩, ?_⟩
              simp only [intOf]
              rw [show ((m : Int) + 1).toNat = m + 1 from rfl]
              exact s7
            · obtain rfl : m = M := by omega
              have s1 : decide ((m : Int) < (m : Int)) = false := decide_eq_false (by omega)
              clear hmM
              go_wp2_with fail
              refine bodyPost_ret (results_tmp rfl _ _ _) rfl ⟨rfl, (unhide HJ).i.b⟩
end Go.Proofs.Ytifpjdodignflaa
