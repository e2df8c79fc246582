/- Layer 16: Cover. · Layer 14, plain: places behind changes. -/
import Derived.Test.YtifpjdodignflaaRv40
import Derived.Test.YtifpjdodignflaaRv33

section
namespace Go.Proofs.Ytifpjdodignflaa
open Go.ChangeShapes Go.WideShapes Go.ChangeAt Go.RowKit
attribute [local go_sem] Oper.semAt_some

set_option maxRecDepth 100000 in
set_option maxHeartbeats 4000000 in
theorem GCov_at (g : Nat) (n : Int) (L : List Rg) (X : World) (h : IsRs X g n L) (hL : L.length ≤ 1048576) :
    Calls Try.prog 17 #[.pointer (some ⟨g, 0, none⟩)] X fun y X' => ∃ a c, ∃ E : List Rg, y = .returned (.slice a (covL E).length c) ∧ E.Perm (L.filter (inG 0 n)) ∧ E.Pairwise (fun a b => ltG b a = false) ∧ X'.ownsRow X.heap.size 59 2 (.slice a (covL E).length c) (covL E).length (hitsV (covL E)) ∧ Below X.heap.size X X' := by
  have HC := hide (GList_at g n L X h hL)
  have HL := hide hL
  clear h hL
  go_enter Try.func17, Try.ntmps17
  go_wp2_with fail
  refine (unhide HC).mono ?_
  rintro y w1 ⟨ae, ce, E, rfl, hE, hS, hO, x1⟩
  dsimp only
  have HP := hide (And.intro hE hS)
  have hj : CvJ X w1 ae ce E [] (.slice none 0 0) := ⟨hO, World.ownsRow_nil _ _ _ _, x1⟩
  have HJ := hide hj
  have hEl : E.length ≤ 1048576 := by
    have h1 := hE.length_eq
    have h2 := List.length_filter_le (inG 0 n) L
    have h3 := unhide HL
    omega
  obtain ⟨N, hN⟩ : ∃ N, N = E.length := ⟨_, rfl⟩
  rw [← hN] at hEl ⊢
  have HN := hide hN
  clear HC HL hE hS hO x1 hj hN
  go_wp2_with fail
  go_loopw [3, 5, 6, 10] (fun v3 v5 v6 v10 wx => ((∃ z, v5 = z) ∧ (∃ z, v6 = z)) ∧ ∃ i : Nat, v10 = .int .i64 (i : Int) ∧ i ≤ N ∧ Hid (CvJ X wx ae ce E ((E.take i).foldl covS []) v3)) (fun _ _ _ v10 _ => N - (intOf v10).toNat)
  case atStart => exact ⟨⟨⟨_, rfl⟩, ⟨_, rfl⟩⟩, 0, rfl, Nat.zero_le _, HJ⟩
  case round =>
    clear HJ
    obtain ⟨⟨⟨z1, rfl⟩, ⟨z2, rfl⟩⟩, i, rfl, hi, HJ⟩ := hrel
    by_cases hlt : i < N
    · have t1 : decide ((i : Int) < (N : Int)) = true := decide_eq_true (by omega)
      have hlt' : i < E.length := by rw [← unhide HN]; exact hlt
      have hql : ((E.take i).foldl covS []).length ≤ 1048576 := by
        have h1 := cov_len (E.take i) []
        rw [List.length_take] at h1
        simp only [List.length_nil] at h1
        omega
      have hst := cov_take hlt'
      obtain ⟨_, _, e1, ie, _⟩ := own_isRl (unhide HJ).e
      obtain ⟨eg, eo, ha, heg, i0, i1, i2, i3, i4⟩ := ie.five hlt'
      injection e1 with e11 e12 e13
      subst e11
      subst ha
      generalize E.getD i rgZ = m at *
      obtain ⟨mn, ml, mh, ms, me⟩ := m
      dsimp only at i0 i1 i2 i3 i4
      have hjn := (unhide HJ).on ((Below.refl wr.heap.size wr).alloc (Nat.le_refl _) (.cells #[.string mn, .int .i64 ml, .int .i64 mh, .int .i64 ms, .int .i64 me] 37))
      have k1 := Cls.new wr 37 #[.string mn, .int .i64 ml, .int .i64 mh, .int .i64 ms, .int .i64 me]
      have HJ1 := hide hjn
      have HK1 := hide k1
      have hz := hlt'
      have HST := hide hst
      have HQL := hide hql
      clear HJ hst hql hlt' ie e12 e13 hjn k1 hz
      generalize (E.take i).foldl covS [] = q at *
      obtain ⟨av, cv, hv, _⟩ := rowD_form (unhide HJ1).h
      subst hv
      go_upto_region 5 with fail
      clear i0 i1 i2 i3 i4
      generalize wr.alloc (.cells #[.string mn, .int .i64 ml, .int .i64 mh, .int .i64 ms, .int .i64 me] 37) = w2 at *
      generalize wr.heap.size = bx at *
      have c1 := (unhide HK1).cell 1
      have c2 := (unhide HK1).cell 2
      simp only [List.getElem?_toArray, List.getElem?_cons_zero, List.getElem?_cons_succ] at c1 c2
      by_cases hq : q = []
      · subst hq
        rw [covS_nil] at HST
        rw [List.length_nil] at HJ1 ⊢
        go_upto_region 6 with fail
        go_quiet (fail)
        obtain ⟨v', W', ra, hj2⟩ := ((unhide HJ1).on (below_drewN (Below.refl _ _) nq)).push (Nat.zero_le _) ml mh
        have R := hide ra
        have HJ2 := hide hj2
        clear ra hj2 HJ1
        go_upto_region 7 with fail
        go_wp2_with (at_builtin; refine wpList_append_known rfl _ _ 56 56 rfl _ _ rfl rfl _ _ (unhide R) ?_; clear R)
        go_roundw
        case rel => exact ⟨⟨⟨_, rfl⟩, ⟨_, rfl⟩⟩, i + 1, by go_num, hlt, hide (by rw [unhide HST]; exact unhide HJ2)⟩
        case measure => simp [intOf]; omega
      · obtain ⟨e, ⟨u, v⟩, rfl⟩ : ∃ e p, q = e ++ [p] := ⟨q.dropLast, q.getLast hq, (List.dropLast_concat_getLast hq).symm⟩
        rw [covS_snoc] at HST
        have hcl := (unhide HJ1).cells
        have hql := unhide HQL
        have hm1 : e.length + 1 ≤ 1048576 := by simpa using hql
        obtain ⟨hg, hk, hv, b1, f1, hset⟩ := hcl
        injection hv with hv1 hv2 hv3
        subst hv1 hv3
        rw [hv2] at HJ1 ⊢
        have hm : e.length ≤ 1073741824 := by omega
        have hqs : (e ++ [(u, v)]).length ≤ 1099511627776 := by rw [hv2]; omega
        have HQS := hide hqs
        have hlast := last_arith hm
        have HSet := hide hset
        clear hql hv2 hm1 hset HQL hqs hq
        generalize hem : e.length = m at *
        have HEM := hide hem
        clear hem
        obtain ⟨e1, e2, e3, t9, t9', hltm⟩ := hlast
        have t8 : decide ((m : Int) < 0) = false := decide_eq_false (Int.not_lt.2 (Int.natCast_nonneg m))
        have hl3 : (m : Int) < (m : Int) + 1 := Int.lt_succ _
        clear e1 e3 t9 t9'
        by_cases hvl : v < ml
        · have t7 : decide (v < ml) = true := decide_eq_true hvl
          rw [if_pos hvl] at HST
          clear hvl HSet
          go_upto_region 6 with fail
          go_quiet (fail)
          obtain ⟨v', W', ra, hj2⟩ := ((unhide HJ1).on (below_drewN (Below.refl _ _) nq)).push (unhide HQS) ml mh
          have R := hide ra
          have HJ2 := hide hj2
          clear ra hj2 HJ1 b1 f1
          go_upto_region 7 with fail
          go_wp2_with (at_builtin; refine wpList_append_known rfl _ _ 56 56 rfl _ _ rfl rfl _ _ (unhide R) ?_; clear R)
          go_roundw
          case rel => exact ⟨⟨⟨_, rfl⟩, ⟨_, rfl⟩⟩, i + 1, by go_num, hlt, hide (by rw [unhide HST]; exact unhide HJ2)⟩
          case measure => simp [intOf]; omega
        · have t7 : decide (v < ml) = false := decide_eq_false hvl
          rw [if_neg hvl] at HST
          clear hvl
          go_upto_region 6 with fail
          go_quiet (fail)
          go_upto_region 8 with fail
          have hw3 := (unhide HJ1).on ((below_drewN (Below.refl _ _) nq).drew)
          have HS8 : Hid ((w2.drewN nq).drew.cell? ⟨hg, m * 2 + 1, none⟩ = some (.int .i64 v) ∧ (w2.drewN nq).drew.cell? ⟨bx, 2, none⟩ = some (.int .i64 mh)) := hide ⟨b1, c2⟩
          have F1 : (w2.drewN nq).drew.frozen? ⟨hg, m * 2 + 1, none⟩ = false := f1
          obtain ⟨g8, k8, hv8, _, _, hset8⟩ := hw3.cells
          rw [unhide HEM] at hset8 hv8
          have HJ8 := hide hset8
          have HV8 := hide hv8
          clear b1 c1 c2 f1 hw3 HSet HJ1 hset8 hv8
          refine regionL (S := fun z => z.cell? ⟨hg, m * 2 + 1, none⟩ = some (.int .i64 v) ∧ z.cell? ⟨bx, 2, none⟩ = some (.int .i64 mh)) (fun i => i == 12) (by kernel_rfl) ?_
          generalize (w2.drewN nq).drew = w8 at *
          refine anyL_take (i := 0) (v := ?vcv0) rfl (by kernel_rfl) (by kernel_rfl) (by kernel_rfl) (by kernel_rfl) (fun _ _ _ h => h) (Or.inl ⟨by rfl, ?hcv0⟩) (unhide HS8) ?_
          case hcv0 => (intro w hSw; (try dsimp only at hSw); go_simp) <;> with_reducible rfl
          simp only [Act.put, List.getElem_toArray, List.getElem_cons_zero, List.setIfInBounds_toArray, List.set_cons_zero, List.set_cons_succ]
          refine anyL_take (i := 1) (v := ?vcv1) rfl (by kernel_rfl) (by kernel_rfl) (by kernel_rfl) (by kernel_rfl) (fun _ _ _ h => h) (Or.inl ⟨by rfl, ?hcv1⟩) (unhide HS8) ?_
          case hcv1 => (intro w hSw; (try dsimp only at hSw); go_simp) <;> with_reducible rfl
          simp only [Act.put, List.getElem_toArray, List.getElem_cons_zero, List.getElem_cons_succ, List.setIfInBounds_toArray, List.set_cons_zero, List.set_cons_succ]
          refine anyL_take (i := 2) (v := ?vcv2) rfl (by kernel_rfl) (by kernel_rfl) (by kernel_rfl) (by kernel_rfl) (fun _ _ _ h => h) (Or.inl ⟨by rfl, ?hcv2⟩) (unhide HS8) ?_
          case hcv2 => (intro w hSw; (try dsimp only at hSw); go_simp) <;> with_reducible rfl
          simp only [Act.put, List.getElem_toArray, List.getElem_cons_zero, List.getElem_cons_succ, List.setIfInBounds_toArray, List.set_cons_zero, List.set_cons_succ]
          refine anyL_take (i := 3) (v := ?vcv3) rfl (by kernel_rfl) (by kernel_rfl) (by kernel_rfl) (by kernel_rfl) (fun _ _ _ h => h) (Or.inl ⟨by rfl, ?hcv3⟩) (unhide HS8) ?_
          case hcv3 => (intro w hSw; (try dsimp only at hSw); go_simp) <;> with_reducible rfl
          simp only [Act.put, List.getElem_toArray, List.getElem_cons_zero, List.getElem_cons_succ, List.setIfInBounds_toArray, List.set_cons_zero, List.set_cons_succ]
          refine anyL_take (i := 4) (v := ?vcv4) rfl (by kernel_rfl) (by kernel_rfl) (by kernel_rfl) (by kernel_rfl) (fun _ _ _ h => h) (Or.inl ⟨by rfl, ?hcv4⟩) (unhide HS8) ?_
          case hcv4 => (intro w hSw; (try dsimp only at hSw); go_simp) <;> with_reducible rfl
          simp only [Act.put, List.getElem_toArray, List.getElem_cons_zero, List.getElem_cons_succ, List.setIfInBounds_toArray, List.set_cons_zero, List.set_cons_succ]
          refine anyL_take (i := 5) (v := ?vcv5) rfl (by kernel_rfl) (by kernel_rfl) (by kernel_rfl) (by kernel_rfl) (fun _ _ _ h => h) (Or.inl ⟨by rfl, ?hcv5⟩) (unhide HS8) ?_
          case hcv5 => (intro w hSw; (try dsimp only at hSw); go_simp) <;> with_reducible rfl
          simp only [Act.put, List.getElem_toArray, List.getElem_cons_zero, List.getElem_cons_succ, List.setIfInBounds_toArray, List.set_cons_zero, List.set_cons_succ]
          refine anyL_take (i := 6) (v := ?vcv6) rfl (by kernel_rfl) (by kernel_rfl) (by kernel_rfl) (by kernel_rfl) (fun _ _ _ h => h) (Or.inl ⟨by rfl, ?hcv6⟩) (unhide HS8) ?_
          case hcv6 => (intro w hSw; (try dsimp only at hSw); go_simp) <;> with_reducible rfl
          simp only [Act.put, List.getElem_toArray, List.getElem_cons_zero, List.getElem_cons_succ, List.setIfInBounds_toArray, List.set_cons_zero, List.set_cons_succ]
          refine anyL_take (i := 7) (v := ?vcv7) rfl (by kernel_rfl) (by kernel_rfl) (by kernel_rfl) (by kernel_rfl) (fun _ _ _ h => h) (Or.inl ⟨by rfl, ?hcv7⟩) (unhide HS8) ?_
          case hcv7 => (intro w hSw; (try dsimp only at hSw); go_simp) <;> with_reducible rfl
          simp only [Act.put, List.getElem_toArray, List.getElem_cons_zero, List.getElem_cons_succ, List.setIfInBounds_toArray, List.set_cons_zero, List.set_cons_succ]
          refine anyL_take (i := 8) (v := ?vcv8) rfl (by kernel_rfl) (by kernel_rfl) (by kernel_rfl) (by kernel_rfl) (fun _ _ _ h => h) (Or.inl ⟨by rfl, ?hcv8⟩) (unhide HS8) ?_
          case hcv8 => (intro w hSw; (try dsimp only at hSw); go_simp) <;> with_reducible rfl
          simp only [Act.put, List.getElem_toArray, List.getElem_cons_zero, List.getElem_cons_succ, List.setIfInBounds_toArray, List.set_cons_zero, List.set_cons_succ]
          refine anyL_take (i := 9) (v := ?vcv9) rfl (by kernel_rfl) (by kernel_rfl) (by kernel_rfl) (by kernel_rfl) (fun _ _ _ h => h) (Or.inl ⟨by rfl, ?hcv9⟩) (unhide HS8) ?_
          case hcv9 => (intro w hSw; (try dsimp only at hSw); go_simp) <;> with_reducible rfl
          simp only [Act.put, List.getElem_toArray, List.getElem_cons_zero, List.getElem_cons_succ, List.setIfInBounds_toArray, List.set_cons_zero, List.set_cons_succ]
          refine anyL_take (i := 10) (v := ?vcv10) rfl (by kernel_rfl) (by kernel_rfl) (by kernel_rfl) (by kernel_rfl) (fun _ _ _ h => h) (Or.inl ⟨by rfl, ?hcv10⟩) (unhide HS8) ?_
          case hcv10 => (intro w hSw; (try dsimp only at hSw); go_simp) <;> with_reducible rfl
          simp only [Act.put, List.getElem_toArray, List.getElem_cons_zero, List.getElem_cons_succ, List.setIfInBounds_toArray, List.set_cons_zero, List.set_cons_succ]
          refine anyL_take (i := 11) (v := ?vcv11) rfl (by kernel_rfl) (by kernel_rfl) (by kernel_rfl) (by kernel_rfl) (fun _ _ _ h => h) (Or.inl ⟨by rfl, ?hcv11⟩) (unhide HS8) ?_
          case hcv11 => (intro w hSw; (try dsimp only at hSw); go_simp) <;> with_reducible rfl
          simp only [Act.put, List.getElem_toArray, List.getElem_cons_zero, List.getElem_cons_succ, List.setIfInBounds_toArray, List.set_cons_zero, List.set_cons_succ]
          refine anyL_ready (rs := [12]) (by kernel_rfl) (by simp) ?_
          refine AllL.cons rfl (fun K hK => ?_) AllL.nil
          obtain ⟨s1, s2⟩ := unhide HS8
          go_simp
          refine unhide hK _ _ (fun h => by cases h) ?_
          clear hK K
          refine anyL_done (by kernel_rfl) ?_ _
          go_wp2_with fail
          injection unhide HV8 with q1 q2 q3
          injection q1 with q1
          injection q1 with q1
          subst q1
          clear q2 q3
          refine ⟨⟨⟨⟨_, rfl⟩, ⟨_, rfl⟩⟩, i + 1, by go_num, hlt, hide (by rw [unhide HST]; exact unhide HJ8 (max v mh))⟩, ?_⟩
          simp [intOf]; omega
    · obtain rfl : i = N := by omega
      have t1 : decide ((i : Int) < (i : Int)) = false := decide_eq_false (by omega)
      have hta : E.take i = E := by rw [unhide HN]; exact List.take_length
      rw [hta] at HJ
      obtain ⟨av, cv, hv, _⟩ := rowD_form (unhide HJ).h
      subst hv
      have HR : Hid (E.Perm (L.filter (inG 0 n)) ∧ E.Pairwise (fun a b => ltG b a = false) ∧ wr.ownsRow X.heap.size 59 2 (.slice av (covL E).length cv) (covL E).length (hitsV (covL E)) ∧ Below X.heap.size X wr) := hide ⟨(unhide HP).1, (unhide HP).2, (unhide HJ).h, (unhide HJ).d⟩
      clear HJ hta
      change Hid _ at HR
      go_wp2_with fail
      refine bodyPost_ret (results_tmp rfl _ _ _) rfl ?_
      exact ⟨av, cv, E, rfl, unhide HR⟩

end Go.Proofs.Ytifpjdodignflaa
end

section
namespace Go.Proofs.Ytifpjdodignflaa

theorem mv_lb (g : Int) : ∀ (cs : List Dop) (h q s : Int), GapC h cs → h ≤ q → h + s ≤ mvC q g s cs
  | [], h, q, s, _, hq => by simp only [mvC]; omega
  | c :: r, h, q, s, hg, hq => by
    have h1 := hg.1
    have h2 := hg.2.1
    simp only [mvC]
    split
    · omega
    · split
      · split <;> omega
      · have ih := mv_lb g r c.n q (s + ((c.t.length : Int) - (c.n - c.k))) hg.2.2 (by omega)
        omega
theorem mv_mono (g : Int) : ∀ (cs : List Dop) (h p q s : Int), GapC h cs → h ≤ p → p ≤ q → mvC p g s cs ≤ mvC q g s cs
  | [], _, p, q, s, _, _, hq => by simp only [mvC]; omega
  | c :: r, h, p, q, s, hg, hp, hq => by
    have h1 := hg.1
    have h2 := hg.2.1
    have lb : c.n < q → c.n + (s + ((c.t.length : Int) - (c.n - c.k))) ≤ mvC q g (s + ((c.t.length : Int) - (c.n - c.k))) r := fun h => mv_lb g r c.n q _ hg.2.2 (by omega)
    simp only [mvC]
    by_cases p1 : p < c.k
    · rw [if_pos p1]
      by_cases q1 : q < c.k
      · rw [if_pos q1]; omega
      · rw [if_neg q1]
        by_cases q2 : q ≤ c.n
        · rw [if_pos q2]; split <;> omega
        · rw [if_neg q2]
          have := lb (by omega)
          omega
    · rw [if_neg p1, if_neg (show ¬ q < c.k by omega)]
      by_cases p2 : p ≤ c.n
      · rw [if_pos p2]
        by_cases q2 : q ≤ c.n
        · rw [if_pos q2]; exact Int.le_refl _
        · rw [if_neg q2]
          have := lb (by omega)
          split <;> omega
      · rw [if_neg p2, if_neg (show ¬ q ≤ c.n by omega)]
        exact mv_mono g r c.n p q _ hg.2.2 (by omega) hq
theorem mv_lr : ∀ (cs : List Dop) (p s : Int), mvC p 1 s cs ≤ mvC p 2 s cs
  | [], _, _ => Int.le_refl _
  | c :: r, p, s => by
    simp only [mvC]
    split
    · exact Int.le_refl _
    · split
      · simp; omega
      · exact mv_lr r p _
theorem mv_end : ∀ (cs : List Dop) (h n s : Int), GapC h cs → lstC h cs ≤ n → mvC n 2 s cs = n + s + dlC cs
  | [], _, _, _, _, _ => by simp [mvC, dlC]
  | c :: r, h, n, s, hg, hl => by
    have h1 := hg.1
    have h2 := hg.2.1
    have h3 := gap_le hg.2.2
    simp only [lstC] at hl
    simp only [mvC, dlC]
    rw [if_neg (by omega)]
    by_cases q2 : n ≤ c.n
    · rw [if_pos q2, if_neg (by decide)]
      cases r with
      | nil => simp only [dlC]; omega
      | cons c2 r2 =>
        have := hg.2.2.1
        have := hg.2.2.2.1
        have := h3.2 c2 (by simp)
        omega
    · rw [if_neg q2, mv_end r c.n n _ hg.2.2 hl]
      omega
theorem mv_zero : ∀ (cs : List Dop), GapC (-1) cs → mvC 0 1 0 cs = 0
  | [], _ => rfl
  | c :: r, hg => by
    have h1 := hg.1
    have h2 := hg.2.1
    simp only [mvC]
    by_cases q : (0 : Int) < c.k
    · rw [if_pos q]; rfl
    · rw [if_neg q, if_pos (by omega)]; simp; omega
/-- the lengths by the changes -/
theorem to_ch {d : List Dop} (hv : valB d = true) : GapC (-1) (runL d).2 ∧ lstC (-1) (runL d).2 ≤ frD d ∧ (toD d : Int) = frD d + dlC (runL d).2 := by
  have hs := chs_run (val_Can hv)
  have hm := hs.f
  generalize (runL d).2 = cs at *
  generalize (runL d).1 = m at *
  have hl := hs.l
  have hg := hs.g
  have hlm : lstC (-1) cs ≤ m := by
    by_cases hc : cs = []
    · rw [hc]; simp only [lstC]; omega
    · have := lstC_two 0 (-1) hc
      omega
  have t5 := opC_sizes cs 0 m (gap_okL hg hlm (by omega) (by omega))
  have h1 := congrArg toA hs.a
  rw [to_app, (frA_dA (opC_k 0 cs)).2, (frA_dA (valB_k hv)).2, (fr_rep_k _).2] at h1
  exact ⟨hg, by omega, by omega⟩
theorem pl_zero {d : List Dop} {p g : Int} (hv : valB d = true) (hp : 0 ≤ p ∧ p ≤ frD d) (hg : g = 1 ∨ g = 2) : plE d p g = 0 ∧ plV d p g = mvC p g 0 (runL d).2 := by
  have h : plE d p g = 0 := by unfold plE; rw [hv, if_pos rfl, if_pos ⟨hp, hg⟩]
  exact ⟨h, by unfold plV; rw [if_pos h]⟩

end Go.Proofs.Ytifpjdodignflaa
end
