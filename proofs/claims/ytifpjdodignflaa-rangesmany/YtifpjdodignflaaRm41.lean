/- Layer 16: Cover. · Layer 16: the law's fixed fact; RangesNil. · Layer 16: the ranges of RangesMany (plain). -/
import Derived.Test.YtifpjdodignflaaRm40
import Derived.Test.YtifpjdodignflaaRm38
import Derived.Test.YtifpjdodignflaaRm21
import Derived.Test.YtifpjdodignflaaRm02
import Derived.Test.YtifpjdodignflaaRm05

section
namespace Go.Proofs.Ytifpjdodignflaa
open Go.ChangeShapes Go.WideShapes Go.ChangeAt Go.RowKit
attribute [local go_sem] Oper.semAt_some

set_option maxRecDepth 100000 in
set_option maxHeartbeats 4000000 in
theorem GCov_at (g : Nat) (n : Int) (L : List Rg) (X : World) (h : IsRs X g n L) (hL : L.length ≤ 1048576) :
    Calls Try.prog 17 #[.pointer (some ⟨g, 0, none⟩)] X fun y X' => ∃ a c, ∃ E : List Rg, y = .returned (.slice a (covL E).length c) ∧ E.Perm (L.filter (inG 0 n)) ∧ E.Pairwise (fun a b => ltG b a = false) ∧ X'.ownsRow X.heap.size 59 2 (.slice a (covL E).length c) (covL E).length (hitsV (covL E)) ∧ Below X.heap.size X X' := by
  have HC := hide (GList_at g n L X h hL)
  have HL := hide hL
  clear h hL
  go_enter Try.func17, Try.ntmps17
  go_wp2_with fail
  refine (unhide HC).mono ?_
  rintro y w1 ⟨ae, ce, E, rfl, hE, hS, hO, x1⟩
  dsimp only
  have HP := hide (And.intro hE hS)
  have hj : CvJ X w1 ae ce E [] (.slice none 0 0) := ⟨hO, World.ownsRow_nil _ _ _ _, x1⟩
  have HJ := hide hj
  have hEl : E.length ≤ 1048576 := by
    have h1 := hE.length_eq
    have h2 := List.length_filter_le (inG 0 n) L
    have h3 := unhide HL
    omega
  obtain ⟨N, hN⟩ : ∃ N, N = E.length := ⟨_, rfl⟩
  rw [← hN] at hEl ⊢
  have HN := hide hN
  clear HC HL hE hS hO x1 hj hN
  go_wp2_with fail
  go_loopw [3, 5, 6, 10] (fun v3 v5 v6 v10 wx => ((∃ z, v5 = z) ∧ (∃ z, v6 = z)) ∧ ∃ i : Nat, v10 = .int .i64 (i : Int) ∧ i ≤ N ∧ Hid (CvJ X wx ae ce E ((E.take i).foldl covS []) v3)) (fun _ _ _ v10 _ => N - (intOf v10).toNat)
  case atStart => exact ⟨⟨⟨_, rfl⟩, ⟨_, rfl⟩⟩, 0, rfl, Nat.zero_le _, HJ⟩
  case round =>
    clear HJ
    obtain ⟨⟨⟨z1, rfl⟩, ⟨z2, rfl⟩⟩, i, rfl, hi, HJ⟩ := hrel
    by_cases hlt : i < N
    · have t1 : decide ((i : Int) < (N : Int)) = true := decide_eq_true (by omega)
      have hlt' : i < E.length := by rw [← unhide HN]; exact hlt
      have hql : ((E.take i).foldl covS []).length ≤ 1048576 := by
        have h1 := cov_len (E.take i) []
        rw [List.length_take] at h1
        simp only [List.length_nil] at h1
        omega
      have hst := cov_take hlt'
      obtain ⟨_, _, e1, ie, _⟩ := own_isRl (unhide HJ).e
      obtain ⟨eg, eo, ha, heg, i0, i1, i2, i3, i4⟩ := ie.five hlt'
      injection e1 with e11 e12 e13
      subst e11
      subst ha
      generalize E.getD i rgZ = m at *
      obtain ⟨mn, ml, mh, ms, me⟩ := m
      dsimp only at i0 i1 i2 i3 i4
      have hjn := (unhide HJ).on ((Below.refl wr.heap.size wr).alloc (Nat.le_refl _) (.cells #[.string mn, .int .i64 ml, .int .i64 mh, .int .i64 ms, .int .i64 me] 37))
      have k1 := Cls.new wr 37 #[.string mn, .int .i64 ml, .int .i64 mh, .int .i64 ms, .int .i64 me]
      have HJ1 := hide hjn
      have HK1 := hide k1
      have hz := hlt'
      have HST := hide hst
      have HQL := hide hql
      clear HJ hst hql hlt' ie e12 e13 hjn k1 hz
      generalize (E.take i).foldl covS [] = q at *
      obtain ⟨av, cv, hv, _⟩ := rowD_form (unhide HJ1).h
      subst hv
      go_upto_region 5 with fail
      clear i0 i1 i2 i3 i4
      generalize wr.alloc (.cells #[.string mn, .int .i64 ml, .int .i64 mh, .int .i64 ms, .int .i64 me] 37) = w2 at *
      generalize wr.heap.size = bx at *
      have c1 := (unhide HK1).cell 1
      have c2 := (unhide HK1).cell 2
      simp only [List.getElem?_toArray, List.getElem?_cons_zero, List.getElem?_cons_succ] at c1 c2
      by_cases hq : q = []
      · subst hq
        rw [covS_nil] at HST
        rw [List.length_nil] at HJ1 ⊢
        go_upto_region 6 with fail
        go_quiet (fail)
        obtain ⟨v', W', ra, hj2⟩ := ((unhide HJ1).on (below_drewN (Below.refl _ _) nq)).push (Nat.zero_le _) ml mh
        have R := hide ra
        have HJ2 := hide hj2
        clear ra hj2 HJ1
        go_upto_region 7 with fail
        go_wp2_with (at_builtin; refine wpList_append_known rfl _ _ 56 56 rfl _ _ rfl rfl _ _ (unhide R) ?_; clear R)
        go_roundw
        case rel => exact ⟨⟨⟨_, rfl⟩, ⟨_, rfl⟩⟩, i + 1, by go_num, hlt, hide (by rw [unhide HST]; exact unhide HJ2)⟩
        case measure => simp [intOf]; omega
      · obtain ⟨e, ⟨u, v⟩, rfl⟩ : ∃ e p, q = e ++ [p] := ⟨q.dropLast, q.getLast hq, (List.dropLast_concat_getLast hq).symm⟩
        rw [covS_snoc] at HST
        have hcl := (unhide HJ1).cells
        have hql := unhide HQL
        have hm1 : e.length + 1 ≤ 1048576 := by simpa using hql
        obtain ⟨hg, hk, hv, b1, f1, hset⟩ := hcl
        injection hv with hv1 hv2 hv3
        subst hv1 hv3
        rw [hv2] at HJ1 ⊢
        have hm : e.length ≤ 1073741824 := by omega
        have hqs : (e ++ [(u, v)]).length ≤ 1099511627776 := by rw [hv2]; omega
        have HQS := hide hqs
        have hlast := last_arith hm
        have HSet := hide hset
        clear hql hv2 hm1 hset HQL hqs hq
        generalize hem : e.length = m at *
        have HEM := hide hem
        clear hem
        obtain ⟨e1, e2, e3, t9, t9', hltm⟩ := hlast
        have t8 : decide ((m : Int) < 0) = false := decide_eq_false (Int.not_lt.2 (Int.natCast_nonneg m))
        have hl3 : (m : Int) < (m : Int) + 1 := Int.lt_succ _
        clear e1 e3 t9 t9'
        by_cases hvl : v < ml
        · have t7 : decide (v < ml) = true := decide_eq_true hvl
          rw [if_pos hvl] at HST
          clear hvl HSet
          go_upto_region 6 with fail
          go_quiet (fail)
          obtain ⟨v', W', ra, hj2⟩ := ((unhide HJ1).on (below_drewN (Below.refl _ _) nq)).push (unhide HQS) ml mh
          have R := hide ra
          have HJ2 := hide hj2
          clear ra hj2 HJ1 b1 f1
          go_upto_region 7 with fail
          go_wp2_with (at_builtin; refine wpList_append_known rfl _ _ 56 56 rfl _ _ rfl rfl _ _ (unhide R) ?_; clear R)
          go_roundw
          case rel => exact ⟨⟨⟨_, rfl⟩, ⟨_, rfl⟩⟩, i + 1, by go_num, hlt, hide (by rw [unhide HST]; exact unhide HJ2)⟩
          case measure => simp [intOf]; omega
        · have t7 : decide (v < ml) = false := decide_eq_false hvl
          rw [if_neg hvl] at HST
          clear hvl
          go_upto_region 6 with fail
          go_quiet (fail)
          go_upto_region 8 with fail
          have hw3 := (unhide HJ1).on ((below_drewN (Below.refl _ _) nq).drew)
          have HS8 : Hid ((w2.drewN nq).drew.cell? ⟨hg, m * 2 + 1, none⟩ = some (.int .i64 v) ∧ (w2.drewN nq).drew.cell? ⟨bx, 2, none⟩ = some (.int .i64 mh)) := hide ⟨b1, c2⟩
          have F1 : (w2.drewN nq).drew.frozen? ⟨hg, m * 2 + 1, none⟩ = false := f1
          obtain ⟨g8, k8, hv8, _, _, hset8⟩ := hw3.cells
          rw [unhide HEM] at hset8 hv8
          have HJ8 := hide hset8
          have HV8 := hide hv8
          clear b1 c1 c2 f1 hw3 HSet HJ1 hset8 hv8
          refine regionL (S := fun z => z.cell? ⟨hg, m * 2 + 1, none⟩ = some (.int .i64 v) ∧ z.cell? ⟨bx, 2, none⟩ = some (.int .i64 mh)) (fun i => i == 12) (by kernel_rfl) ?_
          generalize (w2.drewN nq).drew = w8 at *
          refine anyL_take (i := 0) (v := ?vcv0) rfl (by kernel_rfl) (by kernel_rfl) (by kernel_rfl) (by kernel_rfl) (fun _ _ _ h => h) (Or.inl ⟨by rfl, ?hcv0⟩) (unhide HS8) ?_
          case hcv0 => (intro w hSw; (try dsimp only at hSw); go_simp) <;> with_reducible rfl
          simp only [Act.put, List.getElem_toArray, List.getElem_cons_zero, List.setIfInBounds_toArray, List.set_cons_zero, List.set_cons_succ]
          refine anyL_take (i := 1) (v := ?vcv1) rfl (by kernel_rfl) (by kernel_rfl) (by kernel_rfl) (by kernel_rfl) (fun _ _ _ h => h) (Or.inl ⟨by rfl, ?hcv1⟩) (unhide HS8) ?_
          case hcv1 => (intro w hSw; (try dsimp only at hSw); go_simp) <;> with_reducible rfl
          simp only [Act.put, List.getElem_toArray, List.getElem_cons_zero, List.getElem_cons_succ, List.setIfInBounds_toArray, List.set_cons_zero, List.set_cons_succ]
          refine anyL_take (i := 2) (v := ?vcv2) rfl (by kernel_rfl) (by kernel_rfl) (by kernel_rfl) (by kernel_rfl) (fun _ _ _ h => h) (Or.inl ⟨by rfl, ?hcv2⟩) (unhide HS8) ?_
          case hcv2 => (intro w hSw; (try dsimp only at hSw); go_simp) <;> with_reducible rfl
          simp only [Act.put, List.getElem_toArray, List.getElem_cons_zero, List.getElem_cons_succ, List.setIfInBounds_toArray, List.set_cons_zero, List.set_cons_succ]
          refine anyL_take (i := 3) (v := ?vcv3) rfl (by kernel_rfl) (by kernel_rfl) (by kernel_rfl) (by kernel_rfl) (fun _ _ _ h => h) (Or.inl ⟨by rfl, ?hcv3⟩) (unhide HS8) ?_
          case hcv3 => (intro w hSw; (try dsimp only at hSw); go_simp) <;> with_reducible rfl
          simp only [Act.put, List.getElem_toArray, List.getElem_cons_zero, List.getElem_cons_succ, List.setIfInBounds_toArray, List.set_cons_zero, List.set_cons_succ]
          refine anyL_take (i := 4) (v := ?vcv4) rfl (by kernel_rfl) (by kernel_rfl) (by kernel_rfl) (by kernel_rfl) (fun _ _ _ h => h) (Or.inl ⟨by rfl, ?hcv4⟩) (unhide HS8) ?_
          case hcv4 => (intro w hSw; (try dsimp only at hSw); go_simp) <;> with_reducible rfl
          simp only [Act.put, List.getElem_toArray, List.getElem_cons_zero, List.getElem_cons_succ, List.setIfInBounds_toArray, List.set_cons_zero, List.set_cons_succ]
          refine anyL_take (i := 5) (v := ?vcv5) rfl (by kernel_rfl) (by kernel_rfl) (by kernel_rfl) (by kernel_rfl) (fun _ _ _ h => h) (Or.inl ⟨by rfl, ?hcv5⟩) (unhide HS8) ?_
          case hcv5 => (intro w hSw; (try dsimp only at hSw); go_simp) <;> with_reducible rfl
          simp only [Act.put, List.getElem_toArray, List.getElem_cons_zero, List.getElem_cons_succ, List.setIfInBounds_toArray, List.set_cons_zero, List.set_cons_succ]
          refine anyL_take (i := 6) (v := ?vcv6) rfl (by kernel_rfl) (by kernel_rfl) (by kernel_rfl) (by kernel_rfl) (fun _ _ _ h => h) (Or.inl ⟨by rfl, ?hcv6⟩) (unhide HS8) ?_
          case hcv6 => (intro w hSw; (try dsimp only at hSw); go_simp) <;> with_reducible rfl
          simp only [Act.put, List.getElem_toArray, List.getElem_cons_zero, List.getElem_cons_succ, List.setIfInBounds_toArray, List.set_cons_zero, List.set_cons_succ]
          refine anyL_take (i := 7) (v := ?vcv7) rfl (by kernel_rfl) (by kernel_rfl) (by kernel_rfl) (by kernel_rfl) (fun _ _ _ h => h) (Or.inl ⟨by rfl, ?hcv7⟩) (unhide HS8) ?_
          case hcv7 => (intro w hSw; (try dsimp only at hSw); go_simp) <;> with_reducible rfl
          simp only [Act.put, List.getElem_toArray, List.getElem_cons_zero, List.getElem_cons_succ, List.setIfInBounds_toArray, List.set_cons_zero, List.set_cons_succ]
          refine anyL_take (i := 8) (v := ?vcv8) rfl (by kernel_rfl) (by kernel_rfl) (by kernel_rfl) (by kernel_rfl) (fun _ _ _ h => h) (Or.inl ⟨by rfl, ?hcv8⟩) (unhide HS8) ?_
          case hcv8 => (intro w hSw; (try dsimp only at hSw); go_simp) <;> with_reducible rfl
          simp only [Act.put, List.getElem_toArray, List.getElem_cons_zero, List.getElem_cons_succ, List.setIfInBounds_toArray, List.set_cons_zero, List.set_cons_succ]
          refine anyL_take (i := 9) (v := ?vcv9) rfl (by kernel_rfl) (by kernel_rfl) (by kernel_rfl) (by kernel_rfl) (fun _ _ _ h => h) (Or.inl ⟨by rfl, ?hcv9⟩) (unhide HS8) ?_
          case hcv9 => (intro w hSw; (try dsimp only at hSw); go_simp) <;> with_reducible rfl
          simp only [Act.put, List.getElem_toArray, List.getElem_cons_zero, List.getElem_cons_succ, List.setIfInBounds_toArray, List.set_cons_zero, List.set_cons_succ]
          refine anyL_take (i := 10) (v := ?vcv10) rfl (by kernel_rfl) (by kernel_rfl) (by kernel_rfl) (by kernel_rfl) (fun _ _ _ h => h) (Or.inl ⟨by rfl, ?hcv10⟩) (unhide HS8) ?_
          case hcv10 => (intro w hSw; (try dsimp only at hSw); go_simp) <;> with_reducible rfl
          simp only [Act.put, List.getElem_toArray, List.getElem_cons_zero, List.getElem_cons_succ, List.setIfInBounds_toArray, List.set_cons_zero, List.set_cons_succ]
          refine anyL_take (i := 11) (v := ?vcv11) rfl (by kernel_rfl) (by kernel_rfl) (by kernel_rfl) (by kernel_rfl) (fun _ _ _ h => h) (Or.inl ⟨by rfl, ?hcv11⟩) (unhide HS8) ?_
          case hcv11 => (intro w hSw; (try dsimp only at hSw); go_simp) <;> with_reducible rfl
          simp only [Act.put, List.getElem_toArray, List.getElem_cons_zero, List.getElem_cons_succ, List.setIfInBounds_toArray, List.set_cons_zero, List.set_cons_succ]
          refine anyL_ready (rs := [12]) (by kernel_rfl) (by simp) ?_
          refine AllL.cons rfl (fun K hK => ?_) AllL.nil
          obtain ⟨s1, s2⟩ := unhide HS8
          go_simp
          refine unhide hK _ _ (fun h => by cases h) ?_
          clear hK K
          refine anyL_done (by kernel_rfl) ?_ _
          go_wp2_with fail
          injection unhide HV8 with q1 q2 q3
          injection q1 with q1
          injection q1 with q1
          subst q1
          clear q2 q3
          refine ⟨⟨⟨⟨_, rfl⟩, ⟨_, rfl⟩⟩, i + 1, by go_num, hlt, hide (by rw [unhide HST]; exact unhide HJ8 (max v mh))⟩, ?_⟩
          simp [intOf]; omega
    · obtain rfl : i = N := by omega
      have t1 : decide ((i : Int) < (i : Int)) = false := decide_eq_false (by omega)
      have hta : E.take i = E := by rw [unhide HN]; exact List.take_length
      rw [hta] at HJ
      obtain ⟨av, cv, hv, _⟩ := rowD_form (unhide HJ).h
      subst hv
      have HR : Hid (E.Perm (L.filter (inG 0 n)) ∧ E.Pairwise (fun a b => ltG b a = false) ∧ wr.ownsRow X.heap.size 59 2 (.slice av (covL E).length cv) (covL E).length (hitsV (covL E)) ∧ Below X.heap.size X wr) := hide ⟨(unhide HP).1, (unhide HP).2, (unhide HJ).h, (unhide HJ).d⟩
      clear HJ hta
      change Hid _ at HR
      go_wp2_with fail
      refine bodyPost_ret (results_tmp rfl _ _ _) rfl ?_
      exact ⟨av, cv, E, rfl, unhide HR⟩

end Go.Proofs.Ytifpjdodignflaa
end

section
namespace Go.Proofs.Ytifpjdodignflaa
open Go.ChangeShapes Go.WideShapes Go.ChangeAt Go.RowKit
attribute [local go_sem] Oper.semAt_some

def exR : Rg := ⟨⟨#[97]⟩, 2, 5, 2, 1⟩
def exD16 : List Dop := [⟨1, 2, []⟩, ⟨2, 0, [120, 121]⟩, ⟨1, 8, []⟩]
theorem ex16_v : valB exD16 = true ∧ frD exD16 = 10 ∧ toD exD16 = 12 := by decide
theorem ex16_p : plV exD16 2 2 = 4 ∧ plV exD16 5 1 = 7 := by decide
theorem ex16_r : refG 10 [] exR = 0 := by decide
theorem ex16_k : kpG exD16 [exR] = [⟨⟨#[97]⟩, 4, 7, 2, 1⟩] ∧ goG exD16 [exR] = [] := by
  have e : mvG exD16 exR = ⟨⟨#[97]⟩, 4, 7, 2, 1⟩ := by
    unfold mvG exR
    dsimp only
    rw [ex16_p.1, ex16_p.2]
  unfold kpG goG
  rw [List.map_singleton, e]
  exact ⟨rfl, rfl⟩
theorem lit_isOR (X : World) (ds : List Dop) (cs : Array Value) (h : cs.toList = opsV ds) : IsO (X.alloc (.cells cs 54)) (some ⟨X.heap.size, 0, none⟩) ds := by
  refine Or.inr ⟨_, _, rfl, by simp, fun k hk => ?_⟩
  have f : ∀ j, (X.alloc (.cells cs 54)).cell? ⟨X.heap.size, j, none⟩ = cs[j]? := fun j => World.cell?_alloc_mark X _ _ (0, 0) j
  have g : ∀ j, j < 3 → cs[k * 3 + j]? = (opL (ds.getD k opZ))[j]? := fun j hj => by
    rw [← opsV_get ds k j hk hj, ← h, Array.getElem?_toList]
  refine ⟨?_, ?_, ?_⟩
  · rw [Nat.zero_add, f]; exact g 0 (by decide)
  · rw [Nat.zero_add, f]; exact g 1 (by decide)
  · rw [Nat.zero_add, f]; exact g 2 (by decide)
set_option maxRecDepth 100000 in
set_option maxHeartbeats 2000000 in
theorem awake16_at (X : World) : Calls Try.prog 8 #[] X fun y X' => y = .returned (.bool true) ∧ Below X.heap.size X X' := by
  have H1 := hide (GNew_at 10 X (by decide))
  have H2 := hide fun (Y : World) (g : Nat) (h : IsRs Y g 10 []) => GSet_at g 10 [] exR Y h ex16_r
  have H3 := hide fun (Y : World) (g : Nat) (h : IsRs Y g 10 [exR]) => GBeh_at g 10 [exR] (some ⟨Y.heap.size, 0, none⟩) 3 exD16 (Y.alloc (.cells #[.int .i64 1, .int .i64 2, .string ⟨#[]⟩, .int .i64 2, .int .i64 0, .string ⟨#[120, 121]⟩, .int .i64 1, .int .i64 8, .string ⟨#[]⟩] 54)) (h.below ((Below.refl _ _).alloc (Nat.le_refl _) _) (Nat.le_refl _)) (lit_isOR Y exD16 _ (by kernel_rfl)) (by decide) ex16_v.1 (by rw [ex16_v.2.1]; rfl) (by simp) (by simp)
  have H4 := hide fun (Y : World) (g : Nat) (h : IsRs Y g 12 [⟨⟨#[97]⟩, 4, 7, 2, 1⟩]) => GGet_at g 12 [⟨⟨#[97]⟩, 4, 7, 2, 1⟩] ⟨#[97]⟩ Y h
  rw [show ((getG ⟨#[97]⟩ [(⟨⟨#[97]⟩, 4, 7, 2, 1⟩ : Rg)]).map rgV).getD (.agg #[.string ⟨#[]⟩, .int .i64 0, .int .i64 0, .int .i64 0, .int .i64 0]) = .agg #[.string ⟨#[97]⟩, .int .i64 4, .int .i64 7, .int .i64 2, .int .i64 1] from rfl, show (getG ⟨#[97]⟩ [(⟨⟨#[97]⟩, 4, 7, 2, 1⟩ : Rg)]).isSome = true from rfl] at H4
  rw [show rgV exR = .agg #[.string ⟨#[97]⟩, .int .i64 2, .int .i64 5, .int .i64 2, .int .i64 1] from rfl, show putG exR [] = [exR] from rfl] at H2
  rw [show exD16.length = 3 from rfl, ex16_v.2.2] at H3
  go_enter Try.func8, Try.ntmps8
  go_wp2_with fail
  refine (unhide H1).mono ?_
  rintro y w1 ⟨g1, rfl, _, s1, x1⟩
  dsimp only
  have HX1 := hide x1
  have HC2 := hide (unhide H2 w1 g1 s1)
  clear H1 H2 s1 x1
  go_wp2_with fail
  refine (unhide HC2).mono ?_
  rintro y w2 ⟨g2, rfl, s2, x2⟩
  dsimp only
  have HX2 := hide ((unhide HX1).trans (x2.mono (unhide HX1).size))
  have HC3 := hide (unhide H3 w2 g2 s2)
  clear HC2 HX1 H3 s2 x2
  go_wp2_with fail
  refine (unhide HC3).mono ?_
  rintro y w3 ⟨g3, S, ag, cg, rfl, hp, s3, x3⟩
  dsimp only
  obtain rfl : S = [exR] := List.perm_singleton.1 hp
  rw [ex16_k.1] at s3
  rw [ex16_k.2]
  have b3 := (Below.refl w2.heap.size w2).alloc (Nat.le_refl _) (.cells #[.int .i64 1, .int .i64 2, .string ⟨#[]⟩, .int .i64 2, .int .i64 0, .string ⟨#[120, 121]⟩, .int .i64 1, .int .i64 8, .string ⟨#[]⟩] 54)
  have HX3 := hide ((unhide HX2).trans ((b3.trans (x3.mono b3.size)).mono (unhide HX2).size))
  have HC4 := hide (unhide H4 w3 g3 s3)
  clear HC3 HX2 H4 hp s3 x3 b3
  go_wp2_with fail
  refine (unhide HC4).mono ?_
  rintro y w4 ⟨rfl, x4⟩
  dsimp only
  have hx4 := (unhide HX3).trans (x4.mono (unhide HX3).size)
  have k5 := Cls.new w4 37 #[.string ⟨#[97]⟩, .int .i64 4, .int .i64 7, .int .i64 2, .int .i64 1]
  have c1 := k5.cell 1
  have c2 := k5.cell 2
  simp only [List.getElem?_toArray, List.getElem?_cons_zero, List.getElem?_cons_succ] at c1 c2
  have HB := hide (hx4.alloc hx4.size (.cells #[.string ⟨#[97]⟩, .int .i64 4, .int .i64 7, .int .i64 2, .int .i64 1] 37))
  clear HC4 HX3 x4 hx4 k5
  go_wp2_with fail
  refine bodyPost_ret (results_tmp rfl _ _ _) rfl ⟨rfl, unhide HB⟩
end Go.Proofs.Ytifpjdodignflaa
end

section
namespace Go.Proofs.Ytifpjdodignflaa
open Go.ChangeShapes Go.WideShapes Go.ChangeAt Go.RowKit
attribute [local go_sem] Oper.semAt_some

def nmR (j : Nat) : List Int := [((j % 256 : Nat) : Int), ((j / 256 : Nat) : Int)]
def rgm (j : Nat) : Rg := ⟨strOfNums (nmR j), 2, 5, 1, 1⟩
def rny (i : Nat) : List Rg := (List.range i).map rgm
theorem rny_s (i : Nat) : rny (i + 1) = rny i ++ [rgm i] := by simp [rny, List.range_succ]
theorem rny_len (i : Nat) : (rny i).length = i := by simp [rny]
theorem nmR_tb {j : Nat} (h : j < 65536) : ∀ x ∈ nmR j, 0 ≤ x ∧ x ≤ 255 := by
  intro x hx
  simp only [nmR, List.mem_cons, List.not_mem_nil, or_false] at hx
  rcases hx with rfl | rfl <;> omega
theorem nmR_inj {i j : Nat} (hi : i < 65536) (hj : j < 65536) (h : strOfNums (nmR i) = strOfNums (nmR j)) : i = j := by
  have e := str_beq (nmR_tb hi) (nmR_tb hj)
  rw [h] at e
  have e2 : nmR i = nmR j := by simpa using e.symm
  simp only [nmR, List.cons.injEq, and_true] at e2
  omega
theorem rny_get {i : Nat} (hi : i < 65536) : getG (rgm i).n (rny i) = none := getG_none.2 fun m hm e => by
  obtain ⟨j, hj, rfl⟩ := List.mem_map.1 hm
  have hj' := List.mem_range.1 hj
  have := nmR_inj (by omega) hi e
  omega
theorem rny_put {i : Nat} (hi : i < 65536) : putG (rgm i) (rny i) = rny (i + 1) := by
  have h := rny_get hi
  unfold getG at h
  rw [Option.map_eq_none_iff] at h
  unfold putG
  rw [h, rny_s]
theorem rny_ref {i : Nat} (hi : i < 1024) : refG 9 (rny i) (rgm i) = 0 := by
  unfold refG
  have hs : (rgm i).n.size = 2 := strOfNums_size _
  rw [if_neg (by omega), if_neg, if_neg]
  · rw [rny_len]; omega
  · unfold rgm; simp [holdB]
def rnA : Rg := ⟨⟨#[111, 110, 101, 32, 109, 111, 114, 101]⟩, 3, 5, 1, 1⟩
def rnB : Rg := ⟨strOfNums (nmR 1023), 3, 5, 1, 1⟩
theorem oneR_names {i : Nat} : ∀ m ∈ rny i, m.n ≠ rnA.n := by
  intro m hm e
  obtain ⟨j, _, rfl⟩ := List.mem_map.1 hm
  have h1 : (rgm j).n.size = 2 := strOfNums_size _
  rw [e] at h1
  cases h1
theorem rnA_ref : refG 9 (rny 1024) rnA = 121 := by
  unfold refG
  have hn : getG rnA.n (rny 1024) = none := getG_none.2 oneR_names
  rw [hn, rny_len]
  rfl
theorem rny_unl (i : Nat) (hi : i ≤ 65536) : Unl (rny i) := by
  induction i with
  | zero => exact List.nodup_nil
  | succ i ih =>
    have := ih (by omega)
    unfold Unl at this ⊢
    rw [rny_s, List.map_append, List.nodup_append]
    refine ⟨this, by simp, fun a ha b hb => ?_⟩
    simp only [List.map_cons, List.map_nil, List.mem_singleton] at hb
    obtain ⟨m, hm, rfl⟩ := List.mem_map.1 ha
    rw [hb]
    exact getG_none.1 (rny_get (by omega)) m hm
theorem rnB_get : getG rnB.n (rny 1024) = some (rgm 1023) := getG_is (rny_unl 1024 (by omega)) (List.mem_map.2 ⟨1023, List.mem_range.2 (by omega), rfl⟩) rfl
theorem rnB_ref : refG 9 (rny 1024) rnB = 0 := by
  unfold refG
  have hs : rnB.n.size = 2 := strOfNums_size _
  rw [if_neg (by omega), if_neg (by unfold rnB; decide), if_neg]
  rw [rnB_get]; simp
/-- with the last one's beginning turned -/
def rn2 : List Rg := putG rnB (rny 1024)
theorem rn2_perm : rn2.Perm (rnB :: delG rnB.n (rny 1024)) := put_perm _ _
theorem rn2_len : rn2.length = 1024 := by
  have h1 := rn2_perm.length_eq
  have h2 := (del_perm rnB_get).length_eq
  rw [rny_len] at h2
  simp only [List.length_cons] at h1 h2
  omega
theorem rn2_mem {m : Rg} (h : m ∈ rn2) : m = rnB ∨ m ∈ rny 1024 := by
  rcases List.mem_cons.1 (rn2_perm.mem_iff.1 h) with h2 | h2
  · exact .inl h2
  · exact .inr ((del_sub _ _).mem h2)
theorem rny_in {i : Nat} : (rny i).filter (inG 0 9) = rny i := List.filter_eq_self.2 fun m hm => by
  obtain ⟨j, _, rfl⟩ := List.mem_map.1 hm
  unfold rgm inG; simp
theorem rn2_in : rn2.filter (inG 0 9) = rn2 := List.filter_eq_self.2 fun m hm => by
  rcases rn2_mem hm with rfl | h
  · unfold rnB inG; simp
  · obtain ⟨j, _, rfl⟩ := List.mem_map.1 h
    unfold rgm inG; simp
/-- the last one of the list -/
theorem rn2_last {E : List Rg} (hp : E.Perm (rn2.filter (inG 0 9))) (hs : E.Pairwise fun a b => ltG b a = false) : E.length = 1024 ∧ (E.getD 1023 rgZ).lo = 3 := by
  rw [rn2_in] at hp
  have hl := hp.length_eq
  rw [rn2_len] at hl
  refine ⟨hl, ?_⟩
  have hm : rnB ∈ E := hp.mem_iff.2 (rn2_perm.mem_iff.2 (by simp))
  obtain ⟨k, hk, he⟩ := List.mem_iff_getElem.1 hm
  have hg : E.getD 1023 rgZ = E[1023]'(by omega) := by rw [List.getD_eq_getElem?_getD, List.getElem?_eq_getElem (by omega)]; rfl
  rw [hg]
  have h2 : E[1023]'(by omega) ∈ rn2 := hp.mem_iff.1 (List.getElem_mem _)
  by_cases e : k = 1023
  · subst e; rw [he]; rfl
  · rw [List.pairwise_iff_getElem] at hs
    have h1 := hs k 1023 hk (by omega) (by omega)
    rw [he, ltG_not] at h1
    rcases rn2_mem h2 with h3 | h3
    · rw [h3]; rfl
    · obtain ⟨j, _, h4⟩ := List.mem_map.1 h3
      rw [← h4] at h1
      rcases h1 with h1 | ⟨h1, _⟩ <;> exact absurd h1 (by simp [rnB, rgm])
end Go.Proofs.Ytifpjdodignflaa
end
