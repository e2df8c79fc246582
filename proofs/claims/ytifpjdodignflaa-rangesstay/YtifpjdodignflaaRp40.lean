/- Layer 16, the document's: SameHits, SameNames of lists that are alike. · Layer 16, the document's: Cover. · Layer 16: the law's fixed fact; RangesNil. · Layer 16: what Behind refuses. · Layer 16: Drop (Mkc's text, turned). · Layer 16: the program's ranges beside the document's: both states in memory; the document's New. -/
import Derived.Test.YtifpjdodignflaaRp39
import Derived.Test.YtifpjdodignflaaRp30
import Derived.Test.YtifpjdodignflaaRp20
import Derived.Test.YtifpjdodignflaaRp13
import Derived.Test.YtifpjdodignflaaRp33

section
namespace Go.Proofs.Ytifpjdodignflaa
open Go.ChangeShapes Go.WideShapes Go.ChangeAt Go.RowKit
attribute [local go_sem] Oper.semAt_some

/-- a list of pieces that lies there -/
def IsHs (W : World) (a : Option Addr) (d : List (Int × Int)) : Prop := d = [] ∨ ∃ g off, a = some ⟨g, off, none⟩ ∧ g < W.heap.size ∧ ∀ k, k < d.length →
  W.cell? ⟨g, off + k * 2, none⟩ = some (.int .i64 (d.getD k (0, 0)).1) ∧ W.cell? ⟨g, off + k * 2 + 1, none⟩ = some (.int .i64 (d.getD k (0, 0)).2)
theorem IsHs.below {W W' : World} {B : Nat} {a : Option Addr} {d : List (Int × Int)} (h : IsHs W a d) (hb : Below B W W') (hB : W.heap.size ≤ B) : IsHs W' a d := by
  rcases h with h | ⟨g, off, rfl, hg, hc⟩
  · exact Or.inl h
  · refine Or.inr ⟨g, off, rfl, Nat.lt_of_lt_of_le hg hb.size, fun k hk => ?_⟩
    obtain ⟨c0, c1⟩ := hc k hk
    exact ⟨(hb.cell (p := ⟨g, off + k * 2, none⟩) (by show g < B; omega)).trans c0, (hb.cell (p := ⟨g, off + k * 2 + 1, none⟩) (by show g < B; omega)).trans c1⟩
theorem IsHs.two {W : World} {a : Option Addr} {d : List (Int × Int)} (h : IsHs W a d) {k : Nat} (hk : k < d.length) : ∃ g off, a = some ⟨g, off, none⟩ ∧ g < W.heap.size ∧
    W.cell? ⟨g, off + k * 2, none⟩ = some (.int .i64 (d.getD k (0, 0)).1) ∧ W.cell? ⟨g, off + k * 2 + 1, none⟩ = some (.int .i64 (d.getD k (0, 0)).2) := by
  rcases h with h | ⟨g, off, rfl, hg, hc⟩
  · rw [h] at hk; simp at hk
  · exact ⟨g, off, rfl, hg, hc k hk⟩
theorem own_isHs {W : World} {B c : Nat} {a : Option Addr} {d : List (Int × Int)} (h : W.ownsRow B 59 2 (.slice a d.length c) d.length (hitsV d)) : IsHs W a d := by
  have hh := h
  rcases h.2 with ⟨e, h0⟩ | ⟨g, cap, cur, e, hB, hg, hc, hm, hs, ht⟩
  · exact Or.inl (List.length_eq_zero_iff.1 h0)
  · injection e with e1 e2 e3
    subst e1
    refine Or.inr ⟨g, 0, rfl, (Array.getElem?_eq_some_iff.1 hg).1, fun k hk => ?_⟩
    have f : ∀ j, j < 2 → W.cell? ⟨g, 0 + (k * 2 + j), none⟩ = (htL (d.getD k (0, 0)))[j]? := fun j hj => by
      have e := hitsV_get d k j hk hj
      obtain ⟨u, hu⟩ : ∃ u, (htL (d.getD k (0, 0)))[j]? = some u := ⟨_, List.getElem?_eq_getElem (by simpa [htL] using hj)⟩
      rw [hu] at e ⊢
      have := World.ownsRow.cells hh rfl (k * 2 + j) u e
      rwa [Addr.add_lit] at this
    exact ⟨f 0 (by decide), f 1 (by decide)⟩
set_option maxRecDepth 100000 in
set_option maxHeartbeats 2000000 in
theorem RSameHits_at (a : Option Addr) (c : Nat) (a' : Option Addr) (c' : Nat) (l : List (Int × Int)) (X : World) (h : IsHs X a l) (h' : IsHs X a' l) (hl : l.length ≤ 1048576) :
    Calls Try.prog 33 #[.slice a l.length c, .slice a' l.length c'] X fun y X' => y = .returned (.bool true) ∧ Below X.heap.size X X' := by
  have HL := hide h
  have HL' := hide h'
  obtain ⟨N, hN⟩ : ∃ N, N = l.length := ⟨_, rfl⟩
  have HN := hide hN
  rw [← hN] at hl ⊢
  clear hN h h'
  go_enter Try.func33, Try.ntmps33
  go_wp2_with fail
  go_loopw [5] (fun v5 wx => (∃ i : Nat, v5 = .int .i64 (i : Int) ∧ i ≤ N) ∧ Hid (Below X.heap.size X wx)) (fun v5 _ => N - (intOf v5).toNat)
  case atStart => exact ⟨⟨0, rfl, Nat.zero_le _⟩, hide (Below.refl _ _)⟩
  case round =>
    obtain ⟨⟨i, rfl, hi⟩, HB⟩ := hrel
    by_cases hlt : i < N
    · have t1 : decide ((i : Int) < (N : Int)) = true := decide_eq_true (by omega)
      have hlt' : i < l.length := by rw [← unhide HN]; exact hlt
      obtain ⟨g, off, rfl, hg, c0, c1⟩ := ((unhide HL).below (unhide HB) (Nat.le_refl _)).two hlt'
      obtain ⟨g', off', rfl, hg', e0, e1⟩ := ((unhide HL').below (unhide HB) (Nat.le_refl _)).two hlt'
      generalize l.getD i (0, 0) = m at *
      obtain ⟨ml, mh⟩ := m
      dsimp only at c0 c1 e0 e1
      have HB1 := hide (unhide HB).drew
      clear hg hg' HB hlt'
      go_upto_region 6 with fail
      go_region
      go_wp2_with fail
      go_roundw
      case rel => exact ⟨⟨i + 1, by go_num, hlt⟩, HB1⟩
      case measure => simp [intOf]; omega
    · obtain rfl : i = N := by omega
      have t1 : decide ((i : Int) < (i : Int)) = false := decide_eq_false (by omega)
      go_wp2_with fail
      refine bodyPost_ret (results_tmp rfl _ _ _) rfl ⟨rfl, unhide HB⟩
/-- a list of names that lies there -/
def IsNm (W : World) (a : Option Addr) (l : List ByteArray) : Prop := l = [] ∨ ∃ g, a = some ⟨g, 0, none⟩ ∧ g < W.heap.size ∧ ∀ j, j < l.length → W.cell? ⟨g, j, none⟩ = some (.string (l.getD j ⟨#[]⟩))
theorem own_isNm {W : World} {B c : Nat} {a : Option Addr} {l : List ByteArray} (h : W.ownsRow B 9 1 (.slice a l.length c) l.length (strsV l)) : IsNm W a l := by
  by_cases h0 : l = []
  · exact .inl h0
  · obtain ⟨g, c', e, _, hlt⟩ := h.form (List.length_pos_iff.2 h0)
    cases e
    exact .inr ⟨g, rfl, hlt, fun j hj => strs_cells h hj⟩
theorem IsNm.below {W W' : World} {B : Nat} {a : Option Addr} {l : List ByteArray} (h : IsNm W a l) (hb : Below B W W') (hB : W.heap.size ≤ B) : IsNm W' a l := by
  rcases h with h | ⟨g, e, hg, hc⟩
  · exact .inl h
  · exact .inr ⟨g, e, Nat.lt_of_lt_of_le hg hb.size, fun j hj => (hb.cell (p := ⟨g, j, none⟩) (by show g < B; omega)).trans (hc j hj)⟩
theorem IsNm.one {W : World} {a : Option Addr} {l : List ByteArray} (h : IsNm W a l) {j : Nat} (hj : j < l.length) : ∃ g, a = some ⟨g, 0, none⟩ ∧ W.cell? ⟨g, j, none⟩ = some (.string (l.getD j ⟨#[]⟩)) := by
  rcases h with h | ⟨g, e, hg, hc⟩
  · rw [h] at hj; simp at hj
  · exact ⟨g, e, hc j hj⟩
set_option maxRecDepth 100000 in
set_option maxHeartbeats 2000000 in
theorem RSameNames_at (a : Option Addr) (c : Nat) (a' : Option Addr) (c' : Nat) (l : List ByteArray) (X : World) (h : IsNm X a l) (h' : IsNm X a' l) (hl : l.length ≤ 1048576) :
    Calls Try.prog 26 #[.slice a l.length c, .slice a' l.length c'] X fun y X' => y = .returned (.bool true) ∧ Below X.heap.size X X' := by
  have HL := hide h
  have HL' := hide h'
  obtain ⟨N, hN⟩ : ∃ N, N = l.length := ⟨_, rfl⟩
  have HN := hide hN
  rw [← hN] at hl ⊢
  clear hN h h'
  go_enter Try.func26, Try.ntmps26
  go_wp2_with fail
  go_loopw [5] (fun v5 wx => (∃ i : Nat, v5 = .int .i64 (i : Int) ∧ i ≤ N) ∧ Hid (Below X.heap.size X wx)) (fun v5 _ => N - (intOf v5).toNat)
  case atStart => exact ⟨⟨0, rfl, Nat.zero_le _⟩, hide (Below.refl _ _)⟩
  case round =>
    obtain ⟨⟨i, rfl, hi⟩, HB⟩ := hrel
    by_cases hlt : i < N
    · have t1 : decide ((i : Int) < (N : Int)) = true := decide_eq_true (by omega)
      have hlt' : i < l.length := by rw [← unhide HN]; exact hlt
      obtain ⟨g, rfl, c0⟩ := ((unhide HL).below (unhide HB) (Nat.le_refl _)).one hlt'
      obtain ⟨g', rfl, e0⟩ := ((unhide HL').below (unhide HB) (Nat.le_refl _)).one hlt'
      generalize l.getD i ⟨#[]⟩ = m at *
      have HB1 := hide (unhide HB).drew
      clear HB hlt'
      go_upto_region 6 with fail
      go_region
      go_wp2_with fail
      go_roundw
      case rel => exact ⟨⟨i + 1, by go_num, hlt⟩, HB1⟩
      case measure => simp [intOf]; omega
    · obtain rfl : i = N := by omega
      have t1 : decide ((i : Int) < (i : Int)) = false := decide_eq_false (by omega)
      go_wp2_with fail
      refine bodyPost_ret (results_tmp rfl _ _ _) rfl ⟨rfl, unhide HB⟩
end Go.Proofs.Ytifpjdodignflaa
end

section
namespace Go.Proofs.Ytifpjdodignflaa
open Go.ChangeShapes Go.WideShapes Go.ChangeAt Go.RowKit
attribute [local go_sem] Oper.semAt_some

set_option maxRecDepth 100000 in
set_option maxHeartbeats 8000000 in
theorem RCoverR_at (n : Int) (a : Option Addr) (c : Nat) (l : List Rg) (X : World) (h : IsRl X a l) (hl : l.length ≤ 1048576) :
    Calls Try.prog 34 #[rsV n a l.length c] X fun y X' => ∃ a' c', y = .returned (.slice a' (covL l).length c') ∧ X'.ownsRow X.heap.size 59 2 (.slice a' (covL l).length c') (covL l).length (hitsV (covL l)) ∧ Below X.heap.size X X' := by
  unfold rsV
  have b1 := (Below.refl X.heap.size X).alloc (Nat.le_refl _) (.cells #[.int .i64 n, .slice a l.length c] 30)
  have HX := hide b1
  have HK := hide (Cls.new X 30 #[.int .i64 n, .slice a l.length c])
  have HL := hide (h.below b1 (Nat.le_refl _))
  obtain ⟨N, hN⟩ : ∃ N, N = l.length := ⟨_, rfl⟩
  have HN := hide hN
  rw [← hN] at hl HK HX HL ⊢
  clear hN b1 h
  go_enter Try.func34, Try.ntmps34
  go_wp2_with fail
  generalize X.alloc (.cells #[.int .i64 n, .slice a N c] 30) = X1 at *
  go_loopw [3, 4, 5, 6] (fun v3 v4 v5 v6 wx => ((∃ z, v5 = z) ∧ (∃ z, v6 = z)) ∧ ∃ i : Nat, v4 = .int .i64 (i : Int) ∧ i ≤ N ∧ Hid (CvJ X1 wx none 0 [] ((l.take i).foldl covS []) v3)) (fun _ v4 _ _ _ => N - (intOf v4).toNat)
  case atStart => exact ⟨⟨⟨_, rfl⟩, ⟨_, rfl⟩⟩, 0, rfl, Nat.zero_le _, hide ⟨World.ownsRow_nil _ _ _ _, World.ownsRow_nil _ _ _ _, Below.refl _ _⟩⟩
  case round =>
    obtain ⟨⟨⟨z1, rfl⟩, ⟨z2, rfl⟩⟩, i, rfl, hi, HJ⟩ := hrel
    have kx := (unhide HK).below (unhide HJ).d (unhide HK).lt
    obtain ⟨p0, p1⟩ := clsR_two kx
    by_cases hlt : i < N
    · have t1 : decide ((i : Int) < (N : Int)) = true := decide_eq_true (by omega)
      have hlt' : i < l.length := by rw [← unhide HN]; exact hlt
      have hql : ((l.take i).foldl covS []).length ≤ 1048576 := by
        have h1 := cov_len (l.take i) []
        rw [List.length_take] at h1
        simp only [List.length_nil] at h1
        omega
      have hst := cov_take hlt'
      obtain ⟨eg, eo, ha, heg, i0, i1, i2, i3, i4⟩ := ((unhide HL).below (unhide HJ).d (Nat.le_refl _)).five hlt'
      subst ha
      generalize l.getD i rgZ = m at *
      obtain ⟨mn, ml, mh, ms, me⟩ := m
      dsimp only at i0 i1 i2 i3 i4
      have HJ1 := hide ((unhide HJ).on ((Below.refl wr.heap.size wr).alloc (Nat.le_refl _) (.cells #[.string mn, .int .i64 ml, .int .i64 mh, .int .i64 ms, .int .i64 me] 37)))
      have HK1 := hide (Cls.new wr 37 #[.string mn, .int .i64 ml, .int .i64 mh, .int .i64 ms, .int .i64 me])
      have HST := hide hst
      have HQL := hide hql
      clear HJ hst hql hlt' kx heg
      generalize (l.take i).foldl covS [] = q at *
      obtain ⟨av, cv, hv, _⟩ := rowD_form (unhide HJ1).h
      subst hv
      go_upto_region 6 with fail
      clear i0 i1 i2 i3 i4 p0 p1
      generalize wr.alloc (.cells #[.string mn, .int .i64 ml, .int .i64 mh, .int .i64 ms, .int .i64 me] 37) = w2 at *
      generalize wr.heap.size = bx at *
      obtain ⟨_, c1, c2, _, _⟩ := clsR_five (unhide HK1)
      by_cases hq : q = []
      · subst hq
        rw [covS_nil] at HST
        rw [List.length_nil] at HJ1 ⊢
        go_upto_region 7 with fail
        go_quiet (fail)
        obtain ⟨v', W', ra, hj2⟩ := ((unhide HJ1).on (below_drewN (Below.refl _ _) nq)).push (Nat.zero_le _) ml mh
        have R := hide ra
        have HJ2 := hide hj2
        clear ra hj2 HJ1
        go_upto_region 8 with fail
        go_wp2_with (at_builtin; refine wpList_append_known rfl _ _ 56 56 rfl _ _ rfl rfl _ _ (unhide R) ?_; clear R)
        go_roundw
        case rel => exact ⟨⟨⟨_, rfl⟩, ⟨_, rfl⟩⟩, i + 1, by go_num, hlt, hide (by rw [unhide HST]; exact unhide HJ2)⟩
        case measure => simp [intOf]; omega
      · obtain ⟨e, ⟨u, v⟩, rfl⟩ : ∃ e p, q = e ++ [p] := ⟨q.dropLast, q.getLast hq, (List.dropLast_concat_getLast hq).symm⟩
        rw [covS_snoc] at HST
        have hcl := (unhide HJ1).cells
        have hql := unhide HQL
        have hm1 : e.length + 1 ≤ 1048576 := by simpa using hql
        obtain ⟨hg, hk, hv, b1, f1, hset⟩ := hcl
        injection hv with hv1 hv2 hv3
        subst hv1 hv3
        rw [hv2] at HJ1 ⊢
        have hm : e.length ≤ 1073741824 := by omega
        have hqs : (e ++ [(u, v)]).length ≤ 1099511627776 := by rw [hv2]; omega
        have HQS := hide hqs
        have hlast := last_arith hm
        clear hql hv2 hm1 hset HQL hqs hq
        generalize hem : e.length = m at *
        have HEM := hide hem
        clear hem
        obtain ⟨e1, e2, e3, t9, t9', hltm⟩ := hlast
        have t8 : decide ((m : Int) < 0) = false := decide_eq_false (Int.not_lt.2 (Int.natCast_nonneg m))
        have hl3 : (m : Int) < (m : Int) + 1 := Int.lt_succ _
        clear e1 e3 t9 t9'
        by_cases hvl : v < ml
        · have t7 : decide (v < ml) = true := decide_eq_true hvl
          rw [if_pos hvl] at HST
          clear hvl
          go_upto_region 7 with fail
          go_quiet (fail)
          obtain ⟨v', W', ra, hj2⟩ := ((unhide HJ1).on (below_drewN (Below.refl _ _) nq)).push (unhide HQS) ml mh
          have R := hide ra
          have HJ2 := hide hj2
          clear ra hj2 HJ1 b1 f1
          go_upto_region 8 with fail
          go_wp2_with (at_builtin; refine wpList_append_known rfl _ _ 56 56 rfl _ _ rfl rfl _ _ (unhide R) ?_; clear R)
          go_roundw
          case rel => exact ⟨⟨⟨_, rfl⟩, ⟨_, rfl⟩⟩, i + 1, by go_num, hlt, hide (by rw [unhide HST]; exact unhide HJ2)⟩
          case measure => simp [intOf]; omega
        · have t7 : decide (v < ml) = false := decide_eq_false hvl
          rw [if_neg hvl] at HST
          clear hvl
          go_upto_region 7 with fail
          go_quiet (fail)
          have b2 : (w2.drewN nq).cell? ⟨hg, m * 2 + 1, none⟩ = some (.int .i64 v) := b1
          have g2 : (w2.drewN nq).cell? ⟨bx, 2, none⟩ = some (.int .i64 mh) := c2
          have HJ3 := hide ((unhide HJ1).on (below_drewN (Below.refl _ _) nq))
          clear b1 c1 c2 f1 HJ1 HK1
          go_upto_region 9 with fail
          generalize w2.drewN nq = w3 at *
          by_cases hvh : v < mh
          · have t6 : decide (v < mh) = true := decide_eq_true hvh
            have hmx : max v mh = mh := by omega
            go_quiet (fail)
            have j4 := (unhide HJ3).on (below_drewN (Below.refl w3.heap.size w3) nq)
            obtain ⟨g8, k8, hv8, d1, f8, hset8⟩ := j4.cells
            rw [unhide HEM] at d1 f8 hset8 hv8
            injection hv8 with q1 q2 q3
            injection q1 with q1
            injection q1 with q1
            subst q1
            have h2 : (w3.drewN nq).cell? ⟨bx, 2, none⟩ = some (.int .i64 mh) := g2
            have HJ8 := hide (hset8 mh)
            rw [show max v mh = mh from hmx] at HST
            clear b2 g2 j4 hset8 q2 q3 HJ3 hvh hmx t6
            go_wp2_with fail
            refine ⟨⟨⟨⟨_, rfl⟩, ⟨_, rfl⟩⟩, i + 1, by go_num, hlt, hide (by rw [unhide HST]; exact unhide HJ8)⟩, ?_⟩
            simp [intOf]; omega
          · have t6 : decide (v < mh) = false := decide_eq_false hvh
            have hmx : max v mh = v := by omega
            go_quiet (fail)
            have HJ4 := hide ((unhide HJ3).on (below_drewN (Below.refl w3.heap.size w3) nq))
            clear b2 g2 HJ3 hvh
            go_wp2_with fail
            refine ⟨⟨⟨⟨_, rfl⟩, ⟨_, rfl⟩⟩, i + 1, by go_num, hlt, hide (by rw [unhide HST, show max v mh = v from hmx]; exact unhide HJ4)⟩, ?_⟩
            simp [intOf]; omega
    · obtain rfl : i = N := by omega
      have t1 : decide ((i : Int) < (i : Int)) = false := decide_eq_false (by omega)
      have hta : l.take i = l := by rw [unhide HN]; exact List.take_length
      rw [hta] at HJ
      obtain ⟨av, cv, hv, _⟩ := rowD_form (unhide HJ).h
      subst hv
      have HO := hide (rowD_base (unhide HJ).h (unhide HX).size)
      have HB := hide ((unhide HX).trans ((unhide HJ).d.mono (unhide HX).size))
      clear HJ hta kx hlt
      change Hid (wr.ownsRow X.heap.size 59 2 (.slice av (covL l).length cv) (covL l).length (hitsV (covL l))) at HO
      go_wp2_with fail
      refine bodyPost_ret (results_tmp rfl _ _ _) rfl ?_
      exact ⟨av, cv, rfl, unhide HO, unhide HB⟩
end Go.Proofs.Ytifpjdodignflaa
end

section
namespace Go.Proofs.Ytifpjdodignflaa
open Go.ChangeShapes Go.WideShapes Go.ChangeAt Go.RowKit
attribute [local go_sem] Oper.semAt_some

def exR : Rg := ⟨⟨#[97]⟩, 2, 5, 2, 1⟩
def exD16 : List Dop := [⟨1, 2, []⟩, ⟨2, 0, [120, 121]⟩, ⟨1, 8, []⟩]
theorem ex16_v : valB exD16 = true ∧ frD exD16 = 10 ∧ toD exD16 = 12 := by decide
theorem ex16_p : plV exD16 2 2 = 4 ∧ plV exD16 5 1 = 7 := by decide
theorem ex16_r : refG 10 [] exR = 0 := by decide
theorem ex16_k : kpG exD16 [exR] = [⟨⟨#[97]⟩, 4, 7, 2, 1⟩] ∧ goG exD16 [exR] = [] := by
  have e : mvG exD16 exR = ⟨⟨#[97]⟩, 4, 7, 2, 1⟩ := by
    unfold mvG exR
    dsimp only
    rw [ex16_p.1, ex16_p.2]
  unfold kpG goG
  rw [List.map_singleton, e]
  exact ⟨rfl, rfl⟩
theorem lit_isOR (X : World) (ds : List Dop) (cs : Array Value) (h : cs.toList = opsV ds) : IsO (X.alloc (.cells cs 54)) (some ⟨X.heap.size, 0, none⟩) ds := by
  refine Or.inr ⟨_, _, rfl, by simp, fun k hk => ?_⟩
  have f : ∀ j, (X.alloc (.cells cs 54)).cell? ⟨X.heap.size, j, none⟩ = cs[j]? := fun j => World.cell?_alloc_mark X _ _ (0, 0) j
  have g : ∀ j, j < 3 → cs[k * 3 + j]? = (opL (ds.getD k opZ))[j]? := fun j hj => by
    rw [← opsV_get ds k j hk hj, ← h, Array.getElem?_toList]
  refine ⟨?_, ?_, ?_⟩
  · rw [Nat.zero_add, f]; exact g 0 (by decide)
  · rw [Nat.zero_add, f]; exact g 1 (by decide)
  · rw [Nat.zero_add, f]; exact g 2 (by decide)
set_option maxRecDepth 100000 in
set_option maxHeartbeats 2000000 in
theorem awake16_at (X : World) : Calls Try.prog 8 #[] X fun y X' => y = .returned (.bool true) ∧ Below X.heap.size X X' := by
  have H1 := hide (GNew_at 10 X (by decide))
  have H2 := hide fun (Y : World) (g : Nat) (h : IsRs Y g 10 []) => GSet_at g 10 [] exR Y h ex16_r
  have H3 := hide fun (Y : World) (g : Nat) (h : IsRs Y g 10 [exR]) => GBeh_at g 10 [exR] (some ⟨Y.heap.size, 0, none⟩) 3 exD16 (Y.alloc (.cells #[.int .i64 1, .int .i64 2, .string ⟨#[]⟩, .int .i64 2, .int .i64 0, .string ⟨#[120, 121]⟩, .int .i64 1, .int .i64 8, .string ⟨#[]⟩] 54)) (h.below ((Below.refl _ _).alloc (Nat.le_refl _) _) (Nat.le_refl _)) (lit_isOR Y exD16 _ (by kernel_rfl)) (by decide) ex16_v.1 (by rw [ex16_v.2.1]; rfl) (by simp) (by simp)
  have H4 := hide fun (Y : World) (g : Nat) (h : IsRs Y g 12 [⟨⟨#[97]⟩, 4, 7, 2, 1⟩]) => GGet_at g 12 [⟨⟨#[97]⟩, 4, 7, 2, 1⟩] ⟨#[97]⟩ Y h
  rw [show ((getG ⟨#[97]⟩ [(⟨⟨#[97]⟩, 4, 7, 2, 1⟩ : Rg)]).map rgV).getD (.agg #[.string ⟨#[]⟩, .int .i64 0, .int .i64 0, .int .i64 0, .int .i64 0]) = .agg #[.string ⟨#[97]⟩, .int .i64 4, .int .i64 7, .int .i64 2, .int .i64 1] from rfl, show (getG ⟨#[97]⟩ [(⟨⟨#[97]⟩, 4, 7, 2, 1⟩ : Rg)]).isSome = true from rfl] at H4
  rw [show rgV exR = .agg #[.string ⟨#[97]⟩, .int .i64 2, .int .i64 5, .int .i64 2, .int .i64 1] from rfl, show putG exR [] = [exR] from rfl] at H2
  rw [show exD16.length = 3 from rfl, ex16_v.2.2] at H3
  go_enter Try.func8, Try.ntmps8
  go_wp2_with fail
  refine (unhide H1).mono ?_
  rintro y w1 ⟨g1, rfl, _, s1, x1⟩
  dsimp only
  have HX1 := hide x1
  have HC2 := hide (unhide H2 w1 g1 s1)
  clear H1 H2 s1 x1
  go_wp2_with fail
  refine (unhide HC2).mono ?_
  rintro y w2 ⟨g2, rfl, s2, x2⟩
  dsimp only
  have HX2 := hide ((unhide HX1).trans (x2.mono (unhide HX1).size))
  have HC3 := hide (unhide H3 w2 g2 s2)
  clear HC2 HX1 H3 s2 x2
  go_wp2_with fail
  refine (unhide HC3).mono ?_
  rintro y w3 ⟨g3, S, ag, cg, rfl, hp, s3, x3⟩
  dsimp only
  obtain rfl : S = [exR] := List.perm_singleton.1 hp
  rw [ex16_k.1] at s3
  rw [ex16_k.2]
  have b3 := (Below.refl w2.heap.size w2).alloc (Nat.le_refl _) (.cells #[.int .i64 1, .int .i64 2, .string ⟨#[]⟩, .int .i64 2, .int .i64 0, .string ⟨#[120, 121]⟩, .int .i64 1, .int .i64 8, .string ⟨#[]⟩] 54)
  have HX3 := hide ((unhide HX2).trans ((b3.trans (x3.mono b3.size)).mono (unhide HX2).size))
  have HC4 := hide (unhide H4 w3 g3 s3)
  clear HC3 HX2 H4 hp s3 x3 b3
  go_wp2_with fail
  refine (unhide HC4).mono ?_
  rintro y w4 ⟨rfl, x4⟩
  dsimp only
  have hx4 := (unhide HX3).trans (x4.mono (unhide HX3).size)
  have k5 := Cls.new w4 37 #[.string ⟨#[97]⟩, .int .i64 4, .int .i64 7, .int .i64 2, .int .i64 1]
  have c1 := k5.cell 1
  have c2 := k5.cell 2
  simp only [List.getElem?_toArray, List.getElem?_cons_zero, List.getElem?_cons_succ] at c1 c2
  have HB := hide (hx4.alloc hx4.size (.cells #[.string ⟨#[97]⟩, .int .i64 4, .int .i64 7, .int .i64 2, .int .i64 1] 37))
  clear HC4 HX3 x4 hx4 k5
  go_wp2_with fail
  refine bodyPost_ret (results_tmp rfl _ _ _) rfl ⟨rfl, unhide HB⟩
end Go.Proofs.Ytifpjdodignflaa
end

section
namespace Go.Proofs.Ytifpjdodignflaa
open Go.ChangeShapes Go.WideShapes Go.ChangeAt Go.RowKit
attribute [local go_sem] Oper.semAt_some

set_option maxRecDepth 100000 in
set_option maxHeartbeats 2000000 in
theorem GBehV_at (g : Nat) (a : Option Addr) (c : Nat) (d : List Dop) (X : World) (ho : IsO X a d) (hl : d.length ≤ 4611686018427387904) (hv : valB d = false) :
    Calls Try.prog 15 #[.pointer (some ⟨g, 0, none⟩), .slice a d.length c] X fun y X' => y = .returned (.tuple #[.pointer none, .slice none 0 0, .int .i64 130]) ∧ Below X.heap.size X X' := by
  have HLN := hide (Lens_at a c d X ho hl)
  unfold lensV at HLN
  rw [hv] at HLN
  simp only [Bool.false_eq_true, if_false] at HLN
  clear ho hl hv
  go_enter Try.func15, Try.ntmps15
  go_wp2_with fail
  refine (unhide HLN).mono ?_
  rintro y w1 ⟨rfl, x1⟩
  dsimp only
  have HX := hide x1
  clear HLN x1
  go_wp2_with fail
  refine bodyPost_ret (results_tmp3 rfl _ _) rfl ⟨rfl, unhide HX⟩
set_option maxRecDepth 100000 in
set_option maxHeartbeats 2000000 in
theorem GBehF_at (g : Nat) (n : Int) (L : List Rg) (a : Option Addr) (c : Nat) (d : List Dop) (X : World) (h : IsRs X g n L) (ho : IsO X a d) (hl : d.length ≤ 4611686018427387904) (hv : valB d = true) (hf : (frD d : Int) ≠ n) :
    Calls Try.prog 15 #[.pointer (some ⟨g, 0, none⟩), .slice a d.length c] X fun y X' => y = .returned (.tuple #[.pointer none, .slice none 0 0, .int .i64 131]) ∧ Below X.heap.size X X' := by
  have HLN := hide (Lens_at a c d X ho hl)
  unfold lensV at HLN
  rw [hv] at HLN
  simp only [if_true] at HLN
  have HS := hide h
  have t1 : ((frD d : Int) != n) = true := by simpa using hf
  have t1' : ((frD d : Int) == n) = false := by simpa using hf
  clear ho hl hv h hf
  generalize (frD d : Int) = FD at *
  generalize (toD d : Int) = TD at *
  go_enter Try.func15, Try.ntmps15
  go_wp2_with fail
  refine (unhide HLN).mono ?_
  rintro y w1 ⟨rfl, x1⟩
  dsimp only
  obtain ⟨r, kg, _⟩ := ((unhide HS).below x1 (Nat.le_refl _)).c
  have c0 := kg.cell 0
  simp only [List.getElem?_toArray, List.getElem?_cons_zero] at c0
  have HX := hide x1
  clear HLN x1 HS kg
  go_wp2_with fail
  refine bodyPost_ret (results_tmp3 rfl _ _) rfl ⟨rfl, unhide HX⟩
end Go.Proofs.Ytifpjdodignflaa
end

section
namespace Go.Proofs.Ytifpjdodignflaa
open Go.ChangeShapes Go.WideShapes Go.ChangeAt Go.RowKit
attribute [local go_sem] Oper.semAt_some

set_option maxRecDepth 100000 in
set_option maxHeartbeats 1000000 in
theorem GDropE_at (g : Nat) (n : Int) (L : List Rg) (s : ByteArray) (X : World) (h : IsRs X g n L) (hg : getG s L = none) :
    Calls Try.prog 23 #[.pointer (some ⟨g, 0, none⟩), .string s] X fun y X' => y = .returned (.tuple #[.pointer none, .int .i64 150]) ∧ Below X.heap.size X X' := by
  obtain ⟨r, h1, h2⟩ := h.c
  have c1 := h1.cell 1
  simp only [List.getElem?_toArray, List.getElem?_cons_zero, List.getElem?_cons_succ] at c1
  have R := run_lookup_rg (P := Try.prog) X Try.underlying65 Try.underlying9 (zero_rg _) h2 s
  rw [hg] at R
  simp only [Option.map_none, Option.getD_none, Option.isSome_none] at R
  have HB := hide ((Below.refl X.heap.size X).alloc (Nat.le_refl _) (.cells #[.string ⟨#[]⟩, .int .i64 0, .int .i64 0, .int .i64 0, .int .i64 0] 37))
  clear h h1 h2 hg
  go_enter Try.func23, Try.ntmps23
  go_wp2_with fail
  refine bodyPost_ret (results_tmp2 rfl _ _ _) rfl ⟨rfl, unhide HB⟩
set_option maxRecDepth 100000 in
set_option maxHeartbeats 2000000 in
theorem GDrop_at (g : Nat) (n : Int) (L : List Rg) (s : ByteArray) (X : World) (h : IsRs X g n L) (m : Rg) (hg : getG s L = some m) :
    Calls Try.prog 23 #[.pointer (some ⟨g, 0, none⟩), .string s] X fun y X' => ∃ g', y = .returned (.tuple #[.pointer (some ⟨g', 0, none⟩), .int .i64 0]) ∧ IsRs X' g' n (delG s L) ∧ Below X.heap.size X X' := by
  obtain ⟨r, h1, h2⟩ := h.c
  have c1 := h1.cell 1
  simp only [List.getElem?_toArray, List.getElem?_cons_zero, List.getElem?_cons_succ] at c1
  have R := run_lookup_rg (P := Try.prog) X Try.underlying65 Try.underlying9 (zero_rg _) h2 s
  rw [hg] at R
  simp only [Option.map_some, Option.getD_some, Option.isSome_some, rgV] at R
  obtain ⟨mn, ml, mh, ms, me⟩ := m
  dsimp only at R
  have b1 := (Below.refl X.heap.size X).alloc (Nat.le_refl _) (.cells #[.string mn, .int .i64 ml, .int .i64 mh, .int .i64 ms, .int .i64 me] 37)
  have h9 := h.below b1 (Nat.le_refl _)
  have HB := hide b1
  have H9 := hide h9
  clear h h1 h2 hg b1 h9
  go_enter Try.func23, Try.ntmps23
  go_upto_region 6 with fail
  clear R c1
  generalize X.alloc (.cells #[.string mn, .int .i64 ml, .int .i64 mh, .int .i64 ms, .int .i64 me] 37) = w1 at *
  obtain ⟨r1, k1, k2⟩ := (unhide H9).c
  have c1 := k1.cell 1
  simp only [List.getElem?_toArray, List.getElem?_cons_zero, List.getElem?_cons_succ] at c1
  have HC := hide (GClone_at r1 L w1 k2)
  have HK := hide k1
  clear k1 k2 H9
  go_wp2_with fail
  refine (unhide HC).mono ?_
  rintro y w2 ⟨rfl, m2, x2⟩
  dsimp only
  obtain ⟨o, R2, m3⟩ := run_delete_rg (P := Try.prog) (ty := 0) w2 Try.underlying65 Try.underlying9 m2 s
  have kk := (unhide HK).below x2 (unhide HK).lt
  have hne : w1.heap.size ≠ g := (Nat.ne_of_lt (unhide HK).lt).symm
  have k3 : Cls { w2 with heap := w2.heap.setIfInBounds w1.heap.size o } g 67 #[.int .i64 n, .map (some r1)] := kk.same (by simp [hne])
  have b3 := belowR_block ((unhide HB).trans (x2.mono (unhide HB).size)) o (unhide HB).size
  have c0 := k3.cell 0
  simp only [List.getElem?_toArray, List.getElem?_cons_zero] at c0
  clear HC c1 HK HB kk k3 m2 x2 hne
  have R2' := R2
  generalize ({ w2 with heap := w2.heap.setIfInBounds w1.heap.size o } : World) = w3 at *
  generalize w1.heap.size = rn at *
  have k5 := Cls.new w3 67 #[.int .i64 n, .map (some rn)]
  have m5 : IsRp (w3.alloc (.cells #[.int .i64 n, .map (some rn)] 67)) rn (delG s L) := m3.same (heap_alloc_old _ _ m3.lt)
  have HR : Hid (IsRs (w3.alloc (.cells #[.int .i64 n, .map (some rn)] 67)) w3.heap.size n (delG s L)) := hide ⟨_, k5, m5⟩
  have HB5 := hide (b3.alloc b3.size (.cells #[.int .i64 n, .map (some rn)] 67))
  clear k5 m5 m3 b3 R2'
  go_wp2_with fail
  refine bodyPost_ret (results_tmp2 rfl _ _ _) rfl ⟨_, rfl, unhide HR, unhide HB5⟩
end Go.Proofs.Ytifpjdodignflaa
end

section
namespace Go.Proofs.Ytifpjdodignflaa
open Go.ChangeShapes Go.WideShapes Go.ChangeAt Go.RowKit
attribute [local go_sem] Oper.semAt_some

theorem plR_bounds {d : List Dop} {p g : Int} (hv : valB d = true) (hp : 0 ≤ p ∧ p ≤ frD d) (hg : g = 1 ∨ g = 2) : 0 ≤ plV d p g ∧ plV d p g ≤ toD d := by
  obtain ⟨hG, hL, hT⟩ := to_ch hv
  rw [(pl_zero hv hp hg).2]
  have z := mv_zero _ hG
  have m1 := mv_mono 1 _ (-1) 0 p 0 hG (by omega) hp.1
  have m2 := mv_mono 2 _ (-1) p (frD d) 0 hG (by omega) hp.2
  have e := mv_end _ (-1) (frD d : Int) 0 hG hL
  have lr := mv_lr (runL d).2 p 0
  rcases hg with rfl | rfl <;> omega
theorem toDR_q {d : List Dop} (hv : valB d = true) : 0 ≤ (toD d : Int) ∧ (toD d : Int) ≤ 268435456 := by
  have := (valB_nn hv).2
  omega
theorem InR.perm {n : Int} {A B : List Rg} (h : InR n A) (hp : B.Perm A) : InR n B := fun x hx => h x (hp.mem_iff.1 hx)
theorem InR.del {n : Int} {D : List Rg} (h : InR n D) (s : ByteArray) : InR n (delG s D) := fun x hx => h x ((del_sub s D).mem hx)
theorem InR.kp {d : List Dop} {S : List Rg} (h : InR (frD d) S) (hv : valB d = true) : InR (toD d) (kpG d S) := fun x hx => by
  unfold kpG at hx
  obtain ⟨hx1, hx2⟩ := List.mem_filter.1 hx
  obtain ⟨y, hy, rfl⟩ := List.mem_map.1 hx1
  obtain ⟨⟨h1, h2, h3⟩, h4, h5⟩ := h y hy
  have k1 := plR_bounds hv ⟨h1, by omega⟩ h4
  have k2 := plR_bounds hv (p := y.hi) ⟨by omega, h3⟩ h5
  exact ⟨⟨k1.1, of_decide_eq_true hx2, k2.2⟩, h4, h5⟩
/-- both states: the program's ranges and the document's -/
structure StR (X : World) (g : Nat) (n : Int) (L : List Rg) (a : Option Addr) (D : List Rg) : Prop where
  m : IsRs X g n L
  k : IsRl X a D
  r : Rel L D
  p : InR n L
  l : D.length ≤ 1024
  q : 0 ≤ n ∧ n ≤ 268435456
  t : D = [] ∨ ∃ b off cur mk, a = some ⟨b, off, none⟩ ∧ X.heap[b]? = some (.cells cur 37 mk)
theorem ownR_typ {W : World} {N : Nat} {a : Option Addr} {c : Nat} {D : List Rg} (h : W.ownsRow N 37 5 (.slice a D.length c) D.length (rgsV D)) : D = [] ∨ ∃ b off cur mk, a = some ⟨b, off, none⟩ ∧ W.heap[b]? = some (.cells cur 37 mk) := by
  rcases h.2 with ⟨e, h0⟩ | ⟨b, c', cur, e, _, hb, _⟩
  · exact .inl (List.length_eq_zero_iff.1 h0)
  · cases e
    exact .inr ⟨b, 0, cur, _, rfl, hb⟩
theorem StR.below {X Y : World} {g N : Nat} {n : Int} {L : List Rg} {a : Option Addr} {D : List Rg} (h : StR X g n L a D) (hb : Below N X Y) (hN : X.heap.size ≤ N) : StR Y g n L a D :=
  ⟨h.m.below hb hN, h.k.below hb hN, h.r, h.p, h.l, h.q, by
    rcases h.t with h1 | ⟨b, off, cur, mk, e, hc⟩
    · exact .inl h1
    · exact .inr ⟨b, off, cur, mk, e, (hb.block b (Nat.lt_of_lt_of_le (Array.getElem?_eq_some_iff.1 hc).1 hN)).trans hc⟩⟩
theorem refG_perm {n : Int} {L D : List Rg} (h : Rel L D) (x : Rg) : refG n D x = refG n L x := by
  unfold refG; rw [h.get, h.len]
/-- what a store into another kind of block leaves -/
theorem IsRs.put2 {W : World} {g : Nat} {n : Int} {L : List Rg} (h : IsRs W g n L) {B : Nat} {a b : Value} (hb : Cls W B 30 #[a, b]) (u v : Value) : IsRs ((W.setCell ⟨B, 0, none⟩ u).setCell ⟨B, 1, none⟩ v) g n L := by
  obtain ⟨r, h1, h2⟩ := h.c
  have hg : g ≠ B := fun e => by
    unfold Cls at h1 hb
    rw [e, hb] at h1; cases h1
  have hr : r ≠ B := fun e => by
    obtain ⟨es, clock, h3, _⟩ := h2
    unfold Cls at hb
    rw [e, hb] at h3; cases h3
  exact ⟨r, (h1.other ⟨B, 0, none⟩ _ hg).other ⟨B, 1, none⟩ _ hg, (h2.same (Below.heap_setCell _ ⟨B, 0, none⟩ _ r hr)).same (Below.heap_setCell _ ⟨B, 1, none⟩ _ r hr)⟩
theorem rowR_put2 {W : World} {N s : Nat} {t : TypeId} {vv : Value} {k : Nat} {xs : List Value} (h : W.ownsRow N t s vv k xs) {B : Nat} {a b : Value} (hb : Cls W B 30 #[a, b]) (ht : t ≠ 30) (u v : Value) : ((W.setCell ⟨B, 0, none⟩ u).setCell ⟨B, 1, none⟩ v).ownsRow N t s vv k xs := rowD_on h fun G hG => by
  have hne : G ≠ B := fun e => by
    obtain ⟨_, cur, hc⟩ := rowD_block h hG
    unfold Cls at hb
    rw [e, hb] at hc
    cases hc
    exact ht rfl
  rw [Below.heap_setCell _ ⟨B, 1, none⟩ _ G hne, Below.heap_setCell _ ⟨B, 0, none⟩ _ G hne]
/-- a store into a block of the document's ranges leaves both states -/
theorem StR.put2 {X : World} {g : Nat} {n : Int} {L : List Rg} {a : Option Addr} {D : List Rg} (h : StR X g n L a D) {B : Nat} {p q : Value} (hb : Cls X B 30 #[p, q]) (u v : Value) : StR ((X.setCell ⟨B, 0, none⟩ u).setCell ⟨B, 1, none⟩ v) g n L a D := by
  have hne : ∀ b cur mk, X.heap[b]? = some (.cells cur 37 mk) → b ≠ B := fun b cur mk hc e => by
    unfold Cls at hb
    rw [e, hb] at hc; cases hc
  have hblk : ∀ b, b ≠ B → ((X.setCell ⟨B, 0, none⟩ u).setCell ⟨B, 1, none⟩ v).heap[b]? = X.heap[b]? := fun b hb' => by
    rw [Below.heap_setCell _ ⟨B, 1, none⟩ _ b hb', Below.heap_setCell _ ⟨B, 0, none⟩ _ b hb']
  refine ⟨h.m.put2 hb u v, ?_, h.r, h.p, h.l, h.q, ?_⟩
  · rcases h.t with h1 | ⟨b, off, cur, mk, e, hc⟩
    · exact .inl h1
    · rcases h.k with h1 | ⟨b', off', e', hlt, hk⟩
      · exact .inl h1
      · rw [e] at e'
        cases e'
        refine .inr ⟨b, off, e, by rw [setCell_size, setCell_size]; exact hlt, fun k hk' => ?_⟩
        have hx := hblk b (hne b cur mk hc)
        have f : ∀ o : Nat, ((X.setCell ⟨B, 0, none⟩ u).setCell ⟨B, 1, none⟩ v).cell? ⟨b, o, none⟩ = X.cell? ⟨b, o, none⟩ := fun o => World.cell?_of_block (a := ⟨b, o, none⟩) hx
        obtain ⟨c0, c1, c2, c3, c4⟩ := hk k hk'
        exact ⟨(f _).trans c0, (f _).trans c1, (f _).trans c2, (f _).trans c3, (f _).trans c4⟩
  · rcases h.t with h1 | ⟨b, off, cur, mk, e, hc⟩
    · exact .inl h1
    · exact .inr ⟨b, off, cur, mk, e, (hblk b (hne b cur mk hc)).trans hc⟩
theorem ClsR.apart2 {W : World} {B C : Nat} {t' : TypeId} {cs : Array Value} (h : Cls W C t' cs) (hne : C ≠ B) (u v : Value) : Cls ((W.setCell ⟨B, 0, none⟩ u).setCell ⟨B, 1, none⟩ v) C t' cs := (h.other ⟨B, 0, none⟩ u hne).other ⟨B, 1, none⟩ v hne
/-- the lists of both tell the same -/
theorem StR.list {X : World} {g : Nat} {n : Int} {L : List Rg} {a : Option Addr} {D : List Rg} (h : StR X g n L a D) {E : List Rg} (hE : E.Perm (L.filter (inG 0 n))) (hs : E.Pairwise fun a b => ltG b a = false) : E = D := by
  rw [h.p.all h.q.1] at hE
  exact srt_one (hE.trans h.r.p.symm) (srt_of (h.r.u.perm (h.r.p.trans hE.symm)) hs) h.r.s
theorem StR.over {X : World} {g : Nat} {n : Int} {L : List Rg} {a : Option Addr} {D : List Rg} (h : StR X g n L a D) {lo hi : Int} {E : List Rg} (hE : E.Perm (L.filter (inG lo hi))) (hs : E.Pairwise fun a b => ltG b a = false) : E = D.filter (inG lo hi) := h.r.some _ hE hs
theorem StR.len {X : World} {g : Nat} {n : Int} {L : List Rg} {a : Option Addr} {D : List Rg} (h : StR X g n L a D) : L.length ≤ 1024 := by rw [h.r.len]; exact h.l
theorem StR.pd {X : World} {g : Nat} {n : Int} {L : List Rg} {a : Option Addr} {D : List Rg} (h : StR X g n L a D) : InR n D := h.p.perm h.r.p
theorem StR.ul {X : World} {g : Nat} {n : Int} {L : List Rg} {a : Option Addr} {D : List Rg} (h : StR X g n L a D) : (L.map (·.n)).Nodup := Unl.perm h.r.u h.r.p
theorem StR.len2 {X : World} {g : Nat} {n : Int} {L : List Rg} {a : Option Addr} {D : List Rg} (h : StR X g n L a D) : L.length ≤ 1048576 := Nat.le_trans h.len (by decide)
theorem StR.len3 {X : World} {g : Nat} {n : Int} {L : List Rg} {a : Option Addr} {D : List Rg} (h : StR X g n L a D) : D.length ≤ 1048576 := Nat.le_trans h.l (by decide)
/-- the lists behind each kind of call -/
theorem StR.put_l {X : World} {g : Nat} {n : Int} {L : List Rg} {a : Option Addr} {D : List Rg} (h : StR X g n L a D) {x : Rg} (hr : refG n L x = 0) : Rel (putG x L) (insG x (delG x.n D)) ∧ InR n (putG x L) ∧ (insG x (delG x.n D)).length ≤ 1024 := by
  have h1 := h.r.put x
  refine ⟨h1, h.p.put hr, ?_⟩
  rw [← h1.len]
  exact put_many h.len hr
theorem StR.del_l {X : World} {g : Nat} {n : Int} {L : List Rg} {a : Option Addr} {D : List Rg} (h : StR X g n L a D) (s : ByteArray) : Rel (delG s L) (delG s D) ∧ InR n (delG s L) ∧ (delG s D).length ≤ 1024 := ⟨h.r.del s, h.p.del s, Nat.le_trans (del_sub s D).length_le h.l⟩
theorem StR.beh_l {X : World} {g : Nat} {n : Int} {L : List Rg} {a : Option Addr} {D S : List Rg} (h : StR X g n L a D) {d : List Dop} (hv : valB d = true) (hf : (frD d : Int) = n) (hS : S.Perm L) : Rel (kpG d S) (behL d D).1 ∧ InR (toD d) (kpG d S) ∧ (behL d D).1.length ≤ 1024 ∧ (behL d D).2.length ≤ 1024 := by
  have hb := behL_len d D ([], [])
  simp only [List.length_nil] at hb
  have hl := h.l
  refine ⟨h.r.beh d hS, InR.kp ?_ hv, ?_, ?_⟩
  · rw [hf]; exact h.p.perm hS
  · unfold behL; omega
  · unfold behL; omega
set_option maxRecDepth 100000 in
set_option maxHeartbeats 1000000 in
theorem RNewR_at (n : Int) (X : World) (h : 0 ≤ n ∧ n ≤ 268435456) :
    Calls Try.prog 10 #[.int .i64 n] X fun y X' => y = .returned (.tuple #[.agg #[.int .i64 n, .slice none 0 0], .int .i64 0]) ∧ Below X.heap.size X X' := by
  have t1 : decide (n < 0) = false := decide_eq_false (by omega)
  have t2 : decide (n > 268435456) = false := decide_eq_false (by omega)
  have t2' : decide (268435456 < n) = false := decide_eq_false (by omega)
  have b1 := (Below.refl X.heap.size X).alloc (Nat.le_refl _) (.cells #[.int .i64 n, .slice none 0 0] 30)
  have k1 := Cls.new X 30 #[.int .i64 n, .slice none 0 0]
  obtain ⟨c0, c1⟩ := clsR_two k1
  have HB := hide b1
  clear b1 k1 h
  go_enter Try.func10, Try.ntmps10
  go_wp2_with fail
  refine bodyPost_ret (v := .tuple #[.agg #[.int .i64 n, .slice none 0 0], .int .i64 0]) (by simp [results, Try.results10, go_sem, c0, c1]) rfl ⟨rfl, unhide HB⟩
set_option maxRecDepth 100000 in
set_option maxHeartbeats 1000000 in
theorem RNewRE_at (n : Int) (X : World) (h : ¬ (0 ≤ n ∧ n ≤ 268435456)) :
    Calls Try.prog 10 #[.int .i64 n] X fun y X' => y = .returned (.tuple #[.agg #[.int .i64 0, .slice none 0 0], .int .i64 2]) ∧ Below X.heap.size X X' := by
  have b1 := (Below.refl X.heap.size X).alloc (Nat.le_refl _) (.cells #[.int .i64 0, .slice none 0 0] 30)
  have k1 := Cls.new X 30 #[.int .i64 0, .slice none 0 0]
  obtain ⟨c0, c1⟩ := clsR_two k1
  have HB := hide b1
  clear b1 k1
  by_cases h1 : n < 0
  · have t1 : decide (n < 0) = true := decide_eq_true h1
    clear h h1
    go_enter Try.func10, Try.ntmps10
    go_wp2_with fail
    refine bodyPost_ret (v := .tuple #[.agg #[.int .i64 0, .slice none 0 0], .int .i64 2]) (by simp [results, Try.results10, go_sem, c0, c1]) rfl ⟨rfl, unhide HB⟩
  · have t1 : decide (n < 0) = false := decide_eq_false h1
    have t2 : decide (n > 268435456) = true := decide_eq_true (by omega)
    have t2' : decide (268435456 < n) = true := decide_eq_true (by omega)
    clear h h1
    go_enter Try.func10, Try.ntmps10
    go_wp2_with fail
    refine bodyPost_ret (v := .tuple #[.agg #[.int .i64 0, .slice none 0 0], .int .i64 2]) (by simp [results, Try.results10, go_sem, c0, c1]) rfl ⟨rfl, unhide HB⟩
end Go.Proofs.Ytifpjdodignflaa
end
