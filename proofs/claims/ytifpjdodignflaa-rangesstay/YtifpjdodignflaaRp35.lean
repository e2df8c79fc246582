/- Layer 16, the document's: Get, Over, Set (written by wip/tools/ryo.py). -/
import Derived.Test.YtifpjdodignflaaRp34

namespace Go.Proofs.Ytifpjdodignflaa
open Go.ChangeShapes Go.WideShapes Go.ChangeAt Go.RowKit
attribute [local go_sem] Oper.semAt_some

theorem clsR_five {W : World} {B : Nat} {t : TypeId} {a b c d e : Value} (h : Cls W B t #[a, b, c, d, e]) : W.cell? ⟨B, 0, none⟩ = some a ∧ W.cell? ⟨B, 1, none⟩ = some b ∧ W.cell? ⟨B, 2, none⟩ = some c ∧ W.cell? ⟨B, 3, none⟩ = some d ∧ W.cell? ⟨B, 4, none⟩ = some e := ⟨(h.cell 0).trans rfl, (h.cell 1).trans rfl, (h.cell 2).trans rfl, (h.cell 3).trans rfl, (h.cell 4).trans rfl⟩
/-- a struct of five cells stored -/
theorem clsR_put5 {W : World} {B N : Nat} {t : TypeId} {a b c d e : Value} {X : World} (h : Cls W B t #[a, b, c, d, e]) (u0 u1 u2 u3 u4 : Value) (hb : Below N X W) (hN : N ≤ B) :
    Cls (((((W.setCell ⟨B, 0, none⟩ u0).setCell ⟨B, 1, none⟩ u1).setCell ⟨B, 2, none⟩ u2).setCell ⟨B, 3, none⟩ u3).setCell ⟨B, 4, none⟩ u4) B t #[u0, u1, u2, u3, u4] ∧ Below N X (((((W.setCell ⟨B, 0, none⟩ u0).setCell ⟨B, 1, none⟩ u1).setCell ⟨B, 2, none⟩ u2).setCell ⟨B, 3, none⟩ u3).setCell ⟨B, 4, none⟩ u4) := by
  refine ⟨((((h.set 0 u0).set 1 u1).set 2 u2).set 3 u3).set 4 u4, ?_⟩
  exact ((((hb.setCell (p := ⟨B, 0, none⟩) hN u0).setCell (p := ⟨B, 1, none⟩) hN u1).setCell (p := ⟨B, 2, none⟩) hN u2).setCell (p := ⟨B, 3, none⟩) hN u3).setCell (p := ⟨B, 4, none⟩) hN u4
theorem atG_drop (s : ByteArray) (l : List Rg) {i : Nat} (h : i < l.length) : atG s (l.drop i) i = if s == (l.getD i rgZ).n then some (i, l.getD i rgZ) else atG s (l.drop (i + 1)) (i + 1) := by
  rw [dropG_getD l h]; rfl
def getV (s : ByteArray) (l : List Rg) : Value := .tuple #[((getG s l).map rgV).getD (.agg #[.string ⟨#[]⟩, .int .i64 0, .int .i64 0, .int .i64 0, .int .i64 0]), .bool (getG s l).isSome]
set_option maxRecDepth 100000 in
set_option maxHeartbeats 4000000 in
theorem RGetR_at (n : Int) (a : Option Addr) (c : Nat) (l : List Rg) (sn : ByteArray) (X : World) (h : IsRl X a l) (hl : l.length ≤ 1048576) :
    Calls Try.prog 27 #[rsV n a l.length c, .string sn] X fun y X' => y = .returned (getV sn l) ∧ Below X.heap.size X X' := by
  unfold rsV
  obtain ⟨V, hV⟩ : ∃ V, V = getV sn l := ⟨_, rfl⟩
  rw [← hV]
  have HV := hide hV
  have k2 := (Cls.new X 30 #[.int .i64 n, .slice a l.length c]).alloc (.cells #[.string ⟨#[]⟩, .int .i64 0, .int .i64 0, .int .i64 0, .int .i64 0] 37)
  have k4 := Cls.new (X.alloc (.cells #[.int .i64 n, .slice a l.length c] 30)) 37 #[.string ⟨#[]⟩, .int .i64 0, .int .i64 0, .int .i64 0, .int .i64 0]
  have b1 := (Below.refl X.heap.size X).alloc (Nat.le_refl _) (.cells #[.int .i64 n, .slice a l.length c] 30)
  have b3 := b1.alloc b1.size (.cells #[.string ⟨#[]⟩, .int .i64 0, .int .i64 0, .int .i64 0, .int .i64 0] 37)
  rw [World.size_alloc] at k4
  have HK := hide (And.intro k2 k4)
  have HX := hide b3
  have HL := hide (h.below b3 (Nat.le_refl _))
  obtain ⟨N, hN⟩ : ∃ N, N = l.length := ⟨_, rfl⟩
  have HN := hide hN
  rw [← hN] at hl HK HX HL ⊢
  clear hN b1 b3 h hV k2 k4
  go_enter Try.func27, Try.ntmps27
  go_wp2_with fail
  generalize (X.alloc (.cells #[.int .i64 n, .slice a N c] 30)).alloc (.cells #[.string ⟨#[]⟩, .int .i64 0, .int .i64 0, .int .i64 0, .int .i64 0] 37) = X1 at *
  go_loopw [6] (fun v6 wx => (∃ i : Nat, v6 = .int .i64 (i : Int) ∧ i ≤ N ∧ Hid (atG sn (l.drop i) i = atG sn l 0)) ∧ Hid (Below X1.heap.size X1 wx)) (fun v6 _ => N - (intOf v6).toNat)
  case atStart => exact ⟨⟨0, rfl, Nat.zero_le _, hide rfl⟩, hide (Below.refl _ _)⟩
  case round =>
    obtain ⟨⟨i, rfl, hi, HI⟩, HB⟩ := hrel
    obtain ⟨k2, k4⟩ := unhide HK
    have k2 := k2.below (unhide HB) k2.lt
    have k4 := k4.below (unhide HB) k4.lt
    obtain ⟨c0, c1⟩ := clsR_two k2
    have hb1 := (unhide HX).trans ((unhide HB).mono (unhide HX).size)
    by_cases hlt : i < N
    · have t1 : decide ((i : Int) < (N : Int)) = true := decide_eq_true (by omega)
      have hlt' : i < l.length := by rw [← unhide HN]; exact hlt
      obtain ⟨eg, eo, ha, heg, e0, e1, e2, e3, e4⟩ := ((unhide HL).below (unhide HB) (Nat.le_refl _)).five hlt'
      have hI := (atG_drop sn l hlt').symm.trans (unhide HI)
      subst ha
      generalize l.getD i rgZ = m at *
      obtain ⟨mn, ml, mh, ms, me⟩ := m
      dsimp only at e0 e1 e2 e3 e4 hI
      by_cases he : mn = sn
      · subst he
        rw [(MapKept.bytes_beq mn mn).2 rfl, if_pos rfl] at hI
        have hv : V = .tuple #[.agg #[.string mn, .int .i64 ml, .int .i64 mh, .int .i64 ms, .int .i64 me], .bool true] := by rw [unhide HV]; unfold getV getG; rw [← hI]; rfl
        subst hv
        have k9 := (clsR_put5 k4 (.string mn) (.int .i64 ml) (.int .i64 mh) (.int .i64 ms) (.int .i64 me) hb1 (show X.heap.size ≤ X.heap.size + 1 by omega))
        obtain ⟨r0, r1, r2, r3, r4⟩ := clsR_five k9.1
        have HB9 := hide k9.2
        have f0 := k4.frozen 0
        have f1 := k4.frozen 1
        have f2 := k4.frozen 2
        have f3 := k4.frozen 3
        have f4 := k4.frozen 4
        obtain ⟨z0, z1, z2, z3, z4⟩ := clsR_five k4
        clear hI HI HB HV hlt' k2 k4 k9 hb1 heg
        go_wp2_with fail
        refine bodyPost_ret (v := .tuple #[.agg #[.string mn, .int .i64 ml, .int .i64 mh, .int .i64 ms, .int .i64 me], .bool true]) (by simp [results, Try.results27, go_sem, r0, r1, r2, r3, r4]) rfl ⟨rfl, unhide HB9⟩
      · have h1 : (sn == mn) = false := by
          cases hc : sn == mn with
          | false => rfl
          | true => exact absurd ((MapKept.bytes_beq _ _).1 hc).symm he
        have h2 : ¬ mn.toList = sn.toList := fun e => he (ba_toList e)
        have h3 : (mn.toList == sn.toList) = false := by simpa using h2
        rw [h1] at hI
        simp only [Bool.false_eq_true, if_false] at hI
        have HI2 := hide hI
        clear hI HI k2 k4 he h1 hlt' hb1 e1 e2 e3 e4 heg
        go_wp2_with fail
        go_roundw
        case rel => exact ⟨⟨i + 1, by go_num, hlt, HI2⟩, HB⟩
        case measure => simp [intOf]; omega
    · obtain rfl : i = N := by omega
      have t1 : decide ((i : Int) < (i : Int)) = false := decide_eq_false (by omega)
      have hI := unhide HI
      rw [unhide HN, List.drop_length] at hI
      have hv : V = .tuple #[.agg #[.string ⟨#[]⟩, .int .i64 0, .int .i64 0, .int .i64 0, .int .i64 0], .bool false] := by rw [unhide HV]; unfold getV getG; rw [← hI]; rfl
      subst hv
      have k9 := (clsR_put5 k4 (.string ⟨#[]⟩) (.int .i64 0) (.int .i64 0) (.int .i64 0) (.int .i64 0) hb1 (show X.heap.size ≤ X.heap.size + 1 by omega))
      obtain ⟨r0, r1, r2, r3, r4⟩ := clsR_five k9.1
      have HB9 := hide k9.2
      have f0 := k4.frozen 0
      have f1 := k4.frozen 1
      have f2 := k4.frozen 2
      have f3 := k4.frozen 3
      have f4 := k4.frozen 4
      obtain ⟨z0, z1, z2, z3, z4⟩ := clsR_five k4
      clear hI HI HB HV hlt k2 k4 k9 hb1
      go_wp2_with fail
      refine bodyPost_ret (v := .tuple #[.agg #[.string ⟨#[]⟩, .int .i64 0, .int .i64 0, .int .i64 0, .int .i64 0], .bool false]) (by simp [results, Try.results27, go_sem, r0, r1, r2, r3, r4]) rfl ⟨rfl, unhide HB9⟩
set_option maxRecDepth 100000 in
set_option maxHeartbeats 4000000 in
theorem ROverR_at (n : Int) (a : Option Addr) (c : Nat) (l : List Rg) (lo hi : Int) (X : World) (h : IsRl X a l) (hl : l.length ≤ 1048576) :
    Calls Try.prog 28 #[rsV n a l.length c, .int .i64 lo, .int .i64 hi] X fun y X' => ∃ v, y = .returned v ∧ X'.ownsRow X.heap.size 37 5 v (l.filter (inG lo hi)).length (rgsV (l.filter (inG lo hi))) ∧ Below X.heap.size X X' := by
  unfold rsV
  obtain ⟨R0, hR0⟩ : ∃ R0, R0 = l.filter (inG lo hi) := ⟨_, rfl⟩
  rw [← hR0]
  have b1 := (Below.refl X.heap.size X).alloc (Nat.le_refl _) (.cells #[.int .i64 n, .slice a l.length c] 30)
  have HX := hide b1
  have HK := hide (Cls.new X 30 #[.int .i64 n, .slice a l.length c])
  have HL := hide (h.below b1 (Nat.le_refl _))
  have HI0 : Hid (([] : List Rg) ++ (l.drop 0).filter (inG lo hi) = R0) := hide (by rw [hR0]; rfl)
  obtain ⟨N, hN⟩ : ∃ N, N = l.length := ⟨_, rfl⟩
  have HN := hide hN
  rw [← hN] at hl HK HX HL ⊢
  clear hN b1 h hR0
  go_enter Try.func28, Try.ntmps28
  go_wp2_with fail
  generalize X.alloc (.cells #[.int .i64 n, .slice a N c] 30) = X1 at *
  go_loopw [7, 8, 9] (fun v7 v8 v9 wx => (∃ z, v9 = z) ∧ ∃ i : Nat, v8 = .int .i64 (i : Int) ∧ i ≤ N ∧ Hid (∃ q, GuJ X1 wx v7 q ∧ q.length ≤ i ∧ q ++ (l.drop i).filter (inG lo hi) = R0)) (fun _ v8 _ _ => N - (intOf v8).toNat)
  case atStart => exact ⟨⟨_, rfl⟩, 0, rfl, Nat.zero_le _, hide ⟨[], GuJ.new (Below.refl _ _), Nat.le_refl _, unhide HI0⟩⟩
  case round =>
    clear HI0
    obtain ⟨⟨z9, rfl⟩, i, rfl, hiN, HI⟩ := hrel
    obtain ⟨q, hJ, hq, hR⟩ := unhide HI
    have kx := (unhide HK).below hJ.d (unhide HK).lt
    obtain ⟨c0, c1⟩ := clsR_two kx
    by_cases hlt : i < N
    · have t1 : decide ((i : Int) < (N : Int)) = true := decide_eq_true (by omega)
      have hlt' : i < l.length := by rw [← unhide HN]; exact hlt
      rw [dropG_getD l hlt'] at hR
      obtain ⟨eg, eo, ha, heg, e0, e1, e2, e3, e4⟩ := ((unhide HL).below hJ.d (Nat.le_refl _)).five hlt'
      subst ha
      generalize l.getD i rgZ = m at *
      obtain ⟨mn, ml, mh, ms, me⟩ := m
      dsimp only at e0 e1 e2 e3 e4
      have hJ1 := hJ.on ((Below.refl wr.heap.size wr).alloc (Nat.le_refl _) (.cells #[.string mn, .int .i64 ml, .int .i64 mh, .int .i64 ms, .int .i64 me] 37))
      obtain ⟨g0, g1, g2, g3, g4⟩ := clsR_five (Cls.new wr 37 #[.string mn, .int .i64 ml, .int .i64 mh, .int .i64 ms, .int .i64 me])
      clear hlt' kx heg
      go_upto_region 6 with fail
      clear e0 e1 e2 e3 e4 c0 c1
      generalize wr.alloc (.cells #[.string mn, .int .i64 ml, .int .i64 mh, .int .i64 ms, .int .i64 me] 37) = wB at *
      generalize wr.heap.size = bB at *
      by_cases hlh : lo < hi
      · have w1 : decide (lo < hi) = true := decide_eq_true hlh
        have w2 : (lo == hi) = false := by rw [beq_eq_false_iff_ne]; omega
        have w3 : ¬ lo = hi := by omega
        by_cases hta : ml < hi
        · have ta0 : decide (ml < hi) = true := decide_eq_true hta
          by_cases htb : lo < mh
          · have tb0 : decide (lo < mh) = true := decide_eq_true htb
            have tb1 : decide (mh > lo) = true := decide_eq_true htb
            have hin : inG lo hi ⟨mn, ml, mh, ms, me⟩ = true := by
              unfold inG
              simp only [if_neg w3, w1, ta0, tb0, Bool.and_true]
            rw [List.filter_cons_of_pos hin] at hR
            obtain ⟨v3, W3, ra, hJ3⟩ := hJ1.push ⟨mn, ml, mh, ms, me⟩ (by omega)
            dsimp only at ra
            have R := hide ra
            have HI2 : Hid (∃ q, GuJ X1 W3 v3 q ∧ q.length ≤ i + 1 ∧ q ++ (l.drop (i + 1)).filter (inG lo hi) = R0) := hide ⟨_, hJ3, by simp; omega, by rw [List.append_assoc]; exact hR⟩
            clear HI hJ hJ1 hq hR ra hJ3 hlh hta htb w3 hin
            go_wp2_with (at_builtin; refine wpList_append_known rfl _ _ 28 28 rfl _ _ rfl rfl _ _ (unhide R) ?_; clear R)
            go_roundw
            case rel => exact ⟨⟨_, rfl⟩, i + 1, by go_num, hlt, HI2⟩
            case measure => simp [intOf]; omega
          · have tb0 : decide (lo < mh) = false := decide_eq_false (by omega)
            have tb1 : decide (mh > lo) = false := decide_eq_false (by omega)
            have hin : inG lo hi ⟨mn, ml, mh, ms, me⟩ = false := by
              unfold inG
              simp only [if_neg w3, w1, ta0, tb0, Bool.and_false]
            rw [List.filter_cons_of_neg (by rw [hin]; decide)] at hR
            have HI2 : Hid (∃ q, GuJ X1 wB u7 q ∧ q.length ≤ i + 1 ∧ q ++ (l.drop (i + 1)).filter (inG lo hi) = R0) := hide ⟨q, hJ1, by omega, hR⟩
            clear HI hJ hJ1 hq hR hlh hta htb w3 hin
            go_wp2_with fail
            go_roundw
            case rel => exact ⟨⟨_, rfl⟩, i + 1, by go_num, hlt, HI2⟩
            case measure => simp [intOf]; omega
        · have ta0 : decide (ml < hi) = false := decide_eq_false (by omega)
          have hin : inG lo hi ⟨mn, ml, mh, ms, me⟩ = false := by
            unfold inG
            simp only [if_neg w3, w1, ta0, Bool.and_false, Bool.false_and]
          rw [List.filter_cons_of_neg (by rw [hin]; decide)] at hR
          have HI2 : Hid (∃ q, GuJ X1 wB u7 q ∧ q.length ≤ i + 1 ∧ q ++ (l.drop (i + 1)).filter (inG lo hi) = R0) := hide ⟨q, hJ1, by omega, hR⟩
          clear HI hJ hJ1 hq hR hlh hta w3 hin
          go_wp2_with fail
          go_roundw
          case rel => exact ⟨⟨_, rfl⟩, i + 1, by go_num, hlt, HI2⟩
          case measure => simp [intOf]; omega
      · by_cases heq : lo = hi
        · subst heq
          have w1 : decide (lo < lo) = false := decide_eq_false (by omega)
          have w2 : (lo == lo) = true := by simp
          by_cases hta : ml ≤ lo
          · have ta0 : decide (ml ≤ lo) = true := decide_eq_true hta
            by_cases htb : lo ≤ mh
            · have tb0 : decide (lo ≤ mh) = true := decide_eq_true htb
              have hin : inG lo lo ⟨mn, ml, mh, ms, me⟩ = true := by
                unfold inG
                simp only [if_true, ta0, tb0, Bool.and_true]
              rw [List.filter_cons_of_pos hin] at hR
              obtain ⟨v3, W3, ra, hJ3⟩ := hJ1.push ⟨mn, ml, mh, ms, me⟩ (by omega)
              dsimp only at ra
              have R := hide ra
              have HI2 : Hid (∃ q, GuJ X1 W3 v3 q ∧ q.length ≤ i + 1 ∧ q ++ (l.drop (i + 1)).filter (inG lo lo) = R0) := hide ⟨_, hJ3, by simp; omega, by rw [List.append_assoc]; exact hR⟩
              clear HI hJ hJ1 hq hR ra hJ3 hlh hta htb hin
              go_wp2_with (at_builtin; refine wpList_append_known rfl _ _ 28 28 rfl _ _ rfl rfl _ _ (unhide R) ?_; clear R)
              go_roundw
              case rel => exact ⟨⟨_, rfl⟩, i + 1, by go_num, hlt, HI2⟩
              case measure => simp [intOf]; omega
            · have tb0 : decide (lo ≤ mh) = false := decide_eq_false (by omega)
              have hin : inG lo lo ⟨mn, ml, mh, ms, me⟩ = false := by
                unfold inG
                simp only [if_true, ta0, tb0, Bool.and_false]
              rw [List.filter_cons_of_neg (by rw [hin]; decide)] at hR
              have HI2 : Hid (∃ q, GuJ X1 wB u7 q ∧ q.length ≤ i + 1 ∧ q ++ (l.drop (i + 1)).filter (inG lo lo) = R0) := hide ⟨q, hJ1, by omega, hR⟩
              clear HI hJ hJ1 hq hR hlh hta htb hin
              go_wp2_with fail
              go_roundw
              case rel => exact ⟨⟨_, rfl⟩, i + 1, by go_num, hlt, HI2⟩
              case measure => simp [intOf]; omega
          · have ta0 : decide (ml ≤ lo) = false := decide_eq_false (by omega)
            have hin : inG lo lo ⟨mn, ml, mh, ms, me⟩ = false := by
              unfold inG
              simp only [if_true, ta0, Bool.false_and]
            rw [List.filter_cons_of_neg (by rw [hin]; decide)] at hR
            have HI2 : Hid (∃ q, GuJ X1 wB u7 q ∧ q.length ≤ i + 1 ∧ q ++ (l.drop (i + 1)).filter (inG lo lo) = R0) := hide ⟨q, hJ1, by omega, hR⟩
            clear HI hJ hJ1 hq hR hlh hta hin
            go_wp2_with fail
            go_roundw
            case rel => exact ⟨⟨_, rfl⟩, i + 1, by go_num, hlt, HI2⟩
            case measure => simp [intOf]; omega
        · have w1 : decide (lo < hi) = false := decide_eq_false hlh
          have w2 : (lo == hi) = false := by rw [beq_eq_false_iff_ne]; omega
          have hin : inG lo hi ⟨mn, ml, mh, ms, me⟩ = false := by
            unfold inG
            simp only [if_neg heq, w1, Bool.false_and]
          rw [List.filter_cons_of_neg (by rw [hin]; decide)] at hR
          have HI2 : Hid (∃ q, GuJ X1 wB u7 q ∧ q.length ≤ i + 1 ∧ q ++ (l.drop (i + 1)).filter (inG lo hi) = R0) := hide ⟨q, hJ1, by omega, hR⟩
          clear HI hJ hJ1 hq hR hlh heq hin
          go_wp2_with fail
          go_roundw
          case rel => exact ⟨⟨_, rfl⟩, i + 1, by go_num, hlt, HI2⟩
          case measure => simp [intOf]; omega
    · obtain rfl : i = N := by omega
      have t1 : decide ((i : Int) < (i : Int)) = false := decide_eq_false (by omega)
      rw [unhide HN, List.drop_length, List.filter_nil, List.append_nil] at hR
      subst hR
      have HO := hide (rowD_base hJ.o (unhide HX).size)
      have HB := hide ((unhide HX).trans (hJ.d.mono (unhide HX).size))
      clear hJ HI hq hlt kx
      go_wp2_with fail
      refine bodyPost_ret (results_tmp rfl _ _ _) rfl ?_
      exact ⟨_, rfl, unhide HO, unhide HB⟩
end Go.Proofs.Ytifpjdodignflaa
