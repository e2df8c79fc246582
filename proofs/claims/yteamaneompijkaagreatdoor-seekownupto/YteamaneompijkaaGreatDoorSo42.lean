/- scan.take: from the label fitting. · scan.take: from the label further. · scan.take: from the label second. · scan.take: from the label first. · scan.take and Feed: what is told and held is what scanning tells. -/
import Derived.Test.YteamaneompijkaaGreatDoorSo41
import Derived.WalkMore
namespace Go.Proofs.YteamaneompijkaaGreatDoor
open Go.ChangeShapes Go.WideShapes Go.ChangeAt Go.RowKit
set_option maxRecDepth 100000
set_option maxHeartbeats 8000000
section
theorem pass_fitting (g : Nat) (fed : Int) (w0 : World) (T : List Tri) (H : List Int) (m : Nat) (a : Act) (w : World) (hJ : J g fed w0 T H 4 m a w) :
    ∃ rest, findLabel (scopeOf Tryz.f137) 4 = some rest ∧ rest.wp Tryz.prog (jumps (JN g fed w0 T H m) (bodyPost Tryz.prog Tryz.f137 (TakeR g fed w0 T H))) a w := by
  obtain ⟨h, b, ts, a0, cap, v, ⟨u2, u3, u6, u7, u8, u9, u10, u11, u12, u13, u14, u15, u16, u17, u18, u19, u20, u21, u22, u23, u24, u25, u26, u27, u28, u29, u30, u31, u32, u33, u34, u35, u36, u37, u38, u39, u40, u41, u42, u43, u44, u45, u46, u47, u48, u49, u50, u51, u52, u53, u54, u55, u56, u57, u58, u59, u60, u61, u62, u63, u64, u65, u66, u67, u68, u69, u70, u71, u72, u73, u74, u75, u76, u77, u78, u79, u80, u81, u82, rfl⟩, rfl, HM, hA, HQ⟩ := hJ
  obtain ⟨hp, x, r, rfl, hf⟩ := hA
  obtain ⟨gb, off, rfl, hc, hx, hcap, hlen, hgb, hgn⟩ := (unhide HM).head
  have HP := hide hp
  have HFT := hide hf
  clear hp hf
  simp only [List.length_cons]
  refine ⟨_, rfl, ?_⟩
  go_wp2_with fail
  obtain ⟨a, t, rfl⟩ : ∃ a t, h = a :: t := by
    cases h with
    | nil => cases unhide HP
    | cons a t => exact ⟨a, t, rfl⟩
  cases hv : (need a == (t.length : Int) + 2) with
  | true =>
    refine (lacksOne_at g a t fed _ (unhide HM).sca (unhide HM).tab hv).mono ?_
    rintro e w3 ⟨rfl, n3, rfl⟩
    have HM3 := hide ((unhide HM).drew n3)
    have hn : need ((a :: t).getD 0 0) = ((a :: t).length : Int) + 1 := by
      rw [beq_iff_eq] at hv; simp; omega
    have hw := fit_whole (unhide HP) (unhide HFT) hn
    have he : stepS (a :: t) x = ([(value ((a :: t) ++ [x]), (a :: t).length + 1, true)], []) := by rw [stepS, if_neg (by simp), if_pos (unhide HFT), if_pos hn]
    have HA : Hid (AtL 3 (a :: t) (x :: r)) := hide ⟨x, r, rfl, hw, he⟩
    clear hn hw he hv
    dsimp only
    go_wp2_with fail
    go_step3
    exact ⟨_, ⟨a :: t, x :: r, _, _, _, _, ⟨_, _, _, _, _, _, _, _, _, _, _, _, _, _, _, _, _, _, _, _, _, _, _, _, _, _, _, _, _, _, _, _, _, _, _, _, _, _, _, _, _, _, _, _, _, _, _, _, _, _, _, _, _, _, _, _, _, _, _, _, _, _, _, _, _, _, _, _, _, _, _, _, _, _, _, _, _, _, _, rfl⟩, rfl, HM3, unhide HA, HQ⟩, by simp only [rank, List.length_cons]; omega⟩
  | false =>
    refine (lacksOne_at g a t fed _ (unhide HM).sca (unhide HM).tab hv).mono ?_
    rintro e w3 ⟨rfl, n3, rfl⟩
    have HMh := hide ((unhide HM).drew n3)
    have hn : ¬ need ((a :: t).getD 0 0) = ((a :: t).length : Int) + 1 := fun e => by
      rw [beq_eq_false_iff_ne] at hv; simp at e; omega
    have hpp := fit_prop (unhide HP) (unhide HFT) hn
    have he : stepS (a :: t) x = ([], (a :: t) ++ [x]) := by rw [stepS, if_neg (by simp), if_pos (unhide HFT), if_neg hn]
    have HQ4 : Hid (ts ++ (scanS ((a :: t) ++ [x]) r).1 = T ∧ (scanS ((a :: t) ++ [x]) r).2 = H) := by
      obtain ⟨q1, q2⟩ := unhide HQ
      simp only [scanS, he] at q1 q2
      exact hide ⟨by rw [← q1]; simp, q2⟩
    have HA : Hid (AtL 2 ((a :: t) ++ [x]) r) := hide ⟨hpp.1, by simp⟩
    have HF := hide hpp.2
    have hlt3 : t.length + 1 < 3 := by simpa using hpp.2
    clear hn hpp he hv HQ
    dsimp only
    go_wp2_with fail
    refine (hold_at g (a :: t) fed x _ (unhide HMh).sca (unhide HF) hx).mono ?_
    rintro e w4 ⟨rfl, s4, f4⟩
    have HM4 := hide ((unhide HMh).next s4 (Scf.chain2 (Nat.le_refl _) (unhide HMh).scf f4) ((unhide HMh).row.scf f4 (unhide HMh).low) (by simp; omega))
    clear s4 f4
    dsimp only
    go_wp2_with fail
    all_goals (
      go_step3
      (first | rw [if_pos ‹cap = 1›, show cap - 1 = 0 by omega] at HM4 | rw [if_neg ‹¬ cap = 1›] at HM4)
      exact ⟨_, ⟨(a :: t) ++ [x], r, _, _, _, _, ⟨_, _, _, _, _, _, _, _, _, _, _, _, _, _, _, _, _, _, _, _, _, _, _, _, _, _, _, _, _, _, _, _, _, _, _, _, _, _, _, _, _, _, _, _, _, _, _, _, _, _, _, _, _, _, _, _, _, _, _, _, _, _, _, _, _, _, _, _, _, _, _, _, _, _, _, _, _, _, _, rfl⟩, rfl, HM4, unhide HA, HQ4⟩, by simp only [rank]; omega⟩)
end
section
theorem pass_further (g : Nat) (fed : Int) (w0 : World) (T : List Tri) (H : List Int) (m : Nat) (a : Act) (w : World) (hJ : J g fed w0 T H 2 m a w) :
    ∃ rest, findLabel (scopeOf Tryz.f137) 2 = some rest ∧ rest.wp Tryz.prog (jumps (JN g fed w0 T H m) (bodyPost Tryz.prog Tryz.f137 (TakeR g fed w0 T H))) a w := by
  obtain ⟨h, b, ts, a0, cap, v, ⟨u2, u3, u6, u7, u8, u9, u10, u11, u12, u13, u14, u15, u16, u17, u18, u19, u20, u21, u22, u23, u24, u25, u26, u27, u28, u29, u30, u31, u32, u33, u34, u35, u36, u37, u38, u39, u40, u41, u42, u43, u44, u45, u46, u47, u48, u49, u50, u51, u52, u53, u54, u55, u56, u57, u58, u59, u60, u61, u62, u63, u64, u65, u66, u67, u68, u69, u70, u71, u72, u73, u74, u75, u76, u77, u78, u79, u80, u81, u82, rfl⟩, rfl, HM, hA, HQ⟩ := hJ
  obtain ⟨hp, h2⟩ := hA
  cases b with
  | nil =>
    refine ⟨_, rfl, ?_⟩
    go_wp2_with fail
    show bodyPost _ _ _ Exit.ret _ _
    go_ret
    exact (unhide HM).ret (unhide HQ)
  | cons x r =>
    obtain ⟨gb, off, rfl, hc, hx, hcap, hlen, hgb, hgn⟩ := (unhide HM).head
    have HP := hide hp
    have hft : fits h x = isTail x := by
      match h, h2 with
      | _ :: _ :: _, _ => rfl
    clear hp
    simp only [List.length_cons]
    refine ⟨_, rfl, ?_⟩
    go_wp2_with fail
    refine (Class_any x _ hx.1 hx.2 (unhide HM).tab).mono ?_
    rintro e w2 ⟨rfl, rfl⟩
    have hic := isTail_cls x
    cases hcl : (cls x != 2) with
    | true =>
      have HA : Hid (AtL 5 h (x :: r)) := hide ⟨unhide HP, x, r, rfl, by rw [hft, hic, hcl]; rfl⟩
      dsimp only
      go_wp2_with fail
      go_step3
      exact ⟨_, ⟨h, x :: r, _, _, _, _, ⟨_, _, _, _, _, _, _, _, _, _, _, _, _, _, _, _, _, _, _, _, _, _, _, _, _, _, _, _, _, _, _, _, _, _, _, _, _, _, _, _, _, _, _, _, _, _, _, _, _, _, _, _, _, _, _, _, _, _, _, _, _, _, _, _, _, _, _, _, _, _, _, _, _, _, _, _, _, _, _, rfl⟩, rfl, HM, unhide HA, HQ⟩, by simp only [rank, List.length_cons]; omega⟩
    | false =>
      have HFT : Hid (fits h x = true) := hide (by rw [hft, hic, hcl]; rfl)
      clear hft hic
      dsimp only
      go_wp2_with fail
      go_step3
      go_wp2_with fail
      obtain ⟨a, t, rfl⟩ : ∃ a t, h = a :: t := by
        cases h with
        | nil => cases unhide HP
        | cons a t => exact ⟨a, t, rfl⟩
      cases hv : (need a == (t.length : Int) + 2) with
      | true =>
        refine (lacksOne_at g a t fed _ (unhide HM).sca (unhide HM).tab hv).mono ?_
        rintro e w3 ⟨rfl, n3, rfl⟩
        have HM3 := hide ((unhide HM).drew n3)
        have hn : need ((a :: t).getD 0 0) = ((a :: t).length : Int) + 1 := by
          rw [beq_iff_eq] at hv; simp; omega
        have hw := fit_whole (unhide HP) (unhide HFT) hn
        have he : stepS (a :: t) x = ([(value ((a :: t) ++ [x]), (a :: t).length + 1, true)], []) := by rw [stepS, if_neg (by simp), if_pos (unhide HFT), if_pos hn]
        have HA : Hid (AtL 3 (a :: t) (x :: r)) := hide ⟨x, r, rfl, hw, he⟩
        clear hn hw he hv
        dsimp only
        go_wp2_with fail
        go_step3
        exact ⟨_, ⟨a :: t, x :: r, _, _, _, _, ⟨_, _, _, _, _, _, _, _, _, _, _, _, _, _, _, _, _, _, _, _, _, _, _, _, _, _, _, _, _, _, _, _, _, _, _, _, _, _, _, _, _, _, _, _, _, _, _, _, _, _, _, _, _, _, _, _, _, _, _, _, _, _, _, _, _, _, _, _, _, _, _, _, _, _, _, _, _, _, _, rfl⟩, rfl, HM3, unhide HA, HQ⟩, by simp only [rank, List.length_cons]; omega⟩
      | false =>
        refine (lacksOne_at g a t fed _ (unhide HM).sca (unhide HM).tab hv).mono ?_
        rintro e w3 ⟨rfl, n3, rfl⟩
        have HMh := hide ((unhide HM).drew n3)
        have hn : ¬ need ((a :: t).getD 0 0) = ((a :: t).length : Int) + 1 := fun e => by
          rw [beq_eq_false_iff_ne] at hv; simp at e; omega
        have hpp := fit_prop (unhide HP) (unhide HFT) hn
        have he : stepS (a :: t) x = ([], (a :: t) ++ [x]) := by rw [stepS, if_neg (by simp), if_pos (unhide HFT), if_neg hn]
        have HQ4 : Hid (ts ++ (scanS ((a :: t) ++ [x]) r).1 = T ∧ (scanS ((a :: t) ++ [x]) r).2 = H) := by
          obtain ⟨q1, q2⟩ := unhide HQ
          simp only [scanS, he] at q1 q2
          exact hide ⟨by rw [← q1]; simp, q2⟩
        have HA : Hid (AtL 2 ((a :: t) ++ [x]) r) := hide ⟨hpp.1, by simp⟩
        have HF := hide hpp.2
        have hlt3 : t.length + 1 < 3 := by simpa using hpp.2
        clear hn hpp he hv HQ
        dsimp only
        go_wp2_with fail
        refine (hold_at g (a :: t) fed x _ (unhide HMh).sca (unhide HF) hx).mono ?_
        rintro e w4 ⟨rfl, s4, f4⟩
        have HM4 := hide ((unhide HMh).next s4 (Scf.chain2 (Nat.le_refl _) (unhide HMh).scf f4) ((unhide HMh).row.scf f4 (unhide HMh).low) (by simp; omega))
        clear s4 f4
        dsimp only
        go_wp2_with fail
        all_goals (
          go_step3
          (first | rw [if_pos ‹cap = 1›, show cap - 1 = 0 by omega] at HM4 | rw [if_neg ‹¬ cap = 1›] at HM4)
          exact ⟨_, ⟨(a :: t) ++ [x], r, _, _, _, _, ⟨_, _, _, _, _, _, _, _, _, _, _, _, _, _, _, _, _, _, _, _, _, _, _, _, _, _, _, _, _, _, _, _, _, _, _, _, _, _, _, _, _, _, _, _, _, _, _, _, _, _, _, _, _, _, _, _, _, _, _, _, _, _, _, _, _, _, _, _, _, _, _, _, _, _, _, _, _, _, _, rfl⟩, rfl, HM4, unhide HA, HQ4⟩, by simp only [rank]; omega⟩)
end
section
theorem pass_second (g : Nat) (fed : Int) (w0 : World) (T : List Tri) (H : List Int) (m : Nat) (a : Act) (w : World) (hJ : J g fed w0 T H 1 m a w) :
    ∃ rest, findLabel (scopeOf Tryz.f137) 1 = some rest ∧ rest.wp Tryz.prog (jumps (JN g fed w0 T H m) (bodyPost Tryz.prog Tryz.f137 (TakeR g fed w0 T H))) a w := by
  obtain ⟨h, b, ts, a0, cap, v, ⟨u2, u3, u6, u7, u8, u9, u10, u11, u12, u13, u14, u15, u16, u17, u18, u19, u20, u21, u22, u23, u24, u25, u26, u27, u28, u29, u30, u31, u32, u33, u34, u35, u36, u37, u38, u39, u40, u41, u42, u43, u44, u45, u46, u47, u48, u49, u50, u51, u52, u53, u54, u55, u56, u57, u58, u59, u60, u61, u62, u63, u64, u65, u66, u67, u68, u69, u70, u71, u72, u73, u74, u75, u76, u77, u78, u79, u80, u81, u82, rfl⟩, rfl, HM, hA, HQ⟩ := hJ
  obtain ⟨hp, h1⟩ := hA
  cases b with
  | nil =>
    refine ⟨_, rfl, ?_⟩
    go_wp2_with fail
    show bodyPost _ _ _ Exit.ret _ _
    go_ret
    exact (unhide HM).ret (unhide HQ)
  | cons x r =>
    obtain ⟨a, rfl⟩ : ∃ a, h = [a] := by
      match h, h1 with
      | [a], _ => exact ⟨a, rfl⟩
    obtain ⟨gb, off, rfl, hc, hx, hcap, hlen, hgb, hgn⟩ := (unhide HM).head
    obtain ⟨hca, ha0, ha1⟩ := (unhide HM).sca.2.2.1.head
    have HP := hide hp
    clear hp
    simp only [List.length_cons]
    refine ⟨_, rfl, ?_⟩
    go_wp2_with fail
    cases hs : sec a x with
    | true =>
      go_quiet ((go_at_call 123; exact Calls.quiet_of_same (Second_at _ _ _ ha0 ha1 hx.1 hx.2 (Tab.drewN (unhide HM).tab _) hs)))
      have HA : Hid (AtL 4 [a] (x :: r)) := hide ⟨unhide HP, x, r, rfl, hs⟩
      rename_i nq
      have HMq := hide ((unhide HM).drew nq)
      go_wp2_with fail
      go_step3
      exact ⟨_, ⟨[a], x :: r, _, _, _, _, ⟨_, _, _, _, _, _, _, _, _, _, _, _, _, _, _, _, _, _, _, _, _, _, _, _, _, _, _, _, _, _, _, _, _, _, _, _, _, _, _, _, _, _, _, _, _, _, _, _, _, _, _, _, _, _, _, _, _, _, _, _, _, _, _, _, _, _, _, _, _, _, _, _, _, _, _, _, _, _, _, rfl⟩, rfl, HMq, unhide HA, HQ⟩, by simp only [rank, List.length_cons]; omega⟩
    | false =>
      go_quiet ((go_at_call 123; exact Calls.quiet_of_same (Second_at _ _ _ ha0 ha1 hx.1 hx.2 (Tab.drewN (unhide HM).tab _) hs)))
      have HA : Hid (AtL 5 [a] (x :: r)) := hide ⟨unhide HP, x, r, rfl, hs⟩
      rename_i nq
      have HMq := hide ((unhide HM).drew nq)
      go_wp2_with fail
      go_step3
      exact ⟨_, ⟨[a], x :: r, _, _, _, _, ⟨_, _, _, _, _, _, _, _, _, _, _, _, _, _, _, _, _, _, _, _, _, _, _, _, _, _, _, _, _, _, _, _, _, _, _, _, _, _, _, _, _, _, _, _, _, _, _, _, _, _, _, _, _, _, _, _, _, _, _, _, _, _, _, _, _, _, _, _, _, _, _, _, _, _, _, _, _, _, _, rfl⟩, rfl, HMq, unhide HA, HQ⟩, by simp only [rank, List.length_cons]; omega⟩
end
section
theorem pass_first (g : Nat) (fed : Int) (w0 : World) (T : List Tri) (H : List Int) (m : Nat) (a : Act) (w : World) (hJ : J g fed w0 T H 0 m a w) :
    ∃ rest, findLabel (scopeOf Tryz.f137) 0 = some rest ∧ rest.wp Tryz.prog (jumps (JN g fed w0 T H m) (bodyPost Tryz.prog Tryz.f137 (TakeR g fed w0 T H))) a w := by
  obtain ⟨h, b, ts, a0, cap, v, ⟨u2, u3, u6, u7, u8, u9, u10, u11, u12, u13, u14, u15, u16, u17, u18, u19, u20, u21, u22, u23, u24, u25, u26, u27, u28, u29, u30, u31, u32, u33, u34, u35, u36, u37, u38, u39, u40, u41, u42, u43, u44, u45, u46, u47, u48, u49, u50, u51, u52, u53, u54, u55, u56, u57, u58, u59, u60, u61, u62, u63, u64, u65, u66, u67, u68, u69, u70, u71, u72, u73, u74, u75, u76, u77, u78, u79, u80, u81, u82, rfl⟩, rfl, HM, hA, HQ⟩ := hJ
  cases hA
  cases b with
  | nil =>
    refine ⟨_, rfl, ?_⟩
    go_wp2_with fail
    show bodyPost _ _ _ Exit.ret _ _
    go_ret
    exact (unhide HM).ret (unhide HQ)
  | cons x r =>
    obtain ⟨gb, off, rfl, hc, hx, hcap, hlen, hgb, hgn⟩ := (unhide HM).head
    simp only [List.length_cons]
    refine ⟨_, rfl, ?_⟩
    go_wp2_with fail
    refine (Need_any x _ hx.1 hx.2 (unhide HM).tab).mono ?_
    rintro e w2 ⟨rfl, rfl⟩
    have hnl := need_lo x
    have hnh := need_hi x
    cases hn0 : (need x == 0) with
    | true =>
      have e1 : one x = ([badT], []) := by
        rw [beq_iff_eq] at hn0; simp [one, hn0]
      have HQ3 : Hid ((ts ++ [badT]) ++ (scanS [] r).1 = T ∧ (scanS [] r).2 = H) := by
        obtain ⟨q1, q2⟩ := unhide HQ
        have e' : stepS [] x = ([badT], []) := by simp [stepS, e1]
        simp only [scanS, e'] at q1 q2
        exact hide ⟨by rw [← q1]; simp, q2⟩
      dsimp only
      go_wp2_with fail
      refine (sbad_any _).mono ?_
      unfold stepV
      rintro e w2 ⟨rfl, x2⟩
      have hz0 := (unhide HM).scf.size
      have hlen2 := (unhide HM).len
      obtain ⟨g3, c3, w3, r3, o3, x3⟩ := ((unhide HM).row.below x2).pushb (by omega) (Nat.le_trans hz0 x2.size)
      have R3 := hide r3
      clear r3
      have HM3 := hide ((unhide HM).next (((unhide HM).sca.below x2 (unhide HM).sca.lt).below x3 (unhide HM).low) ((Scf.chain (Nat.le_refl _) (unhide HM).scf x2).trans (.of x3)) o3 (by simp))
      clear x3 o3 hlen2
      dsimp only
      go_wp2_with (at_builtin; refine wpList_append_known rfl _ _ 57 57 rfl _ _ rfl rfl _ _ (unhide R3) ?_)
      all_goals (
        go_step3
        (first | rw [if_pos ‹cap = 1›, show cap - 1 = 0 by omega] at HM3 | rw [if_neg ‹¬ cap = 1›] at HM3)
        exact ⟨_, ⟨[], r, _, _, _, _, ⟨_, _, _, _, _, _, _, _, _, _, _, _, _, _, _, _, _, _, _, _, _, _, _, _, _, _, _, _, _, _, _, _, _, _, _, _, _, _, _, _, _, _, _, _, _, _, _, _, _, _, _, _, _, _, _, _, _, _, _, _, _, _, _, _, _, _, _, _, _, _, _, _, _, _, _, _, _, _, _, rfl⟩, rfl, HM3, rfl, HQ3⟩, by simp only [rank]; omega⟩)
    | false =>
      rw [beq_eq_false_iff_ne] at hn0
      by_cases hn1 : need x = 1
      · have hw : whole ([] ++ [x]) = true := whole_one hn1
        have he : stepS [] x = ([(value ([] ++ [x]), ([] : List Int).length + 1, true)], []) := by simp [stepS, one, hn1]
        have HA : Hid (AtL 3 [] (x :: r)) := hide ⟨x, r, rfl, hw, he⟩
        have hb0 : (need x == 0) = false := by rw [beq_eq_false_iff_ne]; exact hn0
        have hb1 : (need x == 1) = true := by rw [beq_iff_eq]; exact hn1
        clear hw he hn1 hn0
        dsimp only
        go_wp2_with fail
        go_step3
        exact ⟨_, ⟨[], x :: r, _, _, _, _, ⟨_, _, _, _, _, _, _, _, _, _, _, _, _, _, _, _, _, _, _, _, _, _, _, _, _, _, _, _, _, _, _, _, _, _, _, _, _, _, _, _, _, _, _, _, _, _, _, _, _, _, _, _, _, _, _, _, _, _, _, _, _, _, _, _, _, _, _, _, _, _, _, _, _, _, _, _, _, _, _, rfl⟩, rfl, HM, unhide HA, HQ⟩, by simp only [rank, List.length_cons]; omega⟩
      · have hb0 : (need x == 0) = false := by rw [beq_eq_false_iff_ne]; exact hn0
        have hn1 : (need x == 1) = false := by rw [beq_eq_false_iff_ne]; omega
        have HF : Hid (([] : List Int).length < 3) := hide (by simp)
        have e1 : one x = ([], [x]) := by
          rcases one_ways x with ⟨h, e⟩ | ⟨h, e⟩ | ⟨h, e⟩
          · omega
          · omega
          · exact e
        have HP : Hid (prop [x] = true) := hide (prop_1 (by omega))
        have HQ4 : Hid (ts ++ (scanS [x] r).1 = T ∧ (scanS [x] r).2 = H) := by
          obtain ⟨q1, q2⟩ := unhide HQ
          have e' : stepS [] x = ([], [x]) := by simp [stepS, e1]
          simp only [scanS, e'] at q1 q2
          exact hide ⟨by rw [← q1]; simp, q2⟩
        clear HQ e1
        cases r with
        | nil =>
          dsimp only
          go_wp2_with fail
          refine (hold_at g [] fed x _ (unhide HM).sca (unhide HF) hx).mono ?_
          rintro e w4 ⟨rfl, s4, f4⟩
          have HM4 := hide ((unhide HM).next s4 (Scf.chain2 (Nat.le_refl _) (unhide HM).scf f4) ((unhide HM).row.scf f4 (unhide HM).low) (by simp))
          clear s4 f4
          dsimp only
          go_wp2_with fail
          all_goals (
            go_step3
            go_wp2_with fail
            show bodyPost _ _ _ Exit.ret _ _
            go_ret
            exact (unhide HM4).ret (unhide HQ4))
        | cons y r =>
          have hcap2 : ¬ cap = 1 := by simp only [List.length_cons] at hcap; omega
          simp only [List.length_cons] at hcap hlen ⊢
          try dsimp only
          go_wp2_with fail
          refine (hold_at g [] fed x _ (unhide HM).sca (unhide HF) hx).mono ?_
          rintro e w4 ⟨rfl, s4, f4⟩
          have hM4 := (unhide HM).next s4 (Scf.chain2 (Nat.le_refl _) (unhide HM).scf f4) ((unhide HM).row.scf f4 (unhide HM).low) (by simp)
          rw [if_neg hcap2] at hM4
          have HM4 := hide hM4
          clear hM4 s4 f4
          obtain ⟨gb', off', e', hc', hx', hcap', hlen', hgb', hgn'⟩ := (unhide HM4).head
          cases e'
          obtain ⟨hca, ha0, ha1⟩ := (unhide HM4).sca.2.2.1.head
          dsimp only
          go_wp2_with fail
          go_step3
          go_wp2_with fail
          cases hs : sec x y with
          | true =>
            go_quiet ((go_at_call 123; exact Calls.quiet_of_same (Second_at _ _ _ ha0 ha1 hx'.1 hx'.2 (Tab.drewN (unhide HM4).tab _) hs)))
            have HA : Hid (AtL 4 [x] (y :: r)) := hide ⟨unhide HP, y, r, rfl, hs⟩
            rename_i nq
            have HMq := hide ((unhide HM4).drew nq)
            go_wp2_with fail
            go_step3
            exact ⟨_, ⟨[x], y :: r, _, _, _, _, ⟨_, _, _, _, _, _, _, _, _, _, _, _, _, _, _, _, _, _, _, _, _, _, _, _, _, _, _, _, _, _, _, _, _, _, _, _, _, _, _, _, _, _, _, _, _, _, _, _, _, _, _, _, _, _, _, _, _, _, _, _, _, _, _, _, _, _, _, _, _, _, _, _, _, _, _, _, _, _, _, rfl⟩, rfl, HMq, unhide HA, HQ4⟩, by simp only [rank, List.length_cons]; omega⟩
          | false =>
            go_quiet ((go_at_call 123; exact Calls.quiet_of_same (Second_at _ _ _ ha0 ha1 hx'.1 hx'.2 (Tab.drewN (unhide HM4).tab _) hs)))
            have HA : Hid (AtL 5 [x] (y :: r)) := hide ⟨unhide HP, y, r, rfl, hs⟩
            rename_i nq
            have HMq := hide ((unhide HM4).drew nq)
            go_wp2_with fail
            go_step3
            exact ⟨_, ⟨[x], y :: r, _, _, _, _, ⟨_, _, _, _, _, _, _, _, _, _, _, _, _, _, _, _, _, _, _, _, _, _, _, _, _, _, _, _, _, _, _, _, _, _, _, _, _, _, _, _, _, _, _, _, _, _, _, _, _, _, _, _, _, _, _, _, _, _, _, _, _, _, _, _, _, _, _, _, _, _, _, _, _, _, _, _, _, _, _, rfl⟩, rfl, HMq, unhide HA, HQ4⟩, by simp only [rank, List.length_cons]; omega⟩
end
section
theorem take_at (g : Nat) (h b : List Int) (fed : Int) (a0 : Option Addr) (cap : Nat) (w : World) (hS : Sca w g h fed) (hH : Hel h) (hT : Tab w) (hB : IsB w a0 cap b) (hblk : ∀ a, a0 = some a → a.block < w.heap.size ∧ a.block ≠ g) (hl : b.length ≤ 4193000) :
    Calls Tryz.prog 137 #[.pointer (some ⟨g, 0, none⟩), .slice a0 b.length cap] w (TakeR g fed w (scanS h b).1 (scanS h b).2) := by
  have hM : Mem g fed w h b [] a0 cap (.slice none 0 0) w := ⟨hS, Scf.refl _ _ _, RT.nil _ _, hB, hblk, hT, hS.pos hT, by have := hH.len; simp; omega, hS.1⟩
  have HM := hide hM
  have hc := hS.2.2.2.2.2.1
  clear hM hS hT hB hblk
  obtain ⟨T, hT⟩ : ∃ T, T = (scanS h b).1 := ⟨_, rfl⟩
  obtain ⟨H, hHe⟩ : ∃ H, H = (scanS h b).2 := ⟨_, rfl⟩
  have HQ : Hid ([] ++ (scanS h b).1 = T ∧ (scanS h b).2 = H) := hide ⟨hT.symm, hHe.symm⟩
  rw [← hT, ← hHe]
  clear hT hHe
  go_enter Tryz.func137, Tryz.ntmps137
  go_wp2_with fail
  refine wp_scope_labels (J g fed w T H) ?_ (fun l m a w' hJ => ?_)
  · rcases Nat.lt_or_ge h.length 1 with h0 | h1
    · have HA : Hid (AtL 0 h b) := hide (List.length_eq_zero_iff.1 (by omega))
      have e0 : ((h.length : Int) == 0) = true := by rw [beq_iff_eq]; omega
      go_wp2_with fail
      go_step3
      exact ⟨_, h, b, [], _, _, _, ⟨_, _, _, _, _, _, _, _, _, _, _, _, _, _, _, _, _, _, _, _, _, _, _, _, _, _, _, _, _, _, _, _, _, _, _, _, _, _, _, _, _, _, _, _, _, _, _, _, _, _, _, _, _, _, _, _, _, _, _, _, _, _, _, _, _, _, _, _, _, _, _, _, _, _, _, _, _, _, _, rfl⟩, rfl, HM, unhide HA, HQ⟩
    · have hp : prop h = true := by
        rcases hH with rfl | hp
        · simp at h1
        · exact hp
      have e0 : ((h.length : Int) == 0) = false := by rw [beq_eq_false_iff_ne]; omega
      rcases Nat.lt_or_ge h.length 2 with h2 | h2
      · have HA : Hid (AtL 1 h b) := hide ⟨hp, by omega⟩
        have e1 : ((h.length : Int) == 1) = true := by rw [beq_iff_eq]; omega
        go_wp2_with fail
        go_step3
        exact ⟨_, h, b, [], _, _, _, ⟨_, _, _, _, _, _, _, _, _, _, _, _, _, _, _, _, _, _, _, _, _, _, _, _, _, _, _, _, _, _, _, _, _, _, _, _, _, _, _, _, _, _, _, _, _, _, _, _, _, _, _, _, _, _, _, _, _, _, _, _, _, _, _, _, _, _, _, _, _, _, _, _, _, _, _, _, _, _, _, rfl⟩, rfl, HM, unhide HA, HQ⟩
      · have HA : Hid (AtL 2 h b) := hide ⟨hp, by omega⟩
        have e1 : ((h.length : Int) == 1) = false := by rw [beq_eq_false_iff_ne]; omega
        go_wp2_with fail
        go_step3
        exact ⟨_, h, b, [], _, _, _, ⟨_, _, _, _, _, _, _, _, _, _, _, _, _, _, _, _, _, _, _, _, _, _, _, _, _, _, _, _, _, _, _, _, _, _, _, _, _, _, _, _, _, _, _, _, _, _, _, _, _, _, _, _, _, _, _, _, _, _, _, _, _, _, _, _, _, _, _, _, _, _, _, _, _, _, _, _, _, _, _, rfl⟩, rfl, HM, unhide HA, HQ⟩
  · match l, hJ with
    | 0, hJ => exact pass_first g fed w T H m a w' hJ
    | 1, hJ => exact pass_second g fed w T H m a w' hJ
    | 2, hJ => exact pass_further g fed w T H m a w' hJ
    | 3, hJ => exact pass_last g fed w T H m a w' hJ
    | 4, hJ => exact pass_fitting g fed w T H m a w' hJ
    | 5, hJ => exact pass_broken g fed w T H m a w' hJ
    | l + 6, hJ =>
      obtain ⟨_, _, _, _, _, _, _, _, _, hA, _⟩ := hJ
      exact hA.elim
theorem Feed_at (g : Nat) (h b : List Int) (fed : Int) (a0 : Option Addr) (cap : Nat) (w : World) (hS : Sca w g h fed) (hH : Hel h) (hT : Tab w) (hB : IsB w a0 cap b) (hblk : ∀ a, a0 = some a → a.block < w.heap.size ∧ a.block ≠ g) (hl : b.length ≤ 4193000) (hf0 : 0 ≤ fed) (hf1 : fed ≤ 4611686018427387904) :
    Calls Tryz.prog 130 #[.pointer (some ⟨g, 0, none⟩), .slice a0 b.length cap] w fun e w' =>
      ∃ v, e = .returned v ∧ RT w.heap.size v (scanS h b).1 w' ∧ Sca w' g (scanS h b).2 (fed + (b.length : Int)) ∧ Scf w.heap.size g w w' := by
  have hcf := hS.2.2.2.2.2.2
  have hzf := hS.2.2.2.1 4 (by omega)
  have HS := hide hS
  have hgp := hS.pos hT
  have HB := hide hB
  have HT := hide hT
  clear hS hB hT
  go_enter Tryz.func130, Tryz.ntmps130
  go_wp2_with fail
  have f1 : Scf w.heap.size g w (w.setCell ⟨g, 4, none⟩ (.int .i64 (fed + (b.length : Int)))) := (Scf.refl _ g w).set _ _
  have hz1 : (w.setCell ⟨g, 4, none⟩ (.int .i64 (fed + (b.length : Int)))).heap.size = w.heap.size := size_set _ _ _
  refine (take_at g h b (fed + (b.length : Int)) a0 cap _ ((unhide HS).feed _) hH ((unhide HT).scf f1 (unhide HT).size hgp) ((unhide HB).scf f1 hblk) (fun a ha => by rw [hz1]; exact hblk a ha) hl).mono ?_
  rintro e w1 ⟨v, rfl, r1, s1, f2⟩
  rw [hz1] at r1 f2
  dsimp only
  go_wp2_with fail
  go_ret
  exact ⟨v, rfl, r1, s1, f1.trans f2⟩
end
end Go.Proofs.YteamaneompijkaaGreatDoor
