/- Layer 15, the document's: put, Find, without (written by wip/tools/mkq.py). · Layer 15, the document's: Find, without, Between, Same. -/
import Derived.Test.YtfllomlighlejaaMb34
import Derived.RegionTactic

section
namespace Go.Proofs.Ytfllomlighlejaa
open Go.ChangeShapes Go.WideShapes Go.ChangeAt Go.RowKit
attribute [local go_sem] Oper.semAt_some

/-- a list of marks of one's own that grows -/
structure PuJ (X wx : World) (v : Value) (q : List Mk) : Prop where
  o : wx.ownsRow X.heap.size 42 3 v q.length (mksV q)
  d : Below X.heap.size X wx
theorem PuJ.new {X wx : World} (h : Below X.heap.size X wx) : PuJ X wx (.slice none 0 0) [] := ⟨World.ownsRow_nil _ _ _ _, h⟩
theorem PuJ.on {X wx wy : World} {v : Value} {q : List Mk} (h : PuJ X wx v q) (hb : Below wx.heap.size wx wy) : PuJ X wy v q := ⟨rowD_below h.o hb (Nat.le_refl _), h.d.trans (hb.mono h.d.size)⟩
theorem PuJ.push {X wx : World} {v : Value} {q : List Mk} (h : PuJ X wx v q) (m : Mk) (hl : q.length ≤ 1099511627776) :
    ∃ v' W', (Builtin.append_ #[27, 27] 27 #[v, .slice (some ⟨wx.heap.size, 0, none⟩) 1 1]).run Try.prog (wx.alloc (.cells #[.string m.n, .int .i64 m.p, .int .i64 m.g] 42)) = .ok v' W' ∧ PuJ X W' v' (q ++ [m]) := by
  obtain ⟨g, c, W', r, ho, hg, bb⟩ := push_mk wx X.heap.size q.length v (mksV q) m.n m.p m.g 27 h.o hl h.d.size
  refine ⟨_, W', r, ?_, h.d.trans bb⟩
  rw [List.length_append, List.length_singleton, mksV_app, mksV_one]
  exact ho
theorem dropM_getD (l : List Mk) {i : Nat} (h : i < l.length) : l.drop i = l.getD i mkZ :: l.drop (i + 1) := by
  rw [List.drop_eq_getElem_cons h]; simp [List.getD, h]
theorem insM_len (x : Mk) (l : List Mk) : (insM x l).length = l.length + 1 := by rw [(ins_perm x l).length_eq, List.length_cons]
set_option maxRecDepth 100000 in
set_option maxHeartbeats 4000000 in
theorem RPut_at (a : Option Addr) (c : Nat) (l : List Mk) (x : Mk) (X : World) (h : IsK X a l) (hl : l.length ≤ 1048576) :
    Calls Try.prog 33 #[.slice a l.length c, mkV x] X fun y X' => ∃ v, y = .returned v ∧ X'.ownsRow X.heap.size 42 3 v (insM x l).length (mksV (insM x l)) ∧ Below X.heap.size X X' := by
  obtain ⟨R0, hR0⟩ : ∃ R0, R0 = insM x l := ⟨_, rfl⟩
  rw [← hR0]
  have HR := hide hR0
  have hRl : R0.length = l.length + 1 := by rw [hR0, insM_len]
  have HBf := hide fun (Y : World) (m : Mk) => RBefore_at x m Y
  have HP : Hid (∀ {wx : World} {v : Value} {q : List Mk} (hh : PuJ (X.alloc (.cells #[.string x.n, .int .i64 x.p, .int .i64 x.g] 42)) wx v q) (hq : q.length ≤ 1099511627776), ∃ v' W', (Builtin.append_ #[27, 27] 27 #[v, .slice (some ⟨wx.heap.size, 0, none⟩) 1 1]).run Try.prog (wx.alloc (.cells #[.string x.n, .int .i64 x.p, .int .i64 x.g] 42)) = .ok v' W' ∧ PuJ (X.alloc (.cells #[.string x.n, .int .i64 x.p, .int .i64 x.g] 42)) W' v' (q ++ [x])) := hide fun hh hq => hh.push x hq
  have HIn : Hid (∀ (i : Nat) (q : List Mk), i < l.length → q ++ insM x (l.drop i) = R0 → (ltM x (l.getD i mkZ) = true → q ++ x :: l.drop i = R0) ∧ (ltM x (l.getD i mkZ) = false → q ++ [l.getD i mkZ] ++ insM x (l.drop (i + 1)) = R0)) := hide fun i q hi e => by
    rw [dropM_getD l hi] at e ⊢
    unfold insM at e
    refine ⟨fun hh => by rw [hh] at e; exact e, fun hh => by rw [hh] at e; simpa using e⟩
  have HI0 : Hid ([] ++ insM x (l.drop 0) = R0) := hide (by rw [hR0]; rfl)
  have HIZ : Hid (∀ q : List Mk, q ++ insM x (l.drop l.length) = R0 → q ++ x :: l.drop l.length = R0) := hide fun q e => by
    rw [List.drop_length] at e ⊢; exact e
  obtain ⟨xn, xp, xg⟩ := x
  unfold mkV at HBf ⊢
  dsimp only at HBf HP ⊢
  have b1 := (Below.refl X.heap.size X).alloc (Nat.le_refl _) (.cells #[.string xn, .int .i64 xp, .int .i64 xg] 42)
  have HX := hide b1
  have HK := hide (Cls.new X 42 #[.string xn, .int .i64 xp, .int .i64 xg])
  have HL := hide (h.below b1 (Nat.le_refl _))
  have HJ0 := hide (PuJ.new (Below.refl (X.alloc (.cells #[.string xn, .int .i64 xp, .int .i64 xg] 42)).heap.size (X.alloc (.cells #[.string xn, .int .i64 xp, .int .i64 xg] 42))))
  clear h hR0 HR
  obtain ⟨N, hN⟩ : ∃ N, N = l.length := ⟨_, rfl⟩
  have HN := hide hN
  rw [← hN] at hl hRl HIZ ⊢
  clear hN b1
  go_enter Try.func33, Try.ntmps33
  go_wp2_with fail
  generalize X.alloc (.cells #[.string xn, .int .i64 xp, .int .i64 xg] 42) = X1 at *
  have HRest : Hid (∀ wx v q, PuJ X1 wx v q → Below X1.heap.size X1 wx) := hide fun _ _ _ hh => hh.d
  go_loopw [5, 6, 7] (fun v5 v6 v7 wx => (∃ z, v7 = z) ∧ ∃ i : Nat, v6 = .int .i64 (i : Int) ∧ i ≤ N ∧ Hid (∃ q, PuJ X1 wx v5 q ∧ q.length = i ∧ q ++ insM ⟨xn, xp, xg⟩ (l.drop i) = R0)) (fun _ v6 _ _ => N - (intOf v6).toNat)
  case atStart => exact ⟨⟨_, rfl⟩, 0, rfl, Nat.zero_le _, hide ⟨[], unhide HJ0, rfl, unhide HI0⟩⟩
  case round =>
    clear HJ0 HI0
    obtain ⟨⟨z7, rfl⟩, i, rfl, hi, HI⟩ := hrel
    obtain ⟨q, hJ, hq, hR⟩ := unhide HI
    by_cases hlt : i < N
    · have t1 : decide ((i : Int) < (N : Int)) = true := decide_eq_true (by omega)
      have hlt' : i < l.length := by rw [← unhide HN]; exact hlt
      obtain ⟨hy, hn⟩ := unhide HIn i q hlt' hR
      obtain ⟨eg, eo, ha, heg, e0, e1, e2⟩ := ((unhide HL).below hJ.d (Nat.le_refl _)).three hlt'
      subst ha
      have kx := (unhide HK).below hJ.d (unhide HK).lt
      have HC := hide (unhide HBf wr.drew (l.getD i mkZ))
      have hpu := fun Y (hY : Below wr.heap.size wr Y) => (hJ.on hY).push (l.getD i mkZ) (by omega)
      generalize l.getD i mkZ = m at *
      obtain ⟨mn, mp, mg⟩ := m
      dsimp only at e0 e1 e2 HC hpu
      have hS : wr.drew.cell? ⟨X.heap.size, 0, none⟩ = some (.string xn) ∧ wr.drew.cell? ⟨X.heap.size, 1, none⟩ = some (.int .i64 xp) ∧ wr.drew.cell? ⟨X.heap.size, 2, none⟩ = some (.int .i64 xg) ∧ wr.drew.cell? ⟨eg, eo + i * 3, none⟩ = some (.string mn) ∧ wr.drew.cell? ⟨eg, eo + i * 3 + 1, none⟩ = some (.int .i64 mp) ∧ wr.drew.cell? ⟨eg, eo + i * 3 + 2, none⟩ = some (.int .i64 mg) := ⟨(kx.cell 0).trans rfl, (kx.cell 1).trans rfl, (kx.cell 2).trans rfl, e0, e1, e2⟩
      have HS := hide hS
      have HSw : Hid (∀ Y, Below wr.heap.size wr Y → Y.cell? ⟨X.heap.size, 0, none⟩ = some (.string xn) ∧ Y.cell? ⟨X.heap.size, 1, none⟩ = some (.int .i64 xp) ∧ Y.cell? ⟨X.heap.size, 2, none⟩ = some (.int .i64 xg) ∧ Y.cell? ⟨eg, eo + i * 3, none⟩ = some (.string mn) ∧ Y.cell? ⟨eg, eo + i * 3 + 1, none⟩ = some (.int .i64 mp) ∧ Y.cell? ⟨eg, eo + i * 3 + 2, none⟩ = some (.int .i64 mg)) := hide fun Y hY => by
        obtain ⟨p0, p1, p2, p3, p4, p5⟩ := hS
        have hb : ∀ (g o : Nat), g < wr.heap.size → Y.cell? ⟨g, o, none⟩ = wr.cell? ⟨g, o, none⟩ := fun g o hg => hY.cell (p := ⟨g, o, none⟩) hg
        exact ⟨(hb _ _ kx.lt).trans p0, (hb _ _ kx.lt).trans p1, (hb _ _ kx.lt).trans p2, (hb _ _ heg).trans p3, (hb _ _ heg).trans p4, (hb _ _ heg).trans p5⟩
      have HPU := hide hpu
      have HJ := hide hJ
      have HYN := hide (And.intro hy hn)
      have HQ := hide hq
      clear hS hpu hJ hy hn hq hR HI kx e0 e1 e2 hlt'
      go_upto_region 4 with fail
      refine regionL (S := fun z => z.cell? ⟨X.heap.size, 0, none⟩ = some (.string xn) ∧ z.cell? ⟨X.heap.size, 1, none⟩ = some (.int .i64 xp) ∧ z.cell? ⟨X.heap.size, 2, none⟩ = some (.int .i64 xg) ∧ z.cell? ⟨eg, eo + i * 3, none⟩ = some (.string mn) ∧ z.cell? ⟨eg, eo + i * 3 + 1, none⟩ = some (.int .i64 mp) ∧ z.cell? ⟨eg, eo + i * 3 + 2, none⟩ = some (.int .i64 mg)) (fun _ => false) (by kernel_rfl) ?_
      refine anyL_take (i := 0) (v := ?vpu0) rfl (by kernel_rfl) (by kernel_rfl) (by kernel_rfl) (by kernel_rfl) (fun _ _ _ h => h) (Or.inl ⟨by rfl, ?hpu0⟩) (unhide HS) ?_
      case hpu0 => (intro w hSw; (try dsimp only at hSw); go_simp) <;> with_reducible rfl
      simp only [Act.put, List.getElem_toArray, List.getElem_cons_zero, List.setIfInBounds_toArray, List.set_cons_zero, List.set_cons_succ]
      refine anyL_take (i := 1) (v := ?vpu1) rfl (by kernel_rfl) (by kernel_rfl) (by kernel_rfl) (by kernel_rfl) (fun _ _ _ h => h) (Or.inl ⟨by rfl, ?hpu1⟩) (unhide HS) ?_
      case hpu1 => (intro w hSw; (try dsimp only at hSw); go_simp) <;> with_reducible rfl
      simp only [Act.put, List.getElem_toArray, List.getElem_cons_zero, List.getElem_cons_succ, List.setIfInBounds_toArray, List.set_cons_zero, List.set_cons_succ]
      refine anyL_take (i := 2) (v := ?vpu2) rfl (by kernel_rfl) (by kernel_rfl) (by kernel_rfl) (by kernel_rfl) (fun _ _ _ h => h) (Or.inl ⟨by rfl, ?hpu2⟩) (unhide HS) ?_
      case hpu2 => (intro w hSw; (try dsimp only at hSw); go_simp) <;> with_reducible rfl
      simp only [Act.put, List.getElem_toArray, List.getElem_cons_zero, List.getElem_cons_succ, List.setIfInBounds_toArray, List.set_cons_zero, List.set_cons_succ]
      refine anyL_take (i := 3) (v := ?vpu3) rfl (by kernel_rfl) (by kernel_rfl) (by kernel_rfl) (by kernel_rfl) (fun _ _ _ h => h) (Or.inl ⟨by rfl, ?hpu3⟩) (unhide HS) ?_
      case hpu3 => (intro w hSw; (try dsimp only at hSw); go_simp) <;> with_reducible rfl
      simp only [Act.put, List.getElem_toArray, List.getElem_cons_zero, List.getElem_cons_succ, List.setIfInBounds_toArray, List.set_cons_zero, List.set_cons_succ]
      refine anyL_take (i := 4) (v := ?vpu4) rfl (by kernel_rfl) (by kernel_rfl) (by kernel_rfl) (by kernel_rfl) (fun _ _ _ h => h) (Or.inl ⟨by rfl, ?hpu4⟩) (unhide HS) ?_
      case hpu4 => (intro w hSw; (try dsimp only at hSw); go_simp) <;> with_reducible rfl
      simp only [Act.put, List.getElem_toArray, List.getElem_cons_zero, List.getElem_cons_succ, List.setIfInBounds_toArray, List.set_cons_zero, List.set_cons_succ]
      refine anyL_ready (rs := [5]) (by kernel_rfl) (by simp) ?_
      refine AllL.cons rfl (fun K hK => ?_) AllL.nil
      go_simp
      refine (unhide HC).mono ?_
      rintro y w1 ⟨rfl, x1⟩
      have x1 : Below wr.heap.size wr w1 := (Below.refl wr.heap.size wr).drew.trans x1
      obtain ⟨BV, hBV⟩ : ∃ BV, BV = ltM ⟨xn, xp, xg⟩ ⟨mn, mp, mg⟩ := ⟨_, rfl⟩
      rw [← hBV]
      have HBV := hide hBV.symm
      refine unhide hK _ _ (fun _ => unhide HSw w1 x1) ?_
      clear hK K HC hBV
      refine anyL_take (i := 6) (v := ?vpu5) rfl (by kernel_rfl) (by kernel_rfl) (by kernel_rfl) (by kernel_rfl) (fun _ _ _ h => h) (Or.inl ⟨by rfl, ?hpu5⟩) (unhide HSw w1 x1) ?_
      case hpu5 => (intro w hSw; (try dsimp only at hSw); go_simp) <;> with_reducible rfl
      simp only [Act.put, List.getElem_toArray, List.getElem_cons_zero, List.getElem_cons_succ, List.setIfInBounds_toArray, List.set_cons_zero, List.set_cons_succ]
      refine anyL_done (by kernel_rfl) ?_ _
      by_cases hb : BV = true
      · subst hb
        have HRR := hide ((unhide HYN).1 (unhide HBV))
        have HJ1 := hide ((unhide HJ).on x1)
        clear HYN HPU HJ
        have kx := (unhide HK).below (unhide HJ1).d (unhide HK).lt
        have c0 := (kx.cell 0).trans rfl
        have c1 := (kx.cell 1).trans rfl
        have c2 := (kx.cell 2).trans rfl
        obtain ⟨v', W', ra, hJ2⟩ := unhide HP (unhide HJ1) (by rw [unhide HQ]; omega)
        have R := hide ra
        have HJ2 := hide hJ2
        have HRR2 : Hid ((q ++ [(⟨xn, xp, xg⟩ : Mk)]) ++ l.drop i = R0) := hide (by rw [List.append_assoc]; exact unhide HRR)
        have HQ2 : Hid ((q ++ [(⟨xn, xp, xg⟩ : Mk)]).length = i + 1) := hide (by rw [List.length_append, unhide HQ]; rfl)
        clear HJ1 ra hJ2 kx HRR HQ
        go_wp2_with (at_builtin; refine wpList_append_known rfl _ _ 27 27 rfl _ _ rfl rfl _ _ (unhide R) ?_; clear R)
        clear c0 c1 c2
        go_loopw [5, 6] (fun v5 v6 wx => ∃ k : Nat, v6 = .int .i64 (k : Int) ∧ k ≤ N ∧ Hid (∃ q, PuJ X1 wx v5 q ∧ q.length = k + 1 ∧ q ++ l.drop k = R0)) (fun _ v6 _ => N - (intOf v6).toNat)
        case atStart => exact ⟨i, rfl, by omega, hide ⟨_, unhide HJ2, unhide HQ2, unhide HRR2⟩⟩
        case round =>
          clear HJ2 HQ2 HRR2
          obtain ⟨k, rfl, hk, HI⟩ := hrel
          obtain ⟨q2, hJ, hq, hR⟩ := unhide HI
          by_cases hlt2 : k < N
          · have t5 : decide ((k : Int) < (N : Int)) = true := decide_eq_true (by omega)
            have hlt' : k < l.length := by rw [← unhide HN]; exact hlt2
            rw [dropM_getD l hlt'] at hR
            obtain ⟨eg2, eo2, ha2, heg2, e0, e1, e2⟩ := ((unhide HL).below hJ.d (Nat.le_refl _)).three hlt'
            cases ha2
            obtain ⟨v3, W3, ra, hJ3⟩ := hJ.push (l.getD k mkZ) (by omega)
            generalize l.getD k mkZ = m2 at *
            obtain ⟨mn2, mp2, mg2⟩ := m2
            dsimp only at e0 e1 e2 ra
            have R := hide ra
            have HJ3 := hide hJ3
            have HR3 : Hid ((q2 ++ [(⟨mn2, mp2, mg2⟩ : Mk)]) ++ l.drop (k + 1) = R0) := hide (by rw [List.append_assoc]; exact hR)
            have HQ3 : Hid ((q2 ++ [(⟨mn2, mp2, mg2⟩ : Mk)]).length = k + 1 + 1) := hide (by rw [List.length_append, hq]; rfl)
            clear ra hJ3 hJ hq hR HI hlt'
            go_wp2_with (at_builtin; refine wpList_append_known rfl _ _ 27 27 rfl _ _ rfl rfl _ _ (unhide R) ?_; clear R)
            go_roundw
            case rel => exact ⟨k + 1, by go_num, hlt2, hide ⟨_, unhide HJ3, unhide HQ3, unhide HR3⟩⟩
            case measure => simp [intOf]; omega
          · obtain rfl : k = N := by omega
            have t5 : decide ((k : Int) < (k : Int)) = false := decide_eq_false (by omega)
            rw [unhide HN, List.drop_length, List.append_nil] at hR
            subst hR
            have HO := hide (rowD_base hJ.o (unhide HX).size)
            have HB := hide ((unhide HX).trans (hJ.d.mono (unhide HX).size))
            clear hJ HI hq hlt2
            go_wp2_with fail
            refine bodyPost_ret (results_tmp rfl _ _ _) rfl ?_
            exact ⟨_, rfl, unhide HO, unhide HB⟩
      · have hb' : BV = false := by simpa using hb
        subst hb'
        clear hb
        have HRR := hide ((unhide HYN).2 (unhide HBV))
        obtain ⟨v', W', ra, hJ2⟩ := unhide HPU w1 x1
        obtain ⟨p0, p1, p2, p3, p4, p5⟩ := unhide HSw w1 x1
        have R := hide ra
        have HJ2 := hide hJ2
        have HQ2 : Hid ((q ++ [(⟨mn, mp, mg⟩ : Mk)]).length = i + 1) := hide (by rw [List.length_append, unhide HQ]; rfl)
        clear HYN HPU HJ ra hJ2 HQ p0 p1 p2 HSw HS x1
        go_wp2_with (at_builtin; refine wpList_append_known rfl _ _ 27 27 rfl _ _ rfl rfl _ _ (unhide R) ?_; clear R)
        go_roundw
        case rel => exact ⟨⟨_, rfl⟩, i + 1, by go_num, hlt, hide ⟨_, unhide HJ2, unhide HQ2, unhide HRR⟩⟩
        case measure => simp [intOf]; omega
    · obtain rfl : i = N := by omega
      have t1 : decide ((i : Int) < (i : Int)) = false := decide_eq_false (by omega)
      have HRR := hide (unhide HIZ q hR)
      have HJ1 := hide hJ
      have HQ := hide hq
      have heg := True.intro
      clear hlt hJ hq hR HI
      obtain ⟨w1, hw1⟩ : ∃ w1, w1 = wr := ⟨_, rfl⟩
      rw [← hw1] at HJ1
      rw [← hw1]
      clear hw1
      have kx := (unhide HK).below (unhide HJ1).d (unhide HK).lt
      have c0 := (kx.cell 0).trans rfl
      have c1 := (kx.cell 1).trans rfl
      have c2 := (kx.cell 2).trans rfl
      obtain ⟨v', W', ra, hJ2⟩ := unhide HP (unhide HJ1) (by rw [unhide HQ]; omega)
      have R := hide ra
      have HJ2 := hide hJ2
      have HRR2 : Hid ((q ++ [(⟨xn, xp, xg⟩ : Mk)]) ++ l.drop i = R0) := hide (by rw [List.append_assoc]; exact unhide HRR)
      have HQ2 : Hid ((q ++ [(⟨xn, xp, xg⟩ : Mk)]).length = i + 1) := hide (by rw [List.length_append, unhide HQ]; rfl)
      clear HJ1 ra hJ2 kx HRR HQ
      go_wp2_with (at_builtin; refine wpList_append_known rfl _ _ 27 27 rfl _ _ rfl rfl _ _ (unhide R) ?_; clear R)
      clear c0 c1 c2
      go_loopw [5, 6] (fun v5 v6 wx => ∃ k : Nat, v6 = .int .i64 (k : Int) ∧ k ≤ i ∧ Hid (∃ q, PuJ X1 wx v5 q ∧ q.length = k + 1 ∧ q ++ l.drop k = R0)) (fun _ v6 _ => i - (intOf v6).toNat)
      case atStart => exact ⟨i, rfl, by omega, hide ⟨_, unhide HJ2, unhide HQ2, unhide HRR2⟩⟩
      case round =>
        clear HJ2 HQ2 HRR2
        obtain ⟨k, rfl, hk, HI⟩ := hrel
        obtain ⟨q2, hJ, hq, hR⟩ := unhide HI
        by_cases hlt2 : k < i
        · have t5 : decide ((k : Int) < (i : Int)) = true := decide_eq_true (by omega)
          have hlt' : k < l.length := by rw [← unhide HN]; exact hlt2
          rw [dropM_getD l hlt'] at hR
          obtain ⟨eg2, eo2, ha2, heg2, e0, e1, e2⟩ := ((unhide HL).below hJ.d (Nat.le_refl _)).three hlt'
          subst ha2
          obtain ⟨v3, W3, ra, hJ3⟩ := hJ.push (l.getD k mkZ) (by omega)
          generalize l.getD k mkZ = m2 at *
          obtain ⟨mn2, mp2, mg2⟩ := m2
          dsimp only at e0 e1 e2 ra
          have R := hide ra
          have HJ3 := hide hJ3
          have HR3 : Hid ((q2 ++ [(⟨mn2, mp2, mg2⟩ : Mk)]) ++ l.drop (k + 1) = R0) := hide (by rw [List.append_assoc]; exact hR)
          have HQ3 : Hid ((q2 ++ [(⟨mn2, mp2, mg2⟩ : Mk)]).length = k + 1 + 1) := hide (by rw [List.length_append, hq]; rfl)
          clear ra hJ3 hJ hq hR HI hlt'
          go_wp2_with (at_builtin; refine wpList_append_known rfl _ _ 27 27 rfl _ _ rfl rfl _ _ (unhide R) ?_; clear R)
          go_roundw
          case rel => exact ⟨k + 1, by go_num, hlt2, hide ⟨_, unhide HJ3, unhide HQ3, unhide HR3⟩⟩
          case measure => simp [intOf]; omega
        · obtain rfl : k = i := by omega
          have t5 : decide ((k : Int) < (k : Int)) = false := decide_eq_false (by omega)
          rw [unhide HN, List.drop_length, List.append_nil] at hR
          subst hR
          have HO := hide (rowD_base hJ.o (unhide HX).size)
          have HB := hide ((unhide HX).trans (hJ.d.mono (unhide HX).size))
          clear hJ HI hq hlt2
          go_wp2_with fail
          refine bodyPost_ret (results_tmp rfl _ _ _) rfl ?_
          exact ⟨_, rfl, unhide HO, unhide HB⟩
end Go.Proofs.Ytfllomlighlejaa
end

section
namespace Go.Proofs.Ytfllomlighlejaa
open Go.ChangeShapes Go.WideShapes Go.ChangeAt Go.RowKit
attribute [local go_sem] Oper.semAt_some

/-- the document's Marks, as a value -/
def msV (n : Int) (a : Option Addr) (k c : Nat) : Value := .agg #[.int .i64 n, .slice a k c]
def fdM (s : ByteArray) (l : List Mk) : Int := match atM s l 0 with
  | some (i, _) => (i : Int)
  | none => -1
theorem atM_drop (s : ByteArray) (l : List Mk) {i : Nat} (h : i < l.length) : atM s (l.drop i) i = if s == (l.getD i mkZ).n then some (i, l.getD i mkZ) else atM s (l.drop (i + 1)) (i + 1) := by
  rw [dropM_getD l h]; rfl
set_option maxRecDepth 100000 in
set_option maxHeartbeats 2000000 in
theorem RFind_at (n : Int) (a : Option Addr) (c : Nat) (l : List Mk) (s : ByteArray) (X : World) (h : IsK X a l) (hl : l.length ≤ 1048576) :
    Calls Try.prog 50 #[msV n a l.length c, .string s] X fun y X' => y = .returned (.int .i64 (fdM s l)) ∧ Below X.heap.size X X' := by
  unfold msV
  have b1 := (Below.refl X.heap.size X).alloc (Nat.le_refl _) (.cells #[.int .i64 n, .slice a l.length c] 29)
  have HX := hide b1
  have HK := hide (Cls.new X 29 #[.int .i64 n, .slice a l.length c])
  have HL := hide (h.below b1 (Nat.le_refl _))
  obtain ⟨V, hV⟩ : ∃ V, V = fdM s l := ⟨_, rfl⟩
  rw [← hV]
  have HV := hide hV
  obtain ⟨N, hN⟩ : ∃ N, N = l.length := ⟨_, rfl⟩
  have HN := hide hN
  rw [← hN] at hl HK HX HL ⊢
  clear hN b1 h hV
  go_enter Try.func50, Try.ntmps50
  go_wp2_with fail
  generalize X.alloc (.cells #[.int .i64 n, .slice a N c] 29) = X1 at *
  go_loopw [5] (fun v5 wx => (∃ i : Nat, v5 = .int .i64 (i : Int) ∧ i ≤ N ∧ Hid (atM s (l.drop i) i = atM s l 0)) ∧ Hid (Below X1.heap.size X1 wx)) (fun v5 _ => N - (intOf v5).toNat)
  case atStart => exact ⟨⟨0, rfl, Nat.zero_le _, hide rfl⟩, hide (Below.refl _ _)⟩
  case round =>
    obtain ⟨⟨i, rfl, hi, HI⟩, HB⟩ := hrel
    have kx := (unhide HK).below (unhide HB) (unhide HK).lt
    have c1 := (kx.cell 1).trans rfl
    by_cases hlt : i < N
    · have t1 : decide ((i : Int) < (N : Int)) = true := decide_eq_true (by omega)
      have hlt' : i < l.length := by rw [← unhide HN]; exact hlt
      obtain ⟨eg, eo, ha, heg, e0, _, _⟩ := ((unhide HL).below (unhide HB) (Nat.le_refl _)).three hlt'
      have hI := (atM_drop s l hlt').symm.trans (unhide HI)
      subst ha
      generalize l.getD i mkZ = m at *
      obtain ⟨mn, mp, mg⟩ := m
      dsimp only at e0 hI
      by_cases he : mn = s
      · subst he
        rw [(MapKept.bytes_beq mn mn).2 rfl, if_pos rfl] at hI
        obtain rfl : V = (i : Int) := by rw [unhide HV]; unfold fdM; rw [← hI]
        have HB2 := hide ((unhide HX).trans ((unhide HB).mono (unhide HX).size))
        clear hI HI HB kx HV hlt'
        go_wp2_with fail
        refine bodyPost_ret (results_tmp rfl _ _ _) rfl ⟨rfl, unhide HB2⟩
      · have h1 : (s == mn) = false := by
          cases hc : s == mn with
          | false => rfl
          | true => exact absurd ((MapKept.bytes_beq _ _).1 hc).symm he
        have h2 : ¬ mn.toList = s.toList := fun e => he (ba_toList e)
        have h3 : (mn.toList == s.toList) = false := by simpa using h2
        rw [h1] at hI
        simp only [Bool.false_eq_true, if_false] at hI
        have HI2 := hide hI
        clear hI HI kx he h1 hlt'
        go_wp2_with fail
        go_roundw
        case rel => exact ⟨⟨i + 1, by go_num, hlt, HI2⟩, HB⟩
        case measure => simp [intOf]; omega
    · obtain rfl : i = N := by omega
      have t1 : decide ((i : Int) < (i : Int)) = false := decide_eq_false (by omega)
      have hI := unhide HI
      rw [unhide HN, List.drop_length] at hI
      obtain rfl : V = -1 := by rw [unhide HV]; unfold fdM; rw [← hI]; rfl
      have HB2 := hide ((unhide HX).trans ((unhide HB).mono (unhide HX).size))
      clear hI HI HB kx HV hlt
      go_wp2_with fail
      refine bodyPost_ret (results_tmp rfl _ _ _) rfl ⟨rfl, unhide HB2⟩
/-- without one place -/
def woM (k : Int) : Nat → List Mk → List Mk
  | _, [] => []
  | i, m :: l => if (i : Int) = k then woM k (i + 1) l else m :: woM k (i + 1) l
theorem woM_no (k : Int) : ∀ (i : Nat) (l : List Mk), k < (i : Int) → woM k i l = l
  | _, [], _ => rfl
  | i, m :: l, h => by
    unfold woM
    rw [if_neg (by omega), woM_no k (i + 1) l (by omega)]
theorem woM_at (k : Nat) : ∀ (i : Nat) (l : List Mk), woM ((i + k : Nat) : Int) i l = l.eraseIdx k
  | _, [] => by simp [woM]
  | i, m :: l => by
    unfold woM
    cases k with
    | zero => rw [if_pos (by omega), woM_no _ _ _ (by omega)]; rfl
    | succ k =>
      rw [if_neg (by omega)]
      have := woM_at k (i + 1) l
      rw [show i + 1 + k = i + (k + 1) by omega] at this
      rw [this]; rfl
theorem wo_find (s : ByteArray) (l : List Mk) : woM (fdM s l) 0 l = delM s l := by
  unfold fdM delM
  cases h : atM s l 0 with
  | none => exact woM_no _ _ _ (by decide)
  | some y =>
    obtain ⟨j, y⟩ := y
    have := woM_at j 0 l
    rwa [Nat.zero_add] at this
theorem woM_len (k : Int) : ∀ (i : Nat) (l : List Mk), (woM k i l).length ≤ l.length
  | _, [] => Nat.le_refl _
  | i, m :: l => by
    unfold woM
    have := woM_len k (i + 1) l
    split <;> simp <;> omega
set_option maxRecDepth 100000 in
set_option maxHeartbeats 2000000 in
theorem RWithout_at (a : Option Addr) (c : Nat) (l : List Mk) (k : Int) (X : World) (h : IsK X a l) (hl : l.length ≤ 1048576) :
    Calls Try.prog 51 #[.slice a l.length c, .int .i64 k] X fun y X' => ∃ v, y = .returned v ∧ X'.ownsRow X.heap.size 42 3 v (woM k 0 l).length (mksV (woM k 0 l)) ∧ Below X.heap.size X X' := by
  obtain ⟨R0, hR0⟩ : ∃ R0, R0 = woM k 0 l := ⟨_, rfl⟩
  rw [← hR0]
  have HL := hide h
  have HI0 : Hid (([] : List Mk) ++ woM k 0 (l.drop 0) = R0) := hide (by rw [hR0]; rfl)
  obtain ⟨N, hN⟩ : ∃ N, N = l.length := ⟨_, rfl⟩
  have HN := hide hN
  rw [← hN] at hl ⊢
  clear hN h hR0
  go_enter Try.func51, Try.ntmps51
  go_wp2_with fail
  go_loopw [5, 6] (fun v5 v6 wx => ∃ i : Nat, v6 = .int .i64 (i : Int) ∧ i ≤ N ∧ Hid (∃ q, PuJ X wx v5 q ∧ q.length ≤ i ∧ q ++ woM k i (l.drop i) = R0)) (fun _ v6 _ => N - (intOf v6).toNat)
  case atStart => exact ⟨0, rfl, Nat.zero_le _, hide ⟨[], PuJ.new (Below.refl _ _), Nat.le_refl _, unhide HI0⟩⟩
  case round =>
    clear HI0
    obtain ⟨i, rfl, hi, HI⟩ := hrel
    obtain ⟨q, hJ, hq, hR⟩ := unhide HI
    by_cases hlt : i < N
    · have t1 : decide ((i : Int) < (N : Int)) = true := decide_eq_true (by omega)
      have hlt' : i < l.length := by rw [← unhide HN]; exact hlt
      rw [dropM_getD l hlt'] at hR
      unfold woM at hR
      by_cases hk : (i : Int) = k
      · rw [if_pos hk] at hR
        subst hk
        have HI2 : Hid (∃ q, PuJ X wr u5 q ∧ q.length ≤ i + 1 ∧ q ++ woM (i : Int) (i + 1) (l.drop (i + 1)) = R0) := hide ⟨q, hJ, by omega, hR⟩
        clear HI hJ hq hR hlt'
        go_wp2_with fail
        go_roundw
        case rel => exact ⟨i + 1, by go_num, hlt, HI2⟩
        case measure => simp [intOf]; omega
      · rw [if_neg hk] at hR
        have t2 : ((i : Int) != k) = true := by simpa using hk
        have t2' : ((i : Int) == k) = false := by simpa using hk
        obtain ⟨eg, eo, ha, heg, e0, e1, e2⟩ := ((unhide HL).below hJ.d (Nat.le_refl _)).three hlt'
        subst ha
        obtain ⟨v3, W3, ra, hJ3⟩ := hJ.push (l.getD i mkZ) (by omega)
        generalize l.getD i mkZ = m at *
        obtain ⟨mn, mp, mg⟩ := m
        dsimp only at e0 e1 e2 ra
        have R := hide ra
        have HI2 : Hid (∃ q, PuJ X W3 v3 q ∧ q.length ≤ i + 1 ∧ q ++ woM k (i + 1) (l.drop (i + 1)) = R0) := hide ⟨_, hJ3, by simp; omega, by rw [List.append_assoc]; exact hR⟩
        clear HI hJ hq hR hlt' ra hJ3 hk
        go_wp2_with (at_builtin; refine wpList_append_known rfl _ _ 27 27 rfl _ _ rfl rfl _ _ (unhide R) ?_; clear R)
        go_roundw
        case rel => exact ⟨i + 1, by go_num, hlt, HI2⟩
        case measure => simp [intOf]; omega
    · obtain rfl : i = N := by omega
      have t1 : decide ((i : Int) < (i : Int)) = false := decide_eq_false (by omega)
      rw [unhide HN, List.drop_length] at hR
      unfold woM at hR
      rw [List.append_nil] at hR
      subst hR
      have HO := hide hJ.o
      have HB := hide hJ.d
      clear hJ HI hq hlt
      go_wp2_with fail
      refine bodyPost_ret (results_tmp rfl _ _ _) rfl ?_
      exact ⟨_, rfl, unhide HO, unhide HB⟩
set_option maxRecDepth 100000 in
set_option maxHeartbeats 2000000 in
/-- Same, of lists that are alike -/
theorem RSameK_at (a : Option Addr) (c : Nat) (a' : Option Addr) (c' : Nat) (l : List Mk) (X : World) (h : IsK X a l) (h' : IsK X a' l) (hl : l.length ≤ 1048576) :
    Calls Try.prog 18 #[.slice a l.length c, .slice a' l.length c'] X fun y X' => y = .returned (.bool true) ∧ Below X.heap.size X X' := by
  have HL := hide h
  have HL' := hide h'
  obtain ⟨N, hN⟩ : ∃ N, N = l.length := ⟨_, rfl⟩
  have HN := hide hN
  rw [← hN] at hl ⊢
  clear hN h h'
  go_enter Try.func18, Try.ntmps18
  go_wp2_with fail
  go_loopw [5] (fun v5 wx => (∃ i : Nat, v5 = .int .i64 (i : Int) ∧ i ≤ N) ∧ Hid (Below X.heap.size X wx)) (fun v5 _ => N - (intOf v5).toNat)
  case atStart => exact ⟨⟨0, rfl, Nat.zero_le _⟩, hide (Below.refl _ _)⟩
  case round =>
    obtain ⟨⟨i, rfl, hi⟩, HB⟩ := hrel
    by_cases hlt : i < N
    · have t1 : decide ((i : Int) < (N : Int)) = true := decide_eq_true (by omega)
      have hlt' : i < l.length := by rw [← unhide HN]; exact hlt
      obtain ⟨g, off, rfl, hg, c0, c1, c2⟩ := ((unhide HL).below (unhide HB) (Nat.le_refl _)).three hlt'
      obtain ⟨g', off', rfl, hg', e0, e1, e2⟩ := ((unhide HL').below (unhide HB) (Nat.le_refl _)).three hlt'
      generalize l.getD i mkZ = m at *
      obtain ⟨mn, mp, mg⟩ := m
      dsimp only at c0 c1 c2 e0 e1 e2
      have HB1 := hide (unhide HB).drew
      clear hg hg' HB hlt'
      go_upto_region 6 with fail
      go_region
      go_wp2_with fail
      go_roundw
      case rel => exact ⟨⟨i + 1, by go_num, hlt⟩, HB1⟩
      case measure => simp [intOf]; omega
    · obtain rfl : i = N := by omega
      have t1 : decide ((i : Int) < (i : Int)) = false := decide_eq_false (by omega)
      go_wp2_with fail
      refine bodyPost_ret (results_tmp rfl _ _ _) rfl ⟨rfl, unhide HB⟩
end Go.Proofs.Ytfllomlighlejaa
end
