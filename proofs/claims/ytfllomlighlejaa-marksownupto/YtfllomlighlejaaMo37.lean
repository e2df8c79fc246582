/- Layer 15, the document's: before, put, Find, without. · Layer 15, the document's: put, Find, without (written by wip/tools/mkq.py). -/
import Derived.Test.YtfllomlighlejaaMo36
import Derived.Test.YtfllomlighlejaaMo13
import Derived.Deep.QuietTactic
import Derived.BigQuiet
import Derived.WalkSmall

section
namespace Go.Proofs.Ytfllomlighlejaa
open Go.ChangeShapes Go.WideShapes Go.ChangeAt Go.RowKit
attribute [local go_sem] Oper.semAt_some

set_option maxRecDepth 100000 in
set_option maxHeartbeats 1000000 in
theorem RBefore_at (x y : Mk) (W : World) :
    Calls Try.prog 49 #[mkV x, mkV y] W fun e W' => e = .returned (.bool (ltM x y)) ∧ Below W.heap.size W W' := by
  obtain ⟨xn, xp, xg⟩ := x
  obtain ⟨yn, yp, yg⟩ := y
  unfold mkV ltM
  dsimp only
  have b1 := (Below.refl W.heap.size W).alloc (Nat.le_refl _) (.cells #[.string xn, .int .i64 xp, .int .i64 xg] 42)
  have HB := hide (b1.alloc b1.size (.cells #[.string yn, .int .i64 yp, .int .i64 yg] 42))
  generalize hbl : Op.bytesLess xn.toList yn.toList = bl
  by_cases h1 : xp < yp
  · have t1 : decide (xp < yp) = true := decide_eq_true h1
    rw [t1, Bool.true_or]
    clear h1 b1
    go_enter Try.func49, Try.ntmps49
    go_wp2_with fail
    refine bodyPost_ret (results_tmp rfl _ _ _) rfl ⟨rfl, unhide HB⟩
  · have t1 : decide (xp < yp) = false := decide_eq_false h1
    by_cases h2 : xp = yp
    · subst h2
      have t2 : decide (xp = xp) = true := decide_eq_true rfl
      rw [t1, t2, Bool.false_or, Bool.true_and]
      clear h1 b1 t2
      go_enter Try.func49, Try.ntmps49
      go_wp2_with fail
      refine bodyPost_ret (results_tmp rfl _ _ _) rfl ⟨rfl, unhide HB⟩
    · have t2 : decide (xp = yp) = false := decide_eq_false h2
      have t2' : (xp == yp) = false := by simpa using h2
      rw [t1, t2, Bool.false_or, Bool.false_and]
      clear h1 h2 b1 t2
      go_enter Try.func49, Try.ntmps49
      go_wp2_with fail
      refine bodyPost_ret (results_tmp rfl _ _ _) rfl ⟨rfl, unhide HB⟩
end Go.Proofs.Ytfllomlighlejaa
end

section
namespace Go.Proofs.Ytfllomlighlejaa
open Go.ChangeShapes Go.WideShapes Go.ChangeAt Go.RowKit
attribute [local go_sem] Oper.semAt_some

/-- a list of marks of one's own that grows -/
structure PuJ (X wx : World) (v : Value) (q : List Mk) : Prop where
  o : wx.ownsRow X.heap.size 42 3 v q.length (mksV q)
  d : Below X.heap.size X wx
theorem PuJ.new {X wx : World} (h : Below X.heap.size X wx) : PuJ X wx (.slice none 0 0) [] := ⟨World.ownsRow_nil _ _ _ _, h⟩
theorem PuJ.on {X wx wy : World} {v : Value} {q : List Mk} (h : PuJ X wx v q) (hb : Below wx.heap.size wx wy) : PuJ X wy v q := ⟨rowD_below h.o hb (Nat.le_refl _), h.d.trans (hb.mono h.d.size)⟩
theorem PuJ.push {X wx : World} {v : Value} {q : List Mk} (h : PuJ X wx v q) (m : Mk) (hl : q.length ≤ 1099511627776) :
    ∃ v' W', (Builtin.append_ #[27, 27] 27 #[v, .slice (some ⟨wx.heap.size, 0, none⟩) 1 1]).run Try.prog (wx.alloc (.cells #[.string m.n, .int .i64 m.p, .int .i64 m.g] 42)) = .ok v' W' ∧ PuJ X W' v' (q ++ [m]) := by
  obtain ⟨g, c, W', r, ho, hg, bb⟩ := push_mk wx X.heap.size q.length v (mksV q) m.n m.p m.g 27 h.o hl h.d.size
  refine ⟨_, W', r, ?_, h.d.trans bb⟩
  rw [List.length_append, List.length_singleton, mksV_app, mksV_one]
  exact ho
theorem dropM_getD (l : List Mk) {i : Nat} (h : i < l.length) : l.drop i = l.getD i mkZ :: l.drop (i + 1) := by
  rw [List.drop_eq_getElem_cons h]; simp [List.getD, h]
theorem insM_len (x : Mk) (l : List Mk) : (insM x l).length = l.length + 1 := by rw [(ins_perm x l).length_eq, List.length_cons]
set_option maxRecDepth 100000 in
set_option maxHeartbeats 4000000 in
theorem RPut_at (a : Option Addr) (c : Nat) (l : List Mk) (x : Mk) (X : World) (h : IsK X a l) (hl : l.length ≤ 1048576) :
    Calls Try.prog 33 #[.slice a l.length c, mkV x] X fun y X' => ∃ v, y = .returned v ∧ X'.ownsRow X.heap.size 42 3 v (insM x l).length (mksV (insM x l)) ∧ Below X.heap.size X X' := by
  obtain ⟨R0, hR0⟩ : ∃ R0, R0 = insM x l := ⟨_, rfl⟩
  rw [← hR0]
  have HR := hide hR0
  have hRl : R0.length = l.length + 1 := by rw [hR0, insM_len]
  have HBf := hide fun (Y : World) (m : Mk) => RBefore_at x m Y
  have HP : Hid (∀ {wx : World} {v : Value} {q : List Mk} (hh : PuJ (X.alloc (.cells #[.string x.n, .int .i64 x.p, .int .i64 x.g] 42)) wx v q) (hq : q.length ≤ 1099511627776), ∃ v' W', (Builtin.append_ #[27, 27] 27 #[v, .slice (some ⟨wx.heap.size, 0, none⟩) 1 1]).run Try.prog (wx.alloc (.cells #[.string x.n, .int .i64 x.p, .int .i64 x.g] 42)) = .ok v' W' ∧ PuJ (X.alloc (.cells #[.string x.n, .int .i64 x.p, .int .i64 x.g] 42)) W' v' (q ++ [x])) := hide fun hh hq => hh.push x hq
  have HIn : Hid (∀ (i : Nat) (q : List Mk), i < l.length → q ++ insM x (l.drop i) = R0 → (ltM x (l.getD i mkZ) = true → q ++ x :: l.drop i = R0) ∧ (ltM x (l.getD i mkZ) = false → q ++ [l.getD i mkZ] ++ insM x (l.drop (i + 1)) = R0)) := hide fun i q hi e => by
    rw [dropM_getD l hi] at e ⊢
    unfold insM at e
    refine ⟨fun hh => by rw [hh] at e; exact e, fun hh => by rw [hh] at e; simpa using e⟩
  have HI0 : Hid ([] ++ insM x (l.drop 0) = R0) := hide (by rw [hR0]; rfl)
  have HIZ : Hid (∀ q : List Mk, q ++ insM x (l.drop l.length) = R0 → q ++ x :: l.drop l.length = R0) := hide fun q e => by
    rw [List.drop_length] at e ⊢; exact e
  obtain ⟨xn, xp, xg⟩ := x
  unfold mkV at HBf ⊢
  dsimp only at HBf HP ⊢
  have b1 := (Below.refl X.heap.size X).alloc (Nat.le_refl _) (.cells #[.string xn, .int .i64 xp, .int .i64 xg] 42)
  have HX := hide b1
  have HK := hide (Cls.new X 42 #[.string xn, .int .i64 xp, .int .i64 xg])
  have HL := hide (h.below b1 (Nat.le_refl _))
  have HJ0 := hide (PuJ.new (Below.refl (X.alloc (.cells #[.string xn, .int .i64 xp, .int .i64 xg] 42)).heap.size (X.alloc (.cells #[.string xn, .int .i64 xp, .int .i64 xg] 42))))
  clear h hR0 HR
  obtain ⟨N, hN⟩ : ∃ N, N = l.length := ⟨_, rfl⟩
  have HN := hide hN
  rw [← hN] at hl hRl HIZ ⊢
  clear hN b1
  go_enter Try.func33, Try.ntmps33
  go_wp2_with fail
  generalize X.alloc (.cells #[.string xn, .int .i64 xp, .int .i64 xg] 42) = X1 at *
  have HRest : Hid (∀ wx v q, PuJ X1 wx v q → Below X1.heap.size X1 wx) := hide fun _ _ _ hh => hh.d
  go_loopw [5, 6, 7] (fun v5 v6 v7 wx => (∃ z, v7 = z) ∧ ∃ i : Nat, v6 = .int .i64 (i : Int) ∧ i ≤ N ∧ Hid (∃ q, PuJ X1 wx v5 q ∧ q.length = i ∧ q ++ insM ⟨xn, xp, xg⟩ (l.drop i) = R0)) (fun _ v6 _ _ => N - (intOf v6).toNat)
  case atStart => exact ⟨⟨_, rfl⟩, 0, rfl, Nat.zero_le _, hide ⟨[], unhide HJ0, rfl, unhide HI0⟩⟩
  case round =>
    clear HJ0 HI0
    obtain ⟨⟨z7, rfl⟩, i, rfl, hi, HI⟩ := hrel
    obtain ⟨q, hJ, hq, hR⟩ := unhide HI
    by_cases hlt : i < N
    · have t1 : decide ((i : Int) < (N : Int)) = true := decide_eq_true (by omega)
      have hlt' : i < l.length := by rw [← unhide HN]; exact hlt
      obtain ⟨hy, hn⟩ := unhide HIn i q hlt' hR
      obtain ⟨eg, eo, ha, heg, e0, e1, e2⟩ := ((unhide HL).below hJ.d (Nat.le_refl _)).three hlt'
      subst ha
      have kx := (unhide HK).below hJ.d (unhide HK).lt
      have HC := hide (unhide HBf wr.drew (l.getD i mkZ))
      have hpu := fun Y (hY : Below wr.heap.size wr Y) => (hJ.on hY).push (l.getD i mkZ) (by omega)
      generalize l.getD i mkZ = m at *
      obtain ⟨mn, mp, mg⟩ := m
      dsimp only at e0 e1 e2 HC hpu
      have hS : wr.drew.cell? ⟨X.heap.size, 0, none⟩ = some (.string xn) ∧ wr.drew.cell? ⟨X.heap.size, 1, none⟩ = some (.int .i64 xp) ∧ wr.drew.cell? ⟨X.heap.size, 2, none⟩ = some (.int .i64 xg) ∧ wr.drew.cell? ⟨eg, eo + i * 3, none⟩ = some (.string mn) ∧ wr.drew.cell? ⟨eg, eo + i * 3 + 1, none⟩ = some (.int .i64 mp) ∧ wr.drew.cell? ⟨eg, eo + i * 3 + 2, none⟩ = some (.int .i64 mg) := ⟨(kx.cell 0).trans rfl, (kx.cell 1).trans rfl, (kx.cell 2).trans rfl, e0, e1, e2⟩
      have HS := hide hS
      have HSw : Hid (∀ Y, Below wr.heap.size wr Y → Y.cell? ⟨X.heap.size, 0, none⟩ = some (.string xn) ∧ Y.cell? ⟨X.heap.size, 1, none⟩ = some (.int .i64 xp) ∧ Y.cell? ⟨X.heap.size, 2, none⟩ = some (.int .i64 xg) ∧ Y.cell? ⟨eg, eo + i * 3, none⟩ = some (.string mn) ∧ Y.cell? ⟨eg, eo + i * 3 + 1, none⟩ = some (.int .i64 mp) ∧ Y.cell? ⟨eg, eo + i * 3 + 2, none⟩ = some (.int .i64 mg)) := hide fun Y hY => by
        obtain ⟨p0, p1, p2, p3, p4, p5⟩ := hS
        have hb : ∀ (g o : Nat), g < wr.heap.size → Y.cell? ⟨g, o, none⟩ = wr.cell? ⟨g, o, none⟩ := fun g o hg => hY.cell (p := ⟨g, o, none⟩) hg
        exact ⟨(hb _ _ kx.lt).trans p0, (hb _ _ kx.lt).trans p1, (hb _ _ kx.lt).trans p2, (hb _ _ heg).trans p3, (hb _ _ heg).trans p4, (hb _ _ heg).trans p5⟩
      have HPU := hide hpu
      have HJ := hide hJ
      have HYN := hide (And.intro hy hn)
      have HQ := hide hq
      clear hS hpu hJ hy hn hq hR HI kx e0 e1 e2 hlt'
      go_upto_region 4 with fail
      refine regionL (S := fun z => z.cell? ⟨X.heap.size, 0, none⟩ = some (.string xn) ∧ z.cell? ⟨X.heap.size, 1, none⟩ = some (.int .i64 xp) ∧ z.cell? ⟨X.heap.size, 2, none⟩ = some (.int .i64 xg) ∧ z.cell? ⟨eg, eo + i * 3, none⟩ = some (.string mn) ∧ z.cell? ⟨eg, eo + i * 3 + 1, none⟩ = some (.int .i64 mp) ∧ z.cell? ⟨eg, eo + i * 3 + 2, none⟩ = some (.int .i64 mg)) (fun _ => false) (by kernel_rfl) ?_
      refine anyL_take (i := 0) (v := ?vpu0) rfl (by kernel_rfl) (by kernel_rfl) (by kernel_rfl) (by kernel_rfl) (fun _ _ _ h => h) (Or.inl ⟨by rfl, ?hpu0⟩) (unhide HS) ?_
      case hpu0 => (intro w hSw; (try dsimp only at hSw); go_simp) <;> with_reducible rfl
      simp only [Act.put, List.getElem_toArray, List.getElem_cons_zero, List.setIfInBounds_toArray, List.set_cons_zero, List.set_cons_succ]
      refine anyL_take (i := 1) (v := ?vpu1) rfl (by kernel_rfl) (by kernel_rfl) (by kernel_rfl) (by kernel_rfl) (fun _ _ _ h => h) (Or.inl ⟨by rfl, ?hpu1⟩) (unhide HS) ?_
      case hpu1 => (intro w hSw; (try dsimp only at hSw); go_simp) <;> with_reducible rfl
      simp only [Act.put, List.getElem_toArray, List.getElem_cons_zero, List.getElem_cons_succ, List.setIfInBounds_toArray, List.set_cons_zero, List.set_cons_succ]
      refine anyL_take (i := 2) (v := ?vpu2) rfl (by kernel_rfl) (by kernel_rfl) (by kernel_rfl) (by kernel_rfl) (fun _ _ _ h => h) (Or.inl ⟨by rfl, ?hpu2⟩) (unhide HS) ?_
      case hpu2 => (intro w hSw; (try dsimp only at hSw); go_simp) <;> with_reducible rfl
      simp only [Act.put, List.getElem_toArray, List.getElem_cons_zero, List.getElem_cons_succ, List.setIfInBounds_toArray, List.set_cons_zero, List.set_cons_succ]
      refine anyL_take (i := 3) (v := ?vpu3) rfl (by kernel_rfl) (by kernel_rfl) (by kernel_rfl) (by kernel_rfl) (fun _ _ _ h => h) (Or.inl ⟨by rfl, ?hpu3⟩) (unhide HS) ?_
      case hpu3 => (intro w hSw; (try dsimp only at hSw); go_simp) <;> with_reducible rfl
      simp only [Act.put, List.getElem_toArray, List.getElem_cons_zero, List.getElem_cons_succ, List.setIfInBounds_toArray, List.set_cons_zero, List.set_cons_succ]
      refine anyL_take (i := 4) (v := ?vpu4) rfl (by kernel_rfl) (by kernel_rfl) (by kernel_rfl) (by kernel_rfl) (fun _ _ _ h => h) (Or.inl ⟨by rfl, ?hpu4⟩) (unhide HS) ?_
      case hpu4 => (intro w hSw; (try dsimp only at hSw); go_simp) <;> with_reducible rfl
      simp only [Act.put, List.getElem_toArray, List.getElem_cons_zero, List.getElem_cons_succ, List.setIfInBounds_toArray, List.set_cons_zero, List.set_cons_succ]
      refine anyL_ready (rs := [5]) (by kernel_rfl) (by simp) ?_
      refine AllL.cons rfl (fun K hK => ?_) AllL.nil
      go_simp
      refine (unhide HC).mono ?_
      rintro y w1 ⟨rfl, x1⟩
      have x1 : Below wr.heap.size wr w1 := (Below.refl wr.heap.size wr).drew.trans x1
      obtain ⟨BV, hBV⟩ : ∃ BV, BV = ltM ⟨xn, xp, xg⟩ ⟨mn, mp, mg⟩ := ⟨_, rfl⟩
      rw [← hBV]
      have HBV := hide hBV.symm
      refine unhide hK _ _ (fun _ => unhide HSw w1 x1) ?_
      clear hK K HC hBV
      refine anyL_take (i := 6) (v := ?vpu5) rfl (by kernel_rfl) (by kernel_rfl) (by kernel_rfl) (by kernel_rfl) (fun _ _ _ h => h) (Or.inl ⟨by rfl, ?hpu5⟩) (unhide HSw w1 x1) ?_
      case hpu5 => (intro w hSw; (try dsimp only at hSw); go_simp) <;> with_reducible rfl
      simp only [Act.put, List.getElem_toArray, List.getElem_cons_zero, List.getElem_cons_succ, List.setIfInBounds_toArray, List.set_cons_zero, List.set_cons_succ]
      refine anyL_done (by kernel_rfl) ?_ _
      by_cases hb : BV = true
      · subst hb
        have HRR := hide ((unhide HYN).1 (unhide HBV))
        have HJ1 := hide ((unhide HJ).on x1)
        clear HYN HPU HJ
        have kx := (unhide HK).below (unhide HJ1).d (unhide HK).lt
        have c0 := (kx.cell 0).trans rfl
        have c1 := (kx.cell 1).trans rfl
        have c2 := (kx.cell 2).trans rfl
        obtain ⟨v', W', ra, hJ2⟩ := unhide HP (unhide HJ1) (by rw [unhide HQ]; omega)
        have R := hide ra
        have HJ2 := hide hJ2
        have HRR2 : Hid ((q ++ [(⟨xn, xp, xg⟩ : Mk)]) ++ l.drop i = R0) := hide (by rw [List.append_assoc]; exact unhide HRR)
        have HQ2 : Hid ((q ++ [(⟨xn, xp, xg⟩ : Mk)]).length = i + 1) := hide (by rw [List.length_append, unhide HQ]; rfl)
        clear HJ1 ra hJ2 kx HRR HQ
        go_wp2_with (at_builtin; refine wpList_append_known rfl _ _ 27 27 rfl _ _ rfl rfl _ _ (unhide R) ?_; clear R)
        clear c0 c1 c2
        go_loopw [5, 6] (fun v5 v6 wx => ∃ k : Nat, v6 = .int .i64 (k : Int) ∧ k ≤ N ∧ Hid (∃ q, PuJ X1 wx v5 q ∧ q.length = k + 1 ∧ q ++ l.drop k = R0)) (fun _ v6 _ => N - (intOf v6).toNat)
        case atStart => exact ⟨i, rfl, by omega, hide ⟨_, unhide HJ2, unhide HQ2, unhide HRR2⟩⟩
        case round =>
          clear HJ2 HQ2 HRR2
          obtain ⟨k, rfl, hk, HI⟩ := hrel
          obtain ⟨q2, hJ, hq, hR⟩ := unhide HI
          by_cases hlt2 : k < N
          · have t5 : decide ((k : Int) < (N : Int)) = true := decide_eq_true (by omega)
            have hlt' : k < l.length := by rw [← unhide HN]; exact hlt2
            rw [dropM_getD l hlt'] at hR
            obtain ⟨eg2, eo2, ha2, heg2, e0, e1, e2⟩ := ((unhide HL).below hJ.d (Nat.le_refl _)).three hlt'
            cases ha2
            obtain ⟨v3, W3, ra, hJ3⟩ := hJ.push (l.getD k mkZ) (by omega)
            generalize l.getD k mkZ = m2 at *
            obtain ⟨mn2, mp2, mg2⟩ := m2
            dsimp only at e0 e1 e2 ra
            have R := hide ra
            have HJ3 := hide hJ3
            have HR3 : Hid ((q2 ++ [(⟨mn2, mp2, mg2⟩ : Mk)]) ++ l.drop (k + 1) = R0) := hide (by rw [List.append_assoc]; exact hR)
            have HQ3 : Hid ((q2 ++ [(⟨mn2, mp2, mg2⟩ : Mk)]).length = k + 1 + 1) := hide (by rw [List.length_append, hq]; rfl)
            clear ra hJ3 hJ hq hR HI hlt'
            go_wp2_with (at_builtin; refine wpList_append_known rfl _ _ 27 27 rfl _ _ rfl rfl _ _ (unhide R) ?_; clear R)
            go_roundw
            case rel => exact ⟨k + 1, by go_num, hlt2, hide ⟨_, unhide HJ3, unhide HQ3, unhide HR3⟩⟩
            case measure => simp [intOf]; omega
          · obtain rfl : k = N := by omega
            have t5 : decide ((k : Int) < (k : Int)) = false := decide_eq_false (by omega)
            rw [unhide HN, List.drop_length, List.append_nil] at hR
            subst hR
            have HO := hide (rowD_base hJ.o (unhide HX).size)
            have HB := hide ((unhide HX).trans (hJ.d.mono (unhide HX).size))
            clear hJ HI hq hlt2
            go_wp2_with fail
            refine bodyPost_ret (results_tmp rfl _ _ _) rfl ?_
            exact ⟨_, rfl, unhide HO, unhide HB⟩
      · have hb' : BV = false := by simpa using hb
        subst hb'
        clear hb
        have HRR := hide ((unhide HYN).2 (unhide HBV))
        obtain ⟨v', W', ra, hJ2⟩ := unhide HPU w1 x1
        obtain ⟨p0, p1, p2, p3, p4, p5⟩ := unhide HSw w1 x1
        have R := hide ra
        have HJ2 := hide hJ2
        have HQ2 : Hid ((q ++ [(⟨mn, mp, mg⟩ : Mk)]).length = i + 1) := hide (by rw [List.length_append, unhide HQ]; rfl)
        clear HYN HPU HJ ra hJ2 HQ p0 p1 p2 HSw HS x1
        go_wp2_with (at_builtin; refine wpList_append_known rfl _ _ 27 27 rfl _ _ rfl rfl _ _ (unhide R) ?_; clear R)
        go_roundw
        case rel => exact ⟨⟨_, rfl⟩, i + 1, by go_num, hlt, hide ⟨_, unhide HJ2, unhide HQ2, unhide HRR⟩⟩
        case measure => simp [intOf]; omega
    · obtain rfl : i = N := by omega
      have t1 : decide ((i : Int) < (i : Int)) = false := decide_eq_false (by omega)
      have HRR := hide (unhide HIZ q hR)
      have HJ1 := hide hJ
      have HQ := hide hq
      have heg := True.intro
      clear hlt hJ hq hR HI
      obtain ⟨w1, hw1⟩ : ∃ w1, w1 = wr := ⟨_, rfl⟩
      rw [← hw1] at HJ1
      rw [← hw1]
      clear hw1
      have kx := (unhide HK).below (unhide HJ1).d (unhide HK).lt
      have c0 := (kx.cell 0).trans rfl
      have c1 := (kx.cell 1).trans rfl
      have c2 := (kx.cell 2).trans rfl
      obtain ⟨v', W', ra, hJ2⟩ := unhide HP (unhide HJ1) (by rw [unhide HQ]; omega)
      have R := hide ra
      have HJ2 := hide hJ2
      have HRR2 : Hid ((q ++ [(⟨xn, xp, xg⟩ : Mk)]) ++ l.drop i = R0) := hide (by rw [List.append_assoc]; exact unhide HRR)
      have HQ2 : Hid ((q ++ [(⟨xn, xp, xg⟩ : Mk)]).length = i + 1) := hide (by rw [List.length_append, unhide HQ]; rfl)
      clear HJ1 ra hJ2 kx HRR HQ
      go_wp2_with (at_builtin; refine wpList_append_known rfl _ _ 27 27 rfl _ _ rfl rfl _ _ (unhide R) ?_; clear R)
      clear c0 c1 c2
      go_loopw [5, 6] (fun v5 v6 wx => ∃ k : Nat, v6 = .int .i64 (k : Int) ∧ k ≤ i ∧ Hid (∃ q, PuJ X1 wx v5 q ∧ q.length = k + 1 ∧ q ++ l.drop k = R0)) (fun _ v6 _ => i - (intOf v6).toNat)
      case atStart => exact ⟨i, rfl, by omega, hide ⟨_, unhide HJ2, unhide HQ2, unhide HRR2⟩⟩
      case round =>
        clear HJ2 HQ2 HRR2
        obtain ⟨k, rfl, hk, HI⟩ := hrel
        obtain ⟨q2, hJ, hq, hR⟩ := unhide HI
        by_cases hlt2 : k < i
        · have t5 : decide ((k : Int) < (i : Int)) = true := decide_eq_true (by omega)
          have hlt' : k < l.length := by rw [← unhide HN]; exact hlt2
          rw [dropM_getD l hlt'] at hR
          obtain ⟨eg2, eo2, ha2, heg2, e0, e1, e2⟩ := ((unhide HL).below hJ.d (Nat.le_refl _)).three hlt'
          subst ha2
          obtain ⟨v3, W3, ra, hJ3⟩ := hJ.push (l.getD k mkZ) (by omega)
          generalize l.getD k mkZ = m2 at *
          obtain ⟨mn2, mp2, mg2⟩ := m2
          dsimp only at e0 e1 e2 ra
          have R := hide ra
          have HJ3 := hide hJ3
          have HR3 : Hid ((q2 ++ [(⟨mn2, mp2, mg2⟩ : Mk)]) ++ l.drop (k + 1) = R0) := hide (by rw [List.append_assoc]; exact hR)
          have HQ3 : Hid ((q2 ++ [(⟨mn2, mp2, mg2⟩ : Mk)]).length = k + 1 + 1) := hide (by rw [List.length_append, hq]; rfl)
          clear ra hJ3 hJ hq hR HI hlt'
          go_wp2_with (at_builtin; refine wpList_append_known rfl _ _ 27 27 rfl _ _ rfl rfl _ _ (unhide R) ?_; clear R)
          go_roundw
          case rel => exact ⟨k + 1, by go_num, hlt2, hide ⟨_, unhide HJ3, unhide HQ3, unhide HR3⟩⟩
          case measure => simp [intOf]; omega
        · obtain rfl : k = i := by omega
          have t5 : decide ((k : Int) < (k : Int)) = false := decide_eq_false (by omega)
          rw [unhide HN, List.drop_length, List.append_nil] at hR
          subst hR
          have HO := hide (rowD_base hJ.o (unhide HX).size)
          have HB := hide ((unhide HX).trans (hJ.d.mono (unhide HX).size))
          clear hJ HI hq hlt2
          go_wp2_with fail
          refine bodyPost_ret (results_tmp rfl _ _ _) rfl ?_
          exact ⟨_, rfl, unhide HO, unhide HB⟩
end Go.Proofs.Ytfllomlighlejaa
end
