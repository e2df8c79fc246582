/- Layer 16, the document's: ahead, put, without (written by wip/tools/rym.py). · Layer 16, the document's: without, Drop, Get, Over, Set (written by wip/tools/ryn.py). -/
import Derived.Test.YtifpjdodignflaaRp33
import Derived.Test.YtifpjdodignflaaRp09
import Derived.Deep.QuietTactic
import Derived.BigQuiet
import Derived.WalkSmall
import Derived.RegionTactic

section
namespace Go.Proofs.Ytifpjdodignflaa
open Go.ChangeShapes Go.WideShapes Go.ChangeAt Go.RowKit
attribute [local go_sem] Oper.semAt_some

set_option maxRecDepth 100000 in
set_option maxHeartbeats 2000000 in
theorem RAhead_at (x y : Rg) (W : World) :
    Calls Try.prog 58 #[rgV x, rgV y] W fun e W' => e = .returned (.bool (ltG x y)) ∧ Below W.heap.size W W' := by
  obtain ⟨xn, xl, xh, xs, xe⟩ := x
  obtain ⟨yn, yl, yh, ys, ye⟩ := y
  unfold rgV ltG
  dsimp only
  have b1 := (Below.refl W.heap.size W).alloc (Nat.le_refl _) (.cells #[.string xn, .int .i64 xl, .int .i64 xh, .int .i64 xs, .int .i64 xe] 37)
  have HB := hide (b1.alloc b1.size (.cells #[.string yn, .int .i64 yl, .int .i64 yh, .int .i64 ys, .int .i64 ye] 37))
  generalize hbl : Op.bytesLess xn.toList yn.toList = bl
  by_cases h0 : xl = yl
  · subst h0
    have t1 : decide (xl < xl) = false := decide_eq_false (by omega)
    have t2 : decide (xl = xl) = true := decide_eq_true rfl
    rw [t1, t2, Bool.false_or, Bool.true_and]
    clear b1 t1 t2
    by_cases h3 : xh = yh
    · subst h3
      have t3 : decide (xh < xh) = false := decide_eq_false (by omega)
      have t4 : decide (xh = xh) = true := decide_eq_true rfl
      rw [t3, t4, Bool.false_or, Bool.true_and]
      clear t3 t4
      go_enter Try.func58, Try.ntmps58
      go_wp2_with fail
      refine bodyPost_ret (results_tmp rfl _ _ _) rfl ⟨rfl, unhide HB⟩
    · have t4 : decide (xh = yh) = false := decide_eq_false h3
      have t4' : (xh != yh) = true := by simpa using h3
      have t4'' : (xh == yh) = false := by simpa using h3
      rw [t4, Bool.false_and, Bool.or_false]
      clear h3 t4
      go_enter Try.func58, Try.ntmps58
      go_wp2_with fail
      refine bodyPost_ret (results_tmp rfl _ _ _) rfl ⟨rfl, unhide HB⟩
  · have t2 : decide (xl = yl) = false := decide_eq_false h0
    have t2' : (xl != yl) = true := by simpa using h0
    have t2'' : (xl == yl) = false := by simpa using h0
    rw [t2, Bool.false_and, Bool.or_false]
    clear h0 b1 t2
    go_enter Try.func58, Try.ntmps58
    go_wp2_with fail
    refine bodyPost_ret (results_tmp rfl _ _ _) rfl ⟨rfl, unhide HB⟩
/-- a list of ranges of one's own that grows -/
structure GuJ (X wx : World) (v : Value) (q : List Rg) : Prop where
  o : wx.ownsRow X.heap.size 37 5 v q.length (rgsV q)
  d : Below X.heap.size X wx
theorem GuJ.new {X wx : World} (h : Below X.heap.size X wx) : GuJ X wx (.slice none 0 0) [] := ⟨World.ownsRow_nil _ _ _ _, h⟩
theorem GuJ.on {X wx wy : World} {v : Value} {q : List Rg} (h : GuJ X wx v q) (hb : Below wx.heap.size wx wy) : GuJ X wy v q := ⟨rowD_below h.o hb (Nat.le_refl _), h.d.trans (hb.mono h.d.size)⟩
theorem GuJ.push {X wx : World} {v : Value} {q : List Rg} (h : GuJ X wx v q) (m : Rg) (hl : q.length ≤ 1099511627776) :
    ∃ v' W', (Builtin.append_ #[28, 28] 28 #[v, .slice (some ⟨wx.heap.size, 0, none⟩) 1 1]).run Try.prog (wx.alloc (.cells #[.string m.n, .int .i64 m.lo, .int .i64 m.hi, .int .i64 m.st, .int .i64 m.en] 37)) = .ok v' W' ∧ GuJ X W' v' (q ++ [m]) := by
  obtain ⟨g, c, W', r, ho, hg, bb⟩ := push_rg wx X.heap.size q.length v (rgsV q) m.n m.lo m.hi m.st m.en 28 h.o hl h.d.size
  refine ⟨_, W', r, ?_, h.d.trans bb⟩
  rw [List.length_append, List.length_singleton, rgsV_app, rgsV_one]
  exact ho
theorem dropG_getD (l : List Rg) {i : Nat} (h : i < l.length) : l.drop i = l.getD i rgZ :: l.drop (i + 1) := by
  rw [List.drop_eq_getElem_cons h]; simp [List.getD, h]
theorem insG_len (x : Rg) (l : List Rg) : (insG x l).length = l.length + 1 := by rw [(ins_perm x l).length_eq, List.length_cons]
set_option maxRecDepth 100000 in
set_option maxHeartbeats 4000000 in
theorem RPutR_at (a : Option Addr) (c : Nat) (l : List Rg) (x : Rg) (X : World) (h : IsRl X a l) (hl : l.length ≤ 1048576) :
    Calls Try.prog 42 #[.slice a l.length c, rgV x] X fun y X' => ∃ v, y = .returned v ∧ X'.ownsRow X.heap.size 37 5 v (insG x l).length (rgsV (insG x l)) ∧ Below X.heap.size X X' := by
  obtain ⟨R0, hR0⟩ : ∃ R0, R0 = insG x l := ⟨_, rfl⟩
  rw [← hR0]
  have HR := hide hR0
  have HBf := hide fun (Y : World) (m : Rg) => RAhead_at x m Y
  have HP : Hid (∀ {wx : World} {v : Value} {q : List Rg} (hh : GuJ (X.alloc (.cells #[.string x.n, .int .i64 x.lo, .int .i64 x.hi, .int .i64 x.st, .int .i64 x.en] 37)) wx v q) (hq : q.length ≤ 1099511627776), ∃ v' W', (Builtin.append_ #[28, 28] 28 #[v, .slice (some ⟨wx.heap.size, 0, none⟩) 1 1]).run Try.prog (wx.alloc (.cells #[.string x.n, .int .i64 x.lo, .int .i64 x.hi, .int .i64 x.st, .int .i64 x.en] 37)) = .ok v' W' ∧ GuJ (X.alloc (.cells #[.string x.n, .int .i64 x.lo, .int .i64 x.hi, .int .i64 x.st, .int .i64 x.en] 37)) W' v' (q ++ [x])) := hide fun hh hq => hh.push x hq
  have HIn : Hid (∀ (i : Nat) (q : List Rg), i < l.length → q ++ insG x (l.drop i) = R0 → (ltG x (l.getD i rgZ) = true → q ++ [x] ++ [l.getD i rgZ] ++ l.drop (i + 1) = R0) ∧ (ltG x (l.getD i rgZ) = false → q ++ [l.getD i rgZ] ++ insG x (l.drop (i + 1)) = R0)) := hide fun i q hi e => by
    rw [dropG_getD l hi] at e
    unfold insG at e
    refine ⟨fun hh => by rw [hh] at e; simpa using e, fun hh => by rw [hh] at e; simpa using e⟩
  have HI0 : Hid ([] ++ insG x (l.drop 0) = R0) := hide (by rw [hR0]; rfl)
  have HIZ : Hid (∀ q : List Rg, q ++ insG x (l.drop l.length) = R0 → q ++ [x] = R0) := hide fun q e => by
    rw [List.drop_length] at e; exact e
  obtain ⟨xn, xl, xh, xs, xe⟩ := x
  unfold rgV at HBf ⊢
  dsimp only at HBf HP ⊢
  have b1 := (Below.refl X.heap.size X).alloc (Nat.le_refl _) (.cells #[.string xn, .int .i64 xl, .int .i64 xh, .int .i64 xs, .int .i64 xe] 37)
  have HX := hide b1
  have HK := hide (Cls.new X 37 #[.string xn, .int .i64 xl, .int .i64 xh, .int .i64 xs, .int .i64 xe])
  have HL := hide (h.below b1 (Nat.le_refl _))
  have HJ0 := hide (GuJ.new (Below.refl (X.alloc (.cells #[.string xn, .int .i64 xl, .int .i64 xh, .int .i64 xs, .int .i64 xe] 37)).heap.size (X.alloc (.cells #[.string xn, .int .i64 xl, .int .i64 xh, .int .i64 xs, .int .i64 xe] 37))))
  clear h hR0 HR
  obtain ⟨N, hN⟩ : ∃ N, N = l.length := ⟨_, rfl⟩
  have HN := hide hN
  rw [← hN] at hl HIZ ⊢
  clear hN b1
  go_enter Try.func42, Try.ntmps42
  go_wp2_with fail
  generalize X.alloc (.cells #[.string xn, .int .i64 xl, .int .i64 xh, .int .i64 xs, .int .i64 xe] 37) = X1 at *
  have HXm : Hid (∀ Y, Below X1.heap.size X1 Y → Below X.heap.size X Y) := hide fun Y h => (unhide HX).trans (h.mono (unhide HX).size)
  have HXs : Hid (X.heap.size ≤ X1.heap.size) := hide (unhide HX).size
  generalize hbx : X.heap.size = bx at *
  have HEbx := hide hbx
  clear hbx HX
  go_loopw [5, 6, 7] (fun v5 v6 v7 wx => ∃ (dn : Bool) (i : Nat), v6 = .bool dn ∧ v7 = .int .i64 (i : Int) ∧ i ≤ N ∧ Hid (∃ q, GuJ X1 wx v5 q ∧ q.length ≤ i + (if dn then 1 else 0) ∧ (if dn then q ++ l.drop i = R0 else q ++ insG ⟨xn, xl, xh, xs, xe⟩ (l.drop i) = R0))) (fun _ _ v7 _ => N - (intOf v7).toNat)
  case atStart => exact ⟨false, 0, rfl, rfl, Nat.zero_le _, hide ⟨[], unhide HJ0, by simp, unhide HI0⟩⟩
  case round =>
    clear HJ0 HI0
    obtain ⟨dn, i, rfl, rfl, hi, HI⟩ := hrel
    obtain ⟨q, hJ, hq, hR⟩ := unhide HI
    by_cases hlt : i < N
    · have t1 : decide ((i : Int) < (N : Int)) = true := decide_eq_true (by omega)
      have t1' : (i : Int) < (N : Int) := by omega
      have hlt' : i < l.length := by rw [← unhide HN]; exact hlt
      obtain ⟨eg, eo, ha, heg, e0, e1, e2, e3, e4⟩ := ((unhide HL).below hJ.d (Nat.le_refl _)).five hlt'
      subst ha
      have kx := (unhide HK).below hJ.d (unhide HK).lt
      have HHlt := hide hlt'
      cases dn with
      | true =>
        simp only [if_true] at hR
        rw [dropG_getD l hlt'] at hR
        have HPu := hide fun Y (hY : Below wr.heap.size wr Y) => (hJ.on hY).push (l.getD i rgZ) (by simp at hq; omega)
        have HQ := hide hq
        have HR := hide hR
        have HE := hide fun Y (hY : Below wr.heap.size wr Y) => (((unhide HL).below hJ.d (Nat.le_refl _)).below hY (Nat.le_refl _)).five hlt'
        clear hJ hq hR HI hlt' kx
        generalize l.getD i rgZ = m at *
        obtain ⟨mn, ml, mh, ms, me⟩ := m
        dsimp only at e0 e1 e2 e3 e4 HPu
        clear e0 e1 e2 e3 e4
        go_upto_region 6 with fail
        go_quiet (fail)
        obtain ⟨v', W', ra, hJ2⟩ := unhide HPu _ (below_drewN (Below.refl _ _) nq)
        obtain ⟨_, _, ha, _, e0, e1, e2, e3, e4⟩ := unhide HE _ (below_drewN (Below.refl _ _) nq)
        cases ha
        dsimp only at e0 e1 e2 e3 e4
        have R := hide ra
        have HI2 : Hid (∃ q, GuJ X1 W' v' q ∧ q.length ≤ i + 1 + (if true = true then 1 else 0) ∧ (if true = true then q ++ l.drop (i + 1) = R0 else q ++ insG ⟨xn, xl, xh, xs, xe⟩ (l.drop (i + 1)) = R0)) := hide ⟨_, hJ2, by rw [List.length_append]; have := unhide HQ; simp at this ⊢; omega, by simp only [if_true]; rw [List.append_assoc]; exact unhide HR⟩
        clear ra hJ2 HPu HQ HR HE HHlt
        go_wp2_with (at_builtin; refine wpList_append_known rfl _ _ 28 28 rfl _ _ rfl rfl _ _ (unhide R) ?_; clear R)
        go_roundw
        case rel => exact ⟨true, i + 1, rfl, by go_num, hlt, HI2⟩
        case measure => simp [intOf]; omega
      | false =>
        simp only [Bool.false_eq_true, if_false] at hR
        obtain ⟨hy, hn⟩ := unhide HIn i q hlt' hR
        have HC := hide (unhide HBf wr.drew (l.getD i rgZ))
        have HPu := hide fun Y (hY : Below wr.heap.size wr Y) => (hJ.on hY).push (l.getD i rgZ) (by simp at hq; omega)
        have HPx := hide fun Y (hY : Below wr.heap.size wr Y) => unhide HP (hJ.on hY) (by simp at hq; omega)
        have HJ := hide hJ
        have HQ := hide hq
        have HYN := hide (And.intro hy hn)
        generalize hm : l.getD i rgZ = m at *
        have HM := hide hm
        clear hm
        obtain ⟨mn, ml, mh, ms, me⟩ := m
        dsimp only at e0 e1 e2 e3 e4 HPu HC
        have hS : wr.drew.cell? ⟨bx, 0, none⟩ = some (.string xn) ∧ wr.drew.cell? ⟨bx, 1, none⟩ = some (.int .i64 xl) ∧ wr.drew.cell? ⟨bx, 2, none⟩ = some (.int .i64 xh) ∧ wr.drew.cell? ⟨bx, 3, none⟩ = some (.int .i64 xs) ∧ wr.drew.cell? ⟨bx, 4, none⟩ = some (.int .i64 xe) ∧ wr.drew.cell? ⟨eg, eo + i * 5, none⟩ = some (.string mn) ∧ wr.drew.cell? ⟨eg, eo + i * 5 + 1, none⟩ = some (.int .i64 ml) ∧ wr.drew.cell? ⟨eg, eo + i * 5 + 2, none⟩ = some (.int .i64 mh) ∧ wr.drew.cell? ⟨eg, eo + i * 5 + 3, none⟩ = some (.int .i64 ms) ∧ wr.drew.cell? ⟨eg, eo + i * 5 + 4, none⟩ = some (.int .i64 me) := ⟨(kx.cell 0).trans rfl, (kx.cell 1).trans rfl, (kx.cell 2).trans rfl, (kx.cell 3).trans rfl, (kx.cell 4).trans rfl, e0, e1, e2, e3, e4⟩
        have HS := hide hS
        have HSw : Hid (∀ Y, Below wr.heap.size wr Y → Y.cell? ⟨bx, 0, none⟩ = some (.string xn) ∧ Y.cell? ⟨bx, 1, none⟩ = some (.int .i64 xl) ∧ Y.cell? ⟨bx, 2, none⟩ = some (.int .i64 xh) ∧ Y.cell? ⟨bx, 3, none⟩ = some (.int .i64 xs) ∧ Y.cell? ⟨bx, 4, none⟩ = some (.int .i64 xe) ∧ Y.cell? ⟨eg, eo + i * 5, none⟩ = some (.string mn) ∧ Y.cell? ⟨eg, eo + i * 5 + 1, none⟩ = some (.int .i64 ml) ∧ Y.cell? ⟨eg, eo + i * 5 + 2, none⟩ = some (.int .i64 mh) ∧ Y.cell? ⟨eg, eo + i * 5 + 3, none⟩ = some (.int .i64 ms) ∧ Y.cell? ⟨eg, eo + i * 5 + 4, none⟩ = some (.int .i64 me)) := hide fun Y hY => by
          obtain ⟨p0, p1, p2, p3, p4, p5, p6, p7, p8, p9⟩ := hS
          have hb : ∀ (g o : Nat), g < wr.heap.size → Y.cell? ⟨g, o, none⟩ = wr.cell? ⟨g, o, none⟩ := fun g o hg => hY.cell (p := ⟨g, o, none⟩) hg
          exact ⟨(hb _ _ kx.lt).trans p0, (hb _ _ kx.lt).trans p1, (hb _ _ kx.lt).trans p2, (hb _ _ kx.lt).trans p3, (hb _ _ kx.lt).trans p4, (hb _ _ heg).trans p5, (hb _ _ heg).trans p6, (hb _ _ heg).trans p7, (hb _ _ heg).trans p8, (hb _ _ heg).trans p9⟩
        clear hS hJ hy hn hq hR HI kx e0 e1 e2 e3 e4 hlt'
        go_upto_region 6 with fail
        refine regionL (S := fun z => z.cell? ⟨bx, 0, none⟩ = some (.string xn) ∧ z.cell? ⟨bx, 1, none⟩ = some (.int .i64 xl) ∧ z.cell? ⟨bx, 2, none⟩ = some (.int .i64 xh) ∧ z.cell? ⟨bx, 3, none⟩ = some (.int .i64 xs) ∧ z.cell? ⟨bx, 4, none⟩ = some (.int .i64 xe) ∧ z.cell? ⟨eg, eo + i * 5, none⟩ = some (.string mn) ∧ z.cell? ⟨eg, eo + i * 5 + 1, none⟩ = some (.int .i64 ml) ∧ z.cell? ⟨eg, eo + i * 5 + 2, none⟩ = some (.int .i64 mh) ∧ z.cell? ⟨eg, eo + i * 5 + 3, none⟩ = some (.int .i64 ms) ∧ z.cell? ⟨eg, eo + i * 5 + 4, none⟩ = some (.int .i64 me)) (fun _ => false) (by kernel_rfl) ?_
        refine anyL_take (i := 0) (v := ?vrp0) rfl (by kernel_rfl) (by kernel_rfl) (by kernel_rfl) (by kernel_rfl) (fun _ _ _ h => h) (Or.inl ⟨by rfl, ?hrp0⟩) (unhide HS) ?_
        case hrp0 => (intro w hSw; (try dsimp only at hSw); go_simp) <;> with_reducible rfl
        simp only [Act.put, List.getElem_toArray, List.getElem_cons_zero, List.setIfInBounds_toArray, List.set_cons_zero, List.set_cons_succ]
        refine anyL_take (i := 1) (v := ?vrp1) rfl (by kernel_rfl) (by kernel_rfl) (by kernel_rfl) (by kernel_rfl) (fun _ _ _ h => h) (Or.inl ⟨by rfl, ?hrp1⟩) (unhide HS) ?_
        case hrp1 => (intro w hSw; (try dsimp only at hSw); go_simp) <;> with_reducible rfl
        simp only [Act.put, List.getElem_toArray, List.getElem_cons_zero, List.getElem_cons_succ, List.setIfInBounds_toArray, List.set_cons_zero, List.set_cons_succ]
        refine anyL_take (i := 2) (v := ?vrp2) rfl (by kernel_rfl) (by kernel_rfl) (by kernel_rfl) (by kernel_rfl) (fun _ _ _ h => h) (Or.inl ⟨by rfl, ?hrp2⟩) (unhide HS) ?_
        case hrp2 => (intro w hSw; (try dsimp only at hSw); go_simp) <;> with_reducible rfl
        simp only [Act.put, List.getElem_toArray, List.getElem_cons_zero, List.getElem_cons_succ, List.setIfInBounds_toArray, List.set_cons_zero, List.set_cons_succ]
        refine anyL_take (i := 3) (v := ?vrp3) rfl (by kernel_rfl) (by kernel_rfl) (by kernel_rfl) (by kernel_rfl) (fun _ _ _ h => h) (Or.inl ⟨by rfl, ?hrp3⟩) (unhide HS) ?_
        case hrp3 => (intro w hSw; (try dsimp only at hSw); go_simp) <;> with_reducible rfl
        simp only [Act.put, List.getElem_toArray, List.getElem_cons_zero, List.getElem_cons_succ, List.setIfInBounds_toArray, List.set_cons_zero, List.set_cons_succ]
        refine anyL_take (i := 4) (v := ?vrp4) rfl (by kernel_rfl) (by kernel_rfl) (by kernel_rfl) (by kernel_rfl) (fun _ _ _ h => h) (Or.inl ⟨by rfl, ?hrp4⟩) (unhide HS) ?_
        case hrp4 => (intro w hSw; (try dsimp only at hSw); go_simp) <;> with_reducible rfl
        simp only [Act.put, List.getElem_toArray, List.getElem_cons_zero, List.getElem_cons_succ, List.setIfInBounds_toArray, List.set_cons_zero, List.set_cons_succ]
        refine anyL_take (i := 5) (v := ?vrp5) rfl (by kernel_rfl) (by kernel_rfl) (by kernel_rfl) (by kernel_rfl) (fun _ _ _ h => h) (Or.inl ⟨by rfl, ?hrp5⟩) (unhide HS) ?_
        case hrp5 => (intro w hSw; (try dsimp only at hSw); go_simp) <;> with_reducible rfl
        simp only [Act.put, List.getElem_toArray, List.getElem_cons_zero, List.getElem_cons_succ, List.setIfInBounds_toArray, List.set_cons_zero, List.set_cons_succ]
        refine anyL_take (i := 6) (v := ?vrp6) rfl (by kernel_rfl) (by kernel_rfl) (by kernel_rfl) (by kernel_rfl) (fun _ _ _ h => h) (Or.inl ⟨by rfl, ?hrp6⟩) (unhide HS) ?_
        case hrp6 => (intro w hSw; (try dsimp only at hSw); go_simp) <;> with_reducible rfl
        simp only [Act.put, List.getElem_toArray, List.getElem_cons_zero, List.getElem_cons_succ, List.setIfInBounds_toArray, List.set_cons_zero, List.set_cons_succ]
        refine anyL_take (i := 7) (v := ?vrp7) rfl (by kernel_rfl) (by kernel_rfl) (by kernel_rfl) (by kernel_rfl) (fun _ _ _ h => h) (Or.inl ⟨by rfl, ?hrp7⟩) (unhide HS) ?_
        case hrp7 => (intro w hSw; (try dsimp only at hSw); go_simp) <;> with_reducible rfl
        simp only [Act.put, List.getElem_toArray, List.getElem_cons_zero, List.getElem_cons_succ, List.setIfInBounds_toArray, List.set_cons_zero, List.set_cons_succ]
        refine anyL_ready (rs := [8]) (by kernel_rfl) (by simp) ?_
        refine AllL.cons rfl (fun K hK => ?_) AllL.nil
        go_simp
        refine (unhide HC).mono ?_
        rintro y w1 ⟨rfl, x1⟩
        have x1 : Below wr.heap.size wr w1 := (Below.refl wr.heap.size wr).drew.trans x1
        obtain ⟨BV, hBV⟩ : ∃ BV, BV = ltG ⟨xn, xl, xh, xs, xe⟩ ⟨mn, ml, mh, ms, me⟩ := ⟨_, rfl⟩
        rw [← hBV]
        have HBV := hide hBV.symm
        refine unhide hK _ _ (fun _ => unhide HSw w1 x1) ?_
        clear hK K HC hBV
        refine anyL_take (i := 9) (v := ?vrp8) rfl (by kernel_rfl) (by kernel_rfl) (by kernel_rfl) (by kernel_rfl) (fun _ _ _ h => h) (Or.inl ⟨by rfl, ?hrp8⟩) (unhide HSw w1 x1) ?_
        case hrp8 => (intro w hSw; (try dsimp only at hSw); go_simp) <;> with_reducible rfl
        simp only [Act.put, List.getElem_toArray, List.getElem_cons_zero, List.getElem_cons_succ, List.setIfInBounds_toArray, List.set_cons_zero, List.set_cons_succ]
        refine anyL_done (by kernel_rfl) ?_ _
        by_cases hb : BV = true
        · subst hb
          have HRR := hide ((unhide HYN).1 (unhide HBV))
          obtain ⟨v', W', ra, hJ2⟩ := unhide HPx w1 x1
          obtain ⟨p0, p1, p2, p3, p4, p5, p6, p7, p8, p9⟩ := unhide HSw w1 x1
          have R := hide ra
          have HJ2 := hide hJ2
          have hx2 : Below wr.heap.size wr wr := Below.refl _ _
          clear HPx ra hJ2 HPu HYN HP
          have HE := hide (((unhide HL).below (unhide HJ2).d (Nat.le_refl _)).five (unhide HHlt))
          rw [unhide HM] at HE
          have HPm := hide ((unhide HJ2).push ⟨mn, ml, mh, ms, me⟩ (by rw [List.length_append]; have := unhide HQ; simp at this ⊢; omega))
          dsimp only at HPm HE
          go_upto_region 8 with (at_builtin; refine wpList_append_known rfl _ _ 28 28 rfl _ _ rfl rfl _ _ (unhide R) ?_; clear R)
          clear p0 p1 p2 p3 p4 p5 p6 p7 p8 p9
          obtain ⟨_, _, ha, _, e0, e1, e2, e3, e4⟩ := unhide HE
          cases ha
          obtain ⟨v3, W3, ra, hJ3⟩ := unhide HPm
          have R := hide ra
          have HI2 : Hid (∃ q, GuJ X1 W3 v3 q ∧ q.length ≤ i + 1 + (if true = true then 1 else 0) ∧ (if true = true then q ++ l.drop (i + 1) = R0 else q ++ insG ⟨xn, xl, xh, xs, xe⟩ (l.drop (i + 1)) = R0)) := hide ⟨_, hJ3, by rw [List.length_append, List.length_append]; have := unhide HQ; simp at this ⊢; omega, by simp only [if_true]; exact unhide HRR⟩
          clear ra hJ3 HPm HE HJ2 HQ HRR HSw HS x1 hx2
          go_wp2_with (at_builtin; refine wpList_append_known rfl _ _ 28 28 rfl _ _ rfl rfl _ _ (unhide R) ?_; clear R)
          go_roundw
          case rel => exact ⟨true, i + 1, rfl, by go_num, hlt, HI2⟩
          case measure => simp [intOf]; omega
        · have hb' : BV = false := by simpa using hb
          subst hb'
          clear hb
          have HRR := hide ((unhide HYN).2 (unhide HBV))
          obtain ⟨v', W', ra, hJ2⟩ := unhide HPu w1 x1
          obtain ⟨p0, p1, p2, p3, p4, p5, p6, p7, p8, p9⟩ := unhide HSw w1 x1
          have R := hide ra
          have HI2 : Hid (∃ q, GuJ X1 W' v' q ∧ q.length ≤ i + 1 + (if false = true then 1 else 0) ∧ (if false = true then q ++ l.drop (i + 1) = R0 else q ++ insG ⟨xn, xl, xh, xs, xe⟩ (l.drop (i + 1)) = R0)) := hide ⟨_, hJ2, by rw [List.length_append]; have := unhide HQ; simp at this ⊢; omega, by simp only [Bool.false_eq_true, if_false]; exact unhide HRR⟩
          clear HYN HPu HPx HJ ra hJ2 HQ p0 p1 p2 p3 p4 HSw HS x1 HRR
          go_wp2_with (at_builtin; refine wpList_append_known rfl _ _ 28 28 rfl _ _ rfl rfl _ _ (unhide R) ?_; clear R)
          go_roundw
          case rel => exact ⟨false, i + 1, rfl, by go_num, hlt, HI2⟩
          case measure => simp [intOf]; omega
    · obtain rfl : i = N := by omega
      have t1 : decide ((i : Int) < (i : Int)) = false := decide_eq_false (by omega)
      have hlz : l.drop i = [] := by rw [unhide HN, List.drop_length]
      cases dn with
      | true =>
        simp only [if_true, hlz, List.append_nil] at hR
        subst hR
        have HO := hide (rowD_base hJ.o (unhide HXs))
        have HB := hide (unhide HXm _ hJ.d)
        clear hJ HI hq hlt HP hlz HIZ HIn
        go_wp2_with fail
        refine bodyPost_ret (results_tmp rfl _ _ _) rfl ?_
        exact ⟨_, rfl, by rw [unhide HEbx]; exact unhide HO, by rw [unhide HEbx]; exact unhide HB⟩
      | false =>
        simp only [Bool.false_eq_true, if_false] at hR
        have hR2 := unhide HIZ q hR
        have kx := (unhide HK).below hJ.d (unhide HK).lt
        have c0 := (kx.cell 0).trans rfl
        have c1 := (kx.cell 1).trans rfl
        have c2 := (kx.cell 2).trans rfl
        have c3 := (kx.cell 3).trans rfl
        have c4 := (kx.cell 4).trans rfl
        obtain ⟨v', W', ra, hJ2⟩ := unhide HP hJ (by simp at hq; omega)
        rw [hR2] at hJ2
        have R := hide ra
        have HO := hide (rowD_base hJ2.o (unhide HXs))
        have HB := hide (unhide HXm _ hJ2.d)
        clear ra hJ2 kx hR hR2 hJ hq HI hlt hlz HP HIZ HIn
        go_wp2_with (at_builtin; refine wpList_append_known rfl _ _ 28 28 rfl _ _ rfl rfl _ _ (unhide R) ?_; clear R)
        refine bodyPost_ret (results_tmp rfl _ _ _) rfl ?_
        exact ⟨_, rfl, by rw [unhide HEbx]; exact unhide HO, by rw [unhide HEbx]; exact unhide HB⟩
end Go.Proofs.Ytifpjdodignflaa
end

section
namespace Go.Proofs.Ytifpjdodignflaa
open Go.ChangeShapes Go.WideShapes Go.ChangeAt Go.RowKit
attribute [local go_sem] Oper.semAt_some

/-- the document's Ranges, as a value -/
def rsV (n : Int) (a : Option Addr) (k c : Nat) : Value := .agg #[.int .i64 n, .slice a k c]
theorem clsR_two {W : World} {B : Nat} {t : TypeId} {a b : Value} (h : Cls W B t #[a, b]) : W.cell? ⟨B, 0, none⟩ = some a ∧ W.cell? ⟨B, 1, none⟩ = some b := ⟨(h.cell 0).trans rfl, (h.cell 1).trans rfl⟩
/-- a struct of two cells stored -/
theorem clsR_put2 {W : World} {B N : Nat} {t : TypeId} {a b : Value} {X : World} (h : Cls W B t #[a, b]) (u v : Value) (hb : Below N X W) (hN : N ≤ B) :
    Cls ((W.setCell ⟨B, 0, none⟩ u).setCell ⟨B, 1, none⟩ v) B t #[u, v] ∧ Below N X ((W.setCell ⟨B, 0, none⟩ u).setCell ⟨B, 1, none⟩ v) := by
  refine ⟨(h.set 0 u).set 1 v, ?_⟩
  exact (hb.setCell (p := ⟨B, 0, none⟩) hN u).setCell (p := ⟨B, 1, none⟩) hN v
/-- without a name -/
def fwR (s : ByteArray) (l : List Rg) : List Rg := l.filter fun m => decide (m.n ≠ s)
theorem atG_shift (s : ByteArray) : ∀ (l : List Rg) (i : Nat), atG s l (i + 1) = (atG s l i).map fun p => (p.1 + 1, p.2)
  | [], _ => rfl
  | m :: l, i => by
    unfold atG
    split
    · rfl
    · exact atG_shift s l (i + 1)
theorem delG_cons (s : ByteArray) (m : Rg) (l : List Rg) : delG s (m :: l) = if m.n = s then l else m :: delG s l := by
  by_cases h : m.n = s
  · rw [if_pos h]
    unfold delG atG
    rw [(MapKept.bytes_beq s m.n).2 h.symm]
    simp
  · have h1 : (s == m.n) = false := by
      cases hc : s == m.n with
      | false => rfl
      | true => exact absurd ((MapKept.bytes_beq _ _).1 hc).symm h
    rw [if_neg h]
    unfold delG
    rw [show atG s (m :: l) 0 = atG s l (0 + 1) by conv => lhs; unfold atG; rw [h1]; simp, atG_shift]
    cases atG s l 0 with
    | none => rfl
    | some p => rfl
theorem fw_del (s : ByteArray) : ∀ l : List Rg, Unl l → fwR s l = delG s l
  | [], _ => rfl
  | m :: l, h => by
    unfold Unl at h
    simp only [List.map_cons, List.nodup_cons] at h
    have ih := fw_del s l h.2
    rw [delG_cons]
    unfold fwR at ih ⊢
    by_cases hm : m.n = s
    · rw [if_pos hm, List.filter_cons_of_neg (by simp [hm]), List.filter_eq_self]
      intro y hy
      refine decide_eq_true fun e => h.1 (List.mem_map.2 ⟨y, hy, e.trans hm.symm⟩)
    · rw [if_neg hm, List.filter_cons_of_pos (by simp [hm]), ih]
theorem del_none {s : ByteArray} {l : List Rg} : (delG s l).length = l.length ↔ getG s l = none := by
  constructor
  · intro h
    cases hg : getG s l with
    | none => rfl
    | some x =>
      have := (del_perm hg).length_eq
      rw [List.length_cons] at this
      omega
  · intro h; rw [del_no h]
set_option maxRecDepth 100000 in
set_option maxHeartbeats 4000000 in
theorem RWithoutR_at (a : Option Addr) (c : Nat) (l : List Rg) (sn : ByteArray) (X : World) (h : IsRl X a l) (hl : l.length ≤ 1048576) :
    Calls Try.prog 41 #[.slice a l.length c, .string sn] X fun y X' => ∃ v, y = .returned v ∧ X'.ownsRow X.heap.size 37 5 v (fwR sn l).length (rgsV (fwR sn l)) ∧ Below X.heap.size X X' := by
  obtain ⟨R0, hR0⟩ : ∃ R0, R0 = fwR sn l := ⟨_, rfl⟩
  rw [← hR0]
  have HL := hide h
  have HI0 : Hid (([] : List Rg) ++ fwR sn (l.drop 0) = R0) := hide (by rw [hR0]; rfl)
  obtain ⟨N, hN⟩ : ∃ N, N = l.length := ⟨_, rfl⟩
  have HN := hide hN
  rw [← hN] at hl ⊢
  clear hN h hR0
  go_enter Try.func41, Try.ntmps41
  go_wp2_with fail
  go_loopw [5, 6] (fun v5 v6 wx => ∃ i : Nat, v6 = .int .i64 (i : Int) ∧ i ≤ N ∧ Hid (∃ q, GuJ X wx v5 q ∧ q.length ≤ i ∧ q ++ fwR sn (l.drop i) = R0)) (fun _ v6 _ => N - (intOf v6).toNat)
  case atStart => exact ⟨0, rfl, Nat.zero_le _, hide ⟨[], GuJ.new (Below.refl _ _), Nat.le_refl _, unhide HI0⟩⟩
  case round =>
    clear HI0
    obtain ⟨i, rfl, hi, HI⟩ := hrel
    obtain ⟨q, hJ, hq, hR⟩ := unhide HI
    by_cases hlt : i < N
    · have t1 : decide ((i : Int) < (N : Int)) = true := decide_eq_true (by omega)
      have hlt' : i < l.length := by rw [← unhide HN]; exact hlt
      rw [dropG_getD l hlt'] at hR
      unfold fwR at hR
      obtain ⟨eg, eo, ha, heg, e0, e1, e2, e3, e4⟩ := ((unhide HL).below hJ.d (Nat.le_refl _)).five hlt'
      subst ha
      obtain ⟨v3, W3, ra, hJ3⟩ := hJ.push (l.getD i rgZ) (by omega)
      generalize l.getD i rgZ = m at *
      obtain ⟨mn, ml, mh, ms, me⟩ := m
      dsimp only at e0 e1 e2 e3 e4 ra
      by_cases hk : mn = sn
      · subst hk
        rw [List.filter_cons_of_neg (by simp)] at hR
        have HI2 : Hid (∃ q, GuJ X wr u5 q ∧ q.length ≤ i + 1 ∧ q ++ fwR mn (l.drop (i + 1)) = R0) := hide ⟨q, hJ, by omega, hR⟩
        clear HI hJ hq hR hlt' ra hJ3 heg
        go_wp2_with fail
        go_roundw
        case rel => exact ⟨i + 1, by go_num, hlt, HI2⟩
        case measure => simp [intOf]; omega
      · rw [List.filter_cons_of_pos (by simp [hk])] at hR
        have h2 : ¬ mn.toList = sn.toList := fun e => hk (ba_toList e)
        have h3 : (mn.toList == sn.toList) = false := by simpa using h2
        have R := hide ra
        have HI2 : Hid (∃ q, GuJ X W3 v3 q ∧ q.length ≤ i + 1 ∧ q ++ fwR sn (l.drop (i + 1)) = R0) := hide ⟨_, hJ3, by simp; omega, by rw [List.append_assoc]; exact hR⟩
        clear HI hJ hq hR hlt' ra hJ3 hk heg
        go_wp2_with (at_builtin; refine wpList_append_known rfl _ _ 28 28 rfl _ _ rfl rfl _ _ (unhide R) ?_; clear R)
        go_roundw
        case rel => exact ⟨i + 1, by go_num, hlt, HI2⟩
        case measure => simp [intOf]; omega
    · obtain rfl : i = N := by omega
      have t1 : decide ((i : Int) < (i : Int)) = false := decide_eq_false (by omega)
      rw [unhide HN, List.drop_length] at hR
      unfold fwR at hR
      rw [List.filter_nil, List.append_nil] at hR
      subst hR
      have HO := hide hJ.o
      have HB := hide hJ.d
      clear hJ HI hq hlt
      go_wp2_with fail
      refine bodyPost_ret (results_tmp rfl _ _ _) rfl ?_
      exact ⟨_, rfl, unhide HO, unhide HB⟩
set_option maxRecDepth 100000 in
set_option maxHeartbeats 4000000 in
theorem RDropR_all (n : Int) (a : Option Addr) (c : Nat) (l : List Rg) (sn : ByteArray) (X : World) (h : IsRl X a l) (hl : l.length ≤ 1048576) (hu : Unl l) :
    Calls Try.prog 24 #[rsV n a l.length c, .string sn] X fun y X' => (getG sn l = none ∧ y = .returned (.tuple #[rsV n a l.length c, .int .i64 150]) ∧ Below X.heap.size X X') ∨ ((getG sn l).isSome = true ∧ ∃ v, y = .returned (.tuple #[.agg #[.int .i64 n, v], .int .i64 0]) ∧ X'.ownsRow X.heap.size 37 5 v (delG sn l).length (rgsV (delG sn l)) ∧ Below X.heap.size X X') := by
  have HWo := hide fun (Y : World) (hY : Below X.heap.size X Y) => RWithoutR_at a c l sn Y (h.below hY (Nat.le_refl _)) hl
  rw [fw_del sn l hu] at HWo
  have HG : Hid (((delG sn l).length = l.length → getG sn l = none) ∧ ((delG sn l).length ≠ l.length → (getG sn l).isSome = true)) := hide ⟨del_none.1, fun hh => by
    cases hg : getG sn l with
    | none => exact absurd (del_none.2 hg) hh
    | some x => rfl⟩
  generalize delG sn l = D at *
  generalize getG sn l = gm at *
  clear h hu
  obtain ⟨N, hN⟩ : ∃ N, N = l.length := ⟨_, rfl⟩
  rw [← hN] at hl HWo HG ⊢
  clear hN
  unfold rsV
  have k2 := (Cls.new X 30 #[.int .i64 n, .slice a N c]).alloc (.cells #[.int .i64 0, .slice none 0 0] 30)
  have k4 := Cls.new (X.alloc (.cells #[.int .i64 n, .slice a N c] 30)) 30 #[.int .i64 0, .slice none 0 0]
  have b1 := (Below.refl X.heap.size X).alloc (Nat.le_refl _) (.cells #[.int .i64 n, .slice a N c] 30)
  have b3 := b1.alloc b1.size (.cells #[.int .i64 0, .slice none 0 0] 30)
  rw [World.size_alloc] at k4
  have HK := hide (And.intro k2 k4)
  have HB := hide b3
  obtain ⟨c0, c1⟩ := clsR_two k2
  have HC1 := hide (unhide HWo _ b3)
  clear k2 k4 b1 b3 HWo
  go_enter Try.func24, Try.ntmps24
  go_wp2_with fail
  refine (unhide HC1).mono ?_
  rintro y w1 ⟨v1, rfl, o1, x1⟩
  dsimp only
  obtain ⟨k2, k4⟩ := unhide HK
  have k2 := k2.below x1 k2.lt
  have k4 := k4.below x1 k4.lt
  have hb1 := (unhide HB).trans (x1.mono (unhide HB).size)
  have o1' := rowD_base o1 (unhide HB).size
  obtain ⟨av, cv, hv3, _⟩ := rowD_form o1'
  subst hv3
  clear HC1 HK HB x1 c0 c1 o1
  obtain ⟨c0, c1⟩ := clsR_two k2
  by_cases hd : D.length = N
  · have hg := (unhide HG).1 hd
    subst hg
    have t1 : ((D.length : Int) == (N : Int)) = true := by simp [hd]
    have t2 : (D.length == N) = true := by simp [hd]
    clear HG o1' k2 hd
    generalize D.length = dn at *
    have k9 := (clsR_put2 k4 (.int .i64 n) (.slice a N c) hb1 (show X.heap.size ≤ X.heap.size + 1 by omega))
    obtain ⟨r0, r1⟩ := clsR_two k9.1
    have HB9 := hide k9.2
    have f0 := k4.frozen 0
    have f1 := k4.frozen 1
    obtain ⟨z0, z1⟩ := clsR_two k4
    clear k9 k4 hb1
    go_wp2_with fail
    refine bodyPost_ret (v := .tuple #[.agg #[.int .i64 n, .slice a N c], .int .i64 150]) (by simp [results, Try.results24, go_sem, r0, r1]) rfl (by first | exact .inl ⟨rfl, rfl, unhide HB9⟩ | exact ⟨rfl, unhide HB9⟩ | exact ⟨rfl, rfl, unhide HB9⟩ | exact ⟨trivial, rfl, unhide HB9⟩)
  · have HGS := hide ((unhide HG).2 hd)
    have t1 : ((D.length : Int) == (N : Int)) = false := by rw [beq_eq_false_iff_ne]; omega
    have t2 : (D.length == N) = false := by rw [beq_eq_false_iff_ne]; exact hd
    have k9 := (clsR_put2 k4 (.int .i64 n) (.slice av D.length cv) hb1 (show X.heap.size ≤ X.heap.size + 1 by omega))
    obtain ⟨r0, r1⟩ := clsR_two k9.1
    have HB9 := hide k9.2
    have HO9 : Hid (((w1.setCell ⟨X.heap.size + 1, 0, none⟩ (.int .i64 n)).setCell ⟨X.heap.size + 1, 1, none⟩ (.slice av D.length cv)).ownsRow X.heap.size 37 5 (.slice av D.length cv) D.length (rgsV D)) := hide (rowD_on o1' fun G hG => by
      have hne : G ≠ X.heap.size + 1 := fun e => by
        obtain ⟨_, cur, hc⟩ := rowD_block o1' hG
        unfold Cls at k4
        rw [e, k4] at hc
        cases hc
      rw [Below.heap_setCell _ ⟨X.heap.size + 1, 1, none⟩ _ G hne, Below.heap_setCell _ ⟨X.heap.size + 1, 0, none⟩ _ G hne])
    have f0 := k4.frozen 0
    have f1 := k4.frozen 1
    obtain ⟨z0, z1⟩ := clsR_two k4
    clear HG o1' k2 k4 k9 hb1 hd
    generalize hdn : D.length = dn at *
    have HD := hide hdn
    clear hdn
    go_wp2_with fail
    refine bodyPost_ret (v := .tuple #[.agg #[.int .i64 n, .slice av dn cv], .int .i64 0]) (by simp [results, Try.results24, go_sem, r0, r1]) rfl (.inr ⟨unhide HGS, _, rfl, by rw [unhide HD]; exact unhide HO9, unhide HB9⟩)
end Go.Proofs.Ytifpjdodignflaa
end
