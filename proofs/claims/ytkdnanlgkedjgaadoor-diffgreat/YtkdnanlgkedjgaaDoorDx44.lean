/- Layer 19: changed: the changes between the pieces that are kept. · Layer 19, plain: the delta that the program's runs make, operation by operation. · Layer 13: checked and Of. · Layer 19, plain: the changes are what Of asks for, and what it makes of them. -/
import Derived.Test.YtkdnanlgkedjgaaDoorDx41
import Derived.Test.YtkdnanlgkedjgaaDoorDx43
import Derived.Test.YtkdnanlgkedjgaaDoorDx42
import Derived.BigQuiet

section
namespace Go.Proofs.YtkdnanlgkedjgaaDoor
open Go.ChangeShapes Go.WideShapes Go.ChangeAt Go.RowKit
attribute [local go_sem] Oper.semAt_some

/-- where the loop over the runs stands: ahead of the next run, which ends in both lists -/
theorem chs_round {nx ny xc yc : List Nat} {m : List Int} {k : Nat} (hk : k < (runsL nx ny).length) :
    (chsR xc yc m ((runsL nx ny).take k)).1 ≤ ((runsL nx ny).getD k (0, 0, 0)).1 ∧ (chsR xc yc m ((runsL nx ny).take k)).2.1 ≤ ((runsL nx ny).getD k (0, 0, 0)).2.1 ∧
    ((runsL nx ny).getD k (0, 0, 0)).1 + ((runsL nx ny).getD k (0, 0, 0)).2.2 ≤ nx.length ∧ ((runsL nx ny).getD k (0, 0, 0)).2.1 + ((runsL nx ny).getD k (0, 0, 0)).2.2 ≤ ny.length := by
  have h := chsR_at (x := nx) (y := ny) xc yc m (runsL nx ny) 0 0 [] (runs_ok nx ny) k (by omega)
  have e : (runsL nx ny).drop k = (runsL nx ny).getD k (0, 0, 0) :: (runsL nx ny).drop (k + 1) := by
    rw [List.drop_eq_getElem_cons hk]; simp [List.getD, List.getElem?_eq_getElem hk]
  rw [e] at h
  exact ⟨h.1, h.2.1, h.2.2.1, h.2.2.2.1⟩
def pcV (a0 : Option Addr) (n c0 : Nat) (a1 : Option Addr) (n1 c1 : Nat) (a2 : Option Addr) (n2 c2 : Nat) : Value := .agg #[.slice a0 n c0, .slice a1 n1 c1, .slice a2 n2 c2]
structure ChI (w2 X : World) (cs : List Dop) (v : Value) : Prop where
  b : Below w2.heap.size w2 X
  r : X.ownsRow w2.heap.size 71 3 v cs.length (opsV cs)
set_option maxRecDepth 100000 in
set_option maxHeartbeats 8000000 in
theorem changed_at (a0 : Option Addr) (c0 : Nat) (l : List Int) (b0 : Option Addr) (d0' : Nat) (m : List Int) (a1 a2 a3 a4 : Option Addr) (c1 c2 c3 c4 : Nat) (xc nx yc ny : List Nat) (w : World)
    (hB : IsB w b0 d0' m) (i1 : IsI w a1 xc) (i2 : IsI w a2 nx) (i3 : IsI w a3 yc) (i4 : IsI w a4 ny) (ox : OkCut l xc) (oy : OkCut m yc) (lx : nx.length + 1 = xc.length) (ly : ny.length + 1 = yc.length) (k2 : nx.length ≤ c2) (k4 : ny.length ≤ c4) (mx : nx.length ≤ 2048) (my : ny.length ≤ 2048) :
    Calls Tryd.prog 47 #[pcV a0 l.length c0 a1 xc.length c1 a2 nx.length c2, pcV b0 m.length d0' a3 yc.length c3 a4 ny.length c4] w fun y w' => ∃ v, y = .returned v ∧ Below w.heap.size w w' ∧
      w'.ownsRow w.heap.size 71 3 v (chsR xc yc m (runsL nx ny)).2.2.length (opsV (chsR xc yc m (runsL nx ny)).2.2) := by
  have b1 := (Below.refl w.heap.size w).alloc (Nat.le_refl _) (.cells #[.slice a0 l.length c0, .slice a1 xc.length c1, .slice a2 nx.length c2] 53)
  have b2 := b1.alloc b1.size (.cells #[.slice b0 m.length d0', .slice a3 yc.length c3, .slice a4 ny.length c4] 53)
  have q2 := (Cls.new w 53 #[.slice a0 l.length c0, .slice a1 xc.length c1, .slice a2 nx.length c2]).alloc (.cells #[.slice b0 m.length d0', .slice a3 yc.length c3, .slice a4 ny.length c4] 53)
  have q3 := Cls.new (w.alloc (.cells #[.slice a0 l.length c0, .slice a1 xc.length c1, .slice a2 nx.length c2] 53)) 53 #[.slice b0 m.length d0', .slice a3 yc.length c3, .slice a4 ny.length c4]
  simp only [World.size_alloc] at q3
  unfold pcV
  have HC := hide (common_at a2 c2 nx a4 c4 ny _ (i2.below b2 (Nat.le_refl _)) (i4.below b2 (Nat.le_refl _)) k2 k4 mx my)
  have HB := hide b2
  have HI := hide (And.intro hB (And.intro i1 i3))
  have HO := hide (And.intro ox oy)
  obtain ⟨x0, x1, x2⟩ := q2.three
  obtain ⟨y0, y1, y2⟩ := q3.three
  have HQ := hide (And.intro q2 q3)
  clear b1 b2 q2 q3 hB i1 i2 i3 i4 ox oy
  go_enter Tryd.func47, Tryd.ntmps47
  go_wp2_with fail
  refine (unhide HC).mono ?_
  rintro e w3 ⟨vR, kR, rfl, hR, hb3⟩
  dsimp only
  obtain ⟨aR, cR, rfl, hru⟩ := ra_runs hR
  obtain ⟨g2, hg2⟩ : ∃ g2, g2 = w.heap.size := ⟨_, rfl⟩
  have HRU := hide hru
  have HB3 := hide ((unhide HB).trans (hb3.mono (unhide HB).size))
  have HQ2 := hide ((unhide HQ).1.below hb3 (unhide HQ).1.lt)
  have HQ3 := hide ((unhide HQ).2.below hb3 (unhide HQ).2.lt)
  have HS := hide (show w.heap.size ≤ w3.heap.size from (unhide HB3).size)
  clear HC hR hb3 hru x0 x1 x2 y0 y1 y2 HQ HB
  rw [← hg2] at HQ2 HQ3 ⊢
  clear hg2
  have H0 : Hid (ChI w3 w3 (chsR xc yc m ((runsL nx ny).take 0)).2.2 (.slice none 0 0)) := hide ⟨Below.refl _ _, World.ownsRow_nil _ _ _ _⟩
  have hLl := runs_len nx ny
  go_wp2_with fail
  go_loopw [5, 6, 7, 9, 10, 17] (fun v5 v6 v7 v9 v10 v17 wx => (∃ z, v9 = z) ∧ (∃ z, v10 = z) ∧ ∃ k : Nat, v17 = .int .i64 (k : Int) ∧ k ≤ (runsL nx ny).length ∧ v6 = .int .i64 ((chsR xc yc m ((runsL nx ny).take k)).1 : Int) ∧ v7 = .int .i64 ((chsR xc yc m ((runsL nx ny).take k)).2.1 : Int) ∧ Hid (ChI w3 wx (chsR xc yc m ((runsL nx ny).take k)).2.2 v5)) (fun _ _ _ _ _ v17 _ => (runsL nx ny).length - (intOf v17).toNat)
  case atStart => exact ⟨⟨_, rfl⟩, ⟨_, rfl⟩, 0, rfl, Nat.zero_le _, rfl, rfl, H0⟩
  case round =>
    clear H0
    obtain ⟨⟨z1, rfl⟩, ⟨z2, rfl⟩, k, rfl, hk, rfl, rfl, HI2⟩ := hrel
    by_cases h1 : k < (runsL nx ny).length
    · have t1 : decide ((k : Int) < ((runsL nx ny).length : Int)) = true := decide_eq_true (by omega)
      have f1 : (k : Int) < ((runsL nx ny).length : Int) := by omega
      have hbx := (unhide HI2).b
      obtain ⟨gr, offr, rfl, hgr, e0, e1, e2⟩ := ((unhide HRU).below hbx (Nat.le_refl _)).at h1
      have hrd := chs_round (xc := xc) (yc := yc) (m := m) h1
      have hst := chsR_take xc yc m (runsL nx ny) h1
      have hcl := chsR_len xc yc m (runsL nx ny) k hk
      obtain ⟨i1, i3⟩ := (unhide HI).2
      have hB := (unhide HI).1
      have HBW := hide hbx
      have XA : Below w.heap.size w wr := (unhide HB3).trans (hbx.mono (unhide HB3).size)
      generalize (runsL nx ny).getD k (0, 0, 0) = rn at *
      generalize chsR xc yc m ((runsL nx ny).take k) = st at *
      obtain ⟨p, q, n⟩ := rn
      obtain ⟨i, j, cs⟩ := st
      dsimp only at hrd hst hcl e0 e1 e2 ⊢
      obtain ⟨r1, r2, r3, r4⟩ := hrd
      obtain ⟨ga, offa, ea, hga, cx⟩ := (i1.below XA (Nat.le_refl _)).at (k := i) (by omega)
      obtain ⟨gy, offy, ey, hgy, cy⟩ := (i3.below XA (Nat.le_refl _)).at (k := j) (by omega)
      have e1c := cx i (by omega)
      have e2c := cx p (by omega)
      have e3c := cy j (by omega)
      have e4c := cy q (by omega)
      have m1 := (unhide HO).2.le (show j ≤ q from r2) (by omega)
      have m2 := (unhide HO).2.at_le (show q < yc.length by omega)
      have hml := hB.1
      have HE6 : Hid (Value.int .i64 ((p : Int) + (n : Int)) = .int .i64 ((chsR xc yc m ((runsL nx ny).take (k + 1))).1 : Int)) := hide (by rw [hst]; simp [chR])
      have HE7 : Hid (Value.int .i64 ((q : Int) + (n : Int)) = .int .i64 ((chsR xc yc m ((runsL nx ny).take (k + 1))).2.1 : Int)) := hide (by rw [hst]; simp [chR])
      have HST := hide hst
      -- the round's box
      have bx := (Below.refl wr.heap.size wr).alloc (Nat.le_refl _) (.cells #[.int .i64 (p : Int), .int .i64 (q : Int), .int .i64 (n : Int)] 60)
      have dd := (Cls.new wr 60 #[.int .i64 (p : Int), .int .i64 (q : Int), .int .i64 (n : Int)]).three
      have hol : ∀ {g o : Nat} {x : Value}, wr.cell? ⟨g, o, none⟩ = some x → (wr.alloc (.cells #[.int .i64 (p : Int), .int .i64 (q : Int), .int .i64 (n : Int)] 60)).cell? ⟨g, o, none⟩ = some x := fun h => (bx.cell (p := ⟨_, _, none⟩) (cell_lt h)).trans h
      have x1 := hol ((unhide HQ2).below hbx (unhide HQ2).lt).three.2.1
      have y0 := hol ((unhide HQ3).below hbx (unhide HQ3).lt).three.1
      have y1 := hol ((unhide HQ3).below hbx (unhide HQ3).lt).three.2.1
      have z1' := hol e1c
      have z2' := hol e2c
      have z3' := hol e3c
      have z4' := hol e4c
      obtain ⟨d0, d1, d2⟩ := dd
      obtain ⟨gb, hgb⟩ : ∃ gb, gb = wr.heap.size := ⟨_, rfl⟩
      rw [← hgb] at d0 d1 d2
      subst ea ey
      have l1 := (unhide HQ2).lt
      have hbz := hbx.size
      have hg1 := cell_lt e1c
      have hrow := (unhide HI2).r
      have hlt : ∀ G, u5.ownBlock = some G → G < gb ∧ w3.heap.size ≤ G := fun G e => by
        have := hrow.lt G e
        omega
      have ha3 : ga < w3.heap.size := by
        obtain ⟨_, _, e, h, _⟩ := (i1.below (unhide HB3) (Nat.le_refl _)).at (k := i) (by omega)
        cases e; exact h
      have HNE : Hid (¬ u5.ownBlock = some g2 ∧ ¬ u5.ownBlock = some gb ∧ ¬ u5.ownBlock = some ga) := hide ⟨fun e => by have := hlt _ e; omega, fun e => by have := hlt _ e; omega, fun e => by have := hlt _ e; omega⟩
      obtain ⟨A, hA⟩ : ∃ A, (if d0' = yc.getD j 0 then b0 else b0.map (·.add (yc.getD j 0))) = A := ⟨_, rfl⟩
      obtain ⟨tx, htx⟩ : ∃ tx, tx = (m.drop (yc.getD j 0)).take (yc.getD q 0 - yc.getD j 0) := ⟨_, rfl⟩
      have HBT : ∀ X, Below w.heap.size w X → IsB X A (d0' - yc.getD j 0) tx := fun X hX => by rw [htx, ← hA]; exact ((hB.below hX (Nat.le_refl _)).loD (n := yc.getD j 0)).takeD (n := yc.getD q 0 - yc.getD j 0)
      have htl : yc.getD q 0 - yc.getD j 0 = tx.length := by rw [htx, List.length_take, List.length_drop]; omega
      have HCT : Hid ((i < p ∨ j < q) → (chsR xc yc m ((runsL nx ny).take (k + 1))).2.2 = cs ++ [⟨(xc.getD i 0 : Int), (xc.getD p 0 : Int), tx⟩]) := hide fun g => by rw [hst]; unfold chR; dsimp only; rw [if_pos g, htx]
      have HCF : Hid (¬ (i < p ∨ j < q) → (chsR xc yc m ((runsL nx ny).take (k + 1))).2.2 = cs) := hide fun g => by rw [hst]; unfold chR; dsimp only; rw [if_neg g, List.append_nil]
      have XB := XA.trans (bx.mono XA.size)
      have HKC : Hid (∀ nn : Nat, (convert 22 9 (.slice A tx.length (d0' - yc.getD j 0))).run Tryd.prog ((wr.alloc (.cells #[.int .i64 (p : Int), .int .i64 (q : Int), .int .i64 (n : Int)] 60)).drewN nn) = .ok (.string (strOfNums tx)) ((wr.alloc (.cells #[.int .i64 (p : Int), .int .i64 (q : Int), .int .i64 (n : Int)] 60)).drewN nn)) := hide fun nn => str_bs _ A _ tx (HBT _ (bdrN XB nn)).2.2.1
      have HW0 : Hid (∀ Y : World, Below (wr.alloc (.cells #[.int .i64 (p : Int), .int .i64 (q : Int), .int .i64 (n : Int)] 60)).heap.size (wr.alloc (.cells #[.int .i64 (p : Int), .int .i64 (q : Int), .int .i64 (n : Int)] 60)) Y → Below w3.heap.size w3 Y ∧ Y.ownsRow w3.heap.size 71 3 u5 cs.length (opsV cs)) := hide fun Y hY =>
        ⟨(hbx.trans (bx.mono hbz)).trans (hY.mono (by simp; omega)), rowD_below (rowD_below hrow bx (Nat.le_refl _)) hY (Nat.le_refl _)⟩
      have f2 : (j : Int) < (yc.length : Int) := by omega
      have f3 : (q : Int) < (yc.length : Int) := by omega
      have f4 : (0 : Int) ≤ (j : Int) := by omega
      have f5 : (0 : Int) ≤ (q : Int) := by omega
      have f6 : (i : Int) < (xc.length : Int) := by omega
      have f7 : (p : Int) < (xc.length : Int) := by omega
      have f8 : (0 : Int) ≤ (i : Int) := by omega
      have f9 : (0 : Int) ≤ (p : Int) := by omega
      have HRB := hide (And.intro r1 (And.intro r2 (And.intro r3 r4)))
      clear hst HST htx HBT hol bx XA XB i1 i3 hB hbx hrow e1c e2c e3c e4c HI2 cx cy hgr hga hgy hbz hg1 hlt ha3 l1
      generalize xc.getD i 0 = lo2 at *
      generalize xc.getD p 0 = hi2 at *
      generalize yc.getD j 0 = lo at *
      generalize yc.getD q 0 = hi at *
      have f10 : (lo : Int) ≤ (hi : Int) := by omega
      have f11 : (hi : Int) ≤ (d0' : Int) := by omega
      have f12 : hi ≤ d0' := by omega
      have f13 : (0 : Int) ≤ (lo : Int) := by omega
      go_upto_region 6 with fail
      generalize wr.alloc (.cells #[.int .i64 (p : Int), .int .i64 (q : Int), .int .i64 (n : Int)] 60) = v0 at *
      clear e0 e1 e2
      rw [← hgb]
      clear hgb
      have HS0 : Hid (∀ Y : World, Y.heap = v0.heap → Y.cell? ⟨g2, 1, none⟩ = some (.slice (some ⟨ga, offa, none⟩) xc.length c1) ∧ Y.cell? ⟨gb, 0, none⟩ = some (.int .i64 (p : Int)) ∧ Y.cell? ⟨ga, offa + i, none⟩ = some (.int .i64 (lo2 : Int)) ∧ Y.cell? ⟨ga, offa + p, none⟩ = some (.int .i64 (hi2 : Int))) := hide fun Y hY =>
        ⟨(World.cell?_of_block (a := ⟨g2, 1, none⟩) (by rw [hY])).trans x1, (World.cell?_of_block (a := ⟨gb, 0, none⟩) (by rw [hY])).trans d0, (World.cell?_of_block (a := ⟨ga, offa + i, none⟩) (by rw [hY])).trans z1', (World.cell?_of_block (a := ⟨ga, offa + p, none⟩) (by rw [hY])).trans z2'⟩
      have KC := unhide HKC
      clear HKC x1 z1' z2'
      by_cases hip : i < p
      · have hch : i < p ∨ j < q := .inl hip
        have tA : decide ((i : Int) < (p : Int)) = true := decide_eq_true (by omega)
        have HNC := hide (unhide HCT hch)
        clear HCT HCF hch
        go_wp2_with fail
        go_quiet (fail)
        have hvs : (v0.drewN nq).drew.heap = v0.heap := drewN_heap v0 nq
        have w0 := unhide HW0 (v0.drewN nq).drew (bdrN (Below.refl _ v0) nq).drew
        generalize v0.drewN nq = v1 at *
        have S0 := unhide HS0 v1.drew hvs
        obtain ⟨G, cG, W', r1, o1, gr1, y1'⟩ := push_ch v1.drew w3.heap.size cs.length u5 (opsV cs) (lo2 : Int) (hi2 : Int) (strOfNums tx) 67 w0.2 (by clear f1 t1; omega) (by have := w0.1.size; omega)
        have S1 := S0
        have hal : ∀ {g o : Nat} {x : Value}, v1.drew.cell? ⟨g, o, none⟩ = some x → (v1.drew.alloc (.cells #[.int .i64 (lo2 : Int), .int .i64 (hi2 : Int), .string (strOfNums tx)] 71)).cell? ⟨g, o, none⟩ = some x := fun h => (World.cell?_of_block (a := ⟨_, _, none⟩) (heap_alloc_old _ _ (cell_lt h))).trans h
        have hcl2 : ∀ {g o : Nat} {x : Value}, ¬ u5.ownBlock = some g → v1.drew.cell? ⟨g, o, none⟩ = some x → W'.cell? ⟨g, o, none⟩ = some x := fun hn h => (World.cell?_of_block (a := ⟨_, _, none⟩) (gr1.block _ (cell_lt h) (fun e => hn e.symm))).trans h
        have S1 := And.intro (hal S0.1) (And.intro (hal S0.2.1) (And.intro (hal S0.2.2.1) (hal S0.2.2.2)))
        have S2 := And.intro (hcl2 (unhide HNE).1 S0.1) (And.intro (hcl2 (unhide HNE).2.1 S0.2.1) (And.intro (hcl2 (unhide HNE).2.2 S0.2.2.1) (hcl2 (unhide HNE).2.2 S0.2.2.2)))
        have D0 := hcl2 (unhide HNE).2.1 ((World.cell?_of_block (a := ⟨gb, 0, none⟩) (by rw [hvs])).trans d0)
        have D1 := hcl2 (unhide HNE).2.1 ((World.cell?_of_block (a := ⟨gb, 1, none⟩) (by rw [hvs])).trans d1)
        have D2 := hcl2 (unhide HNE).2.1 ((World.cell?_of_block (a := ⟨gb, 2, none⟩) (by rw [hvs])).trans d2)
        have R1 := hide r1
        have HNI : Hid (ChI w3 W' (chsR xc yc m ((runsL nx ny).take (k + 1))).2.2 (.slice (some ⟨G, 0, none⟩) (cs.length + 1) cG)) := hide (by
          rw [unhide HNC]
          refine ⟨w0.1.trans y1', ?_⟩
          rw [List.length_append, List.length_singleton, opsV_app, opsV_one]
          exact o1)
        clear r1 o1 gr1 y1' w0 hal hcl2 hvs d0 d1 d2 KC
        go_wp2_with fail
        refine regionL (S := fun w' => w'.cell? ⟨g2, 1, none⟩ = some (.slice (some ⟨ga, offa, none⟩) xc.length c1) ∧ w'.cell? ⟨gb, 0, none⟩ = some (.int .i64 (p : Int)) ∧ w'.cell? ⟨ga, offa + i, none⟩ = some (.int .i64 (lo2 : Int)) ∧ w'.cell? ⟨ga, offa + p, none⟩ = some (.int .i64 (hi2 : Int))) (fun _ => false) (by kernel_rfl) ?_
        generalize v1.drew = v2 at *
        refine anyL_take (i := 0) (v := ?vq0) rfl (by kernel_rfl) (by kernel_rfl) (by kernel_rfl) (by kernel_rfl) (fun _ _ _ h => h) (Or.inl ⟨by rfl, ?hq0⟩) (S0) ?_
        case hq0 => (intro w hSw; (try dsimp only at hSw); go_simp) <;> with_reducible rfl
        simp only [Act.put, List.getElem_toArray, List.getElem_cons_zero, List.setIfInBounds_toArray, List.set_cons_zero, List.set_cons_succ]
        refine anyL_take (i := 1) (v := ?vq1) rfl (by kernel_rfl) (by kernel_rfl) (by kernel_rfl) (by kernel_rfl) (fun _ _ _ h => h) (Or.inl ⟨by rfl, ?hq1⟩) (S0) ?_
        case hq1 => (intro w hSw; (try dsimp only at hSw); go_simp) <;> with_reducible rfl
        simp only [Act.put, List.getElem_toArray, List.getElem_cons_zero, List.getElem_cons_succ, List.setIfInBounds_toArray, List.set_cons_zero, List.set_cons_succ]
        refine anyL_take (i := 2) (v := ?vq2) rfl (by kernel_rfl) (by kernel_rfl) (by kernel_rfl) (by kernel_rfl) (fun _ _ _ h => h) (Or.inl ⟨by rfl, ?hq2⟩) (S0) ?_
        case hq2 => (intro w hSw; (try dsimp only at hSw); go_simp) <;> with_reducible rfl
        simp only [Act.put, List.getElem_toArray, List.getElem_cons_zero, List.getElem_cons_succ, List.setIfInBounds_toArray, List.set_cons_zero, List.set_cons_succ]
        refine anyL_take (i := 3) (v := ?vq3) rfl (by kernel_rfl) (by kernel_rfl) (by kernel_rfl) (by kernel_rfl) (fun _ _ _ h => h) (Or.inl ⟨by rfl, ?hq3⟩) (S0) ?_
        case hq3 => (intro w hSw; (try dsimp only at hSw); go_simp) <;> with_reducible rfl
        simp only [Act.put, List.getElem_toArray, List.getElem_cons_zero, List.getElem_cons_succ, List.setIfInBounds_toArray, List.set_cons_zero, List.set_cons_succ]
        refine anyL_take (i := 4) (v := ?vq4) rfl (by kernel_rfl) (by kernel_rfl) (by kernel_rfl) (by kernel_rfl) (fun _ _ _ h => h) (Or.inl ⟨by rfl, ?hq4⟩) (S0) ?_
        case hq4 => (intro w hSw; (try dsimp only at hSw); go_simp) <;> with_reducible rfl
        simp only [Act.put, List.getElem_toArray, List.getElem_cons_zero, List.getElem_cons_succ, List.setIfInBounds_toArray, List.set_cons_zero, List.set_cons_succ]
        refine anyL_take (i := 5) (v := ?vq5) rfl (by kernel_rfl) (by kernel_rfl) (by kernel_rfl) (by kernel_rfl) (fun _ _ _ h => h) (Or.inl ⟨by rfl, ?hq5⟩) (S0) ?_
        case hq5 => (intro w hSw; (try dsimp only at hSw); go_simp) <;> with_reducible rfl
        simp only [Act.put, List.getElem_toArray, List.getElem_cons_zero, List.getElem_cons_succ, List.setIfInBounds_toArray, List.set_cons_zero, List.set_cons_succ]
        refine anyL_take (i := 6) (v := ?vq6) rfl (by kernel_rfl) (by kernel_rfl) (by kernel_rfl) (by kernel_rfl) (fun _ _ _ h => h) (Or.inl ⟨by rfl, ?hq6⟩) (S0) ?_
        case hq6 => (intro w hSw; (try dsimp only at hSw); go_simp) <;> with_reducible rfl
        simp only [Act.put, List.getElem_toArray, List.getElem_cons_zero, List.getElem_cons_succ, List.setIfInBounds_toArray, List.set_cons_zero, List.set_cons_succ]
        refine anyL_take (i := 7) (v := ?vq7) rfl (by kernel_rfl) (by kernel_rfl) (by kernel_rfl) (by kernel_rfl) (fun _ _ _ h => h) (Or.inl ⟨by rfl, ?hq7⟩) (S0) ?_
        case hq7 => (intro w hSw; (try dsimp only at hSw); go_simp) <;> with_reducible rfl
        simp only [Act.put, List.getElem_toArray, List.getElem_cons_zero, List.getElem_cons_succ, List.setIfInBounds_toArray, List.set_cons_zero, List.set_cons_succ]
        refine anyL_take (i := 8) (v := ?vq8) rfl (by kernel_rfl) (by kernel_rfl) (by kernel_rfl) (by kernel_rfl) (fun _ _ _ h => h) (Or.inl ⟨by rfl, ?hq8⟩) (S0) ?_
        case hq8 => (intro w hSw; (try dsimp only at hSw); go_simp) <;> with_reducible rfl
        simp only [Act.put, List.getElem_toArray, List.getElem_cons_zero, List.getElem_cons_succ, List.setIfInBounds_toArray, List.set_cons_zero, List.set_cons_succ]
        refine anyL_take (i := 9) (v := ?vq9) rfl (by kernel_rfl) (by kernel_rfl) (by kernel_rfl) (by kernel_rfl) (fun _ _ _ h => h) (Or.inl ⟨by rfl, ?hq9⟩) (S0) ?_
        case hq9 => (intro w hSw; (try dsimp only at hSw); go_simp) <;> with_reducible rfl
        simp only [Act.put, List.getElem_toArray, List.getElem_cons_zero, List.getElem_cons_succ, List.setIfInBounds_toArray, List.set_cons_zero, List.set_cons_succ]
        refine anyL_take (i := 10) (v := ?vq10) rfl (by kernel_rfl) (by kernel_rfl) (by kernel_rfl) (by kernel_rfl) (fun _ _ _ h => h) (Or.inl ⟨by rfl, ?hq10⟩) (S0) ?_
        case hq10 => (intro w hSw; (try dsimp only at hSw); go_simp) <;> with_reducible rfl
        simp only [Act.put, List.getElem_toArray, List.getElem_cons_zero, List.getElem_cons_succ, List.setIfInBounds_toArray, List.set_cons_zero, List.set_cons_succ]
        refine anyL_take (i := 11) (v := ?vq11) rfl (by kernel_rfl) (by kernel_rfl) (by kernel_rfl) (by kernel_rfl) (fun _ _ _ h => h) (Or.inl ⟨by rfl, ?hq11⟩) (S0) ?_
        case hq11 => (intro w hSw; (try dsimp only at hSw); go_simp) <;> with_reducible rfl
        simp only [Act.put, List.getElem_toArray, List.getElem_cons_zero, List.getElem_cons_succ, List.setIfInBounds_toArray, List.set_cons_zero, List.set_cons_succ]
        refine anyL_take (i := 12) (v := ?vq12) rfl (by kernel_rfl) (by kernel_rfl) (by kernel_rfl) (by kernel_rfl) (fun _ _ _ h => h) (Or.inl ⟨by rfl, ?hq12⟩) (S0) ?_
        case hq12 => (intro w hSw; (try dsimp only at hSw); go_simp) <;> with_reducible rfl
        simp only [Act.put, List.getElem_toArray, List.getElem_cons_zero, List.getElem_cons_succ, List.setIfInBounds_toArray, List.set_cons_zero, List.set_cons_succ]
        refine anyL_take (i := 13) (v := ?vq13) rfl (by kernel_rfl) (by kernel_rfl) (by kernel_rfl) (by kernel_rfl) (fun _ _ _ h => h) (Or.inl ⟨by rfl, ?hq13⟩) (S0) ?_
        case hq13 => (intro w hSw; (try dsimp only at hSw); go_simp) <;> with_reducible rfl
        simp only [Act.put, List.getElem_toArray, List.getElem_cons_zero, List.getElem_cons_succ, List.setIfInBounds_toArray, List.set_cons_zero, List.set_cons_succ]
        refine anyL_ready (rs := [14]) (by kernel_rfl) (by simp) ?_
        refine AllL.cons rfl (fun K hK => ?_) AllL.nil
        go_simp
        refine unhide hK _ _ (fun _ => S1) ?_
        clear hK K
        refine anyL_ready (rs := [15]) (by kernel_rfl) (by simp) ?_
        refine AllL.cons rfl (fun K hK => ?_) AllL.nil
        refine step_append_knownT rfl _ _ 67 67 rfl _ _ rfl rfl _ _ (unhide R1) ?_
        go_simp
        refine unhide hK _ _ (fun _ => S2) ?_
        clear hK K
        refine anyL_take (i := 16) (v := ?vq14) rfl (by kernel_rfl) (by kernel_rfl) (by kernel_rfl) (by kernel_rfl) (fun _ _ _ h => h) (Or.inl ⟨by rfl, ?hq14⟩) (S2) ?_
        case hq14 => (intro w hSw; (try dsimp only at hSw); go_simp) <;> with_reducible rfl
        simp only [Act.put, List.getElem_toArray, List.getElem_cons_zero, List.getElem_cons_succ, List.setIfInBounds_toArray, List.set_cons_zero, List.set_cons_succ]
        refine anyL_done (by kernel_rfl) ?_ _
        go_wp2_with fail
        clear S0 S1 S2
        go_quiet (fail)
        go_wp2_with fail
        go_roundw
        case rel => exact ⟨⟨_, rfl⟩, ⟨_, rfl⟩, k + 1, by go_num, h1, unhide HE6, unhide HE7, hide ⟨(unhide HNI).b.trans (bdrN (Below.refl _ _) _), rowD_below (unhide HNI).r (bdrN (Below.refl _ _) _) (Nat.le_refl _)⟩⟩
        case measure => simp [intOf]; omega
      by_cases hjq : j < q
      · have hch : i < p ∨ j < q := .inr hjq
        have tA : decide ((i : Int) < (p : Int)) = false := decide_eq_false (by omega)
        have tB : decide ((j : Int) < (q : Int)) = true := decide_eq_true (by omega)
        have HNC := hide (unhide HCT hch)
        clear HCT HCF hch
        go_wp2_with fail
        go_quiet (fail)
        have hvs : (v0.drewN nq).drew.heap = v0.heap := drewN_heap v0 nq
        have w0 := unhide HW0 (v0.drewN nq).drew (bdrN (Below.refl _ v0) nq).drew
        generalize v0.drewN nq = v1 at *
        have S0 := unhide HS0 v1.drew hvs
        obtain ⟨G, cG, W', r1, o1, gr1, y1'⟩ := push_ch v1.drew w3.heap.size cs.length u5 (opsV cs) (lo2 : Int) (hi2 : Int) (strOfNums tx) 67 w0.2 (by clear f1 t1; omega) (by have := w0.1.size; omega)
        have S1 := S0
        have hal : ∀ {g o : Nat} {x : Value}, v1.drew.cell? ⟨g, o, none⟩ = some x → (v1.drew.alloc (.cells #[.int .i64 (lo2 : Int), .int .i64 (hi2 : Int), .string (strOfNums tx)] 71)).cell? ⟨g, o, none⟩ = some x := fun h => (World.cell?_of_block (a := ⟨_, _, none⟩) (heap_alloc_old _ _ (cell_lt h))).trans h
        have hcl2 : ∀ {g o : Nat} {x : Value}, ¬ u5.ownBlock = some g → v1.drew.cell? ⟨g, o, none⟩ = some x → W'.cell? ⟨g, o, none⟩ = some x := fun hn h => (World.cell?_of_block (a := ⟨_, _, none⟩) (gr1.block _ (cell_lt h) (fun e => hn e.symm))).trans h
        have S1 := And.intro (hal S0.1) (And.intro (hal S0.2.1) (And.intro (hal S0.2.2.1) (hal S0.2.2.2)))
        have S2 := And.intro (hcl2 (unhide HNE).1 S0.1) (And.intro (hcl2 (unhide HNE).2.1 S0.2.1) (And.intro (hcl2 (unhide HNE).2.2 S0.2.2.1) (hcl2 (unhide HNE).2.2 S0.2.2.2)))
        have D0 := hcl2 (unhide HNE).2.1 ((World.cell?_of_block (a := ⟨gb, 0, none⟩) (by rw [hvs])).trans d0)
        have D1 := hcl2 (unhide HNE).2.1 ((World.cell?_of_block (a := ⟨gb, 1, none⟩) (by rw [hvs])).trans d1)
        have D2 := hcl2 (unhide HNE).2.1 ((World.cell?_of_block (a := ⟨gb, 2, none⟩) (by rw [hvs])).trans d2)
        have R1 := hide r1
        have HNI : Hid (ChI w3 W' (chsR xc yc m ((runsL nx ny).take (k + 1))).2.2 (.slice (some ⟨G, 0, none⟩) (cs.length + 1) cG)) := hide (by
          rw [unhide HNC]
          refine ⟨w0.1.trans y1', ?_⟩
          rw [List.length_append, List.length_singleton, opsV_app, opsV_one]
          exact o1)
        clear r1 o1 gr1 y1' w0 hal hcl2 hvs d0 d1 d2 KC
        go_wp2_with fail
        refine regionL (S := fun w' => w'.cell? ⟨g2, 1, none⟩ = some (.slice (some ⟨ga, offa, none⟩) xc.length c1) ∧ w'.cell? ⟨gb, 0, none⟩ = some (.int .i64 (p : Int)) ∧ w'.cell? ⟨ga, offa + i, none⟩ = some (.int .i64 (lo2 : Int)) ∧ w'.cell? ⟨ga, offa + p, none⟩ = some (.int .i64 (hi2 : Int))) (fun _ => false) (by kernel_rfl) ?_
        generalize v1.drew = v2 at *
        refine anyL_take (i := 0) (v := ?vq15) rfl (by kernel_rfl) (by kernel_rfl) (by kernel_rfl) (by kernel_rfl) (fun _ _ _ h => h) (Or.inl ⟨by rfl, ?hq15⟩) (S0) ?_
        case hq15 => (intro w hSw; (try dsimp only at hSw); go_simp) <;> with_reducible rfl
        simp only [Act.put, List.getElem_toArray, List.getElem_cons_zero, List.setIfInBounds_toArray, List.set_cons_zero, List.set_cons_succ]
        refine anyL_take (i := 1) (v := ?vq16) rfl (by kernel_rfl) (by kernel_rfl) (by kernel_rfl) (by kernel_rfl) (fun _ _ _ h => h) (Or.inl ⟨by rfl, ?hq16⟩) (S0) ?_
        case hq16 => (intro w hSw; (try dsimp only at hSw); go_simp) <;> with_reducible rfl
        simp only [Act.put, List.getElem_toArray, List.getElem_cons_zero, List.getElem_cons_succ, List.setIfInBounds_toArray, List.set_cons_zero, List.set_cons_succ]
        refine anyL_take (i := 2) (v := ?vq17) rfl (by kernel_rfl) (by kernel_rfl) (by kernel_rfl) (by kernel_rfl) (fun _ _ _ h => h) (Or.inl ⟨by rfl, ?hq17⟩) (S0) ?_
        case hq17 => (intro w hSw; (try dsimp only at hSw); go_simp) <;> with_reducible rfl
        simp only [Act.put, List.getElem_toArray, List.getElem_cons_zero, List.getElem_cons_succ, List.setIfInBounds_toArray, List.set_cons_zero, List.set_cons_succ]
        refine anyL_take (i := 3) (v := ?vq18) rfl (by kernel_rfl) (by kernel_rfl) (by kernel_rfl) (by kernel_rfl) (fun _ _ _ h => h) (Or.inl ⟨by rfl, ?hq18⟩) (S0) ?_
        case hq18 => (intro w hSw; (try dsimp only at hSw); go_simp) <;> with_reducible rfl
        simp only [Act.put, List.getElem_toArray, List.getElem_cons_zero, List.getElem_cons_succ, List.setIfInBounds_toArray, List.set_cons_zero, List.set_cons_succ]
        refine anyL_take (i := 4) (v := ?vq19) rfl (by kernel_rfl) (by kernel_rfl) (by kernel_rfl) (by kernel_rfl) (fun _ _ _ h => h) (Or.inl ⟨by rfl, ?hq19⟩) (S0) ?_
        case hq19 => (intro w hSw; (try dsimp only at hSw); go_simp) <;> with_reducible rfl
        simp only [Act.put, List.getElem_toArray, List.getElem_cons_zero, List.getElem_cons_succ, List.setIfInBounds_toArray, List.set_cons_zero, List.set_cons_succ]
        refine anyL_take (i := 5) (v := ?vq20) rfl (by kernel_rfl) (by kernel_rfl) (by kernel_rfl) (by kernel_rfl) (fun _ _ _ h => h) (Or.inl ⟨by rfl, ?hq20⟩) (S0) ?_
        case hq20 => (intro w hSw; (try dsimp only at hSw); go_simp) <;> with_reducible rfl
        simp only [Act.put, List.getElem_toArray, List.getElem_cons_zero, List.getElem_cons_succ, List.setIfInBounds_toArray, List.set_cons_zero, List.set_cons_succ]
        refine anyL_take (i := 6) (v := ?vq21) rfl (by kernel_rfl) (by kernel_rfl) (by kernel_rfl) (by kernel_rfl) (fun _ _ _ h => h) (Or.inl ⟨by rfl, ?hq21⟩) (S0) ?_
        case hq21 => (intro w hSw; (try dsimp only at hSw); go_simp) <;> with_reducible rfl
        simp only [Act.put, List.getElem_toArray, List.getElem_cons_zero, List.getElem_cons_succ, List.setIfInBounds_toArray, List.set_cons_zero, List.set_cons_succ]
        refine anyL_take (i := 7) (v := ?vq22) rfl (by kernel_rfl) (by kernel_rfl) (by kernel_rfl) (by kernel_rfl) (fun _ _ _ h => h) (Or.inl ⟨by rfl, ?hq22⟩) (S0) ?_
        case hq22 => (intro w hSw; (try dsimp only at hSw); go_simp) <;> with_reducible rfl
        simp only [Act.put, List.getElem_toArray, List.getElem_cons_zero, List.getElem_cons_succ, List.setIfInBounds_toArray, List.set_cons_zero, List.set_cons_succ]
        refine anyL_take (i := 8) (v := ?vq23) rfl (by kernel_rfl) (by kernel_rfl) (by kernel_rfl) (by kernel_rfl) (fun _ _ _ h => h) (Or.inl ⟨by rfl, ?hq23⟩) (S0) ?_
        case hq23 => (intro w hSw; (try dsimp only at hSw); go_simp) <;> with_reducible rfl
        simp only [Act.put, List.getElem_toArray, List.getElem_cons_zero, List.getElem_cons_succ, List.setIfInBounds_toArray, List.set_cons_zero, List.set_cons_succ]
        refine anyL_take (i := 9) (v := ?vq24) rfl (by kernel_rfl) (by kernel_rfl) (by kernel_rfl) (by kernel_rfl) (fun _ _ _ h => h) (Or.inl ⟨by rfl, ?hq24⟩) (S0) ?_
        case hq24 => (intro w hSw; (try dsimp only at hSw); go_simp) <;> with_reducible rfl
        simp only [Act.put, List.getElem_toArray, List.getElem_cons_zero, List.getElem_cons_succ, List.setIfInBounds_toArray, List.set_cons_zero, List.set_cons_succ]
        refine anyL_take (i := 10) (v := ?vq25) rfl (by kernel_rfl) (by kernel_rfl) (by kernel_rfl) (by kernel_rfl) (fun _ _ _ h => h) (Or.inl ⟨by rfl, ?hq25⟩) (S0) ?_
        case hq25 => (intro w hSw; (try dsimp only at hSw); go_simp) <;> with_reducible rfl
        simp only [Act.put, List.getElem_toArray, List.getElem_cons_zero, List.getElem_cons_succ, List.setIfInBounds_toArray, List.set_cons_zero, List.set_cons_succ]
        refine anyL_take (i := 11) (v := ?vq26) rfl (by kernel_rfl) (by kernel_rfl) (by kernel_rfl) (by kernel_rfl) (fun _ _ _ h => h) (Or.inl ⟨by rfl, ?hq26⟩) (S0) ?_
        case hq26 => (intro w hSw; (try dsimp only at hSw); go_simp) <;> with_reducible rfl
        simp only [Act.put, List.getElem_toArray, List.getElem_cons_zero, List.getElem_cons_succ, List.setIfInBounds_toArray, List.set_cons_zero, List.set_cons_succ]
        refine anyL_take (i := 12) (v := ?vq27) rfl (by kernel_rfl) (by kernel_rfl) (by kernel_rfl) (by kernel_rfl) (fun _ _ _ h => h) (Or.inl ⟨by rfl, ?hq27⟩) (S0) ?_
        case hq27 => (intro w hSw; (try dsimp only at hSw); go_simp) <;> with_reducible rfl
        simp only [Act.put, List.getElem_toArray, List.getElem_cons_zero, List.getElem_cons_succ, List.setIfInBounds_toArray, List.set_cons_zero, List.set_cons_succ]
        refine anyL_take (i := 13) (v := ?vq28) rfl (by kernel_rfl) (by kernel_rfl) (by kernel_rfl) (by kernel_rfl) (fun _ _ _ h => h) (Or.inl ⟨by rfl, ?hq28⟩) (S0) ?_
        case hq28 => (intro w hSw; (try dsimp only at hSw); go_simp) <;> with_reducible rfl
        simp only [Act.put, List.getElem_toArray, List.getElem_cons_zero, List.getElem_cons_succ, List.setIfInBounds_toArray, List.set_cons_zero, List.set_cons_succ]
        refine anyL_ready (rs := [14]) (by kernel_rfl) (by simp) ?_
        refine AllL.cons rfl (fun K hK => ?_) AllL.nil
        go_simp
        refine unhide hK _ _ (fun _ => S1) ?_
        clear hK K
        refine anyL_ready (rs := [15]) (by kernel_rfl) (by simp) ?_
        refine AllL.cons rfl (fun K hK => ?_) AllL.nil
        refine step_append_knownT rfl _ _ 67 67 rfl _ _ rfl rfl _ _ (unhide R1) ?_
        go_simp
        refine unhide hK _ _ (fun _ => S2) ?_
        clear hK K
        refine anyL_take (i := 16) (v := ?vq29) rfl (by kernel_rfl) (by kernel_rfl) (by kernel_rfl) (by kernel_rfl) (fun _ _ _ h => h) (Or.inl ⟨by rfl, ?hq29⟩) (S2) ?_
        case hq29 => (intro w hSw; (try dsimp only at hSw); go_simp) <;> with_reducible rfl
        simp only [Act.put, List.getElem_toArray, List.getElem_cons_zero, List.getElem_cons_succ, List.setIfInBounds_toArray, List.set_cons_zero, List.set_cons_succ]
        refine anyL_done (by kernel_rfl) ?_ _
        go_wp2_with fail
        clear S0 S1 S2
        go_quiet (fail)
        go_wp2_with fail
        go_roundw
        case rel => exact ⟨⟨_, rfl⟩, ⟨_, rfl⟩, k + 1, by go_num, h1, unhide HE6, unhide HE7, hide ⟨(unhide HNI).b.trans (bdrN (Below.refl _ _) _), rowD_below (unhide HNI).r (bdrN (Below.refl _ _) _) (Nat.le_refl _)⟩⟩
        case measure => simp [intOf]; omega
      have hch : ¬ (i < p ∨ j < q) := by omega
      have tA : decide ((i : Int) < (p : Int)) = false := decide_eq_false (by omega)
      have tB : decide ((j : Int) < (q : Int)) = false := decide_eq_false (by omega)
      have hcf := unhide HCF hch
      have w0 := unhide HW0 v0 (Below.refl _ _)
      have HNI : Hid (ChI w3 v0 (chsR xc yc m ((runsL nx ny).take (k + 1))).2.2 u5) := hide (by rw [hcf]; exact ⟨w0.1, w0.2⟩)
      clear HCF HCT HW0 HS0 KC hcf w0 hch
      go_wp2_with fail
      go_quiet (fail)
      go_wp2_with fail
      go_roundw
      case rel => exact ⟨⟨_, rfl⟩, ⟨_, rfl⟩, k + 1, by go_num, h1, unhide HE6, unhide HE7, hide ⟨(unhide HNI).b.trans (bdrN (Below.refl _ _) _), rowD_below (unhide HNI).r (bdrN (Below.refl _ _) _) (Nat.le_refl _)⟩⟩
      case measure => simp [intOf]; omega
    · have t1 : decide ((k : Int) < ((runsL nx ny).length : Int)) = false := decide_eq_false (by omega)
      have HE := hide (unhide HI2)
      rw [List.take_of_length_le (by omega)] at HE
      clear HI2
      go_wp2_with fail
      refine bodyPost_ret (results_tmp rfl _ _ _) rfl ⟨u5, rfl, (unhide HB3).trans ((unhide HE).b.mono (unhide HS)), row_baseS (unhide HE).r (unhide HS)⟩
end Go.Proofs.YtkdnanlgkedjgaaDoor
end

section
namespace Go.Proofs.YtkdnanlgkedjgaaDoor

section
variable (l m : List Int) (xc yc : List Nat)
/-- a delta of whole pieces, from piece i of the one and piece j of the other on; N of its pieces are put or dropped -/
def PcS : Nat → Nat → Nat → List Dop → Prop
  | i, j, N, [] => i + 1 = xc.length ∧ j + 1 = yc.length ∧ N = 0
  | i, j, N, o :: r =>
    (o.k = 1 ∧ o.t = [] ∧ ∃ n, 0 < n ∧ i + n < xc.length ∧ j + n < yc.length ∧ o.n = ((xc.getD (i + n) 0 - xc.getD i 0 : Nat) : Int) ∧ subL l (xc.getD i 0) (xc.getD (i + n) 0) = subL m (yc.getD j 0) (yc.getD (j + n) 0) ∧ PcS (i + n) (j + n) N r) ∨
    (o.k = 2 ∧ o.n = 0 ∧ ∃ n M, 0 < n ∧ j + n < yc.length ∧ o.t = subL m (yc.getD j 0) (yc.getD (j + n) 0) ∧ N = n + M ∧ PcS i (j + n) M r) ∨
    (o.k = 3 ∧ o.t = [] ∧ ∃ n M, 0 < n ∧ i + n < xc.length ∧ o.n = ((xc.getD (i + n) 0 - xc.getD i 0 : Nat) : Int) ∧ N = n + M ∧ PcS (i + n) j M r)
def kpO' (a b : Nat) : List Dop := if a < b then [⟨1, ((b - a : Nat) : Int), []⟩] else []
def ptO' (t : List Int) : List Dop := if t = [] then [] else [⟨2, 0, t⟩]
def drO' (a b : Nat) : List Dop := if a < b then [⟨3, ((b - a : Nat) : Int), []⟩] else []
/-- the operations of some runs; what is kept since piece i0 waits -/
def opsN : Nat → Nat → Nat → List (Nat × Nat × Nat) → List Dop
  | i0, i, _, [] => kpO' (xc.getD i0 0) (xc.getD i 0)
  | i0, i, j, (p, q, n) :: r =>
    if i < p ∨ j < q then kpO' (xc.getD i0 0) (xc.getD i 0) ++ (ptO' (subL m (yc.getD j 0) (yc.getD q 0)) ++ (drO' (xc.getD i 0) (xc.getD p 0) ++ opsN p (p + n) (q + n) r)) else opsN i0 (p + n) (q + n) r
/-- the changes of some runs -/
def chsN : Nat → Nat → List (Nat × Nat × Nat) → List Dop
  | _, _, [] => []
  | i, j, (p, q, n) :: r => (if i < p ∨ j < q then [⟨(xc.getD i 0 : Int), (xc.getD p 0 : Int), subL m (yc.getD j 0) (yc.getD q 0)⟩] else []) ++ chsN (p + n) (q + n) r
end
variable {l m : List Int} {xc yc : List Nat}
theorem chsN_is : ∀ (L : List (Nat × Nat × Nat)) (i j : Nat) (A : List Dop), (L.foldl (chR xc yc m) (i, j, A)).2.2 = A ++ chsN m xc yc i j L
  | [], _, _, A => by simp [chsN]
  | (p, q, n) :: r, i, j, A => by
    rw [List.foldl_cons]
    have := chsN_is r (p + n) (q + n) (chR xc yc m (i, j, A) (p, q, n)).2.2
    simp only [chsN]
    rw [← List.append_assoc]
    exact this
theorem cutP_cnt {x : List Int} {cs : List Nat} (h : OkCut x cs) : (cutP x cs).length + 1 = cs.length := by
  have := cutP_len x cs
  have := h.pos
  omega
theorem dA_kp (a b : Nat) : dA (kpO' a b) = List.replicate (b - a) .k := by
  unfold kpO'
  split
  · simp [dA, opA]
  · rw [show b - a = 0 by omega]; rfl
theorem dA_dr (a b : Nat) : dA (drO' a b) = List.replicate (b - a) .d := by
  unfold drO'
  split
  · simp [dA, opA]
  · rw [show b - a = 0 by omega]; rfl
theorem dA_pt (t : List Int) : dA (ptO' t) = t.map .p := by
  unfold ptO'
  split
  · rename_i h; rw [h]; rfl
  · simp [dA, opA]
theorem opA_k (a : Int) (n : Nat) (h : a = n) : opA ⟨1, a, []⟩ = List.replicate n .k := by subst h; simp [opA]
theorem opA_d (a : Int) (n : Nat) (h : a = n) : opA ⟨3, a, []⟩ = List.replicate n .d := by subst h; simp [opA]
/-- the changes' operations, atom by atom -/
theorem opsN_atoms (hx : OkCut l xc) (hy : OkCut m yc) : ∀ (L : List (Nat × Nat × Nat)) (i0 i j : Nat), RunOk (cutP l xc) (cutP m yc) i j L → i0 ≤ i → i < xc.length →
    dA (opC (xc.getD i0 0 : Int) (chsN m xc yc i j L) ++ [⟨1, (l.length : Int) - lstC (xc.getD i0 0 : Int) (chsN m xc yc i j L), []⟩]) = dA (opsN m xc yc i0 i j L)
  | [], i0, i, j, h, h0, hi => by
    have e := cutP_cnt hx
    have hl := hx.last
    have hm := hx.le h0 hi
    simp only [chsN, opC, lstC, opsN, List.nil_append]
    rw [show i = xc.length - 1 by have := h.1; omega, hl, dA_kp]
    rw [show i = xc.length - 1 by have := h.1; omega, hl] at hm
    simp [dA, opA]
  | (p, q, n) :: r, i0, i, j, h, h0, hi => by
    obtain ⟨h1, h2, h3, h4, _, h6⟩ := h
    have e := cutP_cnt hx
    have hm := hx.le h0 hi
    have hm2 := hx.le h1 (show p < xc.length by omega)
    simp only [chsN, opsN]
    by_cases g : i < p ∨ j < q
    · rw [if_pos g, if_pos g]
      have ih := opsN_atoms hx hy r p (p + n) (q + n) h6 (by omega) (by omega)
      simp only [List.cons_append, List.nil_append, opC, lstC, dA_cons, dA_app, dA_kp, dA_pt, dA_dr] at ih ⊢
      rw [opA_k _ (xc.getD i 0 - xc.getD i0 0) (by omega), opA_d _ (xc.getD p 0 - xc.getD i 0) (by omega), ← ih]
      simp [opA]
    · rw [if_neg g, if_neg g]
      exact opsN_atoms hx hy r i0 (p + n) (q + n) h6 (by omega) (by omega)
theorem chn_app2 : ∀ (d e : List Dop), Chn d → Chn e → (∀ x y, d.getLast? = some x → e.head? = some y → okN x.k y.k) → Chn (d ++ e)
  | [], _, _, h, _ => h
  | [a], [], _, _, _ => trivial
  | [a], b :: e, _, h, g => ⟨g a b rfl rfl, h⟩
  | a :: b :: d, e, h, h', g => ⟨h.1, chn_app2 (b :: d) e h.2 h' fun x y hx hy => g x y (by rw [List.getLast?_cons_cons]; exact hx) hy⟩
/-- kinds that may follow one another, the first behind q -/
def ChK : Int → List Dop → Prop
  | _, [] => True
  | q, o :: r => okN q o.k ∧ ChK o.k r
theorem chK_chn : ∀ (d : List Dop) (q : Int), ChK q d → Chn d
  | [], _, _ => trivial
  | [_], _, _ => trivial
  | a :: b :: r, _, h => ⟨h.2.1, chK_chn (b :: r) a.k h.2⟩
theorem sub_pos {x : List Int} {cs : List Nat} (h : OkCut x cs) {i j : Nat} (hij : i < j) (hj : j < cs.length) : subL x (cs.getD i 0) (cs.getD j 0) ≠ [] := by
  have h1 := h.mono hij hj
  have h2 := h.at_le hj
  unfold subL
  intro e
  have := congrArg List.length e
  rw [List.length_take, List.length_drop, List.length_nil] at this
  omega
theorem opsN_can (hx : OkCut l xc) (hy : OkCut m yc) : ∀ (L : List (Nat × Nat × Nat)) (i0 i j : Nat) (q0 : Int), RunOk (cutP l xc) (cutP m yc) i j L → i0 ≤ i → i < xc.length → (q0 = 0 ∨ ((q0 = 2 ∨ q0 = 3) ∧ (i0 < i ∨ L = []))) → (∀ p ∈ L.dropLast, 0 < p.2.2) →
    (∀ o ∈ opsN m xc yc i0 i j L, Pln o) ∧ ChK q0 (opsN m xc yc i0 i j L)
  | [], i0, i, j, q0, h, h0, hi, hq, _ => by
    simp only [opsN, kpO']
    split
    · refine ⟨fun o ho => ?_, ?_, trivial⟩
      · rw [List.mem_singleton] at ho; subst ho; refine .inl ⟨.inl rfl, ?_, rfl⟩; show (1 : Int) ≤ ((xc.getD i 0 - xc.getD i0 0 : Nat) : Int); omega
      · show okN q0 1
        unfold okN
        rcases hq with rfl | ⟨rfl | rfl, _⟩ <;> decide
    · exact ⟨fun o ho => by simp at ho, trivial⟩
  | (p, q, n) :: r, i0, i, j, q0, h, h0, hi, hq, hn => by
    obtain ⟨h1, h2, h3, h4, _, h6⟩ := h
    have e := cutP_cnt hx
    have e' := cutP_cnt hy
    have hr : ∀ p ∈ r.dropLast, 0 < p.2.2 := fun x hx => hn x (by cases r with | nil => simp at hx | cons a r => rw [List.dropLast_cons_of_ne_nil (by simp)]; simp [hx])
    have hnr : 0 < n ∨ r = [] := by
      cases r with
      | nil => exact .inr rfl
      | cons a r => exact .inl (hn (p, q, n) (by rw [List.dropLast_cons_of_ne_nil (by simp)]; simp))
    simp only [opsN]
    by_cases g : i < p ∨ j < q
    · rw [if_pos g]
      have nxt : (p < p + n ∨ r = []) := hnr.imp (fun g => by omega) id
      have ih2 := opsN_can hx hy r p (p + n) (q + n) 2 h6 (by omega) (by omega) (.inr ⟨.inl rfl, nxt⟩) hr
      have ih3 := opsN_can hx hy r p (p + n) (q + n) 3 h6 (by omega) (by omega) (.inr ⟨.inr rfl, nxt⟩) hr
      have hk : (kpO' (xc.getD i0 0) (xc.getD i 0) = [] ∧ q0 = 0) ∨ ∃ z : Nat, 1 ≤ z ∧ kpO' (xc.getD i0 0) (xc.getD i 0) = [⟨1, z, []⟩] := by
        unfold kpO'
        by_cases c : xc.getD i0 0 < xc.getD i 0
        · rw [if_pos c]; exact .inr ⟨_, by omega, rfl⟩
        · rw [if_neg c]
          refine .inl ⟨rfl, ?_⟩
          rcases hq with rfl | ⟨_, g2 | g2⟩
          · rfl
          · exact absurd (hx.mono g2 hi) c
          · cases g2
      have hp : (j < q ∧ ∃ t, t ≠ [] ∧ ptO' (subL m (yc.getD j 0) (yc.getD q 0)) = [⟨2, 0, t⟩]) ∨ (i < p ∧ ptO' (subL m (yc.getD j 0) (yc.getD q 0)) = []) := by
        by_cases c : j < q
        · have := sub_pos hy c (by omega)
          exact .inl ⟨c, _, this, by unfold ptO'; rw [if_neg this]⟩
        · refine .inr ⟨by omega, ?_⟩
          rw [show q = j by omega, subL_no]; rfl
      have hd : (∃ z : Nat, 1 ≤ z ∧ drO' (xc.getD i 0) (xc.getD p 0) = [⟨3, z, []⟩]) ∨ (¬ i < p ∧ drO' (xc.getD i 0) (xc.getD p 0) = []) := by
        unfold drO'
        by_cases c : i < p
        · have := hx.mono c (by omega)
          rw [if_pos this]; exact .inl ⟨_, by omega, rfl⟩
        · rw [show p = i by omega, if_neg (by omega)]; exact .inr ⟨by omega, rfl⟩
      have q1 : okN q0 1 := by unfold okN; rcases hq with rfl | ⟨rfl | rfl, _⟩ <;> decide
      have P1 : ∀ z : Nat, 1 ≤ z → Pln ⟨1, (z : Int), []⟩ := fun z hz => .inl ⟨.inl rfl, by show (1 : Int) ≤ (z : Int); omega, rfl⟩
      have P3 : ∀ z : Nat, 1 ≤ z → Pln ⟨3, (z : Int), []⟩ := fun z hz => .inl ⟨.inr rfl, by show (1 : Int) ≤ (z : Int); omega, rfl⟩
      have P2 : ∀ t : List Int, t ≠ [] → Pln ⟨2, 0, t⟩ := fun t ht => .inr ⟨rfl, rfl, ht⟩
      have k02 : okN 0 2 := by unfold okN; decide
      have k03 : okN 0 3 := by unfold okN; decide
      have k12 : okN 1 2 := by unfold okN; decide
      have k13 : okN 1 3 := by unfold okN; decide
      have k23 : okN 2 3 := by unfold okN; decide
      rcases hk with ⟨k1, rfl⟩ | ⟨zk, hzk, k1⟩ <;> rcases hp with ⟨cj, t, ht, k2⟩ | ⟨ci, k2⟩ <;> rcases hd with ⟨zd, hzd, k3⟩ | ⟨cd, k3⟩ <;> rw [k1, k2, k3] <;> simp only [List.nil_append, List.cons_append]
      · exact ⟨by simpa using ⟨P2 t ht, P3 zd hzd, ih3.1⟩, k02, k23, ih3.2⟩
      · exact ⟨by simpa using ⟨P2 t ht, ih2.1⟩, k02, ih2.2⟩
      · exact ⟨by simpa using ⟨P3 zd hzd, ih3.1⟩, k03, ih3.2⟩
      · exact absurd ci cd
      · exact ⟨by simpa using ⟨P1 zk hzk, P2 t ht, P3 zd hzd, ih3.1⟩, q1, k12, k23, ih3.2⟩
      · exact ⟨by simpa using ⟨P1 zk hzk, P2 t ht, ih2.1⟩, q1, k12, ih2.2⟩
      · exact ⟨by simpa using ⟨P1 zk hzk, P3 zd hzd, ih3.1⟩, q1, k13, ih3.2⟩
      · exact absurd ci cd
    · rw [if_neg g]
      refine opsN_can hx hy r i0 (p + n) (q + n) q0 h6 (by omega) (by omega) ?_ hr
      rcases hq with g | ⟨g, g2 | g2⟩
      · exact .inl g
      · exact .inr ⟨g, .inl (by omega)⟩
      · cases g2
theorem opsN_pcs (hx : OkCut l xc) (hy : OkCut m yc) : ∀ (L : List (Nat × Nat × Nat)) (i j k : Nat), RunOk (cutP l xc) (cutP m yc) (i + k) (j + k) L → i + k < xc.length → j + k < yc.length → subL l (xc.getD i 0) (xc.getD (i + k) 0) = subL m (yc.getD j 0) (yc.getD (j + k) 0) →
    ∃ N, PcS l m xc yc i j N (opsN m xc yc i (i + k) (j + k) L) ∧ N + 2 * sumR L + (i + k) + (j + k) + 2 = xc.length + yc.length
  | [], i, j, k, h, hi, hj, he => by
    have e := cutP_cnt hx
    have e' := cutP_cnt hy
    have h1 := h.1
    have h2 := h.2
    refine ⟨0, ?_, by simp [sumR]; omega⟩
    simp only [opsN, kpO']
    by_cases c : k = 0
    · subst c
      rw [if_neg (by simp)]
      exact ⟨by omega, by omega, rfl⟩
    · have := hx.mono (show i < i + k by omega) hi
      rw [if_pos this]
      exact .inl ⟨rfl, rfl, k, by omega, hi, hj, rfl, he, by omega, by omega, rfl⟩
  | (p, q, n) :: r, i, j, k, h, hi, hj, he => by
    obtain ⟨h1, h2, h3, h4, h5, h6⟩ := h
    have e := cutP_cnt hx
    have e' := cutP_cnt hy
    have hsr : sumR ((p, q, n) :: r) = n + sumR r := by simp [sumR]
    have hpc : subL l (xc.getD p 0) (xc.getD (p + n) 0) = subL m (yc.getD q 0) (yc.getD (q + n) 0) := by
      have c1 := hx.cut (i := p) (j := p + n) (by omega) (by omega)
      have c2 := hy.cut (i := q) (j := q + n) (by omega) (by omega)
      rw [show p + n - p = n by omega] at c1
      rw [show q + n - q = n by omega] at c2
      unfold subL
      rw [← c1, ← c2, h5]
    simp only [opsN]
    by_cases g : i + k < p ∨ j + k < q
    · rw [if_pos g]
      obtain ⟨N, i1, i2⟩ := opsN_pcs hx hy r p q n h6 (by omega) (by omega) hpc
      refine ⟨(q - (j + k)) + ((p - (i + k)) + N), ?_, by rw [hsr]; omega⟩
      have s3 : PcS l m xc yc (i + k) q ((p - (i + k)) + N) (drO' (xc.getD (i + k) 0) (xc.getD p 0) ++ opsN m xc yc p (p + n) (q + n) r) := by
        unfold drO'
        by_cases c : i + k < p
        · have := hx.mono c (by omega)
          rw [if_pos this]
          exact .inr (.inr ⟨rfl, rfl, p - (i + k), N, by omega, by omega, by rw [show i + k + (p - (i + k)) = p by omega], rfl, by rw [show i + k + (p - (i + k)) = p by omega]; exact i1⟩)
        · have hp : p = i + k := by omega
          rw [if_neg (by rw [hp]; omega), List.nil_append]
          rw [show (p - (i + k)) + N = N by omega, ← hp]
          exact i1
      have s2 : PcS l m xc yc (i + k) (j + k) ((q - (j + k)) + ((p - (i + k)) + N)) (ptO' (subL m (yc.getD (j + k) 0) (yc.getD q 0)) ++ (drO' (xc.getD (i + k) 0) (xc.getD p 0) ++ opsN m xc yc p (p + n) (q + n) r)) := by
        unfold ptO'
        by_cases c : j + k < q
        · have := sub_pos hy c (by omega)
          rw [if_neg this]
          exact .inr (.inl ⟨rfl, rfl, q - (j + k), (p - (i + k)) + N, by omega, by omega, by rw [show j + k + (q - (j + k)) = q by omega], rfl, by rw [show j + k + (q - (j + k)) = q by omega]; exact s3⟩)
        · have hq : q = j + k := by omega
          rw [if_pos (by rw [hq, subL_no]), List.nil_append]
          rw [show (q - (j + k)) + ((p - (i + k)) + N) = (p - (i + k)) + N by omega, ← hq]
          exact s3
      unfold kpO'
      by_cases c : k = 0
      · subst c
        rw [if_neg (by simp), List.nil_append]
        exact s2
      · have := hx.mono (show i < i + k by omega) hi
        rw [if_pos this]
        exact .inl ⟨rfl, rfl, k, by omega, hi, hj, rfl, he, s2⟩
    · rw [if_neg g]
      have hp : p = i + k := by omega
      have hq : q = j + k := by omega
      subst hp hq
      have hcut : subL l (xc.getD i 0) (xc.getD (i + (k + n)) 0) = subL m (yc.getD j 0) (yc.getD (j + (k + n)) 0) := by
        have a1 := hx.le (show i ≤ i + k by omega) hi
        have a2 := hx.le (show i + k ≤ i + k + n by omega) (by omega)
        have b1 := hy.le (show j ≤ j + k by omega) hj
        have b2 := hy.le (show j + k ≤ j + k + n by omega) (by omega)
        have sp : ∀ (z : List Int) (a b c : Nat), a ≤ b → b ≤ c → subL z a c = subL z a b ++ subL z b c := fun z a b c h h' => by
          unfold subL
          rw [show c - a = (b - a) + (c - b) by omega, List.take_add, List.drop_drop, show a + (b - a) = b by omega]
        rw [← Nat.add_assoc, ← Nat.add_assoc, sp l _ _ _ a1 a2, sp m _ _ _ b1 b2, he, hpc]
      obtain ⟨N, i1, i2⟩ := opsN_pcs hx hy r i j (k + n) (by rw [← Nat.add_assoc, ← Nat.add_assoc]; exact h6) (by omega) (by omega) hcut
      refine ⟨N, by rw [← Nat.add_assoc, ← Nat.add_assoc] at i1; exact i1, by rw [hsr]; omega⟩
/-- the delta of the program's runs -/
def leastD (l m : List Int) (xc yc : List Nat) : List Dop := opsN m xc yc 0 0 0 (runsL (cutP l xc) (cutP m yc))
theorem least_is (hx : OkCut l xc) (hy : OkCut m yc) : (chsR xc yc m (runsL (cutP l xc) (cutP m yc))).2.2 = chsN m xc yc 0 0 (runsL (cutP l xc) (cutP m yc)) ∧ Can (leastD l m xc yc) ∧
    dA (opsC l.length (chsN m xc yc 0 0 (runsL (cutP l xc) (cutP m yc)))) = dA (leastD l m xc yc) ∧ ∃ N, PcS l m xc yc 0 0 N (leastD l m xc yc) ∧ N + 2 * lcs (cutP l xc) (cutP m yc) + 2 = xc.length + yc.length := by
  have hr := runs_ok (cutP l xc) (cutP m yc)
  have hp := hx.pos
  have hp' := hy.pos
  refine ⟨by have := chsN_is (m := m) (xc := xc) (yc := yc) (runsL (cutP l xc) (cutP m yc)) 0 0 []; simpa [chsR] using this, ?_, ?_, ?_⟩
  · obtain ⟨h, M, t, e1, e2⟩ := runs_some (cutP l xc) (cutP m yc)
    have hr' := hr
    unfold leastD
    rw [e1] at hr' ⊢
    have hlt : 0 + h < xc.length := by have := hr'.2.2.1; have := cutP_cnt hx; omega
    have := opsN_can hx hy (M ++ [t]) 0 (0 + h) (0 + h) 0 hr'.2.2.2.2.2 (by omega) hlt (.inl rfl) (fun p hp => by
      rw [List.dropLast_concat] at hp
      rw [e2 p hp]; exact Nat.one_pos)
    have e3 : opsN m xc yc 0 0 0 ((0, 0, h) :: (M ++ [t])) = opsN m xc yc 0 (0 + h) (0 + h) (M ++ [t]) := by
      rw [opsN, if_neg (by omega)]
    rw [e3]
    exact ⟨this.1, chK_chn _ _ this.2⟩
  · have := opsN_atoms hx hy (runsL (cutP l xc) (cutP m yc)) 0 0 0 hr (Nat.le_refl _) hp
    rw [hx.zero] at this
    exact this
  · obtain ⟨N, h1, h2⟩ := opsN_pcs hx hy (runsL (cutP l xc) (cutP m yc)) 0 0 0 hr hp hp' (by rw [subL_no, subL_no])
    rw [runs_sum] at h2
    exact ⟨N, h1, by omega⟩
end Go.Proofs.YtkdnanlgkedjgaaDoor
end

section
namespace Go.Proofs.YtkdnanlgkedjgaaDoor
open Go.ChangeShapes Go.WideShapes Go.ChangeAt Go.RowKit
attribute [local go_sem] Oper.semAt_some

/-- what is wrong with a change -/
def badC (n : Int) (c : Dop) : Prop := c.k < 0 ∨ c.k > c.n ∨ c.n > n
def crsC (cs : List Dop) (k : Nat) : Prop := (cs.getD (k + 1) opZ).k < (cs.getD k opZ).n
/-- the error that Of begins with -/
structure ErrC (n : Int) (cs : List Dop) (E : Int) : Prop where
  a : (n < 0 ∨ n > 268435456) → E = 2
  b : ¬ (n < 0 ∨ n > 268435456) → (∃ k, k < cs.length ∧ badC n (cs.getD k opZ)) → E = 2
  c : ¬ (n < 0 ∨ n > 268435456) → (∀ k, k < cs.length → ¬ badC n (cs.getD k opZ)) → (∃ k, k + 1 < cs.length ∧ crsC cs k) → E = 120
  d : ¬ (n < 0 ∨ n > 268435456) → (∀ k, k < cs.length → ¬ badC n (cs.getD k opZ)) → (∀ k, k + 1 < cs.length → ¬ crsC cs k) → E = 0
theorem errC_is (n : Int) (cs : List Dop) : ∃ E, ErrC n cs E := by
  by_cases h1 : n < 0 ∨ n > 268435456
  · exact ⟨2, fun _ => rfl, fun h => absurd h1 h, fun h => absurd h1 h, fun h => absurd h1 h⟩
  by_cases h2 : ∃ k, k < cs.length ∧ badC n (cs.getD k opZ)
  · obtain ⟨k, hk, hb⟩ := h2
    exact ⟨2, fun _ => rfl, fun _ _ => rfl, fun _ h => absurd hb (h k hk), fun _ h => absurd hb (h k hk)⟩
  by_cases h3 : ∃ k, k + 1 < cs.length ∧ crsC cs k
  · obtain ⟨k, hk, hb⟩ := h3
    exact ⟨120, fun h => absurd h h1, fun _ h => absurd h h2, fun _ _ _ => rfl, fun _ _ h => absurd hb (h k hk)⟩
  · exact ⟨0, fun h => absurd h h1, fun _ h => absurd h h2, fun _ _ h => absurd h h3, fun _ _ _ => rfl⟩
theorem errC_ok {n : Int} {cs : List Dop} {E : Int} (h : ErrC n cs E) : (E = 0 ∧ (0 ≤ n ∧ n ≤ 268435456) ∧ okL 0 cs n) ∨ (E ≠ 0) := by
  by_cases h1 : n < 0 ∨ n > 268435456
  · exact .inr (by rw [h.a h1]; decide)
  by_cases h2 : ∃ k, k < cs.length ∧ badC n (cs.getD k opZ)
  · exact .inr (by rw [h.b h1 h2]; decide)
  have h2' : ∀ k, k < cs.length → ¬ badC n (cs.getD k opZ) := fun k hk hb => h2 ⟨k, hk, hb⟩
  by_cases h3 : ∃ k, k + 1 < cs.length ∧ crsC cs k
  · exact .inr (by rw [h.c h1 h2' h3]; decide)
  · have h3' : ∀ k, k + 1 < cs.length → ¬ crsC cs k := fun k hk hb => h3 ⟨k, hk, hb⟩
    refine .inl ⟨h.d h1 h2' h3', by omega, okL_of cs 0 n (by omega) (fun c hc => ?_) (fun k hk => ?_) h3'⟩
    · cases cs with
      | nil => simp at hc
      | cons c' r =>
        simp only [List.head?_cons, Option.some.injEq] at hc
        subst hc
        have := h2' 0 (by simp)
        unfold badC at this
        simp at this
        omega
    · have := h2' k hk
      unfold badC at this
      omega
theorem last_arith' (j : Nat) {L : Nat} (hl : L ≤ 4398046511104) (h : j + 1 < L) : wrap64 (((j + 1 : Nat) : Int) - 1) = (j : Int) ∧ True := ⟨by rw [wrapD _ (by omega) (by omega)]; omega, trivial⟩
theorem bad_tests (n : Int) (c : Dop) : (badC n c ∧ (decide (c.k < 0) = true ∨ (decide (c.k < 0) = false ∧ decide (c.k > c.n) = true ∧ decide (c.n < c.k) = true) ∨ (decide (c.k < 0) = false ∧ decide (c.k > c.n) = false ∧ decide (c.n < c.k) = false ∧ decide (c.n > n) = true ∧ decide (n < c.n) = true))) ∨
    (¬ badC n c ∧ decide (c.k < 0) = false ∧ decide (c.k > c.n) = false ∧ decide (c.n < c.k) = false ∧ decide (c.n > n) = false ∧ decide (n < c.n) = false) := by
  unfold badC
  by_cases h1 : c.k < 0
  · exact .inl ⟨.inl h1, .inl (decide_eq_true h1)⟩
  by_cases h2 : c.k > c.n
  · exact .inl ⟨.inr (.inl h2), .inr (.inl ⟨decide_eq_false h1, decide_eq_true h2, decide_eq_true h2⟩)⟩
  by_cases h3 : c.n > n
  · exact .inl ⟨.inr (.inr h3), .inr (.inr ⟨decide_eq_false h1, decide_eq_false h2, decide_eq_false (by omega), decide_eq_true h3, decide_eq_true h3⟩)⟩
  · exact .inr ⟨by omega, decide_eq_false h1, decide_eq_false h2, decide_eq_false (by omega), decide_eq_false h3, decide_eq_false (by omega)⟩
set_option maxRecDepth 100000 in
set_option maxHeartbeats 4000000 in
theorem checked_at (a : Option Addr) (c : Nat) (n : Int) (cs : List Dop) (E : Int) (w : World) (h : IsO w a cs) (hl : cs.length ≤ 4398046511104) (hE : ErrC n cs E) :
    Calls Tryd.prog 62 #[.int .i64 n, .slice a cs.length c] w fun y w' => y = .returned (.int .i64 E) ∧ Below w.heap.size w w' := by
  have HO := hide fun (X : World) (hx : Below w.heap.size w X) => h.below hx (Nat.le_refl _)
  have HE := hide hE
  clear hE h
  by_cases hn1 : n < 0
  · have HV := hide ((unhide HE).a (.inl hn1))
    have t1 : decide (n < 0) = true := decide_eq_true hn1
    clear HE HO hn1
    go_enter Tryd.func62, Tryd.ntmps62
    go_wp2_with fail
    rw [unhide HV]
    refine bodyPost_ret (results_tmp rfl _ _ _) rfl ⟨rfl, Below.refl _ _⟩
  by_cases hn2 : n > 268435456
  · have HV := hide ((unhide HE).a (.inr hn2))
    have t1 : decide (n < 0) = false := decide_eq_false hn1
    have t2 : decide (n > 268435456) = true := decide_eq_true hn2
    have t3 : decide (268435456 < n) = true := decide_eq_true hn2
    clear HE HO hn1 hn2
    go_enter Tryd.func62, Tryd.ntmps62
    go_wp2_with fail
    rw [unhide HV]
    refine bodyPost_ret (results_tmp rfl _ _ _) rfl ⟨rfl, Below.refl _ _⟩
  have HEb := hide ((unhide HE).b (by omega))
  have HEc := hide ((unhide HE).c (by omega))
  have HEd := hide ((unhide HE).d (by omega))
  have t1 : decide (n < 0) = false := decide_eq_false hn1
  have t2 : decide (n > 268435456) = false := decide_eq_false hn2
  have t3 : decide (268435456 < n) = false := decide_eq_false hn2
  clear HE hn1 hn2
  go_enter Tryd.func62, Tryd.ntmps62
  go_wp2_with fail
  go_loopw [6, 16] (fun v6 v16 wx => (∃ z, v6 = z) ∧ (∃ k : Nat, v16 = .int .i64 (k : Int) ∧ k ≤ cs.length ∧ Hid ((∀ i, i < k → ¬ badC n (cs.getD i opZ)) ∧ Below w.heap.size w wx))) (fun _ v16 _ => cs.length - (intOf v16).toNat)
  case atStart => exact ⟨⟨_, rfl⟩, ⟨0, rfl, Nat.zero_le _, hide ⟨fun i hi => absurd hi (Nat.not_lt_zero i), Below.refl _ _⟩⟩⟩
  case round =>
    obtain ⟨⟨z1, rfl⟩, ⟨k, rfl, hk, HI⟩⟩ := hrel
    by_cases hlt : k < cs.length
    · have s1 : decide ((k : Int) < (cs.length : Int)) = true := decide_eq_true (by omega)
      obtain ⟨g, off, rfl, hg, c0, c1, c2⟩ := (unhide HO wr (unhide HI).2).three hlt
      have HT := hide (bad_tests n (cs.getD k opZ))
      have HN : Hid (¬ badC n (cs.getD k opZ) → ∀ i, i < k + 1 → ¬ badC n (cs.getD i opZ)) := hide fun h0 i hi => by
        rcases Nat.lt_or_ge i k with h | h
        · exact (unhide HI).1 i h
        · obtain rfl : i = k := by omega
          exact h0
      have HV : Hid (badC n (cs.getD k opZ) → E = 2) := hide fun h0 => unhide HEb ⟨k, hlt, h0⟩
      generalize cs.getD k opZ = x at *
      obtain ⟨xk, xn, xt⟩ := x
      dsimp only at c0 c1 c2 HT
      obtain ⟨d0, d1, d2⟩ := three_nwD wr (.int .i64 xk) (.int .i64 xn) (.string (strOfNums xt)) (t := 71)
      have HB := hide ((unhide HI).2.alloc (unhide HI).2.size (.cells #[.int .i64 xk, .int .i64 xn, .string (strOfNums xt)] 71))
      generalize strOfNums xt = st at *
      clear HI HEb HEc HEd HO hk
      go_upto_region 6 with fail
      clear c0 c1 c2 d2
      generalize wr.alloc (.cells #[.int .i64 xk, .int .i64 xn, .string st] 71) = v0 at *
      generalize wr.heap.size = gb at *
      rcases unhide HT with ⟨hb, s2 | ⟨s2, s3, s4⟩ | ⟨s2, s3, s4, s5, s6⟩⟩ | ⟨hb, s2, s3, s4, s5, s6⟩
      · have HV2 := hide (unhide HV hb)
        clear HT HV HN hb
        go_wp2_with fail
        rw [unhide HV2]
        refine bodyPost_ret (results_tmp rfl _ _ _) rfl ⟨rfl, unhide HB⟩
      · have HV2 := hide (unhide HV hb)
        clear HT HV HN hb
        go_wp2_with fail
        rw [unhide HV2]
        refine bodyPost_ret (results_tmp rfl _ _ _) rfl ⟨rfl, unhide HB⟩
      · have HV2 := hide (unhide HV hb)
        clear HT HV HN hb
        go_wp2_with fail
        rw [unhide HV2]
        refine bodyPost_ret (results_tmp rfl _ _ _) rfl ⟨rfl, unhide HB⟩
      · have HN2 := hide (unhide HN hb)
        clear HT HV HN hb
        go_wp2_with fail
        go_roundw
        case rel => exact ⟨⟨_, rfl⟩, ⟨k + 1, by go_num, hlt, hide ⟨unhide HN2, unhide HB⟩⟩⟩
        case measure => simp [intOf]; omega
    · obtain rfl : k = cs.length := by omega
      have s1 : decide ((cs.length : Int) < (cs.length : Int)) = false := decide_eq_false (by omega)
      have HEc := hide (unhide HEc (unhide HI).1)
      have HEd := hide (unhide HEd (unhide HI).1)
      have HB := hide (unhide HI).2
      clear HI HEb hk hlt t1 t2 t3
      go_wp2_with fail
      clear s1
      go_loopw [7] (fun v7 wx => (∃ k : Nat, v7 = .int .i64 (k : Int) ∧ 1 ≤ k ∧ (k = 1 ∨ k ≤ cs.length) ∧ Hid ((∀ i, i + 1 < k → ¬ crsC cs i) ∧ Below w.heap.size w wx))) (fun v7 _ => cs.length + 1 - (intOf v7).toNat)
      case atStart => exact ⟨1, rfl, Nat.le_refl _, .inl rfl, hide ⟨fun i hi => absurd hi (by omega), unhide HB⟩⟩
      case round =>
        clear HB
        obtain ⟨k, rfl, hk1, hk2, HI⟩ := hrel
        by_cases hlt : k < cs.length
        · have s1 : decide ((k : Int) < (cs.length : Int)) = true := decide_eq_true (by omega)
          obtain ⟨j, rfl⟩ : ∃ j, k = j + 1 := ⟨k - 1, by omega⟩
          obtain ⟨g, off, rfl, hg, c0, c1, c2⟩ := (unhide HO wr (unhide HI).2).three hlt
          obtain ⟨g', off', he, hg', b0', b1, b2⟩ := (unhide HO wr (unhide HI).2).three (k := j) (by omega)
          obtain ⟨rfl, rfl⟩ : g = g' ∧ off = off' := by cases he; exact ⟨rfl, rfl⟩
          clear he b0' b2 c1 c2 hg hg'
          have HCR : Hid (crsC cs j ↔ (cs.getD (j + 1) opZ).k < (cs.getD j opZ).n) := hide Iff.rfl
          have HV : Hid (crsC cs j → E = 120) := hide fun h0 => unhide HEc ⟨j, hlt, h0⟩
          have HN : Hid (¬ crsC cs j → ∀ i, i + 1 < j + 2 → ¬ crsC cs i) := hide fun h0 i hi => by
            rcases Nat.lt_or_ge i j with h | h
            · exact (unhide HI).1 i (by omega)
            · obtain rfl : i = j := by omega
              exact h0
          have HB := hide (unhide HI).2
          have e5 := (last_arith' j hl hlt).1
          have hlt' : j < cs.length := by omega
          have hlt2 : (j : Int) < (cs.length : Int) := by omega
          clear HI HEc HEd HO hk1 hk2
          generalize (cs.getD (j + 1) opZ).k = xk at *
          generalize (cs.getD j opZ).n = xn at *
          generalize hK : j + 1 = K at *
          have hK0 : (0 : Int) ≤ (K : Int) := by omega
          have hK1 : (K : Int) < (cs.length : Int) := by omega
          have hj0 : (0 : Int) ≤ (j : Int) := by omega
          have e6 : (K : Int) - 1 = (j : Int) := by omega
          have e7 : wrap64 (j : Int) = (j : Int) := wrapD _ (by omega) (by omega)
          by_cases hx : xk < xn
          · have HV2 := hide (unhide HV ((unhide HCR).2 hx))
            have s2 : decide (xk < xn) = true := decide_eq_true hx
            clear HV HN HCR hx hK
            go_upto_region 12 with fail
            go_quiet (fail)
            go_wp2_with fail
            rw [unhide HV2]
            refine bodyPost_ret (results_tmp rfl _ _ _) rfl ⟨rfl, below_drewN (unhide HB) _⟩
          · have HN2 := hide (unhide HN (fun h0 => hx ((unhide HCR).1 h0)))
            rw [show j + 2 = K + 1 by omega] at HN2
            have s2 : decide (xk < xn) = false := decide_eq_false hx
            clear HV HN HCR hx hK
            go_upto_region 12 with fail
            go_quiet (fail)
            go_wp2_with fail
            go_roundw
            case rel => exact ⟨K + 1, by go_num, by omega, .inr hlt, hide ⟨unhide HN2, below_drewN (unhide HB) _⟩⟩
            case measure => simp [intOf]; omega
        · have s1 : decide ((k : Int) < (cs.length : Int)) = false := decide_eq_false (by omega)
          have HV := hide (unhide HEd (fun i hi => (unhide HI).1 i (by omega)))
          have HB := hide (unhide HI).2
          have s1' : decide (k < cs.length) = false := decide_eq_false hlt
          clear HEc HEd HI HO hk1 hk2
          go_wp2_with fail
          rw [unhide HV]
          refine bodyPost_ret (results_tmp rfl _ _ _) rfl ⟨rfl, unhide HB⟩

/-- what Of answers -/
def ofD (n : Int) (cs : List Dop) (E : Int) : List Dop × Int := if E = 0 then (if 268435456 < toD (opsC n cs) then ([], 5) else (canA (dA (opsC n cs)), 0)) else ([], E)
set_option maxRecDepth 100000 in
set_option maxHeartbeats 2000000 in
theorem Of_atD (a : Option Addr) (c : Nat) (n : Int) (cs : List Dop) (E : Int) (w : World) (h : IsO w a cs) (hl : cs.length ≤ 4398046511104) (hE : ErrC n cs E) :
    Calls Tryd.prog 46 #[.int .i64 n, .slice a cs.length c] w fun y w' => ∃ v, y = .returned (.tuple #[v, .int .i64 (ofD n cs E).2]) ∧ w'.ownsRow w.heap.size 38 3 v (ofD n cs E).1.length (opsV (ofD n cs E).1) ∧ Below w.heap.size w w' := by
  have HC := hide (checked_at a c n cs E w h hl hE)
  have hOk := errC_ok hE
  obtain ⟨L, R, hLR⟩ : ∃ L R, ofD n cs E = (L, R) := ⟨_, _, rfl⟩
  rw [hLR]
  dsimp only
  unfold ofD at hLR
  by_cases h0 : E = 0
  · rcases hOk with ⟨_, hn, hok⟩ | hne
    · rw [if_pos h0] at hLR
      subst h0
      obtain ⟨s1, s2⟩ := opsC_sizes hok
      have HZ : Hid (∀ X, Below w.heap.size w X → Calls Tryd.prog 63 #[.int .i64 n, .slice a cs.length c, .func (.func 64) #[.pointer (some ⟨X.heap.size, 0, none⟩)] #[], .func (.func 65) #[.pointer (some ⟨X.heap.size, 0, none⟩)] #[], .func (.func 66) #[.pointer (some ⟨X.heap.size, 0, none⟩)] #[]]
          (X.alloc (.cells #[.int .i64 0, .int .i64 0] 90)) fun y X' => y = .returned (.tuple #[]) ∧ IsZ X' X.heap.size (satD (frD (opsC n cs))) (satD (toD (opsC n cs))) ∧ Below X.heap.size X X') := hide fun X hx => by
        have ba : Below X.heap.size X (X.alloc (.cells #[.int .i64 0, .int .i64 0] 90)) := (Below.refl _ _).alloc (Nat.le_refl _) _
        exact (eachC_z a c X.heap.size X.heap.size n cs _ (fun Y hY => (h.below hx (Nat.le_refl _)).below (ba.trans hY) (Nat.le_refl _)) (Cls.new _ _ _) (Nat.le_refl _) ba.size hl hn hok).mono fun y Y ⟨e, h1, h2⟩ => ⟨e, h1, ba.trans h2⟩
      have HL := hide fun (X : World) => long_at (satD (frD (opsC n cs))) (satD (toD (opsC n cs))) X (by have := satD_le (frD (opsC n cs)); omega) (by have := satD_le (toD (opsC n cs)); omega)
      have hlo : decide (268435456 < satD (frD (opsC n cs)) ∨ 268435456 < satD (toD (opsC n cs))) = decide (268435456 < toD (opsC n cs)) := by
        have : frD (opsC n cs) ≤ 268435456 := by omega
        rw [decide_eq_decide]; unfold satD; omega
      rw [hlo] at HL
      have HE : Hid (∀ X, Below w.heap.size w X → ¬ 268435456 < toD (opsC n cs) → Calls Tryd.prog 63 #[.int .i64 n, .slice a cs.length c, .func (.func 68) #[.pointer (some ⟨X.heap.size, 0, none⟩)] #[], .func (.func 69) #[.pointer (some ⟨X.heap.size, 0, none⟩)] #[], .func (.func 70) #[.pointer (some ⟨X.heap.size, 0, none⟩)] #[]]
          (X.alloc (.cells #[.slice none 0 0, .int .i64 0, .slice none 0 0, .int .i64 0] 109))
          fun y X' => y = .returned (.tuple #[]) ∧ (∃ ts, IsBd X' X.heap.size X.heap.size 0 (fun _ => none) (feedA b0 (dA (opsC n cs))) ts ∧ BdOk (feedA b0 (dA (opsC n cs))) ts) ∧ Below X.heap.size X X') := hide fun X hx hto => by
        have ba : Below X.heap.size X (X.alloc (.cells #[.slice none 0 0, .int .i64 0, .slice none 0 0, .int .i64 0] 109)) := (Below.refl _ _).alloc (Nat.le_refl _) _
        refine (eachC_b a c X.heap.size X.heap.size n cs _ (fun Y hY => (h.below hx (Nat.le_refl _)).below (ba.trans hY) (Nat.le_refl _)) (bd_new X) ba.size hl hn hok (by omega)).mono fun y Y ⟨e, ⟨ts, h1⟩, h2⟩ => ⟨e, ⟨ts, h1, bd_ok h1 ?_⟩, ba.trans h2⟩
        have := dA_len (fun o ho => (opsC_ok hok o ho).1)
        omega
      clear h hl hE hok hn s1 s2 hlo
      have HLR := hide hLR
      clear hLR
      generalize satD (frD (opsC n cs)) = F at *
      generalize satD (toD (opsC n cs)) = T at *
      go_enter Tryd.func46, Tryd.ntmps46
      go_wp2_with fail
      refine (unhide HC).mono ?_
      rintro y w1 ⟨rfl, x1⟩
      dsimp only
      have HZ1 := hide (unhide HZ w1 x1)
      have HX1 := hide x1
      clear HC HZ x1
      go_upto_region 5 with fail
      generalize w1.alloc (.cells #[.int .i64 0, .int .i64 0] 90) = v1 at *
      generalize hg1 : w1.heap.size = g1 at HZ1 ⊢
      have HXg : Hid (∀ Y, Below g1 w1 Y → Below w.heap.size w Y) := hide fun Y hY => (unhide HX1).trans (hY.mono (by rw [← hg1]; exact (unhide HX1).size))
      clear hg1 HX1
      go_wp2_with fail
      refine (unhide HZ1).mono ?_
      rintro y w2 ⟨rfl, hz2, x2⟩
      dsimp only
      obtain ⟨q0, q1, _, _⟩ := hz2.cells
      have HX2 := hide (unhide HXg w2 x2)
      clear HZ1 HXg x2 hz2
      go_wp2_with fail
      refine (unhide HL w2).mono ?_
      rintro y w3 ⟨rfl, x3⟩
      dsimp only
      have HX3 := hide ((unhide HX2).trans (x3.mono (unhide HX2).size))
      clear HL HX2 x3 q0 q1
      by_cases hto : 268435456 < toD (opsC n cs)
      · have hLR := unhide HLR
        rw [if_pos hto, Prod.mk.injEq] at hLR
        obtain ⟨rfl, rfl⟩ := hLR
        rw [decide_eq_true hto]
        clear HE HLR hto
        go_wp2_with fail
        refine bodyPost_ret (results_tmp2 rfl _ _ _) rfl ⟨.slice none 0 0, rfl, row_nilD _ _, unhide HX3⟩
      · have HE3 := hide (unhide HE w3 (unhide HX3) hto)
        have HCA : Hid (canA (dA (opsC n cs)) = (feedA b0 (dA (opsC n cs))).fin) := hide rfl
        have hLR := unhide HLR
        rw [if_neg hto, Prod.mk.injEq] at hLR
        obtain ⟨hL, rfl⟩ := hLR
        rw [hL] at HCA
        rw [decide_eq_false hto]
        clear HE HLR hto hL
        go_upto_region 9 with fail
        generalize w3.alloc (.cells #[.slice none 0 0, .int .i64 0, .slice none 0 0, .int .i64 0] 109) = v3 at *
        generalize hg : w3.heap.size = g at HE3 ⊢
        have HG : Hid (w.heap.size ≤ g) := hide (by rw [← hg]; exact (unhide HX3).size)
        have HXg : Hid (∀ Y, Below g w3 Y → Below w.heap.size w Y) := hide fun Y hY => (unhide HX3).trans (hY.mono (unhide HG))
        clear hg
        go_wp2_with fail
        refine (unhide HE3).mono ?_
        rintro y w4 ⟨rfl, ⟨ts, hI, hok⟩, x4⟩
        dsimp only
        have HD := hide (bdelta_at g g 0 (fun _ => none) (feedA b0 (dA (opsC n cs))) ts w4 hI hok (Nat.le_of_lt (by obtain ⟨_, _, h1, _⟩ := hI.c; exact h1.lt)))
        rw [← unhide HCA] at HD
        have HX4 := hide x4
        clear hI hok x4 HE3
        go_wp2_with fail
        refine (unhide HD).mono ?_
        rintro y w5 ⟨v, rfl, ho, x5⟩
        dsimp only
        have HO5 : Hid (w5.ownsRow w.heap.size 38 3 v L.length (opsV L)) := hide (own_lower ho (unhide HG))
        have HX5 := hide (unhide HXg w5 ((unhide HX4).trans x5))
        clear HD ho x5
        go_wp2_with fail
        refine bodyPost_ret (results_tmp2 rfl _ _ _) rfl ⟨v, rfl, unhide HO5, unhide HX5⟩
    · exact absurd h0 hne
  · rw [if_neg h0, Prod.mk.injEq] at hLR
    obtain ⟨rfl, rfl⟩ := hLR
    have t1 : (E != 0) = true := by simpa using h0
    clear hOk h hl hE h0
    go_enter Tryd.func46, Tryd.ntmps46
    go_wp2_with fail
    refine (unhide HC).mono ?_
    rintro y w1 ⟨rfl, x1⟩
    dsimp only
    clear HC
    go_wp2_with fail
    refine bodyPost_ret (results_tmp2 rfl _ _ _) rfl ⟨.slice none 0 0, rfl, row_nilD _ _, x1⟩

end Go.Proofs.YtkdnanlgkedjgaaDoor
end

section
namespace Go.Proofs.YtkdnanlgkedjgaaDoor

variable {l m : List Int} {xc yc : List Nat}
theorem chsN_ok (hx : OkCut l xc) : ∀ (L : List (Nat × Nat × Nat)) (i j : Nat) (z : Int), RunOk (cutP l xc) (cutP m yc) i j L → i < xc.length → z ≤ (xc.getD i 0 : Int) → okL z (chsN m xc yc i j L) l.length
  | [], i, j, z, h, hi, hz => by
    have e := cutP_cnt hx
    have := hx.at_le hi
    simp only [chsN, okL]
    omega
  | (p, q, n) :: r, i, j, z, h, hi, hz => by
    obtain ⟨h1, h2, h3, h4, _, h6⟩ := h
    have e := cutP_cnt hx
    have a1 := hx.le h1 (show p < xc.length by omega)
    have a2 := hx.at_le (show p < xc.length by omega)
    have a3 := hx.le (show p ≤ p + n by omega) (show p + n < xc.length by omega)
    simp only [chsN]
    by_cases g : i < p ∨ j < q
    · rw [if_pos g]
      refine ⟨hz, ?_, ?_, chsN_ok hx r (p + n) (q + n) _ h6 (by omega) ?_⟩
      · show (xc.getD i 0 : Int) ≤ (xc.getD p 0 : Int); omega
      · show (xc.getD p 0 : Int) ≤ (l.length : Int); omega
      · show (xc.getD p 0 : Int) ≤ _; omega
    · rw [if_neg g]
      exact chsN_ok hx r (p + n) (q + n) z h6 (by omega) (by omega)
theorem lstC_take1 : ∀ (cs : List Dop) (p : Int) (k : Nat), k < cs.length → lstC p (cs.take (k + 1)) = (cs.getD k opZ).n
  | [], _, _, h => by simp at h
  | c :: r, p, 0, _ => by simp [lstC]
  | c :: r, p, k + 1, h => by
    have := lstC_take1 r c.n k (by simpa using h)
    simpa [lstC] using this
theorem errC_zero {n : Int} {cs : List Dop} (hn : 0 ≤ n ∧ n ≤ 268435456) (h : okL 0 cs n) : ErrC n cs 0 := by
  have hb : ∀ k, k < cs.length → ¬ badC n (cs.getD k opZ) := fun k hk hb => by
    obtain ⟨a1, a2, a3, a4⟩ := okL_at cs 0 n h k hk
    unfold badC at hb
    omega
  refine ⟨fun g => absurd g (by omega), fun _ ⟨k, hk, g⟩ => absurd g (hb k hk), fun _ _ ⟨k, hk, g⟩ => ?_, fun _ _ _ => rfl⟩
  obtain ⟨a1, a2, _, _⟩ := okL_at cs 0 n h (k + 1) hk
  rw [lstC_take1 cs 0 k (by omega)] at a2
  unfold crsC at g
  omega
theorem sub_len {x : List Int} {cs : List Nat} (h : OkCut x cs) {i j : Nat} (hij : i ≤ j) (hj : j < cs.length) : (subL x (cs.getD i 0) (cs.getD j 0)).length = cs.getD j 0 - cs.getD i 0 := by
  have h1 := h.le hij hj
  have h2 := h.at_le hj
  unfold subL
  rw [List.length_take, List.length_drop]
  omega
/-- how long the two texts are -/
theorem pcs_len (hx : OkCut l xc) (hy : OkCut m yc) : ∀ (d : List Dop) (i j N : Nat), PcS l m xc yc i j N d → i < xc.length → j < yc.length → frD d + xc.getD i 0 = l.length ∧ toD d + yc.getD j 0 = m.length
  | [], i, j, N, h, hi, hj => by
    obtain ⟨h1, h2, _⟩ := h
    have a1 := hx.last
    have a2 := hy.last
    rw [show xc.length - 1 = i by omega] at a1
    rw [show yc.length - 1 = j by omega] at a2
    exact ⟨by rw [a1]; simp [frD], by rw [a2]; simp [toD]⟩
  | o :: r, i, j, N, h, hi, hj => by
    rcases h with ⟨k, t, n, h1, h2, h3, h4, h5, h6⟩ | ⟨k, z, n, M, h1, h2, h3, h4, h5⟩ | ⟨k, t, n, M, h1, h2, h3, h4, h5⟩
    · obtain ⟨i1, i2⟩ := pcs_len hx hy r _ _ _ h6 h2 h3
      have a1 := hx.le (show i ≤ i + n by omega) h2
      have a2 := hy.le (show j ≤ j + n by omega) h3
      have e1 := sub_len hx (show i ≤ i + n by omega) h2
      have e2 := sub_len hy (show j ≤ j + n by omega) h3
      rw [h5] at e1
      have f1 : frN o = xc.getD (i + n) 0 - xc.getD i 0 := by unfold frN; rw [if_pos (.inl k), h4]; omega
      have f2 : toN o = xc.getD (i + n) 0 - xc.getD i 0 := by unfold toN; rw [if_pos k, h4]; omega
      rw [frD_cons, toD_cons, f1, f2]
      omega
    · obtain ⟨i1, i2⟩ := pcs_len hx hy r _ _ _ h5 hi h2
      have a2 := hy.le (show j ≤ j + n by omega) h2
      have e2 := sub_len hy (show j ≤ j + n by omega) h2
      have f1 : frN o = 0 := by simp [frN, k]
      have f2 : toN o = yc.getD (j + n) 0 - yc.getD j 0 := by unfold toN; rw [if_neg (by omega), if_pos k, h3, e2]
      rw [frD_cons, toD_cons, f1, f2]
      omega
    · obtain ⟨i1, i2⟩ := pcs_len hx hy r _ _ _ h5 h2 hj
      have a1 := hx.le (show i ≤ i + n by omega) h2
      have f1 : frN o = xc.getD (i + n) 0 - xc.getD i 0 := by unfold frN; rw [if_pos (.inr k), h3]; omega
      have f2 : toN o = 0 := by simp [toN, k]
      rw [frD_cons, toD_cons, f1, f2]
      omega
theorem toD_atoms (d : List Dop) (h : ∀ o ∈ d, o.k = 1 ∨ o.k = 2 ∨ o.k = 3) : toD d = ((dA d).filter fun a => match a with | .d => false | _ => true).length := by
  induction d with
  | nil => rfl
  | cons o d ih =>
    rw [toD_cons, dA_cons, List.filter_append, List.length_append, ih fun x hx => h x (by simp [hx])]
    congr 1
    rcases h o (by simp) with g | g | g
    · simp [toN, opA, g]
    · simp [toN, opA, g, List.filter_map, Function.comp_def]
      rw [List.filter_eq_self.2 (by simp)]
    · simp [toN, opA, g]
/-- what Of makes of the program's changes -/
theorem ofD_least (hx : OkCut l xc) (hy : OkCut m yc) (hl : l.length ≤ 268435456) (hm : m.length ≤ 268435456) :
    ErrC l.length (chsR xc yc m (runsL (cutP l xc) (cutP m yc))).2.2 0 ∧ ofD l.length (chsR xc yc m (runsL (cutP l xc) (cutP m yc))).2.2 0 = (leastD l m xc yc, 0) := by
  obtain ⟨e, hc, ha, N, hp, hN⟩ := least_is hx hy
  rw [e]
  have hok := chsN_ok (m := m) (yc := yc) hx (runsL (cutP l xc) (cutP m yc)) 0 0 0 (runs_ok _ _) hx.pos (by rw [hx.zero]; exact Int.le_refl _)
  refine ⟨errC_zero ⟨by omega, by omega⟩ hok, ?_⟩
  have hlen := pcs_len hx hy _ 0 0 N hp hx.pos hy.pos
  rw [hy.zero] at hlen
  have hk1 : ∀ o ∈ opsC l.length (chsN m xc yc 0 0 (runsL (cutP l xc) (cutP m yc))), o.k = 1 ∨ o.k = 2 ∨ o.k = 3 := fun o ho => (opsC_ok hok o ho).1
  have hk2 : ∀ o ∈ leastD l m xc yc, o.k = 1 ∨ o.k = 2 ∨ o.k = 3 := fun o ho => by
    rcases hc.p o ho with ⟨g | g, _⟩ | ⟨g, _⟩
    · exact .inl g
    · exact .inr (.inr g)
    · exact .inr (.inl g)
  have ht : toD (opsC l.length (chsN m xc yc 0 0 (runsL (cutP l xc) (cutP m yc)))) = m.length := by
    rw [toD_atoms _ hk1, ha, ← toD_atoms _ hk2]; omega
  unfold ofD
  rw [if_pos rfl, if_neg (by omega), ha, canA_id hc]
end Go.Proofs.YtkdnanlgkedjgaaDoor
end
