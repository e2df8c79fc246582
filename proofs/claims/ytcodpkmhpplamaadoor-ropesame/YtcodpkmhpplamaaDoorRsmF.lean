/- Layer 9's scripts: what a law's loop over the book's ropes keeps. · RopeSame's walk. · RopeSame: for every input the law returns true and every argument reads afterwards as it read before; conditions: the table of classes holds at the call what the program's text lays (the card ties it to that text). -/
import Derived.Test.YtcodpkmhpplamaaDoorRpD
import Derived.Test.YtcodpkmhpplamaaDoorLayL
import Derived.Below
import Derived.ChangeOld
import Derived.ShutString

section
namespace Go.Proofs.YtcodpkmhpplamaaDoor
open Go.ChangeShapes Go.WideShapes Go.ChangeAt Go.RowKit
attribute [local go_sem] Oper.semAt_some

theorem Bk.low {X : World} {B gB : Nat} {gs : List Nat} {os : List (Option Nd)} (h : Bk X B gB gs os) : Bk X 0 gB gs os := by
  obtain ⟨vr, vt, h1, h2, h3⟩ := h.c
  refine ⟨⟨vr, vt, h1, ⟨h2.1, ?_⟩, ⟨h3.1, ?_⟩⟩, h.n, h.r⟩
  · rcases h2.2 with h | ⟨g, cap, cur, e, _, h4⟩
    · exact Or.inl h
    · exact Or.inr ⟨g, cap, cur, e, Nat.zero_le _, h4⟩
  · rcases h3.2 with h | ⟨g, cap, cur, e, _, h4⟩
    · exact Or.inl h
    · exact Or.inr ⟨g, cap, cur, e, Nat.zero_le _, h4⟩
/-- what the law's loop keeps -/
structure SaI (w : World) (gT : Nat) (gs : List Nat) (os : List (Option Nd)) (X : World) : Prop where
  k : Bk X 0 gT gs os
  s : ∀ i, i < gs.length → (txtO (os.getD i none)).length ≤ 268435456
  b : Below w.heap.size w X

end Go.Proofs.YtcodpkmhpplamaaDoor
end

section
namespace Go.Proofs.YtcodpkmhpplamaaDoor
open Go.ChangeShapes Go.WideShapes Go.ChangeAt Go.RowKit
attribute [local go_sem] Oper.semAt_some

set_option maxRecDepth 100000 in
set_option maxHeartbeats 8000000 in
theorem RopeSame_any (a0 : Option Addr) (cap : Nat) (cs : List Ac) (at' : Int) (w : World) (hA : IsAc w a0 cs) (hn : cs.length ≤ 2199023255488) (_hk : (Lit.int .i64 at').wf = true) (hW : Wt w) :
    Calls Tryd.prog 3 #[.slice a0 cs.length cap, .int .i64 at'] w fun e w' => e = .returned (.bool true) ∧ Below w.heap.size w w' := by
  clear _hk
  have HW := hide fun (X : World) (hx : Below w.heap.size w X) => hW.below hx
  have HA := hide fun (X : World) (hx : Below w.heap.size w X) => hA.on hx
  have HWk := hide (wakes9_at w hW)
  clear hW hA
  go_enter Tryd.func3, Tryd.ntmps3
  go_wp2_with fail
  refine (unhide HWk).mono ?_
  rintro y w1 ⟨rfl, x1⟩
  dsimp only
  have HPl := hide (play9_at a0 cap cs w1 (unhide HA w1 x1) (by omega) (unhide HW w1 x1))
  clear HWk
  go_wp2_with fail
  refine (unhide HPl).mono ?_
  rintro y w2 ⟨gB, gs, os, vr, vt, rfl, h2, c2, hs2, hgl, _, x2⟩
  dsimp only
  have h3 := h2.copy c2
  have hrf : (∃ a k c, vr = .slice a k c) ∧ ∃ a k c, vt = .slice a k c := by
    obtain ⟨vr', vt', d1, d2, d3⟩ := h2.c
    have e := c2.symm.trans d1
    cases e
    obtain ⟨a1, c1, e1⟩ := row_len9 d2
    obtain ⟨a3, c3, e3⟩ := row_len9 d3
    exact ⟨⟨a1, _, c1, e1⟩, ⟨a3, _, c3, e3⟩⟩
  obtain ⟨⟨ra, rl, rc, rfl⟩, ta, tl, tc, rfl⟩ := hrf
  have x3 := (Below.refl w2.heap.size w2).alloc (Nat.le_refl _) (.cells #[.slice ra rl rc, .slice ta tl tc] 27)
  have D2 := x1.trans (x2.mono x1.size)
  have D3 := D2.trans (x3.mono D2.size)
  clear HPl h2 c2 x1 x2 x3 D2
  go_upto_region 6 with fail
  generalize hw3 : w2.alloc (.cells #[.slice ra rl rc, .slice ta tl tc] 27) = w3 at *
  generalize w2.heap.size = gT at *
  clear hw3
  have i0 : SaI w gT gs os w3 := ⟨h3.low, hs2, D3⟩
  obtain ⟨vr', vt', d1, d2, d3⟩ := h3.c
  obtain ⟨ra', rc', rfl⟩ := row_len9 d2
  obtain ⟨p0, _, _⟩ := cells2 d1
  clear d1 d2 d3 h3 D3
  go_wp2_with fail
  clear p0
  go_loopw [7, 8, 9, 10, 11, 12, 13, 14, 15, 16, 17, 30] (fun v7 v8 v9 v10 v11 v12 v13 v14 v15 v16 v17 v30 wx => (∃ z, v7 = z) ∧ (∃ z, v8 = z) ∧ (∃ z, v9 = z) ∧ (∃ z, v10 = z) ∧ (∃ z, v11 = z) ∧ (∃ z, v12 = z) ∧ (∃ z, v13 = z) ∧ (∃ z, v14 = z) ∧ (∃ z, v15 = z) ∧ (∃ z, v16 = z) ∧ (∃ z, v17 = z) ∧ ∃ i : Nat, v30 = .int .i64 (i : Int) ∧ i ≤ gs.length ∧ Hid (SaI w gT gs os wx)) (fun _ _ _ _ _ _ _ _ _ _ _ v30 _ => gs.length - (intOf v30).toNat)
  case atStart => exact ⟨⟨_, rfl⟩, ⟨_, rfl⟩, ⟨_, rfl⟩, ⟨_, rfl⟩, ⟨_, rfl⟩, ⟨_, rfl⟩, ⟨_, rfl⟩, ⟨_, rfl⟩, ⟨_, rfl⟩, ⟨_, rfl⟩, ⟨_, rfl⟩, 0, rfl, Nat.zero_le _, hide i0⟩
  case round =>
    clear i0
    obtain ⟨⟨z7, rfl⟩, ⟨z8, rfl⟩, ⟨z9, rfl⟩, ⟨z10, rfl⟩, ⟨z11, rfl⟩, ⟨z12, rfl⟩, ⟨z13, rfl⟩, ⟨z14, rfl⟩, ⟨z15, rfl⟩, ⟨z16, rfl⟩, ⟨z17, rfl⟩, i, rfl, hi, HI⟩ := hrel
    by_cases c : i < gs.length
    · have t1 : (i : Int) < (gs.length : Int) := by omega
      go_wp2_with fail
      go_loopw [8] (fun v8 wx => ∃ j : Nat, v8 = .int .i64 (j : Int) ∧ j ≤ i + 1 ∧ Hid (SaI w gT gs os wx)) (fun v8 _ => i + 1 - (intOf v8).toNat)
      case atStart => exact ⟨0, rfl, Nat.zero_le _, HI⟩
      case round =>
        clear HI
        obtain ⟨j, rfl, hj, HI⟩ := hrel
        by_cases cj : j ≤ i
        · have t2 : (j : Int) ≤ (i : Int) := by omega
          have hI := unhide HI
          obtain ⟨gr, rc, gt, tc, p0, p1, pc⟩ := hI.k.rows (by omega)
          obtain ⟨ci, cti⟩ := pc i c
          obtain ⟨cj2, ctj⟩ := pc j (by omega)
          have hri := hI.k.r i c
          have hrj := hI.k.r j (by omega)
          have hsi := hI.s i c
          have hsj := hI.s j (by omega)
          generalize gs.getD i 0 = gi at *
          generalize gs.getD j 0 = gj at *
          generalize os.getD i none = oi at *
          generalize os.getD j none = oj at *
          have hini : ∀ x ∈ txtO oi, 0 ≤ x ∧ x ≤ 255 := by obtain ⟨v, _, hv⟩ := hri.1; exact txt_in hv
          have hinj : ∀ x ∈ txtO oj, 0 ≤ x ∧ x ≤ 255 := by obtain ⟨v, _, hv⟩ := hrj.1; exact txt_in hv
          have hbeq := str_beq hini hinj
          have HSm := hide fun (Y : World) (hb : Below wr.heap.size wr Y) => Same9_at (some ⟨gi, 0, none⟩) (some ⟨gj, 0, none⟩) oi oj Y (RoV.ro (hri.1.on hb)) (RoV.ro (hrj.1.on hb)) hsi hsj
          generalize strOfNums (txtO oi) = Si at *
          generalize strOfNums (txtO oj) = Sj at *
          generalize decide (txtO oi = txtO oj) = dv at *
          have HSW := hide fun (Y : World) (hb : Below wr.heap.size wr Y) => (show (fun w' : World => w'.cell? ⟨gT, 0, none⟩ = some (.slice (some ⟨gr, 0, none⟩) gs.length rc) ∧ w'.cell? ⟨gT, 1, none⟩ = some (.slice (some ⟨gt, 0, none⟩) gs.length tc) ∧ w'.cell? ⟨gr, i, none⟩ = some (.pointer (some ⟨gi, 0, none⟩)) ∧ w'.cell? ⟨gr, j, none⟩ = some (.pointer (some ⟨gj, 0, none⟩)) ∧ w'.cell? ⟨gt, i, none⟩ = some (.string Si) ∧ w'.cell? ⟨gt, j, none⟩ = some (.string Sj)) Y from ⟨(hb.cell (p := ⟨gT, 0, none⟩) (lt_cell p0)).trans p0, (hb.cell (p := ⟨gT, 1, none⟩) (lt_cell p1)).trans p1, (hb.cell (p := ⟨gr, i, none⟩) (lt_cell ci)).trans ci, (hb.cell (p := ⟨gr, j, none⟩) (lt_cell cj2)).trans cj2, (hb.cell (p := ⟨gt, i, none⟩) (lt_cell cti)).trans cti, (hb.cell (p := ⟨gt, j, none⟩) (lt_cell ctj)).trans ctj⟩)
          have D0 : Below wr.heap.size wr wr.drew := (Below.refl _ wr).drew
          have t3 : (j : Int) < (gs.length : Int) := by omega
          have t4 : j < gs.length := by omega
          have hjw : IntKind.i64.wrap ((j : Int) + 1) = (j : Int) + 1 := by rw [IntKind.wrap_i64]; omega
          clear p0 p1 ci cti cj2 ctj pc hri hrj hini hinj hsi hsj hI
          generalize hnn : gs.length = n at *
          go_upto_region 12 with fail
          refine regionL (S := fun w' => w'.cell? ⟨gT, 0, none⟩ = some (.slice (some ⟨gr, 0, none⟩) n rc) ∧ w'.cell? ⟨gT, 1, none⟩ = some (.slice (some ⟨gt, 0, none⟩) n tc) ∧ w'.cell? ⟨gr, i, none⟩ = some (.pointer (some ⟨gi, 0, none⟩)) ∧ w'.cell? ⟨gr, j, none⟩ = some (.pointer (some ⟨gj, 0, none⟩)) ∧ w'.cell? ⟨gt, i, none⟩ = some (.string Si) ∧ w'.cell? ⟨gt, j, none⟩ = some (.string Sj)) (fun _ => false) (by kernel_rfl) ?_
          generalize wr.drew = y0 at *
          refine anyL_take (i := 0) (v := ?vsa0) rfl (by kernel_rfl) (by kernel_rfl) (by kernel_rfl) (by kernel_rfl) (fun _ _ _ h => h) (Or.inl ⟨by rfl, ?hsa0⟩) (unhide HSW _ D0) ?_
          case hsa0 => (intro w hSw; (try dsimp only at hSw); go_simp) <;> with_reducible rfl
          simp only [Act.put, List.getElem_toArray, List.getElem_cons_zero, List.setIfInBounds_toArray, List.set_cons_zero, List.set_cons_succ]
          refine anyL_take (i := 1) (v := ?vsa1) rfl (by kernel_rfl) (by kernel_rfl) (by kernel_rfl) (by kernel_rfl) (fun _ _ _ h => h) (Or.inl ⟨by rfl, ?hsa1⟩) (unhide HSW _ D0) ?_
          case hsa1 => (intro w hSw; (try dsimp only at hSw); go_simp) <;> with_reducible rfl
          simp only [Act.put, List.getElem_toArray, List.getElem_cons_zero, List.getElem_cons_succ, List.setIfInBounds_toArray, List.set_cons_zero, List.set_cons_succ]
          refine anyL_take (i := 2) (v := ?vsa2) rfl (by kernel_rfl) (by kernel_rfl) (by kernel_rfl) (by kernel_rfl) (fun _ _ _ h => h) (Or.inl ⟨by rfl, ?hsa2⟩) (unhide HSW _ D0) ?_
          case hsa2 => (intro w hSw; (try dsimp only at hSw); go_simp) <;> with_reducible rfl
          simp only [Act.put, List.getElem_toArray, List.getElem_cons_zero, List.getElem_cons_succ, List.setIfInBounds_toArray, List.set_cons_zero, List.set_cons_succ]
          refine anyL_take (i := 3) (v := ?vsa3) rfl (by kernel_rfl) (by kernel_rfl) (by kernel_rfl) (by kernel_rfl) (fun _ _ _ h => h) (Or.inl ⟨by rfl, ?hsa3⟩) (unhide HSW _ D0) ?_
          case hsa3 => (intro w hSw; (try dsimp only at hSw); go_simp) <;> with_reducible rfl
          simp only [Act.put, List.getElem_toArray, List.getElem_cons_zero, List.getElem_cons_succ, List.setIfInBounds_toArray, List.set_cons_zero, List.set_cons_succ]
          refine anyL_take (i := 4) (v := ?vsa4) rfl (by kernel_rfl) (by kernel_rfl) (by kernel_rfl) (by kernel_rfl) (fun _ _ _ h => h) (Or.inl ⟨by rfl, ?hsa4⟩) (unhide HSW _ D0) ?_
          case hsa4 => (intro w hSw; (try dsimp only at hSw); go_simp) <;> with_reducible rfl
          simp only [Act.put, List.getElem_toArray, List.getElem_cons_zero, List.getElem_cons_succ, List.setIfInBounds_toArray, List.set_cons_zero, List.set_cons_succ]
          refine anyL_take (i := 5) (v := ?vsa5) rfl (by kernel_rfl) (by kernel_rfl) (by kernel_rfl) (by kernel_rfl) (fun _ _ _ h => h) (Or.inl ⟨by rfl, ?hsa5⟩) (unhide HSW _ D0) ?_
          case hsa5 => (intro w hSw; (try dsimp only at hSw); go_simp) <;> with_reducible rfl
          simp only [Act.put, List.getElem_toArray, List.getElem_cons_zero, List.getElem_cons_succ, List.setIfInBounds_toArray, List.set_cons_zero, List.set_cons_succ]
          refine anyL_take (i := 6) (v := ?vsa6) rfl (by kernel_rfl) (by kernel_rfl) (by kernel_rfl) (by kernel_rfl) (fun _ _ _ h => h) (Or.inl ⟨by rfl, ?hsa6⟩) (unhide HSW _ D0) ?_
          case hsa6 => (intro w hSw; (try dsimp only at hSw); go_simp) <;> with_reducible rfl
          simp only [Act.put, List.getElem_toArray, List.getElem_cons_zero, List.getElem_cons_succ, List.setIfInBounds_toArray, List.set_cons_zero, List.set_cons_succ]
          refine anyL_take (i := 7) (v := ?vsa7) rfl (by kernel_rfl) (by kernel_rfl) (by kernel_rfl) (by kernel_rfl) (fun _ _ _ h => h) (Or.inl ⟨by rfl, ?hsa7⟩) (unhide HSW _ D0) ?_
          case hsa7 => (intro w hSw; (try dsimp only at hSw); go_simp) <;> with_reducible rfl
          simp only [Act.put, List.getElem_toArray, List.getElem_cons_zero, List.getElem_cons_succ, List.setIfInBounds_toArray, List.set_cons_zero, List.set_cons_succ]
          refine anyL_take (i := 8) (v := ?vsa8) rfl (by kernel_rfl) (by kernel_rfl) (by kernel_rfl) (by kernel_rfl) (fun _ _ _ h => h) (Or.inl ⟨by rfl, ?hsa8⟩) (unhide HSW _ D0) ?_
          case hsa8 => (intro w hSw; (try dsimp only at hSw); go_simp) <;> with_reducible rfl
          simp only [Act.put, List.getElem_toArray, List.getElem_cons_zero, List.getElem_cons_succ, List.setIfInBounds_toArray, List.set_cons_zero, List.set_cons_succ]
          refine anyL_take (i := 9) (v := ?vsa9) rfl (by kernel_rfl) (by kernel_rfl) (by kernel_rfl) (by kernel_rfl) (fun _ _ _ h => h) (Or.inl ⟨by rfl, ?hsa9⟩) (unhide HSW _ D0) ?_
          case hsa9 => (intro w hSw; (try dsimp only at hSw); go_simp) <;> with_reducible rfl
          simp only [Act.put, List.getElem_toArray, List.getElem_cons_zero, List.getElem_cons_succ, List.setIfInBounds_toArray, List.set_cons_zero, List.set_cons_succ]
          refine anyL_take (i := 11) (v := ?vsa10) rfl (by kernel_rfl) (by kernel_rfl) (by kernel_rfl) (by kernel_rfl) (fun _ _ _ h => h) (Or.inl ⟨by rfl, ?hsa10⟩) (unhide HSW _ D0) ?_
          case hsa10 => (intro w hSw; (try dsimp only at hSw); go_simp) <;> with_reducible rfl
          simp only [Act.put, List.getElem_toArray, List.getElem_cons_zero, List.getElem_cons_succ, List.setIfInBounds_toArray, List.set_cons_zero, List.set_cons_succ]
          refine anyL_take (i := 12) (v := ?vsa11) rfl (by kernel_rfl) (by kernel_rfl) (by kernel_rfl) (by kernel_rfl) (fun _ _ _ h => h) (Or.inl ⟨by rfl, ?hsa11⟩) (unhide HSW _ D0) ?_
          case hsa11 => (intro w hSw; (try dsimp only at hSw); go_simp) <;> with_reducible rfl
          simp only [Act.put, List.getElem_toArray, List.getElem_cons_zero, List.getElem_cons_succ, List.setIfInBounds_toArray, List.set_cons_zero, List.set_cons_succ]
          refine anyL_take (i := 13) (v := ?vsa12) rfl (by kernel_rfl) (by kernel_rfl) (by kernel_rfl) (by kernel_rfl) (fun _ _ _ h => h) (Or.inl ⟨by rfl, ?hsa12⟩) (unhide HSW _ D0) ?_
          case hsa12 => (intro w hSw; (try dsimp only at hSw); go_simp) <;> with_reducible rfl
          simp only [Act.put, List.getElem_toArray, List.getElem_cons_zero, List.getElem_cons_succ, List.setIfInBounds_toArray, List.set_cons_zero, List.set_cons_succ]
          refine anyL_take (i := 14) (v := ?vsa13) rfl (by kernel_rfl) (by kernel_rfl) (by kernel_rfl) (by kernel_rfl) (fun _ _ _ h => h) (Or.inl ⟨by rfl, ?hsa13⟩) (unhide HSW _ D0) ?_
          case hsa13 => (intro w hSw; (try dsimp only at hSw); go_simp) <;> with_reducible rfl
          simp only [Act.put, List.getElem_toArray, List.getElem_cons_zero, List.getElem_cons_succ, List.setIfInBounds_toArray, List.set_cons_zero, List.set_cons_succ]
          refine anyL_take (i := 15) (v := ?vsa14) rfl (by kernel_rfl) (by kernel_rfl) (by kernel_rfl) (by kernel_rfl) (fun _ _ _ h => h) (Or.inl ⟨by rfl, ?hsa14⟩) (unhide HSW _ D0) ?_
          case hsa14 => (intro w hSw; (try dsimp only at hSw); go_simp) <;> with_reducible rfl
          simp only [Act.put, List.getElem_toArray, List.getElem_cons_zero, List.getElem_cons_succ, List.setIfInBounds_toArray, List.set_cons_zero, List.set_cons_succ]
          refine anyL_take (i := 16) (v := ?vsa15) rfl (by kernel_rfl) (by kernel_rfl) (by kernel_rfl) (by kernel_rfl) (fun _ _ _ h => h) (Or.inl ⟨by rfl, ?hsa15⟩) (unhide HSW _ D0) ?_
          case hsa15 => (intro w hSw; (try dsimp only at hSw); go_simp) <;> with_reducible rfl
          simp only [Act.put, List.getElem_toArray, List.getElem_cons_zero, List.getElem_cons_succ, List.setIfInBounds_toArray, List.set_cons_zero, List.set_cons_succ]
          refine anyL_take (i := 17) (v := ?vsa16) rfl (by kernel_rfl) (by kernel_rfl) (by kernel_rfl) (by kernel_rfl) (fun _ _ _ h => h) (Or.inl ⟨by rfl, ?hsa16⟩) (unhide HSW _ D0) ?_
          case hsa16 => (intro w hSw; (try dsimp only at hSw); go_simp) <;> with_reducible rfl
          simp only [Act.put, List.getElem_toArray, List.getElem_cons_zero, List.getElem_cons_succ, List.setIfInBounds_toArray, List.set_cons_zero, List.set_cons_succ]
          refine anyL_take (i := 18) (v := ?vsa17) rfl (by kernel_rfl) (by kernel_rfl) (by kernel_rfl) (by kernel_rfl) (fun _ _ _ h => h) (Or.inl ⟨by rfl, ?hsa17⟩) (unhide HSW _ D0) ?_
          case hsa17 => (intro w hSw; (try dsimp only at hSw); go_simp) <;> with_reducible rfl
          simp only [Act.put, List.getElem_toArray, List.getElem_cons_zero, List.getElem_cons_succ, List.setIfInBounds_toArray, List.set_cons_zero, List.set_cons_succ]
          refine anyL_take (i := 19) (v := ?vsa18) rfl (by kernel_rfl) (by kernel_rfl) (by kernel_rfl) (by kernel_rfl) (fun _ _ _ h => h) (Or.inl ⟨by rfl, ?hsa18⟩) (unhide HSW _ D0) ?_
          case hsa18 => (intro w hSw; (try dsimp only at hSw); go_simp) <;> with_reducible rfl
          simp only [Act.put, List.getElem_toArray, List.getElem_cons_zero, List.getElem_cons_succ, List.setIfInBounds_toArray, List.set_cons_zero, List.set_cons_succ]
          refine anyL_take (i := 20) (v := ?vsa19) rfl (by kernel_rfl) (by kernel_rfl) (by kernel_rfl) (by kernel_rfl) (fun _ _ _ h => h) (Or.inl ⟨by rfl, ?hsa19⟩) (unhide HSW _ D0) ?_
          case hsa19 => (intro w hSw; (try dsimp only at hSw); go_simp) <;> with_reducible rfl
          simp only [Act.put, List.getElem_toArray, List.getElem_cons_zero, List.getElem_cons_succ, List.setIfInBounds_toArray, List.set_cons_zero, List.set_cons_succ]
          refine anyL_take (i := 21) (v := ?vsa20) rfl (by kernel_rfl) (by kernel_rfl) (by kernel_rfl) (by kernel_rfl) (fun _ _ _ h => h) (Or.inl ⟨by rfl, ?hsa20⟩) (unhide HSW _ D0) ?_
          case hsa20 => (intro w hSw; (try dsimp only at hSw); go_simp) <;> with_reducible rfl
          simp only [Act.put, List.getElem_toArray, List.getElem_cons_zero, List.getElem_cons_succ, List.setIfInBounds_toArray, List.set_cons_zero, List.set_cons_succ]
          refine anyL_ready (rs := [10]) (by kernel_rfl) (by simp) ?_
          refine AllL.cons rfl (fun K hK => ?_) AllL.nil
          go_simp
          refine (unhide HSm _ D0).mono ?_
          rintro e y1 ⟨rfl, x1⟩
          have D1 := D0.trans (x1.mono D0.size)
          refine unhide hK _ _ (fun _ => unhide HSW _ D1) ?_
          clear hK K x1
          refine anyL_take (i := 22) (v := ?vsa21) rfl (by kernel_rfl) (by kernel_rfl) (by kernel_rfl) (by kernel_rfl) (fun _ _ _ h => h) (Or.inl ⟨by rfl, ?hsa21⟩) (unhide HSW _ D1) ?_
          case hsa21 => (intro w hSw; (try dsimp only at hSw); go_simp) <;> with_reducible rfl
          simp only [Act.put, List.getElem_toArray, List.getElem_cons_zero, List.getElem_cons_succ, List.setIfInBounds_toArray, List.set_cons_zero, List.set_cons_succ]
          refine anyL_done (by kernel_rfl) ?_ _
          have HI2 : Hid (SaI w gT gs os y1) := hide ⟨(unhide HI).k.on D1, (unhide HI).s, (unhide HI).b.trans (D1.mono (unhide HI).b.size)⟩
          clear HSW HSm D0 D1
          go_wp2_with fail
          go_roundw
          case rel => exact ⟨j + 1, by go_num, by omega, HI2⟩
          case measure =>
            show i + 1 - ((j : Int) + 1).toNat < i + 1 - (j : Int).toNat
            omega
        · have t2 : ¬ (j : Int) ≤ (i : Int) := by omega
          have hI := unhide HI
          obtain ⟨gr, rc, gt, tc, p0, p1, pc⟩ := hI.k.rows (by omega)
          obtain ⟨ci, cti⟩ := pc i c
          have hri := hI.k.r i c
          have hsi := hI.s i c
          generalize gs.getD i 0 = gi at *
          generalize os.getD i none = oi at *
          have hini : ∀ x ∈ txtO oi, 0 ≤ x ∧ x ≤ 255 := by obtain ⟨v, _, hv⟩ := hri.1; exact txt_in hv
          obtain ⟨c7, y1, r7, k7, x7, _⟩ := toBytes wr (txtO oi) hini (by omega)
          have B1 := hI.b.trans (x7.mono hI.b.size)
          have HNw := hide (New9_at (some ⟨wr.heap.size, 0, none⟩) c7 (txtO oi) y1 k7 hsi (unhide HW y1 B1))
          have HSW := hide fun (Y : World) (hb : Below wr.heap.size wr Y) => (show (fun w' : World => w'.cell? ⟨gT, 0, none⟩ = some (.slice (some ⟨gr, 0, none⟩) gs.length rc) ∧ w'.cell? ⟨gT, 1, none⟩ = some (.slice (some ⟨gt, 0, none⟩) gs.length tc) ∧ w'.cell? ⟨gr, i, none⟩ = some (.pointer (some ⟨gi, 0, none⟩)) ∧ w'.cell? ⟨gt, i, none⟩ = some (.string (strOfNums (txtO oi)))) Y from ⟨(hb.cell (p := ⟨gT, 0, none⟩) (lt_cell p0)).trans p0, (hb.cell (p := ⟨gT, 1, none⟩) (lt_cell p1)).trans p1, (hb.cell (p := ⟨gr, i, none⟩) (lt_cell ci)).trans ci, (hb.cell (p := ⟨gt, i, none⟩) (lt_cell cti)).trans cti⟩)
          have HRI := hide fun (Y : World) (hb : Below wr.heap.size wr Y) => hri.1.on hb
          have HIN := hide hini
          have HX7 := hide x7
          clear hI pc hri hini k7 x7 B1
          generalize hTT : txtO oi = TT at *
          have HTT := hide hTT
          clear hTT
          generalize hSi : strOfNums TT = Si at *
          have HSi := hide hSi
          clear hSi
          generalize hLn : TT.length = ln at *
          generalize hnn : gs.length = n at *
          go_wp2_with fail
          refine (unhide HNw).mono ?_
          rintro y y2 ⟨gn, on, rfl, rn, tn, bn, _, x8⟩
          dsimp only
          have D2 := (unhide HX7).trans (x8.mono (unhide HX7).size)
          clear p0 p1 ci cti r7 HNw
          have D3 : Below wr.heap.size wr y2.drew := D2.drew
          obtain ⟨dv, hdv⟩ : ∃ dv, dv = decide (([] : List Int) = TT) := ⟨_, rfl⟩
          have HSa := hide fun (Y : World) (hb : Below wr.heap.size wr Y) (hn : Below y2.heap.size y2 Y) => Same9_at (some ⟨gn, 0, none⟩) (some ⟨gi, 0, none⟩) on oi Y (RoV.ro (rn.on hn)) (RoV.ro (unhide HRI Y hb)) (by rw [tn, hLn]; exact hsi) (by rw [unhide HTT, hLn]; exact hsi)
          have HSa : Hid (∀ Y, Below wr.heap.size wr Y → Below y2.heap.size y2 Y → Calls Tryd.prog 7 #[.pointer (some ⟨gn, 0, none⟩), .pointer (some ⟨gi, 0, none⟩)] Y fun y w' => y = .returned (.bool true) ∧ Below Y.heap.size Y w') := hide fun Y hb hn => by
            have := unhide HSa Y hb hn
            rw [tn, unhide HTT, decide_eq_true rfl] at this
            exact this
          have HSb : Hid (∀ Y, Below wr.heap.size wr Y → Calls Tryd.prog 7 #[.pointer none, .pointer (some ⟨gi, 0, none⟩)] Y fun y w' => y = .returned (.bool dv) ∧ Below Y.heap.size Y w') := hide fun Y hb => by
            have := Same9_at none (some ⟨gi, 0, none⟩) none oi Y (RoV.nil Y) (RoV.ro (unhide HRI Y hb)) (by decide) (by rw [unhide HTT, hLn]; exact hsi)
            rw [unhide HTT] at this
            rw [hdv]
            exact this
          have hbe : (Si.toList == ([] : List UInt8)) = dv := by
            have h1 := str_beq (unhide HIN) (m := []) (by simp)
            rw [unhide HSi, show (strOfNums ([] : List Int)).toList = [] by rw [Lib.strOfNums_toList]; rfl] at h1
            rw [hdv, show decide (([] : List Int) = TT) = decide (TT = []) by simp [eq_comm]]
            exact h1
          have HN2 := hide fun (Y : World) (hn : Below y2.heap.size y2 Y) => rn.on hn
          have E3 : Below y2.heap.size y2 y2.drew := (Below.refl _ y2).drew
          have HHdv := hide hdv
          clear hdv rn bn x8
          go_upto_region 15 with fail
          refine regionL (S := fun w' => w'.cell? ⟨gT, 0, none⟩ = some (.slice (some ⟨gr, 0, none⟩) n rc) ∧ w'.cell? ⟨gT, 1, none⟩ = some (.slice (some ⟨gt, 0, none⟩) n tc) ∧ w'.cell? ⟨gr, i, none⟩ = some (.pointer (some ⟨gi, 0, none⟩)) ∧ w'.cell? ⟨gt, i, none⟩ = some (.string Si)) (fun _ => false) (by kernel_rfl) ?_
          generalize y2.drew = y3 at *
          refine anyL_take (i := 0) (v := ?vsb66) rfl (by kernel_rfl) (by kernel_rfl) (by kernel_rfl) (by kernel_rfl) (fun _ _ _ h => h) (Or.inl ⟨by rfl, ?hsb66⟩) (unhide HSW _ D3) ?_
          case hsb66 => (intro w hSw; (try dsimp only at hSw); go_simp) <;> with_reducible rfl
          simp only [Act.put, List.getElem_toArray, List.getElem_cons_zero, List.setIfInBounds_toArray, List.set_cons_zero, List.set_cons_succ]
          refine anyL_take (i := 1) (v := ?vsb67) rfl (by kernel_rfl) (by kernel_rfl) (by kernel_rfl) (by kernel_rfl) (fun _ _ _ h => h) (Or.inl ⟨by rfl, ?hsb67⟩) (unhide HSW _ D3) ?_
          case hsb67 => (intro w hSw; (try dsimp only at hSw); go_simp) <;> with_reducible rfl
          simp only [Act.put, List.getElem_toArray, List.getElem_cons_zero, List.getElem_cons_succ, List.setIfInBounds_toArray, List.set_cons_zero, List.set_cons_succ]
          refine anyL_take (i := 2) (v := ?vsb68) rfl (by kernel_rfl) (by kernel_rfl) (by kernel_rfl) (by kernel_rfl) (fun _ _ _ h => h) (Or.inl ⟨by rfl, ?hsb68⟩) (unhide HSW _ D3) ?_
          case hsb68 => (intro w hSw; (try dsimp only at hSw); go_simp) <;> with_reducible rfl
          simp only [Act.put, List.getElem_toArray, List.getElem_cons_zero, List.getElem_cons_succ, List.setIfInBounds_toArray, List.set_cons_zero, List.set_cons_succ]
          refine anyL_take (i := 3) (v := ?vsb69) rfl (by kernel_rfl) (by kernel_rfl) (by kernel_rfl) (by kernel_rfl) (fun _ _ _ h => h) (Or.inl ⟨by rfl, ?hsb69⟩) (unhide HSW _ D3) ?_
          case hsb69 => (intro w hSw; (try dsimp only at hSw); go_simp) <;> with_reducible rfl
          simp only [Act.put, List.getElem_toArray, List.getElem_cons_zero, List.getElem_cons_succ, List.setIfInBounds_toArray, List.set_cons_zero, List.set_cons_succ]
          refine anyL_take (i := 4) (v := ?vsb70) rfl (by kernel_rfl) (by kernel_rfl) (by kernel_rfl) (by kernel_rfl) (fun _ _ _ h => h) (Or.inl ⟨by rfl, ?hsb70⟩) (unhide HSW _ D3) ?_
          case hsb70 => (intro w hSw; (try dsimp only at hSw); go_simp) <;> with_reducible rfl
          simp only [Act.put, List.getElem_toArray, List.getElem_cons_zero, List.getElem_cons_succ, List.setIfInBounds_toArray, List.set_cons_zero, List.set_cons_succ]
          refine anyL_take (i := 5) (v := ?vsb71) rfl (by kernel_rfl) (by kernel_rfl) (by kernel_rfl) (by kernel_rfl) (fun _ _ _ h => h) (Or.inl ⟨by rfl, ?hsb71⟩) (unhide HSW _ D3) ?_
          case hsb71 => (intro w hSw; (try dsimp only at hSw); go_simp) <;> with_reducible rfl
          simp only [Act.put, List.getElem_toArray, List.getElem_cons_zero, List.getElem_cons_succ, List.setIfInBounds_toArray, List.set_cons_zero, List.set_cons_succ]
          refine anyL_take (i := 6) (v := ?vsb72) rfl (by kernel_rfl) (by kernel_rfl) (by kernel_rfl) (by kernel_rfl) (fun _ _ _ h => h) (Or.inl ⟨by rfl, ?hsb72⟩) (unhide HSW _ D3) ?_
          case hsb72 => (intro w hSw; (try dsimp only at hSw); go_simp) <;> with_reducible rfl
          simp only [Act.put, List.getElem_toArray, List.getElem_cons_zero, List.getElem_cons_succ, List.setIfInBounds_toArray, List.set_cons_zero, List.set_cons_succ]
          refine anyL_take (i := 7) (v := ?vsb73) rfl (by kernel_rfl) (by kernel_rfl) (by kernel_rfl) (by kernel_rfl) (fun _ _ _ h => h) (Or.inl ⟨by rfl, ?hsb73⟩) (unhide HSW _ D3) ?_
          case hsb73 => (intro w hSw; (try dsimp only at hSw); go_simp) <;> with_reducible rfl
          simp only [Act.put, List.getElem_toArray, List.getElem_cons_zero, List.getElem_cons_succ, List.setIfInBounds_toArray, List.set_cons_zero, List.set_cons_succ]
          refine anyL_take (i := 8) (v := ?vsb74) rfl (by kernel_rfl) (by kernel_rfl) (by kernel_rfl) (by kernel_rfl) (fun _ _ _ h => h) (Or.inl ⟨by rfl, ?hsb74⟩) (unhide HSW _ D3) ?_
          case hsb74 => (intro w hSw; (try dsimp only at hSw); go_simp) <;> with_reducible rfl
          simp only [Act.put, List.getElem_toArray, List.getElem_cons_zero, List.getElem_cons_succ, List.setIfInBounds_toArray, List.set_cons_zero, List.set_cons_succ]
          refine anyL_ready (rs := [9]) (by kernel_rfl) (by simp) ?_
          refine AllL.cons rfl (fun K hK => ?_) AllL.nil
          go_simp
          refine (unhide HSa _ D3 E3).mono ?_
          rintro e y4 ⟨rfl, xy4⟩
          have D4 := D3.trans (xy4.mono D3.size)
          refine unhide hK _ _ (fun _ => unhide HSW _ D4) ?_
          clear hK K xy4
          refine anyL_take (i := 10) (v := ?vsb75) rfl (by kernel_rfl) (by kernel_rfl) (by kernel_rfl) (by kernel_rfl) (fun _ _ _ h => h) (Or.inl ⟨by rfl, ?hsb75⟩) (unhide HSW _ D4) ?_
          case hsb75 => (intro w hSw; (try dsimp only at hSw); go_simp) <;> with_reducible rfl
          simp only [Act.put, List.getElem_toArray, List.getElem_cons_zero, List.getElem_cons_succ, List.setIfInBounds_toArray, List.set_cons_zero, List.set_cons_succ]
          refine anyL_take (i := 11) (v := ?vsb76) rfl (by kernel_rfl) (by kernel_rfl) (by kernel_rfl) (by kernel_rfl) (fun _ _ _ h => h) (Or.inl ⟨by rfl, ?hsb76⟩) (unhide HSW _ D4) ?_
          case hsb76 => (intro w hSw; (try dsimp only at hSw); go_simp) <;> with_reducible rfl
          simp only [Act.put, List.getElem_toArray, List.getElem_cons_zero, List.getElem_cons_succ, List.setIfInBounds_toArray, List.set_cons_zero, List.set_cons_succ]
          refine anyL_take (i := 12) (v := ?vsb77) rfl (by kernel_rfl) (by kernel_rfl) (by kernel_rfl) (by kernel_rfl) (fun _ _ _ h => h) (Or.inl ⟨by rfl, ?hsb77⟩) (unhide HSW _ D4) ?_
          case hsb77 => (intro w hSw; (try dsimp only at hSw); go_simp) <;> with_reducible rfl
          simp only [Act.put, List.getElem_toArray, List.getElem_cons_zero, List.getElem_cons_succ, List.setIfInBounds_toArray, List.set_cons_zero, List.set_cons_succ]
          refine anyL_take (i := 13) (v := ?vsb78) rfl (by kernel_rfl) (by kernel_rfl) (by kernel_rfl) (by kernel_rfl) (fun _ _ _ h => h) (Or.inl ⟨by rfl, ?hsb78⟩) (unhide HSW _ D4) ?_
          case hsb78 => (intro w hSw; (try dsimp only at hSw); go_simp) <;> with_reducible rfl
          simp only [Act.put, List.getElem_toArray, List.getElem_cons_zero, List.getElem_cons_succ, List.setIfInBounds_toArray, List.set_cons_zero, List.set_cons_succ]
          refine anyL_take (i := 14) (v := ?vsb79) rfl (by kernel_rfl) (by kernel_rfl) (by kernel_rfl) (by kernel_rfl) (fun _ _ _ h => h) (Or.inl ⟨by rfl, ?hsb79⟩) (unhide HSW _ D4) ?_
          case hsb79 => (intro w hSw; (try dsimp only at hSw); go_simp) <;> with_reducible rfl
          simp only [Act.put, List.getElem_toArray, List.getElem_cons_zero, List.getElem_cons_succ, List.setIfInBounds_toArray, List.set_cons_zero, List.set_cons_succ]
          refine anyL_take (i := 15) (v := ?vsb80) rfl (by kernel_rfl) (by kernel_rfl) (by kernel_rfl) (by kernel_rfl) (fun _ _ _ h => h) (Or.inl ⟨by rfl, ?hsb80⟩) (unhide HSW _ D4) ?_
          case hsb80 => (intro w hSw; (try dsimp only at hSw); go_simp) <;> with_reducible rfl
          simp only [Act.put, List.getElem_toArray, List.getElem_cons_zero, List.getElem_cons_succ, List.setIfInBounds_toArray, List.set_cons_zero, List.set_cons_succ]
          refine anyL_take (i := 16) (v := ?vsb81) rfl (by kernel_rfl) (by kernel_rfl) (by kernel_rfl) (by kernel_rfl) (fun _ _ _ h => h) (Or.inl ⟨by rfl, ?hsb81⟩) (unhide HSW _ D4) ?_
          case hsb81 => (intro w hSw; (try dsimp only at hSw); go_simp) <;> with_reducible rfl
          simp only [Act.put, List.getElem_toArray, List.getElem_cons_zero, List.getElem_cons_succ, List.setIfInBounds_toArray, List.set_cons_zero, List.set_cons_succ]
          refine anyL_take (i := 17) (v := ?vsb82) rfl (by kernel_rfl) (by kernel_rfl) (by kernel_rfl) (by kernel_rfl) (fun _ _ _ h => h) (Or.inl ⟨by rfl, ?hsb82⟩) (unhide HSW _ D4) ?_
          case hsb82 => (intro w hSw; (try dsimp only at hSw); go_simp) <;> with_reducible rfl
          simp only [Act.put, List.getElem_toArray, List.getElem_cons_zero, List.getElem_cons_succ, List.setIfInBounds_toArray, List.set_cons_zero, List.set_cons_succ]
          refine anyL_take (i := 19) (v := ?vsb83) rfl (by kernel_rfl) (by kernel_rfl) (by kernel_rfl) (by kernel_rfl) (fun _ _ _ h => h) (Or.inl ⟨by rfl, ?hsb83⟩) (unhide HSW _ D4) ?_
          case hsb83 => (intro w hSw; (try dsimp only at hSw); go_simp) <;> with_reducible rfl
          simp only [Act.put, List.getElem_toArray, List.getElem_cons_zero, List.getElem_cons_succ, List.setIfInBounds_toArray, List.set_cons_zero, List.set_cons_succ]
          refine anyL_take (i := 20) (v := ?vsb84) rfl (by kernel_rfl) (by kernel_rfl) (by kernel_rfl) (by kernel_rfl) (fun _ _ _ h => h) (Or.inl ⟨by rfl, ?hsb84⟩) (unhide HSW _ D4) ?_
          case hsb84 => (intro w hSw; (try dsimp only at hSw); go_simp) <;> with_reducible rfl
          simp only [Act.put, List.getElem_toArray, List.getElem_cons_zero, List.getElem_cons_succ, List.setIfInBounds_toArray, List.set_cons_zero, List.set_cons_succ]
          refine anyL_take (i := 21) (v := ?vsb85) rfl (by kernel_rfl) (by kernel_rfl) (by kernel_rfl) (by kernel_rfl) (fun _ _ _ h => h) (Or.inl ⟨by rfl, ?hsb85⟩) (unhide HSW _ D4) ?_
          case hsb85 => (intro w hSw; (try dsimp only at hSw); go_simp) <;> with_reducible rfl
          simp only [Act.put, List.getElem_toArray, List.getElem_cons_zero, List.getElem_cons_succ, List.setIfInBounds_toArray, List.set_cons_zero, List.set_cons_succ]
          refine anyL_take (i := 22) (v := ?vsb86) rfl (by kernel_rfl) (by kernel_rfl) (by kernel_rfl) (by kernel_rfl) (fun _ _ _ h => h) (Or.inl ⟨by rfl, ?hsb86⟩) (unhide HSW _ D4) ?_
          case hsb86 => (intro w hSw; (try dsimp only at hSw); go_simp) <;> with_reducible rfl
          simp only [Act.put, List.getElem_toArray, List.getElem_cons_zero, List.getElem_cons_succ, List.setIfInBounds_toArray, List.set_cons_zero, List.set_cons_succ]
          refine anyL_take (i := 23) (v := ?vsb87) rfl (by kernel_rfl) (by kernel_rfl) (by kernel_rfl) (by kernel_rfl) (fun _ _ _ h => h) (Or.inl ⟨by rfl, ?hsb87⟩) (unhide HSW _ D4) ?_
          case hsb87 => (intro w hSw; (try dsimp only at hSw); go_simp) <;> with_reducible rfl
          simp only [Act.put, List.getElem_toArray, List.getElem_cons_zero, List.getElem_cons_succ, List.setIfInBounds_toArray, List.set_cons_zero, List.set_cons_succ]
          refine anyL_take (i := 24) (v := ?vsb88) rfl (by kernel_rfl) (by kernel_rfl) (by kernel_rfl) (by kernel_rfl) (fun _ _ _ h => h) (Or.inl ⟨by rfl, ?hsb88⟩) (unhide HSW _ D4) ?_
          case hsb88 => (intro w hSw; (try dsimp only at hSw); go_simp) <;> with_reducible rfl
          simp only [Act.put, List.getElem_toArray, List.getElem_cons_zero, List.getElem_cons_succ, List.setIfInBounds_toArray, List.set_cons_zero, List.set_cons_succ]
          refine anyL_ready (rs := [18]) (by kernel_rfl) (by simp) ?_
          refine AllL.cons rfl (fun K hK => ?_) AllL.nil
          go_simp
          refine (unhide HSb _ D4).mono ?_
          rintro e y5 ⟨rfl, xy5⟩
          have D5 := D4.trans (xy5.mono D4.size)
          refine unhide hK _ _ (fun _ => unhide HSW _ D5) ?_
          clear hK K xy5
          refine anyL_take (i := 25) (v := ?vsb89) rfl (by kernel_rfl) (by kernel_rfl) (by kernel_rfl) (by kernel_rfl) (fun _ _ _ h => h) (Or.inl ⟨by rfl, ?hsb89⟩) (unhide HSW _ D5) ?_
          case hsb89 => (intro w hSw; (try dsimp only at hSw); go_simp) <;> with_reducible rfl
          simp only [Act.put, List.getElem_toArray, List.getElem_cons_zero, List.getElem_cons_succ, List.setIfInBounds_toArray, List.set_cons_zero, List.set_cons_succ]
          refine anyL_take (i := 26) (v := ?vsb90) rfl (by kernel_rfl) (by kernel_rfl) (by kernel_rfl) (by kernel_rfl) (fun _ _ _ h => h) (Or.inl ⟨by rfl, ?hsb90⟩) (unhide HSW _ D5) ?_
          case hsb90 => (intro w hSw; (try dsimp only at hSw); go_simp) <;> with_reducible rfl
          simp only [Act.put, List.getElem_toArray, List.getElem_cons_zero, List.getElem_cons_succ, List.setIfInBounds_toArray, List.set_cons_zero, List.set_cons_succ]
          refine anyL_done (by kernel_rfl) ?_ _
          have D6 : Below wr.heap.size wr y5.drew := D5.drew
          obtain ⟨m, hm⟩ : ∃ m, m = whN at' (ln + 1) := ⟨_, rfl⟩
          have hml : m ≤ ln := by have := whN_lt at' (n := ln + 1) (by omega); omega
          have HWh := hide fun (Y : World) => which9_at at' (ln + 1) Y (by omega) (by omega)
          rw [← hm] at HWh
          have hw1 : IntKind.i64.wrap ((ln : Int) + 1) = (ln : Int) + 1 := by rw [IntKind.wrap_i64]; omega
          have zsi : Si.size = ln := by rw [← unhide HSi, strOfNums_size]; exact hLn
          have HBw := hide fun (Y : World) (hb : Below wr.heap.size wr Y) => (unhide HI).b.trans (hb.mono (unhide HI).b.size)
          have HSp := hide fun (Y : World) (hb : Below wr.heap.size wr Y) => SplitR9_at gi oi m Y (unhide HRI Y hb) (by rw [unhide HTT, hLn]; exact hml) (by rw [unhide HTT, hLn]; exact hsi) (unhide HW Y (unhide HBw Y hb))
          have HM := hide hm
          clear hm HSa HSb hbe D3 D4 E3
          go_upto_region 17 with fail
          refine regionL (S := fun w' => w'.cell? ⟨gT, 0, none⟩ = some (.slice (some ⟨gr, 0, none⟩) n rc) ∧ w'.cell? ⟨gT, 1, none⟩ = some (.slice (some ⟨gt, 0, none⟩) n tc) ∧ w'.cell? ⟨gr, i, none⟩ = some (.pointer (some ⟨gi, 0, none⟩)) ∧ w'.cell? ⟨gt, i, none⟩ = some (.string Si)) (fun _ => false) (by kernel_rfl) ?_
          generalize y5.drew = y6 at *
          refine anyL_take (i := 0) (v := ?vsc46) rfl (by kernel_rfl) (by kernel_rfl) (by kernel_rfl) (by kernel_rfl) (fun _ _ _ h => h) (Or.inl ⟨by rfl, ?hsc46⟩) (unhide HSW _ D6) ?_
          case hsc46 => (intro w hSw; (try dsimp only at hSw); go_simp) <;> with_reducible rfl
          simp only [Act.put, List.getElem_toArray, List.getElem_cons_zero, List.setIfInBounds_toArray, List.set_cons_zero, List.set_cons_succ]
          refine anyL_take (i := 1) (v := ?vsc47) rfl (by kernel_rfl) (by kernel_rfl) (by kernel_rfl) (by kernel_rfl) (fun _ _ _ h => h) (Or.inl ⟨by rfl, ?hsc47⟩) (unhide HSW _ D6) ?_
          case hsc47 => (intro w hSw; (try dsimp only at hSw); go_simp) <;> with_reducible rfl
          simp only [Act.put, List.getElem_toArray, List.getElem_cons_zero, List.getElem_cons_succ, List.setIfInBounds_toArray, List.set_cons_zero, List.set_cons_succ]
          refine anyL_take (i := 2) (v := ?vsc48) rfl (by kernel_rfl) (by kernel_rfl) (by kernel_rfl) (by kernel_rfl) (fun _ _ _ h => h) (Or.inl ⟨by rfl, ?hsc48⟩) (unhide HSW _ D6) ?_
          case hsc48 => (intro w hSw; (try dsimp only at hSw); go_simp) <;> with_reducible rfl
          simp only [Act.put, List.getElem_toArray, List.getElem_cons_zero, List.getElem_cons_succ, List.setIfInBounds_toArray, List.set_cons_zero, List.set_cons_succ]
          refine anyL_take (i := 3) (v := ?vsc49) rfl (by kernel_rfl) (by kernel_rfl) (by kernel_rfl) (by kernel_rfl) (fun _ _ _ h => h) (Or.inl ⟨by rfl, ?hsc49⟩) (unhide HSW _ D6) ?_
          case hsc49 => (intro w hSw; (try dsimp only at hSw); go_simp) <;> with_reducible rfl
          simp only [Act.put, List.getElem_toArray, List.getElem_cons_zero, List.getElem_cons_succ, List.setIfInBounds_toArray, List.set_cons_zero, List.set_cons_succ]
          refine anyL_take (i := 4) (v := ?vsc50) rfl (by kernel_rfl) (by kernel_rfl) (by kernel_rfl) (by kernel_rfl) (fun _ _ _ h => h) (Or.inl ⟨by rfl, ?hsc50⟩) (unhide HSW _ D6) ?_
          case hsc50 => (intro w hSw; (try dsimp only at hSw); go_simp) <;> with_reducible rfl
          simp only [Act.put, List.getElem_toArray, List.getElem_cons_zero, List.getElem_cons_succ, List.setIfInBounds_toArray, List.set_cons_zero, List.set_cons_succ]
          refine anyL_take (i := 5) (v := ?vsc51) rfl (by kernel_rfl) (by kernel_rfl) (by kernel_rfl) (by kernel_rfl) (fun _ _ _ h => h) (Or.inl ⟨by rfl, ?hsc51⟩) (unhide HSW _ D6) ?_
          case hsc51 => (intro w hSw; (try dsimp only at hSw); go_simp) <;> with_reducible rfl
          simp only [Act.put, List.getElem_toArray, List.getElem_cons_zero, List.getElem_cons_succ, List.setIfInBounds_toArray, List.set_cons_zero, List.set_cons_succ]
          refine anyL_take (i := 6) (v := ?vsc52) rfl (by kernel_rfl) (by kernel_rfl) (by kernel_rfl) (by kernel_rfl) (fun _ _ _ h => h) (Or.inl ⟨by rfl, ?hsc52⟩) (unhide HSW _ D6) ?_
          case hsc52 => (intro w hSw; (try dsimp only at hSw); go_simp) <;> with_reducible rfl
          simp only [Act.put, List.getElem_toArray, List.getElem_cons_zero, List.getElem_cons_succ, List.setIfInBounds_toArray, List.set_cons_zero, List.set_cons_succ]
          refine anyL_take (i := 7) (v := ?vsc53) rfl (by kernel_rfl) (by kernel_rfl) (by kernel_rfl) (by kernel_rfl) (fun _ _ _ h => h) (Or.inl ⟨by rfl, ?hsc53⟩) (unhide HSW _ D6) ?_
          case hsc53 => (intro w hSw; (try dsimp only at hSw); go_simp) <;> with_reducible rfl
          simp only [Act.put, List.getElem_toArray, List.getElem_cons_zero, List.getElem_cons_succ, List.setIfInBounds_toArray, List.set_cons_zero, List.set_cons_succ]
          refine anyL_take (i := 8) (v := ?vsc54) rfl (by kernel_rfl) (by kernel_rfl) (by kernel_rfl) (by kernel_rfl) (fun _ _ _ h => h) (Or.inl ⟨by rfl, ?hsc54⟩) (unhide HSW _ D6) ?_
          case hsc54 => (intro w hSw; (try dsimp only at hSw); go_simp) <;> with_reducible rfl
          simp only [Act.put, List.getElem_toArray, List.getElem_cons_zero, List.getElem_cons_succ, List.setIfInBounds_toArray, List.set_cons_zero, List.set_cons_succ]
          refine anyL_take (i := 9) (v := ?vsc55) rfl (by kernel_rfl) (by kernel_rfl) (by kernel_rfl) (by kernel_rfl) (fun _ _ _ h => h) (Or.inl ⟨by rfl, ?hsc55⟩) (unhide HSW _ D6) ?_
          case hsc55 => (intro w hSw; (try dsimp only at hSw); go_simp) <;> with_reducible rfl
          simp only [Act.put, List.getElem_toArray, List.getElem_cons_zero, List.getElem_cons_succ, List.setIfInBounds_toArray, List.set_cons_zero, List.set_cons_succ]
          refine anyL_take (i := 10) (v := ?vsc56) rfl (by kernel_rfl) (by kernel_rfl) (by kernel_rfl) (by kernel_rfl) (fun _ _ _ h => h) (Or.inl ⟨by rfl, ?hsc56⟩) (unhide HSW _ D6) ?_
          case hsc56 => (intro w hSw; (try dsimp only at hSw); go_simp) <;> with_reducible rfl
          simp only [Act.put, List.getElem_toArray, List.getElem_cons_zero, List.getElem_cons_succ, List.setIfInBounds_toArray, List.set_cons_zero, List.set_cons_succ]
          refine anyL_take (i := 11) (v := ?vsc57) rfl (by kernel_rfl) (by kernel_rfl) (by kernel_rfl) (by kernel_rfl) (fun _ _ _ h => h) (Or.inl ⟨by rfl, ?hsc57⟩) (unhide HSW _ D6) ?_
          case hsc57 => (intro w hSw; (try dsimp only at hSw); go_simp) <;> with_reducible rfl
          simp only [Act.put, List.getElem_toArray, List.getElem_cons_zero, List.getElem_cons_succ, List.setIfInBounds_toArray, List.set_cons_zero, List.set_cons_succ]
          refine anyL_take (i := 12) (v := ?vsc58) rfl (by kernel_rfl) (by kernel_rfl) (by kernel_rfl) (by kernel_rfl) (fun _ _ _ h => h) (Or.inl ⟨by rfl, ?hsc58⟩) (unhide HSW _ D6) ?_
          case hsc58 => (intro w hSw; (try dsimp only at hSw); go_simp) <;> with_reducible rfl
          simp only [Act.put, List.getElem_toArray, List.getElem_cons_zero, List.getElem_cons_succ, List.setIfInBounds_toArray, List.set_cons_zero, List.set_cons_succ]
          refine anyL_ready (rs := [13]) (by kernel_rfl) (by simp) ?_
          refine AllL.cons rfl (fun K hK => ?_) AllL.nil
          go_simp
          refine (unhide HWh _).mono ?_
          rintro e y7 ⟨rfl, rfl⟩
          refine unhide hK _ _ (fun _ => unhide HSW _ D6) ?_
          clear hK K
          refine anyL_ready (rs := [14]) (by kernel_rfl) (by simp) ?_
          refine AllL.cons rfl (fun K hK => ?_) AllL.nil
          go_simp
          refine (unhide HSp _ D6).mono ?_
          rintro e y8 ⟨ga, gb, oa, ob, rfl, ra2, rb2, ta2, tb2, _, x8⟩
          have D8 := D6.trans (x8.mono D6.size)
          refine unhide hK _ _ (fun _ => unhide HSW _ D8) ?_
          clear hK K x8
          refine anyL_take (i := 15) (v := ?vsc59) rfl (by kernel_rfl) (by kernel_rfl) (by kernel_rfl) (by kernel_rfl) (fun _ _ _ h => h) (Or.inl ⟨by rfl, ?hsc59⟩) (unhide HSW _ D8) ?_
          case hsc59 => (intro w hSw; (try dsimp only at hSw); go_simp) <;> with_reducible rfl
          simp only [Act.put, List.getElem_toArray, List.getElem_cons_zero, List.getElem_cons_succ, List.setIfInBounds_toArray, List.set_cons_zero, List.set_cons_succ]
          refine anyL_take (i := 16) (v := ?vsc60) rfl (by kernel_rfl) (by kernel_rfl) (by kernel_rfl) (by kernel_rfl) (fun _ _ _ h => h) (Or.inl ⟨by rfl, ?hsc60⟩) (unhide HSW _ D8) ?_
          case hsc60 => (intro w hSw; (try dsimp only at hSw); go_simp) <;> with_reducible rfl
          simp only [Act.put, List.getElem_toArray, List.getElem_cons_zero, List.getElem_cons_succ, List.setIfInBounds_toArray, List.set_cons_zero, List.set_cons_succ]
          refine anyL_take (i := 17) (v := ?vsc61) rfl (by kernel_rfl) (by kernel_rfl) (by kernel_rfl) (by kernel_rfl) (fun _ _ _ h => h) (Or.inl ⟨by rfl, ?hsc61⟩) (unhide HSW _ D8) ?_
          case hsc61 => (intro w hSw; (try dsimp only at hSw); go_simp) <;> with_reducible rfl
          simp only [Act.put, List.getElem_toArray, List.getElem_cons_zero, List.getElem_cons_succ, List.setIfInBounds_toArray, List.set_cons_zero, List.set_cons_succ]
          refine anyL_take (i := 18) (v := ?vsc62) rfl (by kernel_rfl) (by kernel_rfl) (by kernel_rfl) (by kernel_rfl) (fun _ _ _ h => h) (Or.inl ⟨by rfl, ?hsc62⟩) (unhide HSW _ D8) ?_
          case hsc62 => (intro w hSw; (try dsimp only at hSw); go_simp) <;> with_reducible rfl
          simp only [Act.put, List.getElem_toArray, List.getElem_cons_zero, List.getElem_cons_succ, List.setIfInBounds_toArray, List.set_cons_zero, List.set_cons_succ]
          refine anyL_take (i := 19) (v := ?vsc63) rfl (by kernel_rfl) (by kernel_rfl) (by kernel_rfl) (by kernel_rfl) (fun _ _ _ h => h) (Or.inl ⟨by rfl, ?hsc63⟩) (unhide HSW _ D8) ?_
          case hsc63 => (intro w hSw; (try dsimp only at hSw); go_simp) <;> with_reducible rfl
          simp only [Act.put, List.getElem_toArray, List.getElem_cons_zero, List.getElem_cons_succ, List.setIfInBounds_toArray, List.set_cons_zero, List.set_cons_succ]
          refine anyL_take (i := 20) (v := ?vsc64) rfl (by kernel_rfl) (by kernel_rfl) (by kernel_rfl) (by kernel_rfl) (fun _ _ _ h => h) (Or.inl ⟨by rfl, ?hsc64⟩) (unhide HSW _ D8) ?_
          case hsc64 => (intro w hSw; (try dsimp only at hSw); go_simp) <;> with_reducible rfl
          simp only [Act.put, List.getElem_toArray, List.getElem_cons_zero, List.getElem_cons_succ, List.setIfInBounds_toArray, List.set_cons_zero, List.set_cons_succ]
          refine anyL_take (i := 21) (v := ?vsc65) rfl (by kernel_rfl) (by kernel_rfl) (by kernel_rfl) (by kernel_rfl) (fun _ _ _ h => h) (Or.inl ⟨by rfl, ?hsc65⟩) (unhide HSW _ D8) ?_
          case hsc65 => (intro w hSw; (try dsimp only at hSw); go_simp) <;> with_reducible rfl
          simp only [Act.put, List.getElem_toArray, List.getElem_cons_zero, List.getElem_cons_succ, List.setIfInBounds_toArray, List.set_cons_zero, List.set_cons_succ]
          refine anyL_done (by kernel_rfl) ?_ _
          have hAB : txtO oa ++ txtO ob = TT := by rw [ta2, tb2, unhide HTT, List.take_append_drop]
          have hla : (txtO oa).length + (txtO ob).length = ln := by rw [← List.length_append, hAB]; exact hLn
          have hinA : ∀ x ∈ txtO oa, 0 ≤ x ∧ x ≤ 255 := by obtain ⟨v, _, hv⟩ := ra2; exact txt_in hv
          have hinB : ∀ x ∈ txtO ob, 0 ≤ x ∧ x ≤ 255 := by obtain ⟨v, _, hv⟩ := rb2; exact txt_in hv
          have HWa := hide (Weld9_at ga oa y8 ra2)
          have HWb := hide fun (Y : World) (hb : Below y8.heap.size y8 Y) => Weld9_at gb ob Y (rb2.on hb)
          have HWj := hide fun (Y : World) (hb : Below y8.heap.size y8 Y) => Join_at (ofL (txtO oa)) (ofL (txtO ob)) Y (unhide HW Y (unhide HBw Y (D8.trans (hb.mono D8.size)))) (byw_of hinA) (byw_of hinB)
          rw [join_of hinA hinB (by omega)] at HWj
          rw [hAB] at HWj
          dsimp only at HWj
          have HJo := hide fun (Y : World) (hb : Below y8.heap.size y8 Y) => RoJoin9_at ga gb oa ob Y (ra2.on hb) (rb2.on hb) (by omega) (unhide HW Y (unhide HBw Y (D8.trans (hb.mono D8.size))))
          have HAB := hide hAB
          clear ta2 tb2 ra2 rb2 hAB hinA hinB HSp HWh D6 D5 hml
          go_wp2_with fail
          refine (unhide HWa).mono ?_
          rintro y y9 ⟨rfl, x9⟩
          dsimp only
          generalize weV (ofL (txtO oa)) = WA at *
          go_wp2_with fail
          refine (unhide HWb y9 x9).mono ?_
          rintro y y10 ⟨rfl, x10⟩
          dsimp only
          generalize weV (ofL (txtO ob)) = WB at *
          have x910 := x9.trans (x10.mono x9.size)
          obtain ⟨xr, xu, xe, xh, xt, hwl⟩ := wlC_is TT
          rw [hLn] at hwl
          have hwt : weV (ofL TT) = .agg #[.int .i64 (ln : Int), .int .i64 xr, .int .i64 xu, .int .i64 xe, .string xh, .string xt] := by rw [wlC_we, hwl]
          have HWi : Hid (∀ Y, Below wr.heap.size wr Y → Calls Tryd.prog 12 #[.pointer (some ⟨gi, 0, none⟩)] Y fun y w' => y = .returned (.agg #[.int .i64 (ln : Int), .int .i64 xr, .int .i64 xu, .int .i64 xe, .string xh, .string xt]) ∧ Below Y.heap.size Y w') := hide fun Y hb => by
            have h9 := Weld9_at gi oi Y (unhide HRI Y hb)
            rw [unhide HTT, hwt] at h9
            exact h9
          have HWj2 := hide (unhide HWj y10 x910)
          rw [hwt] at HWj2
          clear HWj hwt hwl HWa HWb
          go_wp2_with fail
          refine (unhide HWj2).mono ?_
          rintro y y11 ⟨rfl, x11⟩
          dsimp only
          have x811 := x910.trans (x11.mono x910.size)
          have x12 := (Below.refl y11.heap.size y11).alloc (Nat.le_refl _) (.cells #[.int .i64 (ln : Int), .int .i64 xr, .int .i64 xu, .int .i64 xe, .string xh, .string xt] 42)
          have k12 := push_get y11 (.cells #[.int .i64 (ln : Int), .int .i64 xr, .int .i64 xu, .int .i64 xe, .string xh, .string xt] 42)
          clear HWj2 x9 x10 x910 x11
          go_upto_region 21 with fail
          have x812 := x811.trans (x12.mono x811.size)
          generalize y11.alloc (.cells #[.int .i64 (ln : Int), .int .i64 xr, .int .i64 xu, .int .i64 xe, .string xh, .string xt] 42) = y12 at *
          generalize y11.heap.size = gW at *
          have HJo2 := hide (unhide HJo y12 x812)
          clear HJo x811 x12
          go_wp2_with fail
          refine (unhide HJo2).mono ?_
          rintro y y13 ⟨gc, rfl, rc2, x13⟩
          dsimp only
          have k13 := bk9_on k12 x13
          have x813 := x812.trans (x13.mono x812.size)
          have D13 := D8.trans (x813.mono D8.size)
          have E14 : Below y13.heap.size y13 y13.drew := (Below.refl _ y13).drew
          have HSZ := hide fun (Y : World) (hb : Below y13.heap.size y13 Y) => (show (fun w' : World => w'.cell? ⟨gT, 0, none⟩ = some (.slice (some ⟨gr, 0, none⟩) n rc) ∧ w'.cell? ⟨gT, 1, none⟩ = some (.slice (some ⟨gt, 0, none⟩) n tc) ∧ w'.cell? ⟨gr, i, none⟩ = some (.pointer (some ⟨gi, 0, none⟩)) ∧ w'.cell? ⟨gt, i, none⟩ = some (.string Si) ∧ w'.cell? ⟨gW, 0, none⟩ = some (.int .i64 (ln : Int)) ∧ w'.cell? ⟨gW, 1, none⟩ = some (.int .i64 xr) ∧ w'.cell? ⟨gW, 2, none⟩ = some (.int .i64 xu) ∧ w'.cell? ⟨gW, 3, none⟩ = some (.int .i64 xe) ∧ w'.cell? ⟨gW, 4, none⟩ = some (.string xh) ∧ w'.cell? ⟨gW, 5, none⟩ = some (.string xt)) Y from by
            obtain ⟨h1, h2, h3, h4⟩ := unhide HSW Y (D13.trans (hb.mono D13.size))
            obtain ⟨w0, w1, w2, w3, w4, w5, _⟩ := cells6 (bk9_on k13 hb)
            exact ⟨h1, h2, h3, h4, w0, w1, w2, w3, w4, w5⟩)
          have HWi := hide fun (Y : World) (hb : Below y13.heap.size y13 Y) => unhide HWi Y (D13.trans (hb.mono D13.size))
          have HSc : Hid (∀ Y, Below y13.heap.size y13 Y → Calls Tryd.prog 7 #[.pointer (some ⟨gc, 0, none⟩), .pointer (some ⟨gi, 0, none⟩)] Y fun y w' => y = .returned (.bool true) ∧ Below Y.heap.size Y w') := hide fun Y hb => by
            have h9 := Same9_at (some ⟨gc, 0, none⟩) (some ⟨gi, 0, none⟩) (joinO oa ob) oi Y (RoV.ro (rc2.on hb)) (RoV.ro (unhide HRI Y (D13.trans (hb.mono D13.size)))) (by rw [joinO_txt, unhide HAB, hLn]; exact hsi) (by rw [unhide HTT, hLn]; exact hsi)
            rw [joinO_txt, unhide HAB, unhide HTT, decide_eq_true rfl] at h9
            exact h9
          have hiw : IntKind.i64.wrap ((i : Int) + 1) = (i : Int) + 1 := by rw [IntKind.wrap_i64]; omega
          clear HJo2 k12 k13 x812 x813 rc2 x13
          go_upto_region 22 with fail
          refine regionL (S := fun w' => w'.cell? ⟨gT, 0, none⟩ = some (.slice (some ⟨gr, 0, none⟩) n rc) ∧ w'.cell? ⟨gT, 1, none⟩ = some (.slice (some ⟨gt, 0, none⟩) n tc) ∧ w'.cell? ⟨gr, i, none⟩ = some (.pointer (some ⟨gi, 0, none⟩)) ∧ w'.cell? ⟨gt, i, none⟩ = some (.string Si) ∧ w'.cell? ⟨gW, 0, none⟩ = some (.int .i64 (ln : Int)) ∧ w'.cell? ⟨gW, 1, none⟩ = some (.int .i64 xr) ∧ w'.cell? ⟨gW, 2, none⟩ = some (.int .i64 xu) ∧ w'.cell? ⟨gW, 3, none⟩ = some (.int .i64 xe) ∧ w'.cell? ⟨gW, 4, none⟩ = some (.string xh) ∧ w'.cell? ⟨gW, 5, none⟩ = some (.string xt)) (fun _ => false) (by kernel_rfl) ?_
          generalize y13.drew = y14 at *
          refine anyL_take (i := 0) (v := ?vsd22) rfl (by kernel_rfl) (by kernel_rfl) (by kernel_rfl) (by kernel_rfl) (fun _ _ _ h => h) (Or.inl ⟨by rfl, ?hsd22⟩) (unhide HSZ _ E14) ?_
          case hsd22 => (intro w hSw; (try dsimp only at hSw); go_simp) <;> with_reducible rfl
          simp only [Act.put, List.getElem_toArray, List.getElem_cons_zero, List.setIfInBounds_toArray, List.set_cons_zero, List.set_cons_succ]
          refine anyL_take (i := 1) (v := ?vsd23) rfl (by kernel_rfl) (by kernel_rfl) (by kernel_rfl) (by kernel_rfl) (fun _ _ _ h => h) (Or.inl ⟨by rfl, ?hsd23⟩) (unhide HSZ _ E14) ?_
          case hsd23 => (intro w hSw; (try dsimp only at hSw); go_simp) <;> with_reducible rfl
          simp only [Act.put, List.getElem_toArray, List.getElem_cons_zero, List.getElem_cons_succ, List.setIfInBounds_toArray, List.set_cons_zero, List.set_cons_succ]
          refine anyL_take (i := 2) (v := ?vsd24) rfl (by kernel_rfl) (by kernel_rfl) (by kernel_rfl) (by kernel_rfl) (fun _ _ _ h => h) (Or.inl ⟨by rfl, ?hsd24⟩) (unhide HSZ _ E14) ?_
          case hsd24 => (intro w hSw; (try dsimp only at hSw); go_simp) <;> with_reducible rfl
          simp only [Act.put, List.getElem_toArray, List.getElem_cons_zero, List.getElem_cons_succ, List.setIfInBounds_toArray, List.set_cons_zero, List.set_cons_succ]
          refine anyL_take (i := 3) (v := ?vsd25) rfl (by kernel_rfl) (by kernel_rfl) (by kernel_rfl) (by kernel_rfl) (fun _ _ _ h => h) (Or.inl ⟨by rfl, ?hsd25⟩) (unhide HSZ _ E14) ?_
          case hsd25 => (intro w hSw; (try dsimp only at hSw); go_simp) <;> with_reducible rfl
          simp only [Act.put, List.getElem_toArray, List.getElem_cons_zero, List.getElem_cons_succ, List.setIfInBounds_toArray, List.set_cons_zero, List.set_cons_succ]
          refine anyL_take (i := 4) (v := ?vsd26) rfl (by kernel_rfl) (by kernel_rfl) (by kernel_rfl) (by kernel_rfl) (fun _ _ _ h => h) (Or.inl ⟨by rfl, ?hsd26⟩) (unhide HSZ _ E14) ?_
          case hsd26 => (intro w hSw; (try dsimp only at hSw); go_simp) <;> with_reducible rfl
          simp only [Act.put, List.getElem_toArray, List.getElem_cons_zero, List.getElem_cons_succ, List.setIfInBounds_toArray, List.set_cons_zero, List.set_cons_succ]
          refine anyL_take (i := 5) (v := ?vsd27) rfl (by kernel_rfl) (by kernel_rfl) (by kernel_rfl) (by kernel_rfl) (fun _ _ _ h => h) (Or.inl ⟨by rfl, ?hsd27⟩) (unhide HSZ _ E14) ?_
          case hsd27 => (intro w hSw; (try dsimp only at hSw); go_simp) <;> with_reducible rfl
          simp only [Act.put, List.getElem_toArray, List.getElem_cons_zero, List.getElem_cons_succ, List.setIfInBounds_toArray, List.set_cons_zero, List.set_cons_succ]
          refine anyL_take (i := 6) (v := ?vsd28) rfl (by kernel_rfl) (by kernel_rfl) (by kernel_rfl) (by kernel_rfl) (fun _ _ _ h => h) (Or.inl ⟨by rfl, ?hsd28⟩) (unhide HSZ _ E14) ?_
          case hsd28 => (intro w hSw; (try dsimp only at hSw); go_simp) <;> with_reducible rfl
          simp only [Act.put, List.getElem_toArray, List.getElem_cons_zero, List.getElem_cons_succ, List.setIfInBounds_toArray, List.set_cons_zero, List.set_cons_succ]
          refine anyL_take (i := 7) (v := ?vsd29) rfl (by kernel_rfl) (by kernel_rfl) (by kernel_rfl) (by kernel_rfl) (fun _ _ _ h => h) (Or.inl ⟨by rfl, ?hsd29⟩) (unhide HSZ _ E14) ?_
          case hsd29 => (intro w hSw; (try dsimp only at hSw); go_simp) <;> with_reducible rfl
          simp only [Act.put, List.getElem_toArray, List.getElem_cons_zero, List.getElem_cons_succ, List.setIfInBounds_toArray, List.set_cons_zero, List.set_cons_succ]
          refine anyL_take (i := 8) (v := ?vsd30) rfl (by kernel_rfl) (by kernel_rfl) (by kernel_rfl) (by kernel_rfl) (fun _ _ _ h => h) (Or.inl ⟨by rfl, ?hsd30⟩) (unhide HSZ _ E14) ?_
          case hsd30 => (intro w hSw; (try dsimp only at hSw); go_simp) <;> with_reducible rfl
          simp only [Act.put, List.getElem_toArray, List.getElem_cons_zero, List.getElem_cons_succ, List.setIfInBounds_toArray, List.set_cons_zero, List.set_cons_succ]
          refine anyL_take (i := 9) (v := ?vsd31) rfl (by kernel_rfl) (by kernel_rfl) (by kernel_rfl) (by kernel_rfl) (fun _ _ _ h => h) (Or.inl ⟨by rfl, ?hsd31⟩) (unhide HSZ _ E14) ?_
          case hsd31 => (intro w hSw; (try dsimp only at hSw); go_simp) <;> with_reducible rfl
          simp only [Act.put, List.getElem_toArray, List.getElem_cons_zero, List.getElem_cons_succ, List.setIfInBounds_toArray, List.set_cons_zero, List.set_cons_succ]
          refine anyL_take (i := 10) (v := ?vsd32) rfl (by kernel_rfl) (by kernel_rfl) (by kernel_rfl) (by kernel_rfl) (fun _ _ _ h => h) (Or.inl ⟨by rfl, ?hsd32⟩) (unhide HSZ _ E14) ?_
          case hsd32 => (intro w hSw; (try dsimp only at hSw); go_simp) <;> with_reducible rfl
          simp only [Act.put, List.getElem_toArray, List.getElem_cons_zero, List.getElem_cons_succ, List.setIfInBounds_toArray, List.set_cons_zero, List.set_cons_succ]
          refine anyL_take (i := 11) (v := ?vsd33) rfl (by kernel_rfl) (by kernel_rfl) (by kernel_rfl) (by kernel_rfl) (fun _ _ _ h => h) (Or.inl ⟨by rfl, ?hsd33⟩) (unhide HSZ _ E14) ?_
          case hsd33 => (intro w hSw; (try dsimp only at hSw); go_simp) <;> with_reducible rfl
          simp only [Act.put, List.getElem_toArray, List.getElem_cons_zero, List.getElem_cons_succ, List.setIfInBounds_toArray, List.set_cons_zero, List.set_cons_succ]
          refine anyL_take (i := 12) (v := ?vsd34) rfl (by kernel_rfl) (by kernel_rfl) (by kernel_rfl) (by kernel_rfl) (fun _ _ _ h => h) (Or.inl ⟨by rfl, ?hsd34⟩) (unhide HSZ _ E14) ?_
          case hsd34 => (intro w hSw; (try dsimp only at hSw); go_simp) <;> with_reducible rfl
          simp only [Act.put, List.getElem_toArray, List.getElem_cons_zero, List.getElem_cons_succ, List.setIfInBounds_toArray, List.set_cons_zero, List.set_cons_succ]
          refine anyL_ready (rs := [13]) (by kernel_rfl) (by simp) ?_
          refine AllL.cons rfl (fun K hK => ?_) AllL.nil
          go_simp
          refine (unhide HWi _ E14).mono ?_
          rintro e y15 ⟨rfl, xy15⟩
          have E15 := E14.trans (xy15.mono E14.size)
          refine unhide hK _ _ (fun _ => unhide HSZ _ E15) ?_
          clear hK K xy15
          refine anyL_take (i := 14) (v := ?vsd35) rfl (by kernel_rfl) (by kernel_rfl) (by kernel_rfl) (by kernel_rfl) (fun _ _ _ h => h) (Or.inl ⟨by rfl, ?hsd35⟩) (unhide HSZ _ E15) ?_
          case hsd35 => (intro w hSw; (try dsimp only at hSw); go_simp) <;> with_reducible rfl
          simp only [Act.put, List.getElem_toArray, List.getElem_cons_zero, List.getElem_cons_succ, List.setIfInBounds_toArray, List.set_cons_zero, List.set_cons_succ]
          refine anyL_take (i := 15) (v := ?vsd36) rfl (by kernel_rfl) (by kernel_rfl) (by kernel_rfl) (by kernel_rfl) (fun _ _ _ h => h) (Or.inl ⟨by rfl, ?hsd36⟩) (unhide HSZ _ E15) ?_
          case hsd36 => (intro w hSw; (try dsimp only at hSw); go_simp) <;> with_reducible rfl
          simp only [Act.put, List.getElem_toArray, List.getElem_cons_zero, List.getElem_cons_succ, List.setIfInBounds_toArray, List.set_cons_zero, List.set_cons_succ]
          refine anyL_take (i := 16) (v := ?vsd37) rfl (by kernel_rfl) (by kernel_rfl) (by kernel_rfl) (by kernel_rfl) (fun _ _ _ h => h) (Or.inl ⟨by rfl, ?hsd37⟩) (unhide HSZ _ E15) ?_
          case hsd37 => (intro w hSw; (try dsimp only at hSw); go_simp) <;> with_reducible rfl
          simp only [Act.put, List.getElem_toArray, List.getElem_cons_zero, List.getElem_cons_succ, List.setIfInBounds_toArray, List.set_cons_zero, List.set_cons_succ]
          refine anyL_take (i := 17) (v := ?vsd38) rfl (by kernel_rfl) (by kernel_rfl) (by kernel_rfl) (by kernel_rfl) (fun _ _ _ h => h) (Or.inl ⟨by rfl, ?hsd38⟩) (unhide HSZ _ E15) ?_
          case hsd38 => (intro w hSw; (try dsimp only at hSw); go_simp) <;> with_reducible rfl
          simp only [Act.put, List.getElem_toArray, List.getElem_cons_zero, List.getElem_cons_succ, List.setIfInBounds_toArray, List.set_cons_zero, List.set_cons_succ]
          refine anyL_take (i := 18) (v := ?vsd39) rfl (by kernel_rfl) (by kernel_rfl) (by kernel_rfl) (by kernel_rfl) (fun _ _ _ h => h) (Or.inl ⟨by rfl, ?hsd39⟩) (unhide HSZ _ E15) ?_
          case hsd39 => (intro w hSw; (try dsimp only at hSw); go_simp) <;> with_reducible rfl
          simp only [Act.put, List.getElem_toArray, List.getElem_cons_zero, List.getElem_cons_succ, List.setIfInBounds_toArray, List.set_cons_zero, List.set_cons_succ]
          refine anyL_take (i := 19) (v := ?vsd40) rfl (by kernel_rfl) (by kernel_rfl) (by kernel_rfl) (by kernel_rfl) (fun _ _ _ h => h) (Or.inl ⟨by rfl, ?hsd40⟩) (unhide HSZ _ E15) ?_
          case hsd40 => (intro w hSw; (try dsimp only at hSw); go_simp) <;> with_reducible rfl
          simp only [Act.put, List.getElem_toArray, List.getElem_cons_zero, List.getElem_cons_succ, List.setIfInBounds_toArray, List.set_cons_zero, List.set_cons_succ]
          refine anyL_take (i := 20) (v := ?vsd41) rfl (by kernel_rfl) (by kernel_rfl) (by kernel_rfl) (by kernel_rfl) (fun _ _ _ h => h) (Or.inl ⟨by rfl, ?hsd41⟩) (unhide HSZ _ E15) ?_
          case hsd41 => (intro w hSw; (try dsimp only at hSw); go_simp) <;> with_reducible rfl
          simp only [Act.put, List.getElem_toArray, List.getElem_cons_zero, List.getElem_cons_succ, List.setIfInBounds_toArray, List.set_cons_zero, List.set_cons_succ]
          refine anyL_take (i := 21) (v := ?vsd42) rfl (by kernel_rfl) (by kernel_rfl) (by kernel_rfl) (by kernel_rfl) (fun _ _ _ h => h) (Or.inl ⟨by rfl, ?hsd42⟩) (unhide HSZ _ E15) ?_
          case hsd42 => (intro w hSw; (try dsimp only at hSw); go_simp) <;> with_reducible rfl
          simp only [Act.put, List.getElem_toArray, List.getElem_cons_zero, List.getElem_cons_succ, List.setIfInBounds_toArray, List.set_cons_zero, List.set_cons_succ]
          refine anyL_take (i := 22) (v := ?vsd43) rfl (by kernel_rfl) (by kernel_rfl) (by kernel_rfl) (by kernel_rfl) (fun _ _ _ h => h) (Or.inl ⟨by rfl, ?hsd43⟩) (unhide HSZ _ E15) ?_
          case hsd43 => (intro w hSw; (try dsimp only at hSw); go_simp) <;> with_reducible rfl
          simp only [Act.put, List.getElem_toArray, List.getElem_cons_zero, List.getElem_cons_succ, List.setIfInBounds_toArray, List.set_cons_zero, List.set_cons_succ]
          refine anyL_ready (rs := [23]) (by kernel_rfl) (by simp) ?_
          refine AllL.cons rfl (fun K hK => ?_) AllL.nil
          go_simp
          refine (unhide HSc _ E15).mono ?_
          rintro e y16 ⟨rfl, xy16⟩
          have E16 := E15.trans (xy16.mono E15.size)
          refine unhide hK _ _ (fun _ => unhide HSZ _ E16) ?_
          clear hK K xy16
          refine anyL_take (i := 24) (v := ?vsd44) rfl (by kernel_rfl) (by kernel_rfl) (by kernel_rfl) (by kernel_rfl) (fun _ _ _ h => h) (Or.inl ⟨by rfl, ?hsd44⟩) (unhide HSZ _ E16) ?_
          case hsd44 => (intro w hSw; (try dsimp only at hSw); go_simp) <;> with_reducible rfl
          simp only [Act.put, List.getElem_toArray, List.getElem_cons_zero, List.getElem_cons_succ, List.setIfInBounds_toArray, List.set_cons_zero, List.set_cons_succ]
          refine anyL_take (i := 25) (v := ?vsd45) rfl (by kernel_rfl) (by kernel_rfl) (by kernel_rfl) (by kernel_rfl) (fun _ _ _ h => h) (Or.inl ⟨by rfl, ?hsd45⟩) (unhide HSZ _ E16) ?_
          case hsd45 => (intro w hSw; (try dsimp only at hSw); go_simp) <;> with_reducible rfl
          simp only [Act.put, List.getElem_toArray, List.getElem_cons_zero, List.getElem_cons_succ, List.setIfInBounds_toArray, List.set_cons_zero, List.set_cons_succ]
          refine anyL_done (by kernel_rfl) ?_ _
          have HI2 : Hid (SaI w gT gs os y16) := hide ⟨(unhide HI).k.on (D13.trans (E16.mono D13.size)), (unhide HI).s, (unhide HI).b.trans ((D13.trans (E16.mono D13.size)).mono (unhide HI).b.size)⟩
          clear HSZ HWi HSc E14 E15 E16
          subst hnn
          go_wp2_with fail
          go_roundw
          case rel => exact ⟨⟨_, rfl⟩, ⟨_, rfl⟩, ⟨_, rfl⟩, ⟨_, rfl⟩, ⟨_, rfl⟩, ⟨_, rfl⟩, ⟨_, rfl⟩, ⟨_, rfl⟩, ⟨_, rfl⟩, ⟨_, rfl⟩, ⟨_, rfl⟩, i + 1, by go_num, by omega, HI2⟩
          case measure =>
            show gs.length - ((i : Int) + 1).toNat < gs.length - (i : Int).toNat
            omega
    · have t1 : ¬ (i : Int) < (gs.length : Int) := by omega
      have HSn := hide (Same9_at none none none none wr (RoV.nil wr) (RoV.nil wr) (by decide) (by decide))
      have HB := hide (unhide HI).b
      go_wp2_with fail
      refine (unhide HSn).mono ?_
      rintro y y9 ⟨rfl, x9⟩
      dsimp only
      have HX := hide ((unhide HB).trans (x9.mono (unhide HB).size))
      go_wp2_with fail
      refine bodyPost_ret (results_tmp rfl _ _ _) rfl ⟨rfl, unhide HX⟩

end Go.Proofs.YtcodpkmhpplamaaDoor
end

section
namespace Go.Proofs.YtcodpkmhpplamaaDoor
open Go.ChangeShapes Go.WideShapes Go.ChangeAt Go.RowKit
open Go.ChangeMaps (open_string shut_string)

set_option maxRecDepth 100000 in
theorem ropeSame_contract (H : Type) (enc : TypeId × Value → H) (W : World) (base : Nat) (args : Array Value) (ds gs : List (DataW H)) (before : List MemPlace)
    (hval : ∀ (j : Nat) t v, Tryd.f3.params[j]? = some t → args[j]? = some v → Value.okWide Tryd.prog W .any base t v)
    (hW : DataW.Whole enc Tryd.prog Tryd.f3.params.toList Rows.ropeSameSpec.vars false W args.toList ds gs before) (hsz : (DataW.weightsEach Tryd.prog (Tryd.f3.params.toList ++ (OpenSpec.ofChange Rows.ropeSameSpec).bare.plain.varTypes Tryd.prog) (ds ++ gs)).all (· ≤ reachBytes) = true) (hL : laidMetH Tryd.prog Rows.ropeSameRow.laid W) (hsh : W.ShapedOpen Tryd.prog) :
    Calls Tryd.prog 3 args W fun e W' => ∃ v, e = .returned v ∧ Rows.ropeSameSpec.post enc Tryd.prog Tryd.f3 false true false false W args v W' := by
  have hW' := hW
  obtain ⟨p, q, hA0, hV, rfl, _, _⟩ := hW
  have hA : DataW.TrodAll enc Tryd.prog W 0 (fun _ => true) true Tryd.f3.params.toList args.toList ds p := hA0
  rw [Tryd.params3] at hA hval hsz
  obtain ⟨v0, vs0, d0, ds0, p0, q0, hargs, rfl, rfl, h0, r0⟩ := trodAll_cons hA
  obtain ⟨v1, vs1, d1, ds1, p1, q1, rfl, rfl, rfl, h1, r1⟩ := trodAll_cons r0
  obtain ⟨rfl, rfl, rfl⟩ := trodAll_nil r1
  obtain rfl : args = #[v0, v1] := by cases args; simp_all
  obtain ⟨rfl, rfl⟩ := trodVars_none hV
  obtain ⟨a0, len0, cap0, rfl⟩ := okWide_slice Tryd.underlying22 (hval 0 22 v0 rfl rfl)
  have k0 := h0
  have lt0 : ∀ x ∈ p0, x.block < W.heap.size := by obtain ⟨m, hm⟩ := k0; exact DataW.trod_lt m _ _ _ hm
  obtain ⟨l0, rfl, w0, u0⟩ := acts1_of_trod h0 hsz (j := 0) rfl rfl
  obtain ⟨x1, rfl, rfl, rfl, w1⟩ := open_int Tryd.underlying3 (hval 1 3 v1 rfl rfl) h1
  clear hA0
  refine (RopeSame_any a0 cap0 l0 x1 W w0 u0 w1 (wt_of hL hsh)).mono fun e W' ⟨he, bel⟩ => ?_
  subst he
  exact ⟨_, rfl, _, _, _, [], _, [], hW', trodAll_mk1 (shut_bool Tryd.underlying4 _), (trodAll_cons_mk (Below.trod laidOut (by kernel_rfl) (of_decide_eq_true (by kernel_rfl)) k0 bel lt0) (trodAll_cons_mk (shut_int Tryd.underlying3 w1) trodAll_mk0)), rfl, bel.frame _, fun h => by cases h⟩

theorem ropeSame_met (os : Os) : laidMet Tryd.prog Rows.ropeSameRow.laid ((laidWorldW os).forCall (fun _ _ => 0) ⟨#[], #[.slice none 0 0, .int .i64 0], []⟩).memory :=
  laidMet_of_run' 8 (by kernel_rfl) (by kernel_rfl)
theorem ropeSame_reads (os : Os) {H : Type} (enc : TypeId × Value → H) : ∃ places, DataW.whole enc Tryd.prog ((laidWorldW os).forCall (fun _ _ => 0) ⟨#[], #[.slice none 0 0, .int .i64 0], []⟩).memory Tryd.f3.params.toList Rows.ropeSameSpec.vars false (#[.slice none 0 0, .int .i64 0] : Array Value).toList 8 = some ([.nil, .lit (.int .i64 0)], [], places) :=
  ⟨[], by kernel_rfl⟩

set_option maxRecDepth 100000 in
theorem ropeSame_lifted (os : Os) (started : os.Started) (H : Type) (enc : TypeId × Value → H) (F : Stop.Interp) :
    ReturnsInHanded {} Tryd.checked os 3 .any ((OpenSpec.ofChange Rows.ropeSameSpec).preRow enc Tryd.prog Tryd.f3 Rows.ropeSameRow.domain false Rows.ropeSameRow.laid) (((OpenSpec.ofChange Rows.ropeSameSpec).at F).post enc Tryd.prog Tryd.f3 false true false false) := by
  obtain ⟨places, hx⟩ := ropeSame_reads os enc
  refine returnsInHanded_of_row (C := Tryd.checked) (s := OpenSpec.ofChange Rows.ropeSameSpec) own started (by kernel_rfl) Tryd.func3
    (witness_row_at (enc := enc) (C := Tryd.checked) false (laidWorldW os) #[.slice none 0 0, .int .i64 0] rfl (by kernel_rfl) (by kernel_rfl) (by kernel_rfl)
      (OpenSpec.preRow_of_cond 8 hx (by kernel_rfl) (fun k hk => by cases hk) (by kernel_rfl) (ropeSame_met os))) ?_
  intro W base args ds gs before hval hW _ _ hsz hL hsh _
  exact ropeSame_contract H enc W base args ds gs before hval hW hsz hL hsh

theorem ropeSame_said : Rows.RopeSameSaid :=
  OpenClaim.holds_of_cond 3 Tryd.f3 rfl rfl rfl rfl rfl rfl rfl ⟨rfl, rfl, rfl, rfl, rfl⟩ rfl rfl rfl rfl rfl (by kernel_rfl) Tryd.func3 (by kernel_rfl)
    (of_decide_eq_true (by kernel_rfl)) (by unfold Func.isWrapper; first | (rw [if_pos (by decide +kernel)]; kernel_rfl) | (rw [if_neg (by decide +kernel)]; exact ⟨rfl, rfl⟩))
    (fun os started H enc _ F => by rw [OpenClaim.pre_eq_preRow]; exact ropeSame_lifted os started H enc F)

theorem ropeSame_plain (f : FuncId) (fn : Func) (hf : Tryd.pinned.checked.prog.funcNamed "galley/galleylaw09.RopeSame" = some f) (hfn : Tryd.pinned.checked.prog.funcs[f]? = some fn) :
    true = Tryd.pinned.checked.prog.looks [] ∧ ∀ (j : Nat) t, fn.params[j]? = some t → Tryd.pinned.checked.prog.wantsStandIn t = false := by
  obtain rfl : f = 3 := Option.some.inj ((show Tryd.prog.funcNamed "galley/galleylaw09.RopeSame" = some 3 by kernel_rfl).symm.trans hf) |>.symm
  obtain rfl : fn = Tryd.f3 := (Option.some.inj (Tryd.func3.symm.trans hfn)).symm
  refine ⟨by kernel_rfl, fun j t ht => ?_⟩
  rw [Tryd.params3] at ht
  have hm := Array.mem_of_getElem? ht
  simp only [List.mem_toArray, List.mem_cons, List.not_mem_nil, or_false] at hm
  rcases hm with rfl | rfl
  · exact (show Tryd.prog.wantsStandIn 22 = false by kernel_rfl)
  · exact (show Tryd.prog.wantsStandIn 3 = false by kernel_rfl)

/-- the card -/
theorem ropeSame_card : Rows.RopeSameCardSaid :=
  Claim7.holds_tied_plain_at .later [] _ _ _ _ ropeSame_said (fun _ h => by cases h) (by kernel_rfl) (fun _ h => by cases h) ropeSame_row_tie rfl ⟨rfl, rfl⟩ (by kernel_rfl) rfl ropeSame_plain (by kernel_rfl)

#print axioms ropeSame_card
end Go.Proofs.YtcodpkmhpplamaaDoor
end
