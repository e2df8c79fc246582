/- ScanPieces: the loop over the steps: the body. -/
import Derived.Test.YthpbgeaajehlkaaDoorPieC
namespace Go.Proofs.YthpbgeaajehlkaaDoor
open Go.ChangeShapes Go.WideShapes Go.ChangeAt Go.RowKit
attribute [local go_sem] Oper.semAt_some

set_option maxRecDepth 100000 in
set_option maxHeartbeats 4000000 in
theorem pie_other (R G gs gk ga Bn n₁ : Nat) (l : List Int) (vg : Value) (w : World) (B : Nat) (asg bod : Code) (hr : rangeParts (bodyF Tryd.f4) = some (asg, bod)) (lo : Nat) (pre : List (PlL l)) (x q : Nat) (hxs : x < l.length) (a' : Act) (W : World)
    (h1 : spots l 0 = vals pre ++ spots l q) (hm : Pl R G gs gk ga Bn n₁ l vg w pre.length q W) (hw : R ≤ w.heap.size) (hl : l.length ≤ 1048576) (_ne : gk ≠ ga ∧ G ≠ ga ∧ G ≠ gk ∧ R ≠ ga ∧ R ≠ gk ∧ Bn ≠ ga ∧ Bn ≠ gk ∧ gs ≠ ga ∧ gs ≠ gk) (_hn0 : gk ≠ 0 ∧ ga ≠ 0) (hA : plA R G gk ga l ⟨x, hxs⟩ a' W) (hlt : pre.length < (spots l 0).length) (hxq : x ≠ q) (heq : ¬ ((first (l.drop q)).1 = (first (l.drop x)).1 ∧ wid (l.drop q) = wid (l.drop x) ∧ whl (l.drop q) = whl (l.drop x))) :
    bod.wpIn (Fence.wide.inRound lo) 1 Tryd.prog (ownPostG B (Kq Bn) (plI R G gs gk ga Bn n₁ l vg w) (plX l) (pre ++ [⟨x, hxs⟩]) W) a' W := by
  cases hr
  obtain ⟨Bx, bX, ⟨t0, t1, t3, t4, t6, t9, t12, t13, t14, t15, t16, t17, t18, t19, t20, t21, t22, t23, t24, t25, t26, t27, t28, t29, t30, t31, t32, t33, t34, t35, t36, t37, t38, t39, t40, t41, t42, t43, t44, t45, t46, t47, t48, t49, t50, t51, t52, t53, t54, t55, t56, t57, t58, t59, t60, t61, t62, t63, t64, t65, t66, t67, t68, t69, t70, t71, t72, t73, t74, t75, t76, t77, t78, t79, t80, t81, t82, t83, t84, t85, t86, t87, t88, t89, t90, t91, t92, t93, t94, t95, t96, t97, t98, t99, t100, t101, t102, t103, t104, t105, t106, t107, t108, t109, t110, rfl⟩⟩ := hA
  obtain ⟨hq, h3, h4⟩ := spots_next h1 hlt
  have hmd := hm.drew hw
  have bXd : Box3 W.drew Bx 45 _ _ _ := bX
  have o0 : KeepsOthers W W.drew := KeepsOthers.drew W
  have hd0 : ∀ k : Nat, W.drew.heap[k]? = W.heap[k]? := fun _ => rfl
  have hdz : W.drew.heap.size = W.heap.size := rfl
  have HD0 := hide hd0
  have HDZ := hide hdz
  clear hd0 hdz
  obtain ⟨av, cv, rfl, hcv, ht, _⟩ := hmd.got.at
  have hN : (stepsL l).length = (spots l 0).length := by simp [stepsL]
  have hNl := stepsL_len l
  rcases ht with ht | ⟨gv, rfl, hgv, hc⟩
  · rw [ht] at hN; simp at hN; omega
  obtain ⟨y0, y1, y2⟩ := hc pre.length (by omega)
  rw [h4] at y0 y1 y2
  simp only [tri] at y0 y1 y2
  obtain ⟨x0, x1, x2⟩ := bXd.cells
  have k0 := hmd.bk.cell
  have q0 := hmd.ba.cell
  have g0 := hmd.bg.cell
  have hwq := wid_len hq
  have hwp := wid_pos hq
  have HX := hide (not_next hxs h3 hxq)
  have hjN : decide (((pre.length : Nat) : Int) ≥ ((stepsL l).length : Int)) = false := decide_eq_false (by omega)
  have hjN' : decide (((stepsL l).length : Int) ≤ ((pre.length : Nat) : Int)) = false := decide_eq_false (by omega)
  have hjI : ((pre.length : Nat) : Int) < ((stepsL l).length : Int) := by omega
  have hnle : ¬ (stepsL l).length ≤ pre.length := by omega
  have hjl : pre.length < (stepsL l).length := by omega
  have br := hmd.br.cell
  have fr0 := hmd.br.frozen
  have hxi : ((x : Int) != (q : Int)) = true := by simp; omega
  have hxi' : ¬ (x : Int) = (q : Int) := by omega
  generalize (first (l.drop q)).1 = fr at *
  generalize wid (l.drop q) = wd at *
  generalize whl (l.drop q) = wh at *
  generalize (first (l.drop x)).1 = frx at *
  generalize wid (l.drop x) = wdx at *
  generalize whl (l.drop x) = whx at *
  generalize (stepsL l).length = N at *
  have hj1 : pre.length ≤ 1048576 := by omega
  generalize hj : pre.length = j at *
  clear h1 h3 h4 hN hc hm hmd hNl hj bX bXd hlt
  have HNE := hide heq
  clear heq
  have HS : Hid (W.drew.cell? ⟨gk, 0, none⟩ = some (.int .i64 (j : Int)) ∧ W.drew.cell? ⟨ga, 0, none⟩ = some (.int .i64 (q : Int)) ∧ W.drew.cell? ⟨G, 0, none⟩ = some (.slice (some ⟨gv, 0, none⟩) N cv) ∧ W.drew.cell? ⟨gv, j * 3, none⟩ = some (.int .i32 fr) ∧ W.drew.cell? ⟨gv, j * 3 + 1, none⟩ = some (.int .i64 (wd : Int)) ∧ W.drew.cell? ⟨gv, j * 3 + 2, none⟩ = some (.bool wh) ∧ W.drew.cell? ⟨Bx, 0, none⟩ = some (.int .i32 frx) ∧ W.drew.cell? ⟨Bx, 1, none⟩ = some (.int .i64 (wdx : Int)) ∧ W.drew.cell? ⟨Bx, 2, none⟩ = some (.bool whx)) := hide ⟨k0, q0, g0, y0, y1, y2, x0, x1, x2⟩
  clear k0 q0 g0 y0 y1 y2 x0 x1 x2
  gi_wp2_with fail
  refine regionL_in (S := fun w' => w'.cell? ⟨gk, 0, none⟩ = some (.int .i64 (j : Int)) ∧ w'.cell? ⟨ga, 0, none⟩ = some (.int .i64 (q : Int)) ∧ w'.cell? ⟨G, 0, none⟩ = some (.slice (some ⟨gv, 0, none⟩) N cv) ∧ w'.cell? ⟨gv, j * 3, none⟩ = some (.int .i32 fr) ∧ w'.cell? ⟨gv, j * 3 + 1, none⟩ = some (.int .i64 (wd : Int)) ∧ w'.cell? ⟨gv, j * 3 + 2, none⟩ = some (.bool wh) ∧ w'.cell? ⟨Bx, 0, none⟩ = some (.int .i32 frx) ∧ w'.cell? ⟨Bx, 1, none⟩ = some (.int .i64 (wdx : Int)) ∧ w'.cell? ⟨Bx, 2, none⟩ = some (.bool whx)) (fun _ => false) (by kernel_rfl) ?hd ?hq ?_
  case hd =>
    intro j o c h e
    have := Array.mem_of_getElem? h
    simp only [List.mem_toArray, List.mem_cons, List.not_mem_nil, or_false] at this
    rcases this with rfl | rfl | rfl | rfl | rfl | rfl | rfl | rfl | rfl | rfl | rfl | rfl | rfl | rfl | rfl | rfl | rfl <;> cases e
  case hq => rintro ⟨a, w, h⟩; exact h
  generalize W.drew = wd0 at *
  refine anyL_take (i := 0) (v := ?v0) rfl (by kernel_rfl) (by kernel_rfl) (by kernel_rfl) (by kernel_rfl) (fun _ _ _ h => h) (Or.inl ⟨by rfl, ?h0⟩) (unhide HS) ?_
  case h0 => (intro w hSw; (try dsimp only at hSw); go_simp) <;> with_reducible rfl
  simp only [Act.put, List.getElem_toArray, List.getElem_cons_zero, List.setIfInBounds_toArray, List.set_cons_zero, List.set_cons_succ]
  refine anyL_take (i := 1) (v := ?v1) rfl (by kernel_rfl) (by kernel_rfl) (by kernel_rfl) (by kernel_rfl) (fun _ _ _ h => h) (Or.inl ⟨by rfl, ?h1⟩) (unhide HS) ?_
  case h1 => (intro w hSw; (try dsimp only at hSw); go_simp) <;> with_reducible rfl
  simp only [Act.put, List.getElem_toArray, List.getElem_cons_zero, List.getElem_cons_succ, List.setIfInBounds_toArray, List.set_cons_zero, List.set_cons_succ]
  refine anyL_take (i := 2) (v := ?v2) rfl (by kernel_rfl) (by kernel_rfl) (by kernel_rfl) (by kernel_rfl) (fun _ _ _ h => h) (Or.inl ⟨by rfl, ?h2⟩) (unhide HS) ?_
  case h2 => (intro w hSw; (try dsimp only at hSw); go_simp) <;> with_reducible rfl
  simp only [Act.put, List.getElem_toArray, List.getElem_cons_zero, List.getElem_cons_succ, List.setIfInBounds_toArray, List.set_cons_zero, List.set_cons_succ]
  refine anyL_take (i := 3) (v := ?v3) rfl (by kernel_rfl) (by kernel_rfl) (by kernel_rfl) (by kernel_rfl) (fun _ _ _ h => h) (Or.inl ⟨by rfl, ?h3⟩) (unhide HS) ?_
  case h3 => (intro w hSw; (try dsimp only at hSw); go_simp) <;> with_reducible rfl
  simp only [Act.put, List.getElem_toArray, List.getElem_cons_zero, List.getElem_cons_succ, List.setIfInBounds_toArray, List.set_cons_zero, List.set_cons_succ]
  refine anyL_take (i := 4) (v := ?v4) rfl (by kernel_rfl) (by kernel_rfl) (by kernel_rfl) (by kernel_rfl) (fun _ _ _ h => h) (Or.inl ⟨by rfl, ?h4⟩) (unhide HS) ?_
  case h4 => (intro w hSw; (try dsimp only at hSw); go_simp) <;> with_reducible rfl
  simp only [Act.put, List.getElem_toArray, List.getElem_cons_zero, List.getElem_cons_succ, List.setIfInBounds_toArray, List.set_cons_zero, List.set_cons_succ]
  refine anyL_take (i := 5) (v := ?v5) rfl (by kernel_rfl) (by kernel_rfl) (by kernel_rfl) (by kernel_rfl) (fun _ _ _ h => h) (Or.inl ⟨by rfl, ?h5⟩) (unhide HS) ?_
  case h5 => (intro w hSw; (try dsimp only at hSw); go_simp) <;> with_reducible rfl
  simp only [Act.put, List.getElem_toArray, List.getElem_cons_zero, List.getElem_cons_succ, List.setIfInBounds_toArray, List.set_cons_zero, List.set_cons_succ]
  refine anyL_take (i := 6) (v := ?v6) rfl (by kernel_rfl) (by kernel_rfl) (by kernel_rfl) (by kernel_rfl) (fun _ _ _ h => h) (Or.inl ⟨by rfl, ?h6⟩) (unhide HS) ?_
  case h6 => (intro w hSw; (try dsimp only at hSw); go_simp) <;> with_reducible rfl
  simp only [Act.put, List.getElem_toArray, List.getElem_cons_zero, List.getElem_cons_succ, List.setIfInBounds_toArray, List.set_cons_zero, List.set_cons_succ]
  refine anyL_take (i := 7) (v := ?v7) rfl (by kernel_rfl) (by kernel_rfl) (by kernel_rfl) (by kernel_rfl) (fun _ _ _ h => h) (Or.inl ⟨by rfl, ?h7⟩) (unhide HS) ?_
  case h7 => (intro w hSw; (try dsimp only at hSw); go_simp) <;> with_reducible rfl
  simp only [Act.put, List.getElem_toArray, List.getElem_cons_zero, List.getElem_cons_succ, List.setIfInBounds_toArray, List.set_cons_zero, List.set_cons_succ]
  refine anyL_take (i := 8) (v := ?v8) rfl (by kernel_rfl) (by kernel_rfl) (by kernel_rfl) (by kernel_rfl) (fun _ _ _ h => h) (Or.inl ⟨by rfl, ?h8⟩) (unhide HS) ?_
  case h8 => (intro w hSw; (try dsimp only at hSw); go_simp) <;> with_reducible rfl
  simp only [Act.put, List.getElem_toArray, List.getElem_cons_zero, List.getElem_cons_succ, List.setIfInBounds_toArray, List.set_cons_zero, List.set_cons_succ]
  refine anyL_take (i := 9) (v := ?v9) rfl (by kernel_rfl) (by kernel_rfl) (by kernel_rfl) (by kernel_rfl) (fun _ _ _ h => h) (Or.inl ⟨by rfl, ?h9⟩) (unhide HS) ?_
  case h9 => (intro w hSw; (try dsimp only at hSw); go_simp) <;> with_reducible rfl
  simp only [Act.put, List.getElem_toArray, List.getElem_cons_zero, List.getElem_cons_succ, List.setIfInBounds_toArray, List.set_cons_zero, List.set_cons_succ]
  refine anyL_take (i := 10) (v := .bool true) rfl (by kernel_rfl) (by kernel_rfl) (by kernel_rfl) (by kernel_rfl) (fun _ _ _ h => h) (Or.inl ⟨by rfl, ?h10⟩) (unhide HS) ?_
  case h10 =>
    intro w hSw
    try dsimp only at hSw
    go_simp
    by_cases a1 : fr = frx
    · by_cases a2 : wd = wdx
      · by_cases a3 : wh = whx
        · exact absurd ⟨a1, a2, a3⟩ (unhide HNE)
        · simp [a1, a2, a3]
      · have a2' : ¬ (wd : Int) = (wdx : Int) := by omega
        simp [a1, a2']
    · simp [a1]
  simp only [Act.put, List.getElem_toArray, List.getElem_cons_zero, List.getElem_cons_succ, List.setIfInBounds_toArray, List.set_cons_zero, List.set_cons_succ]
  refine anyL_take (i := 11) (v := ?v11) rfl (by kernel_rfl) (by kernel_rfl) (by kernel_rfl) (by kernel_rfl) (fun _ _ _ h => h) (Or.inl ⟨by rfl, ?h11⟩) (unhide HS) ?_
  case h11 => (intro w hSw; (try dsimp only at hSw); go_simp) <;> with_reducible rfl
  simp only [Act.put, List.getElem_toArray, List.getElem_cons_zero, List.getElem_cons_succ, List.setIfInBounds_toArray, List.set_cons_zero, List.set_cons_succ]
  refine anyL_take (i := 12) (v := ?v12) rfl (by kernel_rfl) (by kernel_rfl) (by kernel_rfl) (by kernel_rfl) (fun _ _ _ h => h) (Or.inl ⟨by rfl, ?h12⟩) (unhide HS) ?_
  case h12 => (intro w hSw; (try dsimp only at hSw); go_simp) <;> with_reducible rfl
  simp only [Act.put, List.getElem_toArray, List.getElem_cons_zero, List.getElem_cons_succ, List.setIfInBounds_toArray, List.set_cons_zero, List.set_cons_succ]
  refine anyL_take (i := 13) (v := undef) rfl (by kernel_rfl) (by kernel_rfl) (by kernel_rfl) (by kernel_rfl) (fun _ _ _ h => h) (Or.inr ⟨by rfl, rfl⟩) (unhide HS) ?_
  simp only [Act.put, List.getElem_toArray, List.getElem_cons_zero, List.getElem_cons_succ, List.setIfInBounds_toArray, List.set_cons_zero, List.set_cons_succ]
  refine anyL_take (i := 14) (v := undef) rfl (by kernel_rfl) (by kernel_rfl) (by kernel_rfl) (by kernel_rfl) (fun _ _ _ h => h) (Or.inr ⟨by rfl, rfl⟩) (unhide HS) ?_
  simp only [Act.put, List.getElem_toArray, List.getElem_cons_zero, List.getElem_cons_succ, List.setIfInBounds_toArray, List.set_cons_zero, List.set_cons_succ]
  refine anyL_take (i := 15) (v := undef) rfl (by kernel_rfl) (by kernel_rfl) (by kernel_rfl) (by kernel_rfl) (fun _ _ _ h => h) (Or.inr ⟨by rfl, rfl⟩) (unhide HS) ?_
  simp only [Act.put, List.getElem_toArray, List.getElem_cons_zero, List.getElem_cons_succ, List.setIfInBounds_toArray, List.set_cons_zero, List.set_cons_succ]
  refine anyL_take (i := 16) (v := ?v16) rfl (by kernel_rfl) (by kernel_rfl) (by kernel_rfl) (by kernel_rfl) (fun _ _ _ h => h) (Or.inl ⟨by rfl, ?h16⟩) (unhide HS) ?_
  case h16 => (intro w hSw; (try dsimp only at hSw); go_simp) <;> with_reducible rfl
  simp only [Act.put, List.getElem_toArray, List.getElem_cons_zero, List.getElem_cons_succ, List.setIfInBounds_toArray, List.set_cons_zero, List.set_cons_succ]
  refine anyL_done (by kernel_rfl) ?_ _
  gi_wp2
  exact ⟨(o0.trans (KeepsOthers.setCell _ _ _)).from _, unhide HX⟩
end Go.Proofs.YthpbgeaajehlkaaDoor
