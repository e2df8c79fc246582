/- Layer 5: the document's Of. -/
import Derived.Test.YtchlnphapnafcaaDoorRw7
namespace Go.Proofs.YtchlnphapnafcaaDoor
open Go.ChangeShapes Go.WideShapes Go.ChangeAt Go.RowKit
attribute [local go_sem] Oper.semAt_some

set_option maxRecDepth 100000 in
set_option maxHeartbeats 4000000 in
theorem ROf_at (a0 : Option Addr) (cap : Nat) (l : List Int) (w : World) (hB : IsB w a0 cap l) (hl : l.length ≤ 268435456) :
    Calls Tryd.prog 23 #[.slice a0 l.length cap] w fun y w' => y = .returned (weV (ofL l)) ∧ Below w.heap.size w w' := by
  have x1 := (Below.refl w.heap.size w).alloc (Nat.le_refl _) (.cells #[.int .i64 0, .int .i64 0, .int .i64 0, .int .i64 0, .string ⟨#[]⟩, .string ⟨#[]⟩] 25)
  have g1 := push_get w (.cells #[.int .i64 0, .int .i64 0, .int .i64 0, .int .i64 0, .string ⟨#[]⟩, .string ⟨#[]⟩] 25)
  have z1 : w.heap.size < (w.alloc (.cells #[.int .i64 0, .int .i64 0, .int .i64 0, .int .i64 0, .string ⟨#[]⟩, .string ⟨#[]⟩] 25)).heap.size := by simp
  have t4 : decide ((l.length : Int) > 268435456) = false := decide_eq_false (by omega)
  have t5 : decide ((268435456 : Int) < (l.length : Int)) = false := decide_eq_false (by omega)
  have t5' : decide (268435456 < l.length) = false := decide_eq_false (by omega)
  have HSZ := hide fun X h => RSizes_at a0 cap l X h hl
  have HHD := hide fun X => Rhead_at l X hl
  have HTL := hide fun X => Rtail_at l X hl
  have HV : Hid (weV (ofL l) = .agg #[.int .i64 (szL l).b, .int .i64 (szL l).r, .int .i64 (szL l).u, .int .i64 (szL l).e, .string (strOfNums (l.take 3)), .string (strOfNums (tail3 l))]) := hide rfl
  unfold szV at HSZ
  go_enter Tryd.func23, Tryd.ntmps23
  go_upto_region 3 with fail
  clear t4 t5 t5'
  generalize w.alloc (.cells #[.int .i64 0, .int .i64 0, .int .i64 0, .int .i64 0, .string ⟨#[]⟩, .string ⟨#[]⟩] 25) = w1 at *
  have x2 := x1.trans (((Below.refl w1.heap.size w1).drew).mono x1.size)
  have g2 : w1.drew.heap[w.heap.size]? = _ := (((Below.refl w1.heap.size w1).drew).block _ z1).trans g1
  have z2 : w.heap.size < w1.drew.heap.size := z1
  have HB := hide hB
  clear hB x1 g1 z1
  have HS0 : Hid ((fun w' : World => (convert 43 9 (.slice a0 l.length cap)).run Tryd.prog w' = .ok (.string (strOfNums l)) w') w1.drew) := hide (str_bs _ a0 cap l ((unhide HB).below x2 (Nat.le_refl _)).2.2.1)
  refine regionL (S := fun w' => (convert 43 9 (.slice a0 l.length cap)).run Tryd.prog w' = .ok (.string (strOfNums l)) w') (fun i => i == 9) (by kernel_rfl) ?_
  generalize w1.drew = y0 at *
  generalize (szL l).b = zb at *
  generalize (szL l).r = zr at *
  generalize (szL l).u = zu at *
  generalize (szL l).e = ze at *
  generalize strOfNums (l.take 3) = sh at *
  generalize strOfNums (tail3 l) = st at *
  refine anyL_take (i := 0) (v := ?vo0) rfl (by kernel_rfl) (by kernel_rfl) (by kernel_rfl) (by kernel_rfl) (fun _ _ _ h => h) (Or.inl ⟨by rfl, ?ho0⟩) (unhide HS0) ?_
  case ho0 => (intro w hSw; (try dsimp only at hSw); go_simp) <;> with_reducible rfl
  simp only [Act.put, List.getElem_toArray, List.getElem_cons_zero, List.setIfInBounds_toArray, List.set_cons_zero, List.set_cons_succ]
  refine anyL_take (i := 2) (v := ?vo2) rfl (by kernel_rfl) (by kernel_rfl) (by kernel_rfl) (by kernel_rfl) (fun _ _ _ h => h) (Or.inl ⟨by rfl, ?ho2⟩) (unhide HS0) ?_
  case ho2 => (intro w hSw; (try dsimp only at hSw); go_simp) <;> with_reducible rfl
  simp only [Act.put, List.getElem_toArray, List.getElem_cons_zero, List.getElem_cons_succ, List.setIfInBounds_toArray, List.set_cons_zero, List.set_cons_succ]
  refine anyL_take (i := 3) (v := ?vo3) rfl (by kernel_rfl) (by kernel_rfl) (by kernel_rfl) (by kernel_rfl) (fun _ _ _ h => h) (Or.inl ⟨by rfl, ?ho3⟩) (unhide HS0) ?_
  case ho3 => (intro w hSw; (try dsimp only at hSw); go_simp) <;> with_reducible rfl
  simp only [Act.put, List.getElem_toArray, List.getElem_cons_zero, List.getElem_cons_succ, List.setIfInBounds_toArray, List.set_cons_zero, List.set_cons_succ]
  refine anyL_take (i := 5) (v := ?vo5) rfl (by kernel_rfl) (by kernel_rfl) (by kernel_rfl) (by kernel_rfl) (fun _ _ _ h => h) (Or.inl ⟨by rfl, ?ho5⟩) (unhide HS0) ?_
  case ho5 => (intro w hSw; (try dsimp only at hSw); go_simp) <;> with_reducible rfl
  simp only [Act.put, List.getElem_toArray, List.getElem_cons_zero, List.getElem_cons_succ, List.setIfInBounds_toArray, List.set_cons_zero, List.set_cons_succ]
  refine anyL_take (i := 6) (v := ?vo6) rfl (by kernel_rfl) (by kernel_rfl) (by kernel_rfl) (by kernel_rfl) (fun _ _ _ h => h) (Or.inl ⟨by rfl, ?ho6⟩) (unhide HS0) ?_
  case ho6 => (intro w hSw; (try dsimp only at hSw); go_simp) <;> with_reducible rfl
  simp only [Act.put, List.getElem_toArray, List.getElem_cons_zero, List.getElem_cons_succ, List.setIfInBounds_toArray, List.set_cons_zero, List.set_cons_succ]
  refine anyL_ready (rs := [1]) (by kernel_rfl) (by simp) ?_
  refine AllL.cons rfl (fun K hK => ?_) AllL.nil
  go_simp
  refine (unhide HSZ y0 ((unhide HB).below x2 (Nat.le_refl _))).mono ?_
  rintro e y1 ⟨rfl, q1⟩
  have x3 := x2.trans (q1.mono x2.size)
  have g3 : y1.heap[w.heap.size]? = _ := (q1.block _ z2).trans g2
  have HS1 : Hid ((fun w' : World => (convert 43 9 (.slice a0 l.length cap)).run Tryd.prog w' = .ok (.string (strOfNums l)) w') y1) := hide (str_bs _ a0 cap l ((unhide HB).below x3 (Nat.le_refl _)).2.2.1)
  refine unhide hK _ _ (fun _ => unhide HS1) ?_
  clear hK K HS0 q1 x2 g2 z2
  refine anyL_ready (rs := [4]) (by kernel_rfl) (by simp) ?_
  refine AllL.cons rfl (fun K hK => ?_) AllL.nil
  go_simp
  refine (unhide HHD y1).mono ?_
  rintro e y2 ⟨rfl, rfl⟩
  refine unhide hK _ _ (fun _ => unhide HS1) ?_
  clear hK K
  refine anyL_ready (rs := [7]) (by kernel_rfl) (by simp) ?_
  refine AllL.cons rfl (fun K hK => ?_) AllL.nil
  go_simp
  refine (unhide HTL y2).mono ?_
  rintro e y3 ⟨rfl, rfl⟩
  refine unhide hK _ _ (fun _ => unhide HS1) ?_
  clear hK K
  refine anyL_take (i := 8) (v := ?vo8) rfl (by kernel_rfl) (by kernel_rfl) (by kernel_rfl) (by kernel_rfl) (fun _ _ _ h => h) (Or.inl ⟨by rfl, ?ho8⟩) (unhide HS1) ?_
  case ho8 => (intro w hSw; (try dsimp only at hSw); go_simp) <;> with_reducible rfl
  simp only [Act.put, List.getElem_toArray, List.getElem_cons_zero, List.getElem_cons_succ, List.setIfInBounds_toArray, List.set_cons_zero, List.set_cons_succ]
  obtain ⟨c0, c1, c2, c3, c4, c5, f⟩ := cells6 g3
  have f0 := f 0
  have f1 := f 1
  have f2 := f 2
  have f3 := f 3
  have f4 := f 4
  have f5 := f 5
  clear f
  have xf := box6_all g3 (.int .i64 zb) (.int .i64 zr) (.int .i64 zu) (.int .i64 ze) (.string sh) (.string st)
  have bf := below6 x3 (Nat.le_refl _) (.int .i64 zb) (.int .i64 zr) (.int .i64 zu) (.int .i64 ze) (.string sh) (.string st)
  refine anyL_ready (rs := [9]) (by kernel_rfl) (by simp) ?_
  refine AllL.cons rfl (fun K hK => ?_) AllL.nil
  go_simp
  refine unhide hK _ _ (fun h => by cases h) ?_
  clear hK K
  generalize ((((((y3.setCell ⟨w.heap.size, 0, none⟩ (.int .i64 zb)).setCell ⟨w.heap.size, 1, none⟩ (.int .i64 zr)).setCell ⟨w.heap.size, 2, none⟩ (.int .i64 zu)).setCell ⟨w.heap.size, 3, none⟩ (.int .i64 ze)).setCell ⟨w.heap.size, 4, none⟩ (.string sh)).setCell ⟨w.heap.size, 5, none⟩ (.string st)) = wf at *
  refine anyL_done (by kernel_rfl) ?_ _
  go_wp2_with fail
  obtain ⟨q0, q1, q2, q3, q4, q5, _⟩ := cells6 xf
  refine bodyPost_ret (v := .agg #[.int .i64 zb, .int .i64 zr, .int .i64 zu, .int .i64 ze, .string sh, .string st]) (by simp [results, Tryd.results23, go_sem, q0, q1, q2, q3, q4, q5]) rfl ⟨by rw [unhide HV], bf⟩

end Go.Proofs.YtchlnphapnafcaaDoor
