/- The walk of RuleCuts, for arguments under the bound: it answers true wherever the table holds the classes, and changes nothing that was there. -/
import Derived.Test.YtnkeohiibninfabDoorRr9
import Derived.Test.YtnkeohiibninfabDoorLwT
namespace Go.Proofs.YtnkeohiibninfabDoor
open Go.ChangeShapes Go.WideShapes Go.ChangeAt Go.RowKit

set_option maxRecDepth 100000 in
set_option maxHeartbeats 8000000 in
theorem RuleCuts_any (a0 : Option Addr) (cap : Nat) (l : List Int) (s0 s1 f t m : Int) (w : World) (hB : IsB w a0 cap l) (qb : cap ≤ 1048576) (hT : Tab w) :
    Calls Tryd.prog 3 #[.slice a0 l.length cap, .agg #[.int .i64 s0, .int .i64 s1], .agg #[.int .i64 f, .int .i64 t, .int .i64 m]] w fun e w' => e = .returned (.bool true) ∧ Below w.heap.size w w' := by
  have hl : l.length ≤ 1048576 := Nat.le_trans hB.1 qb
  have k1 := (Cls.new w 23 #[.int .i64 s0, .int .i64 s1]).alloc (.cells #[.int .i64 f, .int .i64 t, .int .i64 m] 25)
  have j1 := Cls.new (w.alloc (.cells #[.int .i64 s0, .int .i64 s1] 23)) 25 #[.int .i64 f, .int .i64 t, .int .i64 m]
  rw [World.size_alloc] at j1
  have b1 := ((Below.refl w.heap.size w).alloc (Nat.le_refl _) (.cells #[.int .i64 s0, .int .i64 s1] 23)).alloc (o := .cells #[.int .i64 f, .int .i64 t, .int .i64 m] 25) (by simp)
  have L1 : Lw w a0 cap l [(w.heap.size, 23, #[.int .i64 s0, .int .i64 s1]), (w.heap.size + 1, 25, #[.int .i64 f, .int .i64 t, .int .i64 m])] ((w.alloc (.cells #[.int .i64 s0, .int .i64 s1] 23)).alloc (.cells #[.int .i64 f, .int .i64 t, .int .i64 m] 25)) := ⟨hB.below b1 (Nat.le_refl _), hT.below b1 hT.size, b1, fun y hy => by
    rcases List.mem_cons.1 hy with rfl | hy
    · exact k1
    · rw [List.mem_singleton.1 hy]; exact j1⟩
  clear b1 hT hB k1 j1
  go_enter Tryd.func3, Tryd.ntmps3
  go_wp2_with fail
  generalize (w.alloc (.cells #[.int .i64 s0, .int .i64 s1] 23)).alloc (.cells #[.int .i64 f, .int .i64 t, .int .i64 m] 25) = w1 at *
  refine (wakes6_any w1 L1.t).mono ?_
  rintro e w2 ⟨rfl, x2⟩
  have L2 := L1.on x2
  clear L1 x2
  generalize hL : cuL f s0 s1 m l = C at *
  generalize hR : cuR f s0 s1 m (EE l) = eP at *
  have HL := hide hL
  have HR := hide hR
  clear hL hR
  go_upto_region 3 with fail
  have L3 : Lw w a0 cap l _ w2.drew := L2.on (drew_below _ w2)
  have k3 := L3.k _ (List.mem_cons_of_mem _ (List.mem_singleton.2 rfl))
  have j3 := L3.k _ (List.mem_cons_self ..)
  have HS3 : Hid ((fun w' => (w'.cell? ⟨w.heap.size + 1, 0, none⟩ = some (.int .i64 f) ∧ w'.cell? ⟨w.heap.size + 1, 1, none⟩ = some (.int .i64 t) ∧ w'.cell? ⟨w.heap.size + 1, 2, none⟩ = some (.int .i64 m)) ∧ w'.cell? ⟨w.heap.size, 0, none⟩ = some (.int .i64 s0) ∧ w'.cell? ⟨w.heap.size, 1, none⟩ = some (.int .i64 s1)) w2.drew) := hide ⟨⟨(k3.cell 0).trans rfl, (k3.cell 1).trans rfl, (k3.cell 2).trans rfl⟩, (j3.cell 0).trans rfl, (j3.cell 1).trans rfl⟩
  clear k3 j3 L2
  refine regionL (S := fun w' => (w'.cell? ⟨w.heap.size + 1, 0, none⟩ = some (.int .i64 f) ∧ w'.cell? ⟨w.heap.size + 1, 1, none⟩ = some (.int .i64 t) ∧ w'.cell? ⟨w.heap.size + 1, 2, none⟩ = some (.int .i64 m)) ∧ w'.cell? ⟨w.heap.size, 0, none⟩ = some (.int .i64 s0) ∧ w'.cell? ⟨w.heap.size, 1, none⟩ = some (.int .i64 s1)) (fun _ => false) (by kernel_rfl) ?_
  refine anyL_take (i := 0) (v := ?vq0) rfl (by kernel_rfl) (by kernel_rfl) (by kernel_rfl) (by kernel_rfl) (fun _ _ _ h => h) (Or.inl ⟨by rfl, ?hq0⟩) (unhide HS3) ?_
  case hq0 => (intro w hSw; (try dsimp only at hSw); go_simp) <;> with_reducible rfl
  simp only [Act.put, List.getElem_toArray, List.getElem_cons_zero, List.setIfInBounds_toArray, List.set_cons_zero, List.set_cons_succ]
  refine anyL_take (i := 2) (v := ?vq1) rfl (by kernel_rfl) (by kernel_rfl) (by kernel_rfl) (by kernel_rfl) (fun _ _ _ h => h) (Or.inl ⟨by rfl, ?hq1⟩) (unhide HS3) ?_
  case hq1 => (intro w hSw; (try dsimp only at hSw); go_simp) <;> with_reducible rfl
  simp only [Act.put, List.getElem_toArray, List.getElem_cons_zero, List.getElem_cons_succ, List.setIfInBounds_toArray, List.set_cons_zero, List.set_cons_succ]
  refine anyL_take (i := 3) (v := ?vq2) rfl (by kernel_rfl) (by kernel_rfl) (by kernel_rfl) (by kernel_rfl) (fun _ _ _ h => h) (Or.inl ⟨by rfl, ?hq2⟩) (unhide HS3) ?_
  case hq2 => (intro w hSw; (try dsimp only at hSw); go_simp) <;> with_reducible rfl
  simp only [Act.put, List.getElem_toArray, List.getElem_cons_zero, List.getElem_cons_succ, List.setIfInBounds_toArray, List.set_cons_zero, List.set_cons_succ]
  refine anyL_take (i := 4) (v := ?vq3) rfl (by kernel_rfl) (by kernel_rfl) (by kernel_rfl) (by kernel_rfl) (fun _ _ _ h => h) (Or.inl ⟨by rfl, ?hq3⟩) (unhide HS3) ?_
  case hq3 => (intro w hSw; (try dsimp only at hSw); go_simp) <;> with_reducible rfl
  simp only [Act.put, List.getElem_toArray, List.getElem_cons_zero, List.getElem_cons_succ, List.setIfInBounds_toArray, List.set_cons_zero, List.set_cons_succ]
  refine anyL_take (i := 5) (v := ?vq4) rfl (by kernel_rfl) (by kernel_rfl) (by kernel_rfl) (by kernel_rfl) (fun _ _ _ h => h) (Or.inl ⟨by rfl, ?hq4⟩) (unhide HS3) ?_
  case hq4 => (intro w hSw; (try dsimp only at hSw); go_simp) <;> with_reducible rfl
  simp only [Act.put, List.getElem_toArray, List.getElem_cons_zero, List.getElem_cons_succ, List.setIfInBounds_toArray, List.set_cons_zero, List.set_cons_succ]
  refine anyL_take (i := 6) (v := ?vq5) rfl (by kernel_rfl) (by kernel_rfl) (by kernel_rfl) (by kernel_rfl) (fun _ _ _ h => h) (Or.inl ⟨by rfl, ?hq5⟩) (unhide HS3) ?_
  case hq5 => (intro w hSw; (try dsimp only at hSw); go_simp) <;> with_reducible rfl
  simp only [Act.put, List.getElem_toArray, List.getElem_cons_zero, List.getElem_cons_succ, List.setIfInBounds_toArray, List.set_cons_zero, List.set_cons_succ]
  refine anyL_take (i := 7) (v := ?vq6) rfl (by kernel_rfl) (by kernel_rfl) (by kernel_rfl) (by kernel_rfl) (fun _ _ _ h => h) (Or.inl ⟨by rfl, ?hq6⟩) (unhide HS3) ?_
  case hq6 => (intro w hSw; (try dsimp only at hSw); go_simp) <;> with_reducible rfl
  simp only [Act.put, List.getElem_toArray, List.getElem_cons_zero, List.getElem_cons_succ, List.setIfInBounds_toArray, List.set_cons_zero, List.set_cons_succ]
  refine anyL_take (i := 8) (v := ?vq7) rfl (by kernel_rfl) (by kernel_rfl) (by kernel_rfl) (by kernel_rfl) (fun _ _ _ h => h) (Or.inl ⟨by rfl, ?hq7⟩) (unhide HS3) ?_
  case hq7 => (intro w hSw; (try dsimp only at hSw); go_simp) <;> with_reducible rfl
  simp only [Act.put, List.getElem_toArray, List.getElem_cons_zero, List.getElem_cons_succ, List.setIfInBounds_toArray, List.set_cons_zero, List.set_cons_succ]
  refine anyL_take (i := 9) (v := ?vq8) rfl (by kernel_rfl) (by kernel_rfl) (by kernel_rfl) (by kernel_rfl) (fun _ _ _ h => h) (Or.inl ⟨by rfl, ?hq8⟩) (unhide HS3) ?_
  case hq8 => (intro w hSw; (try dsimp only at hSw); go_simp) <;> with_reducible rfl
  simp only [Act.put, List.getElem_toArray, List.getElem_cons_zero, List.getElem_cons_succ, List.setIfInBounds_toArray, List.set_cons_zero, List.set_cons_succ]
  refine anyL_ready (rs := [1]) (by kernel_rfl) (by simp) ?_
  refine AllL.cons rfl (fun K hK => ?_) AllL.nil
  go_simp
  refine (own_at a0 cap l w2.drew L3.b).mono ?_
  rintro e w4 ⟨a4, c4, rfl, i4, x4⟩
  have L4 := L3.on x4
  have k4 := L4.k _ (List.mem_cons_of_mem _ (List.mem_singleton.2 rfl))
  have j4 := L4.k _ (List.mem_cons_self ..)
  have HS4 : Hid ((fun w' => (w'.cell? ⟨w.heap.size + 1, 0, none⟩ = some (.int .i64 f) ∧ w'.cell? ⟨w.heap.size + 1, 1, none⟩ = some (.int .i64 t) ∧ w'.cell? ⟨w.heap.size + 1, 2, none⟩ = some (.int .i64 m)) ∧ w'.cell? ⟨w.heap.size, 0, none⟩ = some (.int .i64 s0) ∧ w'.cell? ⟨w.heap.size, 1, none⟩ = some (.int .i64 s1)) w4) := hide ⟨⟨(k4.cell 0).trans rfl, (k4.cell 1).trans rfl, (k4.cell 2).trans rfl⟩, (j4.cell 0).trans rfl, (j4.cell 1).trans rfl⟩
  refine unhide hK _ _ (fun _ => unhide HS4) ?_
  clear hK K k4 j4 L3 x4 HS3
  refine anyL_ready (rs := [10]) (by kernel_rfl) (by simp) ?_
  refine AllL.cons rfl (fun K hK => ?_) AllL.nil
  go_simp
  refine (Cut_at a4 c4 l f s0 s1 m w4 i4 L4.t).mono ?_
  rw [unhide HR, unhide HL]
  rintro e w5 ⟨a5, c5, rfl, ic, x5⟩
  have L5 := L4.on x5
  have k5 := L5.k _ (List.mem_cons_of_mem _ (List.mem_singleton.2 rfl))
  have j5 := L5.k _ (List.mem_cons_self ..)
  have HS5 : Hid ((fun w' => (w'.cell? ⟨w.heap.size + 1, 0, none⟩ = some (.int .i64 f) ∧ w'.cell? ⟨w.heap.size + 1, 1, none⟩ = some (.int .i64 t) ∧ w'.cell? ⟨w.heap.size + 1, 2, none⟩ = some (.int .i64 m)) ∧ w'.cell? ⟨w.heap.size, 0, none⟩ = some (.int .i64 s0) ∧ w'.cell? ⟨w.heap.size, 1, none⟩ = some (.int .i64 s1)) w5) := hide ⟨⟨(k5.cell 0).trans rfl, (k5.cell 1).trans rfl, (k5.cell 2).trans rfl⟩, (j5.cell 0).trans rfl, (j5.cell 1).trans rfl⟩
  refine unhide hK _ _ (fun _ => unhide HS5) ?_
  clear hK K k5 j5 L4 x5 HS4 i4
  refine anyL_take (i := 11) (v := ?vq9) rfl (by kernel_rfl) (by kernel_rfl) (by kernel_rfl) (by kernel_rfl) (fun _ _ _ h => h) (Or.inl ⟨by rfl, ?hq9⟩) (unhide HS5) ?_
  case hq9 => (intro w hSw; (try dsimp only at hSw); go_simp) <;> with_reducible rfl
  simp only [Act.put, List.getElem_toArray, List.getElem_cons_zero, List.getElem_cons_succ, List.setIfInBounds_toArray, List.set_cons_zero, List.set_cons_succ]
  refine anyL_take (i := 12) (v := ?vq10) rfl (by kernel_rfl) (by kernel_rfl) (by kernel_rfl) (by kernel_rfl) (fun _ _ _ h => h) (Or.inl ⟨by rfl, ?hq10⟩) (unhide HS5) ?_
  case hq10 => (intro w hSw; (try dsimp only at hSw); go_simp) <;> with_reducible rfl
  simp only [Act.put, List.getElem_toArray, List.getElem_cons_zero, List.getElem_cons_succ, List.setIfInBounds_toArray, List.set_cons_zero, List.set_cons_succ]
  refine anyL_take (i := 13) (v := ?vq11) rfl (by kernel_rfl) (by kernel_rfl) (by kernel_rfl) (by kernel_rfl) (fun _ _ _ h => h) (Or.inl ⟨by rfl, ?hq11⟩) (unhide HS5) ?_
  case hq11 => (intro w hSw; (try dsimp only at hSw); go_simp) <;> with_reducible rfl
  simp only [Act.put, List.getElem_toArray, List.getElem_cons_zero, List.getElem_cons_succ, List.setIfInBounds_toArray, List.set_cons_zero, List.set_cons_succ]
  refine anyL_take (i := 14) (v := ?vq12) rfl (by kernel_rfl) (by kernel_rfl) (by kernel_rfl) (by kernel_rfl) (fun _ _ _ h => h) (Or.inl ⟨by rfl, ?hq12⟩) (unhide HS5) ?_
  case hq12 => (intro w hSw; (try dsimp only at hSw); go_simp) <;> with_reducible rfl
  simp only [Act.put, List.getElem_toArray, List.getElem_cons_zero, List.getElem_cons_succ, List.setIfInBounds_toArray, List.set_cons_zero, List.set_cons_succ]
  refine anyL_take (i := 15) (v := ?vq13) rfl (by kernel_rfl) (by kernel_rfl) (by kernel_rfl) (by kernel_rfl) (fun _ _ _ h => h) (Or.inl ⟨by rfl, ?hq13⟩) (unhide HS5) ?_
  case hq13 => (intro w hSw; (try dsimp only at hSw); go_simp) <;> with_reducible rfl
  simp only [Act.put, List.getElem_toArray, List.getElem_cons_zero, List.getElem_cons_succ, List.setIfInBounds_toArray, List.set_cons_zero, List.set_cons_succ]
  refine anyL_done (by kernel_rfl) ?_ _
  clear HS5
  have k6 := L5.k _ (List.mem_cons_of_mem _ (List.mem_singleton.2 rfl))
  have j6 := L5.k _ (List.mem_cons_self ..)
  have q0 : w5.cell? ⟨w.heap.size + 1, 0, none⟩ = some (.int .i64 f) := (k6.cell 0).trans rfl
  have q1 : w5.cell? ⟨w.heap.size + 1, 2, none⟩ = some (.int .i64 m) := (k6.cell 2).trans rfl
  have q2 : w5.cell? ⟨w.heap.size, 0, none⟩ = some (.int .i64 s0) := (j6.cell 0).trans rfl
  have q3 : w5.cell? ⟨w.heap.size, 1, none⟩ = some (.int .i64 s1) := (j6.cell 1).trans rfl
  clear k6 j6
  have hcu := RCut_at a0 cap l f s0 s1 m w5 L5.b hl
  rw [unhide HR, unhide HL] at hcu
  go_wp2_with fail
  refine hcu.mono ?_
  rintro e w6 ⟨a6, c6, rfl, id6, x6⟩
  have L6 := L5.on x6
  have ic6 := ic.below x6 (Nat.le_refl _)
  have d6 := L6.d
  clear L5 x6 hcu q0 q1 q2 q3 ic L6
  have s1' := str_bs w6 _ c5 C ic6.2.2.1
  have s2' := str_bs w6 _ c6 C id6.2.2.1
  go_wp2_with fail
  all_goals go_ret
  all_goals exact ⟨rfl, d6⟩

end Go.Proofs.YtnkeohiibninfabDoor
