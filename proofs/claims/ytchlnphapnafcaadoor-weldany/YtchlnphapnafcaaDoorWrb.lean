/- Layer 5: the document's all and Valid (written by wip/tools/wan.py). -/
import Derived.Test.YtchlnphapnafcaaDoorWra
import Derived.Test.YtchlnphapnafcaaDoorRw6
namespace Go.Proofs.YtchlnphapnafcaaDoor
open Go.ChangeShapes Go.WideShapes Go.ChangeAt Go.RowKit

set_option maxRecDepth 100000 in
set_option maxHeartbeats 2000000 in
theorem Rall_few (n : Nat) (r u e : Int) (h t : List Int) (w : World) (hh : ∀ x ∈ h, 0 ≤ x ∧ x ≤ 255) (ht : ∀ x ∈ t, 0 ≤ x ∧ x ≤ 255) (hn : n ≤ 3) :
    Calls Tryd.prog 17 #[.agg #[.int .i64 (n : Int), .int .i64 r, .int .i64 u, .int .i64 e, .string (strOfNums h), .string (strOfNums t)]] w fun x w' => x = .returned (.tuple #[.string (strOfNums h), .bool (decide (h = t))]) ∧ Below w.heap.size w w' := by
  have b0 : Below w.heap.size w (w.alloc (.cells #[.int .i64 (n : Int), .int .i64 r, .int .i64 u, .int .i64 e, .string (strOfNums h), .string (strOfNums t)] 25)) := (Below.refl _ _).alloc (Nat.le_refl _) _
  obtain ⟨c0, c1, c2, c3, c4, c5, _⟩ := cells6 (push_get w (.cells #[.int .i64 (n : Int), .int .i64 r, .int .i64 u, .int .i64 e, .string (strOfNums h), .string (strOfNums t)] 25))
  have q1 : (n : Int) ≤ 3 := by omega
  have hs : ((strOfNums h).toList == (strOfNums t).toList) = decide (h = t) := by rw [Bool.eq_iff_iff, beq_iff_eq, decide_eq_true_eq, str_eq hh ht]
  go_enter Tryd.func17, Tryd.ntmps17
  go_upto_region 3 with fail
  have b1 : Below w.heap.size w (w.alloc (.cells #[.int .i64 (n : Int), .int .i64 r, .int .i64 u, .int .i64 e, .string (strOfNums h), .string (strOfNums t)] 25)).drew := Below.drewN b0 1
  have HS0 : Hid ((w.alloc (.cells #[.int .i64 (n : Int), .int .i64 r, .int .i64 u, .int .i64 e, .string (strOfNums h), .string (strOfNums t)] 25)).drew.cell? ⟨w.heap.size, 0, none⟩ = some (.int .i64 (n : Int)) ∧ (w.alloc (.cells #[.int .i64 (n : Int), .int .i64 r, .int .i64 u, .int .i64 e, .string (strOfNums h), .string (strOfNums t)] 25)).drew.cell? ⟨w.heap.size, 1, none⟩ = some (.int .i64 r) ∧ (w.alloc (.cells #[.int .i64 (n : Int), .int .i64 r, .int .i64 u, .int .i64 e, .string (strOfNums h), .string (strOfNums t)] 25)).drew.cell? ⟨w.heap.size, 2, none⟩ = some (.int .i64 u) ∧ (w.alloc (.cells #[.int .i64 (n : Int), .int .i64 r, .int .i64 u, .int .i64 e, .string (strOfNums h), .string (strOfNums t)] 25)).drew.cell? ⟨w.heap.size, 3, none⟩ = some (.int .i64 e) ∧ (w.alloc (.cells #[.int .i64 (n : Int), .int .i64 r, .int .i64 u, .int .i64 e, .string (strOfNums h), .string (strOfNums t)] 25)).drew.cell? ⟨w.heap.size, 4, none⟩ = some (.string (strOfNums h)) ∧ (w.alloc (.cells #[.int .i64 (n : Int), .int .i64 r, .int .i64 u, .int .i64 e, .string (strOfNums h), .string (strOfNums t)] 25)).drew.cell? ⟨w.heap.size, 5, none⟩ = some (.string (strOfNums t))) := hide ⟨c0, c1, c2, c3, c4, c5⟩
  clear c0 c1 c2 c3 c4 c5 b0
  refine regionL (S := fun w' => w'.cell? ⟨w.heap.size, 0, none⟩ = some (.int .i64 (n : Int)) ∧ w'.cell? ⟨w.heap.size, 1, none⟩ = some (.int .i64 r) ∧ w'.cell? ⟨w.heap.size, 2, none⟩ = some (.int .i64 u) ∧ w'.cell? ⟨w.heap.size, 3, none⟩ = some (.int .i64 e) ∧ w'.cell? ⟨w.heap.size, 4, none⟩ = some (.string (strOfNums h)) ∧ w'.cell? ⟨w.heap.size, 5, none⟩ = some (.string (strOfNums t))) (fun _ => false) (by kernel_rfl) ?_
  generalize (w.alloc (.cells #[.int .i64 (n : Int), .int .i64 r, .int .i64 u, .int .i64 e, .string (strOfNums h), .string (strOfNums t)] 25)).drew = wd at *
  refine anyL_take (i := 0) (v := ?vq0) rfl (by kernel_rfl) (by kernel_rfl) (by kernel_rfl) (by kernel_rfl) (fun _ _ _ h => h) (Or.inl ⟨by rfl, ?hq0⟩) (unhide HS0) ?_
  case hq0 => (intro w hSw; (try dsimp only at hSw); go_simp) <;> with_reducible rfl
  simp only [Act.put, List.getElem_toArray, List.getElem_cons_zero, List.setIfInBounds_toArray, List.set_cons_zero, List.set_cons_succ]
  refine anyL_take (i := 1) (v := ?vq1) rfl (by kernel_rfl) (by kernel_rfl) (by kernel_rfl) (by kernel_rfl) (fun _ _ _ h => h) (Or.inl ⟨by rfl, ?hq1⟩) (unhide HS0) ?_
  case hq1 => (intro w hSw; (try dsimp only at hSw); go_simp) <;> with_reducible rfl
  simp only [Act.put, List.getElem_toArray, List.getElem_cons_zero, List.getElem_cons_succ, List.setIfInBounds_toArray, List.set_cons_zero, List.set_cons_succ]
  refine anyL_take (i := 2) (v := ?vq2) rfl (by kernel_rfl) (by kernel_rfl) (by kernel_rfl) (by kernel_rfl) (fun _ _ _ h => h) (Or.inl ⟨by rfl, ?hq2⟩) (unhide HS0) ?_
  case hq2 => (intro w hSw; (try dsimp only at hSw); go_simp) <;> with_reducible rfl
  simp only [Act.put, List.getElem_toArray, List.getElem_cons_zero, List.getElem_cons_succ, List.setIfInBounds_toArray, List.set_cons_zero, List.set_cons_succ]
  refine anyL_take (i := 3) (v := ?vq3) rfl (by kernel_rfl) (by kernel_rfl) (by kernel_rfl) (by kernel_rfl) (fun _ _ _ h => h) (Or.inl ⟨by rfl, ?hq3⟩) (unhide HS0) ?_
  case hq3 => (intro w hSw; (try dsimp only at hSw); go_simp) <;> with_reducible rfl
  simp only [Act.put, List.getElem_toArray, List.getElem_cons_zero, List.getElem_cons_succ, List.setIfInBounds_toArray, List.set_cons_zero, List.set_cons_succ]
  refine anyL_take (i := 4) (v := ?vq4) rfl (by kernel_rfl) (by kernel_rfl) (by kernel_rfl) (by kernel_rfl) (fun _ _ _ h => h) (Or.inl ⟨by rfl, ?hq4⟩) (unhide HS0) ?_
  case hq4 => (intro w hSw; (try dsimp only at hSw); go_simp) <;> with_reducible rfl
  simp only [Act.put, List.getElem_toArray, List.getElem_cons_zero, List.getElem_cons_succ, List.setIfInBounds_toArray, List.set_cons_zero, List.set_cons_succ]
  refine anyL_take (i := 5) (v := ?vq5) rfl (by kernel_rfl) (by kernel_rfl) (by kernel_rfl) (by kernel_rfl) (fun _ _ _ h => h) (Or.inl ⟨by rfl, ?hq5⟩) (unhide HS0) ?_
  case hq5 => (intro w hSw; (try dsimp only at hSw); go_simp) <;> with_reducible rfl
  simp only [Act.put, List.getElem_toArray, List.getElem_cons_zero, List.getElem_cons_succ, List.setIfInBounds_toArray, List.set_cons_zero, List.set_cons_succ]
  refine anyL_take (i := 6) (v := ?vq6) rfl (by kernel_rfl) (by kernel_rfl) (by kernel_rfl) (by kernel_rfl) (fun _ _ _ h => h) (Or.inl ⟨by rfl, ?hq6⟩) (unhide HS0) ?_
  case hq6 => (intro w hSw; (try dsimp only at hSw); go_simp) <;> with_reducible rfl
  simp only [Act.put, List.getElem_toArray, List.getElem_cons_zero, List.getElem_cons_succ, List.setIfInBounds_toArray, List.set_cons_zero, List.set_cons_succ]
  refine anyL_take (i := 7) (v := ?vq7) rfl (by kernel_rfl) (by kernel_rfl) (by kernel_rfl) (by kernel_rfl) (fun _ _ _ h => h) (Or.inl ⟨by rfl, ?hq7⟩) (unhide HS0) ?_
  case hq7 => (intro w hSw; (try dsimp only at hSw); go_simp) <;> with_reducible rfl
  simp only [Act.put, List.getElem_toArray, List.getElem_cons_zero, List.getElem_cons_succ, List.setIfInBounds_toArray, List.set_cons_zero, List.set_cons_succ]
  refine anyL_take (i := 8) (v := ?vq8) rfl (by kernel_rfl) (by kernel_rfl) (by kernel_rfl) (by kernel_rfl) (fun _ _ _ h => h) (Or.inl ⟨by rfl, ?hq8⟩) (unhide HS0) ?_
  case hq8 => (intro w hSw; (try dsimp only at hSw); go_simp) <;> with_reducible rfl
  simp only [Act.put, List.getElem_toArray, List.getElem_cons_zero, List.getElem_cons_succ, List.setIfInBounds_toArray, List.set_cons_zero, List.set_cons_succ]
  refine anyL_done (by kernel_rfl) ?_ _
  go_wp2_with fail
  refine bodyPost_ret (v := .tuple #[.string (strOfNums h), .bool (decide (h = t))]) (by simp [results, Tryd.results17, go_sem]) rfl ⟨rfl, b1⟩

set_option maxRecDepth 100000 in
set_option maxHeartbeats 2000000 in
theorem Rall_some (n : Nat) (r u e : Int) (h t : List Int) (w : World) (hh : ∀ x ∈ h, 0 ≤ x ∧ x ≤ 255) (ht : ∀ x ∈ t, 0 ≤ x ∧ x ≤ 255) (hn : 3 < n) (h6 : n ≤ 6) (lh : h.length = 3) (lt : t.length = 3) :
    Calls Tryd.prog 17 #[.agg #[.int .i64 (n : Int), .int .i64 r, .int .i64 u, .int .i64 e, .string (strOfNums h), .string (strOfNums t)]] w fun x w' => x = .returned (.tuple #[.string (strOfNums (h ++ t.drop (6 - n))), .bool (decide (h.drop (n - 3) = t.take (6 - n)))]) ∧ Below w.heap.size w w' := by
  have b0 : Below w.heap.size w (w.alloc (.cells #[.int .i64 (n : Int), .int .i64 r, .int .i64 u, .int .i64 e, .string (strOfNums h), .string (strOfNums t)] 25)) := (Below.refl _ _).alloc (Nat.le_refl _) _
  obtain ⟨c0, c1, c2, c3, c4, c5, _⟩ := cells6 (push_get w (.cells #[.int .i64 (n : Int), .int .i64 r, .int .i64 u, .int .i64 e, .string (strOfNums h), .string (strOfNums t)] 25))
  have q1 : ¬ ((n : Int) ≤ 3) := by omega
  obtain ⟨o, ho⟩ : ∃ o, o = 6 - n := ⟨_, rfl⟩
  obtain ⟨m, hm⟩ : ∃ m, m = n - 3 := ⟨_, rfl⟩
  rw [← ho, ← hm]
  have hoi : (6 : Int) - (n : Int) = (o : Int) := by omega
  have hmi : (3 : Int) - (o : Int) = (m : Int) := by omega
  have ho3 : (o : Int) ≤ 3 := by omega
  have hm3 : (m : Int) ≤ 3 := by omega
  have hwo : IntKind.i64.wrap (o : Int) = (o : Int) := by rw [IntKind.wrap_i64]; omega
  have hwm : IntKind.i64.wrap (m : Int) = (m : Int) := by rw [IntKind.wrap_i64]; omega
  have hs : ((strOfNums (h.drop m)).toList == (strOfNums (t.take o)).toList) = decide (h.drop m = t.take o) := by rw [Bool.eq_iff_iff, beq_iff_eq, decide_eq_true_eq, str_eq (a := h.drop m) (b := t.take o) (fun x hx => hh x (List.mem_of_mem_drop hx)) (fun x hx => ht x (List.mem_of_mem_take hx))]
  have zh : (strOfNums h).size = 3 := (strOfNums_size h).trans lh
  have zt : (strOfNums t).size = 3 := (strOfNums_size t).trans lt
  have e1 : (strOfNums t).extract o 3 = strOfNums (t.drop o) := by rw [str_extract, List.take_of_length_le (by simp; omega)]
  have e2 : (strOfNums h).extract m 3 = strOfNums (h.drop m) := by rw [str_extract, List.take_of_length_le (by simp; omega)]
  have e3 : (strOfNums t).extract 0 o = strOfNums (t.take o) := by rw [str_extract]; simp
  have hap := str_app h (t.drop o)
  have hcat : ¬ 9223372036854775807 < 3 + (strOfNums (t.drop o)).size := by rw [strOfNums_size]; simp; omega
  clear ho hm hn h6 hh ht lh lt
  go_enter Tryd.func17, Tryd.ntmps17
  go_upto_region 5 with fail
  have b1 : Below w.heap.size w (w.alloc (.cells #[.int .i64 (n : Int), .int .i64 r, .int .i64 u, .int .i64 e, .string (strOfNums h), .string (strOfNums t)] 25)).drew := Below.drewN b0 1
  have HS0 : Hid ((w.alloc (.cells #[.int .i64 (n : Int), .int .i64 r, .int .i64 u, .int .i64 e, .string (strOfNums h), .string (strOfNums t)] 25)).drew.cell? ⟨w.heap.size, 0, none⟩ = some (.int .i64 (n : Int)) ∧ (w.alloc (.cells #[.int .i64 (n : Int), .int .i64 r, .int .i64 u, .int .i64 e, .string (strOfNums h), .string (strOfNums t)] 25)).drew.cell? ⟨w.heap.size, 1, none⟩ = some (.int .i64 r) ∧ (w.alloc (.cells #[.int .i64 (n : Int), .int .i64 r, .int .i64 u, .int .i64 e, .string (strOfNums h), .string (strOfNums t)] 25)).drew.cell? ⟨w.heap.size, 2, none⟩ = some (.int .i64 u) ∧ (w.alloc (.cells #[.int .i64 (n : Int), .int .i64 r, .int .i64 u, .int .i64 e, .string (strOfNums h), .string (strOfNums t)] 25)).drew.cell? ⟨w.heap.size, 3, none⟩ = some (.int .i64 e) ∧ (w.alloc (.cells #[.int .i64 (n : Int), .int .i64 r, .int .i64 u, .int .i64 e, .string (strOfNums h), .string (strOfNums t)] 25)).drew.cell? ⟨w.heap.size, 4, none⟩ = some (.string (strOfNums h)) ∧ (w.alloc (.cells #[.int .i64 (n : Int), .int .i64 r, .int .i64 u, .int .i64 e, .string (strOfNums h), .string (strOfNums t)] 25)).drew.cell? ⟨w.heap.size, 5, none⟩ = some (.string (strOfNums t))) := hide ⟨c0, c1, c2, c3, c4, c5⟩
  clear c0 c1 c2 c3 c4 c5 b0
  refine regionL (S := fun w' => w'.cell? ⟨w.heap.size, 0, none⟩ = some (.int .i64 (n : Int)) ∧ w'.cell? ⟨w.heap.size, 1, none⟩ = some (.int .i64 r) ∧ w'.cell? ⟨w.heap.size, 2, none⟩ = some (.int .i64 u) ∧ w'.cell? ⟨w.heap.size, 3, none⟩ = some (.int .i64 e) ∧ w'.cell? ⟨w.heap.size, 4, none⟩ = some (.string (strOfNums h)) ∧ w'.cell? ⟨w.heap.size, 5, none⟩ = some (.string (strOfNums t))) (fun _ => false) (by kernel_rfl) ?_
  generalize (w.alloc (.cells #[.int .i64 (n : Int), .int .i64 r, .int .i64 u, .int .i64 e, .string (strOfNums h), .string (strOfNums t)] 25)).drew = wd at *
  refine anyL_take (i := 0) (v := ?vq9) rfl (by kernel_rfl) (by kernel_rfl) (by kernel_rfl) (by kernel_rfl) (fun _ _ _ h => h) (Or.inl ⟨by rfl, ?hq9⟩) (unhide HS0) ?_
  case hq9 => (intro w hSw; (try dsimp only at hSw); go_simp) <;> with_reducible rfl
  simp only [Act.put, List.getElem_toArray, List.getElem_cons_zero, List.setIfInBounds_toArray, List.set_cons_zero, List.set_cons_succ]
  refine anyL_take (i := 1) (v := ?vq10) rfl (by kernel_rfl) (by kernel_rfl) (by kernel_rfl) (by kernel_rfl) (fun _ _ _ h => h) (Or.inl ⟨by rfl, ?hq10⟩) (unhide HS0) ?_
  case hq10 => (intro w hSw; (try dsimp only at hSw); go_simp) <;> with_reducible rfl
  simp only [Act.put, List.getElem_toArray, List.getElem_cons_zero, List.getElem_cons_succ, List.setIfInBounds_toArray, List.set_cons_zero, List.set_cons_succ]
  refine anyL_take (i := 2) (v := ?vq11) rfl (by kernel_rfl) (by kernel_rfl) (by kernel_rfl) (by kernel_rfl) (fun _ _ _ h => h) (Or.inl ⟨by rfl, ?hq11⟩) (unhide HS0) ?_
  case hq11 => (intro w hSw; (try dsimp only at hSw); go_simp) <;> with_reducible rfl
  simp only [Act.put, List.getElem_toArray, List.getElem_cons_zero, List.getElem_cons_succ, List.setIfInBounds_toArray, List.set_cons_zero, List.set_cons_succ]
  refine anyL_take (i := 3) (v := ?vq12) rfl (by kernel_rfl) (by kernel_rfl) (by kernel_rfl) (by kernel_rfl) (fun _ _ _ h => h) (Or.inl ⟨by rfl, ?hq12⟩) (unhide HS0) ?_
  case hq12 => (intro w hSw; (try dsimp only at hSw); go_simp) <;> with_reducible rfl
  simp only [Act.put, List.getElem_toArray, List.getElem_cons_zero, List.getElem_cons_succ, List.setIfInBounds_toArray, List.set_cons_zero, List.set_cons_succ]
  refine anyL_take (i := 4) (v := ?vq13) rfl (by kernel_rfl) (by kernel_rfl) (by kernel_rfl) (by kernel_rfl) (fun _ _ _ h => h) (Or.inl ⟨by rfl, ?hq13⟩) (unhide HS0) ?_
  case hq13 => (intro w hSw; (try dsimp only at hSw); go_simp) <;> with_reducible rfl
  simp only [Act.put, List.getElem_toArray, List.getElem_cons_zero, List.getElem_cons_succ, List.setIfInBounds_toArray, List.set_cons_zero, List.set_cons_succ]
  refine anyL_take (i := 5) (v := ?vq14) rfl (by kernel_rfl) (by kernel_rfl) (by kernel_rfl) (by kernel_rfl) (fun _ _ _ h => h) (Or.inl ⟨by rfl, ?hq14⟩) (unhide HS0) ?_
  case hq14 => (intro w hSw; (try dsimp only at hSw); go_simp) <;> with_reducible rfl
  simp only [Act.put, List.getElem_toArray, List.getElem_cons_zero, List.getElem_cons_succ, List.setIfInBounds_toArray, List.set_cons_zero, List.set_cons_succ]
  refine anyL_take (i := 6) (v := ?vq15) rfl (by kernel_rfl) (by kernel_rfl) (by kernel_rfl) (by kernel_rfl) (fun _ _ _ h => h) (Or.inl ⟨by rfl, ?hq15⟩) (unhide HS0) ?_
  case hq15 => (intro w hSw; (try dsimp only at hSw); go_simp) <;> with_reducible rfl
  simp only [Act.put, List.getElem_toArray, List.getElem_cons_zero, List.getElem_cons_succ, List.setIfInBounds_toArray, List.set_cons_zero, List.set_cons_succ]
  refine anyL_take (i := 7) (v := ?vq16) rfl (by kernel_rfl) (by kernel_rfl) (by kernel_rfl) (by kernel_rfl) (fun _ _ _ h => h) (Or.inl ⟨by rfl, ?hq16⟩) (unhide HS0) ?_
  case hq16 => (intro w hSw; (try dsimp only at hSw); go_simp) <;> with_reducible rfl
  simp only [Act.put, List.getElem_toArray, List.getElem_cons_zero, List.getElem_cons_succ, List.setIfInBounds_toArray, List.set_cons_zero, List.set_cons_succ]
  refine anyL_take (i := 8) (v := ?vq17) rfl (by kernel_rfl) (by kernel_rfl) (by kernel_rfl) (by kernel_rfl) (fun _ _ _ h => h) (Or.inl ⟨by rfl, ?hq17⟩) (unhide HS0) ?_
  case hq17 => (intro w hSw; (try dsimp only at hSw); go_simp) <;> with_reducible rfl
  simp only [Act.put, List.getElem_toArray, List.getElem_cons_zero, List.getElem_cons_succ, List.setIfInBounds_toArray, List.set_cons_zero, List.set_cons_succ]
  refine anyL_take (i := 9) (v := ?vq18) rfl (by kernel_rfl) (by kernel_rfl) (by kernel_rfl) (by kernel_rfl) (fun _ _ _ h => h) (Or.inl ⟨by rfl, ?hq18⟩) (unhide HS0) ?_
  case hq18 => (intro w hSw; (try dsimp only at hSw); go_simp) <;> with_reducible rfl
  simp only [Act.put, List.getElem_toArray, List.getElem_cons_zero, List.getElem_cons_succ, List.setIfInBounds_toArray, List.set_cons_zero, List.set_cons_succ]
  refine anyL_take (i := 10) (v := ?vq19) rfl (by kernel_rfl) (by kernel_rfl) (by kernel_rfl) (by kernel_rfl) (fun _ _ _ h => h) (Or.inl ⟨by rfl, ?hq19⟩) (unhide HS0) ?_
  case hq19 => (intro w hSw; (try dsimp only at hSw); go_simp) <;> with_reducible rfl
  simp only [Act.put, List.getElem_toArray, List.getElem_cons_zero, List.getElem_cons_succ, List.setIfInBounds_toArray, List.set_cons_zero, List.set_cons_succ]
  refine anyL_take (i := 11) (v := ?vq20) rfl (by kernel_rfl) (by kernel_rfl) (by kernel_rfl) (by kernel_rfl) (fun _ _ _ h => h) (Or.inl ⟨by rfl, ?hq20⟩) (unhide HS0) ?_
  case hq20 => (intro w hSw; (try dsimp only at hSw); go_simp) <;> with_reducible rfl
  simp only [Act.put, List.getElem_toArray, List.getElem_cons_zero, List.getElem_cons_succ, List.setIfInBounds_toArray, List.set_cons_zero, List.set_cons_succ]
  refine anyL_take (i := 12) (v := ?vq21) rfl (by kernel_rfl) (by kernel_rfl) (by kernel_rfl) (by kernel_rfl) (fun _ _ _ h => h) (Or.inl ⟨by rfl, ?hq21⟩) (unhide HS0) ?_
  case hq21 => (intro w hSw; (try dsimp only at hSw); go_simp) <;> with_reducible rfl
  simp only [Act.put, List.getElem_toArray, List.getElem_cons_zero, List.getElem_cons_succ, List.setIfInBounds_toArray, List.set_cons_zero, List.set_cons_succ]
  refine anyL_take (i := 13) (v := ?vq22) rfl (by kernel_rfl) (by kernel_rfl) (by kernel_rfl) (by kernel_rfl) (fun _ _ _ h => h) (Or.inl ⟨by rfl, ?hq22⟩) (unhide HS0) ?_
  case hq22 => (intro w hSw; (try dsimp only at hSw); go_simp) <;> with_reducible rfl
  simp only [Act.put, List.getElem_toArray, List.getElem_cons_zero, List.getElem_cons_succ, List.setIfInBounds_toArray, List.set_cons_zero, List.set_cons_succ]
  refine anyL_take (i := 14) (v := ?vq23) rfl (by kernel_rfl) (by kernel_rfl) (by kernel_rfl) (by kernel_rfl) (fun _ _ _ h => h) (Or.inl ⟨by rfl, ?hq23⟩) (unhide HS0) ?_
  case hq23 => (intro w hSw; (try dsimp only at hSw); go_simp) <;> with_reducible rfl
  simp only [Act.put, List.getElem_toArray, List.getElem_cons_zero, List.getElem_cons_succ, List.setIfInBounds_toArray, List.set_cons_zero, List.set_cons_succ]
  refine anyL_take (i := 15) (v := ?vq24) rfl (by kernel_rfl) (by kernel_rfl) (by kernel_rfl) (by kernel_rfl) (fun _ _ _ h => h) (Or.inl ⟨by rfl, ?hq24⟩) (unhide HS0) ?_
  case hq24 => (intro w hSw; (try dsimp only at hSw); go_simp) <;> with_reducible rfl
  simp only [Act.put, List.getElem_toArray, List.getElem_cons_zero, List.getElem_cons_succ, List.setIfInBounds_toArray, List.set_cons_zero, List.set_cons_succ]
  refine anyL_take (i := 16) (v := ?vq25) rfl (by kernel_rfl) (by kernel_rfl) (by kernel_rfl) (by kernel_rfl) (fun _ _ _ h => h) (Or.inl ⟨by rfl, ?hq25⟩) (unhide HS0) ?_
  case hq25 => (intro w hSw; (try dsimp only at hSw); go_simp) <;> with_reducible rfl
  simp only [Act.put, List.getElem_toArray, List.getElem_cons_zero, List.getElem_cons_succ, List.setIfInBounds_toArray, List.set_cons_zero, List.set_cons_succ]
  refine anyL_take (i := 17) (v := ?vq26) rfl (by kernel_rfl) (by kernel_rfl) (by kernel_rfl) (by kernel_rfl) (fun _ _ _ h => h) (Or.inl ⟨by rfl, ?hq26⟩) (unhide HS0) ?_
  case hq26 => (intro w hSw; (try dsimp only at hSw); go_simp) <;> with_reducible rfl
  simp only [Act.put, List.getElem_toArray, List.getElem_cons_zero, List.getElem_cons_succ, List.setIfInBounds_toArray, List.set_cons_zero, List.set_cons_succ]
  refine anyL_take (i := 18) (v := ?vq27) rfl (by kernel_rfl) (by kernel_rfl) (by kernel_rfl) (by kernel_rfl) (fun _ _ _ h => h) (Or.inl ⟨by rfl, ?hq27⟩) (unhide HS0) ?_
  case hq27 => (intro w hSw; (try dsimp only at hSw); go_simp) <;> with_reducible rfl
  simp only [Act.put, List.getElem_toArray, List.getElem_cons_zero, List.getElem_cons_succ, List.setIfInBounds_toArray, List.set_cons_zero, List.set_cons_succ]
  refine anyL_done (by kernel_rfl) ?_ _
  go_wp2_with fail
  refine bodyPost_ret (v := .tuple #[.string (strOfNums (h ++ t.drop o)), .bool (decide (h.drop m = t.take o))]) (by simp [results, Tryd.results17, go_sem]) rfl ⟨rfl, b1⟩

theorem sz_ifs {α : Type} (x y : Sz) (T F : α) : (if x.b = y.b then if x.r = y.r then if x.u = y.u then if x.e = y.e then T else F else F else F else F) = if x = y then T else F := by
  obtain ⟨b, r, u, e⟩ := x
  obtain ⟨b', r', u', e'⟩ := y
  simp only [Sz.mk.injEq]
  repeat' split
  all_goals first | rfl | (exfalso; simp_all)
set_option maxRecDepth 100000 in
set_option maxHeartbeats 2000000 in
theorem RValid_told (n : Nat) (r u e : Int) (h t s : List Int) (k : Bool) (w : World) (hs : ∀ x ∈ s, 0 ≤ x ∧ x ≤ 255) (ls : s.length ≤ 6) (hn : n ≤ 6) (lh : h.length = min 3 n) (lt : t.length = min 3 n)
    (HA : Hid (∀ W, Calls Tryd.prog 17 #[.agg #[.int .i64 (n : Int), .int .i64 r, .int .i64 u, .int .i64 e, .string (strOfNums h), .string (strOfNums t)]] W fun x w' => x = .returned (.tuple #[.string (strOfNums s), .bool k]) ∧ Below W.heap.size W w')) :
    Calls Tryd.prog 7 #[.agg #[.int .i64 (n : Int), .int .i64 r, .int .i64 u, .int .i64 e, .string (strOfNums h), .string (strOfNums t)]] w fun x w' => x = .returned (.bool (k && decide (szL s = (⟨(n : Int), r, u, e⟩ : Sz)))) ∧ Below w.heap.size w w' := by
  have b0 : Below w.heap.size w ((w.alloc (.cells #[.int .i64 (n : Int), .int .i64 r, .int .i64 u, .int .i64 e, .string (strOfNums h), .string (strOfNums t)] 25)).alloc (.cells #[.int .i64 (n : Int), .int .i64 r, .int .i64 u, .int .i64 e] 23)) := ((Below.refl _ _).alloc (Nat.le_refl _) _).alloc (by simp) _
  have zz : (w.alloc (.cells #[.int .i64 (n : Int), .int .i64 r, .int .i64 u, .int .i64 e, .string (strOfNums h), .string (strOfNums t)] 25)).heap.size = w.heap.size + 1 := World.size_alloc ..
  have gz := push_get (w.alloc (.cells #[.int .i64 (n : Int), .int .i64 r, .int .i64 u, .int .i64 e, .string (strOfNums h), .string (strOfNums t)] 25)) (.cells #[.int .i64 (n : Int), .int .i64 r, .int .i64 u, .int .i64 e] 23)
  rw [zz] at gz
  have ga : ((w.alloc (.cells #[.int .i64 (n : Int), .int .i64 r, .int .i64 u, .int .i64 e, .string (strOfNums h), .string (strOfNums t)] 25)).alloc (.cells #[.int .i64 (n : Int), .int .i64 r, .int .i64 u, .int .i64 e] 23)).heap[w.heap.size]? = _ := (heap_alloc_old _ _ (by omega)).trans (push_get w (.cells #[.int .i64 (n : Int), .int .i64 r, .int .i64 u, .int .i64 e, .string (strOfNums h), .string (strOfNums t)] 25))
  obtain ⟨c0, c1, c2, c3, c4, c5, _⟩ := cells6 ga
  obtain ⟨k0, k1, k2, k3, c6, c7, _⟩ := cells6 (push_get w (.cells #[.int .i64 (n : Int), .int .i64 r, .int .i64 u, .int .i64 e, .string (strOfNums h), .string (strOfNums t)] 25))
  obtain ⟨d0, d1, d2, d3, _⟩ := cells4 gz
  have q1 : ¬ ((n : Int) < 0) := by omega
  have q2 : ¬ ((268435456 : Int) < (n : Int)) := by omega
  have q3 : (n : Int) ≤ 6 := by omega
  obtain ⟨m, hm⟩ : ∃ m, m = min 3 n := ⟨_, rfl⟩
  have hmi : min (3 : Int) (n : Int) = (m : Int) := by omega
  rw [← hm] at lh lt
  have zh : (strOfNums h).size = m := (strOfNums_size h).trans lh
  have zt : (strOfNums t).size = m := (strOfNums_size t).trans lt
  clear hm lh lt hn
  go_enter Tryd.func7, Tryd.ntmps7
  go_wp2_with fail
  refine (unhide HA _).mono ?_
  rintro x wx ⟨rfl, bx⟩
  dsimp only
  have zb : w.heap.size + 1 < ((w.alloc (.cells #[.int .i64 (n : Int), .int .i64 r, .int .i64 u, .int .i64 e, .string (strOfNums h), .string (strOfNums t)] 25)).alloc (.cells #[.int .i64 (n : Int), .int .i64 r, .int .i64 u, .int .i64 e] 23)).heap.size := by rw [World.size_alloc, zz]; omega
  have gx := (bx.block (w.heap.size + 1) zb).trans gz
  have b1 : Below w.heap.size w wx.drew := Below.drewN (b0.trans (bx.mono b0.size)) 1
  obtain ⟨x0, x1, x2, x3, _⟩ := cells4 gx
  have zd : w.heap.size + 1 < wx.drew.heap.size := Nat.lt_of_lt_of_le zb bx.size
  have HS0 : Hid (wx.drew.cell? ⟨(w.heap.size + 1), 0, none⟩ = some (.int .i64 (n : Int)) ∧ wx.drew.cell? ⟨(w.heap.size + 1), 1, none⟩ = some (.int .i64 r) ∧ wx.drew.cell? ⟨(w.heap.size + 1), 2, none⟩ = some (.int .i64 u) ∧ wx.drew.cell? ⟨(w.heap.size + 1), 3, none⟩ = some (.int .i64 e)) := hide ⟨x0, x1, x2, x3⟩
  clear c0 c1 c2 c3 c4 c5 k0 k1 k2 k3 c6 c7 d0 d1 d2 d3 x0 x1 x2 x3 gx gz ga zz b0 bx zb
  go_upto_region 6 with fail
  cases k with
  | true =>
    refine regionL (S := fun w' => w'.cell? ⟨(w.heap.size + 1), 0, none⟩ = some (.int .i64 (n : Int)) ∧ w'.cell? ⟨(w.heap.size + 1), 1, none⟩ = some (.int .i64 r) ∧ w'.cell? ⟨(w.heap.size + 1), 2, none⟩ = some (.int .i64 u) ∧ w'.cell? ⟨(w.heap.size + 1), 3, none⟩ = some (.int .i64 e)) (fun _ => false) (by kernel_rfl) ?_
    generalize wx.drew = wd at *
    refine anyL_take (i := 0) (v := ?vq28) rfl (by kernel_rfl) (by kernel_rfl) (by kernel_rfl) (by kernel_rfl) (fun _ _ _ h => h) (Or.inl ⟨by rfl, ?hq28⟩) (unhide HS0) ?_
    case hq28 => (intro w hSw; (try dsimp only at hSw); go_simp) <;> with_reducible rfl
    simp only [Act.put, List.getElem_toArray, List.getElem_cons_zero, List.setIfInBounds_toArray, List.set_cons_zero, List.set_cons_succ]
    refine anyL_take (i := 1) (v := ?vq29) rfl (by kernel_rfl) (by kernel_rfl) (by kernel_rfl) (by kernel_rfl) (fun _ _ _ h => h) (Or.inl ⟨by rfl, ?hq29⟩) (unhide HS0) ?_
    case hq29 => (intro w hSw; (try dsimp only at hSw); go_simp) <;> with_reducible rfl
    simp only [Act.put, List.getElem_toArray, List.getElem_cons_zero, List.getElem_cons_succ, List.setIfInBounds_toArray, List.set_cons_zero, List.set_cons_succ]
    refine anyL_take (i := 2) (v := ?vq30) rfl (by kernel_rfl) (by kernel_rfl) (by kernel_rfl) (by kernel_rfl) (fun _ _ _ h => h) (Or.inl ⟨by rfl, ?hq30⟩) (unhide HS0) ?_
    case hq30 => (intro w hSw; (try dsimp only at hSw); go_simp) <;> with_reducible rfl
    simp only [Act.put, List.getElem_toArray, List.getElem_cons_zero, List.getElem_cons_succ, List.setIfInBounds_toArray, List.set_cons_zero, List.set_cons_succ]
    refine anyL_take (i := 5) (v := ?vq31) rfl (by kernel_rfl) (by kernel_rfl) (by kernel_rfl) (by kernel_rfl) (fun _ _ _ h => h) (Or.inl ⟨by rfl, ?hq31⟩) (unhide HS0) ?_
    case hq31 => (intro w hSw; (try dsimp only at hSw); go_simp) <;> with_reducible rfl
    simp only [Act.put, List.getElem_toArray, List.getElem_cons_zero, List.getElem_cons_succ, List.setIfInBounds_toArray, List.set_cons_zero, List.set_cons_succ]
    refine anyL_ready (rs := [3]) (by kernel_rfl) (by simp) ?_
    refine AllL.cons rfl (fun K hK => ?_) AllL.nil
    obtain ⟨cc, w3, r3, i3, b3, _⟩ := toBytes wd s hs (by omega)
    go_simp
    have HS3 : Hid (w3.cell? ⟨(w.heap.size + 1), 0, none⟩ = some (.int .i64 (n : Int)) ∧ w3.cell? ⟨(w.heap.size + 1), 1, none⟩ = some (.int .i64 r) ∧ w3.cell? ⟨(w.heap.size + 1), 2, none⟩ = some (.int .i64 u) ∧ w3.cell? ⟨(w.heap.size + 1), 3, none⟩ = some (.int .i64 e)) := hide ⟨(b3.cell (p := ⟨w.heap.size + 1, 0, none⟩) zd).trans (unhide HS0).1, (b3.cell (p := ⟨w.heap.size + 1, 1, none⟩) zd).trans (unhide HS0).2.1, (b3.cell (p := ⟨w.heap.size + 1, 2, none⟩) zd).trans (unhide HS0).2.2.1, (b3.cell (p := ⟨w.heap.size + 1, 3, none⟩) zd).trans (unhide HS0).2.2.2⟩
    have bb3 := b1.trans (b3.mono b1.size)
    have z3 := b3.size
    refine unhide hK _ _ (fun _ => unhide HS3) ?_
    clear hK K r3 b3
    refine anyL_ready (rs := [4]) (by kernel_rfl) (by simp) ?_
    refine AllL.cons rfl (fun K hK => ?_) AllL.nil
    go_simp
    refine (RSizes_at _ cc s w3 i3.1 (by omega)).mono ?_
    unfold szV
    rintro x w4 ⟨rfl, b4⟩
    have HS4 : Hid (w4.cell? ⟨(w.heap.size + 1), 0, none⟩ = some (.int .i64 (n : Int)) ∧ w4.cell? ⟨(w.heap.size + 1), 1, none⟩ = some (.int .i64 r) ∧ w4.cell? ⟨(w.heap.size + 1), 2, none⟩ = some (.int .i64 u) ∧ w4.cell? ⟨(w.heap.size + 1), 3, none⟩ = some (.int .i64 e)) := hide ⟨(b4.cell (p := ⟨w.heap.size + 1, 0, none⟩) (by show w.heap.size + 1 < w3.heap.size; omega)).trans (unhide HS3).1, (b4.cell (p := ⟨w.heap.size + 1, 1, none⟩) (by show w.heap.size + 1 < w3.heap.size; omega)).trans (unhide HS3).2.1, (b4.cell (p := ⟨w.heap.size + 1, 2, none⟩) (by show w.heap.size + 1 < w3.heap.size; omega)).trans (unhide HS3).2.2.1, (b4.cell (p := ⟨w.heap.size + 1, 3, none⟩) (by show w.heap.size + 1 < w3.heap.size; omega)).trans (unhide HS3).2.2.2⟩
    have bb4 := bb3.trans (b4.mono bb3.size)
    dsimp only
    refine unhide hK _ _ (fun _ => unhide HS4) ?_
    clear hK K
    refine anyL_take (i := 6) (v := .bool (decide (szL s = (⟨(n : Int), r, u, e⟩ : Sz)))) rfl (by kernel_rfl) (by kernel_rfl) (by kernel_rfl) (by kernel_rfl) (fun _ _ _ h => h) (Or.inl ⟨by rfl, ?gsz⟩) (unhide HS4) ?_
    case gsz =>
      intro w hSw
      go_simp
      refine (sz_ifs (szL s) (⟨(n : Int), r, u, e⟩ : Sz) _ _).trans ?_
      by_cases hxy : szL s = (⟨(n : Int), r, u, e⟩ : Sz)
      · rw [if_pos hxy, decide_eq_true hxy]
      · rw [if_neg hxy, decide_eq_false hxy]
    simp only [Act.put, List.getElem_toArray, List.getElem_cons_zero, List.getElem_cons_succ, List.setIfInBounds_toArray, List.set_cons_zero, List.set_cons_succ]
    refine anyL_take (i := 7) (v := ?vq32) rfl (by kernel_rfl) (by kernel_rfl) (by kernel_rfl) (by kernel_rfl) (fun _ _ _ h => h) (Or.inl ⟨by rfl, ?hq32⟩) (unhide HS4) ?_
    case hq32 => (intro w hSw; (try dsimp only at hSw); go_simp) <;> with_reducible rfl
    simp only [Act.put, List.getElem_toArray, List.getElem_cons_zero, List.getElem_cons_succ, List.setIfInBounds_toArray, List.set_cons_zero, List.set_cons_succ]
    refine anyL_take (i := 8) (v := ?vq33) rfl (by kernel_rfl) (by kernel_rfl) (by kernel_rfl) (by kernel_rfl) (fun _ _ _ h => h) (Or.inl ⟨by rfl, ?hq33⟩) (unhide HS4) ?_
    case hq33 => (intro w hSw; (try dsimp only at hSw); go_simp) <;> with_reducible rfl
    simp only [Act.put, List.getElem_toArray, List.getElem_cons_zero, List.getElem_cons_succ, List.setIfInBounds_toArray, List.set_cons_zero, List.set_cons_succ]
    refine anyL_done (by kernel_rfl) ?_ _
    go_wp2_with fail
    go_ret
    exact ⟨by simp, bb4⟩
  | false =>
    refine regionL (S := fun w' => w'.cell? ⟨(w.heap.size + 1), 0, none⟩ = some (.int .i64 (n : Int)) ∧ w'.cell? ⟨(w.heap.size + 1), 1, none⟩ = some (.int .i64 r) ∧ w'.cell? ⟨(w.heap.size + 1), 2, none⟩ = some (.int .i64 u) ∧ w'.cell? ⟨(w.heap.size + 1), 3, none⟩ = some (.int .i64 e)) (fun _ => false) (by kernel_rfl) ?_
    generalize wx.drew = wd at *
    refine anyL_take (i := 0) (v := ?vq34) rfl (by kernel_rfl) (by kernel_rfl) (by kernel_rfl) (by kernel_rfl) (fun _ _ _ h => h) (Or.inl ⟨by rfl, ?hq34⟩) (unhide HS0) ?_
    case hq34 => (intro w hSw; (try dsimp only at hSw); go_simp) <;> with_reducible rfl
    simp only [Act.put, List.getElem_toArray, List.getElem_cons_zero, List.setIfInBounds_toArray, List.set_cons_zero, List.set_cons_succ]
    refine anyL_take (i := 1) (v := ?vq35) rfl (by kernel_rfl) (by kernel_rfl) (by kernel_rfl) (by kernel_rfl) (fun _ _ _ h => h) (Or.inl ⟨by rfl, ?hq35⟩) (unhide HS0) ?_
    case hq35 => (intro w hSw; (try dsimp only at hSw); go_simp) <;> with_reducible rfl
    simp only [Act.put, List.getElem_toArray, List.getElem_cons_zero, List.getElem_cons_succ, List.setIfInBounds_toArray, List.set_cons_zero, List.set_cons_succ]
    refine anyL_take (i := 2) (v := undef) rfl (by kernel_rfl) (by kernel_rfl) (by kernel_rfl) (by kernel_rfl) (fun _ _ _ h => h) (Or.inr ⟨by rfl, rfl⟩) (unhide HS0) ?_
    simp only [Act.put, List.getElem_toArray, List.getElem_cons_zero, List.getElem_cons_succ, List.setIfInBounds_toArray, List.set_cons_zero, List.set_cons_succ]
    refine anyL_take (i := 3) (v := undef) rfl (by kernel_rfl) (by kernel_rfl) (by kernel_rfl) (by kernel_rfl) (fun _ _ _ h => h) (Or.inr ⟨by rfl, rfl⟩) (unhide HS0) ?_
    simp only [Act.put, List.getElem_toArray, List.getElem_cons_zero, List.getElem_cons_succ, List.setIfInBounds_toArray, List.set_cons_zero, List.set_cons_succ]
    refine anyL_take (i := 4) (v := undef) rfl (by kernel_rfl) (by kernel_rfl) (by kernel_rfl) (by kernel_rfl) (fun _ _ _ h => h) (Or.inr ⟨by rfl, rfl⟩) (unhide HS0) ?_
    simp only [Act.put, List.getElem_toArray, List.getElem_cons_zero, List.getElem_cons_succ, List.setIfInBounds_toArray, List.set_cons_zero, List.set_cons_succ]
    refine anyL_take (i := 5) (v := undef) rfl (by kernel_rfl) (by kernel_rfl) (by kernel_rfl) (by kernel_rfl) (fun _ _ _ h => h) (Or.inr ⟨by rfl, rfl⟩) (unhide HS0) ?_
    simp only [Act.put, List.getElem_toArray, List.getElem_cons_zero, List.getElem_cons_succ, List.setIfInBounds_toArray, List.set_cons_zero, List.set_cons_succ]
    refine anyL_take (i := 6) (v := undef) rfl (by kernel_rfl) (by kernel_rfl) (by kernel_rfl) (by kernel_rfl) (fun _ _ _ h => h) (Or.inr ⟨by rfl, rfl⟩) (unhide HS0) ?_
    simp only [Act.put, List.getElem_toArray, List.getElem_cons_zero, List.getElem_cons_succ, List.setIfInBounds_toArray, List.set_cons_zero, List.set_cons_succ]
    refine anyL_take (i := 7) (v := ?vq41) rfl (by kernel_rfl) (by kernel_rfl) (by kernel_rfl) (by kernel_rfl) (fun _ _ _ h => h) (Or.inl ⟨by rfl, ?hq41⟩) (unhide HS0) ?_
    case hq41 => (intro w hSw; (try dsimp only at hSw); go_simp) <;> with_reducible rfl
    simp only [Act.put, List.getElem_toArray, List.getElem_cons_zero, List.getElem_cons_succ, List.setIfInBounds_toArray, List.set_cons_zero, List.set_cons_succ]
    refine anyL_take (i := 8) (v := ?vq42) rfl (by kernel_rfl) (by kernel_rfl) (by kernel_rfl) (by kernel_rfl) (fun _ _ _ h => h) (Or.inl ⟨by rfl, ?hq42⟩) (unhide HS0) ?_
    case hq42 => (intro w hSw; (try dsimp only at hSw); go_simp) <;> with_reducible rfl
    simp only [Act.put, List.getElem_toArray, List.getElem_cons_zero, List.getElem_cons_succ, List.setIfInBounds_toArray, List.set_cons_zero, List.set_cons_succ]
    refine anyL_done (by kernel_rfl) ?_ _
    go_wp2_with fail
    go_ret
    exact ⟨by simp, b1⟩

theorem may_iff (z : Sz) : mayB z = (decide (0 ≤ z.r ∧ z.r ≤ z.b ∧ z.r ≤ z.u ∧ z.u ≤ 2 * z.r) && (decide (z.r - (z.u - z.r) ≤ z.b - 4 * (z.u - z.r)) && (decide (z.b - 4 * (z.u - z.r) ≤ 3 * (z.r - (z.u - z.r))) && (decide (0 ≤ z.e) && decide (z.e ≤ z.r))))) := by
  unfold mayB
  rw [Bool.eq_iff_iff]
  simp only [Bool.and_eq_true, decide_eq_true_eq]
  omega
set_option maxRecDepth 100000 in
set_option maxHeartbeats 4000000 in
theorem RValid_may (n : Nat) (r u e : Int) (h t : List Int) (w : World) (hn : 6 < n) (hm : n ≤ 268435456) (lh : h.length = 3) (lt : t.length = 3) :
    Calls Tryd.prog 7 #[.agg #[.int .i64 (n : Int), .int .i64 r, .int .i64 u, .int .i64 e, .string (strOfNums h), .string (strOfNums t)]] w fun x w' => x = .returned (.bool (mayB ⟨(n : Int), r, u, e⟩)) ∧ Below w.heap.size w w' := by
  have b0 : Below w.heap.size w ((w.alloc (.cells #[.int .i64 (n : Int), .int .i64 r, .int .i64 u, .int .i64 e, .string (strOfNums h), .string (strOfNums t)] 25)).alloc (.cells #[.int .i64 (n : Int), .int .i64 r, .int .i64 u, .int .i64 e] 23)) := ((Below.refl _ _).alloc (Nat.le_refl _) _).alloc (by simp) _
  have zz : (w.alloc (.cells #[.int .i64 (n : Int), .int .i64 r, .int .i64 u, .int .i64 e, .string (strOfNums h), .string (strOfNums t)] 25)).heap.size = w.heap.size + 1 := World.size_alloc ..
  have gz := push_get (w.alloc (.cells #[.int .i64 (n : Int), .int .i64 r, .int .i64 u, .int .i64 e, .string (strOfNums h), .string (strOfNums t)] 25)) (.cells #[.int .i64 (n : Int), .int .i64 r, .int .i64 u, .int .i64 e] 23)
  rw [zz] at gz
  have ga : ((w.alloc (.cells #[.int .i64 (n : Int), .int .i64 r, .int .i64 u, .int .i64 e, .string (strOfNums h), .string (strOfNums t)] 25)).alloc (.cells #[.int .i64 (n : Int), .int .i64 r, .int .i64 u, .int .i64 e] 23)).heap[w.heap.size]? = _ := (heap_alloc_old _ _ (by omega)).trans (push_get w (.cells #[.int .i64 (n : Int), .int .i64 r, .int .i64 u, .int .i64 e, .string (strOfNums h), .string (strOfNums t)] 25))
  obtain ⟨c0, c1, c2, c3, c4, c5, _⟩ := cells6 ga
  obtain ⟨k0, k1, k2, k3, c6, c7, _⟩ := cells6 (push_get w (.cells #[.int .i64 (n : Int), .int .i64 r, .int .i64 u, .int .i64 e, .string (strOfNums h), .string (strOfNums t)] 25))
  obtain ⟨d0, d1, d2, d3, _⟩ := cells4 gz
  have q1 : ¬ ((n : Int) < 0) := by omega
  have q2 : ¬ ((268435456 : Int) < (n : Int)) := by omega
  have q3 : ¬ ((n : Int) ≤ 6) := by omega
  have hmi : min (3 : Int) (n : Int) = 3 := by omega
  have zh : (strOfNums h).size = 3 := (strOfNums_size h).trans lh
  have zt : (strOfNums t).size = 3 := (strOfNums_size t).trans lt
  rw [may_iff]
  dsimp only
  clear lh lt gz ga
  go_enter Tryd.func7, Tryd.ntmps7
  by_cases j1 : r < 0
  · rw [decide_eq_false (p := 0 ≤ r ∧ _) (by omega), Bool.false_and]
    go_wp2_with fail
    go_ret
    exact ⟨rfl, b0⟩
  by_cases j2 : (n : Int) < r
  · rw [decide_eq_false (p := 0 ≤ r ∧ _) (by omega), Bool.false_and]
    go_wp2_with fail
    go_ret
    exact ⟨rfl, b0⟩
  by_cases j3 : u < r
  · rw [decide_eq_false (p := 0 ≤ r ∧ _) (by omega), Bool.false_and]
    go_wp2_with fail
    go_ret
    exact ⟨rfl, b0⟩
  have hw2 : IntKind.i64.wrap (2 * r) = 2 * r := by rw [IntKind.wrap_i64]; omega
  by_cases j4 : 2 * r < u
  · rw [decide_eq_false (p := 0 ≤ r ∧ _) (by omega), Bool.false_and]
    go_wp2_with fail
    go_ret
    exact ⟨rfl, b0⟩
  rw [decide_eq_true (p := 0 ≤ r ∧ _) (by omega), Bool.true_and]
  have hq : IntKind.i64.wrap (u - r) = u - r := by rw [IntKind.wrap_i64]; omega
  obtain ⟨q, hqq⟩ : ∃ q, q = u - r := ⟨_, rfl⟩
  rw [← hqq] at hq ⊢
  have hone : IntKind.i64.wrap (r - q) = r - q := by rw [IntKind.wrap_i64]; omega
  have hl4 : IntKind.i64.wrap (4 * q) = 4 * q := by rw [IntKind.wrap_i64]; omega
  have hleft : IntKind.i64.wrap ((n : Int) - 4 * q) = (n : Int) - 4 * q := by rw [IntKind.wrap_i64]; omega
  have h3o : IntKind.i64.wrap (3 * (r - q)) = 3 * (r - q) := by rw [IntKind.wrap_i64]; omega
  have hqi : u - r = q := hqq.symm
  clear hqq
  have HJ := hide (And.intro j1 j2)
  by_cases j5 : r - q ≤ (n : Int) - 4 * q
  · rw [decide_eq_true j5, Bool.true_and]
    by_cases j6 : (n : Int) - 4 * q ≤ 3 * (r - q)
    · rw [decide_eq_true j6, Bool.true_and]
      by_cases j7 : 0 ≤ e
      · rw [decide_eq_true j7, Bool.true_and]
        go_wp2_with fail
        go_ret
        exact ⟨rfl, b0⟩
      · rw [decide_eq_false j7, Bool.false_and]
        go_wp2_with fail
        go_ret
        exact ⟨rfl, b0⟩
    · rw [decide_eq_false j6, Bool.false_and]
      go_wp2_with fail
      go_ret
      exact ⟨rfl, b0⟩
  · rw [decide_eq_false j5, Bool.false_and]
    go_wp2_with fail
    go_ret
    exact ⟨rfl, b0⟩

set_option maxRecDepth 100000 in
set_option maxHeartbeats 2000000 in
theorem RValid_at (x : We) (w : World) (hx : Byw x) :
    Calls Tryd.prog 7 #[weV x] w fun y w' => y = .returned (.bool (validB x)) ∧ Below w.heap.size w w' := by
  obtain ⟨⟨b, r, u, e⟩, h, t⟩ := x
  unfold weV validB
  dsimp only
  by_cases h1 : b < 0 ∨ 268435456 < b
  · rw [if_pos h1]
    have b0 : Below w.heap.size w ((w.alloc (.cells #[.int .i64 b, .int .i64 r, .int .i64 u, .int .i64 e, .string (strOfNums h), .string (strOfNums t)] 25)).alloc (.cells #[.int .i64 b, .int .i64 r, .int .i64 u, .int .i64 e] 23)) := ((Below.refl _ _).alloc (Nat.le_refl _) _).alloc (by simp) _
    have zz : (w.alloc (.cells #[.int .i64 b, .int .i64 r, .int .i64 u, .int .i64 e, .string (strOfNums h), .string (strOfNums t)] 25)).heap.size = w.heap.size + 1 := World.size_alloc ..
    have gz := push_get (w.alloc (.cells #[.int .i64 b, .int .i64 r, .int .i64 u, .int .i64 e, .string (strOfNums h), .string (strOfNums t)] 25)) (.cells #[.int .i64 b, .int .i64 r, .int .i64 u, .int .i64 e] 23)
    rw [zz] at gz
    obtain ⟨k0, k1, k2, k3, _, _, _⟩ := cells6 (push_get w (.cells #[.int .i64 b, .int .i64 r, .int .i64 u, .int .i64 e, .string (strOfNums h), .string (strOfNums t)] 25))
    obtain ⟨d0, _, _, _, _⟩ := cells4 gz
    clear gz
    go_enter Tryd.func7, Tryd.ntmps7
    rcases Int.lt_or_le b 0 with q | q
    · go_wp2_with fail
      go_ret
      exact ⟨rfl, b0⟩
    · have q2 : 268435456 < b := by omega
      go_wp2_with fail
      go_ret
      exact ⟨rfl, b0⟩
  · rw [if_neg h1]
    obtain ⟨n, rfl⟩ : ∃ n : Nat, b = (n : Int) := ⟨b.toNat, by omega⟩
    by_cases h2 : (h.length : Int) ≠ min (n : Int) 3 ∨ (t.length : Int) ≠ min (n : Int) 3
    · rw [if_pos h2]
      have HH2 := hide h2
      clear h2
      have b0 : Below w.heap.size w ((w.alloc (.cells #[.int .i64 (n : Int), .int .i64 r, .int .i64 u, .int .i64 e, .string (strOfNums h), .string (strOfNums t)] 25)).alloc (.cells #[.int .i64 (n : Int), .int .i64 r, .int .i64 u, .int .i64 e] 23)) := ((Below.refl _ _).alloc (Nat.le_refl _) _).alloc (by simp) _
      have zz : (w.alloc (.cells #[.int .i64 (n : Int), .int .i64 r, .int .i64 u, .int .i64 e, .string (strOfNums h), .string (strOfNums t)] 25)).heap.size = w.heap.size + 1 := World.size_alloc ..
      have gz := push_get (w.alloc (.cells #[.int .i64 (n : Int), .int .i64 r, .int .i64 u, .int .i64 e, .string (strOfNums h), .string (strOfNums t)] 25)) (.cells #[.int .i64 (n : Int), .int .i64 r, .int .i64 u, .int .i64 e] 23)
      rw [zz] at gz
      have ga : ((w.alloc (.cells #[.int .i64 (n : Int), .int .i64 r, .int .i64 u, .int .i64 e, .string (strOfNums h), .string (strOfNums t)] 25)).alloc (.cells #[.int .i64 (n : Int), .int .i64 r, .int .i64 u, .int .i64 e] 23)).heap[w.heap.size]? = _ := (heap_alloc_old _ _ (by omega)).trans (push_get w (.cells #[.int .i64 (n : Int), .int .i64 r, .int .i64 u, .int .i64 e, .string (strOfNums h), .string (strOfNums t)] 25))
      obtain ⟨c0, c1, c2, c3, c4, c5, _⟩ := cells6 ga
      obtain ⟨k0, k1, k2, k3, c6, c7, _⟩ := cells6 (push_get w (.cells #[.int .i64 (n : Int), .int .i64 r, .int .i64 u, .int .i64 e, .string (strOfNums h), .string (strOfNums t)] 25))
      obtain ⟨d0, d1, d2, d3, _⟩ := cells4 gz
      clear gz ga
      have q1 : ¬ ((n : Int) < 0) := by omega
      have q2 : ¬ ((268435456 : Int) < (n : Int)) := by omega
      obtain ⟨k, hk⟩ : ∃ k, k = min 3 n := ⟨_, rfl⟩
      have hmin : min (3 : Int) (n : Int) = (k : Int) := by omega
      have hsh : (strOfNums h).size = h.length := strOfNums_size h
      have hst : (strOfNums t).size = t.length := strOfNums_size t
      go_enter Tryd.func7, Tryd.ntmps7
      by_cases q3 : h.length = k
      · have q4 : ¬ t.length = k := by have := unhide HH2; omega
        have q5 : ((t.length : Int) != (k : Int)) = true := by rw [bne_iff_ne]; omega
        have q6 : ((h.length : Int) != (k : Int)) = false := by rw [bne_eq_false_iff_eq]; omega
        clear hk q3 h1
        go_wp2_with fail
        go_ret
        exact ⟨rfl, b0⟩
      · have q5 : ((h.length : Int) != (k : Int)) = true := by rw [bne_iff_ne]; omega
        clear hk h1
        go_wp2_with fail
        go_ret
        exact ⟨rfl, b0⟩
    · rw [if_neg h2]
      have e1 : h.length = min 3 n := by omega
      have e2 : t.length = min 3 n := by omega
      by_cases h6 : (n : Int) ≤ 6
      · rw [if_pos h6, Int.toNat_natCast]
        rcases Nat.lt_or_ge 3 n with h3 | h3
        · have := RValid_told n r u e h t (h ++ t.drop (6 - n)) (decide (h.drop (n - 3) = t.take (6 - n))) w (fun x hm => (List.mem_append.1 hm).elim (hx.h x) (fun hm => hx.t x (List.mem_of_mem_drop hm))) (by simp; omega) (by omega) e1 e2 (hide fun W => Rall_some n r u e h t W hx.h hx.t h3 (by omega) (by omega) (by omega))
          rw [← told_some h3 (by omega) (by omega) (by omega)] at this
          rwa [← Bool.decide_and, ← decide_eq_decide.2 (some_iff h3 (by omega) (by omega) (by omega))] at this
        · have := RValid_told n r u e h t h (decide (h = t)) w hx.h (by omega) (by omega) e1 e2 (hide fun W => Rall_few n r u e h t W hx.h hx.t h3)
          have e3 := few_iff (z := ⟨(n : Int), r, u, e⟩) (t := t) h3 (by omega : h.length = n)
          rw [told_few (t := t) (by omega : h.length = n)] at e3 ⊢
          rwa [← Bool.decide_and, ← decide_eq_decide.2 e3] at this
      · rw [if_neg h6]
        exact RValid_may n r u e h t w (by omega) (by omega) (by omega) (by omega)
end Go.Proofs.YtchlnphapnafcaaDoor
