/- Layer 16: a nil *Ranges; what Behind refuses. -/
import Derived.Test.YtifpjdodignflaaRv35

namespace Go.Proofs.Ytifpjdodignflaa
open Go.ChangeShapes Go.WideShapes Go.ChangeAt Go.RowKit
attribute [local go_sem] Oper.semAt_some

set_option maxRecDepth 100000 in
set_option maxHeartbeats 1000000 in
theorem GLenN_at (X : World) : Calls Try.prog 32 #[.pointer none] X fun y X' => y = .returned (.int .i64 0) ∧ Below X.heap.size X X' := by
  go_enter Try.func32, Try.ntmps32
  go_wp2_with fail
  refine bodyPost_ret (results_tmp rfl _ _ _) rfl ⟨rfl, Below.refl _ _⟩
set_option maxRecDepth 100000 in
set_option maxHeartbeats 1000000 in
theorem GDropN_at (s : ByteArray) (X : World) : Calls Try.prog 23 #[.pointer none, .string s] X fun y X' => y = .returned (.tuple #[.pointer none, .int .i64 1]) ∧ Below X.heap.size X X' := by
  go_enter Try.func23, Try.ntmps23
  go_wp2_with fail
  refine bodyPost_ret (results_tmp2 rfl _ _ _) rfl ⟨rfl, Below.refl _ _⟩
set_option maxRecDepth 100000 in
set_option maxHeartbeats 1000000 in
theorem GOverN_at (a b : Int) (X : World) : Calls Try.prog 18 #[.pointer none, .int .i64 a, .int .i64 b] X fun y X' => y = .returned (.slice none 0 0) ∧ Below X.heap.size X X' := by
  go_enter Try.func18, Try.ntmps18
  go_wp2_with fail
  refine bodyPost_ret (results_tmp rfl _ _ _) rfl ⟨rfl, Below.refl _ _⟩
set_option maxRecDepth 100000 in
set_option maxHeartbeats 1000000 in
theorem GBehN_at (v : Value) (X : World) : Calls Try.prog 15 #[.pointer none, v] X fun y X' => y = .returned (.tuple #[.pointer none, .slice none 0 0, .int .i64 1]) ∧ Below X.heap.size X X' := by
  go_enter Try.func15, Try.ntmps15
  go_wp2_with fail
  refine bodyPost_ret (results_tmp3 rfl _ _) rfl ⟨rfl, Below.refl _ _⟩
set_option maxRecDepth 100000 in
set_option maxHeartbeats 1000000 in
theorem GGetN_at (s : ByteArray) (X : World) : Calls Try.prog 21 #[.pointer none, .string s] X fun y X' => y = .returned (.tuple #[.agg #[.string ⟨#[]⟩, .int .i64 0, .int .i64 0, .int .i64 0, .int .i64 0], .bool false]) ∧ Below X.heap.size X X' := by
  have b0 := (Below.refl X.heap.size X).alloc (Nat.le_refl _) (.cells #[.string ⟨#[]⟩, .int .i64 0, .int .i64 0, .int .i64 0, .int .i64 0] 37)
  have k0 := Cls.new X 37 #[.string ⟨#[]⟩, .int .i64 0, .int .i64 0, .int .i64 0, .int .i64 0]
  have HB := hide b0
  have f0 := k0.frozen 0
  have f1 := k0.frozen 1
  have f2 := k0.frozen 2
  have f3 := k0.frozen 3
  have f4 := k0.frozen 4
  have e0 := k0.cell 0
  have e1 := k0.cell 1
  have e2 := k0.cell 2
  have e3 := k0.cell 3
  have e4 := k0.cell 4
  simp only [List.getElem?_toArray, List.getElem?_cons_zero, List.getElem?_cons_succ] at e0 e1 e2 e3 e4
  clear b0 k0
  go_enter Try.func21, Try.ntmps21
  go_wp2_with fail
  refine bodyPost_ret (v := .tuple #[.agg #[.string ⟨#[]⟩, .int .i64 0, .int .i64 0, .int .i64 0, .int .i64 0], .bool false]) (by simp [results, Try.results21, go_sem, e0, e1, e2, e3, e4]) rfl ⟨rfl, unhide HB⟩
set_option maxRecDepth 100000 in
set_option maxHeartbeats 1000000 in
theorem GListN_at (X : World) : Calls Try.prog 13 #[.pointer none] X fun y X' => y = .returned (.slice none 0 0) ∧ Below X.heap.size X X' := by
  have H1 := hide (GLenN_at X)
  have H2 := hide fun (Y : World) (a b : Int) => GOverN_at a b Y
  go_enter Try.func13, Try.ntmps13
  go_wp2_with fail
  refine (unhide H1).mono ?_
  rintro y w1 ⟨rfl, x1⟩
  dsimp only
  have HX1 := hide x1
  have HC := hide (unhide H2 w1 0 0)
  clear H1 H2 x1
  go_wp2_with fail
  refine (unhide HC).mono ?_
  rintro y w2 ⟨rfl, x2⟩
  dsimp only
  have HX2 := hide ((unhide HX1).trans (x2.mono (unhide HX1).size))
  clear HC HX1 x2
  go_wp2_with fail
  refine bodyPost_ret (results_tmp rfl _ _ _) rfl ⟨rfl, unhide HX2⟩
set_option maxRecDepth 100000 in
set_option maxHeartbeats 1000000 in
theorem GCovN_at (X : World) : Calls Try.prog 17 #[.pointer none] X fun y X' => y = .returned (.slice none 0 0) ∧ Below X.heap.size X X' := by
  have H1 := hide (GListN_at X)
  go_enter Try.func17, Try.ntmps17
  go_wp2_with fail
  refine (unhide H1).mono ?_
  rintro y w1 ⟨rfl, x1⟩
  dsimp only
  have HX1 := hide x1
  clear H1 x1
  go_wp2_with fail
  go_loopw [3, 5, 6, 10] (fun v3 v5 v6 v10 wx => ((∃ z, v5 = z) ∧ (∃ z, v6 = z)) ∧ v3 = .slice none 0 0 ∧ v10 = .int .i64 0 ∧ Hid (Below X.heap.size X wx)) (fun _ _ _ _ _ => 0)
  case atStart => exact ⟨⟨⟨_, rfl⟩, ⟨_, rfl⟩⟩, rfl, rfl, HX1⟩
  case round =>
    obtain ⟨⟨⟨z1, rfl⟩, ⟨z2, rfl⟩⟩, rfl, rfl, HX⟩ := hrel
    clear HX1
    go_wp2_with fail
    refine bodyPost_ret (results_tmp rfl _ _ _) rfl ⟨rfl, unhide HX⟩
set_option maxRecDepth 100000 in
set_option maxHeartbeats 1000000 in
theorem GSetN_at (x : Rg) (X : World) : Calls Try.prog 12 #[.pointer none, rgV x] X fun y X' => y = .returned (.tuple #[.pointer none, .int .i64 1]) ∧ Below X.heap.size X X' := by
  obtain ⟨xn, xl, xh, xs, xe⟩ := x
  unfold rgV
  dsimp only
  have HR : Hid (∀ Y : World, Calls Try.prog 29 #[.pointer none, .agg #[.string xn, .int .i64 xl, .int .i64 xh, .int .i64 xs, .int .i64 xe]] Y fun y X' => y = .returned (.int .i64 1) ∧ Below Y.heap.size Y X') := hide fun Y => by
    have HB := hide ((Below.refl Y.heap.size Y).alloc (Nat.le_refl _) (.cells #[.string xn, .int .i64 xl, .int .i64 xh, .int .i64 xs, .int .i64 xe] 37))
    go_enter Try.func29, Try.ntmps29
    go_wp2_with fail
    refine bodyPost_ret (results_tmp rfl _ _ _) rfl ⟨rfl, unhide HB⟩
  have b1 := (Below.refl X.heap.size X).alloc (Nat.le_refl _) (.cells #[.string xn, .int .i64 xl, .int .i64 xh, .int .i64 xs, .int .i64 xe] 37)
  have k1 := Cls.new X 37 #[.string xn, .int .i64 xl, .int .i64 xh, .int .i64 xs, .int .i64 xe]
  have d0 := k1.cell 0
  have d1 := k1.cell 1
  have d2 := k1.cell 2
  have d3 := k1.cell 3
  have d4 := k1.cell 4
  simp only [List.getElem?_toArray, List.getElem?_cons_zero, List.getElem?_cons_succ] at d0 d1 d2 d3 d4
  have HB := hide b1
  have HC := hide (unhide HR (X.alloc (.cells #[.string xn, .int .i64 xl, .int .i64 xh, .int .i64 xs, .int .i64 xe] 37)))
  clear b1 k1 HR
  go_enter Try.func12, Try.ntmps12
  go_wp2_with fail
  refine (unhide HC).mono ?_
  rintro y w1 ⟨rfl, x1⟩
  dsimp only
  have HX := hide ((unhide HB).trans (x1.mono (unhide HB).size))
  clear HC HB x1 d0 d1 d2 d3 d4
  go_wp2_with fail
  refine bodyPost_ret (results_tmp2 rfl _ _ _) rfl ⟨rfl, unhide HX⟩
end Go.Proofs.Ytifpjdodignflaa
