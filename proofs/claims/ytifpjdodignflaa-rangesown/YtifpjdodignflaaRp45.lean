/- Layer 16: the law's play: Get and Over (written by wip/tools/rgs.py). -/
import Derived.Test.YtifpjdodignflaaRp41

namespace Go.Proofs.Ytifpjdodignflaa
open Go.ChangeShapes Go.WideShapes Go.ChangeAt Go.RowKit
attribute [local go_sem] Oper.semAt_some

set_option maxRecDepth 100000 in
set_option maxHeartbeats 8000000 in
theorem playGS_at (g : Nat) (n : Int) (L : List Rg) (a : Option Addr) (c : Nat) (D : List Rg) (kd : Int) (x : Rg) (ad : Option Addr) (cd : Nat) (d : List Dop) (X : World) (h : StR X g n L a D) (ho : IsO X ad d) (k0 : kd ≠ 0) (k1 : kd ≠ 1) (k2 : kd ≠ 2) (m : Rg) (hg : getG x.n L = some m) :
    Calls Try.prog 11 #[.pointer (some ⟨g, 0, none⟩), rsV n a D.length c, ocA kd x ad d.length cd] X (PlQ X) := by
  have HP := hide (PlJ.start X g n L a c D kd x ad cd d h ho)
  have HO := hide ho
  obtain ⟨xn, xl, xh, xs, xe⟩ := x
  unfold rsV ocA
  dsimp only at HP ⊢
  clear h ho
  have t0 : (kd == 0) = false := by simpa using k0
  have t1 : (kd == 1) = false := by simpa using k1
  have t2 : (kd == 2) = false := by simpa using k2
  obtain ⟨mn, ml, mh, ms, me⟩ := m
  have HG0 := hide hg
  clear hg k0 k1 k2
  dsimp only at HG0
  go_enter Try.func11, Try.ntmps11
  go_upto_region 5 with fail
  generalize (((X.alloc (.cells #[.int .i64 n, .slice a D.length c] 30)).alloc (.cells #[.int .i64 kd, .string xn, .int .i64 xl, .int .i64 xh, .int .i64 xs, .int .i64 xe, .slice ad d.length cd] 41)).alloc (.cells #[.int .i64 0, .slice none 0 0] 30)).alloc (.cells #[.int .i64 0, .slice none 0 0] 30) = w0 at *
  generalize X.heap.size + 1 = B1 at *
  generalize B1 + 1 = B2 at *
  generalize B2 + 1 = B3 at *
  obtain ⟨c0, c1, a0, a1, a2, a3, a4, a5, a6⟩ := (unhide HP).cells
  dsimp only at a0 a1 a2 a3 a4 a5 a6
  have HC1 := hide (GGet_at g n L xn w0 (unhide HP).s.m)
  rw [unhide HG0] at HC1
  simp only [Option.map_some, Option.getD_some, Option.isSome_some] at HC1
  unfold rgV at HC1
  dsimp only at HC1
  go_wp2_with fail
  refine (unhide HC1).mono ?_
  rintro y w1 ⟨rfl, x1⟩
  dsimp only
  have hP1 := (unhide HP).on x1
  have hBx := (Below.refl w1.heap.size w1).alloc (Nat.le_refl _) (.cells #[.string mn, .int .i64 ml, .int .i64 mh, .int .i64 ms, .int .i64 me] 37)
  have HPx := hide (hP1.on hBx)
  have HX := hide (Cls.new w1 37 #[.string mn, .int .i64 ml, .int .i64 mh, .int .i64 ms, .int .i64 me])
  have HBX := hide hP1.b.size
  clear HC1 HP x1 hP1 hBx c0 c1 a0 a1 a2 a3 a4 a5 a6
  go_upto_region 7 with fail
  generalize hw1 : w1.alloc (.cells #[.string mn, .int .i64 ml, .int .i64 mh, .int .i64 ms, .int .i64 me] 37) = wx at *
  generalize w1.heap.size = BX at *
  clear hw1
  obtain ⟨c0, c1, a0, a1, a2, a3, a4, a5, a6⟩ := (unhide HPx).cells
  dsimp only at a0 a1 a2 a3 a4 a5 a6
  have HC2 := hide (RGetR_at n a c D xn wx (unhide HPx).s.k (unhide HPx).s.len3)
  unfold rsV getV at HC2
  rw [← (unhide HPx).s.r.get, unhide HG0] at HC2
  simp only [Option.map_some, Option.getD_some, Option.isSome_some] at HC2
  unfold rgV at HC2
  dsimp only at HC2
  go_wp2_with fail
  refine (unhide HC2).mono ?_
  rintro y w2 ⟨rfl, x2⟩
  dsimp only
  have hP2 := (unhide HPx).on x2
  have hBy := (Below.refl w2.heap.size w2).alloc (Nat.le_refl _) (.cells #[.string mn, .int .i64 ml, .int .i64 mh, .int .i64 ms, .int .i64 me] 37)
  have HPy := hide (hP2.on hBy)
  have kx := (unhide HX).below x2 (unhide HX).lt
  have HX2 := hide (kx.below hBy kx.lt)
  have HY := hide (Cls.new w2 37 #[.string mn, .int .i64 ml, .int .i64 mh, .int .i64 ms, .int .i64 me])
  clear HC2 HPx x2 hP2 hBy kx HX c0 c1 a0 a1 a2 a3 a4 a5 a6
  go_upto_region 8 with fail
  generalize hw2 : w2.alloc (.cells #[.string mn, .int .i64 ml, .int .i64 mh, .int .i64 ms, .int .i64 me] 37) = wy at *
  generalize w2.heap.size = BY at *
  clear hw2
  have HPw := hide ((unhide HPy).on (Below.refl wy.heap.size wy).drew)
  have hXw : Cls wy.drew BX 37 #[.string mn, .int .i64 ml, .int .i64 mh, .int .i64 ms, .int .i64 me] := unhide HX2
  have hYw : Cls wy.drew BY 37 #[.string mn, .int .i64 ml, .int .i64 mh, .int .i64 ms, .int .i64 me] := unhide HY
  clear HPy HX2 HY
  have HSw : Hid (∀ Y, Below wy.drew.heap.size wy.drew Y → Y.cell? ⟨X.heap.size, 0, none⟩ = some (.int .i64 n) ∧ Y.cell? ⟨X.heap.size, 1, none⟩ = some (.slice a D.length c) ∧ Y.cell? ⟨B1, 2, none⟩ = some (.int .i64 xl) ∧ Y.cell? ⟨B1, 3, none⟩ = some (.int .i64 xh) ∧ Y.cell? ⟨BX, 0, none⟩ = some (.string mn) ∧ Y.cell? ⟨BX, 1, none⟩ = some (.int .i64 ml) ∧ Y.cell? ⟨BX, 2, none⟩ = some (.int .i64 mh) ∧ Y.cell? ⟨BX, 3, none⟩ = some (.int .i64 ms) ∧ Y.cell? ⟨BX, 4, none⟩ = some (.int .i64 me) ∧ Y.cell? ⟨BY, 0, none⟩ = some (.string mn) ∧ Y.cell? ⟨BY, 1, none⟩ = some (.int .i64 ml) ∧ Y.cell? ⟨BY, 2, none⟩ = some (.int .i64 mh) ∧ Y.cell? ⟨BY, 3, none⟩ = some (.int .i64 ms) ∧ Y.cell? ⟨BY, 4, none⟩ = some (.int .i64 me)) := hide fun Y hY => by
    obtain ⟨c0, c1, _, _, a2, a3, _, _, _⟩ := ((unhide HPw).on hY).cells
    have kX := hXw.below hY hXw.lt
    have kY := hYw.below hY hYw.lt
    exact ⟨c0, c1, a2, a3, (kX.cell 0).trans rfl, (kX.cell 1).trans rfl, (kX.cell 2).trans rfl, (kX.cell 3).trans rfl, (kX.cell 4).trans rfl, (kY.cell 0).trans rfl, (kY.cell 1).trans rfl, (kY.cell 2).trans rfl, (kY.cell 3).trans rfl, (kY.cell 4).trans rfl⟩
  have HKXY := hide (And.intro hXw hYw)
  clear hXw hYw
  have HC3 := hide (GOver_at g n L xl xh wy.drew (unhide HPw).s.m (unhide HPw).s.len2)
  refine regionL (S := fun z => z.cell? ⟨X.heap.size, 0, none⟩ = some (.int .i64 n) ∧ z.cell? ⟨X.heap.size, 1, none⟩ = some (.slice a D.length c) ∧ z.cell? ⟨B1, 2, none⟩ = some (.int .i64 xl) ∧ z.cell? ⟨B1, 3, none⟩ = some (.int .i64 xh) ∧ z.cell? ⟨BX, 0, none⟩ = some (.string mn) ∧ z.cell? ⟨BX, 1, none⟩ = some (.int .i64 ml) ∧ z.cell? ⟨BX, 2, none⟩ = some (.int .i64 mh) ∧ z.cell? ⟨BX, 3, none⟩ = some (.int .i64 ms) ∧ z.cell? ⟨BX, 4, none⟩ = some (.int .i64 me) ∧ z.cell? ⟨BY, 0, none⟩ = some (.string mn) ∧ z.cell? ⟨BY, 1, none⟩ = some (.int .i64 ml) ∧ z.cell? ⟨BY, 2, none⟩ = some (.int .i64 mh) ∧ z.cell? ⟨BY, 3, none⟩ = some (.int .i64 ms) ∧ z.cell? ⟨BY, 4, none⟩ = some (.int .i64 me)) (fun _ => false) (by kernel_rfl) ?_
  generalize wy.drew = zz at *
  refine anyL_take (i := 0) (v := ?vovs0) rfl (by kernel_rfl) (by kernel_rfl) (by kernel_rfl) (by kernel_rfl) (fun _ _ _ h => h) (Or.inl ⟨by rfl, ?hovs0⟩) (unhide HSw _ (Below.refl _ _)) ?_
  case hovs0 => (intro w hSw; (try dsimp only at hSw); go_simp) <;> with_reducible rfl
  simp only [Act.put, List.getElem_toArray, List.getElem_cons_zero, List.setIfInBounds_toArray, List.set_cons_zero, List.set_cons_succ]
  refine anyL_take (i := 1) (v := ?vovs1) rfl (by kernel_rfl) (by kernel_rfl) (by kernel_rfl) (by kernel_rfl) (fun _ _ _ h => h) (Or.inl ⟨by rfl, ?hovs1⟩) (unhide HSw _ (Below.refl _ _)) ?_
  case hovs1 => (intro w hSw; (try dsimp only at hSw); go_simp) <;> with_reducible rfl
  simp only [Act.put, List.getElem_toArray, List.getElem_cons_zero, List.getElem_cons_succ, List.setIfInBounds_toArray, List.set_cons_zero, List.set_cons_succ]
  refine anyL_take (i := 2) (v := ?vovs2) rfl (by kernel_rfl) (by kernel_rfl) (by kernel_rfl) (by kernel_rfl) (fun _ _ _ h => h) (Or.inl ⟨by rfl, ?hovs2⟩) (unhide HSw _ (Below.refl _ _)) ?_
  case hovs2 => (intro w hSw; (try dsimp only at hSw); go_simp) <;> with_reducible rfl
  simp only [Act.put, List.getElem_toArray, List.getElem_cons_zero, List.getElem_cons_succ, List.setIfInBounds_toArray, List.set_cons_zero, List.set_cons_succ]
  refine anyL_take (i := 3) (v := ?vovs3) rfl (by kernel_rfl) (by kernel_rfl) (by kernel_rfl) (by kernel_rfl) (fun _ _ _ h => h) (Or.inl ⟨by rfl, ?hovs3⟩) (unhide HSw _ (Below.refl _ _)) ?_
  case hovs3 => (intro w hSw; (try dsimp only at hSw); go_simp) <;> with_reducible rfl
  simp only [Act.put, List.getElem_toArray, List.getElem_cons_zero, List.getElem_cons_succ, List.setIfInBounds_toArray, List.set_cons_zero, List.set_cons_succ]
  refine anyL_take (i := 4) (v := ?vovs4) rfl (by kernel_rfl) (by kernel_rfl) (by kernel_rfl) (by kernel_rfl) (fun _ _ _ h => h) (Or.inl ⟨by rfl, ?hovs4⟩) (unhide HSw _ (Below.refl _ _)) ?_
  case hovs4 => (intro w hSw; (try dsimp only at hSw); go_simp) <;> with_reducible rfl
  simp only [Act.put, List.getElem_toArray, List.getElem_cons_zero, List.getElem_cons_succ, List.setIfInBounds_toArray, List.set_cons_zero, List.set_cons_succ]
  refine anyL_take (i := 5) (v := ?vovs5) rfl (by kernel_rfl) (by kernel_rfl) (by kernel_rfl) (by kernel_rfl) (fun _ _ _ h => h) (Or.inl ⟨by rfl, ?hovs5⟩) (unhide HSw _ (Below.refl _ _)) ?_
  case hovs5 => (intro w hSw; (try dsimp only at hSw); go_simp) <;> with_reducible rfl
  simp only [Act.put, List.getElem_toArray, List.getElem_cons_zero, List.getElem_cons_succ, List.setIfInBounds_toArray, List.set_cons_zero, List.set_cons_succ]
  refine anyL_take (i := 6) (v := ?vovs6) rfl (by kernel_rfl) (by kernel_rfl) (by kernel_rfl) (by kernel_rfl) (fun _ _ _ h => h) (Or.inl ⟨by rfl, ?hovs6⟩) (unhide HSw _ (Below.refl _ _)) ?_
  case hovs6 => (intro w hSw; (try dsimp only at hSw); go_simp) <;> with_reducible rfl
  simp only [Act.put, List.getElem_toArray, List.getElem_cons_zero, List.getElem_cons_succ, List.setIfInBounds_toArray, List.set_cons_zero, List.set_cons_succ]
  refine anyL_take (i := 7) (v := ?vovs7) rfl (by kernel_rfl) (by kernel_rfl) (by kernel_rfl) (by kernel_rfl) (fun _ _ _ h => h) (Or.inl ⟨by rfl, ?hovs7⟩) (unhide HSw _ (Below.refl _ _)) ?_
  case hovs7 => (intro w hSw; (try dsimp only at hSw); go_simp) <;> with_reducible rfl
  simp only [Act.put, List.getElem_toArray, List.getElem_cons_zero, List.getElem_cons_succ, List.setIfInBounds_toArray, List.set_cons_zero, List.set_cons_succ]
  refine anyL_take (i := 8) (v := ?vovs8) rfl (by kernel_rfl) (by kernel_rfl) (by kernel_rfl) (by kernel_rfl) (fun _ _ _ h => h) (Or.inl ⟨by rfl, ?hovs8⟩) (unhide HSw _ (Below.refl _ _)) ?_
  case hovs8 => (intro w hSw; (try dsimp only at hSw); go_simp) <;> with_reducible rfl
  simp only [Act.put, List.getElem_toArray, List.getElem_cons_zero, List.getElem_cons_succ, List.setIfInBounds_toArray, List.set_cons_zero, List.set_cons_succ]
  refine anyL_take (i := 9) (v := ?vovs9) rfl (by kernel_rfl) (by kernel_rfl) (by kernel_rfl) (by kernel_rfl) (fun _ _ _ h => h) (Or.inl ⟨by rfl, ?hovs9⟩) (unhide HSw _ (Below.refl _ _)) ?_
  case hovs9 => (intro w hSw; (try dsimp only at hSw); go_simp) <;> with_reducible rfl
  simp only [Act.put, List.getElem_toArray, List.getElem_cons_zero, List.getElem_cons_succ, List.setIfInBounds_toArray, List.set_cons_zero, List.set_cons_succ]
  refine anyL_take (i := 10) (v := ?vovs10) rfl (by kernel_rfl) (by kernel_rfl) (by kernel_rfl) (by kernel_rfl) (fun _ _ _ h => h) (Or.inl ⟨by rfl, ?hovs10⟩) (unhide HSw _ (Below.refl _ _)) ?_
  case hovs10 => (intro w hSw; (try dsimp only at hSw); go_simp) <;> with_reducible rfl
  simp only [Act.put, List.getElem_toArray, List.getElem_cons_zero, List.getElem_cons_succ, List.setIfInBounds_toArray, List.set_cons_zero, List.set_cons_succ]
  refine anyL_take (i := 11) (v := ?vovs11) rfl (by kernel_rfl) (by kernel_rfl) (by kernel_rfl) (by kernel_rfl) (fun _ _ _ h => h) (Or.inl ⟨by rfl, ?hovs11⟩) (unhide HSw _ (Below.refl _ _)) ?_
  case hovs11 => (intro w hSw; (try dsimp only at hSw); go_simp) <;> with_reducible rfl
  simp only [Act.put, List.getElem_toArray, List.getElem_cons_zero, List.getElem_cons_succ, List.setIfInBounds_toArray, List.set_cons_zero, List.set_cons_succ]
  refine anyL_take (i := 12) (v := ?vovs12) rfl (by kernel_rfl) (by kernel_rfl) (by kernel_rfl) (by kernel_rfl) (fun _ _ _ h => h) (Or.inl ⟨by rfl, ?hovs12⟩) (unhide HSw _ (Below.refl _ _)) ?_
  case hovs12 => (intro w hSw; (try dsimp only at hSw); go_simp) <;> with_reducible rfl
  simp only [Act.put, List.getElem_toArray, List.getElem_cons_zero, List.getElem_cons_succ, List.setIfInBounds_toArray, List.set_cons_zero, List.set_cons_succ]
  refine anyL_take (i := 13) (v := ?vovs13) rfl (by kernel_rfl) (by kernel_rfl) (by kernel_rfl) (by kernel_rfl) (fun _ _ _ h => h) (Or.inl ⟨by rfl, ?hovs13⟩) (unhide HSw _ (Below.refl _ _)) ?_
  case hovs13 => (intro w hSw; (try dsimp only at hSw); go_simp) <;> with_reducible rfl
  simp only [Act.put, List.getElem_toArray, List.getElem_cons_zero, List.getElem_cons_succ, List.setIfInBounds_toArray, List.set_cons_zero, List.set_cons_succ]
  refine anyL_take (i := 14) (v := ?vovs14) rfl (by kernel_rfl) (by kernel_rfl) (by kernel_rfl) (by kernel_rfl) (fun _ _ _ h => h) (Or.inl ⟨by rfl, ?hovs14⟩) (unhide HSw _ (Below.refl _ _)) ?_
  case hovs14 => (intro w hSw; (try dsimp only at hSw); go_simp) <;> with_reducible rfl
  simp only [Act.put, List.getElem_toArray, List.getElem_cons_zero, List.getElem_cons_succ, List.setIfInBounds_toArray, List.set_cons_zero, List.set_cons_succ]
  refine anyL_take (i := 15) (v := ?vovs15) rfl (by kernel_rfl) (by kernel_rfl) (by kernel_rfl) (by kernel_rfl) (fun _ _ _ h => h) (Or.inl ⟨by rfl, ?hovs15⟩) (unhide HSw _ (Below.refl _ _)) ?_
  case hovs15 => (intro w hSw; (try dsimp only at hSw); go_simp) <;> with_reducible rfl
  simp only [Act.put, List.getElem_toArray, List.getElem_cons_zero, List.getElem_cons_succ, List.setIfInBounds_toArray, List.set_cons_zero, List.set_cons_succ]
  refine anyL_take (i := 16) (v := ?vovs16) rfl (by kernel_rfl) (by kernel_rfl) (by kernel_rfl) (by kernel_rfl) (fun _ _ _ h => h) (Or.inl ⟨by rfl, ?hovs16⟩) (unhide HSw _ (Below.refl _ _)) ?_
  case hovs16 => (intro w hSw; (try dsimp only at hSw); go_simp) <;> with_reducible rfl
  simp only [Act.put, List.getElem_toArray, List.getElem_cons_zero, List.getElem_cons_succ, List.setIfInBounds_toArray, List.set_cons_zero, List.set_cons_succ]
  refine anyL_take (i := 17) (v := ?vovs17) rfl (by kernel_rfl) (by kernel_rfl) (by kernel_rfl) (by kernel_rfl) (fun _ _ _ h => h) (Or.inl ⟨by rfl, ?hovs17⟩) (unhide HSw _ (Below.refl _ _)) ?_
  case hovs17 => (intro w hSw; (try dsimp only at hSw); go_simp) <;> with_reducible rfl
  simp only [Act.put, List.getElem_toArray, List.getElem_cons_zero, List.getElem_cons_succ, List.setIfInBounds_toArray, List.set_cons_zero, List.set_cons_succ]
  refine anyL_take (i := 19) (v := ?vovs18) rfl (by kernel_rfl) (by kernel_rfl) (by kernel_rfl) (by kernel_rfl) (fun _ _ _ h => h) (Or.inl ⟨by rfl, ?hovs18⟩) (unhide HSw _ (Below.refl _ _)) ?_
  case hovs18 => (intro w hSw; (try dsimp only at hSw); go_simp) <;> with_reducible rfl
  simp only [Act.put, List.getElem_toArray, List.getElem_cons_zero, List.getElem_cons_succ, List.setIfInBounds_toArray, List.set_cons_zero, List.set_cons_succ]
  refine anyL_take (i := 20) (v := ?vovs19) rfl (by kernel_rfl) (by kernel_rfl) (by kernel_rfl) (by kernel_rfl) (fun _ _ _ h => h) (Or.inl ⟨by rfl, ?hovs19⟩) (unhide HSw _ (Below.refl _ _)) ?_
  case hovs19 => (intro w hSw; (try dsimp only at hSw); go_simp) <;> with_reducible rfl
  simp only [Act.put, List.getElem_toArray, List.getElem_cons_zero, List.getElem_cons_succ, List.setIfInBounds_toArray, List.set_cons_zero, List.set_cons_succ]
  refine anyL_take (i := 21) (v := ?vovs20) rfl (by kernel_rfl) (by kernel_rfl) (by kernel_rfl) (by kernel_rfl) (fun _ _ _ h => h) (Or.inl ⟨by rfl, ?hovs20⟩) (unhide HSw _ (Below.refl _ _)) ?_
  case hovs20 => (intro w hSw; (try dsimp only at hSw); go_simp) <;> with_reducible rfl
  simp only [Act.put, List.getElem_toArray, List.getElem_cons_zero, List.getElem_cons_succ, List.setIfInBounds_toArray, List.set_cons_zero, List.set_cons_succ]
  refine anyL_take (i := 22) (v := ?vovs21) rfl (by kernel_rfl) (by kernel_rfl) (by kernel_rfl) (by kernel_rfl) (fun _ _ _ h => h) (Or.inl ⟨by rfl, ?hovs21⟩) (unhide HSw _ (Below.refl _ _)) ?_
  case hovs21 => (intro w hSw; (try dsimp only at hSw); go_simp) <;> with_reducible rfl
  simp only [Act.put, List.getElem_toArray, List.getElem_cons_zero, List.getElem_cons_succ, List.setIfInBounds_toArray, List.set_cons_zero, List.set_cons_succ]
  refine anyL_take (i := 23) (v := ?vovs22) rfl (by kernel_rfl) (by kernel_rfl) (by kernel_rfl) (by kernel_rfl) (fun _ _ _ h => h) (Or.inl ⟨by rfl, ?hovs22⟩) (unhide HSw _ (Below.refl _ _)) ?_
  case hovs22 => (intro w hSw; (try dsimp only at hSw); go_simp) <;> with_reducible rfl
  simp only [Act.put, List.getElem_toArray, List.getElem_cons_zero, List.getElem_cons_succ, List.setIfInBounds_toArray, List.set_cons_zero, List.set_cons_succ]
  refine anyL_take (i := 24) (v := ?vovs23) rfl (by kernel_rfl) (by kernel_rfl) (by kernel_rfl) (by kernel_rfl) (fun _ _ _ h => h) (Or.inl ⟨by rfl, ?hovs23⟩) (unhide HSw _ (Below.refl _ _)) ?_
  case hovs23 => (intro w hSw; (try dsimp only at hSw); go_simp) <;> with_reducible rfl
  simp only [Act.put, List.getElem_toArray, List.getElem_cons_zero, List.getElem_cons_succ, List.setIfInBounds_toArray, List.set_cons_zero, List.set_cons_succ]
  refine anyL_take (i := 25) (v := ?vovs24) rfl (by kernel_rfl) (by kernel_rfl) (by kernel_rfl) (by kernel_rfl) (fun _ _ _ h => h) (Or.inl ⟨by rfl, ?hovs24⟩) (unhide HSw _ (Below.refl _ _)) ?_
  case hovs24 => (intro w hSw; (try dsimp only at hSw); go_simp) <;> with_reducible rfl
  simp only [Act.put, List.getElem_toArray, List.getElem_cons_zero, List.getElem_cons_succ, List.setIfInBounds_toArray, List.set_cons_zero, List.set_cons_succ]
  refine anyL_ready (rs := [18]) (by kernel_rfl) (by simp) ?_
  refine AllL.cons rfl (fun K hK => ?_) AllL.nil
  go_simp
  refine (unhide HC3).mono ?_
  rintro y v1 ⟨a5, c5, E, rfl, p5, s5, o5, x5⟩
  have e5 : D.filter (inG xl xh) = E := ((unhide HPw).s.over p5 s5).symm
  subst e5
  have HX1 := hide x5
  have HP1 := hide ((unhide HPw).on x5)
  have HO5 := hide o5
  have HC4 := hide (ROverR_at n a c D xl xh v1 (unhide HP1).s.k (unhide HP1).s.len3)
  unfold rsV at HC4
  clear HC3 p5 s5 o5 x5
  refine unhide hK _ _ (fun _ => unhide HSw v1 (unhide HX1)) ?_
  clear hK K
  refine anyL_ready (rs := [26]) (by kernel_rfl) (by simp) ?_
  refine AllL.cons rfl (fun K hK => ?_) AllL.nil
  go_simp
  refine (unhide HC4).mono ?_
  rintro y v2 ⟨v9, rfl, o6, x6⟩
  obtain ⟨a6, c6, hv9, _⟩ := rowD_form o6
  subst hv9
  have HP2 := hide ((unhide HP1).on x6)
  have HX2 := hide ((unhide HX1).trans (x6.mono (unhide HX1).size))
  have HC5 : Hid _ := hide (RSameR_at a5 c5 a6 c6 (D.filter (inG xl xh)) v2 (by
    obtain ⟨_, _, e9, i9, _⟩ := own_isRl (rowD_below (unhide HO5) x6 (Nat.le_refl _))
    injection e9 with e91 e92 e93
    subst e91
    exact i9) (by
    obtain ⟨_, _, e9, i9, _⟩ := own_isRl o6
    injection e9 with e91 e92 e93
    subst e91
    exact i9) (Nat.le_trans (List.length_filter_le _ _) (unhide HP2).s.len3))
  clear HC4 HO5 o6 x6
  refine unhide hK _ _ (fun _ => unhide HSw v2 (unhide HX2)) ?_
  clear hK K
  refine anyL_ready (rs := [27]) (by kernel_rfl) (by simp) ?_
  refine AllL.cons rfl (fun K hK => ?_) AllL.nil
  go_simp
  refine (unhide HC5).mono ?_
  rintro y v3 ⟨rfl, x7⟩
  have HP3 := hide ((unhide HP2).on x7)
  have HX3 := hide ((unhide HX2).trans (x7.mono (unhide HX2).size))
  clear HC5 x7
  refine unhide hK _ _ (fun _ => unhide HSw v3 (unhide HX3)) ?_
  clear hK K
  refine anyL_take (i := 28) (v := ?vovs25) rfl (by kernel_rfl) (by kernel_rfl) (by kernel_rfl) (by kernel_rfl) (fun _ _ _ h => h) (Or.inl ⟨by rfl, ?hovs25⟩) (unhide HSw v3 (unhide HX3)) ?_
  case hovs25 => (intro w hSw; (try dsimp only at hSw); go_simp) <;> with_reducible rfl
  simp only [Act.put, List.getElem_toArray, List.getElem_cons_zero, List.getElem_cons_succ, List.setIfInBounds_toArray, List.set_cons_zero, List.set_cons_succ]
  refine anyL_take (i := 29) (v := ?vovs26) rfl (by kernel_rfl) (by kernel_rfl) (by kernel_rfl) (by kernel_rfl) (fun _ _ _ h => h) (Or.inl ⟨by rfl, ?hovs26⟩) (unhide HSw v3 (unhide HX3)) ?_
  case hovs26 => (intro w hSw; (try dsimp only at hSw); go_simp) <;> with_reducible rfl
  simp only [Act.put, List.getElem_toArray, List.getElem_cons_zero, List.getElem_cons_succ, List.setIfInBounds_toArray, List.set_cons_zero, List.set_cons_succ]
  refine anyL_ready (rs := [30]) (by kernel_rfl) (by simp) ?_
  refine AllL.cons rfl (fun K hK => ?_) AllL.nil
  have q2 := (unhide HP3).put2 (.int .i64 n) (.slice a D.length c)
  obtain ⟨y0, y1, f0, f1⟩ := (unhide HP3).res
  obtain ⟨r0, r1⟩ := clsR_two q2.1.1
  have HB9 := hide q2.1.2
  have HS9 := hide q2.2.2.2
  have HSy : Hid (((v3.setCell ⟨B2, 0, none⟩ (.int .i64 n)).setCell ⟨B2, 1, none⟩ (.slice a D.length c)).cell? ⟨X.heap.size, 0, none⟩ = some (.int .i64 n) ∧ ((v3.setCell ⟨B2, 0, none⟩ (.int .i64 n)).setCell ⟨B2, 1, none⟩ (.slice a D.length c)).cell? ⟨X.heap.size, 1, none⟩ = some (.slice a D.length c) ∧ ((v3.setCell ⟨B2, 0, none⟩ (.int .i64 n)).setCell ⟨B2, 1, none⟩ (.slice a D.length c)).cell? ⟨B1, 2, none⟩ = some (.int .i64 xl) ∧ ((v3.setCell ⟨B2, 0, none⟩ (.int .i64 n)).setCell ⟨B2, 1, none⟩ (.slice a D.length c)).cell? ⟨B1, 3, none⟩ = some (.int .i64 xh) ∧ ((v3.setCell ⟨B2, 0, none⟩ (.int .i64 n)).setCell ⟨B2, 1, none⟩ (.slice a D.length c)).cell? ⟨BX, 0, none⟩ = some (.string mn) ∧ ((v3.setCell ⟨B2, 0, none⟩ (.int .i64 n)).setCell ⟨B2, 1, none⟩ (.slice a D.length c)).cell? ⟨BX, 1, none⟩ = some (.int .i64 ml) ∧ ((v3.setCell ⟨B2, 0, none⟩ (.int .i64 n)).setCell ⟨B2, 1, none⟩ (.slice a D.length c)).cell? ⟨BX, 2, none⟩ = some (.int .i64 mh) ∧ ((v3.setCell ⟨B2, 0, none⟩ (.int .i64 n)).setCell ⟨B2, 1, none⟩ (.slice a D.length c)).cell? ⟨BX, 3, none⟩ = some (.int .i64 ms) ∧ ((v3.setCell ⟨B2, 0, none⟩ (.int .i64 n)).setCell ⟨B2, 1, none⟩ (.slice a D.length c)).cell? ⟨BX, 4, none⟩ = some (.int .i64 me) ∧ ((v3.setCell ⟨B2, 0, none⟩ (.int .i64 n)).setCell ⟨B2, 1, none⟩ (.slice a D.length c)).cell? ⟨BY, 0, none⟩ = some (.string mn) ∧ ((v3.setCell ⟨B2, 0, none⟩ (.int .i64 n)).setCell ⟨B2, 1, none⟩ (.slice a D.length c)).cell? ⟨BY, 1, none⟩ = some (.int .i64 ml) ∧ ((v3.setCell ⟨B2, 0, none⟩ (.int .i64 n)).setCell ⟨B2, 1, none⟩ (.slice a D.length c)).cell? ⟨BY, 2, none⟩ = some (.int .i64 mh) ∧ ((v3.setCell ⟨B2, 0, none⟩ (.int .i64 n)).setCell ⟨B2, 1, none⟩ (.slice a D.length c)).cell? ⟨BY, 3, none⟩ = some (.int .i64 ms) ∧ ((v3.setCell ⟨B2, 0, none⟩ (.int .i64 n)).setCell ⟨B2, 1, none⟩ (.slice a D.length c)).cell? ⟨BY, 4, none⟩ = some (.int .i64 me)) := by
    have k1 := ClsR.apart2 (B := B2) (unhide HP3).k1 (by have := (unhide HP3).ne; omega) (.int .i64 n) (.slice a D.length c)
    have kx0 := (unhide HKXY).1.below (unhide HX3) (unhide HKXY).1.lt
    have ky0 := (unhide HKXY).2.below (unhide HX3) (unhide HKXY).2.lt
    have kX := ClsR.apart2 kx0 (cls_apart kx0 (unhide HP3).k2 (by decide)) (.int .i64 n) (.slice a D.length c)
    have kY := ClsR.apart2 ky0 (cls_apart ky0 (unhide HP3).k2 (by decide)) (.int .i64 n) (.slice a D.length c)
    exact hide ⟨(clsR_two q2.2.1).1, (clsR_two q2.2.1).2, (k1.cell 2).trans rfl, (k1.cell 3).trans rfl, (kX.cell 0).trans rfl, (kX.cell 1).trans rfl, (kX.cell 2).trans rfl, (kX.cell 3).trans rfl, (kX.cell 4).trans rfl, (kY.cell 0).trans rfl, (kY.cell 1).trans rfl, (kY.cell 2).trans rfl, (kY.cell 3).trans rfl, (kY.cell 4).trans rfl⟩
  clear q2
  go_simp
  clear y0 y1 f0 f1
  refine unhide hK _ _ (fun _ => unhide HSy) ?_
  clear hK K
  refine anyL_take (i := 31) (v := ?vovs27) rfl (by kernel_rfl) (by kernel_rfl) (by kernel_rfl) (by kernel_rfl) (fun _ _ _ h => h) (Or.inl ⟨by rfl, ?hovs27⟩) (unhide HSy) ?_
  case hovs27 => (intro w hSw; (try dsimp only at hSw); go_simp) <;> with_reducible rfl
  simp only [Act.put, List.getElem_toArray, List.getElem_cons_zero, List.getElem_cons_succ, List.setIfInBounds_toArray, List.set_cons_zero, List.set_cons_succ]
  refine anyL_done (by kernel_rfl) ?_ _
  go_wp2_with fail
  refine bodyPost_ret (v := .tuple #[.pointer (some ⟨g, 0, none⟩), .agg #[.int .i64 n, .slice a D.length c], .bool true]) (by simp [results, Try.results11, go_sem, r0, r1]) rfl ?_
  exact ⟨g, n, L, a, c, D, rfl, unhide HS9, unhide HB9⟩
set_option maxRecDepth 100000 in
set_option maxHeartbeats 8000000 in
theorem playGN_at (g : Nat) (n : Int) (L : List Rg) (a : Option Addr) (c : Nat) (D : List Rg) (kd : Int) (x : Rg) (ad : Option Addr) (cd : Nat) (d : List Dop) (X : World) (h : StR X g n L a D) (ho : IsO X ad d) (k0 : kd ≠ 0) (k1 : kd ≠ 1) (k2 : kd ≠ 2) (hg : getG x.n L = none) :
    Calls Try.prog 11 #[.pointer (some ⟨g, 0, none⟩), rsV n a D.length c, ocA kd x ad d.length cd] X (PlQ X) := by
  have HP := hide (PlJ.start X g n L a c D kd x ad cd d h ho)
  have HO := hide ho
  obtain ⟨xn, xl, xh, xs, xe⟩ := x
  unfold rsV ocA
  dsimp only at HP ⊢
  clear h ho
  have t0 : (kd == 0) = false := by simpa using k0
  have t1 : (kd == 1) = false := by simpa using k1
  have t2 : (kd == 2) = false := by simpa using k2
  have HG0 := hide hg
  clear hg k0 k1 k2
  dsimp only at HG0
  go_enter Try.func11, Try.ntmps11
  go_upto_region 5 with fail
  generalize (((X.alloc (.cells #[.int .i64 n, .slice a D.length c] 30)).alloc (.cells #[.int .i64 kd, .string xn, .int .i64 xl, .int .i64 xh, .int .i64 xs, .int .i64 xe, .slice ad d.length cd] 41)).alloc (.cells #[.int .i64 0, .slice none 0 0] 30)).alloc (.cells #[.int .i64 0, .slice none 0 0] 30) = w0 at *
  generalize X.heap.size + 1 = B1 at *
  generalize B1 + 1 = B2 at *
  generalize B2 + 1 = B3 at *
  obtain ⟨c0, c1, a0, a1, a2, a3, a4, a5, a6⟩ := (unhide HP).cells
  dsimp only at a0 a1 a2 a3 a4 a5 a6
  have HC1 := hide (GGet_at g n L xn w0 (unhide HP).s.m)
  rw [unhide HG0] at HC1
  simp only [Option.map_none, Option.getD_none, Option.isSome_none] at HC1
  go_wp2_with fail
  refine (unhide HC1).mono ?_
  rintro y w1 ⟨rfl, x1⟩
  dsimp only
  have hP1 := (unhide HP).on x1
  have hBx := (Below.refl w1.heap.size w1).alloc (Nat.le_refl _) (.cells #[.string ⟨#[]⟩, .int .i64 0, .int .i64 0, .int .i64 0, .int .i64 0] 37)
  have HPx := hide (hP1.on hBx)
  have HX := hide (Cls.new w1 37 #[.string ⟨#[]⟩, .int .i64 0, .int .i64 0, .int .i64 0, .int .i64 0])
  have HBX := hide hP1.b.size
  clear HC1 HP x1 hP1 hBx c0 c1 a0 a1 a2 a3 a4 a5 a6
  go_upto_region 7 with fail
  generalize hw1 : w1.alloc (.cells #[.string ⟨#[]⟩, .int .i64 0, .int .i64 0, .int .i64 0, .int .i64 0] 37) = wx at *
  generalize w1.heap.size = BX at *
  clear hw1
  obtain ⟨c0, c1, a0, a1, a2, a3, a4, a5, a6⟩ := (unhide HPx).cells
  dsimp only at a0 a1 a2 a3 a4 a5 a6
  have HC2 := hide (RGetR_at n a c D xn wx (unhide HPx).s.k (unhide HPx).s.len3)
  unfold rsV getV at HC2
  rw [← (unhide HPx).s.r.get, unhide HG0] at HC2
  simp only [Option.map_none, Option.getD_none, Option.isSome_none] at HC2
  go_wp2_with fail
  refine (unhide HC2).mono ?_
  rintro y w2 ⟨rfl, x2⟩
  dsimp only
  have hP2 := (unhide HPx).on x2
  have hBy := (Below.refl w2.heap.size w2).alloc (Nat.le_refl _) (.cells #[.string ⟨#[]⟩, .int .i64 0, .int .i64 0, .int .i64 0, .int .i64 0] 37)
  have HPy := hide (hP2.on hBy)
  have kx := (unhide HX).below x2 (unhide HX).lt
  have HX2 := hide (kx.below hBy kx.lt)
  have HY := hide (Cls.new w2 37 #[.string ⟨#[]⟩, .int .i64 0, .int .i64 0, .int .i64 0, .int .i64 0])
  clear HC2 HPx x2 hP2 hBy kx HX c0 c1 a0 a1 a2 a3 a4 a5 a6
  go_upto_region 8 with fail
  generalize hw2 : w2.alloc (.cells #[.string ⟨#[]⟩, .int .i64 0, .int .i64 0, .int .i64 0, .int .i64 0] 37) = wy at *
  generalize w2.heap.size = BY at *
  clear hw2
  have HPw := hide ((unhide HPy).on (Below.refl wy.heap.size wy).drew)
  have hXw : Cls wy.drew BX 37 #[.string ⟨#[]⟩, .int .i64 0, .int .i64 0, .int .i64 0, .int .i64 0] := unhide HX2
  have hYw : Cls wy.drew BY 37 #[.string ⟨#[]⟩, .int .i64 0, .int .i64 0, .int .i64 0, .int .i64 0] := unhide HY
  clear HPy HX2 HY
  have HSw : Hid (∀ Y, Below wy.drew.heap.size wy.drew Y → Y.cell? ⟨X.heap.size, 0, none⟩ = some (.int .i64 n) ∧ Y.cell? ⟨X.heap.size, 1, none⟩ = some (.slice a D.length c) ∧ Y.cell? ⟨B1, 2, none⟩ = some (.int .i64 xl) ∧ Y.cell? ⟨B1, 3, none⟩ = some (.int .i64 xh) ∧ Y.cell? ⟨BX, 0, none⟩ = some (.string ⟨#[]⟩) ∧ Y.cell? ⟨BX, 1, none⟩ = some (.int .i64 0) ∧ Y.cell? ⟨BX, 2, none⟩ = some (.int .i64 0) ∧ Y.cell? ⟨BX, 3, none⟩ = some (.int .i64 0) ∧ Y.cell? ⟨BX, 4, none⟩ = some (.int .i64 0) ∧ Y.cell? ⟨BY, 0, none⟩ = some (.string ⟨#[]⟩) ∧ Y.cell? ⟨BY, 1, none⟩ = some (.int .i64 0) ∧ Y.cell? ⟨BY, 2, none⟩ = some (.int .i64 0) ∧ Y.cell? ⟨BY, 3, none⟩ = some (.int .i64 0) ∧ Y.cell? ⟨BY, 4, none⟩ = some (.int .i64 0)) := hide fun Y hY => by
    obtain ⟨c0, c1, _, _, a2, a3, _, _, _⟩ := ((unhide HPw).on hY).cells
    have kX := hXw.below hY hXw.lt
    have kY := hYw.below hY hYw.lt
    exact ⟨c0, c1, a2, a3, (kX.cell 0).trans rfl, (kX.cell 1).trans rfl, (kX.cell 2).trans rfl, (kX.cell 3).trans rfl, (kX.cell 4).trans rfl, (kY.cell 0).trans rfl, (kY.cell 1).trans rfl, (kY.cell 2).trans rfl, (kY.cell 3).trans rfl, (kY.cell 4).trans rfl⟩
  have HKXY := hide (And.intro hXw hYw)
  clear hXw hYw
  have HC3 := hide (GOver_at g n L xl xh wy.drew (unhide HPw).s.m (unhide HPw).s.len2)
  refine regionL (S := fun z => z.cell? ⟨X.heap.size, 0, none⟩ = some (.int .i64 n) ∧ z.cell? ⟨X.heap.size, 1, none⟩ = some (.slice a D.length c) ∧ z.cell? ⟨B1, 2, none⟩ = some (.int .i64 xl) ∧ z.cell? ⟨B1, 3, none⟩ = some (.int .i64 xh) ∧ z.cell? ⟨BX, 0, none⟩ = some (.string ⟨#[]⟩) ∧ z.cell? ⟨BX, 1, none⟩ = some (.int .i64 0) ∧ z.cell? ⟨BX, 2, none⟩ = some (.int .i64 0) ∧ z.cell? ⟨BX, 3, none⟩ = some (.int .i64 0) ∧ z.cell? ⟨BX, 4, none⟩ = some (.int .i64 0) ∧ z.cell? ⟨BY, 0, none⟩ = some (.string ⟨#[]⟩) ∧ z.cell? ⟨BY, 1, none⟩ = some (.int .i64 0) ∧ z.cell? ⟨BY, 2, none⟩ = some (.int .i64 0) ∧ z.cell? ⟨BY, 3, none⟩ = some (.int .i64 0) ∧ z.cell? ⟨BY, 4, none⟩ = some (.int .i64 0)) (fun _ => false) (by kernel_rfl) ?_
  generalize wy.drew = zz at *
  refine anyL_take (i := 0) (v := ?vovn28) rfl (by kernel_rfl) (by kernel_rfl) (by kernel_rfl) (by kernel_rfl) (fun _ _ _ h => h) (Or.inl ⟨by rfl, ?hovn28⟩) (unhide HSw _ (Below.refl _ _)) ?_
  case hovn28 => (intro w hSw; (try dsimp only at hSw); go_simp) <;> with_reducible rfl
  simp only [Act.put, List.getElem_toArray, List.getElem_cons_zero, List.setIfInBounds_toArray, List.set_cons_zero, List.set_cons_succ]
  refine anyL_take (i := 1) (v := ?vovn29) rfl (by kernel_rfl) (by kernel_rfl) (by kernel_rfl) (by kernel_rfl) (fun _ _ _ h => h) (Or.inl ⟨by rfl, ?hovn29⟩) (unhide HSw _ (Below.refl _ _)) ?_
  case hovn29 => (intro w hSw; (try dsimp only at hSw); go_simp) <;> with_reducible rfl
  simp only [Act.put, List.getElem_toArray, List.getElem_cons_zero, List.getElem_cons_succ, List.setIfInBounds_toArray, List.set_cons_zero, List.set_cons_succ]
  refine anyL_take (i := 2) (v := ?vovn30) rfl (by kernel_rfl) (by kernel_rfl) (by kernel_rfl) (by kernel_rfl) (fun _ _ _ h => h) (Or.inl ⟨by rfl, ?hovn30⟩) (unhide HSw _ (Below.refl _ _)) ?_
  case hovn30 => (intro w hSw; (try dsimp only at hSw); go_simp) <;> with_reducible rfl
  simp only [Act.put, List.getElem_toArray, List.getElem_cons_zero, List.getElem_cons_succ, List.setIfInBounds_toArray, List.set_cons_zero, List.set_cons_succ]
  refine anyL_take (i := 3) (v := ?vovn31) rfl (by kernel_rfl) (by kernel_rfl) (by kernel_rfl) (by kernel_rfl) (fun _ _ _ h => h) (Or.inl ⟨by rfl, ?hovn31⟩) (unhide HSw _ (Below.refl _ _)) ?_
  case hovn31 => (intro w hSw; (try dsimp only at hSw); go_simp) <;> with_reducible rfl
  simp only [Act.put, List.getElem_toArray, List.getElem_cons_zero, List.getElem_cons_succ, List.setIfInBounds_toArray, List.set_cons_zero, List.set_cons_succ]
  refine anyL_take (i := 4) (v := ?vovn32) rfl (by kernel_rfl) (by kernel_rfl) (by kernel_rfl) (by kernel_rfl) (fun _ _ _ h => h) (Or.inl ⟨by rfl, ?hovn32⟩) (unhide HSw _ (Below.refl _ _)) ?_
  case hovn32 => (intro w hSw; (try dsimp only at hSw); go_simp) <;> with_reducible rfl
  simp only [Act.put, List.getElem_toArray, List.getElem_cons_zero, List.getElem_cons_succ, List.setIfInBounds_toArray, List.set_cons_zero, List.set_cons_succ]
  refine anyL_take (i := 5) (v := ?vovn33) rfl (by kernel_rfl) (by kernel_rfl) (by kernel_rfl) (by kernel_rfl) (fun _ _ _ h => h) (Or.inl ⟨by rfl, ?hovn33⟩) (unhide HSw _ (Below.refl _ _)) ?_
  case hovn33 => (intro w hSw; (try dsimp only at hSw); go_simp) <;> with_reducible rfl
  simp only [Act.put, List.getElem_toArray, List.getElem_cons_zero, List.getElem_cons_succ, List.setIfInBounds_toArray, List.set_cons_zero, List.set_cons_succ]
  refine anyL_take (i := 6) (v := ?vovn34) rfl (by kernel_rfl) (by kernel_rfl) (by kernel_rfl) (by kernel_rfl) (fun _ _ _ h => h) (Or.inl ⟨by rfl, ?hovn34⟩) (unhide HSw _ (Below.refl _ _)) ?_
  case hovn34 => (intro w hSw; (try dsimp only at hSw); go_simp) <;> with_reducible rfl
  simp only [Act.put, List.getElem_toArray, List.getElem_cons_zero, List.getElem_cons_succ, List.setIfInBounds_toArray, List.set_cons_zero, List.set_cons_succ]
  refine anyL_take (i := 7) (v := ?vovn35) rfl (by kernel_rfl) (by kernel_rfl) (by kernel_rfl) (by kernel_rfl) (fun _ _ _ h => h) (Or.inl ⟨by rfl, ?hovn35⟩) (unhide HSw _ (Below.refl _ _)) ?_
  case hovn35 => (intro w hSw; (try dsimp only at hSw); go_simp) <;> with_reducible rfl
  simp only [Act.put, List.getElem_toArray, List.getElem_cons_zero, List.getElem_cons_succ, List.setIfInBounds_toArray, List.set_cons_zero, List.set_cons_succ]
  refine anyL_take (i := 8) (v := ?vovn36) rfl (by kernel_rfl) (by kernel_rfl) (by kernel_rfl) (by kernel_rfl) (fun _ _ _ h => h) (Or.inl ⟨by rfl, ?hovn36⟩) (unhide HSw _ (Below.refl _ _)) ?_
  case hovn36 => (intro w hSw; (try dsimp only at hSw); go_simp) <;> with_reducible rfl
  simp only [Act.put, List.getElem_toArray, List.getElem_cons_zero, List.getElem_cons_succ, List.setIfInBounds_toArray, List.set_cons_zero, List.set_cons_succ]
  refine anyL_take (i := 9) (v := ?vovn37) rfl (by kernel_rfl) (by kernel_rfl) (by kernel_rfl) (by kernel_rfl) (fun _ _ _ h => h) (Or.inl ⟨by rfl, ?hovn37⟩) (unhide HSw _ (Below.refl _ _)) ?_
  case hovn37 => (intro w hSw; (try dsimp only at hSw); go_simp) <;> with_reducible rfl
  simp only [Act.put, List.getElem_toArray, List.getElem_cons_zero, List.getElem_cons_succ, List.setIfInBounds_toArray, List.set_cons_zero, List.set_cons_succ]
  refine anyL_take (i := 10) (v := ?vovn38) rfl (by kernel_rfl) (by kernel_rfl) (by kernel_rfl) (by kernel_rfl) (fun _ _ _ h => h) (Or.inl ⟨by rfl, ?hovn38⟩) (unhide HSw _ (Below.refl _ _)) ?_
  case hovn38 => (intro w hSw; (try dsimp only at hSw); go_simp) <;> with_reducible rfl
  simp only [Act.put, List.getElem_toArray, List.getElem_cons_zero, List.getElem_cons_succ, List.setIfInBounds_toArray, List.set_cons_zero, List.set_cons_succ]
  refine anyL_take (i := 11) (v := ?vovn39) rfl (by kernel_rfl) (by kernel_rfl) (by kernel_rfl) (by kernel_rfl) (fun _ _ _ h => h) (Or.inl ⟨by rfl, ?hovn39⟩) (unhide HSw _ (Below.refl _ _)) ?_
  case hovn39 => (intro w hSw; (try dsimp only at hSw); go_simp) <;> with_reducible rfl
  simp only [Act.put, List.getElem_toArray, List.getElem_cons_zero, List.getElem_cons_succ, List.setIfInBounds_toArray, List.set_cons_zero, List.set_cons_succ]
  refine anyL_take (i := 12) (v := ?vovn40) rfl (by kernel_rfl) (by kernel_rfl) (by kernel_rfl) (by kernel_rfl) (fun _ _ _ h => h) (Or.inl ⟨by rfl, ?hovn40⟩) (unhide HSw _ (Below.refl _ _)) ?_
  case hovn40 => (intro w hSw; (try dsimp only at hSw); go_simp) <;> with_reducible rfl
  simp only [Act.put, List.getElem_toArray, List.getElem_cons_zero, List.getElem_cons_succ, List.setIfInBounds_toArray, List.set_cons_zero, List.set_cons_succ]
  refine anyL_take (i := 13) (v := ?vovn41) rfl (by kernel_rfl) (by kernel_rfl) (by kernel_rfl) (by kernel_rfl) (fun _ _ _ h => h) (Or.inl ⟨by rfl, ?hovn41⟩) (unhide HSw _ (Below.refl _ _)) ?_
  case hovn41 => (intro w hSw; (try dsimp only at hSw); go_simp) <;> with_reducible rfl
  simp only [Act.put, List.getElem_toArray, List.getElem_cons_zero, List.getElem_cons_succ, List.setIfInBounds_toArray, List.set_cons_zero, List.set_cons_succ]
  refine anyL_take (i := 14) (v := ?vovn42) rfl (by kernel_rfl) (by kernel_rfl) (by kernel_rfl) (by kernel_rfl) (fun _ _ _ h => h) (Or.inl ⟨by rfl, ?hovn42⟩) (unhide HSw _ (Below.refl _ _)) ?_
  case hovn42 => (intro w hSw; (try dsimp only at hSw); go_simp) <;> with_reducible rfl
  simp only [Act.put, List.getElem_toArray, List.getElem_cons_zero, List.getElem_cons_succ, List.setIfInBounds_toArray, List.set_cons_zero, List.set_cons_succ]
  refine anyL_take (i := 15) (v := ?vovn43) rfl (by kernel_rfl) (by kernel_rfl) (by kernel_rfl) (by kernel_rfl) (fun _ _ _ h => h) (Or.inl ⟨by rfl, ?hovn43⟩) (unhide HSw _ (Below.refl _ _)) ?_
  case hovn43 => (intro w hSw; (try dsimp only at hSw); go_simp) <;> with_reducible rfl
  simp only [Act.put, List.getElem_toArray, List.getElem_cons_zero, List.getElem_cons_succ, List.setIfInBounds_toArray, List.set_cons_zero, List.set_cons_succ]
  refine anyL_take (i := 16) (v := ?vovn44) rfl (by kernel_rfl) (by kernel_rfl) (by kernel_rfl) (by kernel_rfl) (fun _ _ _ h => h) (Or.inl ⟨by rfl, ?hovn44⟩) (unhide HSw _ (Below.refl _ _)) ?_
  case hovn44 => (intro w hSw; (try dsimp only at hSw); go_simp) <;> with_reducible rfl
  simp only [Act.put, List.getElem_toArray, List.getElem_cons_zero, List.getElem_cons_succ, List.setIfInBounds_toArray, List.set_cons_zero, List.set_cons_succ]
  refine anyL_take (i := 17) (v := ?vovn45) rfl (by kernel_rfl) (by kernel_rfl) (by kernel_rfl) (by kernel_rfl) (fun _ _ _ h => h) (Or.inl ⟨by rfl, ?hovn45⟩) (unhide HSw _ (Below.refl _ _)) ?_
  case hovn45 => (intro w hSw; (try dsimp only at hSw); go_simp) <;> with_reducible rfl
  simp only [Act.put, List.getElem_toArray, List.getElem_cons_zero, List.getElem_cons_succ, List.setIfInBounds_toArray, List.set_cons_zero, List.set_cons_succ]
  refine anyL_take (i := 19) (v := ?vovn46) rfl (by kernel_rfl) (by kernel_rfl) (by kernel_rfl) (by kernel_rfl) (fun _ _ _ h => h) (Or.inl ⟨by rfl, ?hovn46⟩) (unhide HSw _ (Below.refl _ _)) ?_
  case hovn46 => (intro w hSw; (try dsimp only at hSw); go_simp) <;> with_reducible rfl
  simp only [Act.put, List.getElem_toArray, List.getElem_cons_zero, List.getElem_cons_succ, List.setIfInBounds_toArray, List.set_cons_zero, List.set_cons_succ]
  refine anyL_take (i := 20) (v := ?vovn47) rfl (by kernel_rfl) (by kernel_rfl) (by kernel_rfl) (by kernel_rfl) (fun _ _ _ h => h) (Or.inl ⟨by rfl, ?hovn47⟩) (unhide HSw _ (Below.refl _ _)) ?_
  case hovn47 => (intro w hSw; (try dsimp only at hSw); go_simp) <;> with_reducible rfl
  simp only [Act.put, List.getElem_toArray, List.getElem_cons_zero, List.getElem_cons_succ, List.setIfInBounds_toArray, List.set_cons_zero, List.set_cons_succ]
  refine anyL_take (i := 21) (v := ?vovn48) rfl (by kernel_rfl) (by kernel_rfl) (by kernel_rfl) (by kernel_rfl) (fun _ _ _ h => h) (Or.inl ⟨by rfl, ?hovn48⟩) (unhide HSw _ (Below.refl _ _)) ?_
  case hovn48 => (intro w hSw; (try dsimp only at hSw); go_simp) <;> with_reducible rfl
  simp only [Act.put, List.getElem_toArray, List.getElem_cons_zero, List.getElem_cons_succ, List.setIfInBounds_toArray, List.set_cons_zero, List.set_cons_succ]
  refine anyL_take (i := 22) (v := ?vovn49) rfl (by kernel_rfl) (by kernel_rfl) (by kernel_rfl) (by kernel_rfl) (fun _ _ _ h => h) (Or.inl ⟨by rfl, ?hovn49⟩) (unhide HSw _ (Below.refl _ _)) ?_
  case hovn49 => (intro w hSw; (try dsimp only at hSw); go_simp) <;> with_reducible rfl
  simp only [Act.put, List.getElem_toArray, List.getElem_cons_zero, List.getElem_cons_succ, List.setIfInBounds_toArray, List.set_cons_zero, List.set_cons_succ]
  refine anyL_take (i := 23) (v := ?vovn50) rfl (by kernel_rfl) (by kernel_rfl) (by kernel_rfl) (by kernel_rfl) (fun _ _ _ h => h) (Or.inl ⟨by rfl, ?hovn50⟩) (unhide HSw _ (Below.refl _ _)) ?_
  case hovn50 => (intro w hSw; (try dsimp only at hSw); go_simp) <;> with_reducible rfl
  simp only [Act.put, List.getElem_toArray, List.getElem_cons_zero, List.getElem_cons_succ, List.setIfInBounds_toArray, List.set_cons_zero, List.set_cons_succ]
  refine anyL_take (i := 24) (v := ?vovn51) rfl (by kernel_rfl) (by kernel_rfl) (by kernel_rfl) (by kernel_rfl) (fun _ _ _ h => h) (Or.inl ⟨by rfl, ?hovn51⟩) (unhide HSw _ (Below.refl _ _)) ?_
  case hovn51 => (intro w hSw; (try dsimp only at hSw); go_simp) <;> with_reducible rfl
  simp only [Act.put, List.getElem_toArray, List.getElem_cons_zero, List.getElem_cons_succ, List.setIfInBounds_toArray, List.set_cons_zero, List.set_cons_succ]
  refine anyL_take (i := 25) (v := ?vovn52) rfl (by kernel_rfl) (by kernel_rfl) (by kernel_rfl) (by kernel_rfl) (fun _ _ _ h => h) (Or.inl ⟨by rfl, ?hovn52⟩) (unhide HSw _ (Below.refl _ _)) ?_
  case hovn52 => (intro w hSw; (try dsimp only at hSw); go_simp) <;> with_reducible rfl
  simp only [Act.put, List.getElem_toArray, List.getElem_cons_zero, List.getElem_cons_succ, List.setIfInBounds_toArray, List.set_cons_zero, List.set_cons_succ]
  refine anyL_ready (rs := [18]) (by kernel_rfl) (by simp) ?_
  refine AllL.cons rfl (fun K hK => ?_) AllL.nil
  go_simp
  refine (unhide HC3).mono ?_
  rintro y v1 ⟨a5, c5, E, rfl, p5, s5, o5, x5⟩
  have e5 : D.filter (inG xl xh) = E := ((unhide HPw).s.over p5 s5).symm
  subst e5
  have HX1 := hide x5
  have HP1 := hide ((unhide HPw).on x5)
  have HO5 := hide o5
  have HC4 := hide (ROverR_at n a c D xl xh v1 (unhide HP1).s.k (unhide HP1).s.len3)
  unfold rsV at HC4
  clear HC3 p5 s5 o5 x5
  refine unhide hK _ _ (fun _ => unhide HSw v1 (unhide HX1)) ?_
  clear hK K
  refine anyL_ready (rs := [26]) (by kernel_rfl) (by simp) ?_
  refine AllL.cons rfl (fun K hK => ?_) AllL.nil
  go_simp
  refine (unhide HC4).mono ?_
  rintro y v2 ⟨v9, rfl, o6, x6⟩
  obtain ⟨a6, c6, hv9, _⟩ := rowD_form o6
  subst hv9
  have HP2 := hide ((unhide HP1).on x6)
  have HX2 := hide ((unhide HX1).trans (x6.mono (unhide HX1).size))
  have HC5 : Hid _ := hide (RSameR_at a5 c5 a6 c6 (D.filter (inG xl xh)) v2 (by
    obtain ⟨_, _, e9, i9, _⟩ := own_isRl (rowD_below (unhide HO5) x6 (Nat.le_refl _))
    injection e9 with e91 e92 e93
    subst e91
    exact i9) (by
    obtain ⟨_, _, e9, i9, _⟩ := own_isRl o6
    injection e9 with e91 e92 e93
    subst e91
    exact i9) (Nat.le_trans (List.length_filter_le _ _) (unhide HP2).s.len3))
  clear HC4 HO5 o6 x6
  refine unhide hK _ _ (fun _ => unhide HSw v2 (unhide HX2)) ?_
  clear hK K
  refine anyL_ready (rs := [27]) (by kernel_rfl) (by simp) ?_
  refine AllL.cons rfl (fun K hK => ?_) AllL.nil
  go_simp
  refine (unhide HC5).mono ?_
  rintro y v3 ⟨rfl, x7⟩
  have HP3 := hide ((unhide HP2).on x7)
  have HX3 := hide ((unhide HX2).trans (x7.mono (unhide HX2).size))
  clear HC5 x7
  refine unhide hK _ _ (fun _ => unhide HSw v3 (unhide HX3)) ?_
  clear hK K
  refine anyL_take (i := 28) (v := ?vovn53) rfl (by kernel_rfl) (by kernel_rfl) (by kernel_rfl) (by kernel_rfl) (fun _ _ _ h => h) (Or.inl ⟨by rfl, ?hovn53⟩) (unhide HSw v3 (unhide HX3)) ?_
  case hovn53 => (intro w hSw; (try dsimp only at hSw); go_simp) <;> with_reducible rfl
  simp only [Act.put, List.getElem_toArray, List.getElem_cons_zero, List.getElem_cons_succ, List.setIfInBounds_toArray, List.set_cons_zero, List.set_cons_succ]
  refine anyL_take (i := 29) (v := ?vovn54) rfl (by kernel_rfl) (by kernel_rfl) (by kernel_rfl) (by kernel_rfl) (fun _ _ _ h => h) (Or.inl ⟨by rfl, ?hovn54⟩) (unhide HSw v3 (unhide HX3)) ?_
  case hovn54 => (intro w hSw; (try dsimp only at hSw); go_simp) <;> with_reducible rfl
  simp only [Act.put, List.getElem_toArray, List.getElem_cons_zero, List.getElem_cons_succ, List.setIfInBounds_toArray, List.set_cons_zero, List.set_cons_succ]
  refine anyL_ready (rs := [30]) (by kernel_rfl) (by simp) ?_
  refine AllL.cons rfl (fun K hK => ?_) AllL.nil
  have q2 := (unhide HP3).put2 (.int .i64 n) (.slice a D.length c)
  obtain ⟨y0, y1, f0, f1⟩ := (unhide HP3).res
  obtain ⟨r0, r1⟩ := clsR_two q2.1.1
  have HB9 := hide q2.1.2
  have HS9 := hide q2.2.2.2
  have HSy : Hid (((v3.setCell ⟨B2, 0, none⟩ (.int .i64 n)).setCell ⟨B2, 1, none⟩ (.slice a D.length c)).cell? ⟨X.heap.size, 0, none⟩ = some (.int .i64 n) ∧ ((v3.setCell ⟨B2, 0, none⟩ (.int .i64 n)).setCell ⟨B2, 1, none⟩ (.slice a D.length c)).cell? ⟨X.heap.size, 1, none⟩ = some (.slice a D.length c) ∧ ((v3.setCell ⟨B2, 0, none⟩ (.int .i64 n)).setCell ⟨B2, 1, none⟩ (.slice a D.length c)).cell? ⟨B1, 2, none⟩ = some (.int .i64 xl) ∧ ((v3.setCell ⟨B2, 0, none⟩ (.int .i64 n)).setCell ⟨B2, 1, none⟩ (.slice a D.length c)).cell? ⟨B1, 3, none⟩ = some (.int .i64 xh) ∧ ((v3.setCell ⟨B2, 0, none⟩ (.int .i64 n)).setCell ⟨B2, 1, none⟩ (.slice a D.length c)).cell? ⟨BX, 0, none⟩ = some (.string ⟨#[]⟩) ∧ ((v3.setCell ⟨B2, 0, none⟩ (.int .i64 n)).setCell ⟨B2, 1, none⟩ (.slice a D.length c)).cell? ⟨BX, 1, none⟩ = some (.int .i64 0) ∧ ((v3.setCell ⟨B2, 0, none⟩ (.int .i64 n)).setCell ⟨B2, 1, none⟩ (.slice a D.length c)).cell? ⟨BX, 2, none⟩ = some (.int .i64 0) ∧ ((v3.setCell ⟨B2, 0, none⟩ (.int .i64 n)).setCell ⟨B2, 1, none⟩ (.slice a D.length c)).cell? ⟨BX, 3, none⟩ = some (.int .i64 0) ∧ ((v3.setCell ⟨B2, 0, none⟩ (.int .i64 n)).setCell ⟨B2, 1, none⟩ (.slice a D.length c)).cell? ⟨BX, 4, none⟩ = some (.int .i64 0) ∧ ((v3.setCell ⟨B2, 0, none⟩ (.int .i64 n)).setCell ⟨B2, 1, none⟩ (.slice a D.length c)).cell? ⟨BY, 0, none⟩ = some (.string ⟨#[]⟩) ∧ ((v3.setCell ⟨B2, 0, none⟩ (.int .i64 n)).setCell ⟨B2, 1, none⟩ (.slice a D.length c)).cell? ⟨BY, 1, none⟩ = some (.int .i64 0) ∧ ((v3.setCell ⟨B2, 0, none⟩ (.int .i64 n)).setCell ⟨B2, 1, none⟩ (.slice a D.length c)).cell? ⟨BY, 2, none⟩ = some (.int .i64 0) ∧ ((v3.setCell ⟨B2, 0, none⟩ (.int .i64 n)).setCell ⟨B2, 1, none⟩ (.slice a D.length c)).cell? ⟨BY, 3, none⟩ = some (.int .i64 0) ∧ ((v3.setCell ⟨B2, 0, none⟩ (.int .i64 n)).setCell ⟨B2, 1, none⟩ (.slice a D.length c)).cell? ⟨BY, 4, none⟩ = some (.int .i64 0)) := by
    have k1 := ClsR.apart2 (B := B2) (unhide HP3).k1 (by have := (unhide HP3).ne; omega) (.int .i64 n) (.slice a D.length c)
    have kx0 := (unhide HKXY).1.below (unhide HX3) (unhide HKXY).1.lt
    have ky0 := (unhide HKXY).2.below (unhide HX3) (unhide HKXY).2.lt
    have kX := ClsR.apart2 kx0 (cls_apart kx0 (unhide HP3).k2 (by decide)) (.int .i64 n) (.slice a D.length c)
    have kY := ClsR.apart2 ky0 (cls_apart ky0 (unhide HP3).k2 (by decide)) (.int .i64 n) (.slice a D.length c)
    exact hide ⟨(clsR_two q2.2.1).1, (clsR_two q2.2.1).2, (k1.cell 2).trans rfl, (k1.cell 3).trans rfl, (kX.cell 0).trans rfl, (kX.cell 1).trans rfl, (kX.cell 2).trans rfl, (kX.cell 3).trans rfl, (kX.cell 4).trans rfl, (kY.cell 0).trans rfl, (kY.cell 1).trans rfl, (kY.cell 2).trans rfl, (kY.cell 3).trans rfl, (kY.cell 4).trans rfl⟩
  clear q2
  go_simp
  clear y0 y1 f0 f1
  refine unhide hK _ _ (fun _ => unhide HSy) ?_
  clear hK K
  refine anyL_take (i := 31) (v := ?vovn55) rfl (by kernel_rfl) (by kernel_rfl) (by kernel_rfl) (by kernel_rfl) (fun _ _ _ h => h) (Or.inl ⟨by rfl, ?hovn55⟩) (unhide HSy) ?_
  case hovn55 => (intro w hSw; (try dsimp only at hSw); go_simp) <;> with_reducible rfl
  simp only [Act.put, List.getElem_toArray, List.getElem_cons_zero, List.getElem_cons_succ, List.setIfInBounds_toArray, List.set_cons_zero, List.set_cons_succ]
  refine anyL_done (by kernel_rfl) ?_ _
  go_wp2_with fail
  refine bodyPost_ret (v := .tuple #[.pointer (some ⟨g, 0, none⟩), .agg #[.int .i64 n, .slice a D.length c], .bool true]) (by simp [results, Try.results11, go_sem, r0, r1]) rfl ?_
  exact ⟨g, n, L, a, c, D, rfl, unhide HS9, unhide HB9⟩
end Go.Proofs.Ytifpjdodignflaa
