/- Layer 15: Set. -/
import Derived.Test.YtfllomlighlejaaMo20
import Derived.Test.YtfllomlighlejaaMo17

namespace Go.Proofs.Ytfllomlighlejaa
open Go.ChangeShapes Go.WideShapes Go.ChangeAt Go.RowKit
attribute [local go_sem] Oper.semAt_some

set_option maxRecDepth 100000 in
theorem MClo_at (s : ByteArray) (w : World) (h : s.size ≤ 281474976710656) : Calls Try.prog 30 #[.string s] w fun y w' => y = .returned (.string s) ∧ Below w.heap.size w w' := by
  have HC := hide (Try.stringslite_Clone s w h)
  clear h
  go_enter Try.func30, Try.ntmps30
  go_wp2_with fail
  refine (unhide HC).mono ?_
  rintro y w1 ⟨rfl, x1⟩
  dsimp only
  have HX := hide x1
  clear HC x1
  go_wp2_with fail
  refine bodyPost_ret (results_tmp rfl _ _ _) rfl ⟨rfl, unhide HX⟩
set_option maxRecDepth 100000 in
set_option maxHeartbeats 2000000 in
theorem MSetE_at (g : Nat) (n : Int) (L : List Mk) (x : Mk) (X : World) (h : IsMs X g n L) (hr : refM n L x ≠ 0) :
    Calls Try.prog 16 #[.pointer (some ⟨g, 0, none⟩), mkV x] X fun y X' => y = .returned (.tuple #[.pointer none, .int .i64 (refM n L x)]) ∧ Below X.heap.size X X' := by
  obtain ⟨xn, xp, xg⟩ := x
  have b1 := (Below.refl X.heap.size X).alloc (Nat.le_refl _) (.cells #[.string xn, .int .i64 xp, .int .i64 xg] 42)
  have HC := hide (MRef_at g n L ⟨xn, xp, xg⟩ _ (h.below b1 (Nat.le_refl _)))
  unfold mkV at HC ⊢
  dsimp only at HC ⊢
  have k1 := Cls.new X 42 #[.string xn, .int .i64 xp, .int .i64 xg]
  have d0 := k1.cell 0
  have d1 := k1.cell 1
  have d2 := k1.cell 2
  simp only [List.getElem?_toArray, List.getElem?_cons_zero, List.getElem?_cons_succ] at d0 d1 d2
  have HB := hide b1
  generalize refM n L ⟨xn, xp, xg⟩ = R at *
  have t1 : (R != 0) = true := by simpa using hr
  have t1' : (R == 0) = false := by simpa using hr
  clear h b1 k1 hr
  go_enter Try.func16, Try.ntmps16
  go_wp2_with fail
  refine (unhide HC).mono ?_
  rintro y w1 ⟨rfl, x1⟩
  dsimp only
  have HX := hide ((unhide HB).trans (x1.mono (unhide HB).size))
  clear HC HB x1 d0 d1 d2
  go_wp2_with fail
  refine bodyPost_ret (results_tmp2 rfl _ _ _) rfl ⟨rfl, unhide HX⟩
theorem refM_name {n : Int} {L : List Mk} {x : Mk} (h : refM n L x = 0) : x.n.size ≤ 64 ∧ 1 ≤ x.n.size := by
  unfold refM at h
  split at h
  · cases h
  · omega
set_option maxRecDepth 100000 in
set_option maxHeartbeats 2000000 in
theorem MSet_at (g : Nat) (n : Int) (L : List Mk) (x : Mk) (X : World) (h : IsMs X g n L) (hr : refM n L x = 0) :
    Calls Try.prog 16 #[.pointer (some ⟨g, 0, none⟩), mkV x] X fun y X' => ∃ g', y = .returned (.tuple #[.pointer (some ⟨g', 0, none⟩), .int .i64 0]) ∧ IsMs X' g' n (putM x L) ∧ Below X.heap.size X X' := by
  have hsz := (refM_name hr).1
  obtain ⟨r, kg, mg⟩ := h.c
  obtain ⟨xn, xp, xg⟩ := x
  dsimp only at hsz
  have b1 := (Below.refl X.heap.size X).alloc (Nat.le_refl _) (.cells #[.string xn, .int .i64 xp, .int .i64 xg] 42)
  have HC := hide (MRef_at g n L ⟨xn, xp, xg⟩ _ (h.below b1 (Nat.le_refl _)))
  rw [hr] at HC
  have HP : Hid (∀ V : Value, V = .agg #[.string xn, .int .i64 xp, .int .i64 xg] → V = mkV ⟨xn, xp, xg⟩) := hide fun V h => h
  unfold mkV at HC ⊢
  dsimp only at HC ⊢
  have k1 := Cls.new X 42 #[.string xn, .int .i64 xp, .int .i64 xg]
  have d0 := k1.cell 0
  have d1 := k1.cell 1
  have d2 := k1.cell 2
  simp only [List.getElem?_toArray, List.getElem?_cons_zero, List.getElem?_cons_succ] at d0 d1 d2
  have HB := hide b1
  have HK1 := hide (And.intro k1 (And.intro (kg.below b1 kg.lt) (mg.below b1 (Nat.le_refl _))))
  have hgx : g ≠ X.heap.size := Nat.ne_of_lt kg.lt
  have hrx : r ≠ X.heap.size := Nat.ne_of_lt mg.lt
  have HNE := hide (And.intro hgx hrx)
  clear h b1 k1 hr hgx hrx kg mg
  go_enter Try.func16, Try.ntmps16
  go_wp2_with fail
  refine (unhide HC).mono ?_
  rintro y w1 ⟨rfl, x1⟩
  dsimp only
  obtain ⟨kx, kg, mg⟩ := unhide HK1
  have HX1 := hide ((unhide HB).trans (x1.mono (unhide HB).size))
  have k2 := kx.below x1 kx.lt
  have HK2 := hide (And.intro k2 (And.intro (kg.below x1 kg.lt) (mg.below x1 (Nat.le_refl _))))
  have e0 := k2.cell 0
  simp only [List.getElem?_toArray, List.getElem?_cons_zero] at e0
  have HC2 := hide (MClo_at xn w1 (by omega))
  clear HC HB x1 d0 d1 d2 k2 HK1 kx kg mg
  go_wp2_with fail
  refine (unhide HC2).mono ?_
  rintro y w2 ⟨rfl, x2⟩
  dsimp only
  obtain ⟨kx, kg, mg⟩ := unhide HK2
  have k3 := kx.below x2 kx.lt
  have f0 := k3.frozen 0
  have e1 := k3.cell 0
  simp only [List.getElem?_toArray, List.getElem?_cons_zero] at e1
  have k4 : Cls (w2.setCell ⟨X.heap.size, 0, none⟩ (.string xn)) X.heap.size 42 #[.string xn, .int .i64 xp, .int .i64 xg] := k3.set 0 (.string xn)
  have kg4 := (kg.below x2 kg.lt).other ⟨X.heap.size, 0, none⟩ (.string xn) (unhide HNE).1
  have mg4 : IsMp (w2.setCell ⟨X.heap.size, 0, none⟩ (.string xn)) r L := (mg.below x2 (Nat.le_refl _)).same (Below.heap_setCell _ ⟨X.heap.size, 0, none⟩ (.string xn) r (unhide HNE).2)
  have hx4 := ((unhide HX1).trans (x2.mono (unhide HX1).size)).setCell (p := ⟨X.heap.size, 0, none⟩) (Nat.le_refl _) (.string xn)
  have HK4 := hide (And.intro k4 (And.intro kg4 mg4))
  have HX4 := hide hx4
  clear HC2 HX1 x2 k3 k4 kg4 mg4 hx4 HK2 kx kg mg e0
  go_upto_region 5 with fail
  clear e1 f0
  generalize w2.setCell ⟨X.heap.size, 0, none⟩ (.string xn) = w4 at *
  obtain ⟨k4, kg4, mg4⟩ := unhide HK4
  have c1 := kg4.cell 1
  simp only [List.getElem?_toArray, List.getElem?_cons_zero, List.getElem?_cons_succ] at c1
  have HC3 := hide (MClone_at r L w4 mg4)
  clear k4 kg4 mg4
  go_wp2_with fail
  refine (unhide HC3).mono ?_
  rintro y w5 ⟨rfl, m5, x5⟩
  dsimp only
  obtain ⟨k4, kg4, mg4⟩ := unhide HK4
  have k5 := k4.below x5 k4.lt
  have kg5 := kg4.below x5 kg4.lt
  have d0 := k5.cell 0
  have d1 := k5.cell 1
  have d2 := k5.cell 2
  simp only [List.getElem?_toArray, List.getElem?_cons_zero, List.getElem?_cons_succ] at d0 d1 d2
  obtain ⟨o, R2, m6⟩ := run_update_mk (P := Try.prog) w5 Try.underlying67 Try.underlying9 m5 ⟨xn, xp, xg⟩
  unfold mkV at R2
  dsimp only at R2
  have hx5 := (unhide HX4).trans (x5.mono (unhide HX4).size)
  have hne : g ≠ w4.heap.size := Nat.ne_of_lt kg4.lt
  have kg6 : Cls { w5 with heap := w5.heap.setIfInBounds w4.heap.size o } g 69 #[.int .i64 n, .map (some r)] := kg5.same (by simp [Ne.symm hne])
  have hb6 := below_block hx5 o (unhide HX4).size
  have c0 := kg6.cell 0
  simp only [List.getElem?_toArray, List.getElem?_cons_zero] at c0
  clear HC3 c1 HK4 HX4 k4 kg4 mg4 k5 kg5 kg6 m5 x5 hx5 hne
  generalize ({ w5 with heap := w5.heap.setIfInBounds w4.heap.size o } : World) = w6 at *
  generalize w4.heap.size = rn at *
  have k7 := Cls.new w6 69 #[.int .i64 n, .map (some rn)]
  have m7 : IsMp (w6.alloc (.cells #[.int .i64 n, .map (some rn)] 69)) rn (putM ⟨xn, xp, xg⟩ L) := m6.same (heap_alloc_old _ _ m6.lt)
  have HR : Hid (IsMs (w6.alloc (.cells #[.int .i64 n, .map (some rn)] 69)) w6.heap.size n (putM ⟨xn, xp, xg⟩ L)) := hide ⟨_, k7, m7⟩
  have HB7 := hide (hb6.alloc hb6.size (.cells #[.int .i64 n, .map (some rn)] 69))
  clear k7 m7 m6 hb6
  go_wp2_with fail
  refine bodyPost_ret (results_tmp2 rfl _ _ _) rfl ⟨_, rfl, unhide HR, unhide HB7⟩
end Go.Proofs.Ytfllomlighlejaa
