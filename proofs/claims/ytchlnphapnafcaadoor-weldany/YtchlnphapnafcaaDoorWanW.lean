/- WeldAny: the walk (written by wip/tools/wanw.py). -/
import Derived.Test.YtchlnphapnafcaaDoorWrM
import Derived.Test.YtchlnphapnafcaaDoorWfx
import Derived.Test.YtchlnphapnafcaaDoorWma
namespace Go.Proofs.YtchlnphapnafcaaDoor
open Go.ChangeShapes Go.WideShapes Go.ChangeAt Go.RowKit

structure K2 (w : World) (ga gb : Nat) (a b : We) (X : World) : Prop where
  xa : X.heap[ga]? = some (.cells (wc a) 25 (0, 0))
  xb : X.heap[gb]? = some (.cells (wc b) 25 (0, 0))
  below : Below w.heap.size w X
theorem K2.on {w : World} {ga gb : Nat} {a b : We} {X Y : World} (p : K2 w ga gb a b X) (h : Below X.heap.size X Y) : K2 w ga gb a b Y :=
  ⟨blk_on p.xa h, blk_on p.xb h, p.below.trans (h.mono p.below.size)⟩
theorem K2.all {w : World} {ga gb : Nat} {a b : We} {X : World} (p : K2 w ga gb a b X) : (X.cell? ⟨ga, 0, none⟩ = some (.int .i64 a.z.b) ∧ X.cell? ⟨ga, 1, none⟩ = some (.int .i64 a.z.r) ∧ X.cell? ⟨ga, 2, none⟩ = some (.int .i64 a.z.u) ∧ X.cell? ⟨ga, 3, none⟩ = some (.int .i64 a.z.e) ∧ X.cell? ⟨ga, 4, none⟩ = some (.string (strOfNums a.h)) ∧ X.cell? ⟨ga, 5, none⟩ = some (.string (strOfNums a.t))) ∧ (X.cell? ⟨gb, 0, none⟩ = some (.int .i64 b.z.b) ∧ X.cell? ⟨gb, 1, none⟩ = some (.int .i64 b.z.r) ∧ X.cell? ⟨gb, 2, none⟩ = some (.int .i64 b.z.u) ∧ X.cell? ⟨gb, 3, none⟩ = some (.int .i64 b.z.e) ∧ X.cell? ⟨gb, 4, none⟩ = some (.string (strOfNums b.h)) ∧ X.cell? ⟨gb, 5, none⟩ = some (.string (strOfNums b.t))) := by
  obtain ⟨a0, a1, a2, a3, a4, a5, _⟩ := cells6 p.xa
  obtain ⟨b0, b1, b2, b3, b4, b5, _⟩ := cells6 p.xb
  exact ⟨⟨a0, a1, a2, a3, a4, a5⟩, b0, b1, b2, b3, b4, b5⟩
theorem seam_b {s t : List Int} (hs : ∀ x ∈ s, 0 ≤ x ∧ x ≤ 255) (ht : ∀ x ∈ t, 0 ≤ x ∧ x ≤ 255) : (seamL s t).b = 0 ∧ 0 ≤ (seamL s t).r ∧ (seamL s t).r ≤ 3 ∧ 0 ≤ (seamL s t).u ∧ (seamL s t).u ≤ 2 ∧ 0 ≤ (seamL s t).e ∧ (seamL s t).e ≤ 1 := by
  have he : 0 ≤ seamE s t ∧ seamE s t ≤ 1 := by unfold seamE; split <;> omega
  unfold seamL
  dsimp only
  unfold seamR seamU
  by_cases hin : inside (s ++ t) s.length = true
  · rw [if_pos hin, if_pos hin]
    obtain ⟨h1, h2⟩ := flr_wid hin
    have h4 := wid_four ((s ++ t).drop (flr (s ++ t) s.length))
    have hu := uni_wid (x := (s ++ t).drop (flr (s ++ t) s.length)) (fun y hy => (List.mem_append.1 (List.mem_of_mem_drop hy)).elim (hs y) (ht y))
    have hwl : (lng ((s ++ t).drop (flr (s ++ t) s.length)) = 4) ↔ (wid ((s ++ t).drop (flr (s ++ t) s.length)) = 4) := by
      have := wid_gt (l := (s ++ t).drop (flr (s ++ t) s.length)) (k := 3) (by omega)
      have h5 := lng_le ((s ++ t).drop (flr (s ++ t) s.length))
      constructor
      · intro h; have : 3 < wid ((s ++ t).drop (flr (s ++ t) s.length)) := by rw [this]; omega
        omega
      · intro h; have : 3 < lng ((s ++ t).drop (flr (s ++ t) s.length)) := by rw [← this]; omega
        omega
    rw [hu]
    split
    · omega
    · omega
  · rw [if_neg hin, if_neg hin]
    omega
set_option maxRecDepth 100000 in
set_option maxHeartbeats 8000000 in
theorem WeldAny_any (a b : We) (w : World) (ha : Byw a) (hb : Byw b) (hW : Wt w) :
    Calls Tryd.prog 3 #[weV a, weV b] w fun y w' => y = .returned (.bool true) ∧ Below w.heap.size w w' := by
  have HJ1 : Hid (K2 w w.heap.size (w.heap.size + 1) a b ((w.alloc (.cells #[.int .i64 a.z.b, .int .i64 a.z.r, .int .i64 a.z.u, .int .i64 a.z.e, .string (strOfNums a.h), .string (strOfNums a.t)] 25)).alloc (.cells #[.int .i64 b.z.b, .int .i64 b.z.r, .int .i64 b.z.u, .int .i64 b.z.e, .string (strOfNums b.h), .string (strOfNums b.t)] 25))) := hide (by
    have za : (w.alloc (.cells #[.int .i64 a.z.b, .int .i64 a.z.r, .int .i64 a.z.u, .int .i64 a.z.e, .string (strOfNums a.h), .string (strOfNums a.t)] 25)).heap.size = w.heap.size + 1 := World.size_alloc ..
    refine ⟨?_, ?_, ((Below.refl _ _).alloc (Nat.le_refl _) _).alloc (by omega) _⟩
    · rw [heap_alloc_old _ _ (by omega)]
      exact push_get w _
    · have := push_get (w.alloc (.cells #[.int .i64 a.z.b, .int .i64 a.z.r, .int .i64 a.z.u, .int .i64 a.z.e, .string (strOfNums a.h), .string (strOfNums a.t)] 25)) (.cells #[.int .i64 b.z.b, .int .i64 b.z.r, .int .i64 b.z.u, .int .i64 b.z.e, .string (strOfNums b.h), .string (strOfNums b.t)] 25)
      rwa [za] at this)
  have VW : Hid (∀ (x : We), Byw x → ∀ W, Below w.heap.size w W → Calls Tryd.prog 6 #[weV x] W fun y w' => y = .returned (.bool (validB x)) ∧ Below W.heap.size W w') := hide (fun x hx W hb => ValidW_at x W (hW.below hb) hx)
  have HA := hide ha
  have HB := hide hb
  have HWW := hide hW
  clear ha hb hW
  unfold weV
  go_enter Tryd.func3, Tryd.ntmps3
  go_upto_region 1 with fail
  generalize ((w.alloc (.cells #[.int .i64 a.z.b, .int .i64 a.z.r, .int .i64 a.z.u, .int .i64 a.z.e, .string (strOfNums a.h), .string (strOfNums a.t)] 25)).alloc (.cells #[.int .i64 b.z.b, .int .i64 b.z.r, .int .i64 b.z.u, .int .i64 b.z.e, .string (strOfNums b.h), .string (strOfNums b.t)] 25)) = w1 at *
  generalize w.heap.size + 1 = gb at *
  generalize hga : w.heap.size = ga at HJ1 ⊢
  clear hga
  go_wp2_with fail
  refine (fixed5_at w1 ((unhide HWW).below (unhide HJ1).below)).mono ?_
  rintro x w2 ⟨rfl, q2⟩
  dsimp only
  have HJ2 := hide (((unhide HJ1).on q2).on (Below.refl w2.heap.size w2).drew)
  clear HJ1 q2
  go_upto_region 3 with fail
  refine regionL (S := fun w' => (w'.cell? ⟨ga, 0, none⟩ = some (.int .i64 a.z.b) ∧ w'.cell? ⟨ga, 1, none⟩ = some (.int .i64 a.z.r) ∧ w'.cell? ⟨ga, 2, none⟩ = some (.int .i64 a.z.u) ∧ w'.cell? ⟨ga, 3, none⟩ = some (.int .i64 a.z.e) ∧ w'.cell? ⟨ga, 4, none⟩ = some (.string (strOfNums a.h)) ∧ w'.cell? ⟨ga, 5, none⟩ = some (.string (strOfNums a.t))) ∧ (w'.cell? ⟨gb, 0, none⟩ = some (.int .i64 b.z.b) ∧ w'.cell? ⟨gb, 1, none⟩ = some (.int .i64 b.z.r) ∧ w'.cell? ⟨gb, 2, none⟩ = some (.int .i64 b.z.u) ∧ w'.cell? ⟨gb, 3, none⟩ = some (.int .i64 b.z.e) ∧ w'.cell? ⟨gb, 4, none⟩ = some (.string (strOfNums b.h)) ∧ w'.cell? ⟨gb, 5, none⟩ = some (.string (strOfNums b.t)))) (fun _ => false) (by kernel_rfl) ?_
  generalize w2.drew = y2 at *
  refine anyL_take (i := 0) (v := ?vq0) rfl (by kernel_rfl) (by kernel_rfl) (by kernel_rfl) (by kernel_rfl) (fun _ _ _ h => h) (Or.inl ⟨by rfl, ?hq0⟩) ((unhide HJ2).all) ?_
  case hq0 => (intro w hSw; (try dsimp only at hSw); go_simp) <;> with_reducible rfl
  simp only [Act.put, List.getElem_toArray, List.getElem_cons_zero, List.setIfInBounds_toArray, List.set_cons_zero, List.set_cons_succ]
  refine anyL_take (i := 2) (v := ?vq1) rfl (by kernel_rfl) (by kernel_rfl) (by kernel_rfl) (by kernel_rfl) (fun _ _ _ h => h) (Or.inl ⟨by rfl, ?hq1⟩) ((unhide HJ2).all) ?_
  case hq1 => (intro w hSw; (try dsimp only at hSw); go_simp) <;> with_reducible rfl
  simp only [Act.put, List.getElem_toArray, List.getElem_cons_zero, List.getElem_cons_succ, List.setIfInBounds_toArray, List.set_cons_zero, List.set_cons_succ]
  refine anyL_ready (rs := [1]) (by kernel_rfl) (by simp) ?_
  refine AllL.cons rfl (fun K hK => ?_) AllL.nil
  go_simp
  have hV3 := unhide VW a (unhide HA) y2 (unhide HJ2).below
  unfold weV at hV3
  refine hV3.mono ?_
  clear hV3
  rintro x y3 ⟨rfl, q3⟩
  have HJ3 := hide ((unhide HJ2).on q3)
  dsimp only
  refine unhide hK _ _ (fun _ => (unhide HJ3).all) ?_
  clear hK K q3 HJ2
  refine anyL_ready (rs := [3]) (by kernel_rfl) (by simp) ?_
  refine AllL.cons rfl (fun K hK => ?_) AllL.nil
  go_simp
  have hV4 := RValid_at a y3 (unhide HA)
  unfold weV at hV4
  refine hV4.mono ?_
  clear hV4
  rintro x y4 ⟨rfl, q4⟩
  have HJ4 := hide ((unhide HJ3).on q4)
  dsimp only
  refine unhide hK _ _ (fun _ => (unhide HJ4).all) ?_
  clear hK K q4 HJ3
  refine anyL_take (i := 4) (v := ?vq2) rfl (by kernel_rfl) (by kernel_rfl) (by kernel_rfl) (by kernel_rfl) (fun _ _ _ h => h) (Or.inl ⟨by rfl, ?hq2⟩) ((unhide HJ4).all) ?_
  case hq2 => (intro w hSw; (try dsimp only at hSw); go_simp) <;> with_reducible rfl
  simp only [Act.put, List.getElem_toArray, List.getElem_cons_zero, List.getElem_cons_succ, List.setIfInBounds_toArray, List.set_cons_zero, List.set_cons_succ]
  refine anyL_take (i := 5) (v := ?vq3) rfl (by kernel_rfl) (by kernel_rfl) (by kernel_rfl) (by kernel_rfl) (fun _ _ _ h => h) (Or.inl ⟨by rfl, ?hq3⟩) ((unhide HJ4).all) ?_
  case hq3 => (intro w hSw; (try dsimp only at hSw); go_simp) <;> with_reducible rfl
  simp only [Act.put, List.getElem_toArray, List.getElem_cons_zero, List.getElem_cons_succ, List.setIfInBounds_toArray, List.set_cons_zero, List.set_cons_succ]
  refine anyL_take (i := 6) (v := ?vq4) rfl (by kernel_rfl) (by kernel_rfl) (by kernel_rfl) (by kernel_rfl) (fun _ _ _ h => h) (Or.inl ⟨by rfl, ?hq4⟩) ((unhide HJ4).all) ?_
  case hq4 => (intro w hSw; (try dsimp only at hSw); go_simp) <;> with_reducible rfl
  simp only [Act.put, List.getElem_toArray, List.getElem_cons_zero, List.getElem_cons_succ, List.setIfInBounds_toArray, List.set_cons_zero, List.set_cons_succ]
  refine anyL_take (i := 8) (v := ?vq5) rfl (by kernel_rfl) (by kernel_rfl) (by kernel_rfl) (by kernel_rfl) (fun _ _ _ h => h) (Or.inl ⟨by rfl, ?hq5⟩) ((unhide HJ4).all) ?_
  case hq5 => (intro w hSw; (try dsimp only at hSw); go_simp) <;> with_reducible rfl
  simp only [Act.put, List.getElem_toArray, List.getElem_cons_zero, List.getElem_cons_succ, List.setIfInBounds_toArray, List.set_cons_zero, List.set_cons_succ]
  refine anyL_ready (rs := [7]) (by kernel_rfl) (by simp) ?_
  refine AllL.cons rfl (fun K hK => ?_) AllL.nil
  go_simp
  have hV5 := unhide VW b (unhide HB) y4 (unhide HJ4).below
  unfold weV at hV5
  refine hV5.mono ?_
  clear hV5
  rintro x y5 ⟨rfl, q5⟩
  have HJ5 := hide ((unhide HJ4).on q5)
  dsimp only
  refine unhide hK _ _ (fun _ => (unhide HJ5).all) ?_
  clear hK K q5 HJ4
  refine anyL_ready (rs := [9]) (by kernel_rfl) (by simp) ?_
  refine AllL.cons rfl (fun K hK => ?_) AllL.nil
  go_simp
  have hV6 := RValid_at b y5 (unhide HB)
  unfold weV at hV6
  refine hV6.mono ?_
  clear hV6
  rintro x y6 ⟨rfl, q6⟩
  have HJ6 := hide ((unhide HJ5).on q6)
  dsimp only
  refine unhide hK _ _ (fun _ => (unhide HJ6).all) ?_
  clear hK K q6 HJ5
  refine anyL_take (i := 10) (v := ?vq6) rfl (by kernel_rfl) (by kernel_rfl) (by kernel_rfl) (by kernel_rfl) (fun _ _ _ h => h) (Or.inl ⟨by rfl, ?hq6⟩) ((unhide HJ6).all) ?_
  case hq6 => (intro w hSw; (try dsimp only at hSw); go_simp) <;> with_reducible rfl
  simp only [Act.put, List.getElem_toArray, List.getElem_cons_zero, List.getElem_cons_succ, List.setIfInBounds_toArray, List.set_cons_zero, List.set_cons_succ]
  refine anyL_take (i := 11) (v := ?vq7) rfl (by kernel_rfl) (by kernel_rfl) (by kernel_rfl) (by kernel_rfl) (fun _ _ _ h => h) (Or.inl ⟨by rfl, ?hq7⟩) ((unhide HJ6).all) ?_
  case hq7 => (intro w hSw; (try dsimp only at hSw); go_simp) <;> with_reducible rfl
  simp only [Act.put, List.getElem_toArray, List.getElem_cons_zero, List.getElem_cons_succ, List.setIfInBounds_toArray, List.set_cons_zero, List.set_cons_succ]
  refine anyL_done (by kernel_rfl) ?_ _
  obtain ⟨x, z, e, hj⟩ : ∃ x z e, joinL a b = (x, z, e) := ⟨_, _, _, rfl⟩
  have HE : Hid (e = 0 → Byw x ∧ validB x = true ∧ z.b = 0 ∧ 0 ≤ z.r ∧ z.r ≤ 3 ∧ 0 ≤ z.u ∧ z.u ≤ 2 ∧ 0 ≤ z.e ∧ z.e ≤ 1) := hide (fun he => by
    rcases join_kinds a b with ⟨e', he', h⟩ | ⟨h, _, _, hv⟩
    · rw [hj] at h
      cases h
      exact absurd he he'
    · rw [hj] at h
      cases h
      exact ⟨both_byw (unhide HA) (unhide HB), hv, seam_b (unhide HA).t (unhide HB).h⟩)
  have HHJ := hide hj
  clear hj
  obtain ⟨⟨a0, a1, a2, a3, a4, a5⟩, b0, b1, b2, b3, b4, b5⟩ := (unhide HJ6).all
  go_wp2_with fail
  have hL0 := Join_at a b y6 ((unhide HWW).below (unhide HJ6).below) (unhide HA) (unhide HB)
  rw [unhide HHJ] at hL0
  unfold weV at hL0
  dsimp only at hL0
  refine hL0.mono ?_
  clear hL0
  rintro r m0 ⟨rfl, q⟩
  dsimp only
  have HJ7 := hide ((unhide HJ6).on (q.alloc q.size (.cells #[.int .i64 x.z.b, .int .i64 x.z.r, .int .i64 x.z.u, .int .i64 x.z.e, .string (strOfNums x.h), .string (strOfNums x.t)] 25)))
  have HX0 := hide (push_get m0 (.cells #[.int .i64 x.z.b, .int .i64 x.z.r, .int .i64 x.z.u, .int .i64 x.z.e, .string (strOfNums x.h), .string (strOfNums x.t)] 25))
  clear a0 a1 a2 a3 a4 a5 b0 b1 b2 b3 b4 b5 q HJ6
  go_upto_region 6 with fail
  generalize m0.alloc (.cells #[.int .i64 x.z.b, .int .i64 x.z.r, .int .i64 x.z.u, .int .i64 x.z.e, .string (strOfNums x.h), .string (strOfNums x.t)] 25) = u0 at *
  generalize m0.heap.size = g0 at *
  obtain ⟨⟨a0, a1, a2, a3, a4, a5⟩, b0, b1, b2, b3, b4, b5⟩ := (unhide HJ7).all
  go_wp2_with fail
  have hL1 := RJoin_at a b u0 (unhide HA) (unhide HB)
  rw [unhide HHJ] at hL1
  unfold weV at hL1
  dsimp only at hL1
  refine hL1.mono ?_
  clear hL1
  rintro r m1 ⟨rfl, q⟩
  dsimp only
  have HJ8 := hide ((unhide HJ7).on (q.alloc q.size (.cells #[.int .i64 x.z.b, .int .i64 x.z.r, .int .i64 x.z.u, .int .i64 x.z.e, .string (strOfNums x.h), .string (strOfNums x.t)] 25)))
  have HX1 := hide (push_get m1 (.cells #[.int .i64 x.z.b, .int .i64 x.z.r, .int .i64 x.z.u, .int .i64 x.z.e, .string (strOfNums x.h), .string (strOfNums x.t)] 25))
  have HX0 := hide (blk_on (unhide HX0) (q.alloc q.size (.cells #[.int .i64 x.z.b, .int .i64 x.z.r, .int .i64 x.z.u, .int .i64 x.z.e, .string (strOfNums x.h), .string (strOfNums x.t)] 25)))
  clear a0 a1 a2 a3 a4 a5 b0 b1 b2 b3 b4 b5 q HJ7
  go_upto_region 7 with fail
  generalize m1.alloc (.cells #[.int .i64 x.z.b, .int .i64 x.z.r, .int .i64 x.z.u, .int .i64 x.z.e, .string (strOfNums x.h), .string (strOfNums x.t)] 25) = u1 at *
  generalize m1.heap.size = g1 at *
  obtain ⟨⟨a0, a1, a2, a3, a4, a5⟩, b0, b1, b2, b3, b4, b5⟩ := (unhide HJ8).all
  go_wp2_with fail
  have hL2 := SeamX_at a b u1 ((unhide HWW).below (unhide HJ8).below) (unhide HA) (unhide HB)
  rw [unhide HHJ] at hL2
  unfold weV at hL2
  unfold szV at hL2
  dsimp only at hL2
  refine hL2.mono ?_
  clear hL2
  rintro r m2 ⟨rfl, q⟩
  dsimp only
  have HJ9 := hide ((unhide HJ8).on (q.alloc q.size (.cells #[.int .i64 z.b, .int .i64 z.r, .int .i64 z.u, .int .i64 z.e] 23)))
  have HX2 := hide (push_get m2 (.cells #[.int .i64 z.b, .int .i64 z.r, .int .i64 z.u, .int .i64 z.e] 23))
  have HX0 := hide (blk_on (unhide HX0) (q.alloc q.size (.cells #[.int .i64 z.b, .int .i64 z.r, .int .i64 z.u, .int .i64 z.e] 23)))
  have HX1 := hide (blk_on (unhide HX1) (q.alloc q.size (.cells #[.int .i64 z.b, .int .i64 z.r, .int .i64 z.u, .int .i64 z.e] 23)))
  clear a0 a1 a2 a3 a4 a5 b0 b1 b2 b3 b4 b5 q HJ8
  go_upto_region 8 with fail
  generalize m2.alloc (.cells #[.int .i64 z.b, .int .i64 z.r, .int .i64 z.u, .int .i64 z.e] 23) = u2 at *
  generalize m2.heap.size = g2 at *
  obtain ⟨⟨a0, a1, a2, a3, a4, a5⟩, b0, b1, b2, b3, b4, b5⟩ := (unhide HJ9).all
  go_wp2_with fail
  have hL3 := RSeam_at a b u2 (unhide HA) (unhide HB)
  rw [unhide HHJ] at hL3
  unfold weV at hL3
  unfold szV at hL3
  dsimp only at hL3
  refine hL3.mono ?_
  clear hL3
  rintro r m3 ⟨rfl, q⟩
  dsimp only
  have HJ10 := hide ((unhide HJ9).on (q.alloc q.size (.cells #[.int .i64 z.b, .int .i64 z.r, .int .i64 z.u, .int .i64 z.e] 23)))
  have HX3 := hide (push_get m3 (.cells #[.int .i64 z.b, .int .i64 z.r, .int .i64 z.u, .int .i64 z.e] 23))
  have HX0 := hide (blk_on (unhide HX0) (q.alloc q.size (.cells #[.int .i64 z.b, .int .i64 z.r, .int .i64 z.u, .int .i64 z.e] 23)))
  have HX1 := hide (blk_on (unhide HX1) (q.alloc q.size (.cells #[.int .i64 z.b, .int .i64 z.r, .int .i64 z.u, .int .i64 z.e] 23)))
  have HX2 := hide (blk_on (unhide HX2) (q.alloc q.size (.cells #[.int .i64 z.b, .int .i64 z.r, .int .i64 z.u, .int .i64 z.e] 23)))
  clear a0 a1 a2 a3 a4 a5 b0 b1 b2 b3 b4 b5 q HJ9
  go_upto_region 9 with fail
  generalize m3.alloc (.cells #[.int .i64 z.b, .int .i64 z.r, .int .i64 z.u, .int .i64 z.e] 23) = u3 at *
  generalize m3.heap.size = g3 at *
  obtain ⟨x0, x1, x2, x3, x4, x5, _⟩ := cells6 (unhide HX0)
  obtain ⟨v0, v1, v2, v3, v4, v5, _⟩ := cells6 (unhide HX1)
  obtain ⟨z0, z1, z2, z3, _⟩ := cells4 (unhide HX2)
  obtain ⟨s0, s1, s2, s3, _⟩ := cells4 (unhide HX3)
  by_cases he : e = 0
  · obtain ⟨hbx, hv, f0, f1, f2, f3, f4, f5, f6⟩ := unhide HE he
    have VX := hide (unhide VW x hbx u3 (unhide HJ10).below)
    unfold weV at VX
    have HVX := hide hv
    subst he
    clear hv hbx
    go_wp2_with fail
    refine (unhide VX).mono ?_
    rintro r u4 ⟨rfl, q⟩
    rw [unhide HVX]
    dsimp only
    have HJ11 := hide ((unhide HJ10).on q)
    have HX4 := hide (blk_on (unhide HX2) q)
    clear z0 z1 z2 z3
    obtain ⟨z0, z1, z2, z3, _⟩ := cells4 (unhide HX4)
    go_wp2_with fail
    go_ret
    exact ⟨by first | rfl | simp, (unhide HJ11).below⟩
  · have hei : (e != 0) = true := by rw [bne_iff_ne]; exact he
    go_wp2_with fail
    go_ret
    exact ⟨by first | rfl | simp, (unhide HJ10).below⟩
end Go.Proofs.YtchlnphapnafcaaDoor
