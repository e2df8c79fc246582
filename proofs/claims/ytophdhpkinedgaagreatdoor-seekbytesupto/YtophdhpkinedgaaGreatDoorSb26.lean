/- Layer 5: Join, Seam. -/
import Derived.Test.YtophdhpkinedgaaGreatDoorSb23

namespace Go.Proofs.YtophdhpkinedgaaGreatDoor
open Go.ChangeShapes Go.WideShapes Go.ChangeAt Go.RowKit

set_option maxRecDepth 100000 in
set_option maxHeartbeats 2000000 in
theorem Join_at (a b : We) (w : World) (hW : Wt w) (ha : Byw a) (hb : Byw b) :
    Calls Tryz.prog 133 #[weV a, weV b] w fun y w' => y = .returned (.tuple #[weV (joinL a b).1, .int .i64 (joinL a b).2.2]) ∧ Below w.heap.size w w' := by
  have za : (w.alloc (.cells #[.int .i64 a.z.b, .int .i64 a.z.r, .int .i64 a.z.u, .int .i64 a.z.e, .string (strOfNums a.h), .string (strOfNums a.t)] 61)).heap.size = w.heap.size + 1 := World.size_alloc ..
  have zb : ((w.alloc (.cells #[.int .i64 a.z.b, .int .i64 a.z.r, .int .i64 a.z.u, .int .i64 a.z.e, .string (strOfNums a.h), .string (strOfNums a.t)] 61)).alloc (.cells #[.int .i64 b.z.b, .int .i64 b.z.r, .int .i64 b.z.u, .int .i64 b.z.e, .string (strOfNums b.h), .string (strOfNums b.t)] 61)).heap.size = w.heap.size + 1 + 1 := by rw [World.size_alloc, za]
  have b1 : Below w.heap.size w (((w.alloc (.cells #[.int .i64 a.z.b, .int .i64 a.z.r, .int .i64 a.z.u, .int .i64 a.z.e, .string (strOfNums a.h), .string (strOfNums a.t)] 61)).alloc (.cells #[.int .i64 b.z.b, .int .i64 b.z.r, .int .i64 b.z.u, .int .i64 b.z.e, .string (strOfNums b.h), .string (strOfNums b.t)] 61)).alloc (.cells #[.int .i64 0, .int .i64 0, .int .i64 0, .int .i64 0, .string ⟨#[]⟩, .string ⟨#[]⟩] 61)) := (((Below.refl _ _).alloc (Nat.le_refl _) _).alloc (by omega) _).alloc (by omega) _
  have xr : (((w.alloc (.cells #[.int .i64 a.z.b, .int .i64 a.z.r, .int .i64 a.z.u, .int .i64 a.z.e, .string (strOfNums a.h), .string (strOfNums a.t)] 61)).alloc (.cells #[.int .i64 b.z.b, .int .i64 b.z.r, .int .i64 b.z.u, .int .i64 b.z.e, .string (strOfNums b.h), .string (strOfNums b.t)] 61)).alloc (.cells #[.int .i64 0, .int .i64 0, .int .i64 0, .int .i64 0, .string ⟨#[]⟩, .string ⟨#[]⟩] 61)).heap[w.heap.size + 1 + 1]? = some (.cells #[.int .i64 0, .int .i64 0, .int .i64 0, .int .i64 0, .string ⟨#[]⟩, .string ⟨#[]⟩] 61 (0, 0)) := by
    have := push_get ((w.alloc (.cells #[.int .i64 a.z.b, .int .i64 a.z.r, .int .i64 a.z.u, .int .i64 a.z.e, .string (strOfNums a.h), .string (strOfNums a.t)] 61)).alloc (.cells #[.int .i64 b.z.b, .int .i64 b.z.r, .int .i64 b.z.u, .int .i64 b.z.e, .string (strOfNums b.h), .string (strOfNums b.t)] 61)) (.cells #[.int .i64 0, .int .i64 0, .int .i64 0, .int .i64 0, .string ⟨#[]⟩, .string ⟨#[]⟩] 61)
    rwa [zb] at this
  have zr : w.heap.size + 1 + 1 < (((w.alloc (.cells #[.int .i64 a.z.b, .int .i64 a.z.r, .int .i64 a.z.u, .int .i64 a.z.e, .string (strOfNums a.h), .string (strOfNums a.t)] 61)).alloc (.cells #[.int .i64 b.z.b, .int .i64 b.z.r, .int .i64 b.z.u, .int .i64 b.z.e, .string (strOfNums b.h), .string (strOfNums b.t)] 61)).alloc (.cells #[.int .i64 0, .int .i64 0, .int .i64 0, .int .i64 0, .string ⟨#[]⟩, .string ⟨#[]⟩] 61)).heap.size := by rw [World.size_alloc, zb]; omega
  have HZ := hide (And.intro za zb)
  clear za zb
  unfold weV
  go_enter Tryz.func133, Tryz.ntmps133
  go_wp2_with fail
  generalize (((w.alloc (.cells #[.int .i64 a.z.b, .int .i64 a.z.r, .int .i64 a.z.u, .int .i64 a.z.e, .string (strOfNums a.h), .string (strOfNums a.t)] 61)).alloc (.cells #[.int .i64 b.z.b, .int .i64 b.z.r, .int .i64 b.z.u, .int .i64 b.z.e, .string (strOfNums b.h), .string (strOfNums b.t)] 61)).alloc (.cells #[.int .i64 0, .int .i64 0, .int .i64 0, .int .i64 0, .string ⟨#[]⟩, .string ⟨#[]⟩] 61)) = w1 at *
  generalize hgr : w.heap.size + 1 + 1 = gr at *
  have hwr : w.heap.size ≤ gr := by omega
  clear hgr HZ
  refine (join_at a b w1 (hW.below b1) ha hb).mono ?_
  unfold joinV weV szV
  rintro y w2 ⟨rfl, b2⟩
  dsimp only
  obtain ⟨j, hj⟩ : ∃ j, j = joinL a b := ⟨_, rfl⟩
  rw [← hj]
  have HJ := hide hj
  clear hj
  obtain ⟨x, z, er⟩ := j
  dsimp only
  go_upto_region 2 with fail
  have x2 := (b2.block gr zr).trans xr
  have q1 : Below w2.heap.size w2 ((w2.alloc (.cells #[.int .i64 x.z.b, .int .i64 x.z.r, .int .i64 x.z.u, .int .i64 x.z.e, .string (strOfNums x.h), .string (strOfNums x.t)] 61)).alloc (.cells #[.int .i64 z.b, .int .i64 z.r, .int .i64 z.u, .int .i64 z.e] 59)) := ((Below.refl _ _).alloc (Nat.le_refl _) _).alloc (by rw [World.size_alloc]; omega) _
  have y1 : ((w2.alloc (.cells #[.int .i64 x.z.b, .int .i64 x.z.r, .int .i64 x.z.u, .int .i64 x.z.e, .string (strOfNums x.h), .string (strOfNums x.t)] 61)).alloc (.cells #[.int .i64 z.b, .int .i64 z.r, .int .i64 z.u, .int .i64 z.e] 59)).heap[w2.heap.size]? = some (.cells #[.int .i64 x.z.b, .int .i64 x.z.r, .int .i64 x.z.u, .int .i64 x.z.e, .string (strOfNums x.h), .string (strOfNums x.t)] 61 (0, 0)) := (heap_alloc_old _ _ (by rw [World.size_alloc]; omega)).trans (push_get w2 _)
  have x3 := (q1.block gr (by have := b2.size; omega)).trans x2
  have bb3 : Below w.heap.size w ((w2.alloc (.cells #[.int .i64 x.z.b, .int .i64 x.z.r, .int .i64 x.z.u, .int .i64 x.z.e, .string (strOfNums x.h), .string (strOfNums x.t)] 61)).alloc (.cells #[.int .i64 z.b, .int .i64 z.r, .int .i64 z.u, .int .i64 z.e] 59)) := (b1.trans (b2.mono b1.size)).trans (q1.mono (by have := b1.size; have := b2.size; omega))
  generalize ((w2.alloc (.cells #[.int .i64 x.z.b, .int .i64 x.z.r, .int .i64 x.z.u, .int .i64 x.z.e, .string (strOfNums x.h), .string (strOfNums x.t)] 61)).alloc (.cells #[.int .i64 z.b, .int .i64 z.r, .int .i64 z.u, .int .i64 z.e] 59)) = w3 at *
  generalize w2.heap.size = gx at *
  clear q1 x2 xr b1 b2
  obtain ⟨c0, c1, c2, c3, c4, c5, _⟩ := cells6 y1
  obtain ⟨d0, d1, d2, d3, d4, d5, f⟩ := cells6 x3
  have f0 := f 0
  have f1 := f 1
  have f2 := f 2
  have f3 := f 3
  have f4 := f 4
  have f5 := f 5
  have xf := box6_all x3 (.int .i64 x.z.b) (.int .i64 x.z.r) (.int .i64 x.z.u) (.int .i64 x.z.e) (.string (strOfNums x.h)) (.string (strOfNums x.t))
  have bf := below6 bb3 hwr (.int .i64 x.z.b) (.int .i64 x.z.r) (.int .i64 x.z.u) (.int .i64 x.z.e) (.string (strOfNums x.h)) (.string (strOfNums x.t))
  clear f
  go_wp2_with fail
  clear c0 c1 c2 c3 c4 c5 d0 d1 d2 d3 d4 d5 f0 f1 f2 f3 f4 f5
  generalize ((((((w3.setCell ⟨gr, 0, none⟩ (.int .i64 x.z.b)).setCell ⟨gr, 1, none⟩ (.int .i64 x.z.r)).setCell ⟨gr, 2, none⟩ (.int .i64 x.z.u)).setCell ⟨gr, 3, none⟩ (.int .i64 x.z.e)).setCell ⟨gr, 4, none⟩ (.string (strOfNums x.h))).setCell ⟨gr, 5, none⟩ (.string (strOfNums x.t))) = wf at *
  obtain ⟨e0, e1, e2, e3, e4, e5, _⟩ := cells6 xf
  exact bodyPost_ret (v := .tuple #[.agg #[.int .i64 x.z.b, .int .i64 x.z.r, .int .i64 x.z.u, .int .i64 x.z.e, .string (strOfNums x.h), .string (strOfNums x.t)], .int .i64 er]) (by simp [results, Tryz.results133, go_sem, e0, e1, e2, e3, e4, e5]) rfl ⟨by first | (rw [← unhide HJ]; done) | (rw [← unhide HJ]; rfl), bf⟩

end Go.Proofs.YtophdhpkinedgaaGreatDoor
