/- Layer 5: the document's Seam (written by wip/tools/wrj.py). -/
import Derived.Test.YtchlnphapnafcaaDoorWrj
namespace Go.Proofs.YtchlnphapnafcaaDoor
open Go.ChangeShapes Go.WideShapes Go.ChangeAt Go.RowKit

theorem join_kinds (a b : We) : (∃ e, e ≠ 0 ∧ joinL a b = (zeroWe, ⟨0, 0, 0, 0⟩, e)) ∨ (joinL a b = (bothW a b, seamL a.t b.h, 0) ∧ validB a = true ∧ validB b = true ∧ validB (bothW a b) = true) := by
  unfold joinL
  cases hva : validB a with
  | false => exact Or.inl ⟨50, by decide, by rfl⟩
  | true =>
    cases hvb : validB b with
    | false => exact Or.inl ⟨50, by decide, by rfl⟩
    | true =>
      rw [if_neg (by decide)]
      by_cases hM : 268435456 < a.z.b + b.z.b
      · rw [if_pos hM]; exact Or.inl ⟨5, by decide, rfl⟩
      · rw [if_neg hM]
        cases hvv : validB (bothW a b) with
        | false => rw [if_pos rfl]; exact Or.inl ⟨50, by decide, rfl⟩
        | true => rw [if_neg (by decide)]; exact Or.inr ⟨rfl, rfl, rfl, rfl⟩
structure K3 (w : World) (ga gb gr : Nat) (a b : We) (X : World) : Prop where
  xa : X.heap[ga]? = some (.cells (wc a) 25 (0, 0))
  xb : X.heap[gb]? = some (.cells (wc b) 25 (0, 0))
  xr : H4 X gr 23 (.int .i64 0) (.int .i64 0) (.int .i64 0) (.int .i64 0)
  below : Below w.heap.size w X
  lo : w.heap.size ≤ ga ∧ w.heap.size ≤ gb ∧ w.heap.size ≤ gr
theorem K3.on {w : World} {ga gb gr : Nat} {a b : We} {X Y : World} (p : K3 w ga gb gr a b X) (h : Below X.heap.size X Y) : K3 w ga gb gr a b Y :=
  ⟨blk_on p.xa h, blk_on p.xb h, p.xr.on h, p.below.trans (h.mono p.below.size), p.lo⟩
set_option maxRecDepth 100000 in
set_option maxHeartbeats 4000000 in
theorem RSeam_at (a b : We) (w : World) (ha : Byw a) (hb : Byw b) :
    Calls Tryd.prog 11 #[weV a, weV b] w fun y w' => y = .returned (.tuple #[szV (joinL a b).2.1, .int .i64 (joinL a b).2.2]) ∧ Below w.heap.size w w' := by
  have HJ1 : Hid (K3 w w.heap.size (w.heap.size + 1) (w.heap.size + 1 + 1) a b (((w.alloc (.cells #[.int .i64 a.z.b, .int .i64 a.z.r, .int .i64 a.z.u, .int .i64 a.z.e, .string (strOfNums a.h), .string (strOfNums a.t)] 25)).alloc (.cells #[.int .i64 b.z.b, .int .i64 b.z.r, .int .i64 b.z.u, .int .i64 b.z.e, .string (strOfNums b.h), .string (strOfNums b.t)] 25)).alloc (.cells #[.int .i64 0, .int .i64 0, .int .i64 0, .int .i64 0] 23))) := hide (by
    have za : (w.alloc (.cells #[.int .i64 a.z.b, .int .i64 a.z.r, .int .i64 a.z.u, .int .i64 a.z.e, .string (strOfNums a.h), .string (strOfNums a.t)] 25)).heap.size = w.heap.size + 1 := World.size_alloc ..
    have zb : ((w.alloc (.cells #[.int .i64 a.z.b, .int .i64 a.z.r, .int .i64 a.z.u, .int .i64 a.z.e, .string (strOfNums a.h), .string (strOfNums a.t)] 25)).alloc (.cells #[.int .i64 b.z.b, .int .i64 b.z.r, .int .i64 b.z.u, .int .i64 b.z.e, .string (strOfNums b.h), .string (strOfNums b.t)] 25)).heap.size = w.heap.size + 1 + 1 := by rw [World.size_alloc, za]
    refine ⟨?_, ?_, ?_, (((Below.refl _ _).alloc (Nat.le_refl _) _).alloc (by omega) _).alloc (by omega) _, ⟨by omega, by omega, by omega⟩⟩
    · rw [heap_alloc_old _ _ (by omega), heap_alloc_old _ _ (by omega)]
      exact push_get w _
    · rw [heap_alloc_old _ _ (by omega)]
      have := push_get (w.alloc (.cells #[.int .i64 a.z.b, .int .i64 a.z.r, .int .i64 a.z.u, .int .i64 a.z.e, .string (strOfNums a.h), .string (strOfNums a.t)] 25)) (.cells #[.int .i64 b.z.b, .int .i64 b.z.r, .int .i64 b.z.u, .int .i64 b.z.e, .string (strOfNums b.h), .string (strOfNums b.t)] 25)
      rwa [za] at this
    · have := push_get ((w.alloc (.cells #[.int .i64 a.z.b, .int .i64 a.z.r, .int .i64 a.z.u, .int .i64 a.z.e, .string (strOfNums a.h), .string (strOfNums a.t)] 25)).alloc (.cells #[.int .i64 b.z.b, .int .i64 b.z.r, .int .i64 b.z.u, .int .i64 b.z.e, .string (strOfNums b.h), .string (strOfNums b.t)] 25)) (.cells #[.int .i64 0, .int .i64 0, .int .i64 0, .int .i64 0] 23)
      rwa [zb] at this)
  have RJ : Hid (∀ W, Calls Tryd.prog 9 #[.agg #[.int .i64 a.z.b, .int .i64 a.z.r, .int .i64 a.z.u, .int .i64 a.z.e, .string (strOfNums a.h), .string (strOfNums a.t)], .agg #[.int .i64 b.z.b, .int .i64 b.z.r, .int .i64 b.z.u, .int .i64 b.z.e, .string (strOfNums b.h), .string (strOfNums b.t)]] W fun y w' => y = .returned (.tuple #[weV (joinL a b).1, .int .i64 (joinL a b).2.2]) ∧ Below W.heap.size W w') := hide (fun W => RJoin_at a b W ha hb)
  have HA := hide ha
  have HB := hide hb
  clear ha hb
  unfold weV
  go_enter Tryd.func11, Tryd.ntmps11
  go_upto_region 1 with fail
  generalize (((w.alloc (.cells #[.int .i64 a.z.b, .int .i64 a.z.r, .int .i64 a.z.u, .int .i64 a.z.e, .string (strOfNums a.h), .string (strOfNums a.t)] 25)).alloc (.cells #[.int .i64 b.z.b, .int .i64 b.z.r, .int .i64 b.z.u, .int .i64 b.z.e, .string (strOfNums b.h), .string (strOfNums b.t)] 25)).alloc (.cells #[.int .i64 0, .int .i64 0, .int .i64 0, .int .i64 0] 23)) = w1 at *
  generalize w.heap.size + 1 + 1 = gr at *
  generalize w.heap.size + 1 = gb at *
  generalize hga : w.heap.size = ga at HJ1 ⊢
  clear hga
  obtain ⟨a0, a1, a2, a3, a4, a5, _⟩ := cells6 (unhide HJ1).xa
  obtain ⟨b0, b1, b2, b3, b4, b5, _⟩ := cells6 (unhide HJ1).xb
  rcases join_kinds a b with ⟨e, he, hj⟩ | ⟨hj, hva, hvb, _⟩
  · rw [hj] at RJ
    have HJJ := hide hj
    clear hj
    unfold weV zeroWe at RJ
    have hei : (e == 0) = false := by rw [beq_eq_false_iff_ne]; exact he
    have hei2 : (e != 0) = true := by rw [bne_iff_ne]; exact he
    go_wp2_with fail
    refine (unhide RJ w1).mono ?_
    rintro y w2 ⟨rfl, b2⟩
    dsimp only
    have HJ2 := (unhide HJ1).on (b2.alloc b2.size (.cells #[.int .i64 0, .int .i64 0, .int .i64 0, .int .i64 0, .string ⟨#[]⟩, .string ⟨#[]⟩] 25))
    obtain ⟨c0, c1, c2, c3, f⟩ := HJ2.xr.cells
    have f0 := f 0
    have f1 := f 1
    have f2 := f 2
    have f3 := f 3
    have v := HJ2.xr.all (.int .i64 0) (.int .i64 0) (.int .i64 0) (.int .i64 0)
    have DD := below4 HJ2.below HJ2.lo.2.2 (.int .i64 0) (.int .i64 0) (.int .i64 0) (.int .i64 0)
    obtain ⟨v0, v1, v2, v3, _⟩ := v.cells
    clear f v
    have V := hide (And.intro v0 (And.intro v1 (And.intro v2 v3)))
    have hse : (strOfNums []) = ⟨#[]⟩ := rfl
    clear v0 v1 v2 v3 a0 a1 a2 a3 a4 a5 b0 b1 b2 b3 b4 b5
    try simp only [hse] at *
    go_wp2_with fail
    obtain ⟨v0, v1, v2, v3⟩ := unhide V
    refine bodyPost_ret (v := .tuple #[szV ⟨0, 0, 0, 0⟩, .int .i64 e]) (by simp [results, Tryd.results11, go_sem, v0, v1, v2, v3, szV]) rfl ⟨by rw [unhide HJJ], DD⟩
  · rw [hj] at RJ
    have HJJ := hide hj
    have hia := valid_in hva
    have hib := valid_in hvb
    have RS := hide (fun W => Rseam_at a b W (unhide HA) (unhide HB) hia.2.2.1 hib.2.1)
    unfold weV at RJ RS
    dsimp only at RJ
    clear hia hib hva hvb hj
    go_wp2_with fail
    refine (unhide RJ w1).mono ?_
    rintro y w2 ⟨rfl, b2⟩
    dsimp only
    have HJ2 := (unhide HJ1).on (b2.alloc b2.size (.cells (wc (bothW a b)) 25))
    unfold wc at HJ2
    clear a0 a1 a2 a3 a4 a5 b0 b1 b2 b3 b4 b5
    obtain ⟨a0, a1, a2, a3, a4, a5, _⟩ := cells6 HJ2.xa
    obtain ⟨b0, b1, b2, b3, b4, b5, _⟩ := cells6 HJ2.xb
    go_wp2_with fail
    refine (unhide RS _).mono ?_
    unfold szV
    rintro y w3 ⟨rfl, q3⟩
    dsimp only
    have HJ3 := HJ2.on q3
    obtain ⟨c0, c1, c2, c3, f⟩ := HJ3.xr.cells
    have f0 := f 0
    have f1 := f 1
    have f2 := f 2
    have f3 := f 3
    have v := HJ3.xr.all (.int .i64 (seamL a.t b.h).b) (.int .i64 (seamL a.t b.h).r) (.int .i64 (seamL a.t b.h).u) (.int .i64 (seamL a.t b.h).e)
    have DD := below4 HJ3.below HJ3.lo.2.2 (.int .i64 (seamL a.t b.h).b) (.int .i64 (seamL a.t b.h).r) (.int .i64 (seamL a.t b.h).u) (.int .i64 (seamL a.t b.h).e)
    obtain ⟨v0, v1, v2, v3, _⟩ := v.cells
    have V := hide (And.intro v0 (And.intro v1 (And.intro v2 v3)))
    clear f v v0 v1 v2 v3 a0 a1 a2 a3 a4 a5 b0 b1 b2 b3 b4 b5
    go_wp2_with fail
    obtain ⟨v0, v1, v2, v3⟩ := unhide V
    refine bodyPost_ret (v := .tuple #[szV (seamL a.t b.h), .int .i64 0]) (by simp [results, Tryd.results11, go_sem, v0, v1, v2, v3, szV]) rfl ⟨by rw [unhide HJJ], DD⟩
end Go.Proofs.YtchlnphapnafcaaDoor
