/- Rows of bytes that the call itself made: how they stay, are written, and grow by one byte. · Rows that may be written and grown whatever they hold; bytes are appended to one's own. · Layer 5: Join, Seam. -/
import Derived.Test.YteamaneompijkaaGreatDoorSl03
import Derived.Laws.AppendOwn
import Derived.Deep.AppendLies
import Derived.Deep.AppendSrc
import Derived.Test.YteamaneompijkaaGreatDoorSl19

section
namespace Go.Proofs.YteamaneompijkaaGreatDoor
open Go.ChangeShapes Go.WideShapes Go.ChangeAt Go.RowKit

/-- v is a []byte of the call's own, from block B on, that holds the bytes l -/
def Own (w : World) (B : Nat) (v : Value) (l : List Int) : Prop := w.ownsRow B 5 1 v l.length (l.map (Value.int .u8))

theorem Lies.lt {w : World} {g off : Nat} {l : List Int} (h : Lies w g off l) (hl : 0 < l.length) : g < w.heap.size := by
  have := (h 0 hl).1
  rcases Nat.lt_or_ge g w.heap.size with h' | h'
  · exact h'
  · simp [World.cell?, Array.getElem?_eq_none h'] at this
theorem Lies.grown {w w' : World} {row : Option Nat} {g off : Nat} {l : List Int} (h : Lies w g off l) (hg : w.grownBy w' row) (hne : some g ≠ row) : Lies w' g off l :=
  fun i hi => ⟨hg.cell (a := ⟨g, off + i, none⟩) (h i hi).1 hne, (h i hi).2⟩
theorem Lies.pre {w : World} {g off : Nat} {l m : List Int} (h : Lies w g off (l ++ m)) : Lies w g off l := by
  intro i hi
  have := h i (by simp; omega)
  rwa [show (l ++ m).getD i 0 = l.getD i 0 by simp [List.getD, List.getElem?_append_left hi]] at this

theorem Own.lies {w : World} {B g cap n : Nat} {l : List Int} (h : Own w B (.slice (some ⟨g, 0, none⟩) n cap) l) (hl : ∀ x ∈ l, 0 ≤ x ∧ x ≤ 255) : Lies w g 0 l := by
  intro i hi
  refine ⟨?_, ?_⟩
  · have := World.ownsRow.cells h rfl i (.int .u8 (l.getD i 0)) (by simp [List.getElem?_eq_getElem hi, List.getD])
    rwa [Addr.add_lit] at this
  · have := hl _ (List.getElem_mem hi)
    simpa [List.getD, List.getElem?_eq_getElem hi] using this
theorem Own.form {w : World} {B : Nat} {v : Value} {l : List Int} (h : Own w B v l) (hn : 0 < l.length) : ∃ g cap, v = .slice (some ⟨g, 0, none⟩) l.length cap ∧ B ≤ g ∧ g < w.heap.size ∧ l.length ≤ cap := by
  rcases h.2 with ⟨_, h0⟩ | ⟨g, cap, cur, hv, hb, hg, hc, _⟩
  · omega
  · refine ⟨g, cap, hv, hb, ?_, hc⟩
    rcases Nat.lt_or_ge g w.heap.size with hlt | hge
    · exact hlt
    · rw [Array.getElem?_eq_none hge] at hg; cases hg
theorem Own.kept {w w' : World} {B : Nat} {v : Value} {l : List Int} {row : Option Nat} (h : Own w B v l) (hg : w.grownBy w' row) (hne : v.ownBlock = none ∨ v.ownBlock ≠ row) : Own w' B v l := World.ownsRow.kept h hg hne

/-- one cell of the own row is written -/
theorem Own.cell {w : World} {B g cap n : Nat} {l : List Int} (h : Own w B (.slice (some ⟨g, 0, none⟩) n cap) l) (k : Nat) (hk : k < l.length) : (w.cell? ⟨g, k, none⟩).isSome = true ∧ w.frozen? ⟨g, k, none⟩ = false := by
  rcases h.2 with ⟨h0, _⟩ | ⟨g', cap', cur, hv, _, hg, hc, _, hs, _⟩
  · cases h0
  · cases hv
    refine ⟨?_, ?_⟩
    · simp only [World.cell?, hg]
      simp; omega
    · simp [World.frozen?, hg]
theorem Own.set {w : World} {B g cap n : Nat} {l : List Int} (h : Own w B (.slice (some ⟨g, 0, none⟩) n cap) l) (k : Nat) (x : Int) : Own (w.setCell ⟨g, k, none⟩ (.int .u8 x)) B (.slice (some ⟨g, 0, none⟩) n cap) (l.set k x) := by
  have hh := h
  rcases h.2 with ⟨h0, _⟩ | ⟨g', cap', cur, hv, hb, hg, hc, hm, hs, ht⟩
  · cases h0
  · cases hv
    refine ⟨by simp, Or.inr ⟨g, cap, cur.setIfInBounds k (.int .u8 x), ?_, hb, ?_, ?_, hm, by simpa using hs, ?_⟩⟩
    · simp
    · have hlt : g < w.heap.size := by
        rcases Nat.lt_or_ge g w.heap.size with h' | h'
        · exact h'
        · rw [Array.getElem?_eq_none h'] at hg; cases hg
      simp only [World.setCell, Array.getElem?_modify, if_true, hg, Option.map_some]
      simp
    · simpa using hc
    · simp only [Nat.mul_one, List.length_set] at ht ⊢
      rw [Array.toList_setIfInBounds, List.take_set, ht, List.map_set]

end Go.Proofs.YteamaneompijkaaGreatDoor
end

section
namespace Go.Proofs.YteamaneompijkaaGreatDoor
open Go.ChangeShapes Go.WideShapes Go.ChangeAt Go.RowKit

theorem setCells_one (w : World) (b o : Nat) (v : Value) : w.setCells b o [v] = w.setCell ⟨b, o, none⟩ v := rfl
theorem cell_set {w : World} {g k : Nat} {v : Value} (h : (w.cell? ⟨g, k, none⟩).isSome = true) (j : Nat) : (w.setCell ⟨g, k, none⟩ v).cell? ⟨g, j, none⟩ = if j = k then some v else w.cell? ⟨g, j, none⟩ := by
  rw [← setCells_one]
  by_cases hjk : j = k
  · subst hjk
    rw [if_pos rfl]
    have := World.cell?_setCells_in g [v] j w (fun i hi => by obtain rfl : i = 0 := by simpa using hi
                                                              exact h) 0 (by simp)
    simpa using this
  · rw [if_neg hjk]
    exact World.cell?_setCells_out g [v] k w ⟨g, j, none⟩ (fun _ _ => by simp; omega)
theorem frozen_set {w : World} {g k : Nat} {v : Value} (j : Nat) : (w.setCell ⟨g, k, none⟩ v).frozen? ⟨g, j, none⟩ = w.frozen? ⟨g, j, none⟩ := by
  rw [← setCells_one]
  exact World.frozen?_setCells g [v] k w ⟨g, j, none⟩
theorem size_set (w : World) (a : Addr) (v : Value) : (w.setCell a v).heap.size = w.heap.size := by simp [World.setCell]
theorem Own.below {w w' : World} {B : Nat} {v : Value} {l : List Int} (h : Own w B v l) (hb : Below w.heap.size w w') : Own w' B v l := h.kept (row := none) ⟨hb.os, hb.tape, hb.output, hb.size, fun k hk _ => hb.block k hk⟩ (Classical.em _)

end Go.Proofs.YteamaneompijkaaGreatDoor
end

section
namespace Go.Proofs.YteamaneompijkaaGreatDoor
open Go.ChangeShapes Go.WideShapes Go.ChangeAt Go.RowKit

set_option maxRecDepth 100000 in
set_option maxHeartbeats 2000000 in
theorem Join_at (a b : We) (w : World) (hW : Wt w) (ha : Byw a) (hb : Byw b) :
    Calls Tryz.prog 132 #[weV a, weV b] w fun y w' => y = .returned (.tuple #[weV (joinL a b).1, .int .i64 (joinL a b).2.2]) ∧ Below w.heap.size w w' := by
  have za : (w.alloc (.cells #[.int .i64 a.z.b, .int .i64 a.z.r, .int .i64 a.z.u, .int .i64 a.z.e, .string (strOfNums a.h), .string (strOfNums a.t)] 47)).heap.size = w.heap.size + 1 := World.size_alloc ..
  have zb : ((w.alloc (.cells #[.int .i64 a.z.b, .int .i64 a.z.r, .int .i64 a.z.u, .int .i64 a.z.e, .string (strOfNums a.h), .string (strOfNums a.t)] 47)).alloc (.cells #[.int .i64 b.z.b, .int .i64 b.z.r, .int .i64 b.z.u, .int .i64 b.z.e, .string (strOfNums b.h), .string (strOfNums b.t)] 47)).heap.size = w.heap.size + 1 + 1 := by rw [World.size_alloc, za]
  have b1 : Below w.heap.size w (((w.alloc (.cells #[.int .i64 a.z.b, .int .i64 a.z.r, .int .i64 a.z.u, .int .i64 a.z.e, .string (strOfNums a.h), .string (strOfNums a.t)] 47)).alloc (.cells #[.int .i64 b.z.b, .int .i64 b.z.r, .int .i64 b.z.u, .int .i64 b.z.e, .string (strOfNums b.h), .string (strOfNums b.t)] 47)).alloc (.cells #[.int .i64 0, .int .i64 0, .int .i64 0, .int .i64 0, .string ⟨#[]⟩, .string ⟨#[]⟩] 47)) := (((Below.refl _ _).alloc (Nat.le_refl _) _).alloc (by omega) _).alloc (by omega) _
  have xr : (((w.alloc (.cells #[.int .i64 a.z.b, .int .i64 a.z.r, .int .i64 a.z.u, .int .i64 a.z.e, .string (strOfNums a.h), .string (strOfNums a.t)] 47)).alloc (.cells #[.int .i64 b.z.b, .int .i64 b.z.r, .int .i64 b.z.u, .int .i64 b.z.e, .string (strOfNums b.h), .string (strOfNums b.t)] 47)).alloc (.cells #[.int .i64 0, .int .i64 0, .int .i64 0, .int .i64 0, .string ⟨#[]⟩, .string ⟨#[]⟩] 47)).heap[w.heap.size + 1 + 1]? = some (.cells #[.int .i64 0, .int .i64 0, .int .i64 0, .int .i64 0, .string ⟨#[]⟩, .string ⟨#[]⟩] 47 (0, 0)) := by
    have := push_get ((w.alloc (.cells #[.int .i64 a.z.b, .int .i64 a.z.r, .int .i64 a.z.u, .int .i64 a.z.e, .string (strOfNums a.h), .string (strOfNums a.t)] 47)).alloc (.cells #[.int .i64 b.z.b, .int .i64 b.z.r, .int .i64 b.z.u, .int .i64 b.z.e, .string (strOfNums b.h), .string (strOfNums b.t)] 47)) (.cells #[.int .i64 0, .int .i64 0, .int .i64 0, .int .i64 0, .string ⟨#[]⟩, .string ⟨#[]⟩] 47)
    rwa [zb] at this
  have zr : w.heap.size + 1 + 1 < (((w.alloc (.cells #[.int .i64 a.z.b, .int .i64 a.z.r, .int .i64 a.z.u, .int .i64 a.z.e, .string (strOfNums a.h), .string (strOfNums a.t)] 47)).alloc (.cells #[.int .i64 b.z.b, .int .i64 b.z.r, .int .i64 b.z.u, .int .i64 b.z.e, .string (strOfNums b.h), .string (strOfNums b.t)] 47)).alloc (.cells #[.int .i64 0, .int .i64 0, .int .i64 0, .int .i64 0, .string ⟨#[]⟩, .string ⟨#[]⟩] 47)).heap.size := by rw [World.size_alloc, zb]; omega
  have HZ := hide (And.intro za zb)
  clear za zb
  unfold weV
  go_enter Tryz.func132, Tryz.ntmps132
  go_wp2_with fail
  generalize (((w.alloc (.cells #[.int .i64 a.z.b, .int .i64 a.z.r, .int .i64 a.z.u, .int .i64 a.z.e, .string (strOfNums a.h), .string (strOfNums a.t)] 47)).alloc (.cells #[.int .i64 b.z.b, .int .i64 b.z.r, .int .i64 b.z.u, .int .i64 b.z.e, .string (strOfNums b.h), .string (strOfNums b.t)] 47)).alloc (.cells #[.int .i64 0, .int .i64 0, .int .i64 0, .int .i64 0, .string ⟨#[]⟩, .string ⟨#[]⟩] 47)) = w1 at *
  generalize hgr : w.heap.size + 1 + 1 = gr at *
  have hwr : w.heap.size ≤ gr := by omega
  clear hgr HZ
  refine (join_at a b w1 (hW.below b1) ha hb).mono ?_
  unfold joinV weV szV
  rintro y w2 ⟨rfl, b2⟩
  dsimp only
  obtain ⟨j, hj⟩ : ∃ j, j = joinL a b := ⟨_, rfl⟩
  rw [← hj]
  have HJ := hide hj
  clear hj
  obtain ⟨x, z, er⟩ := j
  dsimp only
  go_upto_region 2 with fail
  have x2 := (b2.block gr zr).trans xr
  have q1 : Below w2.heap.size w2 ((w2.alloc (.cells #[.int .i64 x.z.b, .int .i64 x.z.r, .int .i64 x.z.u, .int .i64 x.z.e, .string (strOfNums x.h), .string (strOfNums x.t)] 47)).alloc (.cells #[.int .i64 z.b, .int .i64 z.r, .int .i64 z.u, .int .i64 z.e] 45)) := ((Below.refl _ _).alloc (Nat.le_refl _) _).alloc (by rw [World.size_alloc]; omega) _
  have y1 : ((w2.alloc (.cells #[.int .i64 x.z.b, .int .i64 x.z.r, .int .i64 x.z.u, .int .i64 x.z.e, .string (strOfNums x.h), .string (strOfNums x.t)] 47)).alloc (.cells #[.int .i64 z.b, .int .i64 z.r, .int .i64 z.u, .int .i64 z.e] 45)).heap[w2.heap.size]? = some (.cells #[.int .i64 x.z.b, .int .i64 x.z.r, .int .i64 x.z.u, .int .i64 x.z.e, .string (strOfNums x.h), .string (strOfNums x.t)] 47 (0, 0)) := (heap_alloc_old _ _ (by rw [World.size_alloc]; omega)).trans (push_get w2 _)
  have x3 := (q1.block gr (by have := b2.size; omega)).trans x2
  have bb3 : Below w.heap.size w ((w2.alloc (.cells #[.int .i64 x.z.b, .int .i64 x.z.r, .int .i64 x.z.u, .int .i64 x.z.e, .string (strOfNums x.h), .string (strOfNums x.t)] 47)).alloc (.cells #[.int .i64 z.b, .int .i64 z.r, .int .i64 z.u, .int .i64 z.e] 45)) := (b1.trans (b2.mono b1.size)).trans (q1.mono (by have := b1.size; have := b2.size; omega))
  generalize ((w2.alloc (.cells #[.int .i64 x.z.b, .int .i64 x.z.r, .int .i64 x.z.u, .int .i64 x.z.e, .string (strOfNums x.h), .string (strOfNums x.t)] 47)).alloc (.cells #[.int .i64 z.b, .int .i64 z.r, .int .i64 z.u, .int .i64 z.e] 45)) = w3 at *
  generalize w2.heap.size = gx at *
  clear q1 x2 xr b1 b2
  obtain ⟨c0, c1, c2, c3, c4, c5, _⟩ := cells6 y1
  obtain ⟨d0, d1, d2, d3, d4, d5, f⟩ := cells6 x3
  have f0 := f 0
  have f1 := f 1
  have f2 := f 2
  have f3 := f 3
  have f4 := f 4
  have f5 := f 5
  have xf := box6_all x3 (.int .i64 x.z.b) (.int .i64 x.z.r) (.int .i64 x.z.u) (.int .i64 x.z.e) (.string (strOfNums x.h)) (.string (strOfNums x.t))
  have bf := below6 bb3 hwr (.int .i64 x.z.b) (.int .i64 x.z.r) (.int .i64 x.z.u) (.int .i64 x.z.e) (.string (strOfNums x.h)) (.string (strOfNums x.t))
  clear f
  go_wp2_with fail
  clear c0 c1 c2 c3 c4 c5 d0 d1 d2 d3 d4 d5 f0 f1 f2 f3 f4 f5
  generalize ((((((w3.setCell ⟨gr, 0, none⟩ (.int .i64 x.z.b)).setCell ⟨gr, 1, none⟩ (.int .i64 x.z.r)).setCell ⟨gr, 2, none⟩ (.int .i64 x.z.u)).setCell ⟨gr, 3, none⟩ (.int .i64 x.z.e)).setCell ⟨gr, 4, none⟩ (.string (strOfNums x.h))).setCell ⟨gr, 5, none⟩ (.string (strOfNums x.t))) = wf at *
  obtain ⟨e0, e1, e2, e3, e4, e5, _⟩ := cells6 xf
  exact bodyPost_ret (v := .tuple #[.agg #[.int .i64 x.z.b, .int .i64 x.z.r, .int .i64 x.z.u, .int .i64 x.z.e, .string (strOfNums x.h), .string (strOfNums x.t)], .int .i64 er]) (by simp [results, Tryz.results132, go_sem, e0, e1, e2, e3, e4, e5]) rfl ⟨by first | (rw [← unhide HJ]; done) | (rw [← unhide HJ]; rfl), bf⟩

end Go.Proofs.YteamaneompijkaaGreatDoor
end
