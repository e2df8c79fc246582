/- Layer 6: contracts of rule's find, To and Edge. -/
import Derived.Test.YtophdhpkinedgaaGreatDoorSs11
import Derived.Deep.Cut

namespace Go.Proofs.YtophdhpkinedgaaGreatDoor
open Go.ChangeShapes Go.WideShapes Go.ChangeAt Go.RowKit

theorem pre_getD {pre : List Ed} {u : Ed} {E : List Ed} (h : pre ++ [u] <+: E) : E.getD pre.length e0 = u ∧ pre.length < E.length ∧ ∀ j, j < pre.length → E.getD j e0 ∈ pre ∧ (j + 1 = pre.length → E.getD j e0 = lastE pre) := by
  obtain ⟨t, rfl⟩ := h
  refine ⟨by simp [List.getD], by simp, fun j hj => ?_⟩
  have hg : (pre ++ [u] ++ t).getD j e0 = pre[j] := by
    rw [List.getD, List.append_assoc, List.getElem?_append_left hj, List.getElem?_eq_getElem hj]; rfl
  rw [hg]
  refine ⟨List.getElem_mem hj, fun e => ?_⟩
  unfold lastE
  rw [List.getLast?_eq_getElem?, show pre.length - 1 = j by omega, List.getElem?_eq_getElem hj]
  rfl
theorem bes_some {r place : Int} {E pre : List Ed} {u : Ed} (hE : Inc r E) (h0 : 0 ≤ place) (h : pre ++ [u] <+: E) (h1 : ∀ e ∈ pre, (byE r e : Int) < place) (h2 : place ≤ (byE r u : Int)) :
    isPl r place E = true ∧ upE r place E = u ∧ dnE r place E = if (byE r u : Int) ≤ place then u else lastE pre := by
  obtain ⟨a1, a2, a3⟩ := pre_getD h
  have hi : ixE r place E = pre.length := ix_is (Nat.le_of_lt a2) (fun j hj => h1 _ (a3 j hj).1) (fun _ => by rw [a1]; exact h2)
  have hu : upE r place E = u := by unfold upE; rw [hi, a1]
  refine ⟨decide_eq_true ⟨h0, by omega⟩, hu, ?_⟩
  unfold dnE dnI
  rw [hu, hi]
  by_cases he : (byE r u : Int) = place
  · rw [if_pos he, if_pos (by omega), a1]
  · rw [if_neg he, if_neg (by omega)]
    rcases Nat.eq_zero_or_pos pre.length with hz | hz
    · exfalso
      rw [hz] at a1
      have : u = e0 := a1.symm.trans hE.1
      rw [this, by_e0] at h2 he
      omega
    · exact (a3 (pre.length - 1) (by omega)).2 (by omega)
theorem bes_none {r place : Int} {E : List Ed} (h : ∀ e ∈ E, (byE r e : Int) < place) : isPl r place E = false := by
  have hi : ixE r place E = E.length := ix_is (Nat.le_refl _) (fun j hj => h _ (by rw [List.getD, List.getElem?_eq_getElem hj]; exact List.getElem_mem hj)) (fun hl => absurd hl (Nat.lt_irrefl _))
  unfold isPl
  rw [hi]
  simp

set_option maxRecDepth 100000 in
set_option maxHeartbeats 4000000 in
theorem beside_neg (a0 : Option Addr) (len cap : Nat) (r place : Int) (w : World) (hp0 : ¬ 0 ≤ place) :
    Calls Tryz.prog 79 #[.slice a0 len cap, .int .i64 r, .int .i64 place] w fun y w' => y = .returned (.tuple #[edV e0, edV e0, .bool false]) ∧ Below w.heap.size w w' := by
  have i0 : ∃ w2, w2 = ((((w.alloc (.cells #[.int .i64 r] 25)).alloc (.cells #[.int .i64 place] 3)).alloc (.cells #[.int .i64 0, .int .i64 0, .int .i64 0] 105)).alloc (.cells #[.int .i64 0, .int .i64 0, .int .i64 0] 105)).alloc (.cells #[.bool false] 4) ∧ BsI w w.heap.size r place [] w2 := by
    refine ⟨_, rfl, ⟨?_, ?_, ?_, ?_, ?_, (fun e he => by cases he), ?_⟩⟩
    · exact ((((Cls.new w _ _).alloc _).alloc _).alloc _).alloc _
    · have := Cls.new (w.alloc (.cells #[.int .i64 r] 25)) 3 #[.int .i64 place]
      rw [World.size_alloc] at this
      exact ((this.alloc _).alloc _).alloc _
    · have := Cls.new ((w.alloc (.cells #[.int .i64 r] 25)).alloc (.cells #[.int .i64 place] 3)) 105 #[.int .i64 0, .int .i64 0, .int .i64 0]
      rw [World.size_alloc, World.size_alloc] at this
      exact (this.alloc _).alloc _
    · have := Cls.new (((w.alloc (.cells #[.int .i64 r] 25)).alloc (.cells #[.int .i64 place] 3)).alloc (.cells #[.int .i64 0, .int .i64 0, .int .i64 0] 105)) 105 #[.int .i64 0, .int .i64 0, .int .i64 0]
      rw [World.size_alloc, World.size_alloc, World.size_alloc] at this
      exact this.alloc _
    · have := Cls.new ((((w.alloc (.cells #[.int .i64 r] 25)).alloc (.cells #[.int .i64 place] 3)).alloc (.cells #[.int .i64 0, .int .i64 0, .int .i64 0] 105)).alloc (.cells #[.int .i64 0, .int .i64 0, .int .i64 0] 105)) 4 #[.bool false]
      rw [World.size_alloc, World.size_alloc, World.size_alloc, World.size_alloc] at this
      exact this
    · exact (((((Below.refl _ w).alloc (Nat.le_refl _) _).alloc (by simp) _).alloc (by simp; omega) _).alloc (by simp; omega) _).alloc (by simp; omega) _
  obtain ⟨w2, hw2, i0⟩ := i0
  have qp : decide (place < 0) = true := by simp; omega
  have HP := hide hp0
  clear hp0
  go_enter Tryz.func79, Tryz.ntmps79
  have cp : w2.cell? ⟨w.heap.size + 1, 0, none⟩ = some (.int .i64 place) := (i0.hp.cell 0).trans rfl
  have o0 : w2.cell? ⟨w.heap.size + 4, 0, none⟩ = some (.bool false) := (i0.ok.cell 0).trans rfl
  have fo := i0.ok.frozen 0
  have p0 : w2.cell? ⟨w.heap.size + 2, 0, none⟩ = some (.int .i64 0) := (i0.dn.cell 0).trans rfl
  have p1 : w2.cell? ⟨w.heap.size + 2, 1, none⟩ = some (.int .i64 0) := (i0.dn.cell 1).trans rfl
  have p2 : w2.cell? ⟨w.heap.size + 2, 2, none⟩ = some (.int .i64 0) := (i0.dn.cell 2).trans rfl
  have fp0 := i0.dn.frozen 0
  have fp1 := i0.dn.frozen 1
  have fp2 := i0.dn.frozen 2
  have s0 : w2.cell? ⟨w.heap.size + 3, 0, none⟩ = some (.int .i64 0) := (i0.up.cell 0).trans rfl
  have s1 : w2.cell? ⟨w.heap.size + 3, 1, none⟩ = some (.int .i64 0) := (i0.up.cell 1).trans rfl
  have s2 : w2.cell? ⟨w.heap.size + 3, 2, none⟩ = some (.int .i64 0) := (i0.up.cell 2).trans rfl
  have fs0 := i0.up.frozen 0
  have fs1 := i0.up.frozen 1
  have fs2 := i0.up.frozen 2
  go_upto_region 1 with fail
  rw [← hw2]
  clear hw2
  go_wp2_with fail
  obtain ⟨F, hF⟩ : ∃ F, F = (put3 (put3 w2 (w.heap.size + 2) e0) (w.heap.size + 3) e0).setCell ⟨w.heap.size + 4, 0, none⟩ (.bool false) := ⟨_, rfl⟩
  have Fd : Cls F (w.heap.size + 2) 105 (edC e0) := by rw [hF]; exact (put3_other (g := w.heap.size + 3) e0 (put3_same e0 i0.dn) (by omega)).other _ _ (show w.heap.size + 2 ≠ w.heap.size + 4 by omega)
  have Fu : Cls F (w.heap.size + 3) 105 (edC e0) := by rw [hF]; exact (put3_same e0 (put3_other (g := w.heap.size + 2) e0 i0.up (by omega))).other _ _ (show w.heap.size + 3 ≠ w.heap.size + 4 by omega)
  have Fo : Cls F (w.heap.size + 4) 4 #[.bool false] := by rw [hF]; exact (put3_other (g := w.heap.size + 3) e0 (put3_other (g := w.heap.size + 2) e0 i0.ok (by omega)) (by omega)).set 0 (.bool false)
  have Fb : Below w.heap.size w2 F := by rw [hF]; exact ((put3_below w2 e0 (by omega)).trans (put3_below _ e0 (by omega))).trans (setCell_below _ _ _ (show w.heap.size ≤ w.heap.size + 4 by omega))
  show bodyPost _ _ _ _ _ ((put3 (put3 w2 (w.heap.size + 2) e0) (w.heap.size + 3) e0).setCell ⟨w.heap.size + 4, 0, none⟩ (.bool false))
  rw [← hF]
  exact bodyPost_ret (v := .tuple #[edV e0, edV e0, .bool false]) (res3 _ rfl rfl rfl Fd Fu Fo) rfl ⟨rfl, i0.b.trans Fb⟩

theorem beside_at (a0 : Option Addr) (cap : Nat) (l : List Int) (r place : Int) (w : World) (hB : IsB w a0 cap l) (hT : Tab w) :
    Calls Tryz.prog 79 #[.slice a0 l.length cap, .int .i64 r, .int .i64 place] w fun y w' =>
      y = .returned (.tuple #[edV (if isPl r place (EE l) then dnE r place (EE l) else e0), edV (if isPl r place (EE l) then upE r place (EE l) else e0), .bool (isPl r place (EE l))]) ∧ Below w.heap.size w w' := by
  by_cases h0 : 0 ≤ place
  · refine (beside_in a0 cap l r place w hB hT h0).mono ?_
    rintro y w' ⟨(⟨pre, u, h1, h2, h3, rfl⟩ | ⟨h1, rfl⟩), hb⟩
    · obtain ⟨a1, a2, a3⟩ := bes_some (inc_EE hB.2.2.2 r) h0 h1 h2 h3
      refine ⟨?_, hb⟩
      rw [a1, a2, a3]
      rfl
    · refine ⟨?_, hb⟩
      rw [bes_none h1]
      rfl
  · refine (beside_neg a0 l.length cap r place w h0).mono ?_
    rintro y w' ⟨rfl, hb⟩
    have : isPl r place (EE l) = false := by simp [isPl, h0]
    refine ⟨?_, hb⟩
    rw [this]
    rfl

end Go.Proofs.YtophdhpkinedgaaGreatDoor
