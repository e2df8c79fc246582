/- Layer 6: contracts of rule's find, To and Edge. · Layer 6: contracts of rule's find, To, Edge. · RuleBack in plain functions: there and back at edges, Down and Up beside a place. · Layer 7: rule.Size whatever is asked, bytes cut (taken from Ruv, for seats that hold no rule.Table; not beside Ruv). -/
import Derived.Test.YteamaneompijkaaGreatDoorSo12
import Derived.Deep.Cut
import Derived.Deep.CutRange
namespace Go.Proofs.YteamaneompijkaaGreatDoor
set_option maxRecDepth 100000
set_option maxHeartbeats 8000000
section
open Go.ChangeShapes Go.WideShapes Go.ChangeAt Go.RowKit
theorem pre_getD {pre : List Ed} {u : Ed} {E : List Ed} (h : pre ++ [u] <+: E) : E.getD pre.length e0 = u ∧ pre.length < E.length ∧ ∀ j, j < pre.length → E.getD j e0 ∈ pre ∧ (j + 1 = pre.length → E.getD j e0 = lastE pre) := by
  obtain ⟨t, rfl⟩ := h
  refine ⟨by simp [List.getD], by simp, fun j hj => ?_⟩
  have hg : (pre ++ [u] ++ t).getD j e0 = pre[j] := by
    rw [List.getD, List.append_assoc, List.getElem?_append_left hj, List.getElem?_eq_getElem hj]; rfl
  rw [hg]
  refine ⟨List.getElem_mem hj, fun e => ?_⟩
  unfold lastE
  rw [List.getLast?_eq_getElem?, show pre.length - 1 = j by omega, List.getElem?_eq_getElem hj]
  rfl
theorem bes_some {r place : Int} {E pre : List Ed} {u : Ed} (hE : Inc r E) (h0 : 0 ≤ place) (h : pre ++ [u] <+: E) (h1 : ∀ e ∈ pre, (byE r e : Int) < place) (h2 : place ≤ (byE r u : Int)) :
    isPl r place E = true ∧ upE r place E = u ∧ dnE r place E = if (byE r u : Int) ≤ place then u else lastE pre := by
  obtain ⟨a1, a2, a3⟩ := pre_getD h
  have hi : ixE r place E = pre.length := ix_is (Nat.le_of_lt a2) (fun j hj => h1 _ (a3 j hj).1) (fun _ => by rw [a1]; exact h2)
  have hu : upE r place E = u := by unfold upE; rw [hi, a1]
  refine ⟨decide_eq_true ⟨h0, by omega⟩, hu, ?_⟩
  unfold dnE dnI
  rw [hu, hi]
  by_cases he : (byE r u : Int) = place
  · rw [if_pos he, if_pos (by omega), a1]
  · rw [if_neg he, if_neg (by omega)]
    rcases Nat.eq_zero_or_pos pre.length with hz | hz
    · exfalso
      rw [hz] at a1
      have : u = e0 := a1.symm.trans hE.1
      rw [this, by_e0] at h2 he
      omega
    · exact (a3 (pre.length - 1) (by omega)).2 (by omega)
theorem bes_none {r place : Int} {E : List Ed} (h : ∀ e ∈ E, (byE r e : Int) < place) : isPl r place E = false := by
  have hi : ixE r place E = E.length := ix_is (Nat.le_refl _) (fun j hj => h _ (by rw [List.getD, List.getElem?_eq_getElem hj]; exact List.getElem_mem hj)) (fun hl => absurd hl (Nat.lt_irrefl _))
  unfold isPl
  rw [hi]
  simp
theorem beside_neg (a0 : Option Addr) (len cap : Nat) (r place : Int) (w : World) (hp0 : ¬ 0 ≤ place) :
    Calls Tryz.prog 104 #[.slice a0 len cap, .int .i64 r, .int .i64 place] w fun y w' => y = .returned (.tuple #[edV e0, edV e0, .bool false]) ∧ Below w.heap.size w w' := by
  have i0 : ∃ w2, w2 = ((((w.alloc (.cells #[.int .i64 r] 25)).alloc (.cells #[.int .i64 place] 3)).alloc (.cells #[.int .i64 0, .int .i64 0, .int .i64 0] 102)).alloc (.cells #[.int .i64 0, .int .i64 0, .int .i64 0] 102)).alloc (.cells #[.bool false] 4) ∧ BsI w w.heap.size r place [] w2 := by
    refine ⟨_, rfl, ⟨?_, ?_, ?_, ?_, ?_, (fun e he => by cases he), ?_⟩⟩
    · exact ((((Cls.new w _ _).alloc _).alloc _).alloc _).alloc _
    · have := Cls.new (w.alloc (.cells #[.int .i64 r] 25)) 3 #[.int .i64 place]
      rw [World.size_alloc] at this
      exact ((this.alloc _).alloc _).alloc _
    · have := Cls.new ((w.alloc (.cells #[.int .i64 r] 25)).alloc (.cells #[.int .i64 place] 3)) 102 #[.int .i64 0, .int .i64 0, .int .i64 0]
      rw [World.size_alloc, World.size_alloc] at this
      exact (this.alloc _).alloc _
    · have := Cls.new (((w.alloc (.cells #[.int .i64 r] 25)).alloc (.cells #[.int .i64 place] 3)).alloc (.cells #[.int .i64 0, .int .i64 0, .int .i64 0] 102)) 102 #[.int .i64 0, .int .i64 0, .int .i64 0]
      rw [World.size_alloc, World.size_alloc, World.size_alloc] at this
      exact this.alloc _
    · have := Cls.new ((((w.alloc (.cells #[.int .i64 r] 25)).alloc (.cells #[.int .i64 place] 3)).alloc (.cells #[.int .i64 0, .int .i64 0, .int .i64 0] 102)).alloc (.cells #[.int .i64 0, .int .i64 0, .int .i64 0] 102)) 4 #[.bool false]
      rw [World.size_alloc, World.size_alloc, World.size_alloc, World.size_alloc] at this
      exact this
    · exact (((((Below.refl _ w).alloc (Nat.le_refl _) _).alloc (by simp) _).alloc (by simp; omega) _).alloc (by simp; omega) _).alloc (by simp; omega) _
  obtain ⟨w2, hw2, i0⟩ := i0
  have qp : decide (place < 0) = true := by simp; omega
  have HP := hide hp0
  clear hp0
  go_enter Tryz.func104, Tryz.ntmps104
  have cp : w2.cell? ⟨w.heap.size + 1, 0, none⟩ = some (.int .i64 place) := (i0.hp.cell 0).trans rfl
  have o0 : w2.cell? ⟨w.heap.size + 4, 0, none⟩ = some (.bool false) := (i0.ok.cell 0).trans rfl
  have fo := i0.ok.frozen 0
  have p0 : w2.cell? ⟨w.heap.size + 2, 0, none⟩ = some (.int .i64 0) := (i0.dn.cell 0).trans rfl
  have p1 : w2.cell? ⟨w.heap.size + 2, 1, none⟩ = some (.int .i64 0) := (i0.dn.cell 1).trans rfl
  have p2 : w2.cell? ⟨w.heap.size + 2, 2, none⟩ = some (.int .i64 0) := (i0.dn.cell 2).trans rfl
  have fp0 := i0.dn.frozen 0
  have fp1 := i0.dn.frozen 1
  have fp2 := i0.dn.frozen 2
  have s0 : w2.cell? ⟨w.heap.size + 3, 0, none⟩ = some (.int .i64 0) := (i0.up.cell 0).trans rfl
  have s1 : w2.cell? ⟨w.heap.size + 3, 1, none⟩ = some (.int .i64 0) := (i0.up.cell 1).trans rfl
  have s2 : w2.cell? ⟨w.heap.size + 3, 2, none⟩ = some (.int .i64 0) := (i0.up.cell 2).trans rfl
  have fs0 := i0.up.frozen 0
  have fs1 := i0.up.frozen 1
  have fs2 := i0.up.frozen 2
  go_upto_region 1 with fail
  rw [← hw2]
  clear hw2
  go_wp2_with fail
  obtain ⟨F, hF⟩ : ∃ F, F = (put3 (put3 w2 (w.heap.size + 2) e0) (w.heap.size + 3) e0).setCell ⟨w.heap.size + 4, 0, none⟩ (.bool false) := ⟨_, rfl⟩
  have Fd : Cls F (w.heap.size + 2) 102 (edC e0) := by rw [hF]; exact (put3_other (g := w.heap.size + 3) e0 (put3_same e0 i0.dn) (by omega)).other _ _ (show w.heap.size + 2 ≠ w.heap.size + 4 by omega)
  have Fu : Cls F (w.heap.size + 3) 102 (edC e0) := by rw [hF]; exact (put3_same e0 (put3_other (g := w.heap.size + 2) e0 i0.up (by omega))).other _ _ (show w.heap.size + 3 ≠ w.heap.size + 4 by omega)
  have Fo : Cls F (w.heap.size + 4) 4 #[.bool false] := by rw [hF]; exact (put3_other (g := w.heap.size + 3) e0 (put3_other (g := w.heap.size + 2) e0 i0.ok (by omega)) (by omega)).set 0 (.bool false)
  have Fb : Below w.heap.size w2 F := by rw [hF]; exact ((put3_below w2 e0 (by omega)).trans (put3_below _ e0 (by omega))).trans (setCell_below _ _ _ (show w.heap.size ≤ w.heap.size + 4 by omega))
  show bodyPost _ _ _ _ _ ((put3 (put3 w2 (w.heap.size + 2) e0) (w.heap.size + 3) e0).setCell ⟨w.heap.size + 4, 0, none⟩ (.bool false))
  rw [← hF]
  exact bodyPost_ret (v := .tuple #[edV e0, edV e0, .bool false]) (res3 _ rfl rfl rfl Fd Fu Fo) rfl ⟨rfl, i0.b.trans Fb⟩
theorem beside_at (a0 : Option Addr) (cap : Nat) (l : List Int) (r place : Int) (w : World) (hB : IsB w a0 cap l) (hT : Tab w) :
    Calls Tryz.prog 104 #[.slice a0 l.length cap, .int .i64 r, .int .i64 place] w fun y w' =>
      y = .returned (.tuple #[edV (if isPl r place (EE l) then dnE r place (EE l) else e0), edV (if isPl r place (EE l) then upE r place (EE l) else e0), .bool (isPl r place (EE l))]) ∧ Below w.heap.size w w' := by
  by_cases h0 : 0 ≤ place
  · refine (beside_in a0 cap l r place w hB hT h0).mono ?_
    rintro y w' ⟨(⟨pre, u, h1, h2, h3, rfl⟩ | ⟨h1, rfl⟩), hb⟩
    · obtain ⟨a1, a2, a3⟩ := bes_some (inc_EE hB.2.2.2 r) h0 h1 h2 h3
      refine ⟨?_, hb⟩
      rw [a1, a2, a3]
      rfl
    · refine ⟨?_, hb⟩
      rw [bes_none h1]
      rfl
  · refine (beside_neg a0 l.length cap r place w h0).mono ?_
    rintro y w' ⟨rfl, hb⟩
    have : isPl r place (EE l) = false := by simp [isPl, h0]
    refine ⟨?_, hb⟩
    rw [this]
    rfl
end
section
open Go.ChangeShapes Go.WideShapes Go.ChangeAt Go.RowKit
theorem res2 {X : World} {a : Nat} {t : TypeId} {d : Ed} {v : Value} (tmps : Array Value) (g6 : tmps[8]?.getD undef = .pointer (some ⟨a, 0, none⟩)) (g7 : tmps[9]?.getD undef = v)
    (h1 : Cls X a t (edC d)) : (results Tryz.f72 tmps).run Tryz.prog X = .ok (.tuple #[edV d, v]) X := by
  have p0 : X.cell? ⟨a, 0, none⟩ = some (.int .i64 (d.1 : Int)) := (h1.cell 0).trans rfl
  have p1 : X.cell? ⟨a, 1, none⟩ = some (.int .i64 (d.2.1 : Int)) := (h1.cell 1).trans rfl
  have p2 : X.cell? ⟨a, 2, none⟩ = some (.int .i64 (d.2.2 : Int)) := (h1.cell 2).trans rfl
  simp [results, Tryz.results72, go_sem, g6, g7, p0, p1, p2, edV]
theorem ne3 {a b c a' b' c' : Nat} (h : ((a, b, c) : Ed) ≠ (a', b', c')) : ¬ ((a : Int) = (a' : Int)) ∨ a = a' ∧ ¬ ((b : Int) = (b' : Int)) ∨ a = a' ∧ b = b' ∧ ¬ ((c : Int) = (c' : Int)) := by
  by_cases h1 : a = a'
  · by_cases h2 : b = b'
    · refine Or.inr (Or.inr ⟨h1, h2, fun h3 => h ?_⟩)
      rw [h1, h2, Int.ofNat.inj h3]
    · exact Or.inr (Or.inl ⟨h1, by omega⟩)
  · exact Or.inl (by omega)
theorem fd_dn {r place m : Int} {E : List Ed} (hp : isPl r place E = true) (h : (byE r (upE r place E) : Int) = place ∨ m = 1) : fdR r place m E = 0 ∧ fdE r place m E = dnE r place E := by
  have h1 : fdR r place m E = 0 := by unfold fdR; rw [if_pos hp, if_pos (h.imp id Or.inl)]
  refine ⟨h1, ?_⟩
  unfold fdE selI dnE
  rw [if_pos h1]
  split
  · rename_i hm
    rcases h with h | h
    · unfold dnI; rw [if_pos h]
    · omega
  · rfl
theorem fd_up {r place : Int} {E : List Ed} (hp : isPl r place E = true) : fdR r place 2 E = 0 ∧ fdE r place 2 E = upE r place E := by
  have h1 : fdR r place 2 E = 0 := by unfold fdR; rw [if_pos hp, if_pos (Or.inr (Or.inr rfl))]
  refine ⟨h1, ?_⟩
  unfold fdE selI upE
  rw [if_pos h1, if_pos rfl]
theorem fd_in {r place m : Int} {E : List Ed} (hp : isPl r place E = true) (h : ¬ (byE r (upE r place E) : Int) = place) (h1 : m ≠ 1) (h2 : m ≠ 2) : fdR r place m E = 4 ∧ fdE r place m E = e0 := by
  have e : fdR r place m E = 4 := by unfold fdR; rw [if_pos hp, if_neg (by rintro (h' | h' | h') <;> first | exact h h' | exact h1 h' | exact h2 h')]
  refine ⟨e, ?_⟩
  unfold fdE
  rw [e]
  rfl
theorem fd_no {r place m : Int} {E : List Ed} (hp : isPl r place E = false) : fdR r place m E = 2 ∧ fdE r place m E = e0 := by
  have e : fdR r place m E = 2 := by unfold fdR; rw [hp]; rfl
  refine ⟨e, ?_⟩
  unfold fdE
  rw [e]
  rfl
theorem find_of (a0 : Option Addr) (len cap : Nat) (r place m : Int) (w : World) (d u : Ed) (ok : Bool) (x : Ed) (e : Int)
    (hb0 : ∀ w1, Below w.heap.size w w1 → Calls Tryz.prog 104 #[.slice a0 len cap, .int .i64 r, .int .i64 place] w1 fun y w' => y = .returned (.tuple #[edV d, edV u, .bool ok]) ∧ Below w1.heap.size w1 w')
    (hx : ok = false ∧ x = e0 ∧ e = 2 ∨ ok = true ∧ (d = u ∨ m = 1) ∧ x = d ∧ e = 0 ∨ ok = true ∧ d ≠ u ∧ m = 2 ∧ x = u ∧ e = 0 ∨ ok = true ∧ d ≠ u ∧ m ≠ 1 ∧ m ≠ 2 ∧ x = e0 ∧ e = 4) :
    Calls Tryz.prog 72 #[.slice a0 len cap, .int .i64 r, .int .i64 place, .int .i64 m] w fun y w' => y = .returned (.tuple #[edV x, .int .i64 e]) ∧ Below w.heap.size w w' := by
  have z1 : Cls (w.alloc (.cells #[.int .i64 0, .int .i64 0, .int .i64 0] 102)) w.heap.size 102 (edC e0) := Cls.new w 102 #[.int .i64 0, .int .i64 0, .int .i64 0]
  have b1 := (Below.refl w.heap.size w).alloc (Nat.le_refl _) (.cells #[.int .i64 0, .int .i64 0, .int .i64 0] 102)
  have hb1 := hb0 _ b1
  clear hb0
  obtain ⟨d1, d2, d3⟩ := d
  obtain ⟨u1, u2, u3⟩ := u
  go_enter Tryz.func72, Tryz.ntmps72
  go_upto_region 2 with (go_at_call 104; refine hb1.mono ?_; unfold edV; dsimp only; rintro y w2 ⟨rfl, hb⟩)
  have k0 := ((z1.below hb z1.lt).alloc (.cells #[.int .i64 (d1 : Int), .int .i64 (d2 : Int), .int .i64 (d3 : Int)] 102)).alloc (.cells #[.int .i64 (u1 : Int), .int .i64 (u2 : Int), .int .i64 (u3 : Int)] 102)
  have kd := (Cls.new w2 102 #[.int .i64 (d1 : Int), .int .i64 (d2 : Int), .int .i64 (d3 : Int)]).alloc (.cells #[.int .i64 (u1 : Int), .int .i64 (u2 : Int), .int .i64 (u3 : Int)] 102)
  have ku := Cls.new (w2.alloc (.cells #[.int .i64 (d1 : Int), .int .i64 (d2 : Int), .int .i64 (d3 : Int)] 102)) 102 #[.int .i64 (u1 : Int), .int .i64 (u2 : Int), .int .i64 (u3 : Int)]
  rw [World.size_alloc] at ku
  have s2 := b1.trans (hb.mono b1.size)
  have b3 := (s2.alloc (o := .cells #[.int .i64 (d1 : Int), .int .i64 (d2 : Int), .int .i64 (d3 : Int)] 102) s2.size).alloc (o := .cells #[.int .i64 (u1 : Int), .int .i64 (u2 : Int), .int .i64 (u3 : Int)] 102) (by have := s2.size; simp; omega)
  clear hb1 z1 b1 hb
  generalize (w2.alloc (.cells #[.int .i64 (d1 : Int), .int .i64 (d2 : Int), .int .i64 (d3 : Int)] 102)).alloc (.cells #[.int .i64 (u1 : Int), .int .i64 (u2 : Int), .int .i64 (u3 : Int)] 102) = w3 at *
  clear s2
  generalize w2.heap.size = g at *
  have hne : w.heap.size ≠ g → True := fun _ => trivial
  have p0 : w3.cell? ⟨w.heap.size, 0, none⟩ = some (.int .i64 0) := (k0.cell 0).trans rfl
  have p1 : w3.cell? ⟨w.heap.size, 1, none⟩ = some (.int .i64 0) := (k0.cell 1).trans rfl
  have p2 : w3.cell? ⟨w.heap.size, 2, none⟩ = some (.int .i64 0) := (k0.cell 2).trans rfl
  have f0 := k0.frozen 0
  have f1 := k0.frozen 1
  have f2 := k0.frozen 2
  have cd0 : w3.cell? ⟨g, 0, none⟩ = some (.int .i64 (d1 : Int)) := (kd.cell 0).trans rfl
  have cd1 : w3.cell? ⟨g, 1, none⟩ = some (.int .i64 (d2 : Int)) := (kd.cell 1).trans rfl
  have cd2 : w3.cell? ⟨g, 2, none⟩ = some (.int .i64 (d3 : Int)) := (kd.cell 2).trans rfl
  have cu0 : w3.cell? ⟨g + 1, 0, none⟩ = some (.int .i64 (u1 : Int)) := (ku.cell 0).trans rfl
  have cu1 : w3.cell? ⟨g + 1, 1, none⟩ = some (.int .i64 (u2 : Int)) := (ku.cell 1).trans rfl
  have cu2 : w3.cell? ⟨g + 1, 2, none⟩ = some (.int .i64 (u3 : Int)) := (ku.cell 2).trans rfl
  have fin : ∀ (tmps : Array Value), tmps[8]?.getD undef = .pointer (some ⟨w.heap.size, 0, none⟩) → tmps[9]?.getD undef = .int .i64 e →
      bodyPost Tryz.prog Tryz.f72 (fun y w' => y = .returned (.tuple #[edV x, .int .i64 e]) ∧ Below w.heap.size w w') .ret { tmps := tmps, defers := [] } (put3 w3 w.heap.size x) := fun tmps g8 g9 =>
    bodyPost_ret (res2 tmps g8 g9 (put3_same x k0)) rfl ⟨rfl, b3.trans (put3_below w3 x (Nat.le_refl _))⟩
  have FIN := hide fin
  clear fin kd ku k0 b3 hne
  rcases hx with ⟨rfl, rfl, rfl⟩ | ⟨rfl, hc, rfl, rfl⟩ | ⟨rfl, hc, rfl, rfl, rfl⟩ | ⟨rfl, hc, h1, h2, rfl, rfl⟩
  · go_wp2_with fail
    refine unhide FIN _ ?_ ?_ <;> rfl
  · by_cases hd : ((d1, d2, d3) : Ed) = (u1, u2, u3)
    · cases hd
      clear hc
      go_wp2_with fail
      refine unhide FIN _ ?_ ?_ <;> rfl
    · obtain rfl : m = 1 := hc.resolve_left hd
      rcases ne3 hd with h | ⟨rfl, h⟩ | ⟨rfl, rfl, h⟩
      all_goals clear hd hc
      all_goals go_wp2_with fail
      all_goals refine unhide FIN _ ?_ ?_ <;> rfl
  · rcases ne3 hc with h | ⟨rfl, h⟩ | ⟨rfl, rfl, h⟩
    all_goals clear hc
    all_goals go_wp2_with fail
    all_goals refine unhide FIN _ ?_ ?_ <;> rfl
  · have m1 : (m == 1) = false := by simpa using h1
    have m2 : (m == 2) = false := by simpa using h2
    rcases ne3 hc with h | ⟨rfl, h⟩ | ⟨rfl, rfl, h⟩
    all_goals clear hc h1 h2
    all_goals go_wp2_with fail
    all_goals refine unhide FIN _ ?_ ?_ <;> rfl
theorem find_at (a0 : Option Addr) (cap : Nat) (l : List Int) (r place m : Int) (w : World) (hB : IsB w a0 cap l) (hT : Tab w) :
    Calls Tryz.prog 72 #[.slice a0 l.length cap, .int .i64 r, .int .i64 place, .int .i64 m] w fun y w' =>
      y = .returned (.tuple #[edV (fdE r place m (EE l)), .int .i64 (fdR r place m (EE l))]) ∧ Below w.heap.size w w' := by
  have hE := inc_EE hB.2.2.2 r
  refine find_of a0 l.length cap r place m w _ _ _ _ _ (fun w1 b1 => beside_at a0 cap l r place w1 (hB.below b1 (Nat.le_refl _)) (hT.below b1 hT.size)) ?_
  cases hp : isPl r place (EE l) with
  | false =>
    obtain ⟨e1, e2⟩ := fd_no (m := m) hp
    exact Or.inl ⟨rfl, e2, e1⟩
  | true =>
    have hdu := dn_up hE hp
    by_cases h : (byE r (upE r place (EE l)) : Int) = place ∨ m = 1
    · obtain ⟨e1, e2⟩ := fd_dn hp h
      exact Or.inr (Or.inl ⟨rfl, h.imp hdu.2 id, e2, e1⟩)
    · have h1 : ¬ (byE r (upE r place (EE l)) : Int) = place := fun h' => h (Or.inl h')
      have h2 : m ≠ 1 := fun h' => h (Or.inr h')
      by_cases h3 : m = 2
      · subst h3
        obtain ⟨e1, e2⟩ := fd_up hp
        exact Or.inr (Or.inr (Or.inl ⟨rfl, fun h' => h1 (hdu.1 h'), rfl, e2, e1⟩))
      · obtain ⟨e1, e2⟩ := fd_in hp h1 h2 h3
        exact Or.inr (Or.inr (Or.inr ⟨rfl, fun h' => h1 (hdu.1 h'), h2, h3, e2, e1⟩))
def toR (f place t m : Int) (E : List Ed) : Int := if isRu f && (isRu t && isRu m) then fdR f place m E else 3
def toP (f place t m : Int) (E : List Ed) : Nat := if isRu f && (isRu t && isRu m) then byE t (fdE f place m E) else 0
theorem To_at (a0 : Option Addr) (cap : Nat) (l : List Int) (f place t m : Int) (w : World) (hB : IsB w a0 cap l) (hT : Tab w) :
    Calls Tryz.prog 37 #[.slice a0 l.length cap, .int .i64 f, .int .i64 place, .int .i64 t, .int .i64 m] w fun y w' =>
      y = .returned (.tuple #[.int .i64 (toP f place t m (EE l) : Int), .int .i64 (toR f place t m (EE l))]) ∧ Below w.heap.size w w' := by
  have hf := find_at a0 cap l f place m w hB hT
  have b0 := Below.refl w.heap.size w
  unfold toP toR
  cases h1 : isRu f with
  | false =>
    have k1 := isRuler_at f w
    rw [h1] at k1
    go_enter Tryz.func37, Tryz.ntmps37
    go_wp2_with fail
    refine k1.mono ?_
    rintro y w1 ⟨rfl, rfl⟩
    go_wp2_with fail
    refine bodyPost_ret (results_tmp2 rfl _ _ _) rfl ?_
    exact ⟨rfl, b0⟩
  | true =>
    have k1 := isRuler_at f w
    rw [h1] at k1
    cases h2 : isRu t with
    | false =>
      have k2 := isRuler_at t w
      rw [h2] at k2
      go_enter Tryz.func37, Tryz.ntmps37
      go_wp2_with fail
      refine k1.mono ?_
      rintro y w1 ⟨rfl, rfl⟩
      go_wp2_with fail
      refine k2.mono ?_
      rintro y w2 ⟨rfl, rfl⟩
      go_wp2_with fail
      refine bodyPost_ret (results_tmp2 rfl _ _ _) rfl ?_
      exact ⟨rfl, b0⟩
    | true =>
      have k2 := isRuler_at t w
      rw [h2] at k2
      cases h3 : isRu m with
      | false =>
        have k3 := isMode_at m w
        rw [h3] at k3
        go_enter Tryz.func37, Tryz.ntmps37
        go_wp2_with fail
        refine k1.mono ?_
        rintro y w1 ⟨rfl, rfl⟩
        go_wp2_with fail
        refine k2.mono ?_
        rintro y w2 ⟨rfl, rfl⟩
        go_wp2_with fail
        refine k3.mono ?_
        rintro y w3 ⟨rfl, rfl⟩
        go_wp2_with fail
        refine bodyPost_ret (results_tmp2 rfl _ _ _) rfl ?_
        exact ⟨rfl, b0⟩
      | true =>
        have k3 := isMode_at m w
        rw [h3] at k3
        simp only [Bool.and_self, if_true]
        generalize hx : fdE f place m (EE l) = x at *
        generalize hr : fdR f place m (EE l) = e at *
        clear hB hT
        go_enter Tryz.func37, Tryz.ntmps37
        go_wp2_with fail
        refine k1.mono ?_
        rintro y w1 ⟨rfl, rfl⟩
        go_wp2_with fail
        refine k2.mono ?_
        rintro y w2 ⟨rfl, rfl⟩
        go_wp2_with fail
        refine k3.mono ?_
        rintro y w3 ⟨rfl, rfl⟩
        go_wp2_with fail
        refine hf.mono ?_
        unfold edV
        rintro y w4 ⟨rfl, h4⟩
        have z4 : Cls (w4.alloc (.cells #[.int .i64 (x.1 : Int), .int .i64 (x.2.1 : Int), .int .i64 (x.2.2 : Int)] 102)) w4.heap.size 102 #[.int .i64 (x.1 : Int), .int .i64 (x.2.1 : Int), .int .i64 (x.2.2 : Int)] := Cls.new w4 _ _
        have c0 := z4.cell 0
        have c1 := z4.cell 1
        have c2 := z4.cell 2
        simp only [List.getElem?_toArray, List.getElem?_cons_zero, List.getElem?_cons_succ] at c0 c1 c2
        have b4 := h4.alloc (o := .cells #[.int .i64 (x.1 : Int), .int .i64 (x.2.1 : Int), .int .i64 (x.2.2 : Int)] 102) h4.size
        clear hf z4
        go_wp2_with fail
        generalize w4.alloc (.cells #[.int .i64 (x.1 : Int), .int .i64 (x.2.1 : Int), .int .i64 (x.2.2 : Int)] 102) = w5 at *
        refine (by_at x t w5).mono ?_
        rintro y w6 ⟨rfl, h6⟩
        go_wp2_with fail
        refine bodyPost_ret (results_tmp2 rfl _ _ _) rfl ?_
        exact ⟨rfl, b4.trans (h6.mono b4.size)⟩
end
section
theorem at_edge {r : Int} {E : List Ed} (hE : Inc r E) {j : Nat} (hj : j < E.length) (m : Int) :
    isPl r (byE r (E.getD j e0) : Int) E = true ∧ (byE r (upE r (byE r (E.getD j e0) : Int) E) : Int) = (byE r (E.getD j e0) : Int) ∧ fdR r (byE r (E.getD j e0) : Int) m E = 0 ∧ fdE r (byE r (E.getD j e0) : Int) m E = E.getD j e0 := by
  have hi : ixE r (byE r (E.getD j e0) : Int) E = j := ix_is (Nat.le_of_lt hj) (fun k hk => by have := hE.2.2 k j hk hj; omega) (fun _ => Int.le_refl _)
  have hp : isPl r (byE r (E.getD j e0) : Int) E = true := decide_eq_true ⟨by omega, by rw [hi]; exact hj⟩
  have hu : upE r (byE r (E.getD j e0) : Int) E = E.getD j e0 := by unfold upE; rw [hi]
  have hr : fdR r (byE r (E.getD j e0) : Int) m E = 0 := by unfold fdR; rw [if_pos hp, if_pos (Or.inl (by rw [hu]))]
  refine ⟨hp, by rw [hu], hr, ?_⟩
  have hd : dnI r (byE r (E.getD j e0) : Int) E = j := by unfold dnI; rw [hu, if_pos rfl, hi]
  unfold fdE selI
  rw [if_pos hr, hi, hd]
  split <;> rfl
theorem ru1 : isRu 1 = true := rfl
theorem to_ru {f t m : Int} (h1 : isRu f = true) (h2 : isRu t = true) (h3 : isRu m = true) (p : Int) (E : List Ed) : toR f p t m E = fdR f p m E ∧ toP f p t m E = byE t (fdE f p m E) := by
  unfold toR toP
  rw [h1, h2, h3]
  exact ⟨rfl, rfl⟩
end
section
open Go.ChangeShapes Go.WideShapes Go.ChangeAt Go.RowKit
theorem IsB.takeR {w : World} {a0 : Option Addr} {cap : Nat} {l : List Int} {n : Nat} (h : IsB w a0 cap l) : IsB w a0 cap (l.take n) := by
  obtain ⟨h1, h2, h3, h4⟩ := h
  refine ⟨by simp; omega, by simp; omega, ?_, fun x hx => h4 x (List.mem_of_mem_take hx)⟩
  rcases h3 with h3 | ⟨g', off', rfl, hL⟩
  · exact Or.inl (by rw [h3]; simp)
  · exact Or.inr ⟨g', off', rfl, hL.take n⟩
theorem IsB.loR {w : World} {a : Option Addr} {cap : Nat} {l : List Int} {n : Nat} (h : IsB w a cap l) : IsB w (if cap = n then a else a.map (·.add n)) (cap - n) (l.drop n) := by
  obtain ⟨h1, h2, h3, h4⟩ := h
  refine ⟨by simp; omega, by simp; omega, ?_, fun x hx => h4 x (List.mem_of_mem_drop hx)⟩
  rcases Nat.lt_or_ge n l.length with hlt | hge
  · rcases h3 with h3 | ⟨g', off', rfl, hL⟩
    · rw [h3] at hlt; simp at hlt
    · rw [if_neg (by omega)]
      exact Or.inr ⟨g', off' + n, by simp [Addr.add_lit], hL.drop n⟩
  · exact Or.inl (by simp; omega)
def szE (r : Int) (l : List Int) : Nat := if isRu r then byE r (stE l (spots l 0)) else 0
end
end Go.Proofs.YteamaneompijkaaGreatDoor
