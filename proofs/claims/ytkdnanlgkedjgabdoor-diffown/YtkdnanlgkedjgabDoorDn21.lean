/- Layer 7: contracts of lines' Count, number, holder, size, known, last, Line. · Layer 7: contracts of lines' holder, size, known, last, Line. -/
import Derived.Test.YtkdnanlgkedjgabDoorDn20

section
namespace Go.Proofs.YtkdnanlgkedjgabDoor
open Go.ChangeShapes Go.WideShapes Go.ChangeAt Go.RowKit
attribute [local go_sem] Oper.semAt_some

theorem lines_seq (w w2 : World) (a0 : Option Addr) (cap : Nat) (l : List Int) (hB : IsB w a0 cap l) (hb : Below w.heap.size w w2) :
    SeqQ Tryd.prog 77 #[.pointer (some ⟨w2.heap.size, 0, none⟩)] encL (fun k => k < w.heap.size ∨ k = w2.heap.size) 1 (LN l) (w2.alloc (.cells #[.slice a0 l.length cap] 22)) := by
  have hb2 := hb.alloc (o := .cells #[.slice a0 l.length cap] 22) hb.size
  refine all1_L w2.heap.size _ a0 cap l _ ((World.cell?_alloc_mark w2 _ _ (0, 0) 0).trans rfl) (hB.below hb2 (Nat.le_refl _)) (Or.inr rfl) ?_
  rintro g off hl rfl
  rcases hB.2.2.1 with h | ⟨g', off', e, hL⟩
  · exact absurd h hl
  · cases e
    exact Or.inl (cell_lt (hL 0 (List.length_pos_iff.2 hl)).1)

/-- what Count's loop keeps -/
structure CnI (w : World) (n : Nat) (pre : List Ln) (X : World) : Prop where
  s : Cls X n 3 #[.int .i64 (pre.length : Int)]
  b : Below n w X
theorem CnI.abd {w : World} {n N m : Nat} (hN : n + 1 ≤ N) : AbdC N m (CnI w n) := fun _ _ _ h hb => ⟨h.s.below hb.1 (by omega), h.b.trans (hb.1.mono (by omega))⟩

/-- what number's loop keeps -/
structure NmI (w : World) (n : Nat) (k : Int) (pre : List Ln) (X : World) : Prop where
  hk : Cls X n 3 #[.int .i64 k]
  l : Cls X (n + 1) 114 #[.int .i64 0, .int .i64 0, .int .i64 0]
  o : Cls X (n + 2) 4 #[.bool false]
  no : ¬ (0 ≤ k ∧ k < (pre.length : Int))
  b : Below n w X
theorem NmI.abd {w : World} {n N m : Nat} {k : Int} (hN : n + 3 ≤ N) : AbdC N m (NmI w n k) := fun _ _ _ h hb => ⟨h.hk.below hb.1 (by omega), h.l.below hb.1 (by omega), h.o.below hb.1 (by omega), h.no, h.b.trans (hb.1.mono (by omega))⟩
structure NmX (l : List Int) (w : World) (n : Nat) (k : Int) (c : Code) (pre : List Ln) (X : World) : Prop where
  c : c = Code.ret
  a : ∃ x, nbr l k = some x ∧ Cls X (n + 1) 114 #[.int .i64 (x.2.1 : Int), .int .i64 (x.2.2.1 : Int), .int .i64 (x.2.2.2 : Int)]
  o : Cls X (n + 2) 4 #[.bool true]
  b : Below n w X
theorem NmX.abd {l : List Int} {w : World} {n N m : Nat} {k : Int} (hN : n + 3 ≤ N) (c : Code) : AbdC N m (NmX l w n k c) := fun _ _ _ h hb => by
  obtain ⟨x, h1, h2⟩ := h.a
  exact ⟨h.c, ⟨x, h1, h2.below hb.1 (by omega)⟩, h.o.below hb.1 (by omega), h.b.trans (hb.1.mono (by omega))⟩
def nbV (o : Option Ln) : Value := match o with | some e => .tuple #[lnV e, .bool true] | none => .tuple #[lnV z4, .bool false]
theorem resN {X : World} {a b : Nat} {t t' : TypeId} {e : Ln} {k : Bool} (tmps : Array Value) (g4 : tmps[4]?.getD undef = .pointer (some ⟨a, 0, none⟩)) (g5 : tmps[5]?.getD undef = .pointer (some ⟨b, 0, none⟩))
    (h1 : Cls X a t #[.int .i64 (e.2.1 : Int), .int .i64 (e.2.2.1 : Int), .int .i64 (e.2.2.2 : Int)]) (h2 : Cls X b t' #[.bool k]) : (results Tryd.f68 tmps).run Tryd.prog X = .ok (.tuple #[lnV e, .bool k]) X := by
  have p0 : X.cell? ⟨a, 0, none⟩ = some (.int .i64 (e.2.1 : Int)) := (h1.cell 0).trans rfl
  have p1 : X.cell? ⟨a, 1, none⟩ = some (.int .i64 (e.2.2.1 : Int)) := (h1.cell 1).trans rfl
  have p2 : X.cell? ⟨a, 2, none⟩ = some (.int .i64 (e.2.2.2 : Int)) := (h1.cell 2).trans rfl
  have o0 : X.cell? ⟨b, 0, none⟩ = some (.bool k) := (h2.cell 0).trans rfl
  simp [results, Tryd.results68, go_sem, g4, g5, p0, p1, p2, o0, lnV]

set_option maxRecDepth 100000 in
set_option maxHeartbeats 4000000 in
theorem number_at (a0 : Option Addr) (cap : Nat) (l : List Int) (k : Int) (w : World) (hB : IsB w a0 cap l) :
    Calls Tryd.prog 68 #[.slice a0 l.length cap, .int .i64 k] w fun y w' => y = .returned (nbV (nbr l k)) ∧ Below w.heap.size w w' := by
  refine (callsIn_wide (n := 4)).1 ?_
  refine callsIn_of_wp_marks Tryd.func68 rfl trivial ?_ rfl
  simp only [Tryd.ntmps68, List.size_toArray, List.length_cons, List.length_nil, Nat.reduceAdd, Nat.reduceSub, Array.replicate_succ, Array.replicate_zero, List.push_toArray, List.append_toArray, List.nil_append, List.cons_append]
  refine wpIn_wide.2 ?_
  have k1 := Cls.new w 3 #[.int .i64 k]
  have b1 := (Below.refl w.heap.size w).alloc (Nat.le_refl _) (.cells #[.int .i64 k] 3)
  have z1 : (w.alloc (.cells #[.int .i64 k] 3)).heap.size = w.heap.size + 1 := by simp
  have k2 := k1.alloc (.cells #[.int .i64 0, .int .i64 0, .int .i64 0] 114)
  have l2 := Cls.new (w.alloc (.cells #[.int .i64 k] 3)) 114 #[.int .i64 0, .int .i64 0, .int .i64 0]
  have b2 := b1.alloc (o := .cells #[.int .i64 0, .int .i64 0, .int .i64 0] 114) b1.size
  have k3 := k2.alloc (.cells #[.bool false] 4)
  have l3 := l2.alloc (.cells #[.bool false] 4)
  have o3 := Cls.new ((w.alloc (.cells #[.int .i64 k] 3)).alloc (.cells #[.int .i64 0, .int .i64 0, .int .i64 0] 114)) 4 #[.bool false]
  have b3 := b2.alloc (o := .cells #[.bool false] 4) b2.size
  have z2 : ((w.alloc (.cells #[.int .i64 k] 3)).alloc (.cells #[.int .i64 0, .int .i64 0, .int .i64 0] 114)).heap.size = w.heap.size + 2 := by simp
  have z3 : (((w.alloc (.cells #[.int .i64 k] 3)).alloc (.cells #[.int .i64 0, .int .i64 0, .int .i64 0] 114)).alloc (.cells #[.bool false] 4)).heap.size = w.heap.size + 3 := by simp
  rw [z1] at l3
  rw [z2] at o3
  clear k1 b1 k2 l2 b2
  go_wp2_with fail
  clear z1 z2
  generalize ((w.alloc (.cells #[.int .i64 k] 3)).alloc (.cells #[.int .i64 0, .int .i64 0, .int .i64 0] 114)).alloc (.cells #[.bool false] 4) = w2 at *
  refine (allL_at a0 l.length cap w2).mono ?_
  rintro y w3' ⟨rfl, rfl⟩
  have hseq := lines_seq w w2 a0 cap l hB b3
  have i0 : NmI w w.heap.size k [] (w2.alloc (.cells #[.slice a0 l.length cap] 22)) := ⟨k3.alloc _, l3.alloc _, o3.alloc _, by simp, b3.alloc b3.size _⟩
  have z4 : (w2.alloc (.cells #[.slice a0 l.length cap] 22)).heap.size = w.heap.size + 4 := by simp [z3]
  clear k3 l3 o3 b3
  go_wp2_with fail
  generalize w2.alloc (.cells #[.slice a0 l.length cap] 22) = w3 at *
  generalize w2.heap.size = gB at *
  subst z3
  clear hB
  generalize hn : w.heap.size = n at *
  refine (wpIn_wide (n := 4)).1 ?_
  refine range_q (gf := 77) (lb := #[.pointer (some ⟨n + 3, 0, none⟩)]) rfl (enters_of Tryd.func77 (by kernel_rfl) rfl) hseq (Below.refl _ _) (fun k hk => by rcases hk with h | rfl <;> omega) (fun _ => rfl)
    (NmI w n k) (NmX l w n k) (NmI.abd (by omega)) (NmX.abd (by omega)) i0 (by decide)
    (fun x a X => ∃ Bx, Cls X Bx 114 #[.int .i64 (x.2.1 : Int), .int .i64 (x.2.2.1 : Int), .int .i64 (x.2.2.2 : Int)] ∧ n + 4 ≤ Bx ∧ a = { tmps := #[.slice a0 l.length cap, .int .i64 k, undef, .pointer (some ⟨n, 0, none⟩), .pointer (some ⟨n + 1, 0, none⟩), .pointer (some ⟨n + 2, 0, none⟩), .int .i64 (x.1 : Int), .pointer (some ⟨Bx, 0, none⟩), .slice a0 l.length cap, .func (.func 77) #[] #[.pointer (some ⟨n + 3, 0, none⟩)], .int .i64 (x.1 : Int), .agg #[.int .i64 (x.2.1 : Int), .int .i64 (x.2.2.1 : Int), .int .i64 (x.2.2.2 : Int)], undef, undef, undef, undef, undef], defers := [] }) ?hax ?assign ?body ?done ?stop
  case hax =>
    rintro x a' X k o o' hX ⟨Bx, hc, hlt, rfl⟩
    refine ⟨Bx, hc.same (World.putObj_heap_other ?_), hlt, rfl⟩
    rintro rfl
    rw [show X.heap[Bx]? = _ from hc] at hX
    cases hX
  case assign =>
    rintro k pre x X K hpre hi hsz hK
    unfold encL lnV
    gi_wp2
    exact hK _ _ ((Below.refl _ X).alloc (Nat.le_refl _) _) ⟨X.heap.size, Cls.new X _ _, by omega, rfl⟩
  case body =>
    rintro kk pre x a' X hk ⟨rec, hrec⟩ hpre hi ⟨Bx, hx, hlt, rfl⟩ hsz
    obtain ⟨hp1, hp2, hp3⟩ := pre_num hpre
    have ck := hi.hk.cell 0
    have x0 := hx.cell 0
    have x1 := hx.cell 1
    have x2 := hx.cell 2
    have l0 := hi.l.frozen 0
    have l1 := hi.l.frozen 1
    have l2 := hi.l.frozen 2
    have m0 := hi.l.cell 0
    have m1 := hi.l.cell 1
    have m2 := hi.l.cell 2
    have o0 := hi.o.frozen 0
    have o1 := hi.o.cell 0
    simp only [List.getElem?_toArray, List.getElem?_cons_zero, List.getElem?_cons_succ] at ck x0 x1 x2 m0 m1 m2 o1
    by_cases he : (x.1 : Int) = k
    · have q1 : ((x.1 : Int) == k) = true := by simpa using he
      have HN : Hid (nbr l k = some x) := hide (by
        unfold nbr
        rw [if_pos ⟨by omega, by omega⟩, ← he, hp1, hp3]
        simp)
      clear he hp1 hp3
      gi_wp2
      have s1 := ((hi.l.set 0 (.int .i64 (x.2.1 : Int))).set 1 (.int .i64 (x.2.2.1 : Int))).set 2 (.int .i64 (x.2.2.2 : Int))
      have s2 := ((hi.o.other ⟨n + 1, 0, none⟩ (.int .i64 (x.2.1 : Int)) (by simp)).other ⟨n + 1, 1, none⟩ (.int .i64 (x.2.2.1 : Int)) (by simp)).other ⟨n + 1, 2, none⟩ (.int .i64 (x.2.2.2 : Int)) (by simp)
      have s3 := s1.other ⟨n + 2, 0, none⟩ (.bool true) (by simp)
      have s4 := s2.set 0 (.bool true)
      simp only [List.setIfInBounds_toArray, List.set_cons_zero, List.set_cons_succ] at s3 s4
      have bb := (((setCell_below (N := n) X ⟨n + 1, 0, none⟩ (.int .i64 (x.2.1 : Int)) (by simp)).trans (setCell_below _ ⟨n + 1, 1, none⟩ (.int .i64 (x.2.2.1 : Int)) (by simp))).trans (setCell_below _ ⟨n + 1, 2, none⟩ (.int .i64 (x.2.2.2 : Int)) (by simp))).trans (setCell_below _ ⟨n + 2, 0, none⟩ (.bool true) (by simp))
      have nq : ∀ j, j = n + 1 ∨ j = n + 2 → ¬ own (fun k => k < n ∨ k = n + 3) w3.heap.size (2 + 1) j := fun j hj h => by
        unfold own at h
        omega
      refine ⟨(((KQ.setCell X ⟨n + 1, 0, none⟩ _ (nq _ (Or.inl rfl))).trans (KQ.setCell _ ⟨n + 1, 1, none⟩ _ (nq _ (Or.inl rfl)))).trans (KQ.setCell _ ⟨n + 1, 2, none⟩ _ (nq _ (Or.inl rfl)))).trans (KQ.setCell _ ⟨n + 2, 0, none⟩ _ (nq _ (Or.inr rfl))), rfl, ⟨x, unhide HN, s3⟩, s4, hi.b.trans bb⟩
    · have q1 : ((x.1 : Int) == k) = false := by simpa using he
      have HNO : Hid (¬ (0 ≤ k ∧ k < ((pre ++ [x]).length : Int))) := hide (by have hno := hi.no; rw [List.length_append, List.length_singleton]; omega)
      clear he hp1 hp3
      gi_wp2
      exact ⟨KQ.refl _ _, hi.hk, hi.l, hi.o, unhide HNO, hi.b⟩
  case done =>
    rintro D X hD hi hK
    have l0 := hi.l.frozen 0
    have l1 := hi.l.frozen 1
    have l2 := hi.l.frozen 2
    have m0 := hi.l.cell 0
    have m1 := hi.l.cell 1
    have m2 := hi.l.cell 2
    have o0 := hi.o.frozen 0
    have o1 := hi.o.cell 0
    simp only [List.getElem?_toArray, List.getElem?_cons_zero, List.getElem?_cons_succ] at m0 m1 m2 o1
    have HNN : Hid (nbr l k = none) := hide (by unfold nbr; rw [if_neg hi.no])
    go_wp2_with fail
    have s1 := ((hi.l.set 0 (.int .i64 0)).set 1 (.int .i64 0)).set 2 (.int .i64 0)
    have s2 := ((hi.o.other ⟨n + 1, 0, none⟩ (.int .i64 0) (by simp)).other ⟨n + 1, 1, none⟩ (.int .i64 0) (by simp)).other ⟨n + 1, 2, none⟩ (.int .i64 0) (by simp)
    have s3 := s1.other ⟨n + 2, 0, none⟩ (.bool false) (by simp)
    have s4 := s2.set 0 (.bool false)
    simp only [List.setIfInBounds_toArray, List.set_cons_zero, List.set_cons_succ] at s3 s4
    have bb := (((setCell_below (N := n) X ⟨n + 1, 0, none⟩ (.int .i64 0) (by simp)).trans (setCell_below _ ⟨n + 1, 1, none⟩ (.int .i64 0) (by simp))).trans (setCell_below _ ⟨n + 1, 2, none⟩ (.int .i64 0) (by simp))).trans (setCell_below _ ⟨n + 2, 0, none⟩ (.bool false) (by simp))
    have hKD : ∀ (A : World) (p : Addr) (v : Value), p.block < n + 3 → (A.setCell p v).heap[D]? = A.heap[D]? := fun A p v hp => Below.heap_setCell A p v D (by omega)
    have hK4 : ((((X.setCell ⟨n + 1, 0, none⟩ (.int .i64 0)).setCell ⟨n + 1, 1, none⟩ (.int .i64 0)).setCell ⟨n + 1, 2, none⟩ (.int .i64 0)).setCell ⟨n + 2, 0, none⟩ (.bool false)).heap[D]? = some (.deferred (some [])) := by
      rw [hKD _ _ _ (by simp), hKD _ _ _ (by simp), hKD _ _ _ (by simp), hKD _ _ _ (by simp)]
      exact hK
    refine ⟨by simp, .inl ⟨_, _, rfl, run_takeDeferred hK4, ?_⟩⟩
    have hbp := below_putl (N := n + 3) ((((X.setCell ⟨n + 1, 0, none⟩ (.int .i64 0)).setCell ⟨n + 1, 1, none⟩ (.int .i64 0)).setCell ⟨n + 1, 2, none⟩ (.int .i64 0)).setCell ⟨n + 2, 0, none⟩ (.bool false)) D (.deferred none) (by omega)
    refine ⟨_, resN (e := Go.Proofs.YtkdnanlgkedjgabDoor.z4) _ rfl rfl (s3.below hbp (by omega)) (s4.below hbp (by omega)), by rw [unhide HNN]; rfl, hn ▸ ((hi.b.trans bb).trans (hbp.mono (by omega)))⟩
  case stop =>
    rintro D c pre X hD hpre h hK
    obtain ⟨rfl, ⟨x, h1, h2⟩, h3, h4⟩ := h
    gi_wp2
    refine ⟨by simp, .inl ⟨_, _, rfl, run_takeDeferred hK, ?_⟩⟩
    have hbp := below_putl (N := n + 3) X D (.deferred none) (by omega)
    refine ⟨_, resN (e := x) _ rfl rfl (h2.below hbp (by omega)) (h3.below hbp (by omega)), by rw [h1]; rfl, hn ▸ (h4.trans (hbp.mono (by omega)))⟩

end Go.Proofs.YtkdnanlgkedjgabDoor
end

section
namespace Go.Proofs.YtkdnanlgkedjgabDoor
open Go.ChangeShapes Go.WideShapes Go.ChangeAt Go.RowKit
attribute [local go_sem] Oper.semAt_some

def onlyN (Q : Exit → Act → World → Prop) : Exit → Act → World → Prop
  | .normal, a, w => Q .normal a w
  | _, _, _ => False
theorem wp_onlyN {P : Program} {c : Code} {Q : Exit → Act → World → Prop} {a : Act} {w : World} (h : c.wp P (onlyN Q) a w) : c.wp P Q a w :=
  wp_mono h (fun e a w h => by cases e <;> first | exact h | exact h.elim)

def laL (pre : List Ln) : Ln := pre.getLast?.getD z4
theorem laL_snoc (pre : List Ln) (x : Ln) : laL (pre ++ [x]) = x := by simp [laL]
/-- what holder's loop keeps -/
structure HdI (w : World) (n p : Nat) (pre : List Ln) (X : World) : Prop where
  hp : Cls X n 3 #[.int .i64 (p : Int)]
  k : Cls X (n + 1) 3 #[.int .i64 ((laL pre).1 : Int)]
  s : Cls X (n + 2) 3 #[.int .i64 ((laL pre).2.1 : Int)]
  le : ∀ e ∈ pre, e.2.1 ≤ p
  b : Below n w X
theorem HdI.abd {w : World} {n N m p : Nat} (hN : n + 3 ≤ N) : AbdC N m (HdI w n p) := fun _ _ _ h hb => ⟨h.hp.below hb.1 (by omega), h.k.below hb.1 (by omega), h.s.below hb.1 (by omega), h.le, h.b.trans (hb.1.mono (by omega))⟩
structure HdX (l : List Int) (w : World) (n p : Nat) (c : Code) (pre : List Ln) (X : World) : Prop where
  c : c = Code.exit 0
  k : Cls X (n + 1) 3 #[.int .i64 ((lnOf l p).1 : Int)]
  s : Cls X (n + 2) 3 #[.int .i64 ((lnOf l p).2.1 : Int)]
  b : Below n w X
theorem HdX.abd {l : List Int} {w : World} {n N m p : Nat} (hN : n + 3 ≤ N) (c : Code) : AbdC N m (HdX l w n p c) := fun _ _ _ h hb => ⟨h.c, h.k.below hb.1 (by omega), h.s.below hb.1 (by omega), h.b.trans (hb.1.mono (by omega))⟩
end Go.Proofs.YtkdnanlgkedjgabDoor
end
