/- Layer 7: contracts of lines' Count, number, holder, size, known, last, Line. · Layer 7: contracts of lines' size, known, last, Line, Spot. · Layer 7: the contract of lines' Where. · Layer 7: the contract of lines' Starts. · Layer 7: the law's own, Large and awake: true wherever the table holds the classes (LiesI .. SameI_some taken from Rwk: not beside it). -/
import Derived.Test.YteamaneompijkaaGreatDoorSa17
import Derived.Deep.AppendSrc
import Derived.Deep.AppendLies
import Derived.OwnWalkIn
import Derived.Lib.SlBytesConst
namespace Go.Proofs.YteamaneompijkaaGreatDoor
open Go.ChangeShapes Go.WideShapes Go.ChangeAt Go.RowKit
set_option maxRecDepth 100000
set_option maxHeartbeats 8000000
section
attribute [local go_sem] Oper.semAt_some
theorem lines_seq (w w2 : World) (a0 : Option Addr) (cap : Nat) (l : List Int) (hB : IsB w a0 cap l) (hb : Below w.heap.size w w2) :
    SeqQ Tryz.prog 79 #[.pointer (some ⟨w2.heap.size, 0, none⟩)] encL (fun k => k < w.heap.size ∨ k = w2.heap.size) 1 (LN l) (w2.alloc (.cells #[.slice a0 l.length cap] 30)) := by
  have hb2 := hb.alloc (o := .cells #[.slice a0 l.length cap] 30) hb.size
  refine all1_L w2.heap.size _ a0 cap l _ ((World.cell?_alloc_mark w2 _ _ (0, 0) 0).trans rfl) (hB.below hb2 (Nat.le_refl _)) (Or.inr rfl) ?_
  rintro g off hl rfl
  rcases hB.2.2.1 with h | ⟨g', off', e, hL⟩
  · exact absurd h hl
  · cases e
    exact Or.inl (cell_lt (hL 0 (List.length_pos_iff.2 hl)).1)
structure NmI (w : World) (n : Nat) (k : Int) (pre : List Ln) (X : World) : Prop where
  hk : Cls X n 3 #[.int .i64 k]
  l : Cls X (n + 1) 140 #[.int .i64 0, .int .i64 0, .int .i64 0]
  o : Cls X (n + 2) 4 #[.bool false]
  no : ¬ (0 ≤ k ∧ k < (pre.length : Int))
  b : Below n w X
theorem NmI.abd {w : World} {n N m : Nat} {k : Int} (hN : n + 3 ≤ N) : AbdC N m (NmI w n k) := fun _ _ _ h hb => ⟨h.hk.below hb.1 (by omega), h.l.below hb.1 (by omega), h.o.below hb.1 (by omega), h.no, h.b.trans (hb.1.mono (by omega))⟩
structure NmX (l : List Int) (w : World) (n : Nat) (k : Int) (c : Code) (pre : List Ln) (X : World) : Prop where
  c : c = Code.ret
  a : ∃ x, nbr l k = some x ∧ Cls X (n + 1) 140 #[.int .i64 (x.2.1 : Int), .int .i64 (x.2.2.1 : Int), .int .i64 (x.2.2.2 : Int)]
  o : Cls X (n + 2) 4 #[.bool true]
  b : Below n w X
theorem NmX.abd {l : List Int} {w : World} {n N m : Nat} {k : Int} (hN : n + 3 ≤ N) (c : Code) : AbdC N m (NmX l w n k c) := fun _ _ _ h hb => by
  obtain ⟨x, h1, h2⟩ := h.a
  exact ⟨h.c, ⟨x, h1, h2.below hb.1 (by omega)⟩, h.o.below hb.1 (by omega), h.b.trans (hb.1.mono (by omega))⟩
def nbV (o : Option Ln) : Value := match o with | some e => .tuple #[lnV e, .bool true] | none => .tuple #[lnV z4, .bool false]
theorem resN {X : World} {a b : Nat} {t t' : TypeId} {e : Ln} {k : Bool} (tmps : Array Value) (g4 : tmps[4]?.getD undef = .pointer (some ⟨a, 0, none⟩)) (g5 : tmps[5]?.getD undef = .pointer (some ⟨b, 0, none⟩))
    (h1 : Cls X a t #[.int .i64 (e.2.1 : Int), .int .i64 (e.2.2.1 : Int), .int .i64 (e.2.2.2 : Int)]) (h2 : Cls X b t' #[.bool k]) : (results Tryz.f74 tmps).run Tryz.prog X = .ok (.tuple #[lnV e, .bool k]) X := by
  have p0 : X.cell? ⟨a, 0, none⟩ = some (.int .i64 (e.2.1 : Int)) := (h1.cell 0).trans rfl
  have p1 : X.cell? ⟨a, 1, none⟩ = some (.int .i64 (e.2.2.1 : Int)) := (h1.cell 1).trans rfl
  have p2 : X.cell? ⟨a, 2, none⟩ = some (.int .i64 (e.2.2.2 : Int)) := (h1.cell 2).trans rfl
  have o0 : X.cell? ⟨b, 0, none⟩ = some (.bool k) := (h2.cell 0).trans rfl
  simp [results, Tryz.results74, go_sem, g4, g5, p0, p1, p2, o0, lnV]
theorem number_at (a0 : Option Addr) (cap : Nat) (l : List Int) (k : Int) (w : World) (hB : IsB w a0 cap l) :
    Calls Tryz.prog 74 #[.slice a0 l.length cap, .int .i64 k] w fun y w' => y = .returned (nbV (nbr l k)) ∧ Below w.heap.size w w' := by
  refine (callsIn_wide (n := 4)).1 ?_
  refine callsIn_of_wp_marks Tryz.func74 rfl trivial ?_ rfl
  simp only [Tryz.ntmps74, List.size_toArray, List.length_cons, List.length_nil, Nat.reduceAdd, Nat.reduceSub, Array.replicate_succ, Array.replicate_zero, List.push_toArray, List.append_toArray, List.nil_append, List.cons_append]
  refine wpIn_wide.2 ?_
  have k1 := Cls.new w 3 #[.int .i64 k]
  have b1 := (Below.refl w.heap.size w).alloc (Nat.le_refl _) (.cells #[.int .i64 k] 3)
  have z1 : (w.alloc (.cells #[.int .i64 k] 3)).heap.size = w.heap.size + 1 := by simp
  have k2 := k1.alloc (.cells #[.int .i64 0, .int .i64 0, .int .i64 0] 140)
  have l2 := Cls.new (w.alloc (.cells #[.int .i64 k] 3)) 140 #[.int .i64 0, .int .i64 0, .int .i64 0]
  have b2 := b1.alloc (o := .cells #[.int .i64 0, .int .i64 0, .int .i64 0] 140) b1.size
  have k3 := k2.alloc (.cells #[.bool false] 4)
  have l3 := l2.alloc (.cells #[.bool false] 4)
  have o3 := Cls.new ((w.alloc (.cells #[.int .i64 k] 3)).alloc (.cells #[.int .i64 0, .int .i64 0, .int .i64 0] 140)) 4 #[.bool false]
  have b3 := b2.alloc (o := .cells #[.bool false] 4) b2.size
  have z2 : ((w.alloc (.cells #[.int .i64 k] 3)).alloc (.cells #[.int .i64 0, .int .i64 0, .int .i64 0] 140)).heap.size = w.heap.size + 2 := by simp
  have z3 : (((w.alloc (.cells #[.int .i64 k] 3)).alloc (.cells #[.int .i64 0, .int .i64 0, .int .i64 0] 140)).alloc (.cells #[.bool false] 4)).heap.size = w.heap.size + 3 := by simp
  rw [z1] at l3
  rw [z2] at o3
  clear k1 b1 k2 l2 b2
  go_wp2_with fail
  clear z1 z2
  generalize ((w.alloc (.cells #[.int .i64 k] 3)).alloc (.cells #[.int .i64 0, .int .i64 0, .int .i64 0] 140)).alloc (.cells #[.bool false] 4) = w2 at *
  refine (allL_at a0 l.length cap w2).mono ?_
  rintro y w3' ⟨rfl, rfl⟩
  have hseq := lines_seq w w2 a0 cap l hB b3
  have i0 : NmI w w.heap.size k [] (w2.alloc (.cells #[.slice a0 l.length cap] 30)) := ⟨k3.alloc _, l3.alloc _, o3.alloc _, by simp, b3.alloc b3.size _⟩
  have z4 : (w2.alloc (.cells #[.slice a0 l.length cap] 30)).heap.size = w.heap.size + 4 := by simp [z3]
  clear k3 l3 o3 b3
  go_wp2_with fail
  generalize w2.alloc (.cells #[.slice a0 l.length cap] 30) = w3 at *
  generalize w2.heap.size = gB at *
  subst z3
  clear hB
  generalize hn : w.heap.size = n at *
  refine (wpIn_wide (n := 4)).1 ?_
  refine range_q (gf := 79) (lb := #[.pointer (some ⟨n + 3, 0, none⟩)]) rfl (enters_of Tryz.func79 (by kernel_rfl) rfl) hseq (Below.refl _ _) (fun k hk => by rcases hk with h | rfl <;> omega) (fun _ => rfl)
    (NmI w n k) (NmX l w n k) (NmI.abd (by omega)) (NmX.abd (by omega)) i0 (by decide)
    (fun x a X => ∃ Bx, Cls X Bx 140 #[.int .i64 (x.2.1 : Int), .int .i64 (x.2.2.1 : Int), .int .i64 (x.2.2.2 : Int)] ∧ n + 4 ≤ Bx ∧ a = { tmps := #[.slice a0 l.length cap, .int .i64 k, undef, .pointer (some ⟨n, 0, none⟩), .pointer (some ⟨n + 1, 0, none⟩), .pointer (some ⟨n + 2, 0, none⟩), .int .i64 (x.1 : Int), .pointer (some ⟨Bx, 0, none⟩), .slice a0 l.length cap, .func (.func 79) #[] #[.pointer (some ⟨n + 3, 0, none⟩)], .int .i64 (x.1 : Int), .agg #[.int .i64 (x.2.1 : Int), .int .i64 (x.2.2.1 : Int), .int .i64 (x.2.2.2 : Int)], undef, undef, undef, undef, undef], defers := [] }) ?hax ?assign ?body ?done ?stop
  case hax =>
    rintro x a' X k o o' hX ⟨Bx, hc, hlt, rfl⟩
    refine ⟨Bx, hc.same (World.putObj_heap_other ?_), hlt, rfl⟩
    rintro rfl
    rw [show X.heap[Bx]? = _ from hc] at hX
    cases hX
  case assign =>
    rintro k pre x X K hpre hi hsz hK
    unfold encL lnV
    gi_wp2
    exact hK _ _ ((Below.refl _ X).alloc (Nat.le_refl _) _) ⟨X.heap.size, Cls.new X _ _, by omega, rfl⟩
  case body =>
    rintro kk pre x a' X hk ⟨rec, hrec⟩ hpre hi ⟨Bx, hx, hlt, rfl⟩ hsz
    obtain ⟨hp1, hp2, hp3⟩ := pre_num hpre
    have ck := hi.hk.cell 0
    have x0 := hx.cell 0
    have x1 := hx.cell 1
    have x2 := hx.cell 2
    have l0 := hi.l.frozen 0
    have l1 := hi.l.frozen 1
    have l2 := hi.l.frozen 2
    have m0 := hi.l.cell 0
    have m1 := hi.l.cell 1
    have m2 := hi.l.cell 2
    have o0 := hi.o.frozen 0
    have o1 := hi.o.cell 0
    simp only [List.getElem?_toArray, List.getElem?_cons_zero, List.getElem?_cons_succ] at ck x0 x1 x2 m0 m1 m2 o1
    by_cases he : (x.1 : Int) = k
    · have q1 : ((x.1 : Int) == k) = true := by simpa using he
      have HN : Hid (nbr l k = some x) := hide (by
        unfold nbr
        rw [if_pos ⟨by omega, by omega⟩, ← he, hp1, hp3]
        simp)
      clear he hp1 hp3
      gi_wp2
      have s1 := ((hi.l.set 0 (.int .i64 (x.2.1 : Int))).set 1 (.int .i64 (x.2.2.1 : Int))).set 2 (.int .i64 (x.2.2.2 : Int))
      have s2 := ((hi.o.other ⟨n + 1, 0, none⟩ (.int .i64 (x.2.1 : Int)) (by simp)).other ⟨n + 1, 1, none⟩ (.int .i64 (x.2.2.1 : Int)) (by simp)).other ⟨n + 1, 2, none⟩ (.int .i64 (x.2.2.2 : Int)) (by simp)
      have s3 := s1.other ⟨n + 2, 0, none⟩ (.bool true) (by simp)
      have s4 := s2.set 0 (.bool true)
      simp only [List.setIfInBounds_toArray, List.set_cons_zero, List.set_cons_succ] at s3 s4
      have bb := (((setCell_below (N := n) X ⟨n + 1, 0, none⟩ (.int .i64 (x.2.1 : Int)) (by simp)).trans (setCell_below _ ⟨n + 1, 1, none⟩ (.int .i64 (x.2.2.1 : Int)) (by simp))).trans (setCell_below _ ⟨n + 1, 2, none⟩ (.int .i64 (x.2.2.2 : Int)) (by simp))).trans (setCell_below _ ⟨n + 2, 0, none⟩ (.bool true) (by simp))
      have nq : ∀ j, j = n + 1 ∨ j = n + 2 → ¬ own (fun k => k < n ∨ k = n + 3) w3.heap.size (2 + 1) j := fun j hj h => by
        unfold own at h
        omega
      refine ⟨(((KQ.setCell X ⟨n + 1, 0, none⟩ _ (nq _ (Or.inl rfl))).trans (KQ.setCell _ ⟨n + 1, 1, none⟩ _ (nq _ (Or.inl rfl)))).trans (KQ.setCell _ ⟨n + 1, 2, none⟩ _ (nq _ (Or.inl rfl)))).trans (KQ.setCell _ ⟨n + 2, 0, none⟩ _ (nq _ (Or.inr rfl))), rfl, ⟨x, unhide HN, s3⟩, s4, hi.b.trans bb⟩
    · have q1 : ((x.1 : Int) == k) = false := by simpa using he
      have HNO : Hid (¬ (0 ≤ k ∧ k < ((pre ++ [x]).length : Int))) := hide (by have hno := hi.no; rw [List.length_append, List.length_singleton]; omega)
      clear he hp1 hp3
      gi_wp2
      exact ⟨KQ.refl _ _, hi.hk, hi.l, hi.o, unhide HNO, hi.b⟩
  case done =>
    rintro D X hD hi hK
    have l0 := hi.l.frozen 0
    have l1 := hi.l.frozen 1
    have l2 := hi.l.frozen 2
    have m0 := hi.l.cell 0
    have m1 := hi.l.cell 1
    have m2 := hi.l.cell 2
    have o0 := hi.o.frozen 0
    have o1 := hi.o.cell 0
    simp only [List.getElem?_toArray, List.getElem?_cons_zero, List.getElem?_cons_succ] at m0 m1 m2 o1
    have HNN : Hid (nbr l k = none) := hide (by unfold nbr; rw [if_neg hi.no])
    go_wp2_with fail
    have s1 := ((hi.l.set 0 (.int .i64 0)).set 1 (.int .i64 0)).set 2 (.int .i64 0)
    have s2 := ((hi.o.other ⟨n + 1, 0, none⟩ (.int .i64 0) (by simp)).other ⟨n + 1, 1, none⟩ (.int .i64 0) (by simp)).other ⟨n + 1, 2, none⟩ (.int .i64 0) (by simp)
    have s3 := s1.other ⟨n + 2, 0, none⟩ (.bool false) (by simp)
    have s4 := s2.set 0 (.bool false)
    simp only [List.setIfInBounds_toArray, List.set_cons_zero, List.set_cons_succ] at s3 s4
    have bb := (((setCell_below (N := n) X ⟨n + 1, 0, none⟩ (.int .i64 0) (by simp)).trans (setCell_below _ ⟨n + 1, 1, none⟩ (.int .i64 0) (by simp))).trans (setCell_below _ ⟨n + 1, 2, none⟩ (.int .i64 0) (by simp))).trans (setCell_below _ ⟨n + 2, 0, none⟩ (.bool false) (by simp))
    have hKD : ∀ (A : World) (p : Addr) (v : Value), p.block < n + 3 → (A.setCell p v).heap[D]? = A.heap[D]? := fun A p v hp => Below.heap_setCell A p v D (by omega)
    have hK4 : ((((X.setCell ⟨n + 1, 0, none⟩ (.int .i64 0)).setCell ⟨n + 1, 1, none⟩ (.int .i64 0)).setCell ⟨n + 1, 2, none⟩ (.int .i64 0)).setCell ⟨n + 2, 0, none⟩ (.bool false)).heap[D]? = some (.deferred (some [])) := by
      rw [hKD _ _ _ (by simp), hKD _ _ _ (by simp), hKD _ _ _ (by simp), hKD _ _ _ (by simp)]
      exact hK
    refine ⟨by simp, .inl ⟨_, _, rfl, run_takeDeferred hK4, ?_⟩⟩
    have hbp := below_putl (N := n + 3) ((((X.setCell ⟨n + 1, 0, none⟩ (.int .i64 0)).setCell ⟨n + 1, 1, none⟩ (.int .i64 0)).setCell ⟨n + 1, 2, none⟩ (.int .i64 0)).setCell ⟨n + 2, 0, none⟩ (.bool false)) D (.deferred none) (by omega)
    refine ⟨_, resN (e := Go.Proofs.YteamaneompijkaaGreatDoor.z4) _ rfl rfl (s3.below hbp (by omega)) (s4.below hbp (by omega)), by rw [unhide HNN]; rfl, hn ▸ ((hi.b.trans bb).trans (hbp.mono (by omega)))⟩
  case stop =>
    rintro D c pre X hD hpre h hK
    obtain ⟨rfl, ⟨x, h1, h2⟩, h3, h4⟩ := h
    gi_wp2
    refine ⟨by simp, .inl ⟨_, _, rfl, run_takeDeferred hK, ?_⟩⟩
    have hbp := below_putl (N := n + 3) X D (.deferred none) (by omega)
    refine ⟨_, resN (e := x) _ rfl rfl (h2.below hbp (by omega)) (h3.below hbp (by omega)), by rw [h1]; rfl, hn ▸ (h4.trans (hbp.mono (by omega)))⟩
end
section
attribute [local go_sem] Oper.semAt_some
def liV (o : Option Ln) : Value := match o with | some e => .tuple #[.int .i64 (e.2.1 : Int), .int .i64 (e.2.2.1 : Int), .int .i64 (e.2.2.2 : Int), .int .i64 0] | none => .tuple #[.int .i64 0, .int .i64 0, .int .i64 0, .int .i64 2]
theorem Line_at (a0 : Option Addr) (cap : Nat) (l : List Int) (k : Int) (w : World) (hB : IsB w a0 cap l) :
    Calls Tryz.prog 39 #[.slice a0 l.length cap, .int .i64 k] w fun y w' => y = .returned (liV (nbr l k)) ∧ Below w.heap.size w w' := by
  have k1 := number_at a0 cap l k w hB
  cases hn : nbr l k with
  | none =>
    rw [hn] at k1
    unfold nbV lnV at k1
    go_enter Tryz.func39, Tryz.ntmps39
    go_wp2_with fail
    refine k1.mono ?_
    rintro y w1 ⟨rfl, b1⟩
    go_wp2_with fail
    refine bodyPost_ret (v := .tuple #[.int .i64 0, .int .i64 0, .int .i64 0, .int .i64 2]) (by simp [results, Tryz.results39, go_sem]) rfl ?_
    exact ⟨rfl, b1.alloc b1.size _⟩
  | some e =>
    rw [hn] at k1
    unfold nbV lnV at k1
    have hnE := hide hn
    clear hn
    go_enter Tryz.func39, Tryz.ntmps39
    go_wp2_with fail
    refine k1.mono ?_
    rintro y w1 ⟨rfl, b1⟩
    have kL := Cls.new w1 140 #[.int .i64 (e.2.1 : Int), .int .i64 (e.2.2.1 : Int), .int .i64 (e.2.2.2 : Int)]
    have b2 := b1.alloc (o := .cells #[.int .i64 (e.2.1 : Int), .int .i64 (e.2.2.1 : Int), .int .i64 (e.2.2.2 : Int)] 140) b1.size
    go_wp2_with fail
    have HS : Hid ((fun w' : World => w'.cell? ⟨w1.heap.size, 0, none⟩ = some (.int .i64 (e.2.1 : Int)) ∧ w'.cell? ⟨w1.heap.size, 1, none⟩ = some (.int .i64 (e.2.2.1 : Int)) ∧ w'.cell? ⟨w1.heap.size, 2, none⟩ = some (.int .i64 (e.2.2.2 : Int))) (w1.alloc (.cells #[.int .i64 (e.2.1 : Int), .int .i64 (e.2.2.1 : Int), .int .i64 (e.2.2.2 : Int)] 140)).drew) := hide ⟨(kL.cell 0).trans rfl, (kL.cell 1).trans rfl, (kL.cell 2).trans rfl⟩
    refine regionL (S := fun w' => w'.cell? ⟨w1.heap.size, 0, none⟩ = some (.int .i64 (e.2.1 : Int)) ∧ w'.cell? ⟨w1.heap.size, 1, none⟩ = some (.int .i64 (e.2.2.1 : Int)) ∧ w'.cell? ⟨w1.heap.size, 2, none⟩ = some (.int .i64 (e.2.2.2 : Int))) (fun _ => false) (by kernel_rfl) ?_
    have b3 : Below w.heap.size w (w1.alloc (.cells #[.int .i64 (e.2.1 : Int), .int .i64 (e.2.2.1 : Int), .int .i64 (e.2.2.2 : Int)] 140)).drew := b2.trans (ch_drew (N := w.heap.size) (n := 0) _).1
    generalize (w1.alloc (.cells #[.int .i64 (e.2.1 : Int), .int .i64 (e.2.2.1 : Int), .int .i64 (e.2.2.2 : Int)] 140)).drew = w3 at *
    refine anyL_take (i := 0) (v := ?v0) rfl (by kernel_rfl) (by kernel_rfl) (by kernel_rfl) (by kernel_rfl) (fun _ _ _ h => h) (Or.inl ⟨by rfl, ?h0⟩) (unhide HS) ?_
    case h0 => (intro w hSw; (try dsimp only at hSw); go_simp) <;> with_reducible rfl
    simp only [Act.put, List.getElem_toArray, List.getElem_cons_zero, List.setIfInBounds_toArray, List.set_cons_zero, List.set_cons_succ]
    refine anyL_take (i := 1) (v := ?v1) rfl (by kernel_rfl) (by kernel_rfl) (by kernel_rfl) (by kernel_rfl) (fun _ _ _ h => h) (Or.inl ⟨by rfl, ?h1⟩) (unhide HS) ?_
    case h1 => (intro w hSw; (try dsimp only at hSw); go_simp) <;> with_reducible rfl
    simp only [Act.put, List.getElem_toArray, List.getElem_cons_zero, List.getElem_cons_succ, List.setIfInBounds_toArray, List.set_cons_zero, List.set_cons_succ]
    refine anyL_take (i := 2) (v := ?v2) rfl (by kernel_rfl) (by kernel_rfl) (by kernel_rfl) (by kernel_rfl) (fun _ _ _ h => h) (Or.inl ⟨by rfl, ?h2⟩) (unhide HS) ?_
    case h2 => (intro w hSw; (try dsimp only at hSw); go_simp) <;> with_reducible rfl
    simp only [Act.put, List.getElem_toArray, List.getElem_cons_zero, List.getElem_cons_succ, List.setIfInBounds_toArray, List.set_cons_zero, List.set_cons_succ]
    refine anyL_take (i := 3) (v := ?v3) rfl (by kernel_rfl) (by kernel_rfl) (by kernel_rfl) (by kernel_rfl) (fun _ _ _ h => h) (Or.inl ⟨by rfl, ?h3⟩) (unhide HS) ?_
    case h3 => (intro w hSw; (try dsimp only at hSw); go_simp) <;> with_reducible rfl
    simp only [Act.put, List.getElem_toArray, List.getElem_cons_zero, List.getElem_cons_succ, List.setIfInBounds_toArray, List.set_cons_zero, List.set_cons_succ]
    refine anyL_take (i := 4) (v := ?v4) rfl (by kernel_rfl) (by kernel_rfl) (by kernel_rfl) (by kernel_rfl) (fun _ _ _ h => h) (Or.inl ⟨by rfl, ?h4⟩) (unhide HS) ?_
    case h4 => (intro w hSw; (try dsimp only at hSw); go_simp) <;> with_reducible rfl
    simp only [Act.put, List.getElem_toArray, List.getElem_cons_zero, List.getElem_cons_succ, List.setIfInBounds_toArray, List.set_cons_zero, List.set_cons_succ]
    refine anyL_take (i := 5) (v := ?v5) rfl (by kernel_rfl) (by kernel_rfl) (by kernel_rfl) (by kernel_rfl) (fun _ _ _ h => h) (Or.inl ⟨by rfl, ?h5⟩) (unhide HS) ?_
    case h5 => (intro w hSw; (try dsimp only at hSw); go_simp) <;> with_reducible rfl
    simp only [Act.put, List.getElem_toArray, List.getElem_cons_zero, List.getElem_cons_succ, List.setIfInBounds_toArray, List.set_cons_zero, List.set_cons_succ]
    refine anyL_take (i := 6) (v := ?v6) rfl (by kernel_rfl) (by kernel_rfl) (by kernel_rfl) (by kernel_rfl) (fun _ _ _ h => h) (Or.inl ⟨by rfl, ?h6⟩) (unhide HS) ?_
    case h6 => (intro w hSw; (try dsimp only at hSw); go_simp) <;> with_reducible rfl
    simp only [Act.put, List.getElem_toArray, List.getElem_cons_zero, List.getElem_cons_succ, List.setIfInBounds_toArray, List.set_cons_zero, List.set_cons_succ]
    refine anyL_take (i := 7) (v := ?v7) rfl (by kernel_rfl) (by kernel_rfl) (by kernel_rfl) (by kernel_rfl) (fun _ _ _ h => h) (Or.inl ⟨by rfl, ?h7⟩) (unhide HS) ?_
    case h7 => (intro w hSw; (try dsimp only at hSw); go_simp) <;> with_reducible rfl
    simp only [Act.put, List.getElem_toArray, List.getElem_cons_zero, List.getElem_cons_succ, List.setIfInBounds_toArray, List.set_cons_zero, List.set_cons_succ]
    refine anyL_take (i := 8) (v := ?v8) rfl (by kernel_rfl) (by kernel_rfl) (by kernel_rfl) (by kernel_rfl) (fun _ _ _ h => h) (Or.inl ⟨by rfl, ?h8⟩) (unhide HS) ?_
    case h8 => (intro w hSw; (try dsimp only at hSw); go_simp) <;> with_reducible rfl
    simp only [Act.put, List.getElem_toArray, List.getElem_cons_zero, List.getElem_cons_succ, List.setIfInBounds_toArray, List.set_cons_zero, List.set_cons_succ]
    refine anyL_take (i := 9) (v := ?v9) rfl (by kernel_rfl) (by kernel_rfl) (by kernel_rfl) (by kernel_rfl) (fun _ _ _ h => h) (Or.inl ⟨by rfl, ?h9⟩) (unhide HS) ?_
    case h9 => (intro w hSw; (try dsimp only at hSw); go_simp) <;> with_reducible rfl
    simp only [Act.put, List.getElem_toArray, List.getElem_cons_zero, List.getElem_cons_succ, List.setIfInBounds_toArray, List.set_cons_zero, List.set_cons_succ]
    refine anyL_done (by kernel_rfl) ?_ _
    go_wp2_with fail
    refine bodyPost_ret (v := .tuple #[.int .i64 (e.2.1 : Int), .int .i64 (e.2.2.1 : Int), .int .i64 (e.2.2.2 : Int), .int .i64 0]) (by simp [results, Tryz.results39]) rfl ?_
    exact ⟨rfl, b3⟩
end
section
attribute [local go_sem] Oper.semAt_some
def whC (l : List Int) (p : Nat) : Array Value := #[.int .i64 (p : Int), .int .i64 (szE 2 (l.take p) : Int), .int .i64 (szE 3 (l.take p) : Int), .int .i64 ((lnOf l p).1 : Int), .int .i64 ((p - (lnOf l p).2.1 : Nat) : Int), .int .i64 (szE 2 (cutL l (lnOf l p).2.1 p) : Int), .int .i64 (szE 3 (cutL l (lnOf l p).2.1 p) : Int)]
def wh0 : Array Value := #[.int .i64 0, .int .i64 0, .int .i64 0, .int .i64 0, .int .i64 0, .int .i64 0, .int .i64 0]
def whV (l : List Int) (place : Int) : Value := if place < 0 ∨ (l.length : Int) < place then .tuple #[.agg wh0, .int .i64 2] else .tuple #[.agg (whC l (flr l place.toNat)), .int .i64 0]
theorem sets7 {N : Nat} (Y : World) (t : TypeId) (x0 x1 x2 x3 x4 x5 x6 : Value) (h : Cls Y N t wh0) :
    Cls (((((((Y.setCell ⟨N, 0, none⟩ x0).setCell ⟨N, 1, none⟩ x1).setCell ⟨N, 2, none⟩ x2).setCell ⟨N, 3, none⟩ x3).setCell ⟨N, 4, none⟩ x4).setCell ⟨N, 5, none⟩ x5).setCell ⟨N, 6, none⟩ x6) N t #[x0, x1, x2, x3, x4, x5, x6] ∧
    Below N Y (((((((Y.setCell ⟨N, 0, none⟩ x0).setCell ⟨N, 1, none⟩ x1).setCell ⟨N, 2, none⟩ x2).setCell ⟨N, 3, none⟩ x3).setCell ⟨N, 4, none⟩ x4).setCell ⟨N, 5, none⟩ x5).setCell ⟨N, 6, none⟩ x6) := by
  have h1 := ((((((h.set 0 x0).set 1 x1).set 2 x2).set 3 x3).set 4 x4).set 5 x5).set 6 x6
  unfold wh0 at h1
  simp only [List.setIfInBounds_toArray, List.set_cons_zero, List.set_cons_succ] at h1
  refine ⟨h1, ?_⟩
  exact ((((((setCell_below (N := N) Y ⟨N, 0, none⟩ x0 (Nat.le_refl _)).trans (setCell_below (N := N) _ ⟨N, 1, none⟩ x1 (Nat.le_refl _))).trans (setCell_below (N := N) _ ⟨N, 2, none⟩ x2 (Nat.le_refl _))).trans (setCell_below (N := N) _ ⟨N, 3, none⟩ x3 (Nat.le_refl _))).trans (setCell_below (N := N) _ ⟨N, 4, none⟩ x4 (Nat.le_refl _))).trans (setCell_below (N := N) _ ⟨N, 5, none⟩ x5 (Nat.le_refl _))).trans (setCell_below (N := N) _ ⟨N, 6, none⟩ x6 (Nat.le_refl _))
theorem cells7 {Y : World} {N : Nat} {t : TypeId} (h : Cls Y N t wh0) : ∀ i, i < 7 → Y.cell? ⟨N, i, none⟩ = some (.int .i64 0) := fun i hi => by
  rw [h.cell i]
  rcases i with _ | _ | _ | _ | _ | _ | _ | i
  all_goals first | rfl | omega
end
section
attribute [local go_sem] Oper.semAt_some
theorem info_intS : ∃ i, Tryz.prog.info? 3 = some i ∧ i.zero = some (.int .i64 0) ∧ i.size = 1 ∧ i.bytes = 8 := by
  refine ⟨_, rfl, ?_, ?_, ?_⟩ <;> rfl
theorem push_intS (W : World) (B n : Nat) (v : Value) (xs : List Value) (x : Int) (ty : TypeId) (h : W.ownsRow B 3 1 v n xs) (hn : n ≤ 4194304) (hB : B ≤ W.heap.size) :
    ∃ g c W', (Builtin.append_ #[41, 41] ty #[v, .slice (some ⟨W.heap.size, 0, none⟩) 1 1]).run Tryz.prog (W.alloc (.cells #[.int .i64 x] 3)) = .ok (.slice (some ⟨g, 0, none⟩) (n + 1) c) W' ∧
      W'.ownsRow B 3 1 (.slice (some ⟨g, 0, none⟩) (n + 1) c) (n + 1) (xs ++ [.int .i64 x]) ∧ Below B W W' := by
  obtain ⟨i, hi, hz, hs, hby⟩ := info_intS
  have hr := World.ownsRow.alloc h (.cells #[.int .i64 x] 3)
  obtain ⟨g, c, W', hrun, ho, hg, _, _⟩ := run_append_lies (P := Tryz.prog) (W.alloc (.cells #[.int .i64 x] 3)) 41 ty B 3 i (.int .i64 0) 1 8 Tryz.underlying41 hi hz hs hby rfl (by decide)
    v n xs hr ⟨W.heap.size, 0, none⟩ 1 1 [.int .i64 x] rfl
    (fun j u hj => by
      cases j with
      | zero => simp at hj; subst hj; rw [Addr.add_lit]; exact (World.cell?_alloc_mark W _ _ (0, 0) 0).trans rfl
      | succ j => simp at hj)
    (fun u hu => by simp at hu; subst hu; rfl) (by decide) (by unfold maxLen; omega) (by omega) (by simp; omega) _ rfl
  exact ⟨g, c, W', hrun, ho, ((Below.refl B W).alloc hB _).grown hg (by simp; omega) (fun k hk => (hr.lt k hk).1)⟩
end
section
def LiesI (w : World) (g : Nat) (ps : List Nat) : Prop := ∀ k, k < ps.length → w.cell? ⟨g, k, none⟩ = some (.int .i64 (ps.getD k 0 : Nat))
theorem LiesI.below {w w' : World} {B g : Nat} {ps : List Nat} (h : LiesI w g ps) (hb : Below B w w') (hg : g < B) : LiesI w' g ps := fun k hk => (hb.cell (p := ⟨g, k, none⟩) hg).trans (h k hk)
theorem rowI {W : World} {B : Nat} {v : Value} {ps : List Nat} (h : W.ownsRow B 3 1 v ps.length (ps.map fun (n : Nat) => Value.int .i64 (n : Int))) (h0 : ps ≠ []) : ∃ g c, v = .slice (some ⟨g, 0, none⟩) ps.length c ∧ LiesI W g ps ∧ g < W.heap.size := by
  have hc := h
  rcases h.2 with ⟨rfl, hz⟩ | ⟨g, cap, cur, rfl, _, hg, hle, _⟩
  · exact absurd (List.length_eq_zero_iff.1 hz) h0
  · refine ⟨g, cap, rfl, fun k hk => ?_, heap_lt hg⟩
    have := World.ownsRow.cells hc rfl k (.int .i64 (ps.getD k 0 : Nat)) (by simp [List.getElem?_eq_getElem hk, List.getD])
    rwa [Addr.add_lit, Nat.zero_add] at this
end
end Go.Proofs.YteamaneompijkaaGreatDoor
