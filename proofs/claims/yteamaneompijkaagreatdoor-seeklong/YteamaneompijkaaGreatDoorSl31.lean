/- Layer 7: contracts of lines' holder, size, known, last, Line. -/
import Derived.Test.YteamaneompijkaaGreatDoorSl30

namespace Go.Proofs.YteamaneompijkaaGreatDoor
open Go.ChangeShapes Go.WideShapes Go.ChangeAt Go.RowKit
attribute [local go_sem] Oper.semAt_some

def onlyN (Q : Exit → Act → World → Prop) : Exit → Act → World → Prop
  | .normal, a, w => Q .normal a w
  | _, _, _ => False
theorem wp_onlyN {P : Program} {c : Code} {Q : Exit → Act → World → Prop} {a : Act} {w : World} (h : c.wp P (onlyN Q) a w) : c.wp P Q a w :=
  wp_mono h (fun e a w h => by cases e <;> first | exact h | exact h.elim)

def laL (pre : List Ln) : Ln := pre.getLast?.getD z4
theorem laL_snoc (pre : List Ln) (x : Ln) : laL (pre ++ [x]) = x := by simp [laL]
/-- what holder's loop keeps -/
structure HdI (w : World) (n p : Nat) (pre : List Ln) (X : World) : Prop where
  hp : Cls X n 3 #[.int .i64 (p : Int)]
  k : Cls X (n + 1) 3 #[.int .i64 ((laL pre).1 : Int)]
  s : Cls X (n + 2) 3 #[.int .i64 ((laL pre).2.1 : Int)]
  le : ∀ e ∈ pre, e.2.1 ≤ p
  b : Below n w X
theorem HdI.abd {w : World} {n N m p : Nat} (hN : n + 3 ≤ N) : AbdC N m (HdI w n p) := fun _ _ _ h hb => ⟨h.hp.below hb.1 (by omega), h.k.below hb.1 (by omega), h.s.below hb.1 (by omega), h.le, h.b.trans (hb.1.mono (by omega))⟩
structure HdX (l : List Int) (w : World) (n p : Nat) (c : Code) (pre : List Ln) (X : World) : Prop where
  c : c = Code.exit 0
  k : Cls X (n + 1) 3 #[.int .i64 ((lnOf l p).1 : Int)]
  s : Cls X (n + 2) 3 #[.int .i64 ((lnOf l p).2.1 : Int)]
  b : Below n w X
theorem HdX.abd {l : List Int} {w : World} {n N m p : Nat} (hN : n + 3 ≤ N) (c : Code) : AbdC N m (HdX l w n p c) := fun _ _ _ h hb => ⟨h.c, h.k.below hb.1 (by omega), h.s.below hb.1 (by omega), h.b.trans (hb.1.mono (by omega))⟩
theorem resH {X : World} {a b : Nat} {t t' : TypeId} {x y : Int} (tmps : Array Value) (g4 : tmps[4]?.getD undef = .pointer (some ⟨a, 0, none⟩)) (g5 : tmps[5]?.getD undef = .pointer (some ⟨b, 0, none⟩))
    (h1 : Cls X a t #[.int .i64 x]) (h2 : Cls X b t' #[.int .i64 y]) : (results Tryz.f66 tmps).run Tryz.prog X = .ok (.tuple #[.int .i64 x, .int .i64 y]) X := by
  have p0 : X.cell? ⟨a, 0, none⟩ = some (.int .i64 x) := (h1.cell 0).trans rfl
  have o0 : X.cell? ⟨b, 0, none⟩ = some (.int .i64 y) := (h2.cell 0).trans rfl
  simp [results, Tryz.results66, go_sem, g4, g5, p0, o0]

set_option maxRecDepth 100000 in
set_option maxHeartbeats 4000000 in
theorem holder_at (a0 : Option Addr) (cap : Nat) (l : List Int) (p : Nat) (w : World) (hB : IsB w a0 cap l) :
    Calls Tryz.prog 66 #[.slice a0 l.length cap, .int .i64 (p : Int)] w fun y w' => y = .returned (.tuple #[.int .i64 ((lnOf l p).1 : Int), .int .i64 ((lnOf l p).2.1 : Int)]) ∧ Below w.heap.size w w' := by
  refine (callsIn_wide (n := 4)).1 ?_
  refine callsIn_of_wp_marks Tryz.func66 rfl trivial ?_ rfl
  simp only [Tryz.ntmps66, List.size_toArray, List.length_cons, List.length_nil, Nat.reduceAdd, Nat.reduceSub, Array.replicate_succ, Array.replicate_zero, List.push_toArray, List.append_toArray, List.nil_append, List.cons_append]
  refine wpIn_wide.2 ?_
  have k1 := Cls.new w 3 #[.int .i64 (p : Int)]
  have b1 := (Below.refl w.heap.size w).alloc (Nat.le_refl _) (.cells #[.int .i64 (p : Int)] 3)
  have z1 : (w.alloc (.cells #[.int .i64 (p : Int)] 3)).heap.size = w.heap.size + 1 := by simp
  have k2 := k1.alloc (.cells #[.int .i64 0] 3)
  have l2 := Cls.new (w.alloc (.cells #[.int .i64 (p : Int)] 3)) 3 #[.int .i64 0]
  have b2 := b1.alloc (o := .cells #[.int .i64 0] 3) b1.size
  have k3 := k2.alloc (.cells #[.int .i64 0] 3)
  have l3 := l2.alloc (.cells #[.int .i64 0] 3)
  have o3 := Cls.new ((w.alloc (.cells #[.int .i64 (p : Int)] 3)).alloc (.cells #[.int .i64 0] 3)) 3 #[.int .i64 0]
  have b3 := b2.alloc (o := .cells #[.int .i64 0] 3) b2.size
  have z2 : ((w.alloc (.cells #[.int .i64 (p : Int)] 3)).alloc (.cells #[.int .i64 0] 3)).heap.size = w.heap.size + 2 := by simp
  have z3 : (((w.alloc (.cells #[.int .i64 (p : Int)] 3)).alloc (.cells #[.int .i64 0] 3)).alloc (.cells #[.int .i64 0] 3)).heap.size = w.heap.size + 3 := by simp
  rw [z1] at l3
  rw [z2] at o3
  clear k1 b1 k2 l2 b2
  go_wp2_with fail
  clear z1 z2
  generalize ((w.alloc (.cells #[.int .i64 (p : Int)] 3)).alloc (.cells #[.int .i64 0] 3)).alloc (.cells #[.int .i64 0] 3) = w2 at *
  refine (allL_at a0 l.length cap w2).mono ?_
  rintro y w3' ⟨rfl, rfl⟩
  have hseq := lines_seq w w2 a0 cap l hB b3
  have i0 : HdI w w.heap.size p [] (w2.alloc (.cells #[.slice a0 l.length cap] 30)) := ⟨k3.alloc _, l3.alloc _, o3.alloc _, by simp, b3.alloc b3.size _⟩
  have z4' : (w2.alloc (.cells #[.slice a0 l.length cap] 30)).heap.size = w.heap.size + 4 := by simp [z3]
  clear k3 l3 o3 b3
  go_wp2_with fail
  generalize w2.alloc (.cells #[.slice a0 l.length cap] 30) = w3 at *
  generalize w2.heap.size = gB at *
  subst z3
  clear hB
  generalize hn : w.heap.size = n at *
  refine (wpIn_wide (n := 4)).1 ?_
  refine range_q (gf := 79) (lb := #[.pointer (some ⟨n + 3, 0, none⟩)]) rfl (enters_of Tryz.func79 (by kernel_rfl) rfl) hseq (Below.refl _ _) (fun k hk => by rcases hk with h | rfl <;> omega) (fun _ => rfl)
    (HdI w n p) (HdX l w n p) (HdI.abd (by omega)) (HdX.abd (by omega)) i0 (by decide)
    (fun x a X => ∃ Bx, Cls X Bx 140 #[.int .i64 (x.2.1 : Int), .int .i64 (x.2.2.1 : Int), .int .i64 (x.2.2.2 : Int)] ∧ n + 4 ≤ Bx ∧ a = { tmps := #[.slice a0 l.length cap, .int .i64 (p : Int), undef, .pointer (some ⟨n, 0, none⟩), .pointer (some ⟨n + 1, 0, none⟩), .pointer (some ⟨n + 2, 0, none⟩), .int .i64 (x.1 : Int), .pointer (some ⟨Bx, 0, none⟩), .slice a0 l.length cap, .func (.func 79) #[] #[.pointer (some ⟨n + 3, 0, none⟩)], .int .i64 (x.1 : Int), .agg #[.int .i64 (x.2.1 : Int), .int .i64 (x.2.2.1 : Int), .int .i64 (x.2.2.2 : Int)], undef, undef, undef, undef, undef, undef, undef, undef, undef], defers := [] }) ?hax ?assign ?body ?done ?stop
  case hax =>
    rintro x a' X k o o' hX ⟨Bx, hc, hlt, rfl⟩
    refine ⟨Bx, hc.same (World.putObj_heap_other ?_), hlt, rfl⟩
    rintro rfl
    rw [show X.heap[Bx]? = _ from hc] at hX
    cases hX
  case assign =>
    rintro k pre x X K hpre hi hsz hK
    unfold encL lnV
    gi_wp2
    exact hK _ _ ((Below.refl _ X).alloc (Nat.le_refl _) _) ⟨X.heap.size, Cls.new X _ _, by omega, rfl⟩
  case body =>
    rintro kk pre x a' X hk ⟨rec, hrec⟩ hpre hi ⟨Bx, hx, hlt, rfl⟩ hsz
    have cp := hi.hp.cell 0
    have x0 := hx.cell 0
    simp only [List.getElem?_toArray, List.getElem?_cons_zero] at cp x0
    have nq : ∀ j, j = n + 1 ∨ j = n + 2 → ¬ own (fun k => k < n ∨ k = n + 3) w3.heap.size (2 + 1) j := fun j hj h => by
      unfold own at h
      omega
    clear z4'
    have HPR := hide hpre
    clear hpre
    by_cases he : x.2.1 ≤ p
    · have q1 : decide ((x.2.1 : Int) > (p : Int)) = false := decide_eq_false (by omega)
      have q2 : decide ((p : Int) < (x.2.1 : Int)) = false := decide_eq_false (by omega)
      have q3 : decide (p < x.2.1) = false := decide_eq_false (by omega)
      have HE := hide he
      clear he
      gi_wp2_with fail
      have HS : Hid ((fun w' : World => w'.cell? ⟨Bx, 0, none⟩ = some (.int .i64 (x.2.1 : Int))) X.drew) := hide x0
      have hk0 : Cls X.drew (n + 1) _ _ := hi.k
      have hs0 : Cls X.drew (n + 2) _ _ := hi.s
      have hp0 : Cls X.drew n _ _ := hi.hp
      have hb0 : Below n w X.drew := hi.b.trans (ch_drew (N := n) (n := 0) X).1
      have hle := hi.le
      have kk0 : KQ (own (fun k => k < n ∨ k = n + 3) w3.heap.size (2 + 1)) X X.drew := KQ.refl _ X
      refine regionL_in (S := fun w' => w'.cell? ⟨Bx, 0, none⟩ = some (.int .i64 (x.2.1 : Int))) (fun i => i == 4) (by kernel_rfl) ?hd ?hq ?_
      case hd =>
        intro j o c h e
        have := Array.mem_of_getElem? h
        simp only [List.mem_toArray, List.mem_cons, List.not_mem_nil, or_false] at this
        rcases this with rfl | rfl | rfl | rfl | rfl <;> cases e
      case hq => rintro ⟨a, w, h⟩; exact h
      generalize X.drew = Y at *
      refine anyL_take (i := 0) (v := ?v0) rfl (by kernel_rfl) (by kernel_rfl) (by kernel_rfl) (by kernel_rfl) (fun _ _ _ h => h) (Or.inl ⟨by rfl, ?h0⟩) (unhide HS) ?_
      case h0 => (intro w hSw; (try dsimp only at hSw); go_simp) <;> with_reducible rfl
      simp only [Act.put, List.getElem_toArray, List.getElem_cons_zero, List.setIfInBounds_toArray, List.set_cons_zero, List.set_cons_succ]
      refine anyL_take (i := 1) (v := ?v1) rfl (by kernel_rfl) (by kernel_rfl) (by kernel_rfl) (by kernel_rfl) (fun _ _ _ h => h) (Or.inl ⟨by rfl, ?h1⟩) (unhide HS) ?_
      case h1 => (intro w hSw; (try dsimp only at hSw); go_simp) <;> with_reducible rfl
      simp only [Act.put, List.getElem_toArray, List.getElem_cons_zero, List.getElem_cons_succ, List.setIfInBounds_toArray, List.set_cons_zero, List.set_cons_succ]
      refine anyL_take (i := 2) (v := ?v2) rfl (by kernel_rfl) (by kernel_rfl) (by kernel_rfl) (by kernel_rfl) (fun _ _ _ h => h) (Or.inl ⟨by rfl, ?h2⟩) (unhide HS) ?_
      case h2 => (intro w hSw; (try dsimp only at hSw); go_simp) <;> with_reducible rfl
      simp only [Act.put, List.getElem_toArray, List.getElem_cons_zero, List.getElem_cons_succ, List.setIfInBounds_toArray, List.set_cons_zero, List.set_cons_succ]
      have ck := hk0.cell 0
      have fk := hk0.frozen 0
      simp only [List.getElem?_toArray, List.getElem?_cons_zero] at ck
      refine anyL_ready (rs := [3]) (by kernel_rfl) (by simp) ?_
      refine AllL.cons rfl (fun K hK => ?_) AllL.nil
      go_simp
      refine unhide hK _ _ (fun _ => (World.cell?_of_block (a := ⟨Bx, 0, none⟩) (Below.heap_setCell Y ⟨n + 1, 0, none⟩ (.int .i64 (x.1 : Int)) Bx (by show Bx ≠ n + 1; omega))).trans (unhide HS)) ?_
      have HS := hide ((World.cell?_of_block (a := ⟨Bx, 0, none⟩) (Below.heap_setCell Y ⟨n + 1, 0, none⟩ (.int .i64 (x.1 : Int)) Bx (by show Bx ≠ n + 1; omega))).trans (unhide HS))
      clear hK K
      have k1 := hk0.set 0 (.int .i64 (x.1 : Int))
      have s1 := hs0.other ⟨n + 1, 0, none⟩ (.int .i64 (x.1 : Int)) (by simp)
      have h1 := hp0.other ⟨n + 1, 0, none⟩ (.int .i64 (x.1 : Int)) (by simp)
      have b1 := hb0.trans (setCell_below (N := n) Y ⟨n + 1, 0, none⟩ (.int .i64 (x.1 : Int)) (by simp))
      have kk1 := kk0.trans (KQ.setCell Y ⟨n + 1, 0, none⟩ (.int .i64 (x.1 : Int)) (nq _ (Or.inl rfl)))
      simp only [List.setIfInBounds_toArray, List.set_cons_zero] at k1
      clear ck fk hk0 hs0 hp0 hb0 kk0 HS
      generalize Y.setCell ⟨n + 1, 0, none⟩ (.int .i64 (x.1 : Int)) = Y1 at *
      have ck := s1.cell 0
      have fk := s1.frozen 0
      simp only [List.getElem?_toArray, List.getElem?_cons_zero] at ck
      refine anyL_ready (rs := [4]) (by kernel_rfl) (by simp) ?_
      refine AllL.cons rfl (fun K hK => ?_) AllL.nil
      go_simp
      refine unhide hK _ _ (fun h => absurd h (by decide)) ?_
      clear hK K
      refine anyL_done (by kernel_rfl) ?_ _
      have s2 := s1.set 0 (.int .i64 (x.2.1 : Int))
      have k2 := k1.other ⟨n + 2, 0, none⟩ (.int .i64 (x.2.1 : Int)) (by simp)
      have h2 := h1.other ⟨n + 2, 0, none⟩ (.int .i64 (x.2.1 : Int)) (by simp)
      have b2 := b1.trans (setCell_below (N := n) Y1 ⟨n + 2, 0, none⟩ (.int .i64 (x.2.1 : Int)) (by simp))
      have kk2 := kk1.trans (KQ.setCell Y1 ⟨n + 2, 0, none⟩ (.int .i64 (x.2.1 : Int)) (nq _ (Or.inr rfl)))
      simp only [List.setIfInBounds_toArray, List.set_cons_zero] at s2
      generalize Y1.setCell ⟨n + 2, 0, none⟩ (.int .i64 (x.2.1 : Int)) = Y2 at *
      clear ck fk
      gi_wp2_with fail
      refine ⟨kk2, h2, by rw [laL_snoc]; exact k2, by rw [laL_snoc]; exact s2, ?_, b2⟩
      intro e hm
      rcases List.mem_append.1 hm with h | h
      · exact hle e h
      · rw [List.mem_singleton.1 h]; exact unhide HE
    · have q1 : decide ((x.2.1 : Int) > (p : Int)) = true := decide_eq_true (by omega)
      have q2 : decide ((p : Int) < (x.2.1 : Int)) = true := decide_eq_true (by omega)
      have q3 : decide (p < x.2.1) = true := decide_eq_true (by omega)
      have HL : Hid (lnOf l p = laL pre) := hide (by
        obtain ⟨suf, hs⟩ := unhide HPR
        exact lnOf_stop (l := l) (p := p) (pre := pre) (x := x) (suf := suf) (by rw [← hs]; simp) hi.le he)
      clear he
      gi_wp2_with fail
      exact ⟨KQ.refl _ _, rfl, by rw [unhide HL]; exact hi.k, by rw [unhide HL]; exact hi.s, hi.b⟩
  case done =>
    rintro D X hD hi hK
    have HL : Hid (lnOf l p = laL (LN l)) := hide (lnOf_all hi.le)
    have hk := hi.k
    have hs := hi.s
    rw [← unhide HL] at hk hs
    have hb := hi.b
    clear hi HL
    go_wp2_with fail
    have HS : Hid ((fun w' : World => w'.cell? ⟨n + 1, 0, none⟩ = some (.int .i64 ((lnOf l p).1 : Int)) ∧ w'.cell? ⟨n + 2, 0, none⟩ = some (.int .i64 ((lnOf l p).2.1 : Int))) X.drew) := hide ⟨(hk.cell 0).trans rfl, (hs.cell 0).trans rfl⟩
    refine wp_onlyN ?_
    refine regionL (S := fun w' => w'.cell? ⟨n + 1, 0, none⟩ = some (.int .i64 ((lnOf l p).1 : Int)) ∧ w'.cell? ⟨n + 2, 0, none⟩ = some (.int .i64 ((lnOf l p).2.1 : Int))) (fun i => i == 3) (by kernel_rfl) ?_
    have hk : Cls X.drew _ _ _ := hk
    have hs : Cls X.drew _ _ _ := hs
    have hK : X.drew.heap[D]? = _ := hK
    have hb : Below n w X.drew := hb.trans (ch_drew (N := n) (n := 0) X).1
    generalize X.drew = Y at *
    refine anyL_take (i := 0) (v := ?vd0) rfl (by kernel_rfl) (by kernel_rfl) (by kernel_rfl) (by kernel_rfl) (fun _ _ _ h => h) (Or.inl ⟨by rfl, ?hd0⟩) (unhide HS) ?_
    case hd0 => (intro w hSw; (try dsimp only at hSw); go_simp) <;> with_reducible rfl
    simp only [Act.put, List.getElem_toArray, List.getElem_cons_zero, List.setIfInBounds_toArray, List.set_cons_zero, List.set_cons_succ]
    refine anyL_take (i := 1) (v := ?vd1) rfl (by kernel_rfl) (by kernel_rfl) (by kernel_rfl) (by kernel_rfl) (fun _ _ _ h => h) (Or.inl ⟨by rfl, ?hd1⟩) (unhide HS) ?_
    case hd1 => (intro w hSw; (try dsimp only at hSw); go_simp) <;> with_reducible rfl
    simp only [Act.put, List.getElem_toArray, List.getElem_cons_zero, List.getElem_cons_succ, List.setIfInBounds_toArray, List.set_cons_zero, List.set_cons_succ]
    have ck := hk.cell 0
    have fk := hk.frozen 0
    simp only [List.getElem?_toArray, List.getElem?_cons_zero] at ck
    refine anyL_ready (rs := [2]) (by kernel_rfl) (by simp) ?_
    refine AllL.cons rfl (fun K hK => ?_) AllL.nil
    go_simp
    have k1 := hk.set 0 (.int .i64 ((lnOf l p).1 : Int))
    have s1 := hs.other ⟨n + 1, 0, none⟩ (.int .i64 ((lnOf l p).1 : Int)) (by simp)
    refine unhide hK _ _ (fun _ => ⟨(k1.cell 0).trans rfl, (s1.cell 0).trans rfl⟩) ?_
    clear hK K
    have b1 := hb.trans (setCell_below (N := n) Y ⟨n + 1, 0, none⟩ (.int .i64 ((lnOf l p).1 : Int)) (by simp))
    have hK1 : (Y.setCell ⟨n + 1, 0, none⟩ (.int .i64 ((lnOf l p).1 : Int))).heap[D]? = some (.deferred (some [])) := (Below.heap_setCell Y ⟨n + 1, 0, none⟩ _ D (by show D ≠ n + 1; omega)).trans hK
    simp only [List.setIfInBounds_toArray, List.set_cons_zero] at k1
    clear ck fk hK hk hs hb HS
    generalize Y.setCell ⟨n + 1, 0, none⟩ (.int .i64 ((lnOf l p).1 : Int)) = Y1 at *
    have ck := s1.cell 0
    have fk := s1.frozen 0
    simp only [List.getElem?_toArray, List.getElem?_cons_zero] at ck
    refine anyL_ready (rs := [3]) (by kernel_rfl) (by simp) ?_
    refine AllL.cons rfl (fun K hK => ?_) AllL.nil
    go_simp
    refine unhide hK _ _ (fun h => absurd h (by decide)) ?_
    clear hK K
    refine anyL_done (by kernel_rfl) ?_ _
    have s2 := s1.set 0 (.int .i64 ((lnOf l p).2.1 : Int))
    have k2 := k1.other ⟨n + 2, 0, none⟩ (.int .i64 ((lnOf l p).2.1 : Int)) (by simp)
    have b2 := b1.trans (setCell_below (N := n) Y1 ⟨n + 2, 0, none⟩ (.int .i64 ((lnOf l p).2.1 : Int)) (by simp))
    have hK2 : (Y1.setCell ⟨n + 2, 0, none⟩ (.int .i64 ((lnOf l p).2.1 : Int))).heap[D]? = some (.deferred (some [])) := (Below.heap_setCell Y1 ⟨n + 2, 0, none⟩ _ D (by show D ≠ n + 2; omega)).trans hK1
    simp only [List.setIfInBounds_toArray, List.set_cons_zero] at s2
    generalize Y1.setCell ⟨n + 2, 0, none⟩ (.int .i64 ((lnOf l p).2.1 : Int)) = Y2 at *
    clear ck fk
    simp only [onlyN, Exit.then]
    go_at_K
    go_wp2_with fail
    refine ⟨by simp, .inl ⟨_, _, rfl, run_takeDeferred hK2, ?_⟩⟩
    have hbp := below_putl (N := n + 3) Y2 D (.deferred none) (by omega)
    refine ⟨_, resH _ rfl rfl (k2.below hbp (by omega)) (s2.below hbp (by omega)), rfl, hn ▸ (b2.trans (hbp.mono (by omega)))⟩
  case stop =>
    rintro D c pre X hD hpre ⟨rfl, hk, hs, hb⟩ hK
    refine wpIn_wide.2 ?_
    go_wp2_with fail
    have HS : Hid ((fun w' : World => w'.cell? ⟨n + 1, 0, none⟩ = some (.int .i64 ((lnOf l p).1 : Int)) ∧ w'.cell? ⟨n + 2, 0, none⟩ = some (.int .i64 ((lnOf l p).2.1 : Int))) X.drew) := hide ⟨(hk.cell 0).trans rfl, (hs.cell 0).trans rfl⟩
    refine wp_onlyN ?_
    refine regionL (S := fun w' => w'.cell? ⟨n + 1, 0, none⟩ = some (.int .i64 ((lnOf l p).1 : Int)) ∧ w'.cell? ⟨n + 2, 0, none⟩ = some (.int .i64 ((lnOf l p).2.1 : Int))) (fun i => i == 3) (by kernel_rfl) ?_
    have hk : Cls X.drew _ _ _ := hk
    have hs : Cls X.drew _ _ _ := hs
    have hK : X.drew.heap[D]? = _ := hK
    have hb : Below n w X.drew := hb.trans (ch_drew (N := n) (n := 0) X).1
    generalize X.drew = Y at *
    refine anyL_take (i := 0) (v := ?vs0) rfl (by kernel_rfl) (by kernel_rfl) (by kernel_rfl) (by kernel_rfl) (fun _ _ _ h => h) (Or.inl ⟨by rfl, ?hs0⟩) (unhide HS) ?_
    case hs0 => (intro w hSw; (try dsimp only at hSw); go_simp) <;> with_reducible rfl
    simp only [Act.put, List.getElem_toArray, List.getElem_cons_zero, List.setIfInBounds_toArray, List.set_cons_zero, List.set_cons_succ]
    refine anyL_take (i := 1) (v := ?vs1) rfl (by kernel_rfl) (by kernel_rfl) (by kernel_rfl) (by kernel_rfl) (fun _ _ _ h => h) (Or.inl ⟨by rfl, ?hs1⟩) (unhide HS) ?_
    case hs1 => (intro w hSw; (try dsimp only at hSw); go_simp) <;> with_reducible rfl
    simp only [Act.put, List.getElem_toArray, List.getElem_cons_zero, List.getElem_cons_succ, List.setIfInBounds_toArray, List.set_cons_zero, List.set_cons_succ]
    have ck := hk.cell 0
    have fk := hk.frozen 0
    simp only [List.getElem?_toArray, List.getElem?_cons_zero] at ck
    refine anyL_ready (rs := [2]) (by kernel_rfl) (by simp) ?_
    refine AllL.cons rfl (fun K hK => ?_) AllL.nil
    go_simp
    have k1 := hk.set 0 (.int .i64 ((lnOf l p).1 : Int))
    have s1 := hs.other ⟨n + 1, 0, none⟩ (.int .i64 ((lnOf l p).1 : Int)) (by simp)
    refine unhide hK _ _ (fun _ => ⟨(k1.cell 0).trans rfl, (s1.cell 0).trans rfl⟩) ?_
    clear hK K
    have b1 := hb.trans (setCell_below (N := n) Y ⟨n + 1, 0, none⟩ (.int .i64 ((lnOf l p).1 : Int)) (by simp))
    have hK1 : (Y.setCell ⟨n + 1, 0, none⟩ (.int .i64 ((lnOf l p).1 : Int))).heap[D]? = some (.deferred (some [])) := (Below.heap_setCell Y ⟨n + 1, 0, none⟩ _ D (by show D ≠ n + 1; omega)).trans hK
    simp only [List.setIfInBounds_toArray, List.set_cons_zero] at k1
    clear ck fk hK hk hs hb HS
    generalize Y.setCell ⟨n + 1, 0, none⟩ (.int .i64 ((lnOf l p).1 : Int)) = Y1 at *
    have ck := s1.cell 0
    have fk := s1.frozen 0
    simp only [List.getElem?_toArray, List.getElem?_cons_zero] at ck
    refine anyL_ready (rs := [3]) (by kernel_rfl) (by simp) ?_
    refine AllL.cons rfl (fun K hK => ?_) AllL.nil
    go_simp
    refine unhide hK _ _ (fun h => absurd h (by decide)) ?_
    clear hK K
    refine anyL_done (by kernel_rfl) ?_ _
    have s2 := s1.set 0 (.int .i64 ((lnOf l p).2.1 : Int))
    have k2 := k1.other ⟨n + 2, 0, none⟩ (.int .i64 ((lnOf l p).2.1 : Int)) (by simp)
    have b2 := b1.trans (setCell_below (N := n) Y1 ⟨n + 2, 0, none⟩ (.int .i64 ((lnOf l p).2.1 : Int)) (by simp))
    have hK2 : (Y1.setCell ⟨n + 2, 0, none⟩ (.int .i64 ((lnOf l p).2.1 : Int))).heap[D]? = some (.deferred (some [])) := (Below.heap_setCell Y1 ⟨n + 2, 0, none⟩ _ D (by show D ≠ n + 2; omega)).trans hK1
    simp only [List.setIfInBounds_toArray, List.set_cons_zero] at s2
    generalize Y1.setCell ⟨n + 2, 0, none⟩ (.int .i64 ((lnOf l p).2.1 : Int)) = Y2 at *
    clear ck fk
    simp only [onlyN, Exit.then]
    go_at_K
    go_wp2_with fail
    refine ⟨by simp, .inl ⟨_, _, rfl, run_takeDeferred hK2, ?_⟩⟩
    have hbp := below_putl (N := n + 3) Y2 D (.deferred none) (by omega)
    refine ⟨_, resH _ rfl rfl (k2.below hbp (by omega)) (s2.below hbp (by omega)), rfl, hn ▸ (b2.trans (hbp.mono (by omega)))⟩

end Go.Proofs.YteamaneompijkaaGreatDoor
