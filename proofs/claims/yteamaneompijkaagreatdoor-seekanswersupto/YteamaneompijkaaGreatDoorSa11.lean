/- Layer 6: rule's edges: the iterator yields the edges in their order, by all three rulers. · Layer 6: contracts of rule's by, isRuler, isMode, Size, beside, find, To, Edge. -/
import Derived.Test.YteamaneompijkaaGreatDoorSa08
import Derived.Test.YteamaneompijkaaGreatDoorSa09
import Derived.Test.YteamaneompijkaaGreatDoorSa10
namespace Go.Proofs.YteamaneompijkaaGreatDoor
open Go.ChangeShapes Go.WideShapes Go.ChangeAt Go.RowKit
set_option maxRecDepth 100000
set_option maxHeartbeats 8000000
section
attribute [local go_sem] Oper.semAt_some
def edV (e : Ed) : Value := .agg #[.int .i64 (e.1 : Int), .int .i64 (e.2.1 : Int), .int .i64 (e.2.2 : Int)]
theorem edges_at (a0 : Option Addr) (len cap : Nat) (w : World) :
    Calls Tryz.prog 42 #[.slice a0 len cap] w fun e w' => e = .returned (.func (.func 76) #[] #[.pointer (some ⟨w.heap.size, 0, none⟩)]) ∧ w' = w.alloc (.cells #[.slice a0 len cap] 30) := by
  go_enter Tryz.func42, Tryz.ntmps42
  go_wp2
  go_ret
  exact ⟨rfl, rfl⟩
theorem IsB.kb {q : Nat → Prop} {N : Nat} {A B : World} {a0 : Option Addr} {cap : Nat} {l : List Int} (h : IsB A a0 cap l) (hk : KB q N A B) (hq : ∀ g off, l ≠ [] → a0 = some ⟨g, off, none⟩ → q g ∨ N ≤ g) : IsB B a0 cap l := by
  obtain ⟨h1, h2, h3, h4⟩ := h
  refine ⟨h1, h2, ?_, h4⟩
  rcases h3 with h3 | ⟨g, off, rfl, hL⟩
  · exact Or.inl h3
  · by_cases hl : l = []
    · exact Or.inl hl
    · exact Or.inr ⟨g, off, rfl, fun i hi => ⟨kb_cell hk (hq g off hl rfl) (hL i hi).1, (hL i hi).2⟩⟩
theorem wrap_in (n : Int) (h0 : -9223372036854775808 ≤ n) (h1 : n ≤ 9223372036854775807) : wrap64 n = n := by unfold wrap64; omega
theorem wrap_nat (a b : Nat) (h : a + b ≤ 9223372036854775807) : wrap64 ((a : Int) + (b : Int)) = (a : Int) + (b : Int) := wrap_in _ (by omega) (by omega)
theorem wrap_i (a b : Nat) (h : a + b ≤ 9223372036854775807) : IntKind.i64.wrap ((a : Int) + (b : Int)) = (a : Int) + (b : Int) := by rw [IntKind.wrap_i64]; omega
theorem ulen_nat (r : Int) : ((ulen r).toNat : Int) = ulen r := by
  unfold ulen
  split
  · split <;> rfl
  · rfl
structure EdI (lo gY : Nat) (l : List Int) (J : List Ed → World → Prop) (pre : List Nat) (Wx : World) : Prop where
  j : J (edL l pre) Wx
  y : Cls Wx gY 143 #[.func (.yield lo) #[] #[]]
  e : Cls Wx (gY + 1) 102 #[.int .i64 ((stE l pre).1 : Int), .int .i64 ((stE l pre).2.1 : Int), .int .i64 ((stE l pre).2.2 : Int)]
theorem EdI.abd {lo gY N : Nat} {l : List Int} {J : List Ed → World → Prop} (hJ : Abd gY J) (hN : gY + 2 ≤ N) : Abd N (EdI lo gY l J) := fun _ _ _ h hb =>
  ⟨hJ _ _ _ h.j (hb.mono (by omega)), h.y.below hb (by omega), h.e.below hb (by omega)⟩
def edA (lo gY Bn : Nat) (a0 : Option Addr) (cap : Nat) (l : List Int) (gS : Nat) (x : Nat) (a : Act) (X : World) : Prop :=
  ∃ Bx, Cls X Bx 82 #[.int .i32 (first (l.drop x)).1, .int .i64 (wid (l.drop x)), .bool (whl (l.drop x))] ∧ gS < Bx ∧
    a = { tmps := #[.func (.yield lo) #[] #[], .pointer (some ⟨Bn, 0, none⟩), .pointer (some ⟨gY, 0, none⟩), .pointer (some ⟨gY + 1, 0, none⟩), undef, .pointer (some ⟨Bx, 0, none⟩), .func (.yield lo) #[] #[], .agg #[.int .i64 0, .int .i64 0, .int .i64 0], .bool true, .bool false, .slice a0 l.length cap, .func (.func 105) #[] #[.pointer (some ⟨gS, 0, none⟩)], .int .i64 (x : Int), .agg #[.int .i32 (first (l.drop x)).1, .int .i64 (wid (l.drop x)), .bool (whl (l.drop x))], undef, undef, undef, undef, undef, undef, undef, undef, undef, undef, undef, undef, undef, undef, undef, undef, undef, undef, undef, undef, undef], defers := [] }
theorem edL_head (l : List Int) (ps : List Nat) : [e0] <+: edL l ps := by rw [← edL_nil l]; exact edL_pre (List.nil_prefix)
theorem edges1_B (Bn : Nat) (q : Nat → Prop) (a0 : Option Addr) (cap : Nat) (l : List Int) (w : World) (hBw : w.cell? ⟨Bn, 0, none⟩ = some (.slice a0 l.length cap)) (hIw : IsB w a0 cap l) (hTw : Tab w)
    (q0 : q 0) (qB : q Bn) (qb : ∀ g off, l ≠ [] → a0 = some ⟨g, off, none⟩ → q g) :
    SeqB Tryz.prog 76 #[.pointer (some ⟨Bn, 0, none⟩)] (fun e => #[edV e]) q (EE l) w := by
  intro lo J Jx W hW hJ hJx hY h0 m
  have hBn : W.cell? ⟨Bn, 0, none⟩ = some (.slice a0 l.length cap) := (hW.cell (p := ⟨Bn, 0, none⟩) (cell_lt hBw)).trans hBw
  have hT := hTw.below hW hTw.size
  have hI := hIw.below hW (Nat.le_refl _)
  clear hW hBw hTw hIw
  refine callsIn_wide.2 ((callsIn_wide (n := 4)).1 ?_)
  have hBq := cell_lt hBn
  have h0q := hT.size
  refine callsIn_of_wp_marks Tryz.func76 rfl trivial ?_ rfl
  simp only [Tryz.ntmps76, List.size_toArray, List.length_cons, List.length_nil, Nat.reduceAdd, Nat.reduceSub, Array.replicate_succ, Array.replicate_zero, List.push_toArray, List.append_toArray, List.nil_append, List.cons_append]
  have k1 : Cls ((W.alloc (.cells #[.func (.yield lo) #[] #[]] 143)).alloc (.cells #[.int .i64 0, .int .i64 0, .int .i64 0] 102)) W.heap.size 143 #[.func (.yield lo) #[] #[]] := (Cls.new W _ _).alloc _
  have k2 : Cls ((W.alloc (.cells #[.func (.yield lo) #[] #[]] 143)).alloc (.cells #[.int .i64 0, .int .i64 0, .int .i64 0] 102)) (W.heap.size + 1) 102 #[.int .i64 0, .int .i64 0, .int .i64 0] := by
    have := Cls.new (W.alloc (.cells #[.func (.yield lo) #[] #[]] 143)) 102 #[.int .i64 0, .int .i64 0, .int .i64 0]
    rwa [World.size_alloc] at this
  have b2 : Below W.heap.size W ((W.alloc (.cells #[.func (.yield lo) #[] #[]] 143)).alloc (.cells #[.int .i64 0, .int .i64 0, .int .i64 0] 102)) := ((Below.refl _ W).alloc (Nat.le_refl _) _).alloc (by simp) _
  have z2 : ((W.alloc (.cells #[.func (.yield lo) #[] #[]] 143)).alloc (.cells #[.int .i64 0, .int .i64 0, .int .i64 0] 102)).heap.size = W.heap.size + 2 := by simp
  obtain ⟨fn, tmps, assign, body, hy, hR⟩ := hY [] e0 _ 3 (edL_head l _) (hJ _ _ _ h0 b2) b2.size
  have c10 := k1.cell 0
  have c20 := k2.cell 0
  have c21 := k2.cell 1
  have c22 := k2.cell 2
  simp only [edV, e0, Int.natCast_zero] at hy
  simp only [List.getElem?_toArray, List.getElem?_cons_zero, List.getElem?_cons_succ] at c10 c20 c21 c22
  gi_wp2_with fail
  generalize hw2 : (W.alloc (.cells #[.func (.yield lo) #[] #[]] 143)).alloc (.cells #[.int .i64 0, .int .i64 0, .int .i64 0] 102) = W2 at *
  clear hy hw2
  refine hR.mono ?_
  rintro e W3 ⟨hk3, (⟨rfl, hJ3⟩ | ⟨rfl, hJx3⟩)⟩
  · have y3 := k1.kb hk3 (Or.inr (Nat.le_refl _))
    have e3 := k2.kb hk3 (Or.inr (Nat.le_add_right _ _))
    have hB3 := kb_cell hk3 (Or.inl qB) ((b2.cell (p := ⟨Bn, 0, none⟩) hBq).trans hBn)
    have hT3 := kb_tab hk3 q0 (hT.below b2 h0q)
    have hI3 := (hI.below b2 (Nat.le_refl _)).kb hk3 (fun g off h1 h2 => Or.inl (qb g off h1 h2))
    have s3 := hk3.1
    rw [z2] at s3
    clear hR hk3 b2 k1 k2 c10 c20 c21 c22 z2 hBn hT hI h0
    gi_wp2_with fail
    refine ⟨trivial, ?_⟩
    refine (callsIn_wide.2 (All_at a0 cap l W3 hI3)).mono ?_
    rintro e W4' ⟨rfl, rfl⟩
    have i4 : EdI lo W.heap.size l J [] (W3.alloc (.cells #[.string (strOfNums l)] 9)) := ⟨hJ _ _ _ hJ3 ((Below.refl _ W3).alloc (by omega) _), y3.alloc _, e3.alloc _⟩
    have d4 := (Below.refl W3.heap.size W3).alloc (Nat.le_refl _) (.cells #[.string (strOfNums l)] 9)
    have c4 : (W3.alloc (.cells #[.string (strOfNums l)] 9)).cell? ⟨W3.heap.size, 0, none⟩ = some (.string (strOfNums l)) := (World.cell?_alloc_mark W3 _ _ (0, 0) 0).trans rfl
    have z4 : (W3.alloc (.cells #[.string (strOfNums l)] 9)).heap.size = W3.heap.size + 1 := by simp
    have hT4 := hT3.below d4 hT3.size
    gi_wp2_with fail
    generalize W3.alloc (.cells #[.string (strOfNums l)] 9) = W4 at *
    have hst := all1_B W3.heap.size l W4 c4 hT4 (by unfold maxLen; have := hI3.2.1; omega) hI3.2.2.2
    have HLB := hide hI3.2.2.2
    have hlen := hI3.2.1
    clear hB3 hT3 hI3 y3 e3 hJ3 d4 c4 hT4
    refine range_below (gf := 105) (lb := #[.pointer (some ⟨W3.heap.size, 0, none⟩)]) rfl (enters_of Tryz.func105 (by kernel_rfl) rfl) hst (Below.refl _ _) (fun k hk => by rcases hk with rfl | rfl <;> omega) (fun _ => rfl)
      (EdI lo W.heap.size l J) (fun c pre Wx => c = Code.ret ∧ Jx (edL l pre) Wx) (EdI.abd hJ (by omega)) (fun c s A B h hb => ⟨h.1, hJx _ _ _ h.2 (hb.mono (by omega))⟩) i4 (by decide)
      (edA lo W.heap.size Bn a0 cap l W3.heap.size) ?hax ?assign ?body ?done ?stop
    case hax =>
      rintro x a' X k o o' hX ⟨Bx, hc, hlt, rfl⟩
      refine ⟨Bx, hc.same (World.putObj_heap_other ?_), hlt, rfl⟩
      rintro rfl
      rw [show X.heap[Bx]? = _ from hc] at hX
      cases hX
    case assign =>
      rintro k pre x X K hpre hi hsz hK
      unfold encS
      gi_wp2
      exact hK _ _ ((Below.refl _ X).alloc (Nat.le_refl _) _) ⟨X.heap.size, Cls.new X _ _, by omega, rfl⟩
    case body =>
      rintro k pre x a' X hk ⟨rec, hrec⟩ hpre hi ⟨Bx, hx, hlt, rfl⟩ hsz
      obtain ⟨n1, n2⟩ := st_next (unhide HLB) hpre
      obtain ⟨t1, _, t3, t4, t5⟩ := st_at (unhide HLB) hpre
      have HV : Hid (isRune (first (l.drop x)).1 = true) := hide (rn_step (unhide HLB) n2)
      have ul := ulen_pos (unhide HV)
      have HPR := hide hpre
      have HST := hide (stE_snoc l pre x)
      rw [stE_snoc] at t1 t3 t4
      simp only [nxE, List.length_append, List.length_singleton] at t1 t3 t4 t5
      have he := hi.e
      have cy := hi.y.cell 0
      have HI := hide hi
      have HIe := hide he
      generalize hA : (stE l pre).1 = eA at *
      generalize hB : (stE l pre).2.1 = eB at *
      generalize hC : (stE l pre).2.2 = eC at *
      subst n1
      have b1 : x + wid (l.drop x) ≤ 9223372036854775807 := Nat.le_trans t1 (Nat.le_trans hlen (by decide))
      have b5 : pre.length + 1 ≤ 9223372036854775807 := Nat.le_trans t5 (Nat.le_trans hlen (by decide))
      have b2 : eB + 1 ≤ 9223372036854775807 := t3 ▸ b5
      have b4 : 2 * (pre.length + 1) ≤ 2 * 140737488351232 := Nat.mul_le_mul_left 2 (Nat.le_trans t5 hlen)
      have b3 : eC + (ulen (first (l.drop x)).1).toNat ≤ 9223372036854775807 := Nat.le_trans t4 (Nat.le_trans b4 (by decide))
      have hun : ((ulen (first (l.drop x)).1).toNat : Int) = ulen (first (l.drop x)).1 := ulen_nat _
      have w1 := wrap_nat x (wid (l.drop x)) b1
      have w2 : wrap64 ((eB : Int) + 1) = (eB : Int) + 1 := wrap_nat eB 1 b2
      have w3 := wrap_nat eC _ b3
      have w4 := wrap_i eC _ b3
      rw [hun] at w3 w4
      have HW4 := hide w4
      clear w4
      have HUN := hide hun
      clear b1 b2 b3 b4 b5 hun
      have HUL := hide ul
      have HT1 := hide t1
      have HT3 := hide t3
      have HABC := hide (And.intro hA (And.intro hB hC))
      clear t1 t3 t4 t5 hA hB hC hpre
      have c0 := he.cell 0
      have c1 := he.cell 1
      have c2 := he.cell 2
      have f0 := he.frozen 0
      have f1 := he.frozen 1
      have f2 := he.frozen 2
      have x0 := hx.cell 0
      have x1 := hx.cell 1
      simp only [List.getElem?_toArray, List.getElem?_cons_zero, List.getElem?_cons_succ] at c0 c1 c2 x0 x1 cy
      gi_wp2_with fail
      have p1 := (he.set 0 (.int .i64 ((x : Int) + (wid (l.drop x) : Int)))).set 1 (.int .i64 ((eB : Int) + 1))
      have p2 := (hi.y.other ⟨W.heap.size + 1, 0, none⟩ (.int .i64 ((x : Int) + (wid (l.drop x) : Int))) (by simp)).other ⟨W.heap.size + 1, 1, none⟩ (.int .i64 ((eB : Int) + 1)) (by simp)
      have hne : Bx ≠ W.heap.size + 1 := by omega
      have p3 := (hx.other ⟨W.heap.size + 1, 0, none⟩ (.int .i64 ((x : Int) + (wid (l.drop x) : Int))) hne).other ⟨W.heap.size + 1, 1, none⟩ (.int .i64 ((eB : Int) + 1)) hne
      have p4 := (setCell_below (N := W.heap.size) X ⟨W.heap.size + 1, 0, none⟩ (.int .i64 ((x : Int) + (wid (l.drop x) : Int))) (by simp)).trans (setCell_below _ ⟨W.heap.size + 1, 1, none⟩ (.int .i64 ((eB : Int) + 1)) (by simp))
      have hnq : ¬ (W.heap.size + 1 = 0 ∨ W.heap.size + 1 = W3.heap.size) := by omega
      have hnl : W.heap.size + 1 < W4.heap.size := by omega
      have p5 := (KB.setCell (q := fun k => k = 0 ∨ k = W3.heap.size) X ⟨W.heap.size + 1, 0, none⟩ (.int .i64 ((x : Int) + (wid (l.drop x) : Int))) hnq hnl).trans (KB.setCell _ ⟨W.heap.size + 1, 1, none⟩ (.int .i64 ((eB : Int) + 1)) hnq hnl)
      have p6 := hJ _ _ _ hi.j p4
      have p7 : ((X.setCell ⟨W.heap.size + 1, 0, none⟩ (.int .i64 ((x : Int) + (wid (l.drop x) : Int)))).setCell ⟨W.heap.size + 1, 1, none⟩ (.int .i64 ((eB : Int) + 1))).heap.size = X.heap.size := by rw [setCell_size, setCell_size]
      simp only [List.setIfInBounds_toArray, List.set_cons_zero, List.set_cons_succ] at p1
      clear c0 c1 c2 f0 f1 f2 x0 x1 cy p4
      generalize (X.setCell ⟨W.heap.size + 1, 0, none⟩ (.int .i64 ((x : Int) + (wid (l.drop x) : Int)))).setCell ⟨W.heap.size + 1, 1, none⟩ (.int .i64 ((eB : Int) + 1)) = W5 at *
      have c2 := p1.cell 2
      have x0 := p3.cell 0
      simp only [List.getElem?_toArray, List.getElem?_cons_zero, List.getElem?_cons_succ] at c2 x0
      have HS : Hid (W5.drew.cell? ⟨W.heap.size + 1, 2, none⟩ = some (.int .i64 (eC : Int)) ∧ W5.drew.cell? ⟨Bx, 0, none⟩ = some (.int .i32 (first (l.drop x)).1)) := hide ⟨c2, x0⟩
      have p1 : Cls W5.drew _ _ _ := p1
      have p2 : Cls W5.drew _ _ _ := p2
      have p5 : KB _ _ X W5.drew := p5
      have p6 : J _ W5.drew := hJ _ _ _ p6 ⟨rfl, rfl, rfl, Nat.le_refl _, fun _ _ => rfl⟩
      have p7 : W5.drew.heap.size = X.heap.size := p7
      refine regionL_in (S := fun w' => w'.cell? ⟨W.heap.size + 1, 2, none⟩ = some (.int .i64 (eC : Int)) ∧ w'.cell? ⟨Bx, 0, none⟩ = some (.int .i32 (first (l.drop x)).1)) (fun i => i == 7) (by kernel_rfl) ?hd ?hq ?_
      case hd =>
        intro j o c h e
        have := Array.mem_of_getElem? h
        simp only [List.mem_toArray, List.mem_cons, List.not_mem_nil, or_false] at this
        rcases this with rfl | rfl | rfl | rfl | rfl | rfl | rfl | rfl <;> cases e
      case hq => rintro ⟨a, w, h⟩; exact h
      clear c2 x0
      generalize W5.drew = W6 at *
      refine anyL_take (i := 0) (v := ?v0) rfl (by kernel_rfl) (by kernel_rfl) (by kernel_rfl) (by kernel_rfl) (fun _ _ _ h => h) (Or.inl ⟨by rfl, ?h0⟩) (unhide HS) ?_
      case h0 => (intro w hSw; (try dsimp only at hSw); go_simp) <;> with_reducible rfl
      simp only [Act.put, List.getElem_toArray, List.getElem_cons_zero, List.setIfInBounds_toArray, List.set_cons_zero, List.set_cons_succ]
      refine anyL_take (i := 1) (v := ?v1) rfl (by kernel_rfl) (by kernel_rfl) (by kernel_rfl) (by kernel_rfl) (fun _ _ _ h => h) (Or.inl ⟨by rfl, ?h1⟩) (unhide HS) ?_
      case h1 => (intro w hSw; (try dsimp only at hSw); go_simp) <;> with_reducible rfl
      simp only [Act.put, List.getElem_toArray, List.getElem_cons_zero, List.getElem_cons_succ, List.setIfInBounds_toArray, List.set_cons_zero, List.set_cons_succ]
      refine anyL_take (i := 2) (v := ?v2) rfl (by kernel_rfl) (by kernel_rfl) (by kernel_rfl) (by kernel_rfl) (fun _ _ _ h => h) (Or.inl ⟨by rfl, ?h2⟩) (unhide HS) ?_
      case h2 => (intro w hSw; (try dsimp only at hSw); go_simp) <;> with_reducible rfl
      simp only [Act.put, List.getElem_toArray, List.getElem_cons_zero, List.getElem_cons_succ, List.setIfInBounds_toArray, List.set_cons_zero, List.set_cons_succ]
      refine anyL_take (i := 3) (v := ?v3) rfl (by kernel_rfl) (by kernel_rfl) (by kernel_rfl) (by kernel_rfl) (fun _ _ _ h => h) (Or.inl ⟨by rfl, ?h3⟩) (unhide HS) ?_
      case h3 => (intro w hSw; (try dsimp only at hSw); go_simp) <;> with_reducible rfl
      simp only [Act.put, List.getElem_toArray, List.getElem_cons_zero, List.getElem_cons_succ, List.setIfInBounds_toArray, List.set_cons_zero, List.set_cons_succ]
      refine anyL_ready (rs := [4]) (by kernel_rfl) (by simp) ?_
      refine AllL.cons rfl (fun K hK => ?_) AllL.nil
      go_simp
      refine (Len_any _ W6 (by have := of_decide_eq_true (unhide HV); omega) (by have := of_decide_eq_true (unhide HV); omega)).mono ?_
      rintro y w1' ⟨rfl, rfl⟩
      refine unhide hK _ _ (fun _ => unhide HS) ?_
      clear hK K
      refine anyL_take (i := 5) (v := ?v5) rfl (by kernel_rfl) (by kernel_rfl) (by kernel_rfl) (by kernel_rfl) (fun _ _ _ h => h) (Or.inl ⟨by rfl, ?h5⟩) (unhide HS) ?_
      case h5 => (intro w hSw; (try dsimp only at hSw); go_simp) <;> with_reducible rfl
      simp only [Act.put, List.getElem_toArray, List.getElem_cons_zero, List.getElem_cons_succ, List.setIfInBounds_toArray, List.set_cons_zero, List.set_cons_succ]
      refine anyL_take (i := 6) (v := ?v6) rfl (by kernel_rfl) (by kernel_rfl) (by kernel_rfl) (by kernel_rfl) (fun _ _ _ h => h) (Or.inl ⟨by rfl, ?h6⟩) (unhide HS) ?_
      case h6 => (intro w hSw; (try dsimp only at hSw); go_simp) <;> with_reducible rfl
      simp only [Act.put, List.getElem_toArray, List.getElem_cons_zero, List.getElem_cons_succ, List.setIfInBounds_toArray, List.set_cons_zero, List.set_cons_succ]
      have c2 := p1.cell 2
      have f2 := p1.frozen 2
      simp only [List.getElem?_toArray, List.getElem?_cons_zero, List.getElem?_cons_succ] at c2
      refine anyL_ready (rs := [7]) (by kernel_rfl) (by simp) ?_
      refine AllL.cons rfl (fun K hK => ?_) AllL.nil
      go_simp
      refine unhide hK _ _ (fun h => absurd h (by decide)) ?_
      clear hK K
      rw [unhide HW4]
      refine anyL_done (by kernel_rfl) ?_ _
      have r1 := p1.set 2 (.int .i64 ((eC : Int) + ulen (first (l.drop x)).1))
      have r2 := p2.other ⟨W.heap.size + 1, 2, none⟩ (.int .i64 ((eC : Int) + ulen (first (l.drop x)).1)) (by simp)
      have r4 := setCell_below (N := W.heap.size) w1' ⟨W.heap.size + 1, 2, none⟩ (.int .i64 ((eC : Int) + ulen (first (l.drop x)).1)) (by simp)
      have r5 := p5.trans (KB.setCell w1' ⟨W.heap.size + 1, 2, none⟩ (.int .i64 ((eC : Int) + ulen (first (l.drop x)).1)) hnq hnl)
      have r6 := hJ _ _ _ p6 r4
      have r7 : (w1'.setCell ⟨W.heap.size + 1, 2, none⟩ (.int .i64 ((eC : Int) + ulen (first (l.drop x)).1))).heap.size = X.heap.size := by rw [setCell_size]; exact p7
      simp only [List.setIfInBounds_toArray, List.set_cons_zero, List.set_cons_succ] at r1
      clear c2 f2 HS p1 p2 p3 p5 p6 r4
      generalize w1'.setCell ⟨W.heap.size + 1, 2, none⟩ (.int .i64 ((eC : Int) + ulen (first (l.drop x)).1)) = W7 at *
      have hv : stE l (pre ++ [x]) = (x + wid (l.drop x), eB + 1, eC + (ulen (first (l.drop x)).1).toNat) := by
        obtain ⟨h1, h2, h3⟩ := unhide HABC
        rw [unhide HST, nxE, h1, h2, h3]
      have hve : edV (stE l (pre ++ [x])) = .agg #[.int .i64 ((x : Int) + (wid (l.drop x) : Int)), .int .i64 ((eB : Int) + 1), .int .i64 ((eC : Int) + ulen (first (l.drop x)).1)] := by
        rw [hv, edV]
        simp only [Int.natCast_add, unhide HUN]
        rfl
      have hpe : edL l pre ++ [stE l (pre ++ [x])] <+: EE l := by rw [← edL_snoc]; exact edL_pre (unhide HPR)
      obtain ⟨fn', tmps', assign', body', hy, hR⟩ := hY (edL l pre) (stE l (pre ++ [x])) W7 1 hpe r6 (by omega)
      rw [hve] at hy
      have cy := r2.cell 0
      have c0 := r1.cell 0
      have c1 := r1.cell 1
      have c2 := r1.cell 2
      simp only [List.getElem?_toArray, List.getElem?_cons_zero, List.getElem?_cons_succ] at c0 c1 c2 cy
      have HVV := hide hv
      have HR2 := hide hve
      clear hve hv hpe
      gi_wp2_with fail
      refine hR.mono ?_
      clear hy c0 c1 c2 cy
      rintro e W8 ⟨hk8, (⟨rfl, hJ8⟩ | ⟨rfl, hJx8⟩)⟩
      · have kb8 := r5.trans (hk8.weak (q' := fun k => k = 0 ∨ k = W3.heap.size) (N' := W4.heap.size) (fun k hk => by
          rcases hk with (rfl | rfl) | hk
          · exact Or.inl q0
          · exact Or.inr (by omega)
          · exact Or.inr (by omega)))
        have y8 := r2.kb hk8 (Or.inr (Nat.le_refl _))
        have e8 := r1.kb hk8 (Or.inr (Nat.le_add_right _ _))
        gi_wp2
        refine ⟨kb8, ⟨by rw [edL_snoc]; exact hJ8, y8, ?_⟩⟩
        rw [unhide HVV]
        simp only [Int.natCast_add, unhide HUN]
        exact e8
      · have kb8 := r5.trans (hk8.weak (q' := fun k => k = 0 ∨ k = W3.heap.size) (N' := W4.heap.size) (fun k hk => by
          rcases hk with (rfl | rfl) | hk
          · exact Or.inl q0
          · exact Or.inr (by omega)
          · exact Or.inr (by omega)))
        gi_wp2
        exact ⟨kb8, rfl, by rw [edL_snoc]; exact hJx8⟩
    case done =>
      rintro D X hD hi hK
      gi_wp2
      refine ⟨by simp, .inl ⟨_, _, rfl, run_takeDeferred hK, ?_⟩⟩
      exact ⟨_, results_none rfl _ _ _, ⟨_, rfl⟩, .inl (hJ _ _ _ hi.j (below_putl _ _ _ (by omega)))⟩
    case stop =>
      rintro D c pre X hD hpre ⟨rfl, hj⟩ hK
      gi_wp2
      refine ⟨by simp, .inl ⟨_, _, rfl, run_takeDeferred hK, ?_⟩⟩
      exact ⟨_, results_none rfl _ _ _, ⟨_, rfl⟩, .inr ⟨_, edL_pre hpre, hJx _ _ _ hj (below_putl _ _ _ (by omega))⟩⟩
  · gi_wp2
    exact ⟨_, results_none rfl _ _ _, ⟨_, rfl⟩, .inr ⟨_, edL_head l _, hJx3⟩⟩
end
section
attribute [local go_sem] Oper.semAt_some
theorem by_at (e : Ed) (r : Int) (w : World) :
    Calls Tryz.prog 43 #[edV e, .int .i64 r] w fun y w' => y = .returned (.int .i64 (byE r e : Int)) ∧ Below w.heap.size w w' := by
  unfold edV
  by_cases h1 : r = 1
  · subst h1
    go_enter Tryz.func43, Tryz.ntmps43
    go_wp2
    go_ret
    exact ⟨rfl, (Below.refl _ w).alloc (Nat.le_refl _) _⟩
  · by_cases h2 : r = 2
    · subst h2
      go_enter Tryz.func43, Tryz.ntmps43
      go_wp2
      go_ret
      exact ⟨rfl, (Below.refl _ w).alloc (Nat.le_refl _) _⟩
    · have e1 : (r == 1) = false := by simpa using h1
      have e2 : (r == 2) = false := by simpa using h2
      have HB : Hid (byE r e = e.2.2) := hide (by rw [byE, if_neg h1, if_neg h2])
      clear h1 h2
      go_enter Tryz.func43, Tryz.ntmps43
      go_wp2
      go_ret
      exact ⟨ret_int (by rw [unhide HB]), (Below.refl _ w).alloc (Nat.le_refl _) _⟩
def isRu (r : Int) : Bool := decide (1 ≤ r ∧ r ≤ 3)
theorem isRuler_at (r : Int) (w : World) : Calls Tryz.prog 41 #[.int .i64 r] w fun y w' => y = .returned (.bool (isRu r)) ∧ w' = w := by
  go_enter Tryz.func41, Tryz.ntmps41
  go_wp2
  all_goals go_ret
  all_goals refine ⟨ret_bool ?_, rfl⟩
  all_goals (unfold isRu; rw [Bool.eq_iff_iff]; simp; omega)
theorem isMode_at (r : Int) (w : World) : Calls Tryz.prog 71 #[.int .i64 r] w fun y w' => y = .returned (.bool (isRu r)) ∧ w' = w := by
  go_enter Tryz.func71, Tryz.ntmps71
  go_wp2
  all_goals go_ret
  all_goals refine ⟨ret_bool ?_, rfl⟩
  all_goals (unfold isRu; rw [Bool.eq_iff_iff]; simp; omega)
theorem edges_seq (w w2 : World) (a0 : Option Addr) (cap : Nat) (l : List Int) (hB : IsB w a0 cap l) (hT : Tab w) (hb : Below w.heap.size w w2) :
    SeqB Tryz.prog 76 #[.pointer (some ⟨w2.heap.size, 0, none⟩)] (fun e => #[edV e]) (fun k => k < w.heap.size ∨ k = w2.heap.size) (EE l) (w2.alloc (.cells #[.slice a0 l.length cap] 30)) := by
  have hb2 := hb.alloc (o := .cells #[.slice a0 l.length cap] 30) hb.size
  refine edges1_B w2.heap.size _ a0 cap l _ ((World.cell?_alloc_mark w2 _ _ (0, 0) 0).trans rfl) (hB.below hb2 (Nat.le_refl _)) (hT.below hb2 hT.size) (Or.inl hT.size) (Or.inr rfl) ?_
  rintro g off hl rfl
  rcases hB.2.2.1 with h | ⟨g', off', e, hL⟩
  · exact absurd h hl
  · cases e
    exact Or.inl (cell_lt (hL 0 (List.length_pos_iff.2 hl)).1)
end
end Go.Proofs.YteamaneompijkaaGreatDoor
