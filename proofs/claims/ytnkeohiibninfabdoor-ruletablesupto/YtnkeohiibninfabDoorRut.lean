/- Layer 6: the contract of rule's Table. -/
import Derived.Test.YtnkeohiibninfabDoorRud
namespace Go.Proofs.YtnkeohiibninfabDoor
open Go.ChangeShapes Go.WideShapes Go.ChangeAt Go.RowKit
attribute [local go_sem] Oper.semAt_some

theorem info_intR : ∃ i, Tryd.prog.info? 3 = some i ∧ i.zero = some (.int .i64 0) ∧ i.size = 1 ∧ i.bytes = 8 := by
  refine ⟨_, rfl, ?_, ?_, ?_⟩ <;> rfl
theorem row_same {W W' : World} {B g n c k : Nat} {t : TypeId} {s : Nat} {xs : List Value} (h : W.ownsRow B t s (.slice (some ⟨g, 0, none⟩) n c) k xs) (hb : W'.heap[g]? = W.heap[g]?) : W'.ownsRow B t s (.slice (some ⟨g, 0, none⟩) n c) k xs := by
  refine ⟨h.1, ?_⟩
  rcases h.2 with h2 | ⟨g', c', cur, h1, h2, h3, h4⟩
  · exact Or.inl h2
  · refine Or.inr ⟨g', c', cur, h1, h2, ?_, h4⟩
    cases h1
    exact hb.trans h3
theorem make_intR (w : World) (c : Nat) (hc : c ≤ 4194304) : ∃ w', (Instr.makeSlice 36 (.int .i64 0) (.int .i64 (c : Int))).run Tryd.prog w = .ok (.slice (some ⟨w.heap.size, 0, none⟩) 0 c) w' ∧ w'.ownsRow w.heap.size 3 1 (.slice (some ⟨w.heap.size, 0, none⟩) 0 c) 0 [] ∧ Below w.heap.size w w' ∧ w.heap.size < w'.heap.size := by
  obtain ⟨i, hi, hz, hs, hby⟩ := info_intR
  obtain ⟨w', h1, h2, h3⟩ := run_make_own (P := Tryd.prog) w w.heap.size 36 3 i (.int .i64 0) 1 Tryd.underlying36 hi hz hs .i64 .i64 c (by rw [hby]; omega) (by unfold maxLen; omega) (Nat.le_refl _)
  refine ⟨w', h1, h2, (Below.refl _ w).grown h3 (Nat.le_refl _) (fun k e => by cases e), ?_⟩
  rcases h2.2 with ⟨h, _⟩ | ⟨g, c', cur, h, _, hg, _⟩
  · cases h
  · cases h
    exact heap_lt hg
theorem fits_int (W : World) (B g n cap : Nat) (xs : List Value) (x : Int) (ty : TypeId) (h : W.ownsRow B 3 1 (.slice (some ⟨g, 0, none⟩) n cap) n xs) (hr : n + 1 ≤ cap) :
    ∃ W', (Builtin.append_ #[36, 36] ty #[.slice (some ⟨g, 0, none⟩) n cap, .slice (some ⟨W.heap.size, 0, none⟩) 1 1]).run Tryd.prog (W.alloc (.cells #[.int .i64 x] 3)) = .ok (.slice (some ⟨g, 0, none⟩) (n + 1) cap) W' ∧
      W'.ownsRow B 3 1 (.slice (some ⟨g, 0, none⟩) (n + 1) cap) (n + 1) (xs ++ [.int .i64 x]) ∧ (W.alloc (.cells #[.int .i64 x] 3)).grownBy W' (some g) := by
  obtain ⟨i, hi, hz, hs, hby⟩ := info_intR
  exact run_append_fits (P := Tryd.prog) (W.alloc (.cells #[.int .i64 x] 3)) B 36 ty 3 i 1 Tryd.underlying36 hi hs g n cap xs (World.ownsRow.alloc h _) ⟨W.heap.size, 0, none⟩ 1 1 [.int .i64 x] rfl
    (fun j u hj => by
      cases j with
      | zero => simp at hj; subst hj; rw [Addr.add_lit]; exact (World.cell?_alloc_mark W _ _ (0, 0) 0).trans rfl
      | succ j => simp at hj)
    (fun u hu => by simp at hu; subst hu; rfl) hr

theorem row_base {W : World} {B B' g n c k : Nat} {t : TypeId} {s : Nat} {xs : List Value} (h : W.ownsRow B t s (.slice (some ⟨g, 0, none⟩) n c) k xs) (hB : B' ≤ B) : W.ownsRow B' t s (.slice (some ⟨g, 0, none⟩) n c) k xs := by
  refine ⟨h.1, ?_⟩
  rcases h.2 with h2 | ⟨g', c', cur, h1, h2, h3⟩
  · exact Or.inl h2
  · exact Or.inr ⟨g', c', cur, h1, Nat.le_trans hB h2, h3⟩
def intsE (r : Int) (E : List Ed) : List Value := E.map fun e => .int .i64 (byE r e : Int)
/-- what Table's loop keeps -/
structure TbI (w : World) (n gT : Nat) (r : Int) (c : Nat) (pre : List Ed) (X : World) : Prop where
  hr : Cls X n 31 #[.int .i64 r]
  t : Cls X gT 36 #[.slice (some ⟨n + 1, 0, none⟩) pre.length c]
  row : X.ownsRow n 3 1 (.slice (some ⟨n + 1, 0, none⟩) pre.length c) pre.length (pre.map fun e => .int .i64 (byE r e : Int))
  b : Below n w X
theorem TbI.abd {w : World} {n gT N c : Nat} {r : Int} (hN : n + 2 ≤ N) (hg : gT < N) : Abd N (TbI w n gT r c) := fun _ _ _ h hb => ⟨h.hr.below hb (by omega), h.t.below hb (by omega), row_same h.row (hb.block _ (by omega)), h.b.trans (hb.mono (by omega))⟩

set_option maxRecDepth 100000 in
set_option maxHeartbeats 4000000 in
theorem Table_in (a0 : Option Addr) (cap : Nat) (l : List Int) (r : Int) (w : World) (hB : IsB w a0 cap l) (hT : Tab w) (hr : isRu r = true) (hl : l.length ≤ 1048576) :
    Calls Tryd.prog 13 #[.slice a0 l.length cap, .int .i64 r] w fun y w' => ∃ v, y = .returned (.tuple #[v, .int .i64 0]) ∧ w'.ownsRow w.heap.size 3 1 v (EE l).length (intsE r (EE l)) ∧ Below w.heap.size w w' := by
  have hsp := (st_at hB.2.2.2 (List.prefix_refl (spots l 0))).2.2.2.2
  refine (callsIn_wide (n := 4)).1 ?_
  refine callsIn_of_wp_marks Tryd.func13 rfl trivial ?_ rfl
  simp only [Tryd.ntmps13, List.size_toArray, List.length_cons, List.length_nil, Nat.reduceAdd, Nat.reduceSub, Array.replicate_succ, Array.replicate_zero, List.push_toArray, List.append_toArray, List.nil_append, List.cons_append]
  refine wpIn_wide.2 ?_
  have k1 := Cls.new w 31 #[.int .i64 r]
  have b1 := (Below.refl w.heap.size w).alloc (Nat.le_refl _) (.cells #[.int .i64 r] 31)
  have z1 : (w.alloc (.cells #[.int .i64 r] 31)).heap.size = w.heap.size + 1 := by simp
  have c1 := k1.cell 0
  simp only [List.getElem?_toArray, List.getElem?_cons_zero] at c1
  go_wp2_with fail
  refine (isRuler_at r _).mono ?_
  rintro y w1 ⟨rfl, rfl⟩
  rw [hr]
  generalize w.alloc (.cells #[.int .i64 r] 31) = w1 at *
  obtain ⟨w2, hm, o2, b2, s2⟩ := make_intR w1 (l.length + 1) (by omega)
  rw [z1] at hm o2 b2 s2
  have hw : wrap64 ((l.length : Int) + 1) = (l.length : Int) + 1 := wrap_in _ (by omega) (by omega)
  rw [show ((l.length + 1 : Nat) : Int) = (l.length : Int) + 1 by omega] at hm
  have b3 : Below w.heap.size w w2 := b1.trans (b2.mono (by omega))
  have k2 := k1.below b2 (by omega)
  have k3 := k2.alloc (.cells #[.slice (some ⟨w.heap.size + 1, 0, none⟩) 0 (l.length + 1)] 36)
  have t3 := Cls.new w2 36 #[.slice (some ⟨w.heap.size + 1, 0, none⟩) 0 (l.length + 1)]
  have o3 := row_base (B' := w.heap.size) (World.ownsRow.alloc o2 (.cells #[.slice (some ⟨w.heap.size + 1, 0, none⟩) 0 (l.length + 1)] 36)) (Nat.le_succ _)
  have b4 := b3.alloc (o := .cells #[.slice (some ⟨w.heap.size + 1, 0, none⟩) 0 (l.length + 1)] 36) b3.size
  have z3 : (w2.alloc (.cells #[.slice (some ⟨w.heap.size + 1, 0, none⟩) 0 (l.length + 1)] 36)).heap.size = w2.heap.size + 1 := by simp
  have i3 : TbI w w.heap.size w2.heap.size r (l.length + 1) [] (w2.alloc (.cells #[.slice (some ⟨w.heap.size + 1, 0, none⟩) 0 (l.length + 1)] 36)) := ⟨k3, t3, o3, b4⟩
  clear k3 t3 o3 o2 k2 b2 c1 k1 b1
  go_wp2_with fail
  clear hm hw
  generalize w2.alloc (.cells #[.slice (some ⟨w.heap.size + 1, 0, none⟩) 0 (l.length + 1)] 36) = w4 at *
  generalize w2.heap.size = gT at *
  refine (edges_at a0 l.length cap w4).mono ?_
  rintro y w3' ⟨rfl, rfl⟩
  have hseq := edges_seq w w4 a0 cap l hB hT b4
  have i4 := TbI.abd (N := w4.heap.size) (by omega) (by omega) _ _ _ i3 ((Below.refl _ w4).alloc (Nat.le_refl _) (.cells #[.slice a0 l.length cap] 22))
  have z4 : (w4.alloc (.cells #[.slice a0 l.length cap] 22)).heap.size = gT + 2 := by simp [z3]
  clear i3 b4 b3
  rw [z3] at hseq
  go_wp2_with fail
  generalize w4.alloc (.cells #[.slice a0 l.length cap] 22) = w3 at *
  have hn0 := hT.size
  clear hB hT z1
  generalize hn : w.heap.size = n at *
  refine (wpIn_wide (n := 4)).1 ?_
  refine range_below (gf := 41) (lb := #[.pointer (some ⟨gT + 1, 0, none⟩)]) rfl (enters_of Tryd.func41 (by kernel_rfl) rfl) hseq (Below.refl _ _) (fun k hk => by rcases hk with h | rfl <;> omega) (fun _ => rfl)
    (TbI w n gT r (l.length + 1)) (fun _ _ _ => False) (TbI.abd (by omega) (by omega)) (fun _ _ _ _ h _ => h) i4 (by decide)
    (fun x a X => ∃ Bx, Cls X Bx 58 (edC x) ∧ gT + 2 ≤ Bx ∧ a = { tmps := #[.slice a0 l.length cap, .int .i64 r, undef, .pointer (some ⟨n, 0, none⟩), .slice none 0 0, .int .i64 0, .pointer (some ⟨gT, 0, none⟩), .pointer (some ⟨Bx, 0, none⟩), .int .i64 r, .bool true, .bool false, .slice a0 l.length cap, .int .i64 (l.length : Int), .int .i64 ((l.length : Int) + 1), .slice (some ⟨n + 1, 0, none⟩) 0 (l.length + 1), .slice a0 l.length cap, .func (.func 41) #[] #[.pointer (some ⟨gT + 1, 0, none⟩)], .agg #[.int .i64 (x.1 : Int), .int .i64 (x.2.1 : Int), .int .i64 (x.2.2 : Int)], undef, undef, undef, undef, undef, undef, undef], defers := [] }) ?hax ?assign ?body ?done ?stop
  case hax =>
    rintro x a' X k o o' hX ⟨Bx, hc, hlt, rfl⟩
    refine ⟨Bx, hc.same (World.putObj_heap_other ?_), hlt, rfl⟩
    rintro rfl
    rw [show X.heap[Bx]? = _ from hc] at hX
    cases hX
  case assign =>
    rintro k pre x X K hpre hi hsz hK
    unfold edV
    gi_wp2
    exact hK _ _ ((Below.refl _ X).alloc (Nat.le_refl _) _) ⟨X.heap.size, Cls.new X _ _, by omega, rfl⟩
  case body =>
    rintro k pre x a' X hk ⟨rec, hrec⟩ hpre hi ⟨Bx, Xx, hlt, rfl⟩ hsz
    have z4l := Nat.le_of_eq z4.symm
    have z4g := Nat.le_of_eq z4
    clear z4
    have Xr := hi.hr
    have Xt := hi.t
    have hlt2 := hpre.length_le
    rw [List.length_append, List.length_singleton, EE_len] at hlt2
    have HRO := hide hi.row
    have hpl : ∃ k0, k0 = pre.length := ⟨_, rfl⟩
    obtain ⟨k0, hk0⟩ := hpl
    rw [← hk0] at Xt hlt2 HRO
    have HK0 := hide hk0
    clear hk0
    have HS0 : Hid ((fun w' => (w'.cell? ⟨Bx, 0, none⟩ = some (.int .i64 (x.1 : Int)) ∧ w'.cell? ⟨Bx, 1, none⟩ = some (.int .i64 (x.2.1 : Int)) ∧ w'.cell? ⟨Bx, 2, none⟩ = some (.int .i64 (x.2.2 : Int))) ∧ w'.cell? ⟨n, 0, none⟩ = some (.int .i64 r) ∧ w'.cell? ⟨gT, 0, none⟩ = some (.slice (some ⟨n + 1, 0, none⟩) k0 (l.length + 1))) X.drew) := hide ⟨⟨(Xx.cell 0).trans rfl, (Xx.cell 1).trans rfl, (Xx.cell 2).trans rfl⟩, (Xr.cell 0).trans rfl, (Xt.cell 0).trans rfl⟩
    gi_wp2_with fail
    refine regionL_in (S := fun w' => (w'.cell? ⟨Bx, 0, none⟩ = some (.int .i64 (x.1 : Int)) ∧ w'.cell? ⟨Bx, 1, none⟩ = some (.int .i64 (x.2.1 : Int)) ∧ w'.cell? ⟨Bx, 2, none⟩ = some (.int .i64 (x.2.2 : Int))) ∧ w'.cell? ⟨n, 0, none⟩ = some (.int .i64 r) ∧ w'.cell? ⟨gT, 0, none⟩ = some (.slice (some ⟨n + 1, 0, none⟩) k0 (l.length + 1))) (fun i => i == 6) (by kernel_rfl) ?hd ?hq ?_
    case hd =>
      intro j o c h e
      have := Array.mem_of_getElem? h
      simp only [List.mem_toArray, List.mem_cons, List.not_mem_nil, or_false] at this
      rcases this with rfl | rfl | rfl | rfl | rfl | rfl | rfl <;> cases e
    case hq => rintro ⟨a, w, h⟩; exact h
    refine anyL_take (i := 0) (v := ?vtn0x0) rfl (by kernel_rfl) (by kernel_rfl) (by kernel_rfl) (by kernel_rfl) (fun _ _ _ h => h) (Or.inl ⟨by rfl, ?htn0x0⟩) (unhide HS0) ?_
    case htn0x0 => (intro w hSw; (try dsimp only at hSw); go_simp) <;> with_reducible rfl
    simp only [Act.put, List.getElem_toArray, List.getElem_cons_zero, List.setIfInBounds_toArray, List.set_cons_zero, List.set_cons_succ]
    refine anyL_take (i := 1) (v := ?vtn1x1) rfl (by kernel_rfl) (by kernel_rfl) (by kernel_rfl) (by kernel_rfl) (fun _ _ _ h => h) (Or.inl ⟨by rfl, ?htn1x1⟩) (unhide HS0) ?_
    case htn1x1 => (intro w hSw; (try dsimp only at hSw); go_simp) <;> with_reducible rfl
    simp only [Act.put, List.getElem_toArray, List.getElem_cons_zero, List.getElem_cons_succ, List.setIfInBounds_toArray, List.set_cons_zero, List.set_cons_succ]
    refine anyL_take (i := 2) (v := ?vtn2x2) rfl (by kernel_rfl) (by kernel_rfl) (by kernel_rfl) (by kernel_rfl) (fun _ _ _ h => h) (Or.inl ⟨by rfl, ?htn2x2⟩) (unhide HS0) ?_
    case htn2x2 => (intro w hSw; (try dsimp only at hSw); go_simp) <;> with_reducible rfl
    simp only [Act.put, List.getElem_toArray, List.getElem_cons_zero, List.getElem_cons_succ, List.setIfInBounds_toArray, List.set_cons_zero, List.set_cons_succ]
    refine anyL_ready (rs := [3]) (by kernel_rfl) (by simp) ?_
    refine AllL.cons rfl (fun K hK => ?_) AllL.nil
    go_simp
    refine (by_at x r X.drew).mono ?_
    rintro y Y ⟨rfl, hY⟩
    have hY : Below X.heap.size X Y := (drew_below X.heap.size X).trans hY
    have sY := hY.size
    have Yx := Xx.below hY Xx.lt
    have Yr := Xr.below hY Xr.lt
    have Yt := Xt.below hY Xt.lt
    have Yo := row_same (unhide HRO) (hY.block (n + 1) (by omega))
    refine unhide hK _ _ (fun _ => ⟨⟨(Yx.cell 0).trans rfl, (Yx.cell 1).trans rfl, (Yx.cell 2).trans rfl⟩, (Yr.cell 0).trans rfl, (Yt.cell 0).trans rfl⟩) ?_
    clear hK K HS0
    refine anyL_ready (rs := [4]) (by kernel_rfl) (by simp) ?_
    refine AllL.cons rfl (fun K hK => ?_) AllL.nil
    go_simp
    obtain ⟨Z, r5, o5, g5⟩ := fits_int Y n (n + 1) k0 (l.length + 1) _ (byE r x : Int) 36 Yo (by omega)
    have Yx1 := Yx.alloc (.cells #[.int .i64 (byE r x : Int)] 3)
    have Yr1 := Yr.alloc (.cells #[.int .i64 (byE r x : Int)] 3)
    have Yt1 := Yt.alloc (.cells #[.int .i64 (byE r x : Int)] 3)
    refine unhide hK _ _ (fun _ => ⟨⟨(Yx1.cell 0).trans rfl, (Yx1.cell 1).trans rfl, (Yx1.cell 2).trans rfl⟩, (Yr1.cell 0).trans rfl, (Yt1.cell 0).trans rfl⟩) ?_
    clear hK K
    have z1 : (Y.alloc (.cells #[.int .i64 (byE r x : Int)] 3)).heap.size = Y.heap.size + 1 := by simp
    have Zx := Yx1.same (g5.block _ (Yx1.lt) (by first | (simp; done) | (simp; omega)))
    have Zr := Yr1.same (g5.block _ (Yr1.lt) (by first | (simp; done) | (simp; omega)))
    have Zt := Yt1.same (g5.block _ (Yt1.lt) (by first | (simp; done) | (simp; omega)))
    refine anyL_ready (rs := [5]) (by kernel_rfl) (by simp) ?_
    refine AllL.cons rfl (fun K hK => ?_) AllL.nil
    refine step_append_in rfl _ _ 36 36 rfl _ _ rfl rfl _ _ r5 ?_
    simp only [Act.put, List.getElem_toArray, List.getElem_cons_zero, List.getElem_cons_succ, List.setIfInBounds_toArray, List.set_cons_zero, List.set_cons_succ]
    refine unhide hK _ _ (fun _ => ⟨⟨(Zx.cell 0).trans rfl, (Zx.cell 1).trans rfl, (Zx.cell 2).trans rfl⟩, (Zr.cell 0).trans rfl, (Zt.cell 0).trans rfl⟩) ?_
    clear hK K
    have t0 : Z.cell? ⟨gT, 0, none⟩ = some (.slice (some ⟨n + 1, 0, none⟩) k0 (l.length + 1)) := (Zt.cell 0).trans rfl
    have ft := Zt.frozen 0
    refine anyL_ready (rs := [6]) (by kernel_rfl) (by simp) ?_
    refine AllL.cons rfl (fun K hK => ?_) AllL.nil
    go_simp
    refine unhide hK _ _ (fun h => absurd h (by decide)) ?_
    clear hK K t0 ft
    refine anyL_done (by kernel_rfl) ?_ _
    have bYZ : Below n Y Z := ((Below.refl n Y).alloc (by omega) _).grown g5 (by simp; omega) (fun k e => by cases e; omega)
    have kYZ : KB (fun k => k < n ∨ k = gT + 1) w3.heap.size X Z := ((KB.all hY).trans (KB.alloc _ _ Y _)).trans ⟨g5.size, fun k hk hl => g5.block k hl (fun e => by cases e; omega)⟩
    have kt := Zt.set 0 (.slice (some ⟨n + 1, 0, none⟩) (k0 + 1) (l.length + 1))
    refine ⟨kYZ.trans (KB.setCell Z ⟨gT, 0, none⟩ _ ?_ ?_), ⟨Zr.other _ _ ?_, ?_, ?_, ((hi.b.trans (hY.mono (by omega))).trans bYZ).trans (setCell_below Z _ _ ?_)⟩⟩
    · show ¬ (gT < n ∨ gT = gT + 1); omega
    · show gT < w3.heap.size; omega
    · show n ≠ gT; omega
    · rw [List.length_append, List.length_singleton, ← unhide HK0]; exact kt
    · rw [List.length_append, List.length_singleton, List.map_append, ← unhide HK0]; exact row_same o5 (Below.heap_setCell _ _ _ _ (show n + 1 ≠ gT by omega))
    · show n ≤ gT; omega

  case done =>
    rintro D X hD hi hK
    subst hn
    have z4l := Nat.le_of_eq z4.symm
    have c1 : X.cell? ⟨gT, 0, none⟩ = some (.slice (some ⟨w.heap.size + 1, 0, none⟩) (EE l).length (l.length + 1)) := (hi.t.cell 0).trans rfl
    go_wp2
    refine ⟨by simp, .inl ⟨_, _, rfl, run_takeDeferred hK, ?_⟩⟩
    exact ⟨_, results_tmp2 rfl _ _ _, _, rfl, row_same hi.row (World.putObj_heap_other (by omega)), (hi.b.trans (below_putl X D _ (by omega)))⟩
  case stop =>
    rintro D c pre X hD hpre h hK
    exact h.elim

end Go.Proofs.YtnkeohiibninfabDoor
