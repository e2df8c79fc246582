/- Layer 17: groups, Forget and Words of a past of states galley/galleylaw17.Pair. Written by wip/tools/pas.py. -/
import Derived.Test.YtdemfejladepjaaMg22
import Derived.Test.YtdemfejladepjaaMg06

namespace Go.Proofs.Ytdemfejladepjaa
open Go.ChangeShapes Go.WideShapes Go.ChangeAt Go.RowKit
attribute [local go_sem] Oper.semAt_some

set_option maxRecDepth 100000 in
set_option maxHeartbeats 4000000 in
theorem Begin2Q_at (X : World) (F : Nat → Prop) (g : Nat) (p : Pa (Int × ByteArray)) (h : PsQ X F g p) (ho : p.o.isSome = true) (w : ByteArray) :
    Calls Try.prog 44 #[.pointer (some ⟨g, 0, none⟩), .string w] X fun y Y => y = .returned (.int .i64 171) ∧ Y = X := by
  have HC := hide (busyQ_at X F g p h)
  rw [ho] at HC
  clear h ho
  go_enter Try.func44, Try.ntmps44
  go_wp2_with fail
  refine (unhide HC).mono ?_
  rintro y w1 ⟨rfl, rfl⟩
  dsimp only
  simp only [if_true]
  clear HC
  go_wp2_with fail
  exact bodyPost_ret (results_tmp rfl _ _ _) rfl ⟨rfl, rfl⟩
set_option maxRecDepth 100000 in
set_option maxHeartbeats 4000000 in
theorem Forget2Q_at (X : World) (F : Nat → Prop) (g : Nat) (p : Pa (Int × ByteArray)) (h : PsQ X F g p) (ho : p.o.isSome = true) :
    Calls Try.prog 46 #[.pointer (some ⟨g, 0, none⟩)] X fun y Y => y = .returned (.int .i64 171) ∧ Y = X := by
  have HC := hide (busyQ_at X F g p h)
  rw [ho] at HC
  clear h ho
  go_enter Try.func46, Try.ntmps46
  go_wp2_with fail
  refine (unhide HC).mono ?_
  rintro y w1 ⟨rfl, rfl⟩
  dsimp only
  simp only [if_true]
  clear HC
  go_wp2_with fail
  exact bodyPost_ret (results_tmp rfl _ _ _) rfl ⟨rfl, rfl⟩
set_option maxRecDepth 100000 in
set_option maxHeartbeats 4000000 in
theorem Forget0Q_at (X : World) (F : Nat → Prop) (g : Nat) (p : Pa (Int × ByteArray)) (h : PsQ X F g p) (ho : p.o = none) :
    Calls Try.prog 46 #[.pointer (some ⟨g, 0, none⟩)] X fun y Y => y = .returned (.int .i64 0) ∧ ∃ G, PsQ Y G g (forgetP p).1 ∧ Gr F X G Y := by
  have hf : (forgetP p).1 = { p with a := [], b := [] } := by unfold forgetP; rw [ho]
  rw [hf]
  have HC := hide (busyQ_at X F g p h)
  rw [ho] at HC
  obtain ⟨kb, ka, ko, rfl, h⟩ := h
  obtain ⟨vb, va, vo, h1, h2, h3, h4⟩ := h.c
  obtain ⟨i2, g2⟩ := setBQ h
  obtain ⟨i3, g3⟩ := setAQ i2
  have HG := hide (g2.trans g3)
  have HI := hide i3
  obtain ⟨_, _, _, h12, _⟩ := i2.c
  have a0 : X.cell? ⟨g, 3, none⟩ = some vb := (h1.cell 3).trans rfl
  have f0 := h1.frozen 3
  have a1 : (X.setCell ⟨g, 3, none⟩ (.slice none 0 0)).cell? ⟨g, 4, none⟩ = some _ := (h12.cell 4).trans rfl
  have f1 := h12.frozen 4
  have a2 : X.cell? ⟨g, 4, none⟩ = some va := (h1.cell 4).trans rfl
  have f2 := h1.frozen 4
  clear h h1 h2 h3 h4 h12 i2 i3 g2 g3 ho hf
  go_enter Try.func46, Try.ntmps46
  go_wp2_with fail
  refine (unhide HC).mono ?_
  rintro y w1 ⟨rfl, rfl⟩
  dsimp only
  simp only [Option.isSome_none, Bool.false_eq_true, if_false]
  clear HC
  go_wp2_with fail
  exact bodyPost_ret (results_tmp rfl _ _ _) rfl ⟨rfl, _, ⟨_, _, _, rfl, unhide HI⟩, unhide HG⟩
set_option maxRecDepth 100000 in
set_option maxHeartbeats 4000000 in
theorem Begin0Q_at (X : World) (F : Nat → Prop) (g : Nat) (p : Pa (Int × ByteArray)) (h : PsQ X F g p) (w : ByteArray) (ho : p.o = none) (hw : w.size ≤ 281474976710656) :
    Calls Try.prog 44 #[.pointer (some ⟨g, 0, none⟩), .string w] X fun y Y => y = .returned (.int .i64 0) ∧ ∃ G, PsQ Y G g (beginP p w).1 ∧ Gr F X G Y := by
  have hf : (beginP p w).1 = { p with o := some ((p.s, w), false) } := by unfold beginP; rw [ho]
  rw [hf]
  have HC := hide (busyQ_at X F g p h)
  rw [ho] at HC
  have HCC := hide (calledQ_at p.s w X hw)
  obtain ⟨kb, ka, ko, rfl, h⟩ := h
  obtain ⟨vb, va, vo, h1, h2, h3, h4⟩ := h.c
  have c0 : X.cell? ⟨g, 0, none⟩ = some (.int .i64 p.s.1) := (h1.cell 0).trans rfl
  have c1 : X.cell? ⟨g, 1, none⟩ = some (.string p.s.2) := (h1.cell 1).trans rfl
  have HI := hide h
  clear h h1 h2 h3 h4 ho hf hw
  go_enter Try.func44, Try.ntmps44
  go_wp2_with fail
  refine (unhide HC).mono ?_
  rintro y w1 ⟨rfl, rfl⟩
  dsimp only
  simp only [Option.isSome_none, Bool.false_eq_true, if_false]
  clear HC
  go_wp2_with fail
  refine (unhide HCC).mono ?_
  rintro y w2 ⟨rfl, x1⟩
  dsimp only
  have i1 := (unhide HI).kpf (F := fun _ => False) (KpF.of x1) (fun _ _ e => e)
  obtain ⟨i2, g2⟩ := openedQ i1 p.s w
  have g1 : Gr (FO g kb ka ko) w1 (FO g kb ka ko) w2 := ⟨KpF.of x1, fun _ e => .inl e⟩
  have HG := hide (g1.trans g2)
  have HI2 := hide i2
  obtain ⟨vb, va, vo, h1, _⟩ := i1.c
  have h11 := h1.alloc (.cells #[.int .i64 p.s.1, .string p.s.2, .string w, .bool false] 115)
  have a0 : (w2.alloc (.cells #[.int .i64 p.s.1, .string p.s.2, .string w, .bool false] 115)).cell? ⟨g, 5, none⟩ = some vo := (h11.cell 5).trans rfl
  have f0 := h11.frozen 5
  clear HCC HI x1 i1 i2 g1 g2 h1 h11
  go_wp2_with fail
  exact bodyPost_ret (results_tmp rfl _ _ _) rfl ⟨rfl, _, ⟨_, _, _, rfl, unhide HI2⟩, unhide HG⟩
set_option maxRecDepth 100000 in
set_option maxHeartbeats 4000000 in
theorem End2Q_at (X : World) (F : Nat → Prop) (g : Nat) (p : Pa (Int × ByteArray)) (h : PsQ X F g p) (ho : p.o = none) :
    Calls Try.prog 45 #[.pointer (some ⟨g, 0, none⟩)] X fun y Y => y = .returned (.int .i64 171) ∧ Y = X := by
  obtain ⟨kb, ka, ko, rfl, h⟩ := h
  obtain ⟨vb, va, vo, h1, h2, h3, h4⟩ := h.c
  have c9 : X.cell? ⟨g, 5, none⟩ = some (.pointer none) := by
    rcases h4 with ⟨_, e, _⟩ | ⟨_, _, _, _, e, _⟩
    · rw [← e]; exact (h1.cell 5).trans rfl
    · rw [ho] at e; cases e
  clear h h1 h2 h3 h4 ho
  go_enter Try.func45, Try.ntmps45
  go_wp2_with fail
  exact bodyPost_ret (results_tmp rfl _ _ _) rfl ⟨rfl, rfl⟩
set_option maxRecDepth 100000 in
set_option maxHeartbeats 4000000 in
theorem EndFalseQ_at (X : World) (F : Nat → Prop) (g : Nat) (p : Pa (Int × ByteArray)) (h : PsQ X F g p) (x : (Int × ByteArray) × ByteArray) (ho : p.o = some (x, false)) :
    Calls Try.prog 45 #[.pointer (some ⟨g, 0, none⟩)] X fun y Y => y = .returned (.int .i64 0) ∧ ∃ G, PsQ Y G g (endP p).1 ∧ Gr F X G Y := by
  have hf : (endP p).1 = { p with o := none, b := p.b } := by unfold endP; rw [ho]; rfl
  rw [hf]
  obtain ⟨kb, ka, ko, rfl, h⟩ := h
  obtain ⟨vb, va, vo, h1, h2, h3, h4⟩ := h.c
  rcases h4 with ⟨e, _⟩ | ⟨s1, w1, d1, i, e1, rfl, e3, h5⟩
  · rw [ho] at e; cases e
  rw [e1] at ho
  injection ho with ho
  injection ho with ho1 ho2
  subst ho1
  subst ho2
  have c9 : X.cell? ⟨g, 5, none⟩ = some (.pointer (some ⟨i, 0, none⟩)) := (h1.cell 5).trans rfl
  have q9 : X.cell? ⟨i, 3, none⟩ = some (.bool false) := (h5.cell 3).trans rfl
  have q0 : X.cell? ⟨i, 0, none⟩ = some (.int .i64 s1.1) := (h5.cell 0).trans rfl
  have q1 : X.cell? ⟨i, 1, none⟩ = some (.string s1.2) := (h5.cell 1).trans rfl
  have q2 : X.cell? ⟨i, 2, none⟩ = some (.string w1) := (h5.cell 2).trans rfl
  obtain ⟨i2, g2⟩ := setOQ h
  have HI := hide i2
  have HG := hide g2
  have f9 := h1.frozen 5
  clear h h1 h2 h3 h5 e1 e3 i2 g2 hf q0 q1 q2
  go_enter Try.func45, Try.ntmps45
  go_wp2_with fail
  exact bodyPost_ret (results_tmp rfl _ _ _) rfl ⟨rfl, _, ⟨_, _, _, rfl, unhide HI⟩, unhide HG⟩
set_option maxRecDepth 100000 in
set_option maxHeartbeats 4000000 in
theorem EndTrueQ_at (X : World) (F : Nat → Prop) (g : Nat) (p : Pa (Int × ByteArray)) (h : PsQ X F g p) (x : (Int × ByteArray) × ByteArray) (ho : p.o = some (x, true)) (hb : p.b.length ≤ 4096) :
    Calls Try.prog 45 #[.pointer (some ⟨g, 0, none⟩)] X fun y Y => y = .returned (.int .i64 0) ∧ ∃ G, PsQ Y G g (endP p).1 ∧ Gr F X G Y := by
  have hf : (endP p).1 = { p with o := none, b := keepP p.m p.b x } := by unfold endP; rw [ho]; rfl
  rw [hf]
  obtain ⟨kb, ka, ko, rfl, h⟩ := h
  obtain ⟨vb, va, vo, h1, h2, h3, h4⟩ := h.c
  rcases h4 with ⟨e, _⟩ | ⟨s1, w1, d1, i, e1, rfl, e3, h5⟩
  · rw [ho] at e; cases e
  rw [e1] at ho
  injection ho with ho
  injection ho with ho1 ho2
  subst ho1
  subst ho2
  have c9 : X.cell? ⟨g, 5, none⟩ = some (.pointer (some ⟨i, 0, none⟩)) := (h1.cell 5).trans rfl
  have q9 : X.cell? ⟨i, 3, none⟩ = some (.bool true) := (h5.cell 3).trans rfl
  have q0 : X.cell? ⟨i, 0, none⟩ = some (.int .i64 s1.1) := (h5.cell 0).trans rfl
  have q1 : X.cell? ⟨i, 1, none⟩ = some (.string s1.2) := (h5.cell 1).trans rfl
  have q2 : X.cell? ⟨i, 2, none⟩ = some (.string w1) := (h5.cell 2).trans rfl
  have HC := hide (keepQ_at X g p kb ka ko h s1 w1 hb)
  clear h h1 h2 h3 h5 e1 e3 hf hb
  go_enter Try.func45, Try.ntmps45
  go_wp2_with fail
  refine (unhide HC).mono ?_
  rintro y w2 ⟨rfl, kb', i2, g2⟩
  dsimp only
  obtain ⟨i3, g3⟩ := setOQ i2
  have HG := hide (g2.trans g3)
  dsimp only at i3
  have HI := hide i3
  obtain ⟨vb, va, vo, h1, _⟩ := i2.c
  have a9 : w2.cell? ⟨g, 5, none⟩ = some vo := (h1.cell 5).trans rfl
  have f9 := h1.frozen 5
  clear HC i2 i3 g2 g3 h1 c9 q9 q0 q1 q2
  go_wp2_with fail
  exact bodyPost_ret (results_tmp rfl _ _ _) rfl ⟨rfl, _, ⟨_, _, _, rfl, unhide HI⟩, unhide HG⟩
set_option maxRecDepth 100000 in
set_option maxHeartbeats 4000000 in
theorem wordsQ_at (X : World) (v : Value) (l : List ((Int × ByteArray) × ByteArray)) (k : Option Nat) (h : RA X 3 v l.length (stQ l) k) (hl : l.length ≤ 4096) :
    Calls Try.prog 47 #[v] X fun y Y => ∃ v' k', y = .returned v' ∧ RS Y v' (l.reverse.map (·.2)) k' ∧ (∀ g, k' = some g → X.heap.size ≤ g) ∧ Below X.heap.size X Y := by
  obtain ⟨a, c, rfl⟩ : ∃ a c, v = .slice a l.length c := by
    rcases h.val with ⟨e, e2, _⟩ | ⟨g, off, cap, e, _⟩
    · exact ⟨none, 0, by rw [e, e2]⟩
    · exact ⟨_, _, e⟩
  obtain ⟨LW, hLW⟩ : ∃ LW, LW = l.reverse.map (·.2) := ⟨_, rfl⟩
  rw [← hLW]
  have HLW := hide hLW
  clear hLW
  obtain ⟨Y, k0, hr, h2, h3, h4⟩ := makeW X l.length (by omega)
  have R := hr
  have HW : Hid (∀ Z, Below X.heap.size X Z → ∀ i (hi : i < l.length), ∃ g off, a = some ⟨g, off, none⟩ ∧ Z.cell? ⟨g, off + i * 3 + 2, none⟩ = some (.string l[i].2)) := hide fun Z hZ i hi => by
    obtain ⟨g, off, cap, e, hk, hg, _, _, hc⟩ := h.form (by omega)
    cases e
    refine ⟨g, off, rfl, ?_⟩
    rw [hZ.cell (p := ⟨g, off + i * 3 + 2, none⟩) hg, Nat.add_assoc, hc _ (idx_lt (by omega) hi)]
    exact stQ_get2 l i hi
  have HS : Hid (RS Y (.slice (some ⟨X.heap.size, 0, none⟩) 0 l.length) ((l.drop l.length).reverse.map (·.2)) k0 ∧ ∀ g, k0 = some g → X.heap.size ≤ g) := hide ⟨by rw [List.drop_length]; exact h2, h3⟩
  have HB := hide h4
  have HL := hide hl
  have w1 : wrap64 ((l.length : Int) - 1) = (l.length : Int) - 1 := by unfold wrap64; omega
  clear h hr h2 h3 h4 hl
  go_enter Try.func47, Try.ntmps47
  go_wp2_with fail
  go_loopw [3, 4] (fun v3 v4 wx => (∃ vl, v3 = vl ∧ Hid (∃ m : Nat, v4 = .int .i64 ((m : Int) - 1) ∧ m ≤ l.length ∧ ∃ kk, RS wx vl ((l.drop m).reverse.map (·.2)) kk ∧ ∀ g, kk = some g → X.heap.size ≤ g)) ∧ (∃ i : Int, v4 = .int .i64 i) ∧ Hid (Below X.heap.size X wx)) (fun _ v4 _ => (intOf v4 + 1).toNat)
  case atStart => exact ⟨⟨_, rfl, hide ⟨l.length, by first | rfl | rw [w1], Nat.le_refl _, k0, unhide HS⟩⟩, ⟨_, rfl⟩, HB⟩
  case round =>
    obtain ⟨⟨vl, rfl, HS2⟩, ⟨i, rfl⟩, HB2⟩ := hrel
    obtain ⟨m, hm1, hm2, kk, hs, hkk⟩ := unhide HS2
    injection hm1 with _ hm1
    subst hm1
    cases m with
    | zero =>
      have e0 : ((0 : Nat) : Int) - 1 = -1 := rfl
      rw [e0]
      have HR : Hid (RS wr u3 LW kk) := hide (by rw [unhide HLW]; simpa using hs)
      have HKK := hide hkk
      clear HS2 hs hkk HS HW R w1
      go_wp2_with fail
      exact bodyPost_ret (results_tmp (t := 2) rfl _ _ _) rfl ⟨_, rfl, _, unhide HR, unhide HKK, unhide HB2⟩
    | succ r =>
      have e0 : ((r + 1 : Nat) : Int) - 1 = (r : Int) := by omega
      rw [e0]
      have hr : r < l.length := hm2
      obtain ⟨g, off, rfl, hc⟩ := unhide HW wr (unhide HB2) r hr
      obtain ⟨v', Z, k', hrun, h5, h6, h7⟩ := pushW hs l[r].2 (by simp; have := unhide HL; omega)
      have R1 := hide hrun
      have HN : Hid (∃ m : Nat, Value.int .i64 ((r : Int) - 1) = .int .i64 ((m : Int) - 1) ∧ m ≤ l.length ∧ ∃ kk, RS Z v' ((l.drop m).reverse.map (·.2)) kk ∧ ∀ g, kk = some g → X.heap.size ≤ g) := hide ⟨r, rfl, by omega, k', by
        rw [List.drop_eq_getElem_cons hr, List.reverse_cons, List.map_append]; exact h5, fun i e => by
        rcases h7 with ⟨e1, _⟩ | ⟨j, e1, hj⟩
        · exact hkk i (e1 ▸ e)
        · rw [e1] at e; cases e; have := (unhide HB2).size; omega⟩
      have HB3 := hide ((unhide HB2).trans (h6.below (B := X.heap.size) (unhide HB2).size (fun i e => hkk i e)))
      have w2 : wrap64 ((r : Int) - 1) = (r : Int) - 1 := by have := unhide HL; unfold wrap64; omega
      have t1 : decide ((r : Int) ≥ 0) = true := decide_eq_true (by omega)
      have t1' : decide (0 ≤ (r : Int)) = true := decide_eq_true (by omega)
      have hri : (r : Int) < (l.length : Int) := by omega
      generalize l[r].2 = wd at *
      clear HS2 hs hrun h5 h6 h7 hkk HS HW R w1 HB2
      go_wp2_with (at_builtin; refine wpList_append_known rfl _ _ 51 51 rfl _ _ rfl rfl _ _ (unhide R1) ?_; clear R1)
      go_roundw
      case rel => rw [w2]; exact ⟨⟨_, rfl, HN⟩, ⟨_, rfl⟩, HB3⟩
      case measure => rw [w2]; simp [intOf]
set_option maxRecDepth 100000 in
set_option maxHeartbeats 4000000 in
theorem WordsQ_at (X : World) (F : Nat → Prop) (g : Nat) (p : Pa (Int × ByteArray)) (h : PsQ X F g p) (hb : p.b.length ≤ 4096) (ha : p.a.length ≤ 4096) :
    Calls Try.prog 22 #[.pointer (some ⟨g, 0, none⟩)] X fun y Y => ∃ v1 v2 k1 k2, y = .returned (.tuple #[v1, v2]) ∧ RS Y v1 (p.b.reverse.map (·.2)) k1 ∧ RS Y v2 (p.a.reverse.map (·.2)) k2 ∧ (∀ i, k1 = some i → X.heap.size ≤ i) ∧ (∀ i, k2 = some i → X.heap.size ≤ i) ∧ (∀ i, k1 = some i → k2 ≠ some i) ∧ PsQ Y F g p ∧ Below X.heap.size X Y := by
  have hPP := h
  obtain ⟨kb0, ka0, ko0, rfl, h⟩ := h
  have hD := h.kpf (kpf_drew X) (fun _ _ e => e)
  obtain ⟨vb, va, vo, h1, h2, h3, h4⟩ := hD.c
  obtain ⟨LB, hLB⟩ : ∃ LB, LB = p.b.reverse.map (·.2) := ⟨_, rfl⟩
  obtain ⟨LA, hLA⟩ : ∃ LA, LA = p.a.reverse.map (·.2) := ⟨_, rfl⟩
  rw [← hLB, ← hLA]
  have HC1 := hide (wordsQ_at X.drew vb p.b kb0 h2 hb)
  have HI := hide hD
  have H1 := hide h1
  have H3 := hide h3
  have HS0 : Hid (X.drew.cell? ⟨g, 3, none⟩ = some vb ∧ X.drew.cell? ⟨g, 4, none⟩ = some va) := hide ⟨(h1.cell 3).trans rfl, (h1.cell 4).trans rfl⟩
  clear h hD h1 h2 h3 h4 hPP hb
  go_enter Try.func22, Try.ntmps22
  go_upto_region 3 with fail
  refine regionL (S := fun z => z.cell? ⟨g, 3, none⟩ = some vb ∧ z.cell? ⟨g, 4, none⟩ = some va) (fun _ => false) (by kernel_rfl) ?_
  refine anyL_take (i := 0) (v := ?vq83) rfl (by kernel_rfl) (by kernel_rfl) (by kernel_rfl) (by kernel_rfl) (fun _ _ _ h => h) (Or.inl ⟨by rfl, ?hq83⟩) (unhide HS0) ?_
  case hq83 => (intro w hSw; (try dsimp only at hSw); go_simp) <;> with_reducible rfl
  simp only [Act.put, List.getElem_toArray, List.getElem_cons_zero, List.setIfInBounds_toArray, List.set_cons_zero, List.set_cons_succ]
  refine anyL_take (i := 1) (v := ?vq84) rfl (by kernel_rfl) (by kernel_rfl) (by kernel_rfl) (by kernel_rfl) (fun _ _ _ h => h) (Or.inl ⟨by rfl, ?hq84⟩) (unhide HS0) ?_
  case hq84 => (intro w hSw; (try dsimp only at hSw); go_simp) <;> with_reducible rfl
  simp only [Act.put, List.getElem_toArray, List.getElem_cons_zero, List.getElem_cons_succ, List.setIfInBounds_toArray, List.set_cons_zero, List.set_cons_succ]
  refine anyL_take (i := 2) (v := ?vq85) rfl (by kernel_rfl) (by kernel_rfl) (by kernel_rfl) (by kernel_rfl) (fun _ _ _ h => h) (Or.inl ⟨by rfl, ?hq85⟩) (unhide HS0) ?_
  case hq85 => (intro w hSw; (try dsimp only at hSw); go_simp) <;> with_reducible rfl
  simp only [Act.put, List.getElem_toArray, List.getElem_cons_zero, List.getElem_cons_succ, List.setIfInBounds_toArray, List.set_cons_zero, List.set_cons_succ]
  refine anyL_take (i := 3) (v := ?vq86) rfl (by kernel_rfl) (by kernel_rfl) (by kernel_rfl) (by kernel_rfl) (fun _ _ _ h => h) (Or.inl ⟨by rfl, ?hq86⟩) (unhide HS0) ?_
  case hq86 => (intro w hSw; (try dsimp only at hSw); go_simp) <;> with_reducible rfl
  simp only [Act.put, List.getElem_toArray, List.getElem_cons_zero, List.getElem_cons_succ, List.setIfInBounds_toArray, List.set_cons_zero, List.set_cons_succ]
  refine anyL_take (i := 5) (v := ?vq87) rfl (by kernel_rfl) (by kernel_rfl) (by kernel_rfl) (by kernel_rfl) (fun _ _ _ h => h) (Or.inl ⟨by rfl, ?hq87⟩) (unhide HS0) ?_
  case hq87 => (intro w hSw; (try dsimp only at hSw); go_simp) <;> with_reducible rfl
  simp only [Act.put, List.getElem_toArray, List.getElem_cons_zero, List.getElem_cons_succ, List.setIfInBounds_toArray, List.set_cons_zero, List.set_cons_succ]
  refine anyL_take (i := 6) (v := ?vq88) rfl (by kernel_rfl) (by kernel_rfl) (by kernel_rfl) (by kernel_rfl) (fun _ _ _ h => h) (Or.inl ⟨by rfl, ?hq88⟩) (unhide HS0) ?_
  case hq88 => (intro w hSw; (try dsimp only at hSw); go_simp) <;> with_reducible rfl
  simp only [Act.put, List.getElem_toArray, List.getElem_cons_zero, List.getElem_cons_succ, List.setIfInBounds_toArray, List.set_cons_zero, List.set_cons_succ]
  refine anyL_take (i := 7) (v := ?vq89) rfl (by kernel_rfl) (by kernel_rfl) (by kernel_rfl) (by kernel_rfl) (fun _ _ _ h => h) (Or.inl ⟨by rfl, ?hq89⟩) (unhide HS0) ?_
  case hq89 => (intro w hSw; (try dsimp only at hSw); go_simp) <;> with_reducible rfl
  simp only [Act.put, List.getElem_toArray, List.getElem_cons_zero, List.getElem_cons_succ, List.setIfInBounds_toArray, List.set_cons_zero, List.set_cons_succ]
  refine anyL_take (i := 8) (v := ?vq90) rfl (by kernel_rfl) (by kernel_rfl) (by kernel_rfl) (by kernel_rfl) (fun _ _ _ h => h) (Or.inl ⟨by rfl, ?hq90⟩) (unhide HS0) ?_
  case hq90 => (intro w hSw; (try dsimp only at hSw); go_simp) <;> with_reducible rfl
  simp only [Act.put, List.getElem_toArray, List.getElem_cons_zero, List.getElem_cons_succ, List.setIfInBounds_toArray, List.set_cons_zero, List.set_cons_succ]
  refine anyL_ready (rs := [4]) (by kernel_rfl) (by simp) ?_
  refine AllL.cons rfl (fun K hK => ?_) AllL.nil
  go_simp
  refine (unhide HC1).mono ?_
  rintro y w1 ⟨v1, k1, rfl, r1, l1, x1⟩
  have j1 := (unhide HI).kpf (F := fun _ => False) (KpF.of x1) (fun _ _ e => e)
  have q1 := (unhide H1).kpf (F := fun _ => False) (KpF.of x1) (fun e => e)
  have HS1 : Hid (w1.cell? ⟨g, 3, none⟩ = some vb ∧ w1.cell? ⟨g, 4, none⟩ = some va) := hide ⟨(q1.cell 3).trans rfl, (q1.cell 4).trans rfl⟩
  have HC2 := hide (wordsQ_at w1 va p.a ka0 ((unhide H3).kpf (F := fun _ => False) (KpF.of x1) (fun _ _ e => e)) ha)
  have HR1 := hide r1
  have HL1 := hide l1
  have HX1 := hide x1
  have HJ1 := hide j1
  refine unhide hK _ _ (fun _ => unhide HS1) ?_
  clear hK K HC1 r1 l1 x1 j1 q1
  refine anyL_ready (rs := [9]) (by kernel_rfl) (by simp) ?_
  refine AllL.cons rfl (fun K hK => ?_) AllL.nil
  go_simp
  refine (unhide HC2).mono ?_
  rintro y w2 ⟨v2, k2, rfl, r2, l2, x2⟩
  have HQ := hide (And.intro ((unhide HR1).below x2) (And.intro r2 (And.intro (fun i e => Nat.le_trans (unhide HX1).size (l2 i e)) (And.intro (show ∀ i, k1 = some i → k2 ≠ some i from fun i e e2 => by have := (unhide HR1).lt i e; have := l2 i e2; omega) (And.intro (show ∃ kb ka ko, FO g kb0 ka0 ko0 = FO g kb ka ko ∧ IspQ w2 g p kb ka ko from ⟨_, _, _, rfl, (unhide HJ1).kpf (F := fun _ => False) (KpF.of x2) (fun _ _ e => e)⟩) ((unhide HX1).trans (x2.mono (unhide HX1).size)))))))
  have HS9 : Hid (w2.cell? ⟨g, 3, none⟩ = some vb ∧ w2.cell? ⟨g, 4, none⟩ = some va) := hide ⟨(((unhide H1).kpf (F := fun _ => False) (KpF.of ((unhide HX1).trans (x2.mono (unhide HX1).size))) (fun e => e)).cell 3).trans rfl, (((unhide H1).kpf (F := fun _ => False) (KpF.of ((unhide HX1).trans (x2.mono (unhide HX1).size))) (fun e => e)).cell 4).trans rfl⟩
  refine unhide hK _ _ (fun _ => unhide HS9) ?_
  clear hK K HC2 r2 l2 x2
  refine anyL_take (i := 10) (v := ?vq91) rfl (by kernel_rfl) (by kernel_rfl) (by kernel_rfl) (by kernel_rfl) (fun _ _ _ h => h) (Or.inl ⟨by rfl, ?hq91⟩) (unhide HS9) ?_
  case hq91 => (intro w hSw; (try dsimp only at hSw); go_simp) <;> with_reducible rfl
  simp only [Act.put, List.getElem_toArray, List.getElem_cons_zero, List.getElem_cons_succ, List.setIfInBounds_toArray, List.set_cons_zero, List.set_cons_succ]
  refine anyL_take (i := 11) (v := ?vq92) rfl (by kernel_rfl) (by kernel_rfl) (by kernel_rfl) (by kernel_rfl) (fun _ _ _ h => h) (Or.inl ⟨by rfl, ?hq92⟩) (unhide HS9) ?_
  case hq92 => (intro w hSw; (try dsimp only at hSw); go_simp) <;> with_reducible rfl
  simp only [Act.put, List.getElem_toArray, List.getElem_cons_zero, List.getElem_cons_succ, List.setIfInBounds_toArray, List.set_cons_zero, List.set_cons_succ]
  refine anyL_done (by kernel_rfl) ?_ _
  go_wp2_with fail
  obtain ⟨z1, z2, z3, z4, z5, z6⟩ := unhide HQ
  exact bodyPost_ret (results_tmp2 rfl _ _ _) rfl ⟨_, _, _, _, rfl, hLB ▸ z1, hLA ▸ z2, unhide HL1, z3, z4, z5, ⟨z6.os, z6.tape, z6.output, z6.size, z6.block⟩⟩
end Go.Proofs.Ytdemfejladepjaa
