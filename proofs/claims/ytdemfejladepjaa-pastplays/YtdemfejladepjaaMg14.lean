/- Layer 17: the calls of a past of states int, from outside. Written by wip/tools/pas.py. -/
import Derived.Test.YtdemfejladepjaaMg13

namespace Go.Proofs.Ytdemfejladepjaa
open Go.ChangeShapes Go.WideShapes Go.ChangeAt Go.RowKit
attribute [local go_sem] Oper.semAt_some

/-- a *Past, with the blocks that it has -/
def PsI (X : World) (F : Nat → Prop) (g : Nat) (p : Pa Int) : Prop := ∃ kb ka ko, F = FO g kb ka ko ∧ IspI X g p kb ka ko
theorem PsI.lt {X : World} {F : Nat → Prop} {g : Nat} {p : Pa Int} (h : PsI X F g p) : ∀ i, F i → i < X.heap.size := by
  obtain ⟨kb, ka, ko, rfl, h⟩ := h
  exact h.lt
theorem PsI.g {X : World} {F : Nat → Prop} {g : Nat} {p : Pa Int} (h : PsI X F g p) : F g := by
  obtain ⟨kb, ka, ko, rfl, h⟩ := h
  exact .inl rfl
theorem PsI.kpf {F G : Nat → Prop} {X Y : World} {g : Nat} {p : Pa Int} (h : PsI X F g p) (k : KpF G X Y) (hF : ∀ i, F i → ¬ G i) : PsI Y F g p := by
  obtain ⟨kb, ka, ko, rfl, h⟩ := h
  exact ⟨kb, ka, ko, rfl, h.kpf k hF⟩
theorem PsI.below {F : Nat → Prop} {X Y : World} {g : Nat} {p : Pa Int} (h : PsI X F g p) (k : Below X.heap.size X Y) : PsI Y F g p := h.kpf (G := fun _ => False) (KpF.of k) (fun _ _ e => e)
set_option maxRecDepth 100000 in
set_option maxHeartbeats 4000000 in
theorem calledI_at (s : Int) (w : ByteArray) (X : World) (hw : w.size ≤ 281474976710656) :
    Calls Try.prog 51 #[.int .i64 s, .string w] X fun y Y => y = .returned (.agg #[.int .i64 s, .string w]) ∧ Below X.heap.size X Y := by
  have b0 := (Below.refl X.heap.size X).alloc (Nat.le_refl _) (.cells #[.int .i64 0, .string ⟨#[]⟩] 103)
  have HC := hide (clo_at w (X.alloc (.cells #[.int .i64 0, .string ⟨#[]⟩] 103)) hw)
  have HK := hide (Cls.new X 103 #[.int .i64 0, .string ⟨#[]⟩])
  have HB := hide b0
  clear hw b0
  go_enter Try.func51, Try.ntmps51
  go_wp2_with fail
  refine (unhide HC).mono ?_
  rintro y w1 ⟨rfl, x1⟩
  dsimp only
  have k1 := (unhide HK).below x1 (unhide HK).lt
  have HX := hide ((unhide HB).trans (x1.mono (unhide HB).size))
  have a0 := k1.cell 0
  have f0 := k1.frozen 0
  have a1 := k1.cell 1
  have f1 := k1.frozen 1
  simp only [List.getElem?_toArray, List.getElem?_cons_zero, List.getElem?_cons_succ] at a0 a1
  have k2 := ((k1.set 0 (.int .i64 s)).set 1 (.string w))
  have HXX := hide (((unhide HX).setCell (p := ⟨X.heap.size, 0, none⟩) (Nat.le_refl _) (.int .i64 s)).setCell (p := ⟨X.heap.size, 1, none⟩) (Nat.le_refl _) (.string w))
  have q0 := k2.cell 0
  have q1 := k2.cell 1
  simp only [List.getElem?_toArray, List.getElem?_cons_zero, List.getElem?_cons_succ, List.setIfInBounds_toArray, List.set_cons_zero, List.set_cons_succ] at q0 q1
  clear HC HK HB x1 k1 k2 HX
  go_wp2_with fail
  generalize ((w1.setCell ⟨X.heap.size, 0, none⟩ (.int .i64 s)).setCell ⟨X.heap.size, 1, none⟩ (.string w)) = W at *
  exact bodyPost_ret (v := .agg #[.int .i64 s, .string w]) (by simp [results, Try.results51, go_sem, q0, q1]) rfl ⟨rfl, unhide HXX⟩
theorem setAI {X : World} {g : Nat} {p : Pa Int} {kb ka ko : Option Nat} (h : IspI X g p kb ka ko) : IspI (X.setCell ⟨g, 3, none⟩ (.slice none 0 0)) g { p with a := [] } kb none ko ∧ Gr (FO g kb ka ko) X (FO g kb none ko) (X.setCell ⟨g, 3, none⟩ (.slice none 0 0)) := by
  obtain ⟨vb, va, vo, h1, h2, h3, h4⟩ := h.c
  have hd := h.d
  have kk := KpF.set (F := fun i => i = g) X ⟨g, 3, none⟩ (.slice none 0 0) rfl
  have hC := h1.set 3 (.slice none 0 0)
  refine ⟨⟨⟨vb, .slice none 0 0, vo, by simpa using hC, h2.kpf kk (fun i e e1 => hd.gb (e1 ▸ e)), RA.nil _ _, h4.kpf kk (fun i e e1 => hd.go (e1 ▸ e))⟩, ⟨hd.gb, by simp, hd.go, fun _ _ e => (nomatch e), hd.bo, fun _ e => (nomatch e)⟩⟩, ⟨kk.mono (fun i _ e => .inl e), fun i e => .inl ?_⟩⟩
  rcases e with e | e | e | e
  · exact .inl e
  · exact .inr (.inl e)
  · cases e
  · exact .inr (.inr (.inr e))
theorem setBI {X : World} {g : Nat} {p : Pa Int} {kb ka ko : Option Nat} (h : IspI X g p kb ka ko) : IspI (X.setCell ⟨g, 2, none⟩ (.slice none 0 0)) g { p with b := [] } none ka ko ∧ Gr (FO g kb ka ko) X (FO g none ka ko) (X.setCell ⟨g, 2, none⟩ (.slice none 0 0)) := by
  obtain ⟨vb, va, vo, h1, h2, h3, h4⟩ := h.c
  have hd := h.d
  have kk := KpF.set (F := fun i => i = g) X ⟨g, 2, none⟩ (.slice none 0 0) rfl
  have hC := h1.set 2 (.slice none 0 0)
  refine ⟨⟨⟨.slice none 0 0, va, vo, by simpa using hC, RA.nil _ _, h3.kpf kk (fun i e e1 => hd.ga (e1 ▸ e)), h4.kpf kk (fun i e e1 => hd.go (e1 ▸ e))⟩, ⟨by simp, hd.ga, hd.go, fun _ e => (nomatch e), fun _ e => (nomatch e), hd.ao⟩⟩, ⟨kk.mono (fun i _ e => .inl e), fun i e => .inl ?_⟩⟩
  rcases e with e | e | e | e
  · exact .inl e
  · cases e
  · exact .inr (.inr (.inl e))
  · exact .inr (.inr (.inr e))
theorem setOI {X : World} {g : Nat} {p : Pa Int} {kb ka ko : Option Nat} (h : IspI X g p kb ka ko) : IspI (X.setCell ⟨g, 4, none⟩ (.pointer none)) g { p with o := none } kb ka none ∧ Gr (FO g kb ka ko) X (FO g kb ka none) (X.setCell ⟨g, 4, none⟩ (.pointer none)) := by
  obtain ⟨vb, va, vo, h1, h2, h3, h4⟩ := h.c
  have hd := h.d
  have kk := KpF.set (F := fun i => i = g) X ⟨g, 4, none⟩ (.pointer none) rfl
  have hC := h1.set 4 (.pointer none)
  refine ⟨⟨⟨vb, va, .pointer none, by simpa using hC, h2.kpf kk (fun i e e1 => hd.gb (e1 ▸ e)), h3.kpf kk (fun i e e1 => hd.ga (e1 ▸ e)), .inl ⟨rfl, rfl, rfl⟩⟩, ⟨hd.gb, hd.ga, by simp, hd.ba, fun _ _ e => (nomatch e), fun _ _ e => (nomatch e)⟩⟩, ⟨kk.mono (fun i _ e => .inl e), fun i e => .inl ?_⟩⟩
  rcases e with e | e | e | e
  · exact .inl e
  · exact .inr (.inl e)
  · exact .inr (.inr (.inl e))
  · cases e
theorem openedI {X : World} {g : Nat} {p : Pa Int} {kb ka ko : Option Nat} (h : IspI X g p kb ka ko) (s : Int) (w : ByteArray) : IspI ((X.alloc (.cells #[.int .i64 s, .string w, .bool false] 106)).setCell ⟨g, 4, none⟩ (.pointer (some ⟨X.heap.size, 0, none⟩))) g { p with o := some ((s, w), false) } kb ka (some X.heap.size) ∧ Gr (FO g kb ka ko) X (FO g kb ka (some X.heap.size)) ((X.alloc (.cells #[.int .i64 s, .string w, .bool false] 106)).setCell ⟨g, 4, none⟩ (.pointer (some ⟨X.heap.size, 0, none⟩))) := by
  obtain ⟨vb, va, vo, h1, h2, h3, h4⟩ := h.c
  have hd := h.d
  have hlt := h.lt
  have ka0 := KpF.alloc (fun i => i = g) X (.cells #[.int .i64 s, .string w, .bool false] 106)
  have kk := ka0.trans (KpF.set (F := fun i => i = g) _ ⟨g, 4, none⟩ (.pointer (some ⟨X.heap.size, 0, none⟩)) rfl) (fun _ _ e => e)
  have hg : g < X.heap.size := h1.lt
  have hC := (h1.alloc (.cells #[.int .i64 s, .string w, .bool false] 106)).set 4 (.pointer (some ⟨X.heap.size, 0, none⟩))
  have hG := (Cls.new X 106 #[.int .i64 s, .string w, .bool false]).other ⟨g, 4, none⟩ (.pointer (some ⟨X.heap.size, 0, none⟩)) (by dsimp only; omega)
  refine ⟨⟨⟨vb, va, .pointer (some ⟨X.heap.size, 0, none⟩), by simpa using hC, h2.kpf kk (fun i e e1 => hd.gb (e1 ▸ e)), h3.kpf kk (fun i e e1 => hd.ga (e1 ▸ e)), .inr ⟨s, w, false, X.heap.size, rfl, rfl, rfl, hG⟩⟩,
    ⟨hd.gb, hd.ga, fun e => by injection e; omega, hd.ba, fun i e e1 => ?_, fun i e e1 => ?_⟩⟩, ⟨kk.mono (fun i _ e => .inl e), fun i e => ?_⟩⟩
  · injection e1 with e1; have := hlt i (.inr (.inl e)); omega
  · injection e1 with e1; have := hlt i (.inr (.inr (.inl e))); omega
  · rcases e with e | e | e | e
    · exact .inl (.inl e)
    · exact .inl (.inr (.inl e))
    · exact .inl (.inr (.inr (.inl e)))
    · injection e with e; exact .inr (by omega)
theorem doneOI {X : World} {g i : Nat} {p : Pa Int} {kb ka ko : Option Nat} (h : IspI X g p kb ka ko) (x : Int × ByteArray) (d : Bool) (hx : p.o = some (x, d)) (hi : ko = some i) : IspI (X.setCell ⟨i, 2, none⟩ (.bool true)) g { p with o := some (x, true) } kb ka ko ∧ Gr (FO g kb ka ko) X (FO g kb ka ko) (X.setCell ⟨i, 2, none⟩ (.bool true)) := by
  obtain ⟨vb, va, vo, h1, h2, h3, h4⟩ := h.c
  have hd := h.d
  have kk := KpF.set (F := fun j => j = i) X ⟨i, 2, none⟩ (.bool true) rfl
  rcases h4 with ⟨e, _⟩ | ⟨s, w, d', i', e1, e2, e3, e4⟩
  · rw [e] at hx; cases hx
  · rw [e1] at hx; cases hx
    rw [e3] at hi; cases hi
    have hG := e4.set 2 (.bool true)
    refine ⟨⟨⟨vb, va, vo, h1.kpf kk (fun e => hd.go (e ▸ e3)), h2.kpf kk (fun j e ee => hd.bo j e (ee ▸ e3)), h3.kpf kk (fun j e ee => hd.ao j e (ee ▸ e3)), .inr ⟨s, w, true, i, rfl, e2, e3, by simpa using hG⟩⟩, hd⟩, ⟨kk.mono (fun j _ e => .inr (.inr (.inr (e ▸ e3)))), fun _ e => .inl e⟩⟩
set_option maxRecDepth 100000 in
set_option maxHeartbeats 4000000 in
theorem busyI_at (X : World) (F : Nat → Prop) (g : Nat) (p : Pa Int) (h : PsI X F g p) :
    Calls Try.prog 53 #[.pointer (some ⟨g, 0, none⟩)] X fun y Y => y = .returned (.int .i64 (if p.o.isSome then 171 else 0)) ∧ Y = X := by
  obtain ⟨kb, ka, ko, rfl, h⟩ := h
  obtain ⟨vb, va, vo, h1, h2, h3, h4⟩ := h.c
  have c4 : X.cell? ⟨g, 4, none⟩ = some vo := (h1.cell 4).trans rfl
  rcases h4 with ⟨e1, rfl, _⟩ | ⟨s, w, d, i, e1, rfl, _, _⟩
  · rw [e1]
    clear h h1 h2 h3 e1
    go_enter Try.func53, Try.ntmps53
    go_wp2_with fail
    exact bodyPost_ret (results_tmp rfl _ _ _) rfl ⟨rfl, rfl⟩
  · rw [e1]
    clear h h1 h2 h3 e1
    go_enter Try.func53, Try.ntmps53
    go_wp2_with fail
    exact bodyPost_ret (results_tmp rfl _ _ _) rfl ⟨rfl, rfl⟩
set_option maxRecDepth 100000 in
set_option maxHeartbeats 4000000 in
theorem NowI_at (X : World) (F : Nat → Prop) (g : Nat) (p : Pa Int) (h : PsI X F g p) :
    Calls Try.prog 17 #[.pointer (some ⟨g, 0, none⟩)] X fun y Y => y = .returned (.int .i64 p.s) ∧ Y = X := by
  obtain ⟨kb, ka, ko, rfl, h⟩ := h
  obtain ⟨vb, va, vo, h1, h2, h3, h4⟩ := h.c
  have c0 : X.cell? ⟨g, 0, none⟩ = some (.int .i64 p.s) := (h1.cell 0).trans rfl
  clear h h1 h2 h3 h4
  go_enter Try.func17, Try.ntmps17
  go_wp2_with fail
  exact bodyPost_ret (results_tmp rfl _ _ _) rfl ⟨rfl, rfl⟩
set_option maxRecDepth 100000 in
set_option maxHeartbeats 4000000 in
theorem Do0I_at (X : World) (F : Nat → Prop) (g : Nat) (p : Pa Int) (h : PsI X F g p) (x : Int) (w : ByteArray) (ho : p.o = none) (hw : w.size ≤ 281474976710656) (hb : p.b.length ≤ 4096) :
    Calls Try.prog 29 #[.pointer (some ⟨g, 0, none⟩), .int .i64 x, .string w] X fun y Y => y = .returned (.int .i64 0) ∧ ∃ G, PsI Y G g (doP p x w) ∧ Gr F X G Y := by
  have hdo : doP p x w = ⟨x, p.m, keepP p.m p.b (p.s, w), [], none⟩ := by unfold doP; rw [ho]
  rw [hdo]
  clear hdo
  have HP := hide h
  obtain ⟨kb, ka, ko, rfl, h⟩ := h
  obtain ⟨vb, va, vo, h1, h2, h3, h4⟩ := h.c
  have c9 : X.cell? ⟨g, 4, none⟩ = some (.pointer none) := by
    rcases h4 with ⟨_, e, _⟩ | ⟨_, _, _, _, e, _⟩
    · rw [← e]; exact (h1.cell 4).trans rfl
    · rw [ho] at e; cases e
  have c0 : X.cell? ⟨g, 0, none⟩ = some (.int .i64 p.s) := (h1.cell 0).trans rfl
  have HC := hide (calledI_at p.s w X hw)
  have HI := hide h
  have HO := hide ho
  clear h h1 h2 h3 h4 hw ho
  go_enter Try.func29, Try.ntmps29
  go_wp2_with fail
  refine (unhide HC).mono ?_
  rintro y w1 ⟨rfl, x1⟩
  dsimp only
  have HC2 := hide (keepI_at w1 g p kb ka ko ((unhide HI).kpf (F := fun _ => False) (KpF.of x1) (fun _ _ e => e)) p.s w hb)
  have HX1 : Hid (Gr (FO g kb ka ko) X (FO g kb ka ko) w1) := hide ⟨KpF.of x1, fun _ e => .inl e⟩
  clear HC HI x1 c9 c0
  go_wp2_with fail
  refine (unhide HC2).mono ?_
  rintro y w2 ⟨rfl, kb', i2, g2⟩
  dsimp only
  obtain ⟨i3, g3⟩ := setAI i2
  obtain ⟨i4, g4⟩ := stateI i3 x
  have HG := hide ((((unhide HX1).trans g2).trans g3).trans g4)
  dsimp only at i4
  rw [unhide HO] at i4
  have HI4 := hide i4
  obtain ⟨vb, va, vo, h1, h2, h3, h4⟩ := i2.c
  obtain ⟨vb3, va3, vo3, h13, _⟩ := i3.c
  have a9 : w2.cell? ⟨g, 3, none⟩ = some va := (h1.cell 3).trans rfl
  have f9 := h1.frozen 3
  have b0 : (w2.setCell ⟨g, 3, none⟩ (.slice none 0 0)).cell? ⟨g, 0, none⟩ = some (.int .i64 p.s) := (h13.cell 0).trans rfl
  have e0 := h13.frozen 0
  clear HC2 HX1 h1 h2 h3 h4 h13 i2 i3 i4 g2 g3 g4
  go_upto_region 7 with fail
  go_wp2_with fail
  exact bodyPost_ret (results_tmp rfl _ _ _) rfl ⟨rfl, _, ⟨_, _, _, rfl, unhide HI4⟩, unhide HG⟩
set_option maxRecDepth 100000 in
set_option maxHeartbeats 4000000 in
theorem Do1I_at (X : World) (F : Nat → Prop) (g : Nat) (p : Pa Int) (h : PsI X F g p) (x : Int) (w : ByteArray) (y : Int × ByteArray) (d : Bool) (ho : p.o = some (y, d)) :
    Calls Try.prog 29 #[.pointer (some ⟨g, 0, none⟩), .int .i64 x, .string w] X fun z Y => z = .returned (.int .i64 0) ∧ ∃ G, PsI Y G g (doP p x w) ∧ Gr F X G Y := by
  have hdo : doP p x w = ⟨x, p.m, p.b, [], some (y, true)⟩ := by unfold doP; rw [ho]
  rw [hdo]
  clear hdo
  obtain ⟨kb, ka, ko, rfl, h⟩ := h
  obtain ⟨vb, va, vo, h1, h2, h3, h4⟩ := h.c
  rcases h4 with ⟨e, _⟩ | ⟨s1, w1, d1, i, e1, rfl, e3, h5⟩
  · rw [ho] at e; cases e
  have c9 : X.cell? ⟨g, 4, none⟩ = some (.pointer (some ⟨i, 0, none⟩)) := (h1.cell 4).trans rfl
  have c8 : X.cell? ⟨i, 2, none⟩ = some (.bool d1) := (h5.cell 2).trans rfl
  have f8 := h5.frozen 2
  obtain ⟨i2, g2⟩ := doneOI h y d ho e3
  obtain ⟨i3, g3⟩ := setAI i2
  obtain ⟨i4, g4⟩ := stateI i3 x
  have HG := hide ((g2.trans g3).trans g4)
  dsimp only at i4
  have HI4 := hide i4
  obtain ⟨vb2, va2, vo2, h12, _⟩ := i2.c
  obtain ⟨vb3, va3, vo3, h13, _⟩ := i3.c
  have H12 := hide h12
  have H13 := hide h13
  clear h h1 h2 h3 h5 i2 i3 i4 g2 g3 g4 h12 h13 ho e1 e3
  go_enter Try.func29, Try.ntmps29
  go_upto_region 6 with fail
  generalize (X.setCell ⟨i, 2, none⟩ (.bool true)) = w2 at *
  have a9 : w2.cell? ⟨g, 3, none⟩ = some va2 := ((unhide H12).cell 3).trans rfl
  have f9 := (unhide H12).frozen 3
  have b0 : (w2.setCell ⟨g, 3, none⟩ (.slice none 0 0)).cell? ⟨g, 0, none⟩ = some (.int .i64 p.s) := ((unhide H13).cell 0).trans rfl
  have e0 := (unhide H13).frozen 0
  clear H12 H13 c9 c8 f8
  go_upto_region 7 with fail
  go_wp2_with fail
  exact bodyPost_ret (results_tmp rfl _ _ _) rfl ⟨rfl, _, ⟨_, _, _, rfl, unhide HI4⟩, unhide HG⟩
set_option maxRecDepth 100000 in
set_option maxHeartbeats 4000000 in
theorem NewI_at (s : Int) (m : Int) (X : World) (h : 0 ≤ m ∧ m ≤ 4096) :
    Calls Try.prog 13 #[.int .i64 s, .int .i64 m] X fun y Y => ∃ g F, y = .returned (.tuple #[.pointer (some ⟨g, 0, none⟩), .int .i64 0]) ∧ PsI Y F g ⟨s, m, [], [], none⟩ ∧ (∀ i, F i → X.heap.size ≤ i) ∧ Below X.heap.size X Y := by
  have t1 : decide (m < 0) = false := decide_eq_false (by omega)
  have t2 : decide (m > 4096) = false := decide_eq_false (by omega)
  have t2' : decide (4096 < m) = false := decide_eq_false (by omega)
  have k1 := Cls.new X 78 #[.int .i64 s, .int .i64 m, .slice none 0 0, .slice none 0 0, .pointer none]
  have HI : Hid (IspI (X.alloc (.cells #[.int .i64 s, .int .i64 m, .slice none 0 0, .slice none 0 0, .pointer none] 78)) X.heap.size ⟨s, m, [], [], none⟩ none none none) := hide ⟨⟨_, _, _, k1, RA.nil _ _, RA.nil _ _, .inl ⟨rfl, rfl, rfl⟩⟩, ⟨by simp, by simp, by simp, fun _ e => (nomatch e), fun _ e => (nomatch e), fun _ e => (nomatch e)⟩⟩
  have HB := hide ((Below.refl X.heap.size X).alloc (Nat.le_refl _) (.cells #[.int .i64 s, .int .i64 m, .slice none 0 0, .slice none 0 0, .pointer none] 78))
  clear h k1
  go_enter Try.func13, Try.ntmps13
  go_wp2_with fail
  exact bodyPost_ret (results_tmp2 rfl _ _ _) rfl ⟨_, _, rfl, ⟨_, _, _, rfl, unhide HI⟩, (fun i e => by rcases e with e | e | e | e <;> first | exact Nat.le_of_eq e.symm | cases e), unhide HB⟩
set_option maxRecDepth 100000 in
set_option maxHeartbeats 4000000 in
theorem NewEI_at (s : Int) (m : Int) (X : World) (h : ¬ (0 ≤ m ∧ m ≤ 4096)) :
    Calls Try.prog 13 #[.int .i64 s, .int .i64 m] X fun y Y => y = .returned (.tuple #[.pointer none, .int .i64 2]) ∧ Y = X := by
  by_cases h1 : m < 0
  · have t1 : decide (m < 0) = true := decide_eq_true h1
    clear h1 h
    go_enter Try.func13, Try.ntmps13
    go_wp2_with fail
    exact bodyPost_ret (results_tmp2 rfl _ _ _) rfl ⟨rfl, rfl⟩
  · have t1 : decide (m < 0) = false := decide_eq_false h1
    have t2 : decide (m > 4096) = true := decide_eq_true (by omega)
    have t2' : decide (4096 < m) = true := decide_eq_true (by omega)
    clear h1 h
    go_enter Try.func13, Try.ntmps13
    go_wp2_with fail
    exact bodyPost_ret (results_tmp2 rfl _ _ _) rfl ⟨rfl, rfl⟩
set_option maxRecDepth 100000 in
set_option maxHeartbeats 4000000 in
theorem Undo2I_at (X : World) (F : Nat → Prop) (g : Nat) (p : Pa Int) (h : PsI X F g p) (ho : p.o.isSome = true) :
    Calls Try.prog 31 #[.pointer (some ⟨g, 0, none⟩)] X fun y Y => y = .returned (.tuple #[.int .i64 0, .string ⟨#[]⟩, .int .i64 171]) ∧ Y = X := by
  have HC := hide (busyI_at X F g p h)
  rw [ho] at HC
  clear h ho
  go_enter Try.func31, Try.ntmps31
  go_wp2_with fail
  refine (unhide HC).mono ?_
  rintro y w1 ⟨rfl, rfl⟩
  dsimp only
  simp only [if_true]
  clear HC
  go_wp2_with fail
  exact bodyPost_ret (results_tmp3 rfl _ _ _) rfl ⟨rfl, rfl⟩
set_option maxRecDepth 100000 in
set_option maxHeartbeats 4000000 in
theorem Undo0I_at (X : World) (F : Nat → Prop) (g : Nat) (p : Pa Int) (h : PsI X F g p) (ho : p.o = none) (hp : p.b = []) :
    Calls Try.prog 31 #[.pointer (some ⟨g, 0, none⟩)] X fun y Y => y = .returned (.tuple #[.int .i64 0, .string ⟨#[]⟩, .int .i64 170]) ∧ ∃ G, PsI Y G g p ∧ Gr F X G Y := by
  have HC := hide (busyI_at X F g p h)
  rw [ho] at HC
  obtain ⟨kb, ka, ko, rfl, h⟩ := h
  have hD := h.kpf (kpf_drew X) (fun _ _ e => e)
  have HT := hide (takeU0I_at X.drew g p kb ka ko hD hp)
  have HI := hide hD
  have HG : Hid (Gr (FO g kb ka ko) X (FO g kb ka ko) X.drew) := hide ⟨(kpf_drew X).mono (fun _ _ e => e.elim), fun _ e => .inl e⟩
  clear h hD ho hp
  go_enter Try.func31, Try.ntmps31
  go_wp2_with fail
  refine (unhide HC).mono ?_
  rintro y w1 ⟨rfl, rfl⟩
  dsimp only
  simp only [Option.isSome_none, Bool.false_eq_true, if_false]
  clear HC
  go_upto_region 5 with fail
  refine regionL (S := fun _ => True) (fun _ => false) (by kernel_rfl) ?_
  refine anyL_take (i := 0) (v := ?vq32) rfl (by kernel_rfl) (by kernel_rfl) (by kernel_rfl) (by kernel_rfl) (fun _ _ _ h => h) (Or.inl ⟨by rfl, ?hq32⟩) (trivial) ?_
  case hq32 => (intro w hSw; (try dsimp only at hSw); go_simp) <;> with_reducible rfl
  simp only [Act.put, List.getElem_toArray, List.getElem_cons_zero, List.setIfInBounds_toArray, List.set_cons_zero, List.set_cons_succ]
  refine anyL_take (i := 1) (v := ?vq33) rfl (by kernel_rfl) (by kernel_rfl) (by kernel_rfl) (by kernel_rfl) (fun _ _ _ h => h) (Or.inl ⟨by rfl, ?hq33⟩) (trivial) ?_
  case hq33 => (intro w hSw; (try dsimp only at hSw); go_simp) <;> with_reducible rfl
  simp only [Act.put, List.getElem_toArray, List.getElem_cons_zero, List.getElem_cons_succ, List.setIfInBounds_toArray, List.set_cons_zero, List.set_cons_succ]
  refine anyL_take (i := 2) (v := ?vq34) rfl (by kernel_rfl) (by kernel_rfl) (by kernel_rfl) (by kernel_rfl) (fun _ _ _ h => h) (Or.inl ⟨by rfl, ?hq34⟩) (trivial) ?_
  case hq34 => (intro w hSw; (try dsimp only at hSw); go_simp) <;> with_reducible rfl
  simp only [Act.put, List.getElem_toArray, List.getElem_cons_zero, List.getElem_cons_succ, List.setIfInBounds_toArray, List.set_cons_zero, List.set_cons_succ]
  refine anyL_take (i := 3) (v := ?vq35) rfl (by kernel_rfl) (by kernel_rfl) (by kernel_rfl) (by kernel_rfl) (fun _ _ _ h => h) (Or.inl ⟨by rfl, ?hq35⟩) (trivial) ?_
  case hq35 => (intro w hSw; (try dsimp only at hSw); go_simp) <;> with_reducible rfl
  simp only [Act.put, List.getElem_toArray, List.getElem_cons_zero, List.getElem_cons_succ, List.setIfInBounds_toArray, List.set_cons_zero, List.set_cons_succ]
  refine anyL_take (i := 4) (v := ?vq36) rfl (by kernel_rfl) (by kernel_rfl) (by kernel_rfl) (by kernel_rfl) (fun _ _ _ h => h) (Or.inl ⟨by rfl, ?hq36⟩) (trivial) ?_
  case hq36 => (intro w hSw; (try dsimp only at hSw); go_simp) <;> with_reducible rfl
  simp only [Act.put, List.getElem_toArray, List.getElem_cons_zero, List.getElem_cons_succ, List.setIfInBounds_toArray, List.set_cons_zero, List.set_cons_succ]
  refine anyL_take (i := 5) (v := ?vq37) rfl (by kernel_rfl) (by kernel_rfl) (by kernel_rfl) (by kernel_rfl) (fun _ _ _ h => h) (Or.inl ⟨by rfl, ?hq37⟩) (trivial) ?_
  case hq37 => (intro w hSw; (try dsimp only at hSw); go_simp) <;> with_reducible rfl
  simp only [Act.put, List.getElem_toArray, List.getElem_cons_zero, List.getElem_cons_succ, List.setIfInBounds_toArray, List.set_cons_zero, List.set_cons_succ]
  refine anyL_take (i := 6) (v := ?vq38) rfl (by kernel_rfl) (by kernel_rfl) (by kernel_rfl) (by kernel_rfl) (fun _ _ _ h => h) (Or.inl ⟨by rfl, ?hq38⟩) (trivial) ?_
  case hq38 => (intro w hSw; (try dsimp only at hSw); go_simp) <;> with_reducible rfl
  simp only [Act.put, List.getElem_toArray, List.getElem_cons_zero, List.getElem_cons_succ, List.setIfInBounds_toArray, List.set_cons_zero, List.set_cons_succ]
  refine anyL_ready (rs := [7]) (by kernel_rfl) (by simp) ?_
  refine AllL.cons rfl (fun K hK => ?_) AllL.nil
  go_simp
  refine (unhide HT).mono ?_
  rintro y w2 ⟨rfl, rfl⟩
  refine unhide hK _ _ (fun _ => trivial) ?_
  clear hK K HT
  refine anyL_take (i := 8) (v := ?vq39) rfl (by kernel_rfl) (by kernel_rfl) (by kernel_rfl) (by kernel_rfl) (fun _ _ _ h => h) (Or.inl ⟨by rfl, ?hq39⟩) (trivial) ?_
  case hq39 => (intro w hSw; (try dsimp only at hSw); go_simp) <;> with_reducible rfl
  simp only [Act.put, List.getElem_toArray, List.getElem_cons_zero, List.getElem_cons_succ, List.setIfInBounds_toArray, List.set_cons_zero, List.set_cons_succ]
  refine anyL_take (i := 9) (v := ?vq40) rfl (by kernel_rfl) (by kernel_rfl) (by kernel_rfl) (by kernel_rfl) (fun _ _ _ h => h) (Or.inl ⟨by rfl, ?hq40⟩) (trivial) ?_
  case hq40 => (intro w hSw; (try dsimp only at hSw); go_simp) <;> with_reducible rfl
  simp only [Act.put, List.getElem_toArray, List.getElem_cons_zero, List.getElem_cons_succ, List.setIfInBounds_toArray, List.set_cons_zero, List.set_cons_succ]
  refine anyL_take (i := 10) (v := ?vq41) rfl (by kernel_rfl) (by kernel_rfl) (by kernel_rfl) (by kernel_rfl) (fun _ _ _ h => h) (Or.inl ⟨by rfl, ?hq41⟩) (trivial) ?_
  case hq41 => (intro w hSw; (try dsimp only at hSw); go_simp) <;> with_reducible rfl
  simp only [Act.put, List.getElem_toArray, List.getElem_cons_zero, List.getElem_cons_succ, List.setIfInBounds_toArray, List.set_cons_zero, List.set_cons_succ]
  refine anyL_take (i := 11) (v := ?vq42) rfl (by kernel_rfl) (by kernel_rfl) (by kernel_rfl) (by kernel_rfl) (fun _ _ _ h => h) (Or.inl ⟨by rfl, ?hq42⟩) (trivial) ?_
  case hq42 => (intro w hSw; (try dsimp only at hSw); go_simp) <;> with_reducible rfl
  simp only [Act.put, List.getElem_toArray, List.getElem_cons_zero, List.getElem_cons_succ, List.setIfInBounds_toArray, List.set_cons_zero, List.set_cons_succ]
  refine anyL_take (i := 12) (v := ?vq43) rfl (by kernel_rfl) (by kernel_rfl) (by kernel_rfl) (by kernel_rfl) (fun _ _ _ h => h) (Or.inl ⟨by rfl, ?hq43⟩) (trivial) ?_
  case hq43 => (intro w hSw; (try dsimp only at hSw); go_simp) <;> with_reducible rfl
  simp only [Act.put, List.getElem_toArray, List.getElem_cons_zero, List.getElem_cons_succ, List.setIfInBounds_toArray, List.set_cons_zero, List.set_cons_succ]
  refine anyL_take (i := 13) (v := ?vq44) rfl (by kernel_rfl) (by kernel_rfl) (by kernel_rfl) (by kernel_rfl) (fun _ _ _ h => h) (Or.inl ⟨by rfl, ?hq44⟩) (trivial) ?_
  case hq44 => (intro w hSw; (try dsimp only at hSw); go_simp) <;> with_reducible rfl
  simp only [Act.put, List.getElem_toArray, List.getElem_cons_zero, List.getElem_cons_succ, List.setIfInBounds_toArray, List.set_cons_zero, List.set_cons_succ]
  refine anyL_done (by kernel_rfl) ?_ _
  go_wp2_with fail
  exact bodyPost_ret (results_tmp3 rfl _ _ _) rfl ⟨rfl, _, ⟨_, _, _, rfl, unhide HI⟩, unhide HG⟩
set_option maxRecDepth 100000 in
set_option maxHeartbeats 4000000 in
theorem Undo1I_at (X : World) (F : Nat → Prop) (g : Nat) (p : Pa Int) (h : PsI X F g p) (ho : p.o = none) (Q : List (Int × ByteArray)) (s : Int) (w : ByteArray) (hp : p.b = Q ++ [(s, w)]) (hn : p.a.length ≤ 4096) (hq : Q.length ≤ 4096) :
    Calls Try.prog 31 #[.pointer (some ⟨g, 0, none⟩)] X fun y Y => y = .returned (.tuple #[.int .i64 s, .string w, .int .i64 0]) ∧ ∃ G, PsI Y G g { p with s := s, b := Q, a := p.a ++ [(p.s, w)] } ∧ Gr F X G Y := by
  have HC := hide (busyI_at X F g p h)
  rw [ho] at HC
  obtain ⟨kb, ka, ko, rfl, h⟩ := h
  have hD := h.kpf (kpf_drew X) (fun _ _ e => e)
  have HT := hide (takeUI_at X.drew g p kb ka ko hD Q s w hp hn hq)
  have HG : Hid (Gr (FO g kb ka ko) X (FO g kb ka ko) X.drew) := hide ⟨(kpf_drew X).mono (fun _ _ e => e.elim), fun _ e => .inl e⟩
  clear h hD ho hp
  go_enter Try.func31, Try.ntmps31
  go_wp2_with fail
  refine (unhide HC).mono ?_
  rintro y w1 ⟨rfl, rfl⟩
  dsimp only
  simp only [Option.isSome_none, Bool.false_eq_true, if_false]
  clear HC
  go_upto_region 5 with fail
  refine regionL (S := fun _ => True) (fun _ => false) (by kernel_rfl) ?_
  refine anyL_take (i := 0) (v := ?vq45) rfl (by kernel_rfl) (by kernel_rfl) (by kernel_rfl) (by kernel_rfl) (fun _ _ _ h => h) (Or.inl ⟨by rfl, ?hq45⟩) (trivial) ?_
  case hq45 => (intro w hSw; (try dsimp only at hSw); go_simp) <;> with_reducible rfl
  simp only [Act.put, List.getElem_toArray, List.getElem_cons_zero, List.setIfInBounds_toArray, List.set_cons_zero, List.set_cons_succ]
  refine anyL_take (i := 1) (v := ?vq46) rfl (by kernel_rfl) (by kernel_rfl) (by kernel_rfl) (by kernel_rfl) (fun _ _ _ h => h) (Or.inl ⟨by rfl, ?hq46⟩) (trivial) ?_
  case hq46 => (intro w hSw; (try dsimp only at hSw); go_simp) <;> with_reducible rfl
  simp only [Act.put, List.getElem_toArray, List.getElem_cons_zero, List.getElem_cons_succ, List.setIfInBounds_toArray, List.set_cons_zero, List.set_cons_succ]
  refine anyL_take (i := 2) (v := ?vq47) rfl (by kernel_rfl) (by kernel_rfl) (by kernel_rfl) (by kernel_rfl) (fun _ _ _ h => h) (Or.inl ⟨by rfl, ?hq47⟩) (trivial) ?_
  case hq47 => (intro w hSw; (try dsimp only at hSw); go_simp) <;> with_reducible rfl
  simp only [Act.put, List.getElem_toArray, List.getElem_cons_zero, List.getElem_cons_succ, List.setIfInBounds_toArray, List.set_cons_zero, List.set_cons_succ]
  refine anyL_take (i := 3) (v := ?vq48) rfl (by kernel_rfl) (by kernel_rfl) (by kernel_rfl) (by kernel_rfl) (fun _ _ _ h => h) (Or.inl ⟨by rfl, ?hq48⟩) (trivial) ?_
  case hq48 => (intro w hSw; (try dsimp only at hSw); go_simp) <;> with_reducible rfl
  simp only [Act.put, List.getElem_toArray, List.getElem_cons_zero, List.getElem_cons_succ, List.setIfInBounds_toArray, List.set_cons_zero, List.set_cons_succ]
  refine anyL_take (i := 4) (v := ?vq49) rfl (by kernel_rfl) (by kernel_rfl) (by kernel_rfl) (by kernel_rfl) (fun _ _ _ h => h) (Or.inl ⟨by rfl, ?hq49⟩) (trivial) ?_
  case hq49 => (intro w hSw; (try dsimp only at hSw); go_simp) <;> with_reducible rfl
  simp only [Act.put, List.getElem_toArray, List.getElem_cons_zero, List.getElem_cons_succ, List.setIfInBounds_toArray, List.set_cons_zero, List.set_cons_succ]
  refine anyL_take (i := 5) (v := ?vq50) rfl (by kernel_rfl) (by kernel_rfl) (by kernel_rfl) (by kernel_rfl) (fun _ _ _ h => h) (Or.inl ⟨by rfl, ?hq50⟩) (trivial) ?_
  case hq50 => (intro w hSw; (try dsimp only at hSw); go_simp) <;> with_reducible rfl
  simp only [Act.put, List.getElem_toArray, List.getElem_cons_zero, List.getElem_cons_succ, List.setIfInBounds_toArray, List.set_cons_zero, List.set_cons_succ]
  refine anyL_take (i := 6) (v := ?vq51) rfl (by kernel_rfl) (by kernel_rfl) (by kernel_rfl) (by kernel_rfl) (fun _ _ _ h => h) (Or.inl ⟨by rfl, ?hq51⟩) (trivial) ?_
  case hq51 => (intro w hSw; (try dsimp only at hSw); go_simp) <;> with_reducible rfl
  simp only [Act.put, List.getElem_toArray, List.getElem_cons_zero, List.getElem_cons_succ, List.setIfInBounds_toArray, List.set_cons_zero, List.set_cons_succ]
  refine anyL_ready (rs := [7]) (by kernel_rfl) (by simp) ?_
  refine AllL.cons rfl (fun K hK => ?_) AllL.nil
  go_simp
  refine (unhide HT).mono ?_
  rintro y w2 ⟨rfl, k', i2, g2⟩
  have HI := hide i2
  have HGG := hide ((unhide HG).trans g2)
  clear HG i2 g2
  refine unhide hK _ _ (fun _ => trivial) ?_
  clear hK K HT
  refine anyL_take (i := 8) (v := ?vq52) rfl (by kernel_rfl) (by kernel_rfl) (by kernel_rfl) (by kernel_rfl) (fun _ _ _ h => h) (Or.inl ⟨by rfl, ?hq52⟩) (trivial) ?_
  case hq52 => (intro w hSw; (try dsimp only at hSw); go_simp) <;> with_reducible rfl
  simp only [Act.put, List.getElem_toArray, List.getElem_cons_zero, List.getElem_cons_succ, List.setIfInBounds_toArray, List.set_cons_zero, List.set_cons_succ]
  refine anyL_take (i := 9) (v := ?vq53) rfl (by kernel_rfl) (by kernel_rfl) (by kernel_rfl) (by kernel_rfl) (fun _ _ _ h => h) (Or.inl ⟨by rfl, ?hq53⟩) (trivial) ?_
  case hq53 => (intro w hSw; (try dsimp only at hSw); go_simp) <;> with_reducible rfl
  simp only [Act.put, List.getElem_toArray, List.getElem_cons_zero, List.getElem_cons_succ, List.setIfInBounds_toArray, List.set_cons_zero, List.set_cons_succ]
  refine anyL_take (i := 10) (v := ?vq54) rfl (by kernel_rfl) (by kernel_rfl) (by kernel_rfl) (by kernel_rfl) (fun _ _ _ h => h) (Or.inl ⟨by rfl, ?hq54⟩) (trivial) ?_
  case hq54 => (intro w hSw; (try dsimp only at hSw); go_simp) <;> with_reducible rfl
  simp only [Act.put, List.getElem_toArray, List.getElem_cons_zero, List.getElem_cons_succ, List.setIfInBounds_toArray, List.set_cons_zero, List.set_cons_succ]
  refine anyL_take (i := 11) (v := ?vq55) rfl (by kernel_rfl) (by kernel_rfl) (by kernel_rfl) (by kernel_rfl) (fun _ _ _ h => h) (Or.inl ⟨by rfl, ?hq55⟩) (trivial) ?_
  case hq55 => (intro w hSw; (try dsimp only at hSw); go_simp) <;> with_reducible rfl
  simp only [Act.put, List.getElem_toArray, List.getElem_cons_zero, List.getElem_cons_succ, List.setIfInBounds_toArray, List.set_cons_zero, List.set_cons_succ]
  refine anyL_take (i := 12) (v := ?vq56) rfl (by kernel_rfl) (by kernel_rfl) (by kernel_rfl) (by kernel_rfl) (fun _ _ _ h => h) (Or.inl ⟨by rfl, ?hq56⟩) (trivial) ?_
  case hq56 => (intro w hSw; (try dsimp only at hSw); go_simp) <;> with_reducible rfl
  simp only [Act.put, List.getElem_toArray, List.getElem_cons_zero, List.getElem_cons_succ, List.setIfInBounds_toArray, List.set_cons_zero, List.set_cons_succ]
  refine anyL_take (i := 13) (v := ?vq57) rfl (by kernel_rfl) (by kernel_rfl) (by kernel_rfl) (by kernel_rfl) (fun _ _ _ h => h) (Or.inl ⟨by rfl, ?hq57⟩) (trivial) ?_
  case hq57 => (intro w hSw; (try dsimp only at hSw); go_simp) <;> with_reducible rfl
  simp only [Act.put, List.getElem_toArray, List.getElem_cons_zero, List.getElem_cons_succ, List.setIfInBounds_toArray, List.set_cons_zero, List.set_cons_succ]
  refine anyL_done (by kernel_rfl) ?_ _
  go_wp2_with fail
  exact bodyPost_ret (results_tmp3 rfl _ _ _) rfl ⟨rfl, _, ⟨_, _, _, rfl, unhide HI⟩, unhide HGG⟩
set_option maxRecDepth 100000 in
set_option maxHeartbeats 4000000 in
theorem Redo2I_at (X : World) (F : Nat → Prop) (g : Nat) (p : Pa Int) (h : PsI X F g p) (ho : p.o.isSome = true) :
    Calls Try.prog 33 #[.pointer (some ⟨g, 0, none⟩)] X fun y Y => y = .returned (.tuple #[.int .i64 0, .string ⟨#[]⟩, .int .i64 171]) ∧ Y = X := by
  have HC := hide (busyI_at X F g p h)
  rw [ho] at HC
  clear h ho
  go_enter Try.func33, Try.ntmps33
  go_wp2_with fail
  refine (unhide HC).mono ?_
  rintro y w1 ⟨rfl, rfl⟩
  dsimp only
  simp only [if_true]
  clear HC
  go_wp2_with fail
  exact bodyPost_ret (results_tmp3 rfl _ _ _) rfl ⟨rfl, rfl⟩
set_option maxRecDepth 100000 in
set_option maxHeartbeats 4000000 in
theorem Redo0I_at (X : World) (F : Nat → Prop) (g : Nat) (p : Pa Int) (h : PsI X F g p) (ho : p.o = none) (hp : p.a = []) :
    Calls Try.prog 33 #[.pointer (some ⟨g, 0, none⟩)] X fun y Y => y = .returned (.tuple #[.int .i64 0, .string ⟨#[]⟩, .int .i64 170]) ∧ ∃ G, PsI Y G g p ∧ Gr F X G Y := by
  have HC := hide (busyI_at X F g p h)
  rw [ho] at HC
  obtain ⟨kb, ka, ko, rfl, h⟩ := h
  have hD := h.kpf (kpf_drew X) (fun _ _ e => e)
  have HT := hide (takeR0I_at X.drew g p kb ka ko hD hp)
  have HI := hide hD
  have HG : Hid (Gr (FO g kb ka ko) X (FO g kb ka ko) X.drew) := hide ⟨(kpf_drew X).mono (fun _ _ e => e.elim), fun _ e => .inl e⟩
  clear h hD ho hp
  go_enter Try.func33, Try.ntmps33
  go_wp2_with fail
  refine (unhide HC).mono ?_
  rintro y w1 ⟨rfl, rfl⟩
  dsimp only
  simp only [Option.isSome_none, Bool.false_eq_true, if_false]
  clear HC
  go_upto_region 5 with fail
  refine regionL (S := fun _ => True) (fun _ => false) (by kernel_rfl) ?_
  refine anyL_take (i := 0) (v := ?vq58) rfl (by kernel_rfl) (by kernel_rfl) (by kernel_rfl) (by kernel_rfl) (fun _ _ _ h => h) (Or.inl ⟨by rfl, ?hq58⟩) (trivial) ?_
  case hq58 => (intro w hSw; (try dsimp only at hSw); go_simp) <;> with_reducible rfl
  simp only [Act.put, List.getElem_toArray, List.getElem_cons_zero, List.setIfInBounds_toArray, List.set_cons_zero, List.set_cons_succ]
  refine anyL_take (i := 1) (v := ?vq59) rfl (by kernel_rfl) (by kernel_rfl) (by kernel_rfl) (by kernel_rfl) (fun _ _ _ h => h) (Or.inl ⟨by rfl, ?hq59⟩) (trivial) ?_
  case hq59 => (intro w hSw; (try dsimp only at hSw); go_simp) <;> with_reducible rfl
  simp only [Act.put, List.getElem_toArray, List.getElem_cons_zero, List.getElem_cons_succ, List.setIfInBounds_toArray, List.set_cons_zero, List.set_cons_succ]
  refine anyL_take (i := 2) (v := ?vq60) rfl (by kernel_rfl) (by kernel_rfl) (by kernel_rfl) (by kernel_rfl) (fun _ _ _ h => h) (Or.inl ⟨by rfl, ?hq60⟩) (trivial) ?_
  case hq60 => (intro w hSw; (try dsimp only at hSw); go_simp) <;> with_reducible rfl
  simp only [Act.put, List.getElem_toArray, List.getElem_cons_zero, List.getElem_cons_succ, List.setIfInBounds_toArray, List.set_cons_zero, List.set_cons_succ]
  refine anyL_take (i := 3) (v := ?vq61) rfl (by kernel_rfl) (by kernel_rfl) (by kernel_rfl) (by kernel_rfl) (fun _ _ _ h => h) (Or.inl ⟨by rfl, ?hq61⟩) (trivial) ?_
  case hq61 => (intro w hSw; (try dsimp only at hSw); go_simp) <;> with_reducible rfl
  simp only [Act.put, List.getElem_toArray, List.getElem_cons_zero, List.getElem_cons_succ, List.setIfInBounds_toArray, List.set_cons_zero, List.set_cons_succ]
  refine anyL_take (i := 4) (v := ?vq62) rfl (by kernel_rfl) (by kernel_rfl) (by kernel_rfl) (by kernel_rfl) (fun _ _ _ h => h) (Or.inl ⟨by rfl, ?hq62⟩) (trivial) ?_
  case hq62 => (intro w hSw; (try dsimp only at hSw); go_simp) <;> with_reducible rfl
  simp only [Act.put, List.getElem_toArray, List.getElem_cons_zero, List.getElem_cons_succ, List.setIfInBounds_toArray, List.set_cons_zero, List.set_cons_succ]
  refine anyL_take (i := 5) (v := ?vq63) rfl (by kernel_rfl) (by kernel_rfl) (by kernel_rfl) (by kernel_rfl) (fun _ _ _ h => h) (Or.inl ⟨by rfl, ?hq63⟩) (trivial) ?_
  case hq63 => (intro w hSw; (try dsimp only at hSw); go_simp) <;> with_reducible rfl
  simp only [Act.put, List.getElem_toArray, List.getElem_cons_zero, List.getElem_cons_succ, List.setIfInBounds_toArray, List.set_cons_zero, List.set_cons_succ]
  refine anyL_take (i := 6) (v := ?vq64) rfl (by kernel_rfl) (by kernel_rfl) (by kernel_rfl) (by kernel_rfl) (fun _ _ _ h => h) (Or.inl ⟨by rfl, ?hq64⟩) (trivial) ?_
  case hq64 => (intro w hSw; (try dsimp only at hSw); go_simp) <;> with_reducible rfl
  simp only [Act.put, List.getElem_toArray, List.getElem_cons_zero, List.getElem_cons_succ, List.setIfInBounds_toArray, List.set_cons_zero, List.set_cons_succ]
  refine anyL_ready (rs := [7]) (by kernel_rfl) (by simp) ?_
  refine AllL.cons rfl (fun K hK => ?_) AllL.nil
  go_simp
  refine (unhide HT).mono ?_
  rintro y w2 ⟨rfl, rfl⟩
  refine unhide hK _ _ (fun _ => trivial) ?_
  clear hK K HT
  refine anyL_take (i := 8) (v := ?vq65) rfl (by kernel_rfl) (by kernel_rfl) (by kernel_rfl) (by kernel_rfl) (fun _ _ _ h => h) (Or.inl ⟨by rfl, ?hq65⟩) (trivial) ?_
  case hq65 => (intro w hSw; (try dsimp only at hSw); go_simp) <;> with_reducible rfl
  simp only [Act.put, List.getElem_toArray, List.getElem_cons_zero, List.getElem_cons_succ, List.setIfInBounds_toArray, List.set_cons_zero, List.set_cons_succ]
  refine anyL_take (i := 9) (v := ?vq66) rfl (by kernel_rfl) (by kernel_rfl) (by kernel_rfl) (by kernel_rfl) (fun _ _ _ h => h) (Or.inl ⟨by rfl, ?hq66⟩) (trivial) ?_
  case hq66 => (intro w hSw; (try dsimp only at hSw); go_simp) <;> with_reducible rfl
  simp only [Act.put, List.getElem_toArray, List.getElem_cons_zero, List.getElem_cons_succ, List.setIfInBounds_toArray, List.set_cons_zero, List.set_cons_succ]
  refine anyL_take (i := 10) (v := ?vq67) rfl (by kernel_rfl) (by kernel_rfl) (by kernel_rfl) (by kernel_rfl) (fun _ _ _ h => h) (Or.inl ⟨by rfl, ?hq67⟩) (trivial) ?_
  case hq67 => (intro w hSw; (try dsimp only at hSw); go_simp) <;> with_reducible rfl
  simp only [Act.put, List.getElem_toArray, List.getElem_cons_zero, List.getElem_cons_succ, List.setIfInBounds_toArray, List.set_cons_zero, List.set_cons_succ]
  refine anyL_take (i := 11) (v := ?vq68) rfl (by kernel_rfl) (by kernel_rfl) (by kernel_rfl) (by kernel_rfl) (fun _ _ _ h => h) (Or.inl ⟨by rfl, ?hq68⟩) (trivial) ?_
  case hq68 => (intro w hSw; (try dsimp only at hSw); go_simp) <;> with_reducible rfl
  simp only [Act.put, List.getElem_toArray, List.getElem_cons_zero, List.getElem_cons_succ, List.setIfInBounds_toArray, List.set_cons_zero, List.set_cons_succ]
  refine anyL_take (i := 12) (v := ?vq69) rfl (by kernel_rfl) (by kernel_rfl) (by kernel_rfl) (by kernel_rfl) (fun _ _ _ h => h) (Or.inl ⟨by rfl, ?hq69⟩) (trivial) ?_
  case hq69 => (intro w hSw; (try dsimp only at hSw); go_simp) <;> with_reducible rfl
  simp only [Act.put, List.getElem_toArray, List.getElem_cons_zero, List.getElem_cons_succ, List.setIfInBounds_toArray, List.set_cons_zero, List.set_cons_succ]
  refine anyL_take (i := 13) (v := ?vq70) rfl (by kernel_rfl) (by kernel_rfl) (by kernel_rfl) (by kernel_rfl) (fun _ _ _ h => h) (Or.inl ⟨by rfl, ?hq70⟩) (trivial) ?_
  case hq70 => (intro w hSw; (try dsimp only at hSw); go_simp) <;> with_reducible rfl
  simp only [Act.put, List.getElem_toArray, List.getElem_cons_zero, List.getElem_cons_succ, List.setIfInBounds_toArray, List.set_cons_zero, List.set_cons_succ]
  refine anyL_done (by kernel_rfl) ?_ _
  go_wp2_with fail
  exact bodyPost_ret (results_tmp3 rfl _ _ _) rfl ⟨rfl, _, ⟨_, _, _, rfl, unhide HI⟩, unhide HG⟩
set_option maxRecDepth 100000 in
set_option maxHeartbeats 4000000 in
theorem Redo1I_at (X : World) (F : Nat → Prop) (g : Nat) (p : Pa Int) (h : PsI X F g p) (ho : p.o = none) (Q : List (Int × ByteArray)) (s : Int) (w : ByteArray) (hp : p.a = Q ++ [(s, w)]) (hn : p.b.length ≤ 4096) (hq : Q.length ≤ 4096) :
    Calls Try.prog 33 #[.pointer (some ⟨g, 0, none⟩)] X fun y Y => y = .returned (.tuple #[.int .i64 s, .string w, .int .i64 0]) ∧ ∃ G, PsI Y G g { p with s := s, a := Q, b := p.b ++ [(p.s, w)] } ∧ Gr F X G Y := by
  have HC := hide (busyI_at X F g p h)
  rw [ho] at HC
  obtain ⟨kb, ka, ko, rfl, h⟩ := h
  have hD := h.kpf (kpf_drew X) (fun _ _ e => e)
  have HT := hide (takeRI_at X.drew g p kb ka ko hD Q s w hp hn hq)
  have HG : Hid (Gr (FO g kb ka ko) X (FO g kb ka ko) X.drew) := hide ⟨(kpf_drew X).mono (fun _ _ e => e.elim), fun _ e => .inl e⟩
  clear h hD ho hp
  go_enter Try.func33, Try.ntmps33
  go_wp2_with fail
  refine (unhide HC).mono ?_
  rintro y w1 ⟨rfl, rfl⟩
  dsimp only
  simp only [Option.isSome_none, Bool.false_eq_true, if_false]
  clear HC
  go_upto_region 5 with fail
  refine regionL (S := fun _ => True) (fun _ => false) (by kernel_rfl) ?_
  refine anyL_take (i := 0) (v := ?vq71) rfl (by kernel_rfl) (by kernel_rfl) (by kernel_rfl) (by kernel_rfl) (fun _ _ _ h => h) (Or.inl ⟨by rfl, ?hq71⟩) (trivial) ?_
  case hq71 => (intro w hSw; (try dsimp only at hSw); go_simp) <;> with_reducible rfl
  simp only [Act.put, List.getElem_toArray, List.getElem_cons_zero, List.setIfInBounds_toArray, List.set_cons_zero, List.set_cons_succ]
  refine anyL_take (i := 1) (v := ?vq72) rfl (by kernel_rfl) (by kernel_rfl) (by kernel_rfl) (by kernel_rfl) (fun _ _ _ h => h) (Or.inl ⟨by rfl, ?hq72⟩) (trivial) ?_
  case hq72 => (intro w hSw; (try dsimp only at hSw); go_simp) <;> with_reducible rfl
  simp only [Act.put, List.getElem_toArray, List.getElem_cons_zero, List.getElem_cons_succ, List.setIfInBounds_toArray, List.set_cons_zero, List.set_cons_succ]
  refine anyL_take (i := 2) (v := ?vq73) rfl (by kernel_rfl) (by kernel_rfl) (by kernel_rfl) (by kernel_rfl) (fun _ _ _ h => h) (Or.inl ⟨by rfl, ?hq73⟩) (trivial) ?_
  case hq73 => (intro w hSw; (try dsimp only at hSw); go_simp) <;> with_reducible rfl
  simp only [Act.put, List.getElem_toArray, List.getElem_cons_zero, List.getElem_cons_succ, List.setIfInBounds_toArray, List.set_cons_zero, List.set_cons_succ]
  refine anyL_take (i := 3) (v := ?vq74) rfl (by kernel_rfl) (by kernel_rfl) (by kernel_rfl) (by kernel_rfl) (fun _ _ _ h => h) (Or.inl ⟨by rfl, ?hq74⟩) (trivial) ?_
  case hq74 => (intro w hSw; (try dsimp only at hSw); go_simp) <;> with_reducible rfl
  simp only [Act.put, List.getElem_toArray, List.getElem_cons_zero, List.getElem_cons_succ, List.setIfInBounds_toArray, List.set_cons_zero, List.set_cons_succ]
  refine anyL_take (i := 4) (v := ?vq75) rfl (by kernel_rfl) (by kernel_rfl) (by kernel_rfl) (by kernel_rfl) (fun _ _ _ h => h) (Or.inl ⟨by rfl, ?hq75⟩) (trivial) ?_
  case hq75 => (intro w hSw; (try dsimp only at hSw); go_simp) <;> with_reducible rfl
  simp only [Act.put, List.getElem_toArray, List.getElem_cons_zero, List.getElem_cons_succ, List.setIfInBounds_toArray, List.set_cons_zero, List.set_cons_succ]
  refine anyL_take (i := 5) (v := ?vq76) rfl (by kernel_rfl) (by kernel_rfl) (by kernel_rfl) (by kernel_rfl) (fun _ _ _ h => h) (Or.inl ⟨by rfl, ?hq76⟩) (trivial) ?_
  case hq76 => (intro w hSw; (try dsimp only at hSw); go_simp) <;> with_reducible rfl
  simp only [Act.put, List.getElem_toArray, List.getElem_cons_zero, List.getElem_cons_succ, List.setIfInBounds_toArray, List.set_cons_zero, List.set_cons_succ]
  refine anyL_take (i := 6) (v := ?vq77) rfl (by kernel_rfl) (by kernel_rfl) (by kernel_rfl) (by kernel_rfl) (fun _ _ _ h => h) (Or.inl ⟨by rfl, ?hq77⟩) (trivial) ?_
  case hq77 => (intro w hSw; (try dsimp only at hSw); go_simp) <;> with_reducible rfl
  simp only [Act.put, List.getElem_toArray, List.getElem_cons_zero, List.getElem_cons_succ, List.setIfInBounds_toArray, List.set_cons_zero, List.set_cons_succ]
  refine anyL_ready (rs := [7]) (by kernel_rfl) (by simp) ?_
  refine AllL.cons rfl (fun K hK => ?_) AllL.nil
  go_simp
  refine (unhide HT).mono ?_
  rintro y w2 ⟨rfl, k', i2, g2⟩
  have HI := hide i2
  have HGG := hide ((unhide HG).trans g2)
  clear HG i2 g2
  refine unhide hK _ _ (fun _ => trivial) ?_
  clear hK K HT
  refine anyL_take (i := 8) (v := ?vq78) rfl (by kernel_rfl) (by kernel_rfl) (by kernel_rfl) (by kernel_rfl) (fun _ _ _ h => h) (Or.inl ⟨by rfl, ?hq78⟩) (trivial) ?_
  case hq78 => (intro w hSw; (try dsimp only at hSw); go_simp) <;> with_reducible rfl
  simp only [Act.put, List.getElem_toArray, List.getElem_cons_zero, List.getElem_cons_succ, List.setIfInBounds_toArray, List.set_cons_zero, List.set_cons_succ]
  refine anyL_take (i := 9) (v := ?vq79) rfl (by kernel_rfl) (by kernel_rfl) (by kernel_rfl) (by kernel_rfl) (fun _ _ _ h => h) (Or.inl ⟨by rfl, ?hq79⟩) (trivial) ?_
  case hq79 => (intro w hSw; (try dsimp only at hSw); go_simp) <;> with_reducible rfl
  simp only [Act.put, List.getElem_toArray, List.getElem_cons_zero, List.getElem_cons_succ, List.setIfInBounds_toArray, List.set_cons_zero, List.set_cons_succ]
  refine anyL_take (i := 10) (v := ?vq80) rfl (by kernel_rfl) (by kernel_rfl) (by kernel_rfl) (by kernel_rfl) (fun _ _ _ h => h) (Or.inl ⟨by rfl, ?hq80⟩) (trivial) ?_
  case hq80 => (intro w hSw; (try dsimp only at hSw); go_simp) <;> with_reducible rfl
  simp only [Act.put, List.getElem_toArray, List.getElem_cons_zero, List.getElem_cons_succ, List.setIfInBounds_toArray, List.set_cons_zero, List.set_cons_succ]
  refine anyL_take (i := 11) (v := ?vq81) rfl (by kernel_rfl) (by kernel_rfl) (by kernel_rfl) (by kernel_rfl) (fun _ _ _ h => h) (Or.inl ⟨by rfl, ?hq81⟩) (trivial) ?_
  case hq81 => (intro w hSw; (try dsimp only at hSw); go_simp) <;> with_reducible rfl
  simp only [Act.put, List.getElem_toArray, List.getElem_cons_zero, List.getElem_cons_succ, List.setIfInBounds_toArray, List.set_cons_zero, List.set_cons_succ]
  refine anyL_take (i := 12) (v := ?vq82) rfl (by kernel_rfl) (by kernel_rfl) (by kernel_rfl) (by kernel_rfl) (fun _ _ _ h => h) (Or.inl ⟨by rfl, ?hq82⟩) (trivial) ?_
  case hq82 => (intro w hSw; (try dsimp only at hSw); go_simp) <;> with_reducible rfl
  simp only [Act.put, List.getElem_toArray, List.getElem_cons_zero, List.getElem_cons_succ, List.setIfInBounds_toArray, List.set_cons_zero, List.set_cons_succ]
  refine anyL_take (i := 13) (v := ?vq83) rfl (by kernel_rfl) (by kernel_rfl) (by kernel_rfl) (by kernel_rfl) (fun _ _ _ h => h) (Or.inl ⟨by rfl, ?hq83⟩) (trivial) ?_
  case hq83 => (intro w hSw; (try dsimp only at hSw); go_simp) <;> with_reducible rfl
  simp only [Act.put, List.getElem_toArray, List.getElem_cons_zero, List.getElem_cons_succ, List.setIfInBounds_toArray, List.set_cons_zero, List.set_cons_succ]
  refine anyL_done (by kernel_rfl) ?_ _
  go_wp2_with fail
  exact bodyPost_ret (results_tmp3 rfl _ _ _) rfl ⟨rfl, _, ⟨_, _, _, rfl, unhide HI⟩, unhide HGG⟩
end Go.Proofs.Ytdemfejladepjaa
