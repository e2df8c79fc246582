/- Layer 17: the calls of a past of states string, from outside. Written by wip/tools/pas.py. -/
import Derived.Test.YtdemfejladepjaaMg10

namespace Go.Proofs.Ytdemfejladepjaa
open Go.ChangeShapes Go.WideShapes Go.ChangeAt Go.RowKit
attribute [local go_sem] Oper.semAt_some

/-- a *Past, with the blocks that it has -/
def PsS (X : World) (F : Nat → Prop) (g : Nat) (p : Pa ByteArray) : Prop := ∃ kb ka ko, F = FO g kb ka ko ∧ IspS X g p kb ka ko
theorem PsS.lt {X : World} {F : Nat → Prop} {g : Nat} {p : Pa ByteArray} (h : PsS X F g p) : ∀ i, F i → i < X.heap.size := by
  obtain ⟨kb, ka, ko, rfl, h⟩ := h
  exact h.lt
theorem PsS.g {X : World} {F : Nat → Prop} {g : Nat} {p : Pa ByteArray} (h : PsS X F g p) : F g := by
  obtain ⟨kb, ka, ko, rfl, h⟩ := h
  exact .inl rfl
theorem PsS.kpf {F G : Nat → Prop} {X Y : World} {g : Nat} {p : Pa ByteArray} (h : PsS X F g p) (k : KpF G X Y) (hF : ∀ i, F i → ¬ G i) : PsS Y F g p := by
  obtain ⟨kb, ka, ko, rfl, h⟩ := h
  exact ⟨kb, ka, ko, rfl, h.kpf k hF⟩
theorem PsS.below {F : Nat → Prop} {X Y : World} {g : Nat} {p : Pa ByteArray} (h : PsS X F g p) (k : Below X.heap.size X Y) : PsS Y F g p := h.kpf (G := fun _ => False) (KpF.of k) (fun _ _ e => e)
set_option maxRecDepth 100000 in
set_option maxHeartbeats 4000000 in
theorem calledS_at (s : ByteArray) (w : ByteArray) (X : World) (hw : w.size ≤ 281474976710656) :
    Calls Try.prog 25 #[.string s, .string w] X fun y Y => y = .returned (.agg #[.string s, .string w]) ∧ Below X.heap.size X Y := by
  have b0 := (Below.refl X.heap.size X).alloc (Nat.le_refl _) (.cells #[.string ⟨#[]⟩, .string ⟨#[]⟩] 68)
  have HC := hide (clo_at w (X.alloc (.cells #[.string ⟨#[]⟩, .string ⟨#[]⟩] 68)) hw)
  have HK := hide (Cls.new X 68 #[.string ⟨#[]⟩, .string ⟨#[]⟩])
  have HB := hide b0
  clear hw b0
  go_enter Try.func25, Try.ntmps25
  go_wp2_with fail
  refine (unhide HC).mono ?_
  rintro y w1 ⟨rfl, x1⟩
  dsimp only
  have k1 := (unhide HK).below x1 (unhide HK).lt
  have HX := hide ((unhide HB).trans (x1.mono (unhide HB).size))
  have a0 := k1.cell 0
  have f0 := k1.frozen 0
  have a1 := k1.cell 1
  have f1 := k1.frozen 1
  simp only [List.getElem?_toArray, List.getElem?_cons_zero, List.getElem?_cons_succ] at a0 a1
  have k2 := ((k1.set 0 (.string s)).set 1 (.string w))
  have HXX := hide (((unhide HX).setCell (p := ⟨X.heap.size, 0, none⟩) (Nat.le_refl _) (.string s)).setCell (p := ⟨X.heap.size, 1, none⟩) (Nat.le_refl _) (.string w))
  have q0 := k2.cell 0
  have q1 := k2.cell 1
  simp only [List.getElem?_toArray, List.getElem?_cons_zero, List.getElem?_cons_succ, List.setIfInBounds_toArray, List.set_cons_zero, List.set_cons_succ] at q0 q1
  clear HC HK HB x1 k1 k2 HX
  go_wp2_with fail
  generalize ((w1.setCell ⟨X.heap.size, 0, none⟩ (.string s)).setCell ⟨X.heap.size, 1, none⟩ (.string w)) = W at *
  exact bodyPost_ret (v := .agg #[.string s, .string w]) (by simp [results, Try.results25, go_sem, q0, q1]) rfl ⟨rfl, unhide HXX⟩
theorem setAS {X : World} {g : Nat} {p : Pa ByteArray} {kb ka ko : Option Nat} (h : IspS X g p kb ka ko) : IspS (X.setCell ⟨g, 3, none⟩ (.slice none 0 0)) g { p with a := [] } kb none ko ∧ Gr (FO g kb ka ko) X (FO g kb none ko) (X.setCell ⟨g, 3, none⟩ (.slice none 0 0)) := by
  obtain ⟨vb, va, vo, h1, h2, h3, h4⟩ := h.c
  have hd := h.d
  have kk := KpF.set (F := fun i => i = g) X ⟨g, 3, none⟩ (.slice none 0 0) rfl
  have hC := h1.set 3 (.slice none 0 0)
  refine ⟨⟨⟨vb, .slice none 0 0, vo, by simpa using hC, h2.kpf kk (fun i e e1 => hd.gb (e1 ▸ e)), RA.nil _ _, h4.kpf kk (fun i e e1 => hd.go (e1 ▸ e))⟩, ⟨hd.gb, by simp, hd.go, fun _ _ e => (nomatch e), hd.bo, fun _ e => (nomatch e)⟩⟩, ⟨kk.mono (fun i _ e => .inl e), fun i e => .inl ?_⟩⟩
  rcases e with e | e | e | e
  · exact .inl e
  · exact .inr (.inl e)
  · cases e
  · exact .inr (.inr (.inr e))
theorem setBS {X : World} {g : Nat} {p : Pa ByteArray} {kb ka ko : Option Nat} (h : IspS X g p kb ka ko) : IspS (X.setCell ⟨g, 2, none⟩ (.slice none 0 0)) g { p with b := [] } none ka ko ∧ Gr (FO g kb ka ko) X (FO g none ka ko) (X.setCell ⟨g, 2, none⟩ (.slice none 0 0)) := by
  obtain ⟨vb, va, vo, h1, h2, h3, h4⟩ := h.c
  have hd := h.d
  have kk := KpF.set (F := fun i => i = g) X ⟨g, 2, none⟩ (.slice none 0 0) rfl
  have hC := h1.set 2 (.slice none 0 0)
  refine ⟨⟨⟨.slice none 0 0, va, vo, by simpa using hC, RA.nil _ _, h3.kpf kk (fun i e e1 => hd.ga (e1 ▸ e)), h4.kpf kk (fun i e e1 => hd.go (e1 ▸ e))⟩, ⟨by simp, hd.ga, hd.go, fun _ e => (nomatch e), fun _ e => (nomatch e), hd.ao⟩⟩, ⟨kk.mono (fun i _ e => .inl e), fun i e => .inl ?_⟩⟩
  rcases e with e | e | e | e
  · exact .inl e
  · cases e
  · exact .inr (.inr (.inl e))
  · exact .inr (.inr (.inr e))
theorem setOS {X : World} {g : Nat} {p : Pa ByteArray} {kb ka ko : Option Nat} (h : IspS X g p kb ka ko) : IspS (X.setCell ⟨g, 4, none⟩ (.pointer none)) g { p with o := none } kb ka none ∧ Gr (FO g kb ka ko) X (FO g kb ka none) (X.setCell ⟨g, 4, none⟩ (.pointer none)) := by
  obtain ⟨vb, va, vo, h1, h2, h3, h4⟩ := h.c
  have hd := h.d
  have kk := KpF.set (F := fun i => i = g) X ⟨g, 4, none⟩ (.pointer none) rfl
  have hC := h1.set 4 (.pointer none)
  refine ⟨⟨⟨vb, va, .pointer none, by simpa using hC, h2.kpf kk (fun i e e1 => hd.gb (e1 ▸ e)), h3.kpf kk (fun i e e1 => hd.ga (e1 ▸ e)), .inl ⟨rfl, rfl, rfl⟩⟩, ⟨hd.gb, hd.ga, by simp, hd.ba, fun _ _ e => (nomatch e), fun _ _ e => (nomatch e)⟩⟩, ⟨kk.mono (fun i _ e => .inl e), fun i e => .inl ?_⟩⟩
  rcases e with e | e | e | e
  · exact .inl e
  · exact .inr (.inl e)
  · exact .inr (.inr (.inl e))
  · cases e
theorem openedS {X : World} {g : Nat} {p : Pa ByteArray} {kb ka ko : Option Nat} (h : IspS X g p kb ka ko) (s : ByteArray) (w : ByteArray) : IspS ((X.alloc (.cells #[.string s, .string w, .bool false] 71)).setCell ⟨g, 4, none⟩ (.pointer (some ⟨X.heap.size, 0, none⟩))) g { p with o := some ((s, w), false) } kb ka (some X.heap.size) ∧ Gr (FO g kb ka ko) X (FO g kb ka (some X.heap.size)) ((X.alloc (.cells #[.string s, .string w, .bool false] 71)).setCell ⟨g, 4, none⟩ (.pointer (some ⟨X.heap.size, 0, none⟩))) := by
  obtain ⟨vb, va, vo, h1, h2, h3, h4⟩ := h.c
  have hd := h.d
  have hlt := h.lt
  have ka0 := KpF.alloc (fun i => i = g) X (.cells #[.string s, .string w, .bool false] 71)
  have kk := ka0.trans (KpF.set (F := fun i => i = g) _ ⟨g, 4, none⟩ (.pointer (some ⟨X.heap.size, 0, none⟩)) rfl) (fun _ _ e => e)
  have hg : g < X.heap.size := h1.lt
  have hC := (h1.alloc (.cells #[.string s, .string w, .bool false] 71)).set 4 (.pointer (some ⟨X.heap.size, 0, none⟩))
  have hG := (Cls.new X 71 #[.string s, .string w, .bool false]).other ⟨g, 4, none⟩ (.pointer (some ⟨X.heap.size, 0, none⟩)) (by dsimp only; omega)
  refine ⟨⟨⟨vb, va, .pointer (some ⟨X.heap.size, 0, none⟩), by simpa using hC, h2.kpf kk (fun i e e1 => hd.gb (e1 ▸ e)), h3.kpf kk (fun i e e1 => hd.ga (e1 ▸ e)), .inr ⟨s, w, false, X.heap.size, rfl, rfl, rfl, hG⟩⟩,
    ⟨hd.gb, hd.ga, fun e => by injection e; omega, hd.ba, fun i e e1 => ?_, fun i e e1 => ?_⟩⟩, ⟨kk.mono (fun i _ e => .inl e), fun i e => ?_⟩⟩
  · injection e1 with e1; have := hlt i (.inr (.inl e)); omega
  · injection e1 with e1; have := hlt i (.inr (.inr (.inl e))); omega
  · rcases e with e | e | e | e
    · exact .inl (.inl e)
    · exact .inl (.inr (.inl e))
    · exact .inl (.inr (.inr (.inl e)))
    · injection e with e; exact .inr (by omega)
theorem doneOS {X : World} {g i : Nat} {p : Pa ByteArray} {kb ka ko : Option Nat} (h : IspS X g p kb ka ko) (x : ByteArray × ByteArray) (d : Bool) (hx : p.o = some (x, d)) (hi : ko = some i) : IspS (X.setCell ⟨i, 2, none⟩ (.bool true)) g { p with o := some (x, true) } kb ka ko ∧ Gr (FO g kb ka ko) X (FO g kb ka ko) (X.setCell ⟨i, 2, none⟩ (.bool true)) := by
  obtain ⟨vb, va, vo, h1, h2, h3, h4⟩ := h.c
  have hd := h.d
  have kk := KpF.set (F := fun j => j = i) X ⟨i, 2, none⟩ (.bool true) rfl
  rcases h4 with ⟨e, _⟩ | ⟨s, w, d', i', e1, e2, e3, e4⟩
  · rw [e] at hx; cases hx
  · rw [e1] at hx; cases hx
    rw [e3] at hi; cases hi
    have hG := e4.set 2 (.bool true)
    refine ⟨⟨⟨vb, va, vo, h1.kpf kk (fun e => hd.go (e ▸ e3)), h2.kpf kk (fun j e ee => hd.bo j e (ee ▸ e3)), h3.kpf kk (fun j e ee => hd.ao j e (ee ▸ e3)), .inr ⟨s, w, true, i, rfl, e2, e3, by simpa using hG⟩⟩, hd⟩, ⟨kk.mono (fun j _ e => .inr (.inr (.inr (e ▸ e3)))), fun _ e => .inl e⟩⟩
set_option maxRecDepth 100000 in
set_option maxHeartbeats 4000000 in
theorem busyS_at (X : World) (F : Nat → Prop) (g : Nat) (p : Pa ByteArray) (h : PsS X F g p) :
    Calls Try.prog 26 #[.pointer (some ⟨g, 0, none⟩)] X fun y Y => y = .returned (.int .i64 (if p.o.isSome then 171 else 0)) ∧ Y = X := by
  obtain ⟨kb, ka, ko, rfl, h⟩ := h
  obtain ⟨vb, va, vo, h1, h2, h3, h4⟩ := h.c
  have c4 : X.cell? ⟨g, 4, none⟩ = some vo := (h1.cell 4).trans rfl
  rcases h4 with ⟨e1, rfl, _⟩ | ⟨s, w, d, i, e1, rfl, _, _⟩
  · rw [e1]
    clear h h1 h2 h3 e1
    go_enter Try.func26, Try.ntmps26
    go_wp2_with fail
    exact bodyPost_ret (results_tmp rfl _ _ _) rfl ⟨rfl, rfl⟩
  · rw [e1]
    clear h h1 h2 h3 e1
    go_enter Try.func26, Try.ntmps26
    go_wp2_with fail
    exact bodyPost_ret (results_tmp rfl _ _ _) rfl ⟨rfl, rfl⟩
set_option maxRecDepth 100000 in
set_option maxHeartbeats 4000000 in
theorem NowS_at (X : World) (F : Nat → Prop) (g : Nat) (p : Pa ByteArray) (h : PsS X F g p) :
    Calls Try.prog 12 #[.pointer (some ⟨g, 0, none⟩)] X fun y Y => y = .returned (.string p.s) ∧ Y = X := by
  obtain ⟨kb, ka, ko, rfl, h⟩ := h
  obtain ⟨vb, va, vo, h1, h2, h3, h4⟩ := h.c
  have c0 : X.cell? ⟨g, 0, none⟩ = some (.string p.s) := (h1.cell 0).trans rfl
  clear h h1 h2 h3 h4
  go_enter Try.func12, Try.ntmps12
  go_wp2_with fail
  exact bodyPost_ret (results_tmp rfl _ _ _) rfl ⟨rfl, rfl⟩
set_option maxRecDepth 100000 in
set_option maxHeartbeats 4000000 in
theorem Do0S_at (X : World) (F : Nat → Prop) (g : Nat) (p : Pa ByteArray) (h : PsS X F g p) (x : ByteArray) (w : ByteArray) (ho : p.o = none) (hw : w.size ≤ 281474976710656) (hb : p.b.length ≤ 4096) :
    Calls Try.prog 10 #[.pointer (some ⟨g, 0, none⟩), .string x, .string w] X fun y Y => y = .returned (.int .i64 0) ∧ ∃ G, PsS Y G g (doP p x w) ∧ Gr F X G Y := by
  have hdo : doP p x w = ⟨x, p.m, keepP p.m p.b (p.s, w), [], none⟩ := by unfold doP; rw [ho]
  rw [hdo]
  clear hdo
  have HP := hide h
  obtain ⟨kb, ka, ko, rfl, h⟩ := h
  obtain ⟨vb, va, vo, h1, h2, h3, h4⟩ := h.c
  have c9 : X.cell? ⟨g, 4, none⟩ = some (.pointer none) := by
    rcases h4 with ⟨_, e, _⟩ | ⟨_, _, _, _, e, _⟩
    · rw [← e]; exact (h1.cell 4).trans rfl
    · rw [ho] at e; cases e
  have c0 : X.cell? ⟨g, 0, none⟩ = some (.string p.s) := (h1.cell 0).trans rfl
  have HC := hide (calledS_at p.s w X hw)
  have HI := hide h
  have HO := hide ho
  clear h h1 h2 h3 h4 hw ho
  go_enter Try.func10, Try.ntmps10
  go_wp2_with fail
  refine (unhide HC).mono ?_
  rintro y w1 ⟨rfl, x1⟩
  dsimp only
  have HC2 := hide (keepS_at w1 g p kb ka ko ((unhide HI).kpf (F := fun _ => False) (KpF.of x1) (fun _ _ e => e)) p.s w hb)
  have HX1 : Hid (Gr (FO g kb ka ko) X (FO g kb ka ko) w1) := hide ⟨KpF.of x1, fun _ e => .inl e⟩
  clear HC HI x1 c9 c0
  go_wp2_with fail
  refine (unhide HC2).mono ?_
  rintro y w2 ⟨rfl, kb', i2, g2⟩
  dsimp only
  obtain ⟨i3, g3⟩ := setAS i2
  obtain ⟨i4, g4⟩ := stateS i3 x
  have HG := hide ((((unhide HX1).trans g2).trans g3).trans g4)
  dsimp only at i4
  rw [unhide HO] at i4
  have HI4 := hide i4
  obtain ⟨vb, va, vo, h1, h2, h3, h4⟩ := i2.c
  obtain ⟨vb3, va3, vo3, h13, _⟩ := i3.c
  have a9 : w2.cell? ⟨g, 3, none⟩ = some va := (h1.cell 3).trans rfl
  have f9 := h1.frozen 3
  have b0 : (w2.setCell ⟨g, 3, none⟩ (.slice none 0 0)).cell? ⟨g, 0, none⟩ = some (.string p.s) := (h13.cell 0).trans rfl
  have e0 := h13.frozen 0
  clear HC2 HX1 h1 h2 h3 h4 h13 i2 i3 i4 g2 g3 g4
  go_upto_region 7 with fail
  go_wp2_with fail
  exact bodyPost_ret (results_tmp rfl _ _ _) rfl ⟨rfl, _, ⟨_, _, _, rfl, unhide HI4⟩, unhide HG⟩
set_option maxRecDepth 100000 in
set_option maxHeartbeats 4000000 in
theorem Do1S_at (X : World) (F : Nat → Prop) (g : Nat) (p : Pa ByteArray) (h : PsS X F g p) (x : ByteArray) (w : ByteArray) (y : ByteArray × ByteArray) (d : Bool) (ho : p.o = some (y, d)) :
    Calls Try.prog 10 #[.pointer (some ⟨g, 0, none⟩), .string x, .string w] X fun z Y => z = .returned (.int .i64 0) ∧ ∃ G, PsS Y G g (doP p x w) ∧ Gr F X G Y := by
  have hdo : doP p x w = ⟨x, p.m, p.b, [], some (y, true)⟩ := by unfold doP; rw [ho]
  rw [hdo]
  clear hdo
  obtain ⟨kb, ka, ko, rfl, h⟩ := h
  obtain ⟨vb, va, vo, h1, h2, h3, h4⟩ := h.c
  rcases h4 with ⟨e, _⟩ | ⟨s1, w1, d1, i, e1, rfl, e3, h5⟩
  · rw [ho] at e; cases e
  have c9 : X.cell? ⟨g, 4, none⟩ = some (.pointer (some ⟨i, 0, none⟩)) := (h1.cell 4).trans rfl
  have c8 : X.cell? ⟨i, 2, none⟩ = some (.bool d1) := (h5.cell 2).trans rfl
  have f8 := h5.frozen 2
  obtain ⟨i2, g2⟩ := doneOS h y d ho e3
  obtain ⟨i3, g3⟩ := setAS i2
  obtain ⟨i4, g4⟩ := stateS i3 x
  have HG := hide ((g2.trans g3).trans g4)
  dsimp only at i4
  have HI4 := hide i4
  obtain ⟨vb2, va2, vo2, h12, _⟩ := i2.c
  obtain ⟨vb3, va3, vo3, h13, _⟩ := i3.c
  have H12 := hide h12
  have H13 := hide h13
  clear h h1 h2 h3 h5 i2 i3 i4 g2 g3 g4 h12 h13 ho e1 e3
  go_enter Try.func10, Try.ntmps10
  go_upto_region 6 with fail
  generalize (X.setCell ⟨i, 2, none⟩ (.bool true)) = w2 at *
  have a9 : w2.cell? ⟨g, 3, none⟩ = some va2 := ((unhide H12).cell 3).trans rfl
  have f9 := (unhide H12).frozen 3
  have b0 : (w2.setCell ⟨g, 3, none⟩ (.slice none 0 0)).cell? ⟨g, 0, none⟩ = some (.string p.s) := ((unhide H13).cell 0).trans rfl
  have e0 := (unhide H13).frozen 0
  clear H12 H13 c9 c8 f8
  go_upto_region 7 with fail
  go_wp2_with fail
  exact bodyPost_ret (results_tmp rfl _ _ _) rfl ⟨rfl, _, ⟨_, _, _, rfl, unhide HI4⟩, unhide HG⟩
set_option maxRecDepth 100000 in
set_option maxHeartbeats 4000000 in
theorem NewS_at (s : ByteArray) (m : Int) (X : World) (h : 0 ≤ m ∧ m ≤ 4096) :
    Calls Try.prog 9 #[.string s, .int .i64 m] X fun y Y => ∃ g F, y = .returned (.tuple #[.pointer (some ⟨g, 0, none⟩), .int .i64 0]) ∧ PsS Y F g ⟨s, m, [], [], none⟩ ∧ (∀ i, F i → X.heap.size ≤ i) ∧ Below X.heap.size X Y := by
  have t1 : decide (m < 0) = false := decide_eq_false (by omega)
  have t2 : decide (m > 4096) = false := decide_eq_false (by omega)
  have t2' : decide (4096 < m) = false := decide_eq_false (by omega)
  have k1 := Cls.new X 65 #[.string s, .int .i64 m, .slice none 0 0, .slice none 0 0, .pointer none]
  have HI : Hid (IspS (X.alloc (.cells #[.string s, .int .i64 m, .slice none 0 0, .slice none 0 0, .pointer none] 65)) X.heap.size ⟨s, m, [], [], none⟩ none none none) := hide ⟨⟨_, _, _, k1, RA.nil _ _, RA.nil _ _, .inl ⟨rfl, rfl, rfl⟩⟩, ⟨by simp, by simp, by simp, fun _ e => (nomatch e), fun _ e => (nomatch e), fun _ e => (nomatch e)⟩⟩
  have HB := hide ((Below.refl X.heap.size X).alloc (Nat.le_refl _) (.cells #[.string s, .int .i64 m, .slice none 0 0, .slice none 0 0, .pointer none] 65))
  clear h k1
  go_enter Try.func9, Try.ntmps9
  go_wp2_with fail
  exact bodyPost_ret (results_tmp2 rfl _ _ _) rfl ⟨_, _, rfl, ⟨_, _, _, rfl, unhide HI⟩, (fun i e => by rcases e with e | e | e | e <;> first | exact Nat.le_of_eq e.symm | cases e), unhide HB⟩
set_option maxRecDepth 100000 in
set_option maxHeartbeats 4000000 in
theorem NewES_at (s : ByteArray) (m : Int) (X : World) (h : ¬ (0 ≤ m ∧ m ≤ 4096)) :
    Calls Try.prog 9 #[.string s, .int .i64 m] X fun y Y => y = .returned (.tuple #[.pointer none, .int .i64 2]) ∧ Y = X := by
  by_cases h1 : m < 0
  · have t1 : decide (m < 0) = true := decide_eq_true h1
    clear h1 h
    go_enter Try.func9, Try.ntmps9
    go_wp2_with fail
    exact bodyPost_ret (results_tmp2 rfl _ _ _) rfl ⟨rfl, rfl⟩
  · have t1 : decide (m < 0) = false := decide_eq_false h1
    have t2 : decide (m > 4096) = true := decide_eq_true (by omega)
    have t2' : decide (4096 < m) = true := decide_eq_true (by omega)
    clear h1 h
    go_enter Try.func9, Try.ntmps9
    go_wp2_with fail
    exact bodyPost_ret (results_tmp2 rfl _ _ _) rfl ⟨rfl, rfl⟩
set_option maxRecDepth 100000 in
set_option maxHeartbeats 4000000 in
theorem Undo2S_at (X : World) (F : Nat → Prop) (g : Nat) (p : Pa ByteArray) (h : PsS X F g p) (ho : p.o.isSome = true) :
    Calls Try.prog 11 #[.pointer (some ⟨g, 0, none⟩)] X fun y Y => y = .returned (.tuple #[.string ⟨#[]⟩, .string ⟨#[]⟩, .int .i64 171]) ∧ Y = X := by
  have HC := hide (busyS_at X F g p h)
  rw [ho] at HC
  clear h ho
  go_enter Try.func11, Try.ntmps11
  go_wp2_with fail
  refine (unhide HC).mono ?_
  rintro y w1 ⟨rfl, rfl⟩
  dsimp only
  simp only [if_true]
  clear HC
  go_wp2_with fail
  exact bodyPost_ret (results_tmp3 rfl _ _ _) rfl ⟨rfl, rfl⟩
set_option maxRecDepth 100000 in
set_option maxHeartbeats 4000000 in
theorem Undo0S_at (X : World) (F : Nat → Prop) (g : Nat) (p : Pa ByteArray) (h : PsS X F g p) (ho : p.o = none) (hp : p.b = []) :
    Calls Try.prog 11 #[.pointer (some ⟨g, 0, none⟩)] X fun y Y => y = .returned (.tuple #[.string ⟨#[]⟩, .string ⟨#[]⟩, .int .i64 170]) ∧ ∃ G, PsS Y G g p ∧ Gr F X G Y := by
  have HC := hide (busyS_at X F g p h)
  rw [ho] at HC
  obtain ⟨kb, ka, ko, rfl, h⟩ := h
  have hD := h.kpf (kpf_drew X) (fun _ _ e => e)
  have HT := hide (takeU0S_at X.drew g p kb ka ko hD hp)
  have HI := hide hD
  have HG : Hid (Gr (FO g kb ka ko) X (FO g kb ka ko) X.drew) := hide ⟨(kpf_drew X).mono (fun _ _ e => e.elim), fun _ e => .inl e⟩
  clear h hD ho hp
  go_enter Try.func11, Try.ntmps11
  go_wp2_with fail
  refine (unhide HC).mono ?_
  rintro y w1 ⟨rfl, rfl⟩
  dsimp only
  simp only [Option.isSome_none, Bool.false_eq_true, if_false]
  clear HC
  go_upto_region 5 with fail
  refine regionL (S := fun _ => True) (fun _ => false) (by kernel_rfl) ?_
  refine anyL_take (i := 0) (v := ?vq20) rfl (by kernel_rfl) (by kernel_rfl) (by kernel_rfl) (by kernel_rfl) (fun _ _ _ h => h) (Or.inl ⟨by rfl, ?hq20⟩) (trivial) ?_
  case hq20 => (intro w hSw; (try dsimp only at hSw); go_simp) <;> with_reducible rfl
  simp only [Act.put, List.getElem_toArray, List.getElem_cons_zero, List.setIfInBounds_toArray, List.set_cons_zero, List.set_cons_succ]
  refine anyL_take (i := 1) (v := ?vq21) rfl (by kernel_rfl) (by kernel_rfl) (by kernel_rfl) (by kernel_rfl) (fun _ _ _ h => h) (Or.inl ⟨by rfl, ?hq21⟩) (trivial) ?_
  case hq21 => (intro w hSw; (try dsimp only at hSw); go_simp) <;> with_reducible rfl
  simp only [Act.put, List.getElem_toArray, List.getElem_cons_zero, List.getElem_cons_succ, List.setIfInBounds_toArray, List.set_cons_zero, List.set_cons_succ]
  refine anyL_take (i := 2) (v := ?vq22) rfl (by kernel_rfl) (by kernel_rfl) (by kernel_rfl) (by kernel_rfl) (fun _ _ _ h => h) (Or.inl ⟨by rfl, ?hq22⟩) (trivial) ?_
  case hq22 => (intro w hSw; (try dsimp only at hSw); go_simp) <;> with_reducible rfl
  simp only [Act.put, List.getElem_toArray, List.getElem_cons_zero, List.getElem_cons_succ, List.setIfInBounds_toArray, List.set_cons_zero, List.set_cons_succ]
  refine anyL_take (i := 3) (v := ?vq23) rfl (by kernel_rfl) (by kernel_rfl) (by kernel_rfl) (by kernel_rfl) (fun _ _ _ h => h) (Or.inl ⟨by rfl, ?hq23⟩) (trivial) ?_
  case hq23 => (intro w hSw; (try dsimp only at hSw); go_simp) <;> with_reducible rfl
  simp only [Act.put, List.getElem_toArray, List.getElem_cons_zero, List.getElem_cons_succ, List.setIfInBounds_toArray, List.set_cons_zero, List.set_cons_succ]
  refine anyL_take (i := 4) (v := ?vq24) rfl (by kernel_rfl) (by kernel_rfl) (by kernel_rfl) (by kernel_rfl) (fun _ _ _ h => h) (Or.inl ⟨by rfl, ?hq24⟩) (trivial) ?_
  case hq24 => (intro w hSw; (try dsimp only at hSw); go_simp) <;> with_reducible rfl
  simp only [Act.put, List.getElem_toArray, List.getElem_cons_zero, List.getElem_cons_succ, List.setIfInBounds_toArray, List.set_cons_zero, List.set_cons_succ]
  refine anyL_take (i := 5) (v := ?vq25) rfl (by kernel_rfl) (by kernel_rfl) (by kernel_rfl) (by kernel_rfl) (fun _ _ _ h => h) (Or.inl ⟨by rfl, ?hq25⟩) (trivial) ?_
  case hq25 => (intro w hSw; (try dsimp only at hSw); go_simp) <;> with_reducible rfl
  simp only [Act.put, List.getElem_toArray, List.getElem_cons_zero, List.getElem_cons_succ, List.setIfInBounds_toArray, List.set_cons_zero, List.set_cons_succ]
  refine anyL_take (i := 6) (v := ?vq26) rfl (by kernel_rfl) (by kernel_rfl) (by kernel_rfl) (by kernel_rfl) (fun _ _ _ h => h) (Or.inl ⟨by rfl, ?hq26⟩) (trivial) ?_
  case hq26 => (intro w hSw; (try dsimp only at hSw); go_simp) <;> with_reducible rfl
  simp only [Act.put, List.getElem_toArray, List.getElem_cons_zero, List.getElem_cons_succ, List.setIfInBounds_toArray, List.set_cons_zero, List.set_cons_succ]
  refine anyL_ready (rs := [7]) (by kernel_rfl) (by simp) ?_
  refine AllL.cons rfl (fun K hK => ?_) AllL.nil
  go_simp
  refine (unhide HT).mono ?_
  rintro y w2 ⟨rfl, rfl⟩
  refine unhide hK _ _ (fun _ => trivial) ?_
  clear hK K HT
  refine anyL_take (i := 8) (v := ?vq27) rfl (by kernel_rfl) (by kernel_rfl) (by kernel_rfl) (by kernel_rfl) (fun _ _ _ h => h) (Or.inl ⟨by rfl, ?hq27⟩) (trivial) ?_
  case hq27 => (intro w hSw; (try dsimp only at hSw); go_simp) <;> with_reducible rfl
  simp only [Act.put, List.getElem_toArray, List.getElem_cons_zero, List.getElem_cons_succ, List.setIfInBounds_toArray, List.set_cons_zero, List.set_cons_succ]
  refine anyL_take (i := 9) (v := ?vq28) rfl (by kernel_rfl) (by kernel_rfl) (by kernel_rfl) (by kernel_rfl) (fun _ _ _ h => h) (Or.inl ⟨by rfl, ?hq28⟩) (trivial) ?_
  case hq28 => (intro w hSw; (try dsimp only at hSw); go_simp) <;> with_reducible rfl
  simp only [Act.put, List.getElem_toArray, List.getElem_cons_zero, List.getElem_cons_succ, List.setIfInBounds_toArray, List.set_cons_zero, List.set_cons_succ]
  refine anyL_take (i := 10) (v := ?vq29) rfl (by kernel_rfl) (by kernel_rfl) (by kernel_rfl) (by kernel_rfl) (fun _ _ _ h => h) (Or.inl ⟨by rfl, ?hq29⟩) (trivial) ?_
  case hq29 => (intro w hSw; (try dsimp only at hSw); go_simp) <;> with_reducible rfl
  simp only [Act.put, List.getElem_toArray, List.getElem_cons_zero, List.getElem_cons_succ, List.setIfInBounds_toArray, List.set_cons_zero, List.set_cons_succ]
  refine anyL_take (i := 11) (v := ?vq30) rfl (by kernel_rfl) (by kernel_rfl) (by kernel_rfl) (by kernel_rfl) (fun _ _ _ h => h) (Or.inl ⟨by rfl, ?hq30⟩) (trivial) ?_
  case hq30 => (intro w hSw; (try dsimp only at hSw); go_simp) <;> with_reducible rfl
  simp only [Act.put, List.getElem_toArray, List.getElem_cons_zero, List.getElem_cons_succ, List.setIfInBounds_toArray, List.set_cons_zero, List.set_cons_succ]
  refine anyL_take (i := 12) (v := ?vq31) rfl (by kernel_rfl) (by kernel_rfl) (by kernel_rfl) (by kernel_rfl) (fun _ _ _ h => h) (Or.inl ⟨by rfl, ?hq31⟩) (trivial) ?_
  case hq31 => (intro w hSw; (try dsimp only at hSw); go_simp) <;> with_reducible rfl
  simp only [Act.put, List.getElem_toArray, List.getElem_cons_zero, List.getElem_cons_succ, List.setIfInBounds_toArray, List.set_cons_zero, List.set_cons_succ]
  refine anyL_take (i := 13) (v := ?vq32) rfl (by kernel_rfl) (by kernel_rfl) (by kernel_rfl) (by kernel_rfl) (fun _ _ _ h => h) (Or.inl ⟨by rfl, ?hq32⟩) (trivial) ?_
  case hq32 => (intro w hSw; (try dsimp only at hSw); go_simp) <;> with_reducible rfl
  simp only [Act.put, List.getElem_toArray, List.getElem_cons_zero, List.getElem_cons_succ, List.setIfInBounds_toArray, List.set_cons_zero, List.set_cons_succ]
  refine anyL_done (by kernel_rfl) ?_ _
  go_wp2_with fail
  exact bodyPost_ret (results_tmp3 rfl _ _ _) rfl ⟨rfl, _, ⟨_, _, _, rfl, unhide HI⟩, unhide HG⟩
set_option maxRecDepth 100000 in
set_option maxHeartbeats 4000000 in
theorem Undo1S_at (X : World) (F : Nat → Prop) (g : Nat) (p : Pa ByteArray) (h : PsS X F g p) (ho : p.o = none) (Q : List (ByteArray × ByteArray)) (s : ByteArray) (w : ByteArray) (hp : p.b = Q ++ [(s, w)]) (hn : p.a.length ≤ 4096) (hq : Q.length ≤ 4096) :
    Calls Try.prog 11 #[.pointer (some ⟨g, 0, none⟩)] X fun y Y => y = .returned (.tuple #[.string s, .string w, .int .i64 0]) ∧ ∃ G, PsS Y G g { p with s := s, b := Q, a := p.a ++ [(p.s, w)] } ∧ Gr F X G Y := by
  have HC := hide (busyS_at X F g p h)
  rw [ho] at HC
  obtain ⟨kb, ka, ko, rfl, h⟩ := h
  have hD := h.kpf (kpf_drew X) (fun _ _ e => e)
  have HT := hide (takeUS_at X.drew g p kb ka ko hD Q s w hp hn hq)
  have HG : Hid (Gr (FO g kb ka ko) X (FO g kb ka ko) X.drew) := hide ⟨(kpf_drew X).mono (fun _ _ e => e.elim), fun _ e => .inl e⟩
  clear h hD ho hp
  go_enter Try.func11, Try.ntmps11
  go_wp2_with fail
  refine (unhide HC).mono ?_
  rintro y w1 ⟨rfl, rfl⟩
  dsimp only
  simp only [Option.isSome_none, Bool.false_eq_true, if_false]
  clear HC
  go_upto_region 5 with fail
  refine regionL (S := fun _ => True) (fun _ => false) (by kernel_rfl) ?_
  refine anyL_take (i := 0) (v := ?vq33) rfl (by kernel_rfl) (by kernel_rfl) (by kernel_rfl) (by kernel_rfl) (fun _ _ _ h => h) (Or.inl ⟨by rfl, ?hq33⟩) (trivial) ?_
  case hq33 => (intro w hSw; (try dsimp only at hSw); go_simp) <;> with_reducible rfl
  simp only [Act.put, List.getElem_toArray, List.getElem_cons_zero, List.setIfInBounds_toArray, List.set_cons_zero, List.set_cons_succ]
  refine anyL_take (i := 1) (v := ?vq34) rfl (by kernel_rfl) (by kernel_rfl) (by kernel_rfl) (by kernel_rfl) (fun _ _ _ h => h) (Or.inl ⟨by rfl, ?hq34⟩) (trivial) ?_
  case hq34 => (intro w hSw; (try dsimp only at hSw); go_simp) <;> with_reducible rfl
  simp only [Act.put, List.getElem_toArray, List.getElem_cons_zero, List.getElem_cons_succ, List.setIfInBounds_toArray, List.set_cons_zero, List.set_cons_succ]
  refine anyL_take (i := 2) (v := ?vq35) rfl (by kernel_rfl) (by kernel_rfl) (by kernel_rfl) (by kernel_rfl) (fun _ _ _ h => h) (Or.inl ⟨by rfl, ?hq35⟩) (trivial) ?_
  case hq35 => (intro w hSw; (try dsimp only at hSw); go_simp) <;> with_reducible rfl
  simp only [Act.put, List.getElem_toArray, List.getElem_cons_zero, List.getElem_cons_succ, List.setIfInBounds_toArray, List.set_cons_zero, List.set_cons_succ]
  refine anyL_take (i := 3) (v := ?vq36) rfl (by kernel_rfl) (by kernel_rfl) (by kernel_rfl) (by kernel_rfl) (fun _ _ _ h => h) (Or.inl ⟨by rfl, ?hq36⟩) (trivial) ?_
  case hq36 => (intro w hSw; (try dsimp only at hSw); go_simp) <;> with_reducible rfl
  simp only [Act.put, List.getElem_toArray, List.getElem_cons_zero, List.getElem_cons_succ, List.setIfInBounds_toArray, List.set_cons_zero, List.set_cons_succ]
  refine anyL_take (i := 4) (v := ?vq37) rfl (by kernel_rfl) (by kernel_rfl) (by kernel_rfl) (by kernel_rfl) (fun _ _ _ h => h) (Or.inl ⟨by rfl, ?hq37⟩) (trivial) ?_
  case hq37 => (intro w hSw; (try dsimp only at hSw); go_simp) <;> with_reducible rfl
  simp only [Act.put, List.getElem_toArray, List.getElem_cons_zero, List.getElem_cons_succ, List.setIfInBounds_toArray, List.set_cons_zero, List.set_cons_succ]
  refine anyL_take (i := 5) (v := ?vq38) rfl (by kernel_rfl) (by kernel_rfl) (by kernel_rfl) (by kernel_rfl) (fun _ _ _ h => h) (Or.inl ⟨by rfl, ?hq38⟩) (trivial) ?_
  case hq38 => (intro w hSw; (try dsimp only at hSw); go_simp) <;> with_reducible rfl
  simp only [Act.put, List.getElem_toArray, List.getElem_cons_zero, List.getElem_cons_succ, List.setIfInBounds_toArray, List.set_cons_zero, List.set_cons_succ]
  refine anyL_take (i := 6) (v := ?vq39) rfl (by kernel_rfl) (by kernel_rfl) (by kernel_rfl) (by kernel_rfl) (fun _ _ _ h => h) (Or.inl ⟨by rfl, ?hq39⟩) (trivial) ?_
  case hq39 => (intro w hSw; (try dsimp only at hSw); go_simp) <;> with_reducible rfl
  simp only [Act.put, List.getElem_toArray, List.getElem_cons_zero, List.getElem_cons_succ, List.setIfInBounds_toArray, List.set_cons_zero, List.set_cons_succ]
  refine anyL_ready (rs := [7]) (by kernel_rfl) (by simp) ?_
  refine AllL.cons rfl (fun K hK => ?_) AllL.nil
  go_simp
  refine (unhide HT).mono ?_
  rintro y w2 ⟨rfl, k', i2, g2⟩
  have HI := hide i2
  have HGG := hide ((unhide HG).trans g2)
  clear HG i2 g2
  refine unhide hK _ _ (fun _ => trivial) ?_
  clear hK K HT
  refine anyL_take (i := 8) (v := ?vq40) rfl (by kernel_rfl) (by kernel_rfl) (by kernel_rfl) (by kernel_rfl) (fun _ _ _ h => h) (Or.inl ⟨by rfl, ?hq40⟩) (trivial) ?_
  case hq40 => (intro w hSw; (try dsimp only at hSw); go_simp) <;> with_reducible rfl
  simp only [Act.put, List.getElem_toArray, List.getElem_cons_zero, List.getElem_cons_succ, List.setIfInBounds_toArray, List.set_cons_zero, List.set_cons_succ]
  refine anyL_take (i := 9) (v := ?vq41) rfl (by kernel_rfl) (by kernel_rfl) (by kernel_rfl) (by kernel_rfl) (fun _ _ _ h => h) (Or.inl ⟨by rfl, ?hq41⟩) (trivial) ?_
  case hq41 => (intro w hSw; (try dsimp only at hSw); go_simp) <;> with_reducible rfl
  simp only [Act.put, List.getElem_toArray, List.getElem_cons_zero, List.getElem_cons_succ, List.setIfInBounds_toArray, List.set_cons_zero, List.set_cons_succ]
  refine anyL_take (i := 10) (v := ?vq42) rfl (by kernel_rfl) (by kernel_rfl) (by kernel_rfl) (by kernel_rfl) (fun _ _ _ h => h) (Or.inl ⟨by rfl, ?hq42⟩) (trivial) ?_
  case hq42 => (intro w hSw; (try dsimp only at hSw); go_simp) <;> with_reducible rfl
  simp only [Act.put, List.getElem_toArray, List.getElem_cons_zero, List.getElem_cons_succ, List.setIfInBounds_toArray, List.set_cons_zero, List.set_cons_succ]
  refine anyL_take (i := 11) (v := ?vq43) rfl (by kernel_rfl) (by kernel_rfl) (by kernel_rfl) (by kernel_rfl) (fun _ _ _ h => h) (Or.inl ⟨by rfl, ?hq43⟩) (trivial) ?_
  case hq43 => (intro w hSw; (try dsimp only at hSw); go_simp) <;> with_reducible rfl
  simp only [Act.put, List.getElem_toArray, List.getElem_cons_zero, List.getElem_cons_succ, List.setIfInBounds_toArray, List.set_cons_zero, List.set_cons_succ]
  refine anyL_take (i := 12) (v := ?vq44) rfl (by kernel_rfl) (by kernel_rfl) (by kernel_rfl) (by kernel_rfl) (fun _ _ _ h => h) (Or.inl ⟨by rfl, ?hq44⟩) (trivial) ?_
  case hq44 => (intro w hSw; (try dsimp only at hSw); go_simp) <;> with_reducible rfl
  simp only [Act.put, List.getElem_toArray, List.getElem_cons_zero, List.getElem_cons_succ, List.setIfInBounds_toArray, List.set_cons_zero, List.set_cons_succ]
  refine anyL_take (i := 13) (v := ?vq45) rfl (by kernel_rfl) (by kernel_rfl) (by kernel_rfl) (by kernel_rfl) (fun _ _ _ h => h) (Or.inl ⟨by rfl, ?hq45⟩) (trivial) ?_
  case hq45 => (intro w hSw; (try dsimp only at hSw); go_simp) <;> with_reducible rfl
  simp only [Act.put, List.getElem_toArray, List.getElem_cons_zero, List.getElem_cons_succ, List.setIfInBounds_toArray, List.set_cons_zero, List.set_cons_succ]
  refine anyL_done (by kernel_rfl) ?_ _
  go_wp2_with fail
  exact bodyPost_ret (results_tmp3 rfl _ _ _) rfl ⟨rfl, _, ⟨_, _, _, rfl, unhide HI⟩, unhide HGG⟩
end Go.Proofs.Ytdemfejladepjaa
