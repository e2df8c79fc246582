/- Layer 17: the calls of a past of states galley/galleylaw17.Pair, from outside. Written by wip/tools/pas.py. -/
import Derived.Test.YtdemfejladepjaaMg21

namespace Go.Proofs.Ytdemfejladepjaa
open Go.ChangeShapes Go.WideShapes Go.ChangeAt Go.RowKit
attribute [local go_sem] Oper.semAt_some

/-- a *Past, with the blocks that it has -/
def PsQ (X : World) (F : Nat → Prop) (g : Nat) (p : Pa (Int × ByteArray)) : Prop := ∃ kb ka ko, F = FO g kb ka ko ∧ IspQ X g p kb ka ko
theorem PsQ.lt {X : World} {F : Nat → Prop} {g : Nat} {p : Pa (Int × ByteArray)} (h : PsQ X F g p) : ∀ i, F i → i < X.heap.size := by
  obtain ⟨kb, ka, ko, rfl, h⟩ := h
  exact h.lt
theorem PsQ.g {X : World} {F : Nat → Prop} {g : Nat} {p : Pa (Int × ByteArray)} (h : PsQ X F g p) : F g := by
  obtain ⟨kb, ka, ko, rfl, h⟩ := h
  exact .inl rfl
theorem PsQ.kpf {F G : Nat → Prop} {X Y : World} {g : Nat} {p : Pa (Int × ByteArray)} (h : PsQ X F g p) (k : KpF G X Y) (hF : ∀ i, F i → ¬ G i) : PsQ Y F g p := by
  obtain ⟨kb, ka, ko, rfl, h⟩ := h
  exact ⟨kb, ka, ko, rfl, h.kpf k hF⟩
theorem PsQ.below {F : Nat → Prop} {X Y : World} {g : Nat} {p : Pa (Int × ByteArray)} (h : PsQ X F g p) (k : Below X.heap.size X Y) : PsQ Y F g p := h.kpf (G := fun _ => False) (KpF.of k) (fun _ _ e => e)
set_option maxRecDepth 100000 in
set_option maxHeartbeats 4000000 in
theorem calledQ_at (s : (Int × ByteArray)) (w : ByteArray) (X : World) (hw : w.size ≤ 281474976710656) :
    Calls Try.prog 56 #[.agg #[.int .i64 s.1, .string s.2], .string w] X fun y Y => y = .returned (.agg #[.int .i64 s.1, .string s.2, .string w]) ∧ Below X.heap.size X Y := by
  have HA := hide ((Cls.new X 28 #[.int .i64 s.1, .string s.2]).alloc (.cells #[.int .i64 0, .string ⟨#[]⟩, .string ⟨#[]⟩] 112))
  have HZ : Hid (Cls ((X.alloc (.cells #[.int .i64 s.1, .string s.2] 28)).alloc (.cells #[.int .i64 0, .string ⟨#[]⟩, .string ⟨#[]⟩] 112)) (X.heap.size + 1) 112 #[.int .i64 0, .string ⟨#[]⟩, .string ⟨#[]⟩]) := hide (by simpa using Cls.new (X.alloc (.cells #[.int .i64 s.1, .string s.2] 28)) 112 #[.int .i64 0, .string ⟨#[]⟩, .string ⟨#[]⟩])
  have HB := hide (((Below.refl X.heap.size X).alloc (Nat.le_refl _) (.cells #[.int .i64 s.1, .string s.2] 28)).alloc (by simp) (.cells #[.int .i64 0, .string ⟨#[]⟩, .string ⟨#[]⟩] 112))
  have HW := hide hw
  clear hw
  go_enter Try.func56, Try.ntmps56
  go_upto_region 1 with fail
  generalize ((X.alloc (.cells #[.int .i64 s.1, .string s.2] 28)).alloc (.cells #[.int .i64 0, .string ⟨#[]⟩, .string ⟨#[]⟩] 112)) = W0 at *
  have HB0 := hide ((unhide HB).drew)
  have HA0 := hide ((unhide HA).kpf (kpf_drew W0) (fun e => e))
  have HZ0 := hide ((unhide HZ).kpf (kpf_drew W0) (fun e => e))
  clear HB HA HZ
  have HB := HB0
  have HA := HA0
  have HZ := HZ0
  have HC := hide (clo_at w W0.drew (unhide HW))
  have HS0 : Hid (W0.drew.cell? ⟨X.heap.size, 0, none⟩ = some (.int .i64 s.1) ∧ W0.drew.cell? ⟨X.heap.size, 1, none⟩ = some (.string s.2)) := hide ⟨((unhide HA).cell 0).trans rfl, ((unhide HA).cell 1).trans rfl⟩
  clear HB0 HA0 HZ0 HW
  refine regionL (S := fun z => z.cell? ⟨X.heap.size, 0, none⟩ = some (.int .i64 s.1) ∧ z.cell? ⟨X.heap.size, 1, none⟩ = some (.string s.2)) (fun i => i == 4) (by kernel_rfl) ?_
  refine anyL_take (i := 0) (v := ?vq32) rfl (by kernel_rfl) (by kernel_rfl) (by kernel_rfl) (by kernel_rfl) (fun _ _ _ h => h) (Or.inl ⟨by rfl, ?hq32⟩) (unhide HS0) ?_
  case hq32 => (intro w hSw; (try dsimp only at hSw); go_simp) <;> with_reducible rfl
  simp only [Act.put, List.getElem_toArray, List.getElem_cons_zero, List.setIfInBounds_toArray, List.set_cons_zero, List.set_cons_succ]
  refine anyL_take (i := 1) (v := ?vq33) rfl (by kernel_rfl) (by kernel_rfl) (by kernel_rfl) (by kernel_rfl) (fun _ _ _ h => h) (Or.inl ⟨by rfl, ?hq33⟩) (unhide HS0) ?_
  case hq33 => (intro w hSw; (try dsimp only at hSw); go_simp) <;> with_reducible rfl
  simp only [Act.put, List.getElem_toArray, List.getElem_cons_zero, List.getElem_cons_succ, List.setIfInBounds_toArray, List.set_cons_zero, List.set_cons_succ]
  refine anyL_ready (rs := [2]) (by kernel_rfl) (by simp) ?_
  refine AllL.cons rfl (fun K hK => ?_) AllL.nil
  go_simp
  refine (unhide HC).mono ?_
  rintro y w1 ⟨rfl, x1⟩
  dsimp only
  have k1 := (unhide HZ).below x1 (unhide HZ).lt
  have ka := (unhide HA).below x1 (unhide HA).lt
  have HX := hide ((unhide HB).trans (x1.mono (unhide HB).size))
  have HS1 : Hid (w1.cell? ⟨X.heap.size, 0, none⟩ = some (.int .i64 s.1) ∧ w1.cell? ⟨X.heap.size, 1, none⟩ = some (.string s.2)) := hide ⟨(ka.cell 0).trans rfl, (ka.cell 1).trans rfl⟩
  have a0 := k1.cell 0
  have a1 := k1.cell 1
  have a2 := k1.cell 2
  have f0 := k1.frozen 0
  have f1 := k1.frozen 1
  have f2 := k1.frozen 2
  have k2 := ((k1.set 0 (.int .i64 s.1)).set 1 (.string s.2)).set 2 (.string w)
  have HXX := hide ((((unhide HX).setCell (p := ⟨X.heap.size + 1, 0, none⟩) (Nat.le_succ _) (.int .i64 s.1)).setCell (p := ⟨X.heap.size + 1, 1, none⟩) (Nat.le_succ _) (.string s.2)).setCell (p := ⟨X.heap.size + 1, 2, none⟩) (Nat.le_succ _) (.string w))
  have q0 := k2.cell 0
  have q1 := k2.cell 1
  have q2 := k2.cell 2
  simp only [List.getElem?_toArray, List.getElem?_cons_zero, List.getElem?_cons_succ, List.setIfInBounds_toArray, List.set_cons_zero, List.set_cons_succ] at  q0 q1 q2 a0 a1 a2
  clear HC HZ HA HB x1 k1 ka k2 HX
  refine unhide hK _ _ (fun _ => unhide HS1) ?_
  clear hK K
  refine anyL_take (i := 3) (v := ?vq34) rfl (by kernel_rfl) (by kernel_rfl) (by kernel_rfl) (by kernel_rfl) (fun _ _ _ h => h) (Or.inl ⟨by rfl, ?hq34⟩) (unhide HS1) ?_
  case hq34 => (intro w hSw; (try dsimp only at hSw); go_simp) <;> with_reducible rfl
  simp only [Act.put, List.getElem_toArray, List.getElem_cons_zero, List.getElem_cons_succ, List.setIfInBounds_toArray, List.set_cons_zero, List.set_cons_succ]
  refine anyL_ready (rs := [4]) (by kernel_rfl) (by simp) ?_
  refine AllL.cons rfl (fun K hK => ?_) AllL.nil
  go_simp
  refine unhide hK _ _ (fun h => by cases h) ?_
  clear hK K
  refine anyL_done (by kernel_rfl) ?_ _
  go_wp2_with fail
  generalize (((w1.setCell ⟨X.heap.size + 1, 0, none⟩ (.int .i64 s.1)).setCell ⟨X.heap.size + 1, 1, none⟩ (.string s.2)).setCell ⟨X.heap.size + 1, 2, none⟩ (.string w)) = W at *
  exact bodyPost_ret (v := .agg #[.int .i64 s.1, .string s.2, .string w]) (by simp [results, Try.results56, go_sem, q0, q1, q2]) rfl ⟨rfl, unhide HXX⟩
theorem setAQ {X : World} {g : Nat} {p : Pa (Int × ByteArray)} {kb ka ko : Option Nat} (h : IspQ X g p kb ka ko) : IspQ (X.setCell ⟨g, 4, none⟩ (.slice none 0 0)) g { p with a := [] } kb none ko ∧ Gr (FO g kb ka ko) X (FO g kb none ko) (X.setCell ⟨g, 4, none⟩ (.slice none 0 0)) := by
  obtain ⟨vb, va, vo, h1, h2, h3, h4⟩ := h.c
  have hd := h.d
  have kk := KpF.set (F := fun i => i = g) X ⟨g, 4, none⟩ (.slice none 0 0) rfl
  have hC := h1.set 4 (.slice none 0 0)
  refine ⟨⟨⟨vb, .slice none 0 0, vo, by simpa using hC, h2.kpf kk (fun i e e1 => hd.gb (e1 ▸ e)), RA.nil _ _, h4.kpf kk (fun i e e1 => hd.go (e1 ▸ e))⟩, ⟨hd.gb, by simp, hd.go, fun _ _ e => (nomatch e), hd.bo, fun _ e => (nomatch e)⟩⟩, ⟨kk.mono (fun i _ e => .inl e), fun i e => .inl ?_⟩⟩
  rcases e with e | e | e | e
  · exact .inl e
  · exact .inr (.inl e)
  · cases e
  · exact .inr (.inr (.inr e))
theorem setBQ {X : World} {g : Nat} {p : Pa (Int × ByteArray)} {kb ka ko : Option Nat} (h : IspQ X g p kb ka ko) : IspQ (X.setCell ⟨g, 3, none⟩ (.slice none 0 0)) g { p with b := [] } none ka ko ∧ Gr (FO g kb ka ko) X (FO g none ka ko) (X.setCell ⟨g, 3, none⟩ (.slice none 0 0)) := by
  obtain ⟨vb, va, vo, h1, h2, h3, h4⟩ := h.c
  have hd := h.d
  have kk := KpF.set (F := fun i => i = g) X ⟨g, 3, none⟩ (.slice none 0 0) rfl
  have hC := h1.set 3 (.slice none 0 0)
  refine ⟨⟨⟨.slice none 0 0, va, vo, by simpa using hC, RA.nil _ _, h3.kpf kk (fun i e e1 => hd.ga (e1 ▸ e)), h4.kpf kk (fun i e e1 => hd.go (e1 ▸ e))⟩, ⟨by simp, hd.ga, hd.go, fun _ e => (nomatch e), fun _ e => (nomatch e), hd.ao⟩⟩, ⟨kk.mono (fun i _ e => .inl e), fun i e => .inl ?_⟩⟩
  rcases e with e | e | e | e
  · exact .inl e
  · cases e
  · exact .inr (.inr (.inl e))
  · exact .inr (.inr (.inr e))
theorem setOQ {X : World} {g : Nat} {p : Pa (Int × ByteArray)} {kb ka ko : Option Nat} (h : IspQ X g p kb ka ko) : IspQ (X.setCell ⟨g, 5, none⟩ (.pointer none)) g { p with o := none } kb ka none ∧ Gr (FO g kb ka ko) X (FO g kb ka none) (X.setCell ⟨g, 5, none⟩ (.pointer none)) := by
  obtain ⟨vb, va, vo, h1, h2, h3, h4⟩ := h.c
  have hd := h.d
  have kk := KpF.set (F := fun i => i = g) X ⟨g, 5, none⟩ (.pointer none) rfl
  have hC := h1.set 5 (.pointer none)
  refine ⟨⟨⟨vb, va, .pointer none, by simpa using hC, h2.kpf kk (fun i e e1 => hd.gb (e1 ▸ e)), h3.kpf kk (fun i e e1 => hd.ga (e1 ▸ e)), .inl ⟨rfl, rfl, rfl⟩⟩, ⟨hd.gb, hd.ga, by simp, hd.ba, fun _ _ e => (nomatch e), fun _ _ e => (nomatch e)⟩⟩, ⟨kk.mono (fun i _ e => .inl e), fun i e => .inl ?_⟩⟩
  rcases e with e | e | e | e
  · exact .inl e
  · exact .inr (.inl e)
  · exact .inr (.inr (.inl e))
  · cases e
theorem openedQ {X : World} {g : Nat} {p : Pa (Int × ByteArray)} {kb ka ko : Option Nat} (h : IspQ X g p kb ka ko) (s : (Int × ByteArray)) (w : ByteArray) : IspQ ((X.alloc (.cells #[.int .i64 s.1, .string s.2, .string w, .bool false] 115)).setCell ⟨g, 5, none⟩ (.pointer (some ⟨X.heap.size, 0, none⟩))) g { p with o := some ((s, w), false) } kb ka (some X.heap.size) ∧ Gr (FO g kb ka ko) X (FO g kb ka (some X.heap.size)) ((X.alloc (.cells #[.int .i64 s.1, .string s.2, .string w, .bool false] 115)).setCell ⟨g, 5, none⟩ (.pointer (some ⟨X.heap.size, 0, none⟩))) := by
  obtain ⟨vb, va, vo, h1, h2, h3, h4⟩ := h.c
  have hd := h.d
  have hlt := h.lt
  have ka0 := KpF.alloc (fun i => i = g) X (.cells #[.int .i64 s.1, .string s.2, .string w, .bool false] 115)
  have kk := ka0.trans (KpF.set (F := fun i => i = g) _ ⟨g, 5, none⟩ (.pointer (some ⟨X.heap.size, 0, none⟩)) rfl) (fun _ _ e => e)
  have hg : g < X.heap.size := h1.lt
  have hC := (h1.alloc (.cells #[.int .i64 s.1, .string s.2, .string w, .bool false] 115)).set 5 (.pointer (some ⟨X.heap.size, 0, none⟩))
  have hG := (Cls.new X 115 #[.int .i64 s.1, .string s.2, .string w, .bool false]).other ⟨g, 5, none⟩ (.pointer (some ⟨X.heap.size, 0, none⟩)) (by dsimp only; omega)
  refine ⟨⟨⟨vb, va, .pointer (some ⟨X.heap.size, 0, none⟩), by simpa using hC, h2.kpf kk (fun i e e1 => hd.gb (e1 ▸ e)), h3.kpf kk (fun i e e1 => hd.ga (e1 ▸ e)), .inr ⟨s, w, false, X.heap.size, rfl, rfl, rfl, hG⟩⟩,
    ⟨hd.gb, hd.ga, fun e => by injection e; omega, hd.ba, fun i e e1 => ?_, fun i e e1 => ?_⟩⟩, ⟨kk.mono (fun i _ e => .inl e), fun i e => ?_⟩⟩
  · injection e1 with e1; have := hlt i (.inr (.inl e)); omega
  · injection e1 with e1; have := hlt i (.inr (.inr (.inl e))); omega
  · rcases e with e | e | e | e
    · exact .inl (.inl e)
    · exact .inl (.inr (.inl e))
    · exact .inl (.inr (.inr (.inl e)))
    · injection e with e; exact .inr (by omega)
theorem doneOQ {X : World} {g i : Nat} {p : Pa (Int × ByteArray)} {kb ka ko : Option Nat} (h : IspQ X g p kb ka ko) (x : (Int × ByteArray) × ByteArray) (d : Bool) (hx : p.o = some (x, d)) (hi : ko = some i) : IspQ (X.setCell ⟨i, 3, none⟩ (.bool true)) g { p with o := some (x, true) } kb ka ko ∧ Gr (FO g kb ka ko) X (FO g kb ka ko) (X.setCell ⟨i, 3, none⟩ (.bool true)) := by
  obtain ⟨vb, va, vo, h1, h2, h3, h4⟩ := h.c
  have hd := h.d
  have kk := KpF.set (F := fun j => j = i) X ⟨i, 3, none⟩ (.bool true) rfl
  rcases h4 with ⟨e, _⟩ | ⟨s, w, d', i', e1, e2, e3, e4⟩
  · rw [e] at hx; cases hx
  · rw [e1] at hx; cases hx
    rw [e3] at hi; cases hi
    have hG := e4.set 3 (.bool true)
    refine ⟨⟨⟨vb, va, vo, h1.kpf kk (fun e => hd.go (e ▸ e3)), h2.kpf kk (fun j e ee => hd.bo j e (ee ▸ e3)), h3.kpf kk (fun j e ee => hd.ao j e (ee ▸ e3)), .inr ⟨s, w, true, i, rfl, e2, e3, by simpa using hG⟩⟩, hd⟩, ⟨kk.mono (fun j _ e => .inr (.inr (.inr (e ▸ e3)))), fun _ e => .inl e⟩⟩
set_option maxRecDepth 100000 in
set_option maxHeartbeats 4000000 in
theorem busyQ_at (X : World) (F : Nat → Prop) (g : Nat) (p : Pa (Int × ByteArray)) (h : PsQ X F g p) :
    Calls Try.prog 57 #[.pointer (some ⟨g, 0, none⟩)] X fun y Y => y = .returned (.int .i64 (if p.o.isSome then 171 else 0)) ∧ Y = X := by
  obtain ⟨kb, ka, ko, rfl, h⟩ := h
  obtain ⟨vb, va, vo, h1, h2, h3, h4⟩ := h.c
  have c4 : X.cell? ⟨g, 5, none⟩ = some vo := (h1.cell 5).trans rfl
  rcases h4 with ⟨e1, rfl, _⟩ | ⟨s, w, d, i, e1, rfl, _, _⟩
  · rw [e1]
    clear h h1 h2 h3 e1
    go_enter Try.func57, Try.ntmps57
    go_wp2_with fail
    exact bodyPost_ret (results_tmp rfl _ _ _) rfl ⟨rfl, rfl⟩
  · rw [e1]
    clear h h1 h2 h3 e1
    go_enter Try.func57, Try.ntmps57
    go_wp2_with fail
    exact bodyPost_ret (results_tmp rfl _ _ _) rfl ⟨rfl, rfl⟩
set_option maxRecDepth 100000 in
set_option maxHeartbeats 4000000 in
theorem NowQ_at (X : World) (F : Nat → Prop) (g : Nat) (p : Pa (Int × ByteArray)) (h : PsQ X F g p) :
    Calls Try.prog 23 #[.pointer (some ⟨g, 0, none⟩)] X fun y Y => y = .returned (.agg #[.int .i64 p.s.1, .string p.s.2]) ∧ Below X.heap.size X Y := by
  obtain ⟨kb, ka, ko, rfl, h⟩ := h
  obtain ⟨vb, va, vo, h1, h2, h3, h4⟩ := h.c
  have h10 := h1.alloc (.cells #[.int .i64 0, .string ⟨#[]⟩] 28)
  have hne : g ≠ X.heap.size := Nat.ne_of_lt h1.lt
  have c0 : (X.alloc (.cells #[.int .i64 0, .string ⟨#[]⟩] 28)).cell? ⟨g, 0, none⟩ = some (.int .i64 p.s.1) := (h10.cell 0).trans rfl
  have c1 : (X.alloc (.cells #[.int .i64 0, .string ⟨#[]⟩] 28)).cell? ⟨g, 1, none⟩ = some (.string p.s.2) := (h10.cell 1).trans rfl
  have k1 := Cls.new X 28 #[.int .i64 0, .string ⟨#[]⟩]
  have a0 := k1.cell 0
  have a1 := k1.cell 1
  have f0 := k1.frozen 0
  have f1 := k1.frozen 1
  have k2 := (k1.set 0 (.int .i64 p.s.1)).set 1 (.string p.s.2)
  have HB := hide ((((Below.refl X.heap.size X).alloc (Nat.le_refl _) (.cells #[.int .i64 0, .string ⟨#[]⟩] 28)).setCell (p := ⟨X.heap.size, 0, none⟩) (Nat.le_refl _) (.int .i64 p.s.1)).setCell (p := ⟨X.heap.size, 1, none⟩) (Nat.le_refl _) (.string p.s.2))
  have q0 := k2.cell 0
  have q1 := k2.cell 1
  simp only [List.getElem?_toArray, List.getElem?_cons_zero, List.getElem?_cons_succ, List.setIfInBounds_toArray, List.set_cons_zero, List.set_cons_succ] at  q0 q1 a0 a1
  clear h h1 h2 h3 h4 h10 k1 k2
  go_enter Try.func23, Try.ntmps23
  go_upto_region 1 with fail
  generalize X.alloc (.cells #[.int .i64 0, .string ⟨#[]⟩] 28) = X1 at *
  go_wp2_with fail
  generalize ((X1.setCell ⟨X.heap.size, 0, none⟩ (.int .i64 p.s.1)).setCell ⟨X.heap.size, 1, none⟩ (.string p.s.2)) = W at *
  exact bodyPost_ret (v := .agg #[.int .i64 p.s.1, .string p.s.2]) (by simp [results, Try.results23, go_sem, q0, q1]) rfl ⟨rfl, unhide HB⟩
set_option maxRecDepth 100000 in
set_option maxHeartbeats 4000000 in
theorem Do0Q_at (XX : World) (F : Nat → Prop) (g : Nat) (p : Pa (Int × ByteArray)) (h0 : PsQ XX F g p) (x : (Int × ByteArray)) (w : ByteArray) (ho : p.o = none) (hw : w.size ≤ 281474976710656) (hb : p.b.length ≤ 4096) :
    Calls Try.prog 41 #[.pointer (some ⟨g, 0, none⟩), .agg #[.int .i64 x.1, .string x.2], .string w] XX fun y Y => y = .returned (.int .i64 0) ∧ ∃ G, PsQ Y G g (doP p x w) ∧ Gr F XX G Y := by
  have hdo : doP p x w = ⟨x, p.m, keepP p.m p.b (p.s, w), [], none⟩ := by unfold doP; rw [ho]
  rw [hdo]
  clear hdo
  have k00 : KpF (fun _ => False) XX (XX.alloc (.cells #[.int .i64 x.1, .string x.2] 28)) := KpF.of ((Below.refl XX.heap.size XX).alloc (Nat.le_refl _) _)
  have h := h0.kpf k00 (fun _ _ e => e)
  have HRC := hide (Cls.new XX 28 #[.int .i64 x.1, .string x.2])
  have HRO : Hid (¬ F XX.heap.size) := hide fun e => Nat.lt_irrefl _ (h0.lt _ e)
  have HGX : Hid (Gr F XX F (XX.alloc (.cells #[.int .i64 x.1, .string x.2] 28))) := hide ⟨k00.mono (fun _ _ e => e.elim), fun _ e => .inl e⟩
  have H := hide h
  clear h0 k00 h
  go_enter Try.func41, Try.ntmps41
  go_upto_region 1 with fail
  generalize XX.alloc (.cells #[.int .i64 x.1, .string x.2] 28) = X at *
  have h := unhide H
  clear H
  obtain ⟨kb, ka, ko, rfl, h⟩ := h
  obtain ⟨vb, va, vo, h1, h2, h3, h4⟩ := h.c
  have c9 : X.cell? ⟨g, 5, none⟩ = some (.pointer none) := by
    rcases h4 with ⟨_, e, _⟩ | ⟨_, _, _, _, e, _⟩
    · rw [← e]; exact (h1.cell 5).trans rfl
    · rw [ho] at e; cases e
  have c0 : X.cell? ⟨g, 0, none⟩ = some (.int .i64 p.s.1) := (h1.cell 0).trans rfl
  have c1 : X.cell? ⟨g, 1, none⟩ = some (.string p.s.2) := (h1.cell 1).trans rfl
  have HC := hide (calledQ_at p.s w X hw)
  have HI := hide h
  have HO := hide ho
  clear h h1 h2 h3 h4 hw ho
  go_wp2_with fail
  refine (unhide HC).mono ?_
  rintro y w1 ⟨rfl, x1⟩
  dsimp only
  have HC2 := hide (keepQ_at w1 g p kb ka ko ((unhide HI).kpf (F := fun _ => False) (KpF.of x1) (fun _ _ e => e)) p.s w hb)
  have HX1 : Hid (Gr (FO g kb ka ko) X (FO g kb ka ko) w1) := hide ⟨KpF.of x1, fun _ e => .inl e⟩
  clear HC HI x1 c9 c0 c1
  go_wp2_with fail
  refine (unhide HC2).mono ?_
  rintro y w2 ⟨rfl, kb', i2, g2⟩
  dsimp only
  obtain ⟨i3, g3⟩ := setAQ i2
  obtain ⟨i4, g4⟩ := stateQ i3 x
  have g5 := ((unhide HX1).trans g2).trans g3
  have hr := (unhide HRC).kpf g5.kp (unhide HRO)
  have HG := hide ((unhide HGX).trans (g5.trans g4))
  dsimp only at i4
  rw [unhide HO] at i4
  have HI4 := hide i4
  obtain ⟨vb, va, vo, h1, h2, h3, h4⟩ := i2.c
  obtain ⟨vb3, va3, vo3, h13, _⟩ := i3.c
  have a9 : w2.cell? ⟨g, 4, none⟩ = some va := (h1.cell 4).trans rfl
  have f9 := h1.frozen 4
  have H13 := hide h13
  have HR2 := hide hr
  clear HC2 HX1 h1 h2 h3 h4 h13 i2 i3 i4 g2 g3 g4 g5 hr HRC HRO HGX
  go_upto_region 7 with fail
  generalize w2.setCell ⟨g, 4, none⟩ (.slice none 0 0) = w3 at *
  have b0 : w3.cell? ⟨g, 0, none⟩ = some (.int .i64 p.s.1) := ((unhide H13).cell 0).trans rfl
  have b1 : w3.cell? ⟨g, 1, none⟩ = some (.string p.s.2) := ((unhide H13).cell 1).trans rfl
  have e0 := (unhide H13).frozen 0
  have e1 := (unhide H13).frozen 1
  have r0 : w3.cell? ⟨XX.heap.size, 0, none⟩ = some (.int .i64 x.1) := ((unhide HR2).cell 0).trans rfl
  have r1 : w3.cell? ⟨XX.heap.size, 1, none⟩ = some (.string x.2) := ((unhide HR2).cell 1).trans rfl
  clear H13 HR2 a9 f9
  go_wp2_with fail
  exact bodyPost_ret (results_tmp rfl _ _ _) rfl ⟨rfl, _, ⟨_, _, _, rfl, unhide HI4⟩, unhide HG⟩
set_option maxRecDepth 100000 in
set_option maxHeartbeats 4000000 in
theorem Do1Q_at (XX : World) (F : Nat → Prop) (g : Nat) (p : Pa (Int × ByteArray)) (h0 : PsQ XX F g p) (x : (Int × ByteArray)) (w : ByteArray) (y : (Int × ByteArray) × ByteArray) (d : Bool) (ho : p.o = some (y, d)) :
    Calls Try.prog 41 #[.pointer (some ⟨g, 0, none⟩), .agg #[.int .i64 x.1, .string x.2], .string w] XX fun z Y => z = .returned (.int .i64 0) ∧ ∃ G, PsQ Y G g (doP p x w) ∧ Gr F XX G Y := by
  have hdo : doP p x w = ⟨x, p.m, p.b, [], some (y, true)⟩ := by unfold doP; rw [ho]
  rw [hdo]
  clear hdo
  have k00 : KpF (fun _ => False) XX (XX.alloc (.cells #[.int .i64 x.1, .string x.2] 28)) := KpF.of ((Below.refl XX.heap.size XX).alloc (Nat.le_refl _) _)
  have h := h0.kpf k00 (fun _ _ e => e)
  have HRC := hide (Cls.new XX 28 #[.int .i64 x.1, .string x.2])
  have HRO : Hid (¬ F XX.heap.size) := hide fun e => Nat.lt_irrefl _ (h0.lt _ e)
  have HGX : Hid (Gr F XX F (XX.alloc (.cells #[.int .i64 x.1, .string x.2] 28))) := hide ⟨k00.mono (fun _ _ e => e.elim), fun _ e => .inl e⟩
  have H := hide h
  clear h0 k00 h
  go_enter Try.func41, Try.ntmps41
  go_upto_region 1 with fail
  generalize XX.alloc (.cells #[.int .i64 x.1, .string x.2] 28) = X at *
  have h := unhide H
  clear H
  obtain ⟨kb, ka, ko, rfl, h⟩ := h
  obtain ⟨vb, va, vo, h1, h2, h3, h4⟩ := h.c
  rcases h4 with ⟨e, _⟩ | ⟨s1, w1, d1, i, e1, rfl, e3, h5⟩
  · rw [ho] at e; cases e
  have c9 : X.cell? ⟨g, 5, none⟩ = some (.pointer (some ⟨i, 0, none⟩)) := (h1.cell 5).trans rfl
  have c8 : X.cell? ⟨i, 3, none⟩ = some (.bool d1) := (h5.cell 3).trans rfl
  have f8 := h5.frozen 3
  obtain ⟨i2, g2⟩ := doneOQ h y d ho e3
  obtain ⟨i3, g3⟩ := setAQ i2
  obtain ⟨i4, g4⟩ := stateQ i3 x
  have HR2 := hide ((unhide HRC).kpf (g2.trans g3).kp (unhide HRO))
  have HG := hide ((unhide HGX).trans ((g2.trans g3).trans g4))
  dsimp only at i4
  have HI4 := hide i4
  obtain ⟨vb2, va2, vo2, h12, _⟩ := i2.c
  obtain ⟨vb3, va3, vo3, h13, _⟩ := i3.c
  have H12 := hide h12
  have H13 := hide h13
  clear h h1 h2 h3 h5 i2 i3 i4 g2 g3 g4 h12 h13 ho e1 e3 HRC HRO HGX
  go_upto_region 6 with fail
  generalize (X.setCell ⟨i, 3, none⟩ (.bool true)) = w2 at *
  have a9 : w2.cell? ⟨g, 4, none⟩ = some va2 := ((unhide H12).cell 4).trans rfl
  have f9 := (unhide H12).frozen 4
  clear H12 c9 c8 f8
  go_upto_region 7 with fail
  generalize w2.setCell ⟨g, 4, none⟩ (.slice none 0 0) = w3 at *
  have b0 : w3.cell? ⟨g, 0, none⟩ = some (.int .i64 p.s.1) := ((unhide H13).cell 0).trans rfl
  have b1 : w3.cell? ⟨g, 1, none⟩ = some (.string p.s.2) := ((unhide H13).cell 1).trans rfl
  have e0 := (unhide H13).frozen 0
  have e1 := (unhide H13).frozen 1
  have r0 : w3.cell? ⟨XX.heap.size, 0, none⟩ = some (.int .i64 x.1) := ((unhide HR2).cell 0).trans rfl
  have r1 : w3.cell? ⟨XX.heap.size, 1, none⟩ = some (.string x.2) := ((unhide HR2).cell 1).trans rfl
  clear H13 HR2 a9 f9
  go_wp2_with fail
  exact bodyPost_ret (results_tmp rfl _ _ _) rfl ⟨rfl, _, ⟨_, _, _, rfl, unhide HI4⟩, unhide HG⟩
set_option maxRecDepth 100000 in
set_option maxHeartbeats 4000000 in
theorem NewQ_at (s : (Int × ByteArray)) (m : Int) (X : World) (h : 0 ≤ m ∧ m ≤ 4096) :
    Calls Try.prog 20 #[.agg #[.int .i64 s.1, .string s.2], .int .i64 m] X fun y Y => ∃ g F, y = .returned (.tuple #[.pointer (some ⟨g, 0, none⟩), .int .i64 0]) ∧ PsQ Y F g ⟨s, m, [], [], none⟩ ∧ (∀ i, F i → X.heap.size ≤ i) ∧ Below X.heap.size X Y := by
  have t1 : decide (m < 0) = false := decide_eq_false (by omega)
  have t2 : decide (m > 4096) = false := decide_eq_false (by omega)
  have t2' : decide (4096 < m) = false := decide_eq_false (by omega)
  have k1 : Cls ((X.alloc (.cells #[.int .i64 s.1, .string s.2] 28)).alloc (.cells #[.int .i64 s.1, .string s.2, .int .i64 m, .slice none 0 0, .slice none 0 0, .pointer none] 94)) (X.heap.size + 1) 94 #[.int .i64 s.1, .string s.2, .int .i64 m, .slice none 0 0, .slice none 0 0, .pointer none] := by simpa using Cls.new (X.alloc (.cells #[.int .i64 s.1, .string s.2] 28)) 94 #[.int .i64 s.1, .string s.2, .int .i64 m, .slice none 0 0, .slice none 0 0, .pointer none]
  have HI : Hid (IspQ ((X.alloc (.cells #[.int .i64 s.1, .string s.2] 28)).alloc (.cells #[.int .i64 s.1, .string s.2, .int .i64 m, .slice none 0 0, .slice none 0 0, .pointer none] 94)) (X.heap.size + 1) ⟨s, m, [], [], none⟩ none none none) := hide ⟨⟨_, _, _, k1, RA.nil _ _, RA.nil _ _, .inl ⟨rfl, rfl, rfl⟩⟩, ⟨by simp, by simp, by simp, fun _ e => (nomatch e), fun _ e => (nomatch e), fun _ e => (nomatch e)⟩⟩
  have HB := hide (((Below.refl X.heap.size X).alloc (Nat.le_refl _) (.cells #[.int .i64 s.1, .string s.2] 28)).alloc (by simp) (.cells #[.int .i64 s.1, .string s.2, .int .i64 m, .slice none 0 0, .slice none 0 0, .pointer none] 94))
  have kA := Cls.new X 28 #[.int .i64 s.1, .string s.2]
  have a0 : (X.alloc (.cells #[.int .i64 s.1, .string s.2] 28)).cell? ⟨X.heap.size, 0, none⟩ = some (.int .i64 s.1) := (kA.cell 0).trans rfl
  have a1 : (X.alloc (.cells #[.int .i64 s.1, .string s.2] 28)).cell? ⟨X.heap.size, 1, none⟩ = some (.string s.2) := (kA.cell 1).trans rfl
  clear h k1 kA
  go_enter Try.func20, Try.ntmps20
  go_wp2_with fail
  exact bodyPost_ret (results_tmp2 rfl _ _ _) rfl ⟨_, _, rfl, ⟨_, _, _, rfl, unhide HI⟩, (fun i e => by rcases e with e | e | e | e <;> first | (rw [e]; exact Nat.le_succ _) | cases e), unhide HB⟩
set_option maxRecDepth 100000 in
set_option maxHeartbeats 4000000 in
theorem NewEQ_at (s : (Int × ByteArray)) (m : Int) (X : World) (h : ¬ (0 ≤ m ∧ m ≤ 4096)) :
    Calls Try.prog 20 #[.agg #[.int .i64 s.1, .string s.2], .int .i64 m] X fun y Y => y = .returned (.tuple #[.pointer none, .int .i64 2]) ∧ Below X.heap.size X Y := by
  have HB := hide ((Below.refl X.heap.size X).alloc (Nat.le_refl _) (.cells #[.int .i64 s.1, .string s.2] 28))
  by_cases h1 : m < 0
  · have t1 : decide (m < 0) = true := decide_eq_true h1
    clear h1 h
    go_enter Try.func20, Try.ntmps20
    go_wp2_with fail
    exact bodyPost_ret (results_tmp2 rfl _ _ _) rfl ⟨rfl, unhide HB⟩
  · have t1 : decide (m < 0) = false := decide_eq_false h1
    have t2 : decide (m > 4096) = true := decide_eq_true (by omega)
    have t2' : decide (4096 < m) = true := decide_eq_true (by omega)
    clear h1 h
    go_enter Try.func20, Try.ntmps20
    go_wp2_with fail
    exact bodyPost_ret (results_tmp2 rfl _ _ _) rfl ⟨rfl, unhide HB⟩
set_option maxRecDepth 100000 in
set_option maxHeartbeats 4000000 in
theorem Undo2Q_at (XX : World) (F : Nat → Prop) (g : Nat) (p : Pa (Int × ByteArray)) (h0 : PsQ XX F g p) (ho : p.o.isSome = true) :
    Calls Try.prog 42 #[.pointer (some ⟨g, 0, none⟩)] XX fun y Y => y = .returned (.tuple #[.agg #[.int .i64 0, .string ⟨#[]⟩], .string ⟨#[]⟩, .int .i64 171]) ∧ Below XX.heap.size XX Y := by
  have HB := hide ((Below.refl XX.heap.size XX).alloc (Nat.le_refl _) (.cells #[.int .i64 0, .string ⟨#[]⟩] 28))
  have k00 : KpF (fun _ => False) XX (XX.alloc (.cells #[.int .i64 0, .string ⟨#[]⟩] 28)) := KpF.of ((Below.refl XX.heap.size XX).alloc (Nat.le_refl _) _)
  have h := h0.kpf k00 (fun _ _ e => e)
  have HRC := hide (Cls.new XX 28 #[.int .i64 0, .string ⟨#[]⟩])
  have HRO : Hid (¬ F XX.heap.size) := hide fun e => Nat.lt_irrefl _ (h0.lt _ e)
  have HGX : Hid (Gr F XX F (XX.alloc (.cells #[.int .i64 0, .string ⟨#[]⟩] 28))) := hide ⟨k00.mono (fun _ _ e => e.elim), fun _ e => .inl e⟩
  have H := hide h
  clear h0 k00 h
  go_enter Try.func42, Try.ntmps42
  go_upto_region 1 with fail
  generalize XX.alloc (.cells #[.int .i64 0, .string ⟨#[]⟩] 28) = X at *
  have h := unhide H
  clear H
  have HC := hide (busyQ_at X F g p h)
  rw [ho] at HC
  clear h ho HRO HGX
  go_wp2_with fail
  refine (unhide HC).mono ?_
  rintro y w1 ⟨rfl, rfl⟩
  dsimp only
  simp only [if_true]
  have k1 := (unhide HRC).alloc (.cells #[.int .i64 0, .string ⟨#[]⟩] 28)
  have a0 := k1.cell 0
  have a1 := k1.cell 1
  have f0 := k1.frozen 0
  have f1 := k1.frozen 1
  have k2 := (k1.set 0 (.int .i64 0)).set 1 (.string ⟨#[]⟩)
  have HBB := hide ((((unhide HB).alloc (B := XX.heap.size) (unhide HB).size (.cells #[.int .i64 0, .string ⟨#[]⟩] 28)).setCell (p := ⟨XX.heap.size, 0, none⟩) (Nat.le_refl _) (.int .i64 0)).setCell (p := ⟨XX.heap.size, 1, none⟩) (Nat.le_refl _) (.string ⟨#[]⟩))
  have q0 := k2.cell 0
  have q1 := k2.cell 1
  simp only [List.getElem?_toArray, List.getElem?_cons_zero, List.getElem?_cons_succ, List.setIfInBounds_toArray, List.set_cons_zero, List.set_cons_succ] at  q0 q1 a0 a1
  clear k1 k2 HRC HB HC
  go_wp2_with fail
  generalize (((w1.alloc (.cells #[.int .i64 0, .string ⟨#[]⟩] 28)).setCell ⟨XX.heap.size, 0, none⟩ (.int .i64 0)).setCell ⟨XX.heap.size, 1, none⟩ (.string ⟨#[]⟩)) = W at *
  exact bodyPost_ret (v := .tuple #[.agg #[.int .i64 0, .string ⟨#[]⟩], .string ⟨#[]⟩, .int .i64 171]) (by simp [results, Try.results42, go_sem, q0, q1]) rfl ⟨rfl, unhide HBB⟩
set_option maxRecDepth 100000 in
set_option maxHeartbeats 4000000 in
theorem Undo0Q_at (XX : World) (F : Nat → Prop) (g : Nat) (p : Pa (Int × ByteArray)) (h0 : PsQ XX F g p) (ho : p.o = none) (hp : p.b = []) :
    Calls Try.prog 42 #[.pointer (some ⟨g, 0, none⟩)] XX fun y Y => y = .returned (.tuple #[.agg #[.int .i64 0, .string ⟨#[]⟩], .string ⟨#[]⟩, .int .i64 170]) ∧ ∃ G, PsQ Y G g p ∧ Gr F XX G Y := by
  have k00 : KpF (fun _ => False) XX (XX.alloc (.cells #[.int .i64 0, .string ⟨#[]⟩] 28)) := KpF.of ((Below.refl XX.heap.size XX).alloc (Nat.le_refl _) _)
  have h := h0.kpf k00 (fun _ _ e => e)
  have HRC := hide (Cls.new XX 28 #[.int .i64 0, .string ⟨#[]⟩])
  have HRO : Hid (¬ F XX.heap.size) := hide fun e => Nat.lt_irrefl _ (h0.lt _ e)
  have HGX : Hid (Gr F XX F (XX.alloc (.cells #[.int .i64 0, .string ⟨#[]⟩] 28))) := hide ⟨k00.mono (fun _ _ e => e.elim), fun _ e => .inl e⟩
  have H := hide h
  clear h0 k00 h
  go_enter Try.func42, Try.ntmps42
  go_upto_region 1 with fail
  generalize XX.alloc (.cells #[.int .i64 0, .string ⟨#[]⟩] 28) = X at *
  have h := unhide H
  clear H
  have HC := hide (busyQ_at X F g p h)
  rw [ho] at HC
  obtain ⟨kb, ka, ko, rfl, h⟩ := h
  have hD := h.kpf (kpf_drew X) (fun _ _ e => e)
  have HT := hide (takeU0Q_at X.drew g p kb ka ko hD hp)
  have HI := hide hD
  have HG : Hid (Gr (FO g kb ka ko) X (FO g kb ka ko) X.drew) := hide ⟨(kpf_drew X).mono (fun _ _ e => e.elim), fun _ e => .inl e⟩
  clear h hD ho hp
  go_wp2_with fail
  refine (unhide HC).mono ?_
  rintro y w1 ⟨rfl, rfl⟩
  dsimp only
  simp only [Option.isSome_none, Bool.false_eq_true, if_false]
  clear HC
  go_upto_region 5 with fail
  refine regionL (S := fun _ => True) (fun _ => false) (by kernel_rfl) ?_
  refine anyL_take (i := 0) (v := ?vq35) rfl (by kernel_rfl) (by kernel_rfl) (by kernel_rfl) (by kernel_rfl) (fun _ _ _ h => h) (Or.inl ⟨by rfl, ?hq35⟩) (trivial) ?_
  case hq35 => (intro w hSw; (try dsimp only at hSw); go_simp) <;> with_reducible rfl
  simp only [Act.put, List.getElem_toArray, List.getElem_cons_zero, List.setIfInBounds_toArray, List.set_cons_zero, List.set_cons_succ]
  refine anyL_take (i := 1) (v := ?vq36) rfl (by kernel_rfl) (by kernel_rfl) (by kernel_rfl) (by kernel_rfl) (fun _ _ _ h => h) (Or.inl ⟨by rfl, ?hq36⟩) (trivial) ?_
  case hq36 => (intro w hSw; (try dsimp only at hSw); go_simp) <;> with_reducible rfl
  simp only [Act.put, List.getElem_toArray, List.getElem_cons_zero, List.getElem_cons_succ, List.setIfInBounds_toArray, List.set_cons_zero, List.set_cons_succ]
  refine anyL_take (i := 2) (v := ?vq37) rfl (by kernel_rfl) (by kernel_rfl) (by kernel_rfl) (by kernel_rfl) (fun _ _ _ h => h) (Or.inl ⟨by rfl, ?hq37⟩) (trivial) ?_
  case hq37 => (intro w hSw; (try dsimp only at hSw); go_simp) <;> with_reducible rfl
  simp only [Act.put, List.getElem_toArray, List.getElem_cons_zero, List.getElem_cons_succ, List.setIfInBounds_toArray, List.set_cons_zero, List.set_cons_succ]
  refine anyL_take (i := 3) (v := ?vq38) rfl (by kernel_rfl) (by kernel_rfl) (by kernel_rfl) (by kernel_rfl) (fun _ _ _ h => h) (Or.inl ⟨by rfl, ?hq38⟩) (trivial) ?_
  case hq38 => (intro w hSw; (try dsimp only at hSw); go_simp) <;> with_reducible rfl
  simp only [Act.put, List.getElem_toArray, List.getElem_cons_zero, List.getElem_cons_succ, List.setIfInBounds_toArray, List.set_cons_zero, List.set_cons_succ]
  refine anyL_take (i := 4) (v := ?vq39) rfl (by kernel_rfl) (by kernel_rfl) (by kernel_rfl) (by kernel_rfl) (fun _ _ _ h => h) (Or.inl ⟨by rfl, ?hq39⟩) (trivial) ?_
  case hq39 => (intro w hSw; (try dsimp only at hSw); go_simp) <;> with_reducible rfl
  simp only [Act.put, List.getElem_toArray, List.getElem_cons_zero, List.getElem_cons_succ, List.setIfInBounds_toArray, List.set_cons_zero, List.set_cons_succ]
  refine anyL_take (i := 5) (v := ?vq40) rfl (by kernel_rfl) (by kernel_rfl) (by kernel_rfl) (by kernel_rfl) (fun _ _ _ h => h) (Or.inl ⟨by rfl, ?hq40⟩) (trivial) ?_
  case hq40 => (intro w hSw; (try dsimp only at hSw); go_simp) <;> with_reducible rfl
  simp only [Act.put, List.getElem_toArray, List.getElem_cons_zero, List.getElem_cons_succ, List.setIfInBounds_toArray, List.set_cons_zero, List.set_cons_succ]
  refine anyL_take (i := 6) (v := ?vq41) rfl (by kernel_rfl) (by kernel_rfl) (by kernel_rfl) (by kernel_rfl) (fun _ _ _ h => h) (Or.inl ⟨by rfl, ?hq41⟩) (trivial) ?_
  case hq41 => (intro w hSw; (try dsimp only at hSw); go_simp) <;> with_reducible rfl
  simp only [Act.put, List.getElem_toArray, List.getElem_cons_zero, List.getElem_cons_succ, List.setIfInBounds_toArray, List.set_cons_zero, List.set_cons_succ]
  refine anyL_ready (rs := [7]) (by kernel_rfl) (by simp) ?_
  refine AllL.cons rfl (fun K hK => ?_) AllL.nil
  go_simp
  refine (unhide HT).mono ?_
  rintro y w2 ⟨rfl, x2⟩
  have i2 := (unhide HI).kpf (F := fun _ => False) (KpF.of x2) (fun _ _ e => e)
  have g3 : Gr (FO g kb ka ko) w1 (FO g kb ka ko) w2 := (unhide HG).trans ⟨KpF.of x2, fun _ e => .inl e⟩
  clear x2
  have hr := (unhide HRC).kpf g3.kp (unhide HRO)
  have hrn := g3.out (unhide HRC).lt (unhide HRO)
  have a0 := hr.cell 0
  have a1 := hr.cell 1
  have f0 := hr.frozen 0
  have f1 := hr.frozen 1
  have k2 := (hr.set 0 (.int .i64 0)).set 1 (.string ⟨#[]⟩)
  have q0 := k2.cell 0
  have q1 := k2.cell 1
  simp only [List.getElem?_toArray, List.getElem?_cons_zero, List.getElem?_cons_succ, List.setIfInBounds_toArray, List.set_cons_zero, List.set_cons_succ] at  q0 q1 a0 a1
  have kk := (KpF.set (F := fun i => i = XX.heap.size) w2 ⟨XX.heap.size, 0, none⟩ (.int .i64 0) rfl).trans (KpF.set (F := fun i => i = XX.heap.size) _ ⟨XX.heap.size, 1, none⟩ (.string ⟨#[]⟩) rfl) (fun _ _ e => e)
  have HI9 := hide (i2.kpf kk (fun i e e1 => hrn (e1 ▸ e)))
  have gy := (unhide HGX).trans g3
  have HG9 := hide (show Gr (FO g kb ka ko) XX _ _ from ⟨gy.kp.trans kk (fun i hi e => by omega), gy.new⟩)
  clear hr hrn k2 kk gy g3 i2 HI HG HRC HRO HGX
  refine unhide hK _ _ (fun _ => trivial) ?_
  clear hK K HT
  refine anyL_take (i := 8) (v := ?vq42) rfl (by kernel_rfl) (by kernel_rfl) (by kernel_rfl) (by kernel_rfl) (fun _ _ _ h => h) (Or.inl ⟨by rfl, ?hq42⟩) (trivial) ?_
  case hq42 => (intro w hSw; (try dsimp only at hSw); go_simp) <;> with_reducible rfl
  simp only [Act.put, List.getElem_toArray, List.getElem_cons_zero, List.getElem_cons_succ, List.setIfInBounds_toArray, List.set_cons_zero, List.set_cons_succ]
  refine anyL_take (i := 9) (v := ?vq43) rfl (by kernel_rfl) (by kernel_rfl) (by kernel_rfl) (by kernel_rfl) (fun _ _ _ h => h) (Or.inl ⟨by rfl, ?hq43⟩) (trivial) ?_
  case hq43 => (intro w hSw; (try dsimp only at hSw); go_simp) <;> with_reducible rfl
  simp only [Act.put, List.getElem_toArray, List.getElem_cons_zero, List.getElem_cons_succ, List.setIfInBounds_toArray, List.set_cons_zero, List.set_cons_succ]
  refine anyL_take (i := 10) (v := ?vq44) rfl (by kernel_rfl) (by kernel_rfl) (by kernel_rfl) (by kernel_rfl) (fun _ _ _ h => h) (Or.inl ⟨by rfl, ?hq44⟩) (trivial) ?_
  case hq44 => (intro w hSw; (try dsimp only at hSw); go_simp) <;> with_reducible rfl
  simp only [Act.put, List.getElem_toArray, List.getElem_cons_zero, List.getElem_cons_succ, List.setIfInBounds_toArray, List.set_cons_zero, List.set_cons_succ]
  refine anyL_ready (rs := [11]) (by kernel_rfl) (by simp) ?_
  refine AllL.cons rfl (fun K hK => ?_) AllL.nil
  go_simp
  refine unhide hK _ _ (fun _ => trivial) ?_
  clear hK K
  refine anyL_take (i := 12) (v := ?vq45) rfl (by kernel_rfl) (by kernel_rfl) (by kernel_rfl) (by kernel_rfl) (fun _ _ _ h => h) (Or.inl ⟨by rfl, ?hq45⟩) (trivial) ?_
  case hq45 => (intro w hSw; (try dsimp only at hSw); go_simp) <;> with_reducible rfl
  simp only [Act.put, List.getElem_toArray, List.getElem_cons_zero, List.getElem_cons_succ, List.setIfInBounds_toArray, List.set_cons_zero, List.set_cons_succ]
  refine anyL_take (i := 13) (v := ?vq46) rfl (by kernel_rfl) (by kernel_rfl) (by kernel_rfl) (by kernel_rfl) (fun _ _ _ h => h) (Or.inl ⟨by rfl, ?hq46⟩) (trivial) ?_
  case hq46 => (intro w hSw; (try dsimp only at hSw); go_simp) <;> with_reducible rfl
  simp only [Act.put, List.getElem_toArray, List.getElem_cons_zero, List.getElem_cons_succ, List.setIfInBounds_toArray, List.set_cons_zero, List.set_cons_succ]
  refine anyL_done (by kernel_rfl) ?_ _
  go_wp2_with fail
  generalize ((w2.setCell ⟨XX.heap.size, 0, none⟩ (.int .i64 0)).setCell ⟨XX.heap.size, 1, none⟩ (.string ⟨#[]⟩)) = W at *
  exact bodyPost_ret (v := .tuple #[.agg #[.int .i64 0, .string ⟨#[]⟩], .string ⟨#[]⟩, .int .i64 170]) (by simp [results, Try.results42, go_sem, q0, q1]) rfl ⟨rfl, _, ⟨_, _, _, rfl, unhide HI9⟩, unhide HG9⟩
set_option maxRecDepth 100000 in
set_option maxHeartbeats 4000000 in
theorem Undo1Q_at (XX : World) (F : Nat → Prop) (g : Nat) (p : Pa (Int × ByteArray)) (h0 : PsQ XX F g p) (ho : p.o = none) (Q : List ((Int × ByteArray) × ByteArray)) (s : (Int × ByteArray)) (w : ByteArray) (hp : p.b = Q ++ [(s, w)]) (hn : p.a.length ≤ 4096) (hq : Q.length ≤ 4096) :
    Calls Try.prog 42 #[.pointer (some ⟨g, 0, none⟩)] XX fun y Y => y = .returned (.tuple #[.agg #[.int .i64 s.1, .string s.2], .string w, .int .i64 0]) ∧ ∃ G, PsQ Y G g { p with s := s, b := Q, a := p.a ++ [(p.s, w)] } ∧ Gr F XX G Y := by
  have k00 : KpF (fun _ => False) XX (XX.alloc (.cells #[.int .i64 0, .string ⟨#[]⟩] 28)) := KpF.of ((Below.refl XX.heap.size XX).alloc (Nat.le_refl _) _)
  have h := h0.kpf k00 (fun _ _ e => e)
  have HRC := hide (Cls.new XX 28 #[.int .i64 0, .string ⟨#[]⟩])
  have HRO : Hid (¬ F XX.heap.size) := hide fun e => Nat.lt_irrefl _ (h0.lt _ e)
  have HGX : Hid (Gr F XX F (XX.alloc (.cells #[.int .i64 0, .string ⟨#[]⟩] 28))) := hide ⟨k00.mono (fun _ _ e => e.elim), fun _ e => .inl e⟩
  have H := hide h
  clear h0 k00 h
  go_enter Try.func42, Try.ntmps42
  go_upto_region 1 with fail
  generalize XX.alloc (.cells #[.int .i64 0, .string ⟨#[]⟩] 28) = X at *
  have h := unhide H
  clear H
  have HC := hide (busyQ_at X F g p h)
  rw [ho] at HC
  obtain ⟨kb, ka, ko, rfl, h⟩ := h
  have hD := h.kpf (kpf_drew X) (fun _ _ e => e)
  have HT := hide (takeUQ_at X.drew g p kb ka ko hD Q s w hp hn hq)
  have HI := hide hD
  have HG : Hid (Gr (FO g kb ka ko) X (FO g kb ka ko) X.drew) := hide ⟨(kpf_drew X).mono (fun _ _ e => e.elim), fun _ e => .inl e⟩
  clear h hD ho hp
  go_wp2_with fail
  refine (unhide HC).mono ?_
  rintro y w1 ⟨rfl, rfl⟩
  dsimp only
  simp only [Option.isSome_none, Bool.false_eq_true, if_false]
  clear HC
  go_upto_region 5 with fail
  refine regionL (S := fun _ => True) (fun _ => false) (by kernel_rfl) ?_
  refine anyL_take (i := 0) (v := ?vq47) rfl (by kernel_rfl) (by kernel_rfl) (by kernel_rfl) (by kernel_rfl) (fun _ _ _ h => h) (Or.inl ⟨by rfl, ?hq47⟩) (trivial) ?_
  case hq47 => (intro w hSw; (try dsimp only at hSw); go_simp) <;> with_reducible rfl
  simp only [Act.put, List.getElem_toArray, List.getElem_cons_zero, List.setIfInBounds_toArray, List.set_cons_zero, List.set_cons_succ]
  refine anyL_take (i := 1) (v := ?vq48) rfl (by kernel_rfl) (by kernel_rfl) (by kernel_rfl) (by kernel_rfl) (fun _ _ _ h => h) (Or.inl ⟨by rfl, ?hq48⟩) (trivial) ?_
  case hq48 => (intro w hSw; (try dsimp only at hSw); go_simp) <;> with_reducible rfl
  simp only [Act.put, List.getElem_toArray, List.getElem_cons_zero, List.getElem_cons_succ, List.setIfInBounds_toArray, List.set_cons_zero, List.set_cons_succ]
  refine anyL_take (i := 2) (v := ?vq49) rfl (by kernel_rfl) (by kernel_rfl) (by kernel_rfl) (by kernel_rfl) (fun _ _ _ h => h) (Or.inl ⟨by rfl, ?hq49⟩) (trivial) ?_
  case hq49 => (intro w hSw; (try dsimp only at hSw); go_simp) <;> with_reducible rfl
  simp only [Act.put, List.getElem_toArray, List.getElem_cons_zero, List.getElem_cons_succ, List.setIfInBounds_toArray, List.set_cons_zero, List.set_cons_succ]
  refine anyL_take (i := 3) (v := ?vq50) rfl (by kernel_rfl) (by kernel_rfl) (by kernel_rfl) (by kernel_rfl) (fun _ _ _ h => h) (Or.inl ⟨by rfl, ?hq50⟩) (trivial) ?_
  case hq50 => (intro w hSw; (try dsimp only at hSw); go_simp) <;> with_reducible rfl
  simp only [Act.put, List.getElem_toArray, List.getElem_cons_zero, List.getElem_cons_succ, List.setIfInBounds_toArray, List.set_cons_zero, List.set_cons_succ]
  refine anyL_take (i := 4) (v := ?vq51) rfl (by kernel_rfl) (by kernel_rfl) (by kernel_rfl) (by kernel_rfl) (fun _ _ _ h => h) (Or.inl ⟨by rfl, ?hq51⟩) (trivial) ?_
  case hq51 => (intro w hSw; (try dsimp only at hSw); go_simp) <;> with_reducible rfl
  simp only [Act.put, List.getElem_toArray, List.getElem_cons_zero, List.getElem_cons_succ, List.setIfInBounds_toArray, List.set_cons_zero, List.set_cons_succ]
  refine anyL_take (i := 5) (v := ?vq52) rfl (by kernel_rfl) (by kernel_rfl) (by kernel_rfl) (by kernel_rfl) (fun _ _ _ h => h) (Or.inl ⟨by rfl, ?hq52⟩) (trivial) ?_
  case hq52 => (intro w hSw; (try dsimp only at hSw); go_simp) <;> with_reducible rfl
  simp only [Act.put, List.getElem_toArray, List.getElem_cons_zero, List.getElem_cons_succ, List.setIfInBounds_toArray, List.set_cons_zero, List.set_cons_succ]
  refine anyL_take (i := 6) (v := ?vq53) rfl (by kernel_rfl) (by kernel_rfl) (by kernel_rfl) (by kernel_rfl) (fun _ _ _ h => h) (Or.inl ⟨by rfl, ?hq53⟩) (trivial) ?_
  case hq53 => (intro w hSw; (try dsimp only at hSw); go_simp) <;> with_reducible rfl
  simp only [Act.put, List.getElem_toArray, List.getElem_cons_zero, List.getElem_cons_succ, List.setIfInBounds_toArray, List.set_cons_zero, List.set_cons_succ]
  refine anyL_ready (rs := [7]) (by kernel_rfl) (by simp) ?_
  refine AllL.cons rfl (fun K hK => ?_) AllL.nil
  go_simp
  refine (unhide HT).mono ?_
  rintro y w2 ⟨rfl, k', i2, g2⟩
  have g3 := (unhide HG).trans g2
  clear g2
  have hr := (unhide HRC).kpf g3.kp (unhide HRO)
  have hrn := g3.out (unhide HRC).lt (unhide HRO)
  have a0 := hr.cell 0
  have a1 := hr.cell 1
  have f0 := hr.frozen 0
  have f1 := hr.frozen 1
  have k2 := (hr.set 0 (.int .i64 s.1)).set 1 (.string s.2)
  have q0 := k2.cell 0
  have q1 := k2.cell 1
  simp only [List.getElem?_toArray, List.getElem?_cons_zero, List.getElem?_cons_succ, List.setIfInBounds_toArray, List.set_cons_zero, List.set_cons_succ] at  q0 q1 a0 a1
  have kk := (KpF.set (F := fun i => i = XX.heap.size) w2 ⟨XX.heap.size, 0, none⟩ (.int .i64 s.1) rfl).trans (KpF.set (F := fun i => i = XX.heap.size) _ ⟨XX.heap.size, 1, none⟩ (.string s.2) rfl) (fun _ _ e => e)
  have HI9 := hide (i2.kpf kk (fun i e e1 => hrn (e1 ▸ e)))
  have gy := (unhide HGX).trans g3
  have HG9 := hide (show Gr (FO g kb ka ko) XX _ _ from ⟨gy.kp.trans kk (fun i hi e => by omega), gy.new⟩)
  clear hr hrn k2 kk gy g3 i2 HI HG HRC HRO HGX
  refine unhide hK _ _ (fun _ => trivial) ?_
  clear hK K HT
  refine anyL_take (i := 8) (v := ?vq54) rfl (by kernel_rfl) (by kernel_rfl) (by kernel_rfl) (by kernel_rfl) (fun _ _ _ h => h) (Or.inl ⟨by rfl, ?hq54⟩) (trivial) ?_
  case hq54 => (intro w hSw; (try dsimp only at hSw); go_simp) <;> with_reducible rfl
  simp only [Act.put, List.getElem_toArray, List.getElem_cons_zero, List.getElem_cons_succ, List.setIfInBounds_toArray, List.set_cons_zero, List.set_cons_succ]
  refine anyL_take (i := 9) (v := ?vq55) rfl (by kernel_rfl) (by kernel_rfl) (by kernel_rfl) (by kernel_rfl) (fun _ _ _ h => h) (Or.inl ⟨by rfl, ?hq55⟩) (trivial) ?_
  case hq55 => (intro w hSw; (try dsimp only at hSw); go_simp) <;> with_reducible rfl
  simp only [Act.put, List.getElem_toArray, List.getElem_cons_zero, List.getElem_cons_succ, List.setIfInBounds_toArray, List.set_cons_zero, List.set_cons_succ]
  refine anyL_take (i := 10) (v := ?vq56) rfl (by kernel_rfl) (by kernel_rfl) (by kernel_rfl) (by kernel_rfl) (fun _ _ _ h => h) (Or.inl ⟨by rfl, ?hq56⟩) (trivial) ?_
  case hq56 => (intro w hSw; (try dsimp only at hSw); go_simp) <;> with_reducible rfl
  simp only [Act.put, List.getElem_toArray, List.getElem_cons_zero, List.getElem_cons_succ, List.setIfInBounds_toArray, List.set_cons_zero, List.set_cons_succ]
  refine anyL_ready (rs := [11]) (by kernel_rfl) (by simp) ?_
  refine AllL.cons rfl (fun K hK => ?_) AllL.nil
  go_simp
  refine unhide hK _ _ (fun _ => trivial) ?_
  clear hK K
  refine anyL_take (i := 12) (v := ?vq57) rfl (by kernel_rfl) (by kernel_rfl) (by kernel_rfl) (by kernel_rfl) (fun _ _ _ h => h) (Or.inl ⟨by rfl, ?hq57⟩) (trivial) ?_
  case hq57 => (intro w hSw; (try dsimp only at hSw); go_simp) <;> with_reducible rfl
  simp only [Act.put, List.getElem_toArray, List.getElem_cons_zero, List.getElem_cons_succ, List.setIfInBounds_toArray, List.set_cons_zero, List.set_cons_succ]
  refine anyL_take (i := 13) (v := ?vq58) rfl (by kernel_rfl) (by kernel_rfl) (by kernel_rfl) (by kernel_rfl) (fun _ _ _ h => h) (Or.inl ⟨by rfl, ?hq58⟩) (trivial) ?_
  case hq58 => (intro w hSw; (try dsimp only at hSw); go_simp) <;> with_reducible rfl
  simp only [Act.put, List.getElem_toArray, List.getElem_cons_zero, List.getElem_cons_succ, List.setIfInBounds_toArray, List.set_cons_zero, List.set_cons_succ]
  refine anyL_done (by kernel_rfl) ?_ _
  go_wp2_with fail
  generalize ((w2.setCell ⟨XX.heap.size, 0, none⟩ (.int .i64 s.1)).setCell ⟨XX.heap.size, 1, none⟩ (.string s.2)) = W at *
  exact bodyPost_ret (v := .tuple #[.agg #[.int .i64 s.1, .string s.2], .string w, .int .i64 0]) (by simp [results, Try.results42, go_sem, q0, q1]) rfl ⟨rfl, _, ⟨_, _, _, rfl, unhide HI9⟩, unhide HG9⟩
set_option maxRecDepth 100000 in
set_option maxHeartbeats 4000000 in
theorem Redo2Q_at (XX : World) (F : Nat → Prop) (g : Nat) (p : Pa (Int × ByteArray)) (h0 : PsQ XX F g p) (ho : p.o.isSome = true) :
    Calls Try.prog 43 #[.pointer (some ⟨g, 0, none⟩)] XX fun y Y => y = .returned (.tuple #[.agg #[.int .i64 0, .string ⟨#[]⟩], .string ⟨#[]⟩, .int .i64 171]) ∧ Below XX.heap.size XX Y := by
  have HB := hide ((Below.refl XX.heap.size XX).alloc (Nat.le_refl _) (.cells #[.int .i64 0, .string ⟨#[]⟩] 28))
  have k00 : KpF (fun _ => False) XX (XX.alloc (.cells #[.int .i64 0, .string ⟨#[]⟩] 28)) := KpF.of ((Below.refl XX.heap.size XX).alloc (Nat.le_refl _) _)
  have h := h0.kpf k00 (fun _ _ e => e)
  have HRC := hide (Cls.new XX 28 #[.int .i64 0, .string ⟨#[]⟩])
  have HRO : Hid (¬ F XX.heap.size) := hide fun e => Nat.lt_irrefl _ (h0.lt _ e)
  have HGX : Hid (Gr F XX F (XX.alloc (.cells #[.int .i64 0, .string ⟨#[]⟩] 28))) := hide ⟨k00.mono (fun _ _ e => e.elim), fun _ e => .inl e⟩
  have H := hide h
  clear h0 k00 h
  go_enter Try.func43, Try.ntmps43
  go_upto_region 1 with fail
  generalize XX.alloc (.cells #[.int .i64 0, .string ⟨#[]⟩] 28) = X at *
  have h := unhide H
  clear H
  have HC := hide (busyQ_at X F g p h)
  rw [ho] at HC
  clear h ho HRO HGX
  go_wp2_with fail
  refine (unhide HC).mono ?_
  rintro y w1 ⟨rfl, rfl⟩
  dsimp only
  simp only [if_true]
  have k1 := (unhide HRC).alloc (.cells #[.int .i64 0, .string ⟨#[]⟩] 28)
  have a0 := k1.cell 0
  have a1 := k1.cell 1
  have f0 := k1.frozen 0
  have f1 := k1.frozen 1
  have k2 := (k1.set 0 (.int .i64 0)).set 1 (.string ⟨#[]⟩)
  have HBB := hide ((((unhide HB).alloc (B := XX.heap.size) (unhide HB).size (.cells #[.int .i64 0, .string ⟨#[]⟩] 28)).setCell (p := ⟨XX.heap.size, 0, none⟩) (Nat.le_refl _) (.int .i64 0)).setCell (p := ⟨XX.heap.size, 1, none⟩) (Nat.le_refl _) (.string ⟨#[]⟩))
  have q0 := k2.cell 0
  have q1 := k2.cell 1
  simp only [List.getElem?_toArray, List.getElem?_cons_zero, List.getElem?_cons_succ, List.setIfInBounds_toArray, List.set_cons_zero, List.set_cons_succ] at  q0 q1 a0 a1
  clear k1 k2 HRC HB HC
  go_wp2_with fail
  generalize (((w1.alloc (.cells #[.int .i64 0, .string ⟨#[]⟩] 28)).setCell ⟨XX.heap.size, 0, none⟩ (.int .i64 0)).setCell ⟨XX.heap.size, 1, none⟩ (.string ⟨#[]⟩)) = W at *
  exact bodyPost_ret (v := .tuple #[.agg #[.int .i64 0, .string ⟨#[]⟩], .string ⟨#[]⟩, .int .i64 171]) (by simp [results, Try.results43, go_sem, q0, q1]) rfl ⟨rfl, unhide HBB⟩
set_option maxRecDepth 100000 in
set_option maxHeartbeats 4000000 in
theorem Redo0Q_at (XX : World) (F : Nat → Prop) (g : Nat) (p : Pa (Int × ByteArray)) (h0 : PsQ XX F g p) (ho : p.o = none) (hp : p.a = []) :
    Calls Try.prog 43 #[.pointer (some ⟨g, 0, none⟩)] XX fun y Y => y = .returned (.tuple #[.agg #[.int .i64 0, .string ⟨#[]⟩], .string ⟨#[]⟩, .int .i64 170]) ∧ ∃ G, PsQ Y G g p ∧ Gr F XX G Y := by
  have k00 : KpF (fun _ => False) XX (XX.alloc (.cells #[.int .i64 0, .string ⟨#[]⟩] 28)) := KpF.of ((Below.refl XX.heap.size XX).alloc (Nat.le_refl _) _)
  have h := h0.kpf k00 (fun _ _ e => e)
  have HRC := hide (Cls.new XX 28 #[.int .i64 0, .string ⟨#[]⟩])
  have HRO : Hid (¬ F XX.heap.size) := hide fun e => Nat.lt_irrefl _ (h0.lt _ e)
  have HGX : Hid (Gr F XX F (XX.alloc (.cells #[.int .i64 0, .string ⟨#[]⟩] 28))) := hide ⟨k00.mono (fun _ _ e => e.elim), fun _ e => .inl e⟩
  have H := hide h
  clear h0 k00 h
  go_enter Try.func43, Try.ntmps43
  go_upto_region 1 with fail
  generalize XX.alloc (.cells #[.int .i64 0, .string ⟨#[]⟩] 28) = X at *
  have h := unhide H
  clear H
  have HC := hide (busyQ_at X F g p h)
  rw [ho] at HC
  obtain ⟨kb, ka, ko, rfl, h⟩ := h
  have hD := h.kpf (kpf_drew X) (fun _ _ e => e)
  have HT := hide (takeR0Q_at X.drew g p kb ka ko hD hp)
  have HI := hide hD
  have HG : Hid (Gr (FO g kb ka ko) X (FO g kb ka ko) X.drew) := hide ⟨(kpf_drew X).mono (fun _ _ e => e.elim), fun _ e => .inl e⟩
  clear h hD ho hp
  go_wp2_with fail
  refine (unhide HC).mono ?_
  rintro y w1 ⟨rfl, rfl⟩
  dsimp only
  simp only [Option.isSome_none, Bool.false_eq_true, if_false]
  clear HC
  go_upto_region 5 with fail
  refine regionL (S := fun _ => True) (fun _ => false) (by kernel_rfl) ?_
  refine anyL_take (i := 0) (v := ?vq59) rfl (by kernel_rfl) (by kernel_rfl) (by kernel_rfl) (by kernel_rfl) (fun _ _ _ h => h) (Or.inl ⟨by rfl, ?hq59⟩) (trivial) ?_
  case hq59 => (intro w hSw; (try dsimp only at hSw); go_simp) <;> with_reducible rfl
  simp only [Act.put, List.getElem_toArray, List.getElem_cons_zero, List.setIfInBounds_toArray, List.set_cons_zero, List.set_cons_succ]
  refine anyL_take (i := 1) (v := ?vq60) rfl (by kernel_rfl) (by kernel_rfl) (by kernel_rfl) (by kernel_rfl) (fun _ _ _ h => h) (Or.inl ⟨by rfl, ?hq60⟩) (trivial) ?_
  case hq60 => (intro w hSw; (try dsimp only at hSw); go_simp) <;> with_reducible rfl
  simp only [Act.put, List.getElem_toArray, List.getElem_cons_zero, List.getElem_cons_succ, List.setIfInBounds_toArray, List.set_cons_zero, List.set_cons_succ]
  refine anyL_take (i := 2) (v := ?vq61) rfl (by kernel_rfl) (by kernel_rfl) (by kernel_rfl) (by kernel_rfl) (fun _ _ _ h => h) (Or.inl ⟨by rfl, ?hq61⟩) (trivial) ?_
  case hq61 => (intro w hSw; (try dsimp only at hSw); go_simp) <;> with_reducible rfl
  simp only [Act.put, List.getElem_toArray, List.getElem_cons_zero, List.getElem_cons_succ, List.setIfInBounds_toArray, List.set_cons_zero, List.set_cons_succ]
  refine anyL_take (i := 3) (v := ?vq62) rfl (by kernel_rfl) (by kernel_rfl) (by kernel_rfl) (by kernel_rfl) (fun _ _ _ h => h) (Or.inl ⟨by rfl, ?hq62⟩) (trivial) ?_
  case hq62 => (intro w hSw; (try dsimp only at hSw); go_simp) <;> with_reducible rfl
  simp only [Act.put, List.getElem_toArray, List.getElem_cons_zero, List.getElem_cons_succ, List.setIfInBounds_toArray, List.set_cons_zero, List.set_cons_succ]
  refine anyL_take (i := 4) (v := ?vq63) rfl (by kernel_rfl) (by kernel_rfl) (by kernel_rfl) (by kernel_rfl) (fun _ _ _ h => h) (Or.inl ⟨by rfl, ?hq63⟩) (trivial) ?_
  case hq63 => (intro w hSw; (try dsimp only at hSw); go_simp) <;> with_reducible rfl
  simp only [Act.put, List.getElem_toArray, List.getElem_cons_zero, List.getElem_cons_succ, List.setIfInBounds_toArray, List.set_cons_zero, List.set_cons_succ]
  refine anyL_take (i := 5) (v := ?vq64) rfl (by kernel_rfl) (by kernel_rfl) (by kernel_rfl) (by kernel_rfl) (fun _ _ _ h => h) (Or.inl ⟨by rfl, ?hq64⟩) (trivial) ?_
  case hq64 => (intro w hSw; (try dsimp only at hSw); go_simp) <;> with_reducible rfl
  simp only [Act.put, List.getElem_toArray, List.getElem_cons_zero, List.getElem_cons_succ, List.setIfInBounds_toArray, List.set_cons_zero, List.set_cons_succ]
  refine anyL_take (i := 6) (v := ?vq65) rfl (by kernel_rfl) (by kernel_rfl) (by kernel_rfl) (by kernel_rfl) (fun _ _ _ h => h) (Or.inl ⟨by rfl, ?hq65⟩) (trivial) ?_
  case hq65 => (intro w hSw; (try dsimp only at hSw); go_simp) <;> with_reducible rfl
  simp only [Act.put, List.getElem_toArray, List.getElem_cons_zero, List.getElem_cons_succ, List.setIfInBounds_toArray, List.set_cons_zero, List.set_cons_succ]
  refine anyL_ready (rs := [7]) (by kernel_rfl) (by simp) ?_
  refine AllL.cons rfl (fun K hK => ?_) AllL.nil
  go_simp
  refine (unhide HT).mono ?_
  rintro y w2 ⟨rfl, x2⟩
  have i2 := (unhide HI).kpf (F := fun _ => False) (KpF.of x2) (fun _ _ e => e)
  have g3 : Gr (FO g kb ka ko) w1 (FO g kb ka ko) w2 := (unhide HG).trans ⟨KpF.of x2, fun _ e => .inl e⟩
  clear x2
  have hr := (unhide HRC).kpf g3.kp (unhide HRO)
  have hrn := g3.out (unhide HRC).lt (unhide HRO)
  have a0 := hr.cell 0
  have a1 := hr.cell 1
  have f0 := hr.frozen 0
  have f1 := hr.frozen 1
  have k2 := (hr.set 0 (.int .i64 0)).set 1 (.string ⟨#[]⟩)
  have q0 := k2.cell 0
  have q1 := k2.cell 1
  simp only [List.getElem?_toArray, List.getElem?_cons_zero, List.getElem?_cons_succ, List.setIfInBounds_toArray, List.set_cons_zero, List.set_cons_succ] at  q0 q1 a0 a1
  have kk := (KpF.set (F := fun i => i = XX.heap.size) w2 ⟨XX.heap.size, 0, none⟩ (.int .i64 0) rfl).trans (KpF.set (F := fun i => i = XX.heap.size) _ ⟨XX.heap.size, 1, none⟩ (.string ⟨#[]⟩) rfl) (fun _ _ e => e)
  have HI9 := hide (i2.kpf kk (fun i e e1 => hrn (e1 ▸ e)))
  have gy := (unhide HGX).trans g3
  have HG9 := hide (show Gr (FO g kb ka ko) XX _ _ from ⟨gy.kp.trans kk (fun i hi e => by omega), gy.new⟩)
  clear hr hrn k2 kk gy g3 i2 HI HG HRC HRO HGX
  refine unhide hK _ _ (fun _ => trivial) ?_
  clear hK K HT
  refine anyL_take (i := 8) (v := ?vq66) rfl (by kernel_rfl) (by kernel_rfl) (by kernel_rfl) (by kernel_rfl) (fun _ _ _ h => h) (Or.inl ⟨by rfl, ?hq66⟩) (trivial) ?_
  case hq66 => (intro w hSw; (try dsimp only at hSw); go_simp) <;> with_reducible rfl
  simp only [Act.put, List.getElem_toArray, List.getElem_cons_zero, List.getElem_cons_succ, List.setIfInBounds_toArray, List.set_cons_zero, List.set_cons_succ]
  refine anyL_take (i := 9) (v := ?vq67) rfl (by kernel_rfl) (by kernel_rfl) (by kernel_rfl) (by kernel_rfl) (fun _ _ _ h => h) (Or.inl ⟨by rfl, ?hq67⟩) (trivial) ?_
  case hq67 => (intro w hSw; (try dsimp only at hSw); go_simp) <;> with_reducible rfl
  simp only [Act.put, List.getElem_toArray, List.getElem_cons_zero, List.getElem_cons_succ, List.setIfInBounds_toArray, List.set_cons_zero, List.set_cons_succ]
  refine anyL_take (i := 10) (v := ?vq68) rfl (by kernel_rfl) (by kernel_rfl) (by kernel_rfl) (by kernel_rfl) (fun _ _ _ h => h) (Or.inl ⟨by rfl, ?hq68⟩) (trivial) ?_
  case hq68 => (intro w hSw; (try dsimp only at hSw); go_simp) <;> with_reducible rfl
  simp only [Act.put, List.getElem_toArray, List.getElem_cons_zero, List.getElem_cons_succ, List.setIfInBounds_toArray, List.set_cons_zero, List.set_cons_succ]
  refine anyL_ready (rs := [11]) (by kernel_rfl) (by simp) ?_
  refine AllL.cons rfl (fun K hK => ?_) AllL.nil
  go_simp
  refine unhide hK _ _ (fun _ => trivial) ?_
  clear hK K
  refine anyL_take (i := 12) (v := ?vq69) rfl (by kernel_rfl) (by kernel_rfl) (by kernel_rfl) (by kernel_rfl) (fun _ _ _ h => h) (Or.inl ⟨by rfl, ?hq69⟩) (trivial) ?_
  case hq69 => (intro w hSw; (try dsimp only at hSw); go_simp) <;> with_reducible rfl
  simp only [Act.put, List.getElem_toArray, List.getElem_cons_zero, List.getElem_cons_succ, List.setIfInBounds_toArray, List.set_cons_zero, List.set_cons_succ]
  refine anyL_take (i := 13) (v := ?vq70) rfl (by kernel_rfl) (by kernel_rfl) (by kernel_rfl) (by kernel_rfl) (fun _ _ _ h => h) (Or.inl ⟨by rfl, ?hq70⟩) (trivial) ?_
  case hq70 => (intro w hSw; (try dsimp only at hSw); go_simp) <;> with_reducible rfl
  simp only [Act.put, List.getElem_toArray, List.getElem_cons_zero, List.getElem_cons_succ, List.setIfInBounds_toArray, List.set_cons_zero, List.set_cons_succ]
  refine anyL_done (by kernel_rfl) ?_ _
  go_wp2_with fail
  generalize ((w2.setCell ⟨XX.heap.size, 0, none⟩ (.int .i64 0)).setCell ⟨XX.heap.size, 1, none⟩ (.string ⟨#[]⟩)) = W at *
  exact bodyPost_ret (v := .tuple #[.agg #[.int .i64 0, .string ⟨#[]⟩], .string ⟨#[]⟩, .int .i64 170]) (by simp [results, Try.results43, go_sem, q0, q1]) rfl ⟨rfl, _, ⟨_, _, _, rfl, unhide HI9⟩, unhide HG9⟩
set_option maxRecDepth 100000 in
set_option maxHeartbeats 4000000 in
theorem Redo1Q_at (XX : World) (F : Nat → Prop) (g : Nat) (p : Pa (Int × ByteArray)) (h0 : PsQ XX F g p) (ho : p.o = none) (Q : List ((Int × ByteArray) × ByteArray)) (s : (Int × ByteArray)) (w : ByteArray) (hp : p.a = Q ++ [(s, w)]) (hn : p.b.length ≤ 4096) (hq : Q.length ≤ 4096) :
    Calls Try.prog 43 #[.pointer (some ⟨g, 0, none⟩)] XX fun y Y => y = .returned (.tuple #[.agg #[.int .i64 s.1, .string s.2], .string w, .int .i64 0]) ∧ ∃ G, PsQ Y G g { p with s := s, a := Q, b := p.b ++ [(p.s, w)] } ∧ Gr F XX G Y := by
  have k00 : KpF (fun _ => False) XX (XX.alloc (.cells #[.int .i64 0, .string ⟨#[]⟩] 28)) := KpF.of ((Below.refl XX.heap.size XX).alloc (Nat.le_refl _) _)
  have h := h0.kpf k00 (fun _ _ e => e)
  have HRC := hide (Cls.new XX 28 #[.int .i64 0, .string ⟨#[]⟩])
  have HRO : Hid (¬ F XX.heap.size) := hide fun e => Nat.lt_irrefl _ (h0.lt _ e)
  have HGX : Hid (Gr F XX F (XX.alloc (.cells #[.int .i64 0, .string ⟨#[]⟩] 28))) := hide ⟨k00.mono (fun _ _ e => e.elim), fun _ e => .inl e⟩
  have H := hide h
  clear h0 k00 h
  go_enter Try.func43, Try.ntmps43
  go_upto_region 1 with fail
  generalize XX.alloc (.cells #[.int .i64 0, .string ⟨#[]⟩] 28) = X at *
  have h := unhide H
  clear H
  have HC := hide (busyQ_at X F g p h)
  rw [ho] at HC
  obtain ⟨kb, ka, ko, rfl, h⟩ := h
  have hD := h.kpf (kpf_drew X) (fun _ _ e => e)
  have HT := hide (takeRQ_at X.drew g p kb ka ko hD Q s w hp hn hq)
  have HI := hide hD
  have HG : Hid (Gr (FO g kb ka ko) X (FO g kb ka ko) X.drew) := hide ⟨(kpf_drew X).mono (fun _ _ e => e.elim), fun _ e => .inl e⟩
  clear h hD ho hp
  go_wp2_with fail
  refine (unhide HC).mono ?_
  rintro y w1 ⟨rfl, rfl⟩
  dsimp only
  simp only [Option.isSome_none, Bool.false_eq_true, if_false]
  clear HC
  go_upto_region 5 with fail
  refine regionL (S := fun _ => True) (fun _ => false) (by kernel_rfl) ?_
  refine anyL_take (i := 0) (v := ?vq71) rfl (by kernel_rfl) (by kernel_rfl) (by kernel_rfl) (by kernel_rfl) (fun _ _ _ h => h) (Or.inl ⟨by rfl, ?hq71⟩) (trivial) ?_
  case hq71 => (intro w hSw; (try dsimp only at hSw); go_simp) <;> with_reducible rfl
  simp only [Act.put, List.getElem_toArray, List.getElem_cons_zero, List.setIfInBounds_toArray, List.set_cons_zero, List.set_cons_succ]
  refine anyL_take (i := 1) (v := ?vq72) rfl (by kernel_rfl) (by kernel_rfl) (by kernel_rfl) (by kernel_rfl) (fun _ _ _ h => h) (Or.inl ⟨by rfl, ?hq72⟩) (trivial) ?_
  case hq72 => (intro w hSw; (try dsimp only at hSw); go_simp) <;> with_reducible rfl
  simp only [Act.put, List.getElem_toArray, List.getElem_cons_zero, List.getElem_cons_succ, List.setIfInBounds_toArray, List.set_cons_zero, List.set_cons_succ]
  refine anyL_take (i := 2) (v := ?vq73) rfl (by kernel_rfl) (by kernel_rfl) (by kernel_rfl) (by kernel_rfl) (fun _ _ _ h => h) (Or.inl ⟨by rfl, ?hq73⟩) (trivial) ?_
  case hq73 => (intro w hSw; (try dsimp only at hSw); go_simp) <;> with_reducible rfl
  simp only [Act.put, List.getElem_toArray, List.getElem_cons_zero, List.getElem_cons_succ, List.setIfInBounds_toArray, List.set_cons_zero, List.set_cons_succ]
  refine anyL_take (i := 3) (v := ?vq74) rfl (by kernel_rfl) (by kernel_rfl) (by kernel_rfl) (by kernel_rfl) (fun _ _ _ h => h) (Or.inl ⟨by rfl, ?hq74⟩) (trivial) ?_
  case hq74 => (intro w hSw; (try dsimp only at hSw); go_simp) <;> with_reducible rfl
  simp only [Act.put, List.getElem_toArray, List.getElem_cons_zero, List.getElem_cons_succ, List.setIfInBounds_toArray, List.set_cons_zero, List.set_cons_succ]
  refine anyL_take (i := 4) (v := ?vq75) rfl (by kernel_rfl) (by kernel_rfl) (by kernel_rfl) (by kernel_rfl) (fun _ _ _ h => h) (Or.inl ⟨by rfl, ?hq75⟩) (trivial) ?_
  case hq75 => (intro w hSw; (try dsimp only at hSw); go_simp) <;> with_reducible rfl
  simp only [Act.put, List.getElem_toArray, List.getElem_cons_zero, List.getElem_cons_succ, List.setIfInBounds_toArray, List.set_cons_zero, List.set_cons_succ]
  refine anyL_take (i := 5) (v := ?vq76) rfl (by kernel_rfl) (by kernel_rfl) (by kernel_rfl) (by kernel_rfl) (fun _ _ _ h => h) (Or.inl ⟨by rfl, ?hq76⟩) (trivial) ?_
  case hq76 => (intro w hSw; (try dsimp only at hSw); go_simp) <;> with_reducible rfl
  simp only [Act.put, List.getElem_toArray, List.getElem_cons_zero, List.getElem_cons_succ, List.setIfInBounds_toArray, List.set_cons_zero, List.set_cons_succ]
  refine anyL_take (i := 6) (v := ?vq77) rfl (by kernel_rfl) (by kernel_rfl) (by kernel_rfl) (by kernel_rfl) (fun _ _ _ h => h) (Or.inl ⟨by rfl, ?hq77⟩) (trivial) ?_
  case hq77 => (intro w hSw; (try dsimp only at hSw); go_simp) <;> with_reducible rfl
  simp only [Act.put, List.getElem_toArray, List.getElem_cons_zero, List.getElem_cons_succ, List.setIfInBounds_toArray, List.set_cons_zero, List.set_cons_succ]
  refine anyL_ready (rs := [7]) (by kernel_rfl) (by simp) ?_
  refine AllL.cons rfl (fun K hK => ?_) AllL.nil
  go_simp
  refine (unhide HT).mono ?_
  rintro y w2 ⟨rfl, k', i2, g2⟩
  have g3 := (unhide HG).trans g2
  clear g2
  have hr := (unhide HRC).kpf g3.kp (unhide HRO)
  have hrn := g3.out (unhide HRC).lt (unhide HRO)
  have a0 := hr.cell 0
  have a1 := hr.cell 1
  have f0 := hr.frozen 0
  have f1 := hr.frozen 1
  have k2 := (hr.set 0 (.int .i64 s.1)).set 1 (.string s.2)
  have q0 := k2.cell 0
  have q1 := k2.cell 1
  simp only [List.getElem?_toArray, List.getElem?_cons_zero, List.getElem?_cons_succ, List.setIfInBounds_toArray, List.set_cons_zero, List.set_cons_succ] at  q0 q1 a0 a1
  have kk := (KpF.set (F := fun i => i = XX.heap.size) w2 ⟨XX.heap.size, 0, none⟩ (.int .i64 s.1) rfl).trans (KpF.set (F := fun i => i = XX.heap.size) _ ⟨XX.heap.size, 1, none⟩ (.string s.2) rfl) (fun _ _ e => e)
  have HI9 := hide (i2.kpf kk (fun i e e1 => hrn (e1 ▸ e)))
  have gy := (unhide HGX).trans g3
  have HG9 := hide (show Gr (FO g kb ka ko) XX _ _ from ⟨gy.kp.trans kk (fun i hi e => by omega), gy.new⟩)
  clear hr hrn k2 kk gy g3 i2 HI HG HRC HRO HGX
  refine unhide hK _ _ (fun _ => trivial) ?_
  clear hK K HT
  refine anyL_take (i := 8) (v := ?vq78) rfl (by kernel_rfl) (by kernel_rfl) (by kernel_rfl) (by kernel_rfl) (fun _ _ _ h => h) (Or.inl ⟨by rfl, ?hq78⟩) (trivial) ?_
  case hq78 => (intro w hSw; (try dsimp only at hSw); go_simp) <;> with_reducible rfl
  simp only [Act.put, List.getElem_toArray, List.getElem_cons_zero, List.getElem_cons_succ, List.setIfInBounds_toArray, List.set_cons_zero, List.set_cons_succ]
  refine anyL_take (i := 9) (v := ?vq79) rfl (by kernel_rfl) (by kernel_rfl) (by kernel_rfl) (by kernel_rfl) (fun _ _ _ h => h) (Or.inl ⟨by rfl, ?hq79⟩) (trivial) ?_
  case hq79 => (intro w hSw; (try dsimp only at hSw); go_simp) <;> with_reducible rfl
  simp only [Act.put, List.getElem_toArray, List.getElem_cons_zero, List.getElem_cons_succ, List.setIfInBounds_toArray, List.set_cons_zero, List.set_cons_succ]
  refine anyL_take (i := 10) (v := ?vq80) rfl (by kernel_rfl) (by kernel_rfl) (by kernel_rfl) (by kernel_rfl) (fun _ _ _ h => h) (Or.inl ⟨by rfl, ?hq80⟩) (trivial) ?_
  case hq80 => (intro w hSw; (try dsimp only at hSw); go_simp) <;> with_reducible rfl
  simp only [Act.put, List.getElem_toArray, List.getElem_cons_zero, List.getElem_cons_succ, List.setIfInBounds_toArray, List.set_cons_zero, List.set_cons_succ]
  refine anyL_ready (rs := [11]) (by kernel_rfl) (by simp) ?_
  refine AllL.cons rfl (fun K hK => ?_) AllL.nil
  go_simp
  refine unhide hK _ _ (fun _ => trivial) ?_
  clear hK K
  refine anyL_take (i := 12) (v := ?vq81) rfl (by kernel_rfl) (by kernel_rfl) (by kernel_rfl) (by kernel_rfl) (fun _ _ _ h => h) (Or.inl ⟨by rfl, ?hq81⟩) (trivial) ?_
  case hq81 => (intro w hSw; (try dsimp only at hSw); go_simp) <;> with_reducible rfl
  simp only [Act.put, List.getElem_toArray, List.getElem_cons_zero, List.getElem_cons_succ, List.setIfInBounds_toArray, List.set_cons_zero, List.set_cons_succ]
  refine anyL_take (i := 13) (v := ?vq82) rfl (by kernel_rfl) (by kernel_rfl) (by kernel_rfl) (by kernel_rfl) (fun _ _ _ h => h) (Or.inl ⟨by rfl, ?hq82⟩) (trivial) ?_
  case hq82 => (intro w hSw; (try dsimp only at hSw); go_simp) <;> with_reducible rfl
  simp only [Act.put, List.getElem_toArray, List.getElem_cons_zero, List.getElem_cons_succ, List.setIfInBounds_toArray, List.set_cons_zero, List.set_cons_succ]
  refine anyL_done (by kernel_rfl) ?_ _
  go_wp2_with fail
  generalize ((w2.setCell ⟨XX.heap.size, 0, none⟩ (.int .i64 s.1)).setCell ⟨XX.heap.size, 1, none⟩ (.string s.2)) = W at *
  exact bodyPost_ret (v := .tuple #[.agg #[.int .i64 s.1, .string s.2], .string w, .int .i64 0]) (by simp [results, Try.results43, go_sem, q0, q1]) rfl ⟨rfl, _, ⟨_, _, _, rfl, unhide HI9⟩, unhide HG9⟩
end Go.Proofs.Ytdemfejladepjaa
