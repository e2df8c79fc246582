/- Layer 17: the document's past, its calls. Written by wip/tools/pvb.py. -/
import Derived.Test.YtdemfejladepjaaMg17

namespace Go.Proofs.Ytdemfejladepjaa
open Go.ChangeShapes Go.WideShapes Go.ChangeAt Go.RowKit
attribute [local go_sem] Oper.semAt_some

def LBf (B n : Nat) : Nat → Prop := fun i => B ≤ i ∧ i < B + n
theorem KpF.al {F : Nat → Prop} {X Y : World} (h : KpF F X Y) (o : Obj) : KpF F X (Y.alloc o) := h.trans (KpF.alloc (fun _ => False) Y o) (fun _ _ e => e.elim)
theorem KpF.upd {F : Nat → Prop} {X Y : World} (h : KpF F X Y) (p : Addr) (u : Value) (hp : F p.block ∨ X.heap.size ≤ p.block) : KpF F X (Y.setCell p u) :=
  h.trans (KpF.set (F := fun i => i = p.block) Y p u rfl) (fun k hk e => by rcases hp with hp | hp; exact e ▸ hp; omega)
theorem KpF.bel {F : Nat → Prop} {X Y Z : World} (h : KpF F X Y) (b : Below Y.heap.size Y Z) : KpF F X Z := h.trans (KpF.of (F := fun _ => False) b) (fun _ _ e => e.elim)
theorem Cls.set2 {W : World} {g : Nat} {t : TypeId} {z0 z1 v0 v1 : Value} (h : Cls W g t #[z0, z1]) : Cls ((W.setCell ⟨g, 0, none⟩ v0).setCell ⟨g, 1, none⟩ v1) g t #[v0, v1] := by simpa using ((h.set 0 v0).set 1 v1)
theorem Cls.oth2 {W : World} {g g2 : Nat} {t : TypeId} {cs : Array Value} {v0 v1 : Value} (h : Cls W g2 t cs) (hne : g2 ≠ g) : Cls ((W.setCell ⟨g, 0, none⟩ v0).setCell ⟨g, 1, none⟩ v1) g2 t cs := ((h.other ⟨g, 0, none⟩ v0 hne).other ⟨g, 1, none⟩ v1 hne)
theorem KpF.upd2 {F : Nat → Prop} {X W : World} {g : Nat} {v0 v1 : Value} (h : KpF F X W) (hp : F g ∨ X.heap.size ≤ g) : KpF F X ((W.setCell ⟨g, 0, none⟩ v0).setCell ⟨g, 1, none⟩ v1) := ((h.upd ⟨g, 0, none⟩ v0 hp).upd ⟨g, 1, none⟩ v1 hp)
theorem Cls.set9 {W : World} {g : Nat} {t : TypeId} {z0 z1 z2 z3 z4 z5 z6 z7 z8 v0 v1 v2 v3 v4 v5 v6 v7 v8 : Value} (h : Cls W g t #[z0, z1, z2, z3, z4, z5, z6, z7, z8]) : Cls (((((((((W.setCell ⟨g, 0, none⟩ v0).setCell ⟨g, 1, none⟩ v1).setCell ⟨g, 2, none⟩ v2).setCell ⟨g, 3, none⟩ v3).setCell ⟨g, 4, none⟩ v4).setCell ⟨g, 5, none⟩ v5).setCell ⟨g, 6, none⟩ v6).setCell ⟨g, 7, none⟩ v7).setCell ⟨g, 8, none⟩ v8) g t #[v0, v1, v2, v3, v4, v5, v6, v7, v8] := by simpa using (((((((((h.set 0 v0).set 1 v1).set 2 v2).set 3 v3).set 4 v4).set 5 v5).set 6 v6).set 7 v7).set 8 v8)
theorem Cls.oth9 {W : World} {g g2 : Nat} {t : TypeId} {cs : Array Value} {v0 v1 v2 v3 v4 v5 v6 v7 v8 : Value} (h : Cls W g2 t cs) (hne : g2 ≠ g) : Cls (((((((((W.setCell ⟨g, 0, none⟩ v0).setCell ⟨g, 1, none⟩ v1).setCell ⟨g, 2, none⟩ v2).setCell ⟨g, 3, none⟩ v3).setCell ⟨g, 4, none⟩ v4).setCell ⟨g, 5, none⟩ v5).setCell ⟨g, 6, none⟩ v6).setCell ⟨g, 7, none⟩ v7).setCell ⟨g, 8, none⟩ v8) g2 t cs := (((((((((h.other ⟨g, 0, none⟩ v0 hne).other ⟨g, 1, none⟩ v1 hne).other ⟨g, 2, none⟩ v2 hne).other ⟨g, 3, none⟩ v3 hne).other ⟨g, 4, none⟩ v4 hne).other ⟨g, 5, none⟩ v5 hne).other ⟨g, 6, none⟩ v6 hne).other ⟨g, 7, none⟩ v7 hne).other ⟨g, 8, none⟩ v8 hne)
theorem KpF.upd9 {F : Nat → Prop} {X W : World} {g : Nat} {v0 v1 v2 v3 v4 v5 v6 v7 v8 : Value} (h : KpF F X W) (hp : F g ∨ X.heap.size ≤ g) : KpF F X (((((((((W.setCell ⟨g, 0, none⟩ v0).setCell ⟨g, 1, none⟩ v1).setCell ⟨g, 2, none⟩ v2).setCell ⟨g, 3, none⟩ v3).setCell ⟨g, 4, none⟩ v4).setCell ⟨g, 5, none⟩ v5).setCell ⟨g, 6, none⟩ v6).setCell ⟨g, 7, none⟩ v7).setCell ⟨g, 8, none⟩ v8) := (((((((((h.upd ⟨g, 0, none⟩ v0 hp).upd ⟨g, 1, none⟩ v1 hp).upd ⟨g, 2, none⟩ v2 hp).upd ⟨g, 3, none⟩ v3 hp).upd ⟨g, 4, none⟩ v4 hp).upd ⟨g, 5, none⟩ v5 hp).upd ⟨g, 6, none⟩ v6 hp).upd ⟨g, 7, none⟩ v7 hp).upd ⟨g, 8, none⟩ v8 hp)
abbrev S2 (W : World) (g : Nat) (z0 z1 : Value) : Prop := W.cell? ⟨g, 0, none⟩ = some z0 ∧ W.cell? ⟨g, 1, none⟩ = some z1
theorem Cls.cells2 {W : World} {g : Nat} {t : TypeId} {z0 z1 : Value} (h : Cls W g t #[z0, z1]) : W.cell? ⟨g, 0, none⟩ = some z0 ∧ W.cell? ⟨g, 1, none⟩ = some z1 := ⟨(h.cell 0).trans rfl, (h.cell 1).trans rfl⟩
theorem Cls.froz2 {W : World} {g : Nat} {t : TypeId} {z0 z1 : Value} (h : Cls W g t #[z0, z1]) : W.frozen? ⟨g, 0, none⟩ = false ∧ W.frozen? ⟨g, 1, none⟩ = false := ⟨h.frozen 0, h.frozen 1⟩
abbrev S3 (W : World) (g : Nat) (z0 z1 z2 : Value) : Prop := W.cell? ⟨g, 0, none⟩ = some z0 ∧ W.cell? ⟨g, 1, none⟩ = some z1 ∧ W.cell? ⟨g, 2, none⟩ = some z2
theorem Cls.cells3 {W : World} {g : Nat} {t : TypeId} {z0 z1 z2 : Value} (h : Cls W g t #[z0, z1, z2]) : W.cell? ⟨g, 0, none⟩ = some z0 ∧ W.cell? ⟨g, 1, none⟩ = some z1 ∧ W.cell? ⟨g, 2, none⟩ = some z2 := ⟨(h.cell 0).trans rfl, (h.cell 1).trans rfl, (h.cell 2).trans rfl⟩
theorem Cls.froz3 {W : World} {g : Nat} {t : TypeId} {z0 z1 z2 : Value} (h : Cls W g t #[z0, z1, z2]) : W.frozen? ⟨g, 0, none⟩ = false ∧ W.frozen? ⟨g, 1, none⟩ = false ∧ W.frozen? ⟨g, 2, none⟩ = false := ⟨h.frozen 0, h.frozen 1, h.frozen 2⟩
abbrev S9 (W : World) (g : Nat) (z0 z1 z2 z3 z4 z5 z6 z7 z8 : Value) : Prop := W.cell? ⟨g, 0, none⟩ = some z0 ∧ W.cell? ⟨g, 1, none⟩ = some z1 ∧ W.cell? ⟨g, 2, none⟩ = some z2 ∧ W.cell? ⟨g, 3, none⟩ = some z3 ∧ W.cell? ⟨g, 4, none⟩ = some z4 ∧ W.cell? ⟨g, 5, none⟩ = some z5 ∧ W.cell? ⟨g, 6, none⟩ = some z6 ∧ W.cell? ⟨g, 7, none⟩ = some z7 ∧ W.cell? ⟨g, 8, none⟩ = some z8
theorem Cls.cells9 {W : World} {g : Nat} {t : TypeId} {z0 z1 z2 z3 z4 z5 z6 z7 z8 : Value} (h : Cls W g t #[z0, z1, z2, z3, z4, z5, z6, z7, z8]) : W.cell? ⟨g, 0, none⟩ = some z0 ∧ W.cell? ⟨g, 1, none⟩ = some z1 ∧ W.cell? ⟨g, 2, none⟩ = some z2 ∧ W.cell? ⟨g, 3, none⟩ = some z3 ∧ W.cell? ⟨g, 4, none⟩ = some z4 ∧ W.cell? ⟨g, 5, none⟩ = some z5 ∧ W.cell? ⟨g, 6, none⟩ = some z6 ∧ W.cell? ⟨g, 7, none⟩ = some z7 ∧ W.cell? ⟨g, 8, none⟩ = some z8 := ⟨(h.cell 0).trans rfl, (h.cell 1).trans rfl, (h.cell 2).trans rfl, (h.cell 3).trans rfl, (h.cell 4).trans rfl, (h.cell 5).trans rfl, (h.cell 6).trans rfl, (h.cell 7).trans rfl, (h.cell 8).trans rfl⟩
theorem Cls.froz9 {W : World} {g : Nat} {t : TypeId} {z0 z1 z2 z3 z4 z5 z6 z7 z8 : Value} (h : Cls W g t #[z0, z1, z2, z3, z4, z5, z6, z7, z8]) : W.frozen? ⟨g, 0, none⟩ = false ∧ W.frozen? ⟨g, 1, none⟩ = false ∧ W.frozen? ⟨g, 2, none⟩ = false ∧ W.frozen? ⟨g, 3, none⟩ = false ∧ W.frozen? ⟨g, 4, none⟩ = false ∧ W.frozen? ⟨g, 5, none⟩ = false ∧ W.frozen? ⟨g, 6, none⟩ = false ∧ W.frozen? ⟨g, 7, none⟩ = false ∧ W.frozen? ⟨g, 8, none⟩ = false := ⟨h.frozen 0, h.frozen 1, h.frozen 2, h.frozen 3, h.frozen 4, h.frozen 5, h.frozen 6, h.frozen 7, h.frozen 8⟩
theorem sto2 {W : World} {g : Nat} {t : TypeId} {z0 z1 : Value} (h : Cls W g t #[z0, z1]) (v0 v1 : Value) : ∃ W2, ((W.setCell ⟨g, 0, none⟩ v0).setCell ⟨g, 1, none⟩ v1) = W2 ∧ Hid (Cls W2 g t #[v0, v1]) := ⟨_, rfl, hide h.set2⟩
theorem sto9 {W : World} {g : Nat} {t : TypeId} {z0 z1 z2 z3 z4 z5 z6 z7 z8 : Value} (h : Cls W g t #[z0, z1, z2, z3, z4, z5, z6, z7, z8]) (v0 v1 v2 v3 v4 v5 v6 v7 v8 : Value) : ∃ W2, (((((((((W.setCell ⟨g, 0, none⟩ v0).setCell ⟨g, 1, none⟩ v1).setCell ⟨g, 2, none⟩ v2).setCell ⟨g, 3, none⟩ v3).setCell ⟨g, 4, none⟩ v4).setCell ⟨g, 5, none⟩ v5).setCell ⟨g, 6, none⟩ v6).setCell ⟨g, 7, none⟩ v7).setCell ⟨g, 8, none⟩ v8) = W2 ∧ Hid (Cls W2 g t #[v0, v1, v2, v3, v4, v5, v6, v7, v8]) := ⟨_, rfl, hide h.set9⟩
theorem new1B (F : Nat → Prop) (X : World) (a0 : Array Value) (t0 : TypeId) : ∃ W0, (X.alloc (.cells a0 t0)) = W0 ∧ Hid (Cls W0 (X.heap.size) t0 a0) ∧ Hid (KpF F X W0) := ⟨_, rfl, hide (by simpa using Cls.new X t0 a0), hide ((KpF.refl F X).al _)⟩
theorem new2B (F : Nat → Prop) (X : World) (a0 : Array Value) (t0 : TypeId) (a1 : Array Value) (t1 : TypeId) : ∃ W0, ((X.alloc (.cells a0 t0)).alloc (.cells a1 t1)) = W0 ∧ Hid (Cls W0 (X.heap.size) t0 a0) ∧ Hid (Cls W0 (X.heap.size + 1) t1 a1) ∧ Hid (KpF F X W0) := ⟨_, rfl, hide (by simpa using (Cls.new X t0 a0).alloc (.cells a1 t1)), hide (by simpa using Cls.new (X.alloc (.cells a0 t0)) t1 a1), hide (((KpF.refl F X).al _).al _)⟩
theorem new3B (F : Nat → Prop) (X : World) (a0 : Array Value) (t0 : TypeId) (a1 : Array Value) (t1 : TypeId) (a2 : Array Value) (t2 : TypeId) : ∃ W0, (((X.alloc (.cells a0 t0)).alloc (.cells a1 t1)).alloc (.cells a2 t2)) = W0 ∧ Hid (Cls W0 (X.heap.size) t0 a0) ∧ Hid (Cls W0 (X.heap.size + 1) t1 a1) ∧ Hid (Cls W0 (X.heap.size + 1 + 1) t2 a2) ∧ Hid (KpF F X W0) := ⟨_, rfl, hide (by simpa using ((Cls.new X t0 a0).alloc (.cells a1 t1)).alloc (.cells a2 t2)), hide (by simpa using (Cls.new (X.alloc (.cells a0 t0)) t1 a1).alloc (.cells a2 t2)), hide (by simpa using Cls.new ((X.alloc (.cells a0 t0)).alloc (.cells a1 t1)) t2 a2), hide ((((KpF.refl F X).al _).al _).al _)⟩
theorem KpF.belX {n : Nat} {X Y : World} (h : KpF (LBf X.heap.size n) X Y) : Below X.heap.size X Y := h.below (Nat.le_refl _) (fun _ e => e.1)
theorem RD.old {n : Nat} {X Y : World} {v : Value} {l : List (Int × ByteArray)} {k : Option Nat} (h : RD X v l k) (hk : KpF (LBf X.heap.size n) X Y) : RD Y v l k := h.kpf hk (fun g e l => by have := RA.lt h g e; have := l.1; omega)
theorem RD.new {n B C : Nat} {X Y : World} {v : Value} {l : List (Int × ByteArray)} {k : Option Nat} (h : RD X v l k) (hk : KpF (LBf B n) X Y) (hn : ∀ i, k = some i → C ≤ i) (hC : B + n ≤ C) : RD Y v l k := h.kpf hk (fun g e l => by have := hn g e; have := l.2; omega)
/-- the document's past in nine cells; D: the blocks of its lists -/
def IsD (X : World) (D : Nat → Prop) (c : Array Value) (p : Pa Int) : Prop := ∃ vb va kb ka w f d, c = #[.bool false, .int .i64 p.s, .int .i64 p.m, vb, va, .bool p.o.isSome, .string w, .int .i64 f, .bool d] ∧ RD X vb p.b kb ∧ RD X va p.a ka ∧
  (∀ i, D i ↔ kb = some i ∨ ka = some i) ∧ ∀ x e, p.o = some (x, e) → x = (f, w) ∧ e = d
theorem IsD.lt {X : World} {D : Nat → Prop} {c : Array Value} {p : Pa Int} (h : IsD X D c p) : ∀ i, D i → i < X.heap.size := by
  obtain ⟨vb, va, kb, ka, w, f, d, rfl, h1, h2, h3, h4⟩ := h
  intro i hi
  rcases (h3 i).1 hi with e | e
  · exact RA.lt h1 i e
  · exact RA.lt h2 i e
theorem IsD.kpf {X Y : World} {D F : Nat → Prop} {c : Array Value} {p : Pa Int} (h : IsD X D c p) (k : KpF F X Y) (hF : ∀ i, D i → ¬ F i) : IsD Y D c p := by
  obtain ⟨vb, va, kb, ka, w, f, d, rfl, h1, h2, h3, h4⟩ := h
  exact ⟨vb, va, kb, ka, w, f, d, rfl, h1.kpf k (fun i e => hF i ((h3 i).2 (.inl e))), h2.kpf k (fun i e => hF i ((h3 i).2 (.inr e))), h3, h4⟩
theorem IsD.below {X Y : World} {D : Nat → Prop} {c : Array Value} {p : Pa Int} (h : IsD X D c p) (b : Below X.heap.size X Y) : IsD Y D c p := h.kpf (F := fun _ => False) (KpF.of b) (fun _ _ e => e)
set_option maxRecDepth 100000 in
set_option maxHeartbeats 4000000 in
theorem RDo1_at (X : World) (D : Nat → Prop) (c : Array Value) (p : Pa Int) (h : IsD X D c p) (x : Int) (w : ByteArray) (y0 : Int × ByteArray) (e0 : Bool) (ho : p.o = some (y0, e0)) :
    Calls Try.prog 28 #[.agg c, .int .i64 x, .string w] X fun y Y => ∃ c' D', y = .returned (.tuple #[.agg c', .int .i64 0]) ∧ IsD Y D' c' (doP p x w) ∧ (∀ i, D' i → D i ∨ X.heap.size ≤ i) ∧ Below X.heap.size X Y := by
  have hdo : doP p x w = ⟨x, p.m, p.b, [], some (y0, true)⟩ := by unfold doP; rw [ho]
  rw [hdo]
  obtain ⟨vb, va, kb, ka, w0, f0, d0, rfl, h1, h2, h3, h4⟩ := h
  obtain ⟨bA, bC, rfl⟩ := h1.val
  obtain ⟨aA, aC, rfl⟩ := h2.val
  obtain ⟨h5, rfl⟩ := h4 y0 e0 ho
  rw [ho]
  dsimp only [Option.isSome_some]
  have HH : Hid (∀ Y, KpF (LBf X.heap.size 2) X Y → ∃ D', IsD Y D' #[.bool false, .int .i64 x, .int .i64 p.m, .slice bA p.b.length bC, .slice none 0 0, .bool true, .string w0, .int .i64 f0, .bool true] ⟨x, p.m, p.b, [], some (y0, true)⟩ ∧ ∀ i, D' i → D i ∨ X.heap.size ≤ i) := hide fun Y k =>
    ⟨fun i => kb = some i ∨ (none : Option Nat) = some i, ⟨_, _, kb, none, w0, f0, true, rfl, h1.old k, RA.nil _ _, fun _ => Iff.rfl, fun x' e' he => by cases he; exact ⟨h5, rfl⟩⟩, fun i e => .inl ((h3 i).2 (by rcases e with e | e; exact .inl e; cases e))⟩
  clear hdo h1 h2 h3 h4 h5 ho
  go_enter Try.func28, Try.ntmps28
  go_upto_region 1 with fail
  obtain ⟨W0, hE, HA, HR, HK0⟩ := new2B (LBf X.heap.size 2) X #[.bool false, .int .i64 p.s, .int .i64 p.m, .slice bA p.b.length bC, .slice aA p.a.length aC, .bool true, .string w0, .int .i64 f0, .bool e0] 44 #[.bool false, .int .i64 0, .int .i64 0, .slice none 0 0, .slice none 0 0, .bool false, .string ⟨#[]⟩, .int .i64 0, .bool false] 44
  rw [hE]
  clear hE
  have c_A0 : W0.cell? ⟨X.heap.size, 0, none⟩ = some (.bool false) := ((unhide HA).cell 0).trans rfl
  have c_A4 : W0.cell? ⟨X.heap.size, 4, none⟩ = some (.slice aA p.a.length aC) := ((unhide HA).cell 4).trans rfl
  have zc_A4 : W0.frozen? ⟨X.heap.size, 4, none⟩ = false := (unhide HA).frozen 4
  go_upto_region 4 with fail
  generalize hE : (W0.setCell ⟨X.heap.size, 4, none⟩ (.slice none 0 0)) = W1 at *
  have NA : Hid (Cls W1 (X.heap.size) 44 #[.bool false, .int .i64 p.s, .int .i64 p.m, .slice bA p.b.length bC, .slice none 0 0, .bool true, .string w0, .int .i64 f0, .bool e0]) := hide (by rw [← hE]; simpa using (unhide HA).set 4 (.slice none 0 0))
  have NR : Hid (Cls W1 (X.heap.size + 1) 44 _) := hide (by rw [← hE]; exact (unhide HR).other ⟨X.heap.size, 4, none⟩ (.slice none 0 0) (by first | omega | (dsimp only; omega)))
  have NHK0 : Hid (KpF _ X W1) := hide (by rw [← hE]; exact (unhide HK0).upd ⟨X.heap.size, 4, none⟩ (.slice none 0 0) (.inr (by first | omega | (dsimp only; omega))))
  clear hE HA HR HK0
  have HA := NA
  have HR := NR
  have HK0 := NHK0
  clear NA NR NHK0
  clear c_A0 c_A4 zc_A4
  have c_A5 : W1.cell? ⟨X.heap.size, 5, none⟩ = some (.bool true) := ((unhide HA).cell 5).trans rfl
  have c_A8 : W1.cell? ⟨X.heap.size, 8, none⟩ = some (.bool e0) := ((unhide HA).cell 8).trans rfl
  have zc_A8 : W1.frozen? ⟨X.heap.size, 8, none⟩ = false := (unhide HA).frozen 8
  go_upto_region 7 with fail
  generalize hE : (W1.setCell ⟨X.heap.size, 8, none⟩ (.bool true)) = W2 at *
  have NA : Hid (Cls W2 (X.heap.size) 44 #[.bool false, .int .i64 p.s, .int .i64 p.m, .slice bA p.b.length bC, .slice none 0 0, .bool true, .string w0, .int .i64 f0, .bool true]) := hide (by rw [← hE]; simpa using (unhide HA).set 8 (.bool true))
  have NR : Hid (Cls W2 (X.heap.size + 1) 44 _) := hide (by rw [← hE]; exact (unhide HR).other ⟨X.heap.size, 8, none⟩ (.bool true) (by first | omega | (dsimp only; omega)))
  have NHK0 : Hid (KpF _ X W2) := hide (by rw [← hE]; exact (unhide HK0).upd ⟨X.heap.size, 8, none⟩ (.bool true) (.inr (by first | omega | (dsimp only; omega))))
  clear hE HA HR HK0
  have HA := NA
  have HR := NR
  have HK0 := NHK0
  clear NA NR NHK0
  clear c_A5 c_A8 zc_A8
  have c_A1 : W2.cell? ⟨X.heap.size, 1, none⟩ = some (.int .i64 p.s) := ((unhide HA).cell 1).trans rfl
  have zc_A1 : W2.frozen? ⟨X.heap.size, 1, none⟩ = false := (unhide HA).frozen 1
  go_upto_region 8 with fail
  generalize hE : (W2.setCell ⟨X.heap.size, 1, none⟩ (.int .i64 x)) = W3 at *
  have NA : Hid (Cls W3 (X.heap.size) 44 #[.bool false, .int .i64 x, .int .i64 p.m, .slice bA p.b.length bC, .slice none 0 0, .bool true, .string w0, .int .i64 f0, .bool true]) := hide (by rw [← hE]; simpa using (unhide HA).set 1 (.int .i64 x))
  have NR : Hid (Cls W3 (X.heap.size + 1) 44 _) := hide (by rw [← hE]; exact (unhide HR).other ⟨X.heap.size, 1, none⟩ (.int .i64 x) (by first | omega | (dsimp only; omega)))
  have NHK0 : Hid (KpF _ X W3) := hide (by rw [← hE]; exact (unhide HK0).upd ⟨X.heap.size, 1, none⟩ (.int .i64 x) (.inr (by first | omega | (dsimp only; omega))))
  clear hE HA HR HK0
  have HA := NA
  have HR := NR
  have HK0 := NHK0
  clear NA NR NHK0
  clear c_A1 zc_A1
  obtain ⟨c_A0, c_A1, c_A2, c_A3, c_A4, c_A5, c_A6, c_A7, c_A8⟩ := (unhide HA).cells9
  obtain ⟨c_R0, c_R1, c_R2, c_R3, c_R4, c_R5, c_R6, c_R7, c_R8⟩ := (unhide HR).cells9
  obtain ⟨zc_R0, zc_R1, zc_R2, zc_R3, zc_R4, zc_R5, zc_R6, zc_R7, zc_R8⟩ := (unhide HR).froz9
  go_wp2_with fail
  obtain ⟨WF, hE, kh⟩ := sto9 (unhide HR) (.bool false) (.int .i64 x) (.int .i64 p.m) (.slice bA p.b.length bC) (.slice none 0 0) (.bool true) (.string w0) (.int .i64 f0) (.bool true)
  rw [hE]
  have k_R := unhide kh
  obtain ⟨q_R0, q_R1, q_R2, q_R3, q_R4, q_R5, q_R6, q_R7, q_R8⟩ := k_R.cells9
  have NHK0 : Hid (KpF _ X WF) := hide (by rw [← hE]; exact KpF.upd9 (unhide HK0) (.inr (by first | omega | (dsimp only; omega))))
  clear hE
  refine bodyPost_ret (v := .tuple #[.agg #[.bool false, .int .i64 x, .int .i64 p.m, .slice bA p.b.length bC, .slice none 0 0, .bool true, .string w0, .int .i64 f0, .bool true], .int .i64 0]) (by simp [results, Try.results28, go_sem, q_R0, q_R1, q_R2, q_R3, q_R4, q_R5, q_R6, q_R7, q_R8]) rfl ?_
  obtain ⟨D', a1, a2⟩ := unhide HH _ (unhide NHK0)
  exact ⟨_, D', rfl, a1, a2, (unhide NHK0).belX⟩
theorem IsD.old {n : Nat} {X Y : World} {D : Nat → Prop} {c : Array Value} {p : Pa Int} (h : IsD X D c p) (k : KpF (LBf X.heap.size n) X Y) : IsD Y D c p := h.kpf k (fun i e l => by have := h.lt i e; have := l.1; omega)
def cBad : Array Value := #[.bool true, .int .i64 0, .int .i64 0, .slice none 0 0, .slice none 0 0, .bool false, .string ⟨#[]⟩, .int .i64 0, .bool false]
set_option maxRecDepth 100000 in
set_option maxHeartbeats 4000000 in
theorem RDoB_at (X : World) (x : Int) (w : ByteArray) :
    Calls Try.prog 28 #[.agg cBad, .int .i64 x, .string w] X fun y Y => y = .returned (.tuple #[.agg cBad, .int .i64 1]) ∧ Below X.heap.size X Y := by
  unfold cBad
  go_enter Try.func28, Try.ntmps28
  go_upto_region 1 with fail
  obtain ⟨W0, hE, HA, HR, HK0⟩ := new2B (LBf X.heap.size 2) X #[.bool true, .int .i64 0, .int .i64 0, .slice none 0 0, .slice none 0 0, .bool false, .string ⟨#[]⟩, .int .i64 0, .bool false] 44 #[.bool false, .int .i64 0, .int .i64 0, .slice none 0 0, .slice none 0 0, .bool false, .string ⟨#[]⟩, .int .i64 0, .bool false] 44
  rw [hE]
  clear hE
  obtain ⟨c_A0, c_A1, c_A2, c_A3, c_A4, c_A5, c_A6, c_A7, c_A8⟩ := (unhide HA).cells9
  obtain ⟨c_R0, c_R1, c_R2, c_R3, c_R4, c_R5, c_R6, c_R7, c_R8⟩ := (unhide HR).cells9
  obtain ⟨zc_R0, zc_R1, zc_R2, zc_R3, zc_R4, zc_R5, zc_R6, zc_R7, zc_R8⟩ := (unhide HR).froz9
  go_wp2_with fail
  obtain ⟨WF, hE, kh⟩ := sto9 (unhide HR) (.bool true) (.int .i64 0) (.int .i64 0) (.slice none 0 0) (.slice none 0 0) (.bool false) (.string ⟨#[]⟩) (.int .i64 0) (.bool false)
  rw [hE]
  have k_R := unhide kh
  obtain ⟨q_R0, q_R1, q_R2, q_R3, q_R4, q_R5, q_R6, q_R7, q_R8⟩ := k_R.cells9
  have NHK0 : Hid (KpF _ X WF) := hide (by rw [← hE]; exact KpF.upd9 (unhide HK0) (.inr (by first | omega | (dsimp only; omega))))
  clear hE
  refine bodyPost_ret (v := .tuple #[.agg #[.bool true, .int .i64 0, .int .i64 0, .slice none 0 0, .slice none 0 0, .bool false, .string ⟨#[]⟩, .int .i64 0, .bool false], .int .i64 1]) (by simp [results, Try.results28, go_sem, q_R0, q_R1, q_R2, q_R3, q_R4, q_R5, q_R6, q_R7, q_R8]) rfl ?_
  exact ⟨rfl, (unhide NHK0).belX⟩
set_option maxRecDepth 100000 in
set_option maxHeartbeats 4000000 in
theorem RUndoB_at (X : World) :
    Calls Try.prog 30 #[.agg cBad] X fun y Y => y = .returned (.tuple #[.agg cBad, .agg #[.int .i64 0, .string ⟨#[]⟩], .int .i64 1]) ∧ Below X.heap.size X Y := by
  unfold cBad
  go_enter Try.func30, Try.ntmps30
  go_upto_region 1 with fail
  obtain ⟨W0, hE, HA, HR, HS, HK0⟩ := new3B (LBf X.heap.size 3) X #[.bool true, .int .i64 0, .int .i64 0, .slice none 0 0, .slice none 0 0, .bool false, .string ⟨#[]⟩, .int .i64 0, .bool false] 44 #[.bool false, .int .i64 0, .int .i64 0, .slice none 0 0, .slice none 0 0, .bool false, .string ⟨#[]⟩, .int .i64 0, .bool false] 44 #[.int .i64 0, .string ⟨#[]⟩] 82
  rw [hE]
  clear hE
  obtain ⟨c_A0, c_A1, c_A2, c_A3, c_A4, c_A5, c_A6, c_A7, c_A8⟩ := (unhide HA).cells9
  obtain ⟨c_R0, c_R1, c_R2, c_R3, c_R4, c_R5, c_R6, c_R7, c_R8⟩ := (unhide HR).cells9
  obtain ⟨c_S0, c_S1⟩ := (unhide HS).cells2
  obtain ⟨zc_R0, zc_R1, zc_R2, zc_R3, zc_R4, zc_R5, zc_R6, zc_R7, zc_R8⟩ := (unhide HR).froz9
  obtain ⟨zc_S0, zc_S1⟩ := (unhide HS).froz2
  go_wp2_with fail
  generalize hE : (((((((((((W0.setCell ⟨X.heap.size + 1, 0, none⟩ (.bool true)).setCell ⟨X.heap.size + 1, 1, none⟩ (.int .i64 0)).setCell ⟨X.heap.size + 1, 2, none⟩ (.int .i64 0)).setCell ⟨X.heap.size + 1, 3, none⟩ (.slice none 0 0)).setCell ⟨X.heap.size + 1, 4, none⟩ (.slice none 0 0)).setCell ⟨X.heap.size + 1, 5, none⟩ (.bool false)).setCell ⟨X.heap.size + 1, 6, none⟩ (.string ⟨#[]⟩)).setCell ⟨X.heap.size + 1, 7, none⟩ (.int .i64 0)).setCell ⟨X.heap.size + 1, 8, none⟩ (.bool false)).setCell ⟨X.heap.size + 1 + 1, 0, none⟩ (.int .i64 0)).setCell ⟨X.heap.size + 1 + 1, 1, none⟩ (.string ⟨#[]⟩)) = WF at *
  have k_R : Cls WF (X.heap.size + 1) 44 #[.bool true, .int .i64 0, .int .i64 0, .slice none 0 0, .slice none 0 0, .bool false, .string ⟨#[]⟩, .int .i64 0, .bool false] := by rw [← hE]; exact Cls.oth2 (Cls.set9 (unhide HR)) (by omega)
  obtain ⟨q_R0, q_R1, q_R2, q_R3, q_R4, q_R5, q_R6, q_R7, q_R8⟩ := k_R.cells9
  have k_S : Cls WF (X.heap.size + 1 + 1) 82 #[.int .i64 0, .string ⟨#[]⟩] := by rw [← hE]; exact Cls.set2 (Cls.oth9 (unhide HS) (by omega))
  obtain ⟨q_S0, q_S1⟩ := k_S.cells2
  have NHK0 : Hid (KpF _ X WF) := hide (by rw [← hE]; exact KpF.upd2 (KpF.upd9 (unhide HK0) (.inr (by first | omega | (dsimp only; omega)))) (.inr (by first | omega | (dsimp only; omega))))
  clear hE
  refine bodyPost_ret (v := .tuple #[.agg #[.bool true, .int .i64 0, .int .i64 0, .slice none 0 0, .slice none 0 0, .bool false, .string ⟨#[]⟩, .int .i64 0, .bool false], .agg #[.int .i64 0, .string ⟨#[]⟩], .int .i64 1]) (by simp [results, Try.results30, go_sem, q_R0, q_R1, q_R2, q_R3, q_R4, q_R5, q_R6, q_R7, q_R8, q_S0, q_S1]) rfl ?_
  exact ⟨rfl, (unhide NHK0).belX⟩
set_option maxRecDepth 100000 in
set_option maxHeartbeats 4000000 in
theorem RRedoB_at (X : World) :
    Calls Try.prog 32 #[.agg cBad] X fun y Y => y = .returned (.tuple #[.agg cBad, .agg #[.int .i64 0, .string ⟨#[]⟩], .int .i64 1]) ∧ Below X.heap.size X Y := by
  unfold cBad
  go_enter Try.func32, Try.ntmps32
  go_upto_region 1 with fail
  obtain ⟨W0, hE, HA, HR, HS, HK0⟩ := new3B (LBf X.heap.size 3) X #[.bool true, .int .i64 0, .int .i64 0, .slice none 0 0, .slice none 0 0, .bool false, .string ⟨#[]⟩, .int .i64 0, .bool false] 44 #[.bool false, .int .i64 0, .int .i64 0, .slice none 0 0, .slice none 0 0, .bool false, .string ⟨#[]⟩, .int .i64 0, .bool false] 44 #[.int .i64 0, .string ⟨#[]⟩] 82
  rw [hE]
  clear hE
  obtain ⟨c_A0, c_A1, c_A2, c_A3, c_A4, c_A5, c_A6, c_A7, c_A8⟩ := (unhide HA).cells9
  obtain ⟨c_R0, c_R1, c_R2, c_R3, c_R4, c_R5, c_R6, c_R7, c_R8⟩ := (unhide HR).cells9
  obtain ⟨c_S0, c_S1⟩ := (unhide HS).cells2
  obtain ⟨zc_R0, zc_R1, zc_R2, zc_R3, zc_R4, zc_R5, zc_R6, zc_R7, zc_R8⟩ := (unhide HR).froz9
  obtain ⟨zc_S0, zc_S1⟩ := (unhide HS).froz2
  go_wp2_with fail
  generalize hE : (((((((((((W0.setCell ⟨X.heap.size + 1, 0, none⟩ (.bool true)).setCell ⟨X.heap.size + 1, 1, none⟩ (.int .i64 0)).setCell ⟨X.heap.size + 1, 2, none⟩ (.int .i64 0)).setCell ⟨X.heap.size + 1, 3, none⟩ (.slice none 0 0)).setCell ⟨X.heap.size + 1, 4, none⟩ (.slice none 0 0)).setCell ⟨X.heap.size + 1, 5, none⟩ (.bool false)).setCell ⟨X.heap.size + 1, 6, none⟩ (.string ⟨#[]⟩)).setCell ⟨X.heap.size + 1, 7, none⟩ (.int .i64 0)).setCell ⟨X.heap.size + 1, 8, none⟩ (.bool false)).setCell ⟨X.heap.size + 1 + 1, 0, none⟩ (.int .i64 0)).setCell ⟨X.heap.size + 1 + 1, 1, none⟩ (.string ⟨#[]⟩)) = WF at *
  have k_R : Cls WF (X.heap.size + 1) 44 #[.bool true, .int .i64 0, .int .i64 0, .slice none 0 0, .slice none 0 0, .bool false, .string ⟨#[]⟩, .int .i64 0, .bool false] := by rw [← hE]; exact Cls.oth2 (Cls.set9 (unhide HR)) (by omega)
  obtain ⟨q_R0, q_R1, q_R2, q_R3, q_R4, q_R5, q_R6, q_R7, q_R8⟩ := k_R.cells9
  have k_S : Cls WF (X.heap.size + 1 + 1) 82 #[.int .i64 0, .string ⟨#[]⟩] := by rw [← hE]; exact Cls.set2 (Cls.oth9 (unhide HS) (by omega))
  obtain ⟨q_S0, q_S1⟩ := k_S.cells2
  have NHK0 : Hid (KpF _ X WF) := hide (by rw [← hE]; exact KpF.upd2 (KpF.upd9 (unhide HK0) (.inr (by first | omega | (dsimp only; omega)))) (.inr (by first | omega | (dsimp only; omega))))
  clear hE
  refine bodyPost_ret (v := .tuple #[.agg #[.bool true, .int .i64 0, .int .i64 0, .slice none 0 0, .slice none 0 0, .bool false, .string ⟨#[]⟩, .int .i64 0, .bool false], .agg #[.int .i64 0, .string ⟨#[]⟩], .int .i64 1]) (by simp [results, Try.results32, go_sem, q_R0, q_R1, q_R2, q_R3, q_R4, q_R5, q_R6, q_R7, q_R8, q_S0, q_S1]) rfl ?_
  exact ⟨rfl, (unhide NHK0).belX⟩
set_option maxRecDepth 100000 in
set_option maxHeartbeats 4000000 in
theorem RBeginB_at (X : World) (w : ByteArray) :
    Calls Try.prog 34 #[.agg cBad, .string w] X fun y Y => y = .returned (.tuple #[.agg cBad, .int .i64 1]) ∧ Below X.heap.size X Y := by
  unfold cBad
  go_enter Try.func34, Try.ntmps34
  go_upto_region 1 with fail
  obtain ⟨W0, hE, HA, HR, HK0⟩ := new2B (LBf X.heap.size 2) X #[.bool true, .int .i64 0, .int .i64 0, .slice none 0 0, .slice none 0 0, .bool false, .string ⟨#[]⟩, .int .i64 0, .bool false] 44 #[.bool false, .int .i64 0, .int .i64 0, .slice none 0 0, .slice none 0 0, .bool false, .string ⟨#[]⟩, .int .i64 0, .bool false] 44
  rw [hE]
  clear hE
  obtain ⟨c_A0, c_A1, c_A2, c_A3, c_A4, c_A5, c_A6, c_A7, c_A8⟩ := (unhide HA).cells9
  obtain ⟨c_R0, c_R1, c_R2, c_R3, c_R4, c_R5, c_R6, c_R7, c_R8⟩ := (unhide HR).cells9
  obtain ⟨zc_R0, zc_R1, zc_R2, zc_R3, zc_R4, zc_R5, zc_R6, zc_R7, zc_R8⟩ := (unhide HR).froz9
  go_wp2_with fail
  obtain ⟨WF, hE, kh⟩ := sto9 (unhide HR) (.bool true) (.int .i64 0) (.int .i64 0) (.slice none 0 0) (.slice none 0 0) (.bool false) (.string ⟨#[]⟩) (.int .i64 0) (.bool false)
  rw [hE]
  have k_R := unhide kh
  obtain ⟨q_R0, q_R1, q_R2, q_R3, q_R4, q_R5, q_R6, q_R7, q_R8⟩ := k_R.cells9
  have NHK0 : Hid (KpF _ X WF) := hide (by rw [← hE]; exact KpF.upd9 (unhide HK0) (.inr (by first | omega | (dsimp only; omega))))
  clear hE
  refine bodyPost_ret (v := .tuple #[.agg #[.bool true, .int .i64 0, .int .i64 0, .slice none 0 0, .slice none 0 0, .bool false, .string ⟨#[]⟩, .int .i64 0, .bool false], .int .i64 1]) (by simp [results, Try.results34, go_sem, q_R0, q_R1, q_R2, q_R3, q_R4, q_R5, q_R6, q_R7, q_R8]) rfl ?_
  exact ⟨rfl, (unhide NHK0).belX⟩
set_option maxRecDepth 100000 in
set_option maxHeartbeats 4000000 in
theorem REndB_at (X : World) :
    Calls Try.prog 36 #[.agg cBad] X fun y Y => y = .returned (.tuple #[.agg cBad, .int .i64 1]) ∧ Below X.heap.size X Y := by
  unfold cBad
  go_enter Try.func36, Try.ntmps36
  go_upto_region 1 with fail
  obtain ⟨W0, hE, HA, HR, HK0⟩ := new2B (LBf X.heap.size 2) X #[.bool true, .int .i64 0, .int .i64 0, .slice none 0 0, .slice none 0 0, .bool false, .string ⟨#[]⟩, .int .i64 0, .bool false] 44 #[.bool false, .int .i64 0, .int .i64 0, .slice none 0 0, .slice none 0 0, .bool false, .string ⟨#[]⟩, .int .i64 0, .bool false] 44
  rw [hE]
  clear hE
  obtain ⟨c_A0, c_A1, c_A2, c_A3, c_A4, c_A5, c_A6, c_A7, c_A8⟩ := (unhide HA).cells9
  obtain ⟨c_R0, c_R1, c_R2, c_R3, c_R4, c_R5, c_R6, c_R7, c_R8⟩ := (unhide HR).cells9
  obtain ⟨zc_R0, zc_R1, zc_R2, zc_R3, zc_R4, zc_R5, zc_R6, zc_R7, zc_R8⟩ := (unhide HR).froz9
  go_wp2_with fail
  obtain ⟨WF, hE, kh⟩ := sto9 (unhide HR) (.bool true) (.int .i64 0) (.int .i64 0) (.slice none 0 0) (.slice none 0 0) (.bool false) (.string ⟨#[]⟩) (.int .i64 0) (.bool false)
  rw [hE]
  have k_R := unhide kh
  obtain ⟨q_R0, q_R1, q_R2, q_R3, q_R4, q_R5, q_R6, q_R7, q_R8⟩ := k_R.cells9
  have NHK0 : Hid (KpF _ X WF) := hide (by rw [← hE]; exact KpF.upd9 (unhide HK0) (.inr (by first | omega | (dsimp only; omega))))
  clear hE
  refine bodyPost_ret (v := .tuple #[.agg #[.bool true, .int .i64 0, .int .i64 0, .slice none 0 0, .slice none 0 0, .bool false, .string ⟨#[]⟩, .int .i64 0, .bool false], .int .i64 1]) (by simp [results, Try.results36, go_sem, q_R0, q_R1, q_R2, q_R3, q_R4, q_R5, q_R6, q_R7, q_R8]) rfl ?_
  exact ⟨rfl, (unhide NHK0).belX⟩
set_option maxRecDepth 100000 in
set_option maxHeartbeats 4000000 in
theorem RForgetB_at (X : World) :
    Calls Try.prog 38 #[.agg cBad] X fun y Y => y = .returned (.tuple #[.agg cBad, .int .i64 1]) ∧ Below X.heap.size X Y := by
  unfold cBad
  go_enter Try.func38, Try.ntmps38
  go_upto_region 1 with fail
  obtain ⟨W0, hE, HA, HR, HK0⟩ := new2B (LBf X.heap.size 2) X #[.bool true, .int .i64 0, .int .i64 0, .slice none 0 0, .slice none 0 0, .bool false, .string ⟨#[]⟩, .int .i64 0, .bool false] 44 #[.bool false, .int .i64 0, .int .i64 0, .slice none 0 0, .slice none 0 0, .bool false, .string ⟨#[]⟩, .int .i64 0, .bool false] 44
  rw [hE]
  clear hE
  obtain ⟨c_A0, c_A1, c_A2, c_A3, c_A4, c_A5, c_A6, c_A7, c_A8⟩ := (unhide HA).cells9
  obtain ⟨c_R0, c_R1, c_R2, c_R3, c_R4, c_R5, c_R6, c_R7, c_R8⟩ := (unhide HR).cells9
  obtain ⟨zc_R0, zc_R1, zc_R2, zc_R3, zc_R4, zc_R5, zc_R6, zc_R7, zc_R8⟩ := (unhide HR).froz9
  go_wp2_with fail
  obtain ⟨WF, hE, kh⟩ := sto9 (unhide HR) (.bool true) (.int .i64 0) (.int .i64 0) (.slice none 0 0) (.slice none 0 0) (.bool false) (.string ⟨#[]⟩) (.int .i64 0) (.bool false)
  rw [hE]
  have k_R := unhide kh
  obtain ⟨q_R0, q_R1, q_R2, q_R3, q_R4, q_R5, q_R6, q_R7, q_R8⟩ := k_R.cells9
  have NHK0 : Hid (KpF _ X WF) := hide (by rw [← hE]; exact KpF.upd9 (unhide HK0) (.inr (by first | omega | (dsimp only; omega))))
  clear hE
  refine bodyPost_ret (v := .tuple #[.agg #[.bool true, .int .i64 0, .int .i64 0, .slice none 0 0, .slice none 0 0, .bool false, .string ⟨#[]⟩, .int .i64 0, .bool false], .int .i64 1]) (by simp [results, Try.results38, go_sem, q_R0, q_R1, q_R2, q_R3, q_R4, q_R5, q_R6, q_R7, q_R8]) rfl ?_
  exact ⟨rfl, (unhide NHK0).belX⟩
set_option maxRecDepth 100000 in
set_option maxHeartbeats 4000000 in
theorem RNew_at (X : World) (s m : Int) (hm : (0 ≤ m ∧ m ≤ 4096)) :
    Calls Try.prog 14 #[.int .i64 s, .int .i64 m] X fun y Y => ∃ c D, y = .returned (.tuple #[.agg c, .int .i64 0]) ∧ IsD Y D c ⟨s, m, [], [], none⟩ ∧ (∀ i, D i → X.heap.size ≤ i) ∧ Below X.heap.size X Y := by
  have t1 : decide (m < 0) = false := decide_eq_false (by omega)
  have t2 : decide (m > 4096) = false := decide_eq_false (by omega)
  have t2' : decide (4096 < m) = false := decide_eq_false (by omega)
  clear hm
  go_enter Try.func14, Try.ntmps14
  go_upto_region 1 with fail
  obtain ⟨W0, hE, HR, HK0⟩ := new1B (LBf X.heap.size 1) X #[.bool false, .int .i64 0, .int .i64 0, .slice none 0 0, .slice none 0 0, .bool false, .string ⟨#[]⟩, .int .i64 0, .bool false] 44
  rw [hE]
  clear hE
  obtain ⟨c_R0, c_R1, c_R2, c_R3, c_R4, c_R5, c_R6, c_R7, c_R8⟩ := (unhide HR).cells9
  obtain ⟨zc_R0, zc_R1, zc_R2, zc_R3, zc_R4, zc_R5, zc_R6, zc_R7, zc_R8⟩ := (unhide HR).froz9
  go_wp2_with fail
  obtain ⟨WF, hE, kh⟩ := sto9 (unhide HR) (.bool false) (.int .i64 s) (.int .i64 m) (.slice none 0 0) (.slice none 0 0) (.bool false) (.string ⟨#[]⟩) (.int .i64 0) (.bool false)
  rw [hE]
  have k_R := unhide kh
  obtain ⟨q_R0, q_R1, q_R2, q_R3, q_R4, q_R5, q_R6, q_R7, q_R8⟩ := k_R.cells9
  have NHK0 : Hid (KpF _ X WF) := hide (by rw [← hE]; exact KpF.upd9 (unhide HK0) (.inr (by first | omega | (dsimp only; omega))))
  clear hE
  refine bodyPost_ret (v := .tuple #[.agg #[.bool false, .int .i64 s, .int .i64 m, .slice none 0 0, .slice none 0 0, .bool false, .string ⟨#[]⟩, .int .i64 0, .bool false], .int .i64 0]) (by simp [results, Try.results14, go_sem, q_R0, q_R1, q_R2, q_R3, q_R4, q_R5, q_R6, q_R7, q_R8]) rfl ?_
  exact ⟨_, fun i => (none : Option Nat) = some i ∨ (none : Option Nat) = some i, rfl, ⟨_, _, none, none, _, _, _, rfl, RA.nil _ _, RA.nil _ _, fun _ => Iff.rfl, fun _ _ e => (nomatch e)⟩, (fun i e => by rcases e with e | e <;> cases e), (unhide NHK0).belX⟩
set_option maxRecDepth 100000 in
set_option maxHeartbeats 4000000 in
theorem RNewB_at (X : World) (s m : Int) (hm : ¬ (0 ≤ m ∧ m ≤ 4096)) :
    Calls Try.prog 14 #[.int .i64 s, .int .i64 m] X fun y Y => y = .returned (.tuple #[.agg cBad, .int .i64 2]) ∧ Below X.heap.size X Y := by
  unfold cBad
  have ht : decide (m < 0) = true ∨ decide (m < 0) = false ∧ decide (m > 4096) = true ∧ decide (4096 < m) = true := by
    by_cases h1 : m < 0
    · exact .inl (decide_eq_true h1)
    · exact .inr ⟨decide_eq_false h1, decide_eq_true (by omega), decide_eq_true (by omega)⟩
  clear hm
  go_enter Try.func14, Try.ntmps14
  go_upto_region 1 with fail
  obtain ⟨W0, hE, HR, HK0⟩ := new1B (LBf X.heap.size 1) X #[.bool false, .int .i64 0, .int .i64 0, .slice none 0 0, .slice none 0 0, .bool false, .string ⟨#[]⟩, .int .i64 0, .bool false] 44
  rw [hE]
  clear hE
  rcases ht with t1 | ⟨t1, t2, t3⟩
  · obtain ⟨c_R0, c_R1, c_R2, c_R3, c_R4, c_R5, c_R6, c_R7, c_R8⟩ := (unhide HR).cells9
    obtain ⟨zc_R0, zc_R1, zc_R2, zc_R3, zc_R4, zc_R5, zc_R6, zc_R7, zc_R8⟩ := (unhide HR).froz9
    go_wp2_with fail
    obtain ⟨WF, hE, kh⟩ := sto9 (unhide HR) (.bool true) (.int .i64 0) (.int .i64 0) (.slice none 0 0) (.slice none 0 0) (.bool false) (.string ⟨#[]⟩) (.int .i64 0) (.bool false)
    rw [hE]
    have k_R := unhide kh
    obtain ⟨q_R0, q_R1, q_R2, q_R3, q_R4, q_R5, q_R6, q_R7, q_R8⟩ := k_R.cells9
    have NHK0 : Hid (KpF _ X WF) := hide (by rw [← hE]; exact KpF.upd9 (unhide HK0) (.inr (by first | omega | (dsimp only; omega))))
    clear hE
    refine bodyPost_ret (v := .tuple #[.agg #[.bool true, .int .i64 0, .int .i64 0, .slice none 0 0, .slice none 0 0, .bool false, .string ⟨#[]⟩, .int .i64 0, .bool false], .int .i64 2]) (by simp [results, Try.results14, go_sem, q_R0, q_R1, q_R2, q_R3, q_R4, q_R5, q_R6, q_R7, q_R8]) rfl ?_
    exact ⟨rfl, (unhide NHK0).belX⟩
  · obtain ⟨c_R0, c_R1, c_R2, c_R3, c_R4, c_R5, c_R6, c_R7, c_R8⟩ := (unhide HR).cells9
    obtain ⟨zc_R0, zc_R1, zc_R2, zc_R3, zc_R4, zc_R5, zc_R6, zc_R7, zc_R8⟩ := (unhide HR).froz9
    go_wp2_with fail
    obtain ⟨WF, hE, kh⟩ := sto9 (unhide HR) (.bool true) (.int .i64 0) (.int .i64 0) (.slice none 0 0) (.slice none 0 0) (.bool false) (.string ⟨#[]⟩) (.int .i64 0) (.bool false)
    rw [hE]
    have k_R := unhide kh
    obtain ⟨q_R0, q_R1, q_R2, q_R3, q_R4, q_R5, q_R6, q_R7, q_R8⟩ := k_R.cells9
    have NHK0 : Hid (KpF _ X WF) := hide (by rw [← hE]; exact KpF.upd9 (unhide HK0) (.inr (by first | omega | (dsimp only; omega))))
    clear hE
    refine bodyPost_ret (v := .tuple #[.agg #[.bool true, .int .i64 0, .int .i64 0, .slice none 0 0, .slice none 0 0, .bool false, .string ⟨#[]⟩, .int .i64 0, .bool false], .int .i64 2]) (by simp [results, Try.results14, go_sem, q_R0, q_R1, q_R2, q_R3, q_R4, q_R5, q_R6, q_R7, q_R8]) rfl ?_
    exact ⟨rfl, (unhide NHK0).belX⟩
set_option maxRecDepth 100000 in
set_option maxHeartbeats 4000000 in
theorem RUndo2_at (X : World) (D : Nat → Prop) (c : Array Value) (p : Pa Int) (h : IsD X D c p) (ho : p.o.isSome = true) :
    Calls Try.prog 30 #[.agg c] X fun y Y => ∃ c' D', y = .returned (.tuple #[.agg c', .agg #[.int .i64 0, .string ⟨#[]⟩], .int .i64 171]) ∧ IsD Y D' c' p ∧ (∀ i, D' i → D i ∨ X.heap.size ≤ i) ∧ Below X.heap.size X Y := by
  have HD := hide h
  obtain ⟨vb, va, kb, ka, w0, f0, d0, rfl, h1, h2, h3, h4⟩ := h
  obtain ⟨bA, bC, rfl⟩ := h1.val
  obtain ⟨aA, aC, rfl⟩ := h2.val
  rw [ho] at HD ⊢
  clear h1 h2 h3 h4 ho
  go_enter Try.func30, Try.ntmps30
  go_upto_region 1 with fail
  obtain ⟨W0, hE, HA, HR, HS, HK0⟩ := new3B (LBf X.heap.size 3) X #[.bool false, .int .i64 p.s, .int .i64 p.m, .slice bA p.b.length bC, .slice aA p.a.length aC, .bool true, .string w0, .int .i64 f0, .bool d0] 44 #[.bool false, .int .i64 0, .int .i64 0, .slice none 0 0, .slice none 0 0, .bool false, .string ⟨#[]⟩, .int .i64 0, .bool false] 44 #[.int .i64 0, .string ⟨#[]⟩] 82
  rw [hE]
  clear hE
  obtain ⟨c_A0, c_A1, c_A2, c_A3, c_A4, c_A5, c_A6, c_A7, c_A8⟩ := (unhide HA).cells9
  obtain ⟨c_R0, c_R1, c_R2, c_R3, c_R4, c_R5, c_R6, c_R7, c_R8⟩ := (unhide HR).cells9
  obtain ⟨c_S0, c_S1⟩ := (unhide HS).cells2
  obtain ⟨zc_R0, zc_R1, zc_R2, zc_R3, zc_R4, zc_R5, zc_R6, zc_R7, zc_R8⟩ := (unhide HR).froz9
  obtain ⟨zc_S0, zc_S1⟩ := (unhide HS).froz2
  go_wp2_with fail
  generalize hE : (((((((((((W0.setCell ⟨X.heap.size + 1, 0, none⟩ (.bool false)).setCell ⟨X.heap.size + 1, 1, none⟩ (.int .i64 p.s)).setCell ⟨X.heap.size + 1, 2, none⟩ (.int .i64 p.m)).setCell ⟨X.heap.size + 1, 3, none⟩ (.slice bA p.b.length bC)).setCell ⟨X.heap.size + 1, 4, none⟩ (.slice aA p.a.length aC)).setCell ⟨X.heap.size + 1, 5, none⟩ (.bool true)).setCell ⟨X.heap.size + 1, 6, none⟩ (.string w0)).setCell ⟨X.heap.size + 1, 7, none⟩ (.int .i64 f0)).setCell ⟨X.heap.size + 1, 8, none⟩ (.bool d0)).setCell ⟨X.heap.size + 1 + 1, 0, none⟩ (.int .i64 0)).setCell ⟨X.heap.size + 1 + 1, 1, none⟩ (.string ⟨#[]⟩)) = WF at *
  have k_R : Cls WF (X.heap.size + 1) 44 #[.bool false, .int .i64 p.s, .int .i64 p.m, .slice bA p.b.length bC, .slice aA p.a.length aC, .bool true, .string w0, .int .i64 f0, .bool d0] := by rw [← hE]; exact Cls.oth2 (Cls.set9 (unhide HR)) (by omega)
  obtain ⟨q_R0, q_R1, q_R2, q_R3, q_R4, q_R5, q_R6, q_R7, q_R8⟩ := k_R.cells9
  have k_S : Cls WF (X.heap.size + 1 + 1) 82 #[.int .i64 0, .string ⟨#[]⟩] := by rw [← hE]; exact Cls.set2 (Cls.oth9 (unhide HS) (by omega))
  obtain ⟨q_S0, q_S1⟩ := k_S.cells2
  have NHK0 : Hid (KpF _ X WF) := hide (by rw [← hE]; exact KpF.upd2 (KpF.upd9 (unhide HK0) (.inr (by first | omega | (dsimp only; omega)))) (.inr (by first | omega | (dsimp only; omega))))
  clear hE
  refine bodyPost_ret (v := .tuple #[.agg #[.bool false, .int .i64 p.s, .int .i64 p.m, .slice bA p.b.length bC, .slice aA p.a.length aC, .bool true, .string w0, .int .i64 f0, .bool d0], .agg #[.int .i64 0, .string ⟨#[]⟩], .int .i64 171]) (by simp [results, Try.results30, go_sem, q_R0, q_R1, q_R2, q_R3, q_R4, q_R5, q_R6, q_R7, q_R8, q_S0, q_S1]) rfl ?_
  exact ⟨_, _, rfl, (unhide HD).old (unhide NHK0), fun i e => .inl e, (unhide NHK0).belX⟩
set_option maxRecDepth 100000 in
set_option maxHeartbeats 4000000 in
theorem RRedo2_at (X : World) (D : Nat → Prop) (c : Array Value) (p : Pa Int) (h : IsD X D c p) (ho : p.o.isSome = true) :
    Calls Try.prog 32 #[.agg c] X fun y Y => ∃ c' D', y = .returned (.tuple #[.agg c', .agg #[.int .i64 0, .string ⟨#[]⟩], .int .i64 171]) ∧ IsD Y D' c' p ∧ (∀ i, D' i → D i ∨ X.heap.size ≤ i) ∧ Below X.heap.size X Y := by
  have HD := hide h
  obtain ⟨vb, va, kb, ka, w0, f0, d0, rfl, h1, h2, h3, h4⟩ := h
  obtain ⟨bA, bC, rfl⟩ := h1.val
  obtain ⟨aA, aC, rfl⟩ := h2.val
  rw [ho] at HD ⊢
  clear h1 h2 h3 h4 ho
  go_enter Try.func32, Try.ntmps32
  go_upto_region 1 with fail
  obtain ⟨W0, hE, HA, HR, HS, HK0⟩ := new3B (LBf X.heap.size 3) X #[.bool false, .int .i64 p.s, .int .i64 p.m, .slice bA p.b.length bC, .slice aA p.a.length aC, .bool true, .string w0, .int .i64 f0, .bool d0] 44 #[.bool false, .int .i64 0, .int .i64 0, .slice none 0 0, .slice none 0 0, .bool false, .string ⟨#[]⟩, .int .i64 0, .bool false] 44 #[.int .i64 0, .string ⟨#[]⟩] 82
  rw [hE]
  clear hE
  obtain ⟨c_A0, c_A1, c_A2, c_A3, c_A4, c_A5, c_A6, c_A7, c_A8⟩ := (unhide HA).cells9
  obtain ⟨c_R0, c_R1, c_R2, c_R3, c_R4, c_R5, c_R6, c_R7, c_R8⟩ := (unhide HR).cells9
  obtain ⟨c_S0, c_S1⟩ := (unhide HS).cells2
  obtain ⟨zc_R0, zc_R1, zc_R2, zc_R3, zc_R4, zc_R5, zc_R6, zc_R7, zc_R8⟩ := (unhide HR).froz9
  obtain ⟨zc_S0, zc_S1⟩ := (unhide HS).froz2
  go_wp2_with fail
  generalize hE : (((((((((((W0.setCell ⟨X.heap.size + 1, 0, none⟩ (.bool false)).setCell ⟨X.heap.size + 1, 1, none⟩ (.int .i64 p.s)).setCell ⟨X.heap.size + 1, 2, none⟩ (.int .i64 p.m)).setCell ⟨X.heap.size + 1, 3, none⟩ (.slice bA p.b.length bC)).setCell ⟨X.heap.size + 1, 4, none⟩ (.slice aA p.a.length aC)).setCell ⟨X.heap.size + 1, 5, none⟩ (.bool true)).setCell ⟨X.heap.size + 1, 6, none⟩ (.string w0)).setCell ⟨X.heap.size + 1, 7, none⟩ (.int .i64 f0)).setCell ⟨X.heap.size + 1, 8, none⟩ (.bool d0)).setCell ⟨X.heap.size + 1 + 1, 0, none⟩ (.int .i64 0)).setCell ⟨X.heap.size + 1 + 1, 1, none⟩ (.string ⟨#[]⟩)) = WF at *
  have k_R : Cls WF (X.heap.size + 1) 44 #[.bool false, .int .i64 p.s, .int .i64 p.m, .slice bA p.b.length bC, .slice aA p.a.length aC, .bool true, .string w0, .int .i64 f0, .bool d0] := by rw [← hE]; exact Cls.oth2 (Cls.set9 (unhide HR)) (by omega)
  obtain ⟨q_R0, q_R1, q_R2, q_R3, q_R4, q_R5, q_R6, q_R7, q_R8⟩ := k_R.cells9
  have k_S : Cls WF (X.heap.size + 1 + 1) 82 #[.int .i64 0, .string ⟨#[]⟩] := by rw [← hE]; exact Cls.set2 (Cls.oth9 (unhide HS) (by omega))
  obtain ⟨q_S0, q_S1⟩ := k_S.cells2
  have NHK0 : Hid (KpF _ X WF) := hide (by rw [← hE]; exact KpF.upd2 (KpF.upd9 (unhide HK0) (.inr (by first | omega | (dsimp only; omega)))) (.inr (by first | omega | (dsimp only; omega))))
  clear hE
  refine bodyPost_ret (v := .tuple #[.agg #[.bool false, .int .i64 p.s, .int .i64 p.m, .slice bA p.b.length bC, .slice aA p.a.length aC, .bool true, .string w0, .int .i64 f0, .bool d0], .agg #[.int .i64 0, .string ⟨#[]⟩], .int .i64 171]) (by simp [results, Try.results32, go_sem, q_R0, q_R1, q_R2, q_R3, q_R4, q_R5, q_R6, q_R7, q_R8, q_S0, q_S1]) rfl ?_
  exact ⟨_, _, rfl, (unhide HD).old (unhide NHK0), fun i e => .inl e, (unhide NHK0).belX⟩
set_option maxRecDepth 100000 in
set_option maxHeartbeats 4000000 in
theorem RBegin2_at (X : World) (D : Nat → Prop) (c : Array Value) (p : Pa Int) (h : IsD X D c p) (w : ByteArray) (ho : p.o.isSome = true) :
    Calls Try.prog 34 #[.agg c, .string w] X fun y Y => ∃ c' D', y = .returned (.tuple #[.agg c', .int .i64 171]) ∧ IsD Y D' c' p ∧ (∀ i, D' i → D i ∨ X.heap.size ≤ i) ∧ Below X.heap.size X Y := by
  have HD := hide h
  obtain ⟨vb, va, kb, ka, w0, f0, d0, rfl, h1, h2, h3, h4⟩ := h
  obtain ⟨bA, bC, rfl⟩ := h1.val
  obtain ⟨aA, aC, rfl⟩ := h2.val
  rw [ho] at HD ⊢
  clear h1 h2 h3 h4 ho
  go_enter Try.func34, Try.ntmps34
  go_upto_region 1 with fail
  obtain ⟨W0, hE, HA, HR, HK0⟩ := new2B (LBf X.heap.size 2) X #[.bool false, .int .i64 p.s, .int .i64 p.m, .slice bA p.b.length bC, .slice aA p.a.length aC, .bool true, .string w0, .int .i64 f0, .bool d0] 44 #[.bool false, .int .i64 0, .int .i64 0, .slice none 0 0, .slice none 0 0, .bool false, .string ⟨#[]⟩, .int .i64 0, .bool false] 44
  rw [hE]
  clear hE
  obtain ⟨c_A0, c_A1, c_A2, c_A3, c_A4, c_A5, c_A6, c_A7, c_A8⟩ := (unhide HA).cells9
  obtain ⟨c_R0, c_R1, c_R2, c_R3, c_R4, c_R5, c_R6, c_R7, c_R8⟩ := (unhide HR).cells9
  obtain ⟨zc_R0, zc_R1, zc_R2, zc_R3, zc_R4, zc_R5, zc_R6, zc_R7, zc_R8⟩ := (unhide HR).froz9
  go_wp2_with fail
  obtain ⟨WF, hE, kh⟩ := sto9 (unhide HR) (.bool false) (.int .i64 p.s) (.int .i64 p.m) (.slice bA p.b.length bC) (.slice aA p.a.length aC) (.bool true) (.string w0) (.int .i64 f0) (.bool d0)
  rw [hE]
  have k_R := unhide kh
  obtain ⟨q_R0, q_R1, q_R2, q_R3, q_R4, q_R5, q_R6, q_R7, q_R8⟩ := k_R.cells9
  have NHK0 : Hid (KpF _ X WF) := hide (by rw [← hE]; exact KpF.upd9 (unhide HK0) (.inr (by first | omega | (dsimp only; omega))))
  clear hE
  refine bodyPost_ret (v := .tuple #[.agg #[.bool false, .int .i64 p.s, .int .i64 p.m, .slice bA p.b.length bC, .slice aA p.a.length aC, .bool true, .string w0, .int .i64 f0, .bool d0], .int .i64 171]) (by simp [results, Try.results34, go_sem, q_R0, q_R1, q_R2, q_R3, q_R4, q_R5, q_R6, q_R7, q_R8]) rfl ?_
  exact ⟨_, _, rfl, (unhide HD).old (unhide NHK0), fun i e => .inl e, (unhide NHK0).belX⟩
set_option maxRecDepth 100000 in
set_option maxHeartbeats 4000000 in
theorem RForget2_at (X : World) (D : Nat → Prop) (c : Array Value) (p : Pa Int) (h : IsD X D c p) (ho : p.o.isSome = true) :
    Calls Try.prog 38 #[.agg c] X fun y Y => ∃ c' D', y = .returned (.tuple #[.agg c', .int .i64 171]) ∧ IsD Y D' c' p ∧ (∀ i, D' i → D i ∨ X.heap.size ≤ i) ∧ Below X.heap.size X Y := by
  have HD := hide h
  obtain ⟨vb, va, kb, ka, w0, f0, d0, rfl, h1, h2, h3, h4⟩ := h
  obtain ⟨bA, bC, rfl⟩ := h1.val
  obtain ⟨aA, aC, rfl⟩ := h2.val
  rw [ho] at HD ⊢
  clear h1 h2 h3 h4 ho
  go_enter Try.func38, Try.ntmps38
  go_upto_region 1 with fail
  obtain ⟨W0, hE, HA, HR, HK0⟩ := new2B (LBf X.heap.size 2) X #[.bool false, .int .i64 p.s, .int .i64 p.m, .slice bA p.b.length bC, .slice aA p.a.length aC, .bool true, .string w0, .int .i64 f0, .bool d0] 44 #[.bool false, .int .i64 0, .int .i64 0, .slice none 0 0, .slice none 0 0, .bool false, .string ⟨#[]⟩, .int .i64 0, .bool false] 44
  rw [hE]
  clear hE
  obtain ⟨c_A0, c_A1, c_A2, c_A3, c_A4, c_A5, c_A6, c_A7, c_A8⟩ := (unhide HA).cells9
  obtain ⟨c_R0, c_R1, c_R2, c_R3, c_R4, c_R5, c_R6, c_R7, c_R8⟩ := (unhide HR).cells9
  obtain ⟨zc_R0, zc_R1, zc_R2, zc_R3, zc_R4, zc_R5, zc_R6, zc_R7, zc_R8⟩ := (unhide HR).froz9
  go_wp2_with fail
  obtain ⟨WF, hE, kh⟩ := sto9 (unhide HR) (.bool false) (.int .i64 p.s) (.int .i64 p.m) (.slice bA p.b.length bC) (.slice aA p.a.length aC) (.bool true) (.string w0) (.int .i64 f0) (.bool d0)
  rw [hE]
  have k_R := unhide kh
  obtain ⟨q_R0, q_R1, q_R2, q_R3, q_R4, q_R5, q_R6, q_R7, q_R8⟩ := k_R.cells9
  have NHK0 : Hid (KpF _ X WF) := hide (by rw [← hE]; exact KpF.upd9 (unhide HK0) (.inr (by first | omega | (dsimp only; omega))))
  clear hE
  refine bodyPost_ret (v := .tuple #[.agg #[.bool false, .int .i64 p.s, .int .i64 p.m, .slice bA p.b.length bC, .slice aA p.a.length aC, .bool true, .string w0, .int .i64 f0, .bool d0], .int .i64 171]) (by simp [results, Try.results38, go_sem, q_R0, q_R1, q_R2, q_R3, q_R4, q_R5, q_R6, q_R7, q_R8]) rfl ?_
  exact ⟨_, _, rfl, (unhide HD).old (unhide NHK0), fun i e => .inl e, (unhide NHK0).belX⟩
set_option maxRecDepth 100000 in
set_option maxHeartbeats 4000000 in
theorem REnd2_at (X : World) (D : Nat → Prop) (c : Array Value) (p : Pa Int) (h : IsD X D c p) (ho : p.o.isSome = false) :
    Calls Try.prog 36 #[.agg c] X fun y Y => ∃ c' D', y = .returned (.tuple #[.agg c', .int .i64 171]) ∧ IsD Y D' c' p ∧ (∀ i, D' i → D i ∨ X.heap.size ≤ i) ∧ Below X.heap.size X Y := by
  have HD := hide h
  obtain ⟨vb, va, kb, ka, w0, f0, d0, rfl, h1, h2, h3, h4⟩ := h
  obtain ⟨bA, bC, rfl⟩ := h1.val
  obtain ⟨aA, aC, rfl⟩ := h2.val
  rw [ho] at HD ⊢
  clear h1 h2 h3 h4 ho
  go_enter Try.func36, Try.ntmps36
  go_upto_region 1 with fail
  obtain ⟨W0, hE, HA, HR, HK0⟩ := new2B (LBf X.heap.size 2) X #[.bool false, .int .i64 p.s, .int .i64 p.m, .slice bA p.b.length bC, .slice aA p.a.length aC, .bool false, .string w0, .int .i64 f0, .bool d0] 44 #[.bool false, .int .i64 0, .int .i64 0, .slice none 0 0, .slice none 0 0, .bool false, .string ⟨#[]⟩, .int .i64 0, .bool false] 44
  rw [hE]
  clear hE
  obtain ⟨c_A0, c_A1, c_A2, c_A3, c_A4, c_A5, c_A6, c_A7, c_A8⟩ := (unhide HA).cells9
  obtain ⟨c_R0, c_R1, c_R2, c_R3, c_R4, c_R5, c_R6, c_R7, c_R8⟩ := (unhide HR).cells9
  obtain ⟨zc_R0, zc_R1, zc_R2, zc_R3, zc_R4, zc_R5, zc_R6, zc_R7, zc_R8⟩ := (unhide HR).froz9
  go_wp2_with fail
  obtain ⟨WF, hE, kh⟩ := sto9 (unhide HR) (.bool false) (.int .i64 p.s) (.int .i64 p.m) (.slice bA p.b.length bC) (.slice aA p.a.length aC) (.bool false) (.string w0) (.int .i64 f0) (.bool d0)
  rw [hE]
  have k_R := unhide kh
  obtain ⟨q_R0, q_R1, q_R2, q_R3, q_R4, q_R5, q_R6, q_R7, q_R8⟩ := k_R.cells9
  have NHK0 : Hid (KpF _ X WF) := hide (by rw [← hE]; exact KpF.upd9 (unhide HK0) (.inr (by first | omega | (dsimp only; omega))))
  clear hE
  refine bodyPost_ret (v := .tuple #[.agg #[.bool false, .int .i64 p.s, .int .i64 p.m, .slice bA p.b.length bC, .slice aA p.a.length aC, .bool false, .string w0, .int .i64 f0, .bool d0], .int .i64 171]) (by simp [results, Try.results36, go_sem, q_R0, q_R1, q_R2, q_R3, q_R4, q_R5, q_R6, q_R7, q_R8]) rfl ?_
  exact ⟨_, _, rfl, (unhide HD).old (unhide NHK0), fun i e => .inl e, (unhide NHK0).belX⟩
set_option maxRecDepth 100000 in
set_option maxHeartbeats 4000000 in
theorem RUndo0_at (X : World) (D : Nat → Prop) (c : Array Value) (p : Pa Int) (h : IsD X D c p) (ho : p.o.isSome = false) (hp : p.b = []) :
    Calls Try.prog 30 #[.agg c] X fun y Y => ∃ c' D', y = .returned (.tuple #[.agg c', .agg #[.int .i64 0, .string ⟨#[]⟩], .int .i64 170]) ∧ IsD Y D' c' p ∧ (∀ i, D' i → D i ∨ X.heap.size ≤ i) ∧ Below X.heap.size X Y := by
  have HD := hide h
  obtain ⟨vb, va, kb, ka, w0, f0, d0, rfl, h1, h2, h3, h4⟩ := h
  obtain ⟨bA, bC, rfl⟩ := h1.val
  obtain ⟨aA, aC, rfl⟩ := h2.val
  rw [ho] at HD ⊢
  rw [hp] at HD ⊢
  dsimp only [List.length_nil] at HD ⊢
  clear h1 h2 h3 h4 ho hp
  go_enter Try.func30, Try.ntmps30
  go_upto_region 1 with fail
  obtain ⟨W0, hE, HA, HR, HS, HK0⟩ := new3B (LBf X.heap.size 3) X #[.bool false, .int .i64 p.s, .int .i64 p.m, .slice bA 0 bC, .slice aA p.a.length aC, .bool false, .string w0, .int .i64 f0, .bool d0] 44 #[.bool false, .int .i64 0, .int .i64 0, .slice none 0 0, .slice none 0 0, .bool false, .string ⟨#[]⟩, .int .i64 0, .bool false] 44 #[.int .i64 0, .string ⟨#[]⟩] 82
  rw [hE]
  clear hE
  obtain ⟨c_A0, c_A1, c_A2, c_A3, c_A4, c_A5, c_A6, c_A7, c_A8⟩ := (unhide HA).cells9
  obtain ⟨c_R0, c_R1, c_R2, c_R3, c_R4, c_R5, c_R6, c_R7, c_R8⟩ := (unhide HR).cells9
  obtain ⟨c_S0, c_S1⟩ := (unhide HS).cells2
  obtain ⟨zc_R0, zc_R1, zc_R2, zc_R3, zc_R4, zc_R5, zc_R6, zc_R7, zc_R8⟩ := (unhide HR).froz9
  obtain ⟨zc_S0, zc_S1⟩ := (unhide HS).froz2
  go_wp2_with fail
  generalize hE : (((((((((((W0.setCell ⟨X.heap.size + 1, 0, none⟩ (.bool false)).setCell ⟨X.heap.size + 1, 1, none⟩ (.int .i64 p.s)).setCell ⟨X.heap.size + 1, 2, none⟩ (.int .i64 p.m)).setCell ⟨X.heap.size + 1, 3, none⟩ (.slice bA 0 bC)).setCell ⟨X.heap.size + 1, 4, none⟩ (.slice aA p.a.length aC)).setCell ⟨X.heap.size + 1, 5, none⟩ (.bool false)).setCell ⟨X.heap.size + 1, 6, none⟩ (.string w0)).setCell ⟨X.heap.size + 1, 7, none⟩ (.int .i64 f0)).setCell ⟨X.heap.size + 1, 8, none⟩ (.bool d0)).setCell ⟨X.heap.size + 1 + 1, 0, none⟩ (.int .i64 0)).setCell ⟨X.heap.size + 1 + 1, 1, none⟩ (.string ⟨#[]⟩)) = WF at *
  have k_R : Cls WF (X.heap.size + 1) 44 #[.bool false, .int .i64 p.s, .int .i64 p.m, .slice bA 0 bC, .slice aA p.a.length aC, .bool false, .string w0, .int .i64 f0, .bool d0] := by rw [← hE]; exact Cls.oth2 (Cls.set9 (unhide HR)) (by omega)
  obtain ⟨q_R0, q_R1, q_R2, q_R3, q_R4, q_R5, q_R6, q_R7, q_R8⟩ := k_R.cells9
  have k_S : Cls WF (X.heap.size + 1 + 1) 82 #[.int .i64 0, .string ⟨#[]⟩] := by rw [← hE]; exact Cls.set2 (Cls.oth9 (unhide HS) (by omega))
  obtain ⟨q_S0, q_S1⟩ := k_S.cells2
  have NHK0 : Hid (KpF _ X WF) := hide (by rw [← hE]; exact KpF.upd2 (KpF.upd9 (unhide HK0) (.inr (by first | omega | (dsimp only; omega)))) (.inr (by first | omega | (dsimp only; omega))))
  clear hE
  refine bodyPost_ret (v := .tuple #[.agg #[.bool false, .int .i64 p.s, .int .i64 p.m, .slice bA 0 bC, .slice aA p.a.length aC, .bool false, .string w0, .int .i64 f0, .bool d0], .agg #[.int .i64 0, .string ⟨#[]⟩], .int .i64 170]) (by simp [results, Try.results30, go_sem, q_R0, q_R1, q_R2, q_R3, q_R4, q_R5, q_R6, q_R7, q_R8, q_S0, q_S1]) rfl ?_
  exact ⟨_, _, rfl, (unhide HD).old (unhide NHK0), fun i e => .inl e, (unhide NHK0).belX⟩
set_option maxRecDepth 100000 in
set_option maxHeartbeats 4000000 in
theorem RRedo0_at (X : World) (D : Nat → Prop) (c : Array Value) (p : Pa Int) (h : IsD X D c p) (ho : p.o.isSome = false) (hp : p.a = []) :
    Calls Try.prog 32 #[.agg c] X fun y Y => ∃ c' D', y = .returned (.tuple #[.agg c', .agg #[.int .i64 0, .string ⟨#[]⟩], .int .i64 170]) ∧ IsD Y D' c' p ∧ (∀ i, D' i → D i ∨ X.heap.size ≤ i) ∧ Below X.heap.size X Y := by
  have HD := hide h
  obtain ⟨vb, va, kb, ka, w0, f0, d0, rfl, h1, h2, h3, h4⟩ := h
  obtain ⟨bA, bC, rfl⟩ := h1.val
  obtain ⟨aA, aC, rfl⟩ := h2.val
  rw [ho] at HD ⊢
  rw [hp] at HD ⊢
  dsimp only [List.length_nil] at HD ⊢
  clear h1 h2 h3 h4 ho hp
  go_enter Try.func32, Try.ntmps32
  go_upto_region 1 with fail
  obtain ⟨W0, hE, HA, HR, HS, HK0⟩ := new3B (LBf X.heap.size 3) X #[.bool false, .int .i64 p.s, .int .i64 p.m, .slice bA p.b.length bC, .slice aA 0 aC, .bool false, .string w0, .int .i64 f0, .bool d0] 44 #[.bool false, .int .i64 0, .int .i64 0, .slice none 0 0, .slice none 0 0, .bool false, .string ⟨#[]⟩, .int .i64 0, .bool false] 44 #[.int .i64 0, .string ⟨#[]⟩] 82
  rw [hE]
  clear hE
  obtain ⟨c_A0, c_A1, c_A2, c_A3, c_A4, c_A5, c_A6, c_A7, c_A8⟩ := (unhide HA).cells9
  obtain ⟨c_R0, c_R1, c_R2, c_R3, c_R4, c_R5, c_R6, c_R7, c_R8⟩ := (unhide HR).cells9
  obtain ⟨c_S0, c_S1⟩ := (unhide HS).cells2
  obtain ⟨zc_R0, zc_R1, zc_R2, zc_R3, zc_R4, zc_R5, zc_R6, zc_R7, zc_R8⟩ := (unhide HR).froz9
  obtain ⟨zc_S0, zc_S1⟩ := (unhide HS).froz2
  go_wp2_with fail
  generalize hE : (((((((((((W0.setCell ⟨X.heap.size + 1, 0, none⟩ (.bool false)).setCell ⟨X.heap.size + 1, 1, none⟩ (.int .i64 p.s)).setCell ⟨X.heap.size + 1, 2, none⟩ (.int .i64 p.m)).setCell ⟨X.heap.size + 1, 3, none⟩ (.slice bA p.b.length bC)).setCell ⟨X.heap.size + 1, 4, none⟩ (.slice aA 0 aC)).setCell ⟨X.heap.size + 1, 5, none⟩ (.bool false)).setCell ⟨X.heap.size + 1, 6, none⟩ (.string w0)).setCell ⟨X.heap.size + 1, 7, none⟩ (.int .i64 f0)).setCell ⟨X.heap.size + 1, 8, none⟩ (.bool d0)).setCell ⟨X.heap.size + 1 + 1, 0, none⟩ (.int .i64 0)).setCell ⟨X.heap.size + 1 + 1, 1, none⟩ (.string ⟨#[]⟩)) = WF at *
  have k_R : Cls WF (X.heap.size + 1) 44 #[.bool false, .int .i64 p.s, .int .i64 p.m, .slice bA p.b.length bC, .slice aA 0 aC, .bool false, .string w0, .int .i64 f0, .bool d0] := by rw [← hE]; exact Cls.oth2 (Cls.set9 (unhide HR)) (by omega)
  obtain ⟨q_R0, q_R1, q_R2, q_R3, q_R4, q_R5, q_R6, q_R7, q_R8⟩ := k_R.cells9
  have k_S : Cls WF (X.heap.size + 1 + 1) 82 #[.int .i64 0, .string ⟨#[]⟩] := by rw [← hE]; exact Cls.set2 (Cls.oth9 (unhide HS) (by omega))
  obtain ⟨q_S0, q_S1⟩ := k_S.cells2
  have NHK0 : Hid (KpF _ X WF) := hide (by rw [← hE]; exact KpF.upd2 (KpF.upd9 (unhide HK0) (.inr (by first | omega | (dsimp only; omega)))) (.inr (by first | omega | (dsimp only; omega))))
  clear hE
  refine bodyPost_ret (v := .tuple #[.agg #[.bool false, .int .i64 p.s, .int .i64 p.m, .slice bA p.b.length bC, .slice aA 0 aC, .bool false, .string w0, .int .i64 f0, .bool d0], .agg #[.int .i64 0, .string ⟨#[]⟩], .int .i64 170]) (by simp [results, Try.results32, go_sem, q_R0, q_R1, q_R2, q_R3, q_R4, q_R5, q_R6, q_R7, q_R8, q_S0, q_S1]) rfl ?_
  exact ⟨_, _, rfl, (unhide HD).old (unhide NHK0), fun i e => .inl e, (unhide NHK0).belX⟩
set_option maxRecDepth 100000 in
set_option maxHeartbeats 4000000 in
theorem RForget0_at (X : World) (D : Nat → Prop) (c : Array Value) (p : Pa Int) (h : IsD X D c p) (ho : p.o = none) :
    Calls Try.prog 38 #[.agg c] X fun y Y => ∃ c' D', y = .returned (.tuple #[.agg c', .int .i64 0]) ∧ IsD Y D' c' ((forgetP p).1) ∧ (∀ i, D' i → D i ∨ X.heap.size ≤ i) ∧ Below X.heap.size X Y := by
  have hf : (forgetP p).1 = { p with a := [], b := [] } := by unfold forgetP; rw [ho]
  rw [hf]
  obtain ⟨vb, va, kb, ka, w0, f0, d0, rfl, h1, h2, h3, h4⟩ := h
  obtain ⟨bA, bC, rfl⟩ := h1.val
  obtain ⟨aA, aC, rfl⟩ := h2.val
  rw [ho]
  dsimp only [Option.isSome_none]
  have HH : Hid (∀ Y, KpF (LBf X.heap.size 2) X Y → ∃ D', IsD Y D' #[.bool false, .int .i64 p.s, .int .i64 p.m, .slice none 0 0, .slice none 0 0, .bool false, .string w0, .int .i64 f0, .bool d0] { p with a := [], b := [], o := none } ∧ ∀ i, D' i → D i ∨ X.heap.size ≤ i) := hide fun Y k =>
    ⟨fun i => (none : Option Nat) = some i ∨ (none : Option Nat) = some i, ⟨_, _, (none : Option Nat), (none : Option Nat), w0, f0, d0, rfl, RA.nil _ _, RA.nil _ _, fun _ => Iff.rfl, fun x e he => (nomatch he)⟩, fun i e => .inl ((h3 i).2 (by rcases e with e | e <;> first | exact .inl e | exact .inr e | cases e))⟩
  clear hf h1 h2 h3 h4 ho
  go_enter Try.func38, Try.ntmps38
  go_upto_region 1 with fail
  obtain ⟨W0, hE, HA, HR, HK0⟩ := new2B (LBf X.heap.size 2) X #[.bool false, .int .i64 p.s, .int .i64 p.m, .slice bA p.b.length bC, .slice aA p.a.length aC, .bool false, .string w0, .int .i64 f0, .bool d0] 44 #[.bool false, .int .i64 0, .int .i64 0, .slice none 0 0, .slice none 0 0, .bool false, .string ⟨#[]⟩, .int .i64 0, .bool false] 44
  rw [hE]
  clear hE
  have c_A0 : W0.cell? ⟨X.heap.size, 0, none⟩ = some (.bool false) := ((unhide HA).cell 0).trans rfl
  have c_A5 : W0.cell? ⟨X.heap.size, 5, none⟩ = some (.bool false) := ((unhide HA).cell 5).trans rfl
  have c_A3 : W0.cell? ⟨X.heap.size, 3, none⟩ = some (.slice bA p.b.length bC) := ((unhide HA).cell 3).trans rfl
  have zc_A3 : W0.frozen? ⟨X.heap.size, 3, none⟩ = false := (unhide HA).frozen 3
  go_upto_region 6 with fail
  generalize hE : (W0.setCell ⟨X.heap.size, 3, none⟩ (.slice none 0 0)) = W1 at *
  have NA : Hid (Cls W1 (X.heap.size) 44 #[.bool false, .int .i64 p.s, .int .i64 p.m, .slice none 0 0, .slice aA p.a.length aC, .bool false, .string w0, .int .i64 f0, .bool d0]) := hide (by rw [← hE]; simpa using (unhide HA).set 3 (.slice none 0 0))
  have NR : Hid (Cls W1 (X.heap.size + 1) 44 _) := hide (by rw [← hE]; exact (unhide HR).other ⟨X.heap.size, 3, none⟩ (.slice none 0 0) (by first | omega | (dsimp only; omega)))
  have NHK0 : Hid (KpF _ X W1) := hide (by rw [← hE]; exact (unhide HK0).upd ⟨X.heap.size, 3, none⟩ (.slice none 0 0) (.inr (by first | omega | (dsimp only; omega))))
  clear hE HA HR HK0
  have HA := NA
  have HR := NR
  have HK0 := NHK0
  clear NA NR NHK0
  clear c_A0 c_A5 c_A3 zc_A3
  have c_A4 : W1.cell? ⟨X.heap.size, 4, none⟩ = some (.slice aA p.a.length aC) := ((unhide HA).cell 4).trans rfl
  have zc_A4 : W1.frozen? ⟨X.heap.size, 4, none⟩ = false := (unhide HA).frozen 4
  go_upto_region 7 with fail
  generalize hE : (W1.setCell ⟨X.heap.size, 4, none⟩ (.slice none 0 0)) = W2 at *
  have NA : Hid (Cls W2 (X.heap.size) 44 #[.bool false, .int .i64 p.s, .int .i64 p.m, .slice none 0 0, .slice none 0 0, .bool false, .string w0, .int .i64 f0, .bool d0]) := hide (by rw [← hE]; simpa using (unhide HA).set 4 (.slice none 0 0))
  have NR : Hid (Cls W2 (X.heap.size + 1) 44 _) := hide (by rw [← hE]; exact (unhide HR).other ⟨X.heap.size, 4, none⟩ (.slice none 0 0) (by first | omega | (dsimp only; omega)))
  have NHK0 : Hid (KpF _ X W2) := hide (by rw [← hE]; exact (unhide HK0).upd ⟨X.heap.size, 4, none⟩ (.slice none 0 0) (.inr (by first | omega | (dsimp only; omega))))
  clear hE HA HR HK0
  have HA := NA
  have HR := NR
  have HK0 := NHK0
  clear NA NR NHK0
  clear c_A4 zc_A4
  obtain ⟨c_A0, c_A1, c_A2, c_A3, c_A4, c_A5, c_A6, c_A7, c_A8⟩ := (unhide HA).cells9
  obtain ⟨c_R0, c_R1, c_R2, c_R3, c_R4, c_R5, c_R6, c_R7, c_R8⟩ := (unhide HR).cells9
  obtain ⟨zc_R0, zc_R1, zc_R2, zc_R3, zc_R4, zc_R5, zc_R6, zc_R7, zc_R8⟩ := (unhide HR).froz9
  go_wp2_with fail
  obtain ⟨WF, hE, kh⟩ := sto9 (unhide HR) (.bool false) (.int .i64 p.s) (.int .i64 p.m) (.slice none 0 0) (.slice none 0 0) (.bool false) (.string w0) (.int .i64 f0) (.bool d0)
  rw [hE]
  have k_R := unhide kh
  obtain ⟨q_R0, q_R1, q_R2, q_R3, q_R4, q_R5, q_R6, q_R7, q_R8⟩ := k_R.cells9
  have NHK0 : Hid (KpF _ X WF) := hide (by rw [← hE]; exact KpF.upd9 (unhide HK0) (.inr (by first | omega | (dsimp only; omega))))
  clear hE
  refine bodyPost_ret (v := .tuple #[.agg #[.bool false, .int .i64 p.s, .int .i64 p.m, .slice none 0 0, .slice none 0 0, .bool false, .string w0, .int .i64 f0, .bool d0], .int .i64 0]) (by simp [results, Try.results38, go_sem, q_R0, q_R1, q_R2, q_R3, q_R4, q_R5, q_R6, q_R7, q_R8]) rfl ?_
  obtain ⟨D', a1, a2⟩ := unhide HH _ (unhide NHK0)
  exact ⟨_, D', rfl, a1, a2, (unhide NHK0).belX⟩
set_option maxRecDepth 100000 in
set_option maxHeartbeats 4000000 in
theorem RBegin0_at (X : World) (D : Nat → Prop) (c : Array Value) (p : Pa Int) (h : IsD X D c p) (w : ByteArray) (ho : p.o = none) :
    Calls Try.prog 34 #[.agg c, .string w] X fun y Y => ∃ c' D', y = .returned (.tuple #[.agg c', .int .i64 0]) ∧ IsD Y D' c' ((beginP p w).1) ∧ (∀ i, D' i → D i ∨ X.heap.size ≤ i) ∧ Below X.heap.size X Y := by
  have hf : (beginP p w).1 = { p with o := some ((p.s, w), false) } := by unfold beginP; rw [ho]
  rw [hf]
  obtain ⟨vb, va, kb, ka, w0, f0, d0, rfl, h1, h2, h3, h4⟩ := h
  obtain ⟨bA, bC, rfl⟩ := h1.val
  obtain ⟨aA, aC, rfl⟩ := h2.val
  rw [ho]
  dsimp only [Option.isSome_none]
  have HH : Hid (∀ Y, KpF (LBf X.heap.size 2) X Y → ∃ D', IsD Y D' #[.bool false, .int .i64 p.s, .int .i64 p.m, .slice bA p.b.length bC, .slice aA p.a.length aC, .bool true, .string w, .int .i64 p.s, .bool false] { p with o := some ((p.s, w), false) } ∧ ∀ i, D' i → D i ∨ X.heap.size ≤ i) := hide fun Y k =>
    ⟨fun i => kb = some i ∨ ka = some i, ⟨_, _, kb, ka, w, p.s, false, rfl, h1.old k, h2.old k, fun _ => Iff.rfl, fun x e he => by cases he; exact ⟨rfl, rfl⟩⟩, fun i e => .inl ((h3 i).2 (by rcases e with e | e <;> first | exact .inl e | exact .inr e | cases e))⟩
  clear hf h1 h2 h3 h4 ho
  go_enter Try.func34, Try.ntmps34
  go_upto_region 1 with fail
  obtain ⟨W0, hE, HA, HR, HK0⟩ := new2B (LBf X.heap.size 2) X #[.bool false, .int .i64 p.s, .int .i64 p.m, .slice bA p.b.length bC, .slice aA p.a.length aC, .bool false, .string w0, .int .i64 f0, .bool d0] 44 #[.bool false, .int .i64 0, .int .i64 0, .slice none 0 0, .slice none 0 0, .bool false, .string ⟨#[]⟩, .int .i64 0, .bool false] 44
  rw [hE]
  clear hE
  have c_A0 : W0.cell? ⟨X.heap.size, 0, none⟩ = some (.bool false) := ((unhide HA).cell 0).trans rfl
  have c_A5 : W0.cell? ⟨X.heap.size, 5, none⟩ = some (.bool false) := ((unhide HA).cell 5).trans rfl
  have zc_A5 : W0.frozen? ⟨X.heap.size, 5, none⟩ = false := (unhide HA).frozen 5
  go_upto_region 6 with fail
  generalize hE : (W0.setCell ⟨X.heap.size, 5, none⟩ (.bool true)) = W1 at *
  have NA : Hid (Cls W1 (X.heap.size) 44 #[.bool false, .int .i64 p.s, .int .i64 p.m, .slice bA p.b.length bC, .slice aA p.a.length aC, .bool true, .string w0, .int .i64 f0, .bool d0]) := hide (by rw [← hE]; simpa using (unhide HA).set 5 (.bool true))
  have NR : Hid (Cls W1 (X.heap.size + 1) 44 _) := hide (by rw [← hE]; exact (unhide HR).other ⟨X.heap.size, 5, none⟩ (.bool true) (by first | omega | (dsimp only; omega)))
  have NHK0 : Hid (KpF _ X W1) := hide (by rw [← hE]; exact (unhide HK0).upd ⟨X.heap.size, 5, none⟩ (.bool true) (.inr (by first | omega | (dsimp only; omega))))
  clear hE HA HR HK0
  have HA := NA
  have HR := NR
  have HK0 := NHK0
  clear NA NR NHK0
  clear c_A0 c_A5 zc_A5
  have c_A6 : W1.cell? ⟨X.heap.size, 6, none⟩ = some (.string w0) := ((unhide HA).cell 6).trans rfl
  have zc_A6 : W1.frozen? ⟨X.heap.size, 6, none⟩ = false := (unhide HA).frozen 6
  go_upto_region 7 with fail
  generalize hE : (W1.setCell ⟨X.heap.size, 6, none⟩ (.string w)) = W2 at *
  have NA : Hid (Cls W2 (X.heap.size) 44 #[.bool false, .int .i64 p.s, .int .i64 p.m, .slice bA p.b.length bC, .slice aA p.a.length aC, .bool true, .string w, .int .i64 f0, .bool d0]) := hide (by rw [← hE]; simpa using (unhide HA).set 6 (.string w))
  have NR : Hid (Cls W2 (X.heap.size + 1) 44 _) := hide (by rw [← hE]; exact (unhide HR).other ⟨X.heap.size, 6, none⟩ (.string w) (by first | omega | (dsimp only; omega)))
  have NHK0 : Hid (KpF _ X W2) := hide (by rw [← hE]; exact (unhide HK0).upd ⟨X.heap.size, 6, none⟩ (.string w) (.inr (by first | omega | (dsimp only; omega))))
  clear hE HA HR HK0
  have HA := NA
  have HR := NR
  have HK0 := NHK0
  clear NA NR NHK0
  clear c_A6 zc_A6
  have c_A1 : W2.cell? ⟨X.heap.size, 1, none⟩ = some (.int .i64 p.s) := ((unhide HA).cell 1).trans rfl
  have c_A7 : W2.cell? ⟨X.heap.size, 7, none⟩ = some (.int .i64 f0) := ((unhide HA).cell 7).trans rfl
  have zc_A7 : W2.frozen? ⟨X.heap.size, 7, none⟩ = false := (unhide HA).frozen 7
  go_upto_region 8 with fail
  generalize hE : (W2.setCell ⟨X.heap.size, 7, none⟩ (.int .i64 p.s)) = W3 at *
  have NA : Hid (Cls W3 (X.heap.size) 44 #[.bool false, .int .i64 p.s, .int .i64 p.m, .slice bA p.b.length bC, .slice aA p.a.length aC, .bool true, .string w, .int .i64 p.s, .bool d0]) := hide (by rw [← hE]; simpa using (unhide HA).set 7 (.int .i64 p.s))
  have NR : Hid (Cls W3 (X.heap.size + 1) 44 _) := hide (by rw [← hE]; exact (unhide HR).other ⟨X.heap.size, 7, none⟩ (.int .i64 p.s) (by first | omega | (dsimp only; omega)))
  have NHK0 : Hid (KpF _ X W3) := hide (by rw [← hE]; exact (unhide HK0).upd ⟨X.heap.size, 7, none⟩ (.int .i64 p.s) (.inr (by first | omega | (dsimp only; omega))))
  clear hE HA HR HK0
  have HA := NA
  have HR := NR
  have HK0 := NHK0
  clear NA NR NHK0
  clear c_A1 c_A7 zc_A7
  have c_A8 : W3.cell? ⟨X.heap.size, 8, none⟩ = some (.bool d0) := ((unhide HA).cell 8).trans rfl
  have zc_A8 : W3.frozen? ⟨X.heap.size, 8, none⟩ = false := (unhide HA).frozen 8
  go_upto_region 9 with fail
  generalize hE : (W3.setCell ⟨X.heap.size, 8, none⟩ (.bool false)) = W4 at *
  have NA : Hid (Cls W4 (X.heap.size) 44 #[.bool false, .int .i64 p.s, .int .i64 p.m, .slice bA p.b.length bC, .slice aA p.a.length aC, .bool true, .string w, .int .i64 p.s, .bool false]) := hide (by rw [← hE]; simpa using (unhide HA).set 8 (.bool false))
  have NR : Hid (Cls W4 (X.heap.size + 1) 44 _) := hide (by rw [← hE]; exact (unhide HR).other ⟨X.heap.size, 8, none⟩ (.bool false) (by first | omega | (dsimp only; omega)))
  have NHK0 : Hid (KpF _ X W4) := hide (by rw [← hE]; exact (unhide HK0).upd ⟨X.heap.size, 8, none⟩ (.bool false) (.inr (by first | omega | (dsimp only; omega))))
  clear hE HA HR HK0
  have HA := NA
  have HR := NR
  have HK0 := NHK0
  clear NA NR NHK0
  clear c_A8 zc_A8
  obtain ⟨c_A0, c_A1, c_A2, c_A3, c_A4, c_A5, c_A6, c_A7, c_A8⟩ := (unhide HA).cells9
  obtain ⟨c_R0, c_R1, c_R2, c_R3, c_R4, c_R5, c_R6, c_R7, c_R8⟩ := (unhide HR).cells9
  obtain ⟨zc_R0, zc_R1, zc_R2, zc_R3, zc_R4, zc_R5, zc_R6, zc_R7, zc_R8⟩ := (unhide HR).froz9
  go_wp2_with fail
  obtain ⟨WF, hE, kh⟩ := sto9 (unhide HR) (.bool false) (.int .i64 p.s) (.int .i64 p.m) (.slice bA p.b.length bC) (.slice aA p.a.length aC) (.bool true) (.string w) (.int .i64 p.s) (.bool false)
  rw [hE]
  have k_R := unhide kh
  obtain ⟨q_R0, q_R1, q_R2, q_R3, q_R4, q_R5, q_R6, q_R7, q_R8⟩ := k_R.cells9
  have NHK0 : Hid (KpF _ X WF) := hide (by rw [← hE]; exact KpF.upd9 (unhide HK0) (.inr (by first | omega | (dsimp only; omega))))
  clear hE
  refine bodyPost_ret (v := .tuple #[.agg #[.bool false, .int .i64 p.s, .int .i64 p.m, .slice bA p.b.length bC, .slice aA p.a.length aC, .bool true, .string w, .int .i64 p.s, .bool false], .int .i64 0]) (by simp [results, Try.results34, go_sem, q_R0, q_R1, q_R2, q_R3, q_R4, q_R5, q_R6, q_R7, q_R8]) rfl ?_
  obtain ⟨D', a1, a2⟩ := unhide HH _ (unhide NHK0)
  exact ⟨_, D', rfl, a1, a2, (unhide NHK0).belX⟩
end Go.Proofs.Ytdemfejladepjaa
