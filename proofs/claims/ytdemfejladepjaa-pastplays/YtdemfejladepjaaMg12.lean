/- Layer 17: a past of states int in memory. Written by wip/tools/pas.py. -/
import Derived.Test.YtdemfejladepjaaMg06
import Derived.Test.YtdemfejladepjaaMg07
import Derived.Test.YtdemfejladepjaaMg08
import Derived.Deep.Cut

namespace Go.Proofs.Ytdemfejladepjaa
open Go.ChangeShapes Go.WideShapes Go.ChangeAt Go.RowKit
attribute [local go_sem] Oper.semAt_some

/-- steps as cells -/
def stI (l : List (Int × ByteArray)) : List Value := l.flatMap fun x => [.int .i64 x.1, .string x.2]
theorem stI_len (l : List (Int × ByteArray)) : (stI l).length = l.length * 2 := fm_len _ 2 (fun _ => rfl) l
theorem stI_app (l : List (Int × ByteArray)) (x : Int × ByteArray) : stI (l ++ [x]) = stI l ++ [.int .i64 x.1, .string x.2] := by simp [stI]
theorem stI_one (l : List (Int × ByteArray)) : ∀ u ∈ stI l, u.oneCell' = true := by
  intro u hu
  obtain ⟨x, _, hx⟩ := List.mem_flatMap.1 hu
  simp only [List.mem_cons, List.not_mem_nil, or_false] at hx
  rcases hx with rfl | rfl <;> rfl
theorem stI_get0 (l : List (Int × ByteArray)) (i : Nat) (hi : i < l.length) : (stI l)[i * 2 + 0]? = some (.int .i64 l[i].1) := fm_get _ 2 (fun _ => rfl) l i 0 hi (by omega)
theorem stI_get1 (l : List (Int × ByteArray)) (i : Nat) (hi : i < l.length) : (stI l)[i * 2 + 1]? = some (.string l[i].2) := fm_get _ 2 (fun _ => rfl) l i 1 hi (by omega)
/-- the open group -/
def OpI (X : World) (vo : Value) (o : Option ((Int × ByteArray) × Bool)) (ko : Option Nat) : Prop :=
  (o = none ∧ vo = .pointer none ∧ ko = none) ∨ ∃ s w d h, o = some ((s, w), d) ∧ vo = .pointer (some ⟨h, 0, none⟩) ∧ ko = some h ∧ Cls X h 106 #[.int .i64 s, .string w, .bool d]
theorem OpI.kpf {F : Nat → Prop} {X Y : World} {vo : Value} {o : Option ((Int × ByteArray) × Bool)} {ko : Option Nat} (h : OpI X vo o ko) (k : KpF F X Y) (hF : ∀ g, ko = some g → ¬ F g) : OpI Y vo o ko := by
  rcases h with h | ⟨s, w, d, g, e1, e2, e3, e4⟩
  · exact .inl h
  · exact .inr ⟨s, w, d, g, e1, e2, e3, e4.kpf k (hF g e3)⟩
theorem OpI.lt {X : World} {vo : Value} {o : Option ((Int × ByteArray) × Bool)} {ko : Option Nat} (h : OpI X vo o ko) (g : Nat) (e : ko = some g) : g < X.heap.size := by
  rcases h with ⟨_, _, e3⟩ | ⟨s, w, d, g', e1, e2, e3, e4⟩
  · rw [e3] at e; cases e
  · rw [e3] at e; cases e; exact e4.lt
/-- a *Past: its block g, and those of its lists and of its group -/
structure IspI (X : World) (g : Nat) (p : Pa Int) (kb ka ko : Option Nat) : Prop where
  c : ∃ vb va vo, Cls X g 78 #[.int .i64 p.s, .int .i64 p.m, vb, va, vo] ∧ RA X 2 vb p.b.length (stI p.b) kb ∧ RA X 2 va p.a.length (stI p.a) ka ∧ OpI X vo p.o ko
  d : DJ g kb ka ko
theorem IspI.kpf {F : Nat → Prop} {X Y : World} {g : Nat} {p : Pa Int} {kb ka ko : Option Nat} (h : IspI X g p kb ka ko) (k : KpF F X Y) (hF : ∀ i, FO g kb ka ko i → ¬ F i) : IspI Y g p kb ka ko := by
  obtain ⟨vb, va, vo, h1, h2, h3, h4⟩ := h.c
  exact ⟨⟨vb, va, vo, h1.kpf k (hF g (.inl rfl)), h2.kpf k (fun i e => hF i (.inr (.inl e))), h3.kpf k (fun i e => hF i (.inr (.inr (.inl e)))), h4.kpf k (fun i e => hF i (.inr (.inr (.inr e))))⟩, h.d⟩
theorem IspI.lt {X : World} {g : Nat} {p : Pa Int} {kb ka ko : Option Nat} (h : IspI X g p kb ka ko) : ∀ i, FO g kb ka ko i → i < X.heap.size := by
  obtain ⟨vb, va, vo, h1, h2, h3, h4⟩ := h.c
  rintro i (rfl | e | e | e)
  · exact h1.lt
  · exact h2.lt i e
  · exact h3.lt i e
  · exact h4.lt i e
theorem IspI.size {X : World} {g : Nat} {p : Pa Int} {kb ka ko : Option Nat} (h : IspI X g p kb ka ko) : g < X.heap.size := h.lt g (.inl rfl)
theorem wrapPI (n : Int) (h0 : -9223372036854775808 ≤ n) (h1 : n ≤ 9223372036854775807) : wrap64 n = n := by unfold wrap64; omega
set_option maxRecDepth 100000 in
/-- one step more at the end of one of the lists -/
theorem pushI (X : World) (v : Value) (l : List (Int × ByteArray)) (k : Option Nat) (h : RA X 2 v l.length (stI l) k) (s : Int) (w : ByteArray) (hn : l.length ≤ 4096) :
    ∃ v' Y k', (Builtin.append_ #[75, 75] 75 #[v, .slice (some ⟨X.heap.size, 0, none⟩) 1 1]).run Try.prog (X.alloc (.cells #[.int .i64 s, .string w] 103)) = .ok v' Y ∧ RA Y 2 v' (l ++ [(s, w)]).length (stI (l ++ [(s, w)])) k' ∧
      KpF (fun b => k = some b) X Y ∧ (k' = k ∧ k ≠ none ∨ ∃ h, k' = some h ∧ X.heap.size ≤ h) := by
  have h1 := h.allocd (.cells #[.int .i64 s, .string w] 103)
  obtain ⟨v', Y, k', hr, h2, h3, h4⟩ := h1.push (P := Try.prog) 75 75 103 _ _ 24 Try.underlying75 rfl rfl rfl rfl rfl ⟨X.heap.size, 0, none⟩ 1 [.int .i64 s, .string w] rfl (fun j u hj => by
      rw [Addr.add_lit, Nat.zero_add]
      refine (World.cell?_alloc_mark X _ _ (0, 0) j).trans ?_
      rw [List.getElem?_toArray]; exact hj) (fun u hu => by
      simp only [List.mem_cons, List.not_mem_nil, or_false] at hu
      rcases hu with rfl | rfl <;> rfl) (by omega) (by omega)
  refine ⟨v', Y, k', hr, ?_, ((KpF.alloc _ X _).trans h3 (fun _ _ e => e)), ?_⟩
  · rw [stI_app, List.length_append]
    exact h2
  · rcases h4 with h4 | h4
    · exact .inl h4
    · exact .inr ⟨_, h4, by simp⟩
theorem pshBI (X : World) (g : Nat) (p : Pa Int) (kb ka ko : Option Nat) (h : IspI X g p kb ka ko) (s : Int) (w : ByteArray) (hn : p.b.length ≤ 4096) :
    ∃ vb va vo v' Y k', Cls X g 78 #[.int .i64 p.s, .int .i64 p.m, vb, va, vo] ∧ (Builtin.append_ #[75, 75] 75 #[vb, .slice (some ⟨X.heap.size, 0, none⟩) 1 1]).run Try.prog (X.alloc (.cells #[.int .i64 s, .string w] 103)) = .ok v' Y ∧
      Cls Y g 78 #[.int .i64 p.s, .int .i64 p.m, vb, va, vo] ∧ IspI (Y.setCell ⟨g, 2, none⟩ v') g { p with b := p.b ++ [(s, w)] } k' ka ko ∧ Cls (Y.setCell ⟨g, 2, none⟩ v') g 78 #[.int .i64 p.s, .int .i64 p.m, v', va, vo] ∧ RA (Y.setCell ⟨g, 2, none⟩ v') 2 v' (p.b ++ [(s, w)]).length (stI (p.b ++ [(s, w)])) k' ∧
      Gr (FO g kb ka ko) X (FO g k' ka ko) (Y.setCell ⟨g, 2, none⟩ v') ∧ KpF (FO g kb ka ko) X Y := by
  obtain ⟨vb, va, vo, h1, h2, h3, h4⟩ := h.c
  have hd := h.d
  obtain ⟨v', Y, k', hr, h5, h6, h7⟩ := pushI X vb p.b kb h2 s w hn
  have hC : Cls Y g 78 #[.int .i64 p.s, .int .i64 p.m, vb, va, vo] := h1.kpf h6 hd.gb
  have hlt := h.lt
  have hk : ∀ i, k' = some i → kb = some i ∨ X.heap.size ≤ i := by
    intro i hi
    rcases h7 with ⟨e, _⟩ | ⟨j, e, hj⟩
    · exact .inl (e ▸ hi)
    · rw [e] at hi; cases hi; exact .inr hj
  have hkg : k' ≠ some g := fun e => by
    rcases hk g e with e1 | e1
    · exact hd.gb e1
    · have := h1.lt; omega
  have hko : ∀ i, k' = some i → ka ≠ some i := fun i e e2 => by
    rcases hk i e with e1 | e1
    · exact hd.ba i e1 e2
    · have := hlt i (.inr (.inr (.inl e2))); omega
  have hkq : ∀ i, k' = some i → ko ≠ some i := fun i e e2 => by
    rcases hk i e with e1 | e1
    · exact hd.bo i e1 e2
    · have := hlt i (.inr (.inr (.inr e2))); omega
  have hset : Cls (Y.setCell ⟨g, 2, none⟩ v') g 78 #[.int .i64 p.s, .int .i64 p.m, v', va, vo] := by simpa using hC.set 2 v'
  have h5' := h5.setOther ⟨g, 2, none⟩ v' hkg
  have kall : KpF (fun i => i = g ∨ kb = some i) X (Y.setCell ⟨g, 2, none⟩ v') := (h6.mono (fun _ _ e => .inr e)).trans (KpF.set Y ⟨g, 2, none⟩ v' (.inl rfl)) (fun _ _ e => e)
  have hoth := h3.kpf kall (fun i e => by rintro (rfl | e2); exact hd.ga e; exact hd.ba i e2 e)
  have hop := h4.kpf kall (fun i e => by rintro (rfl | e2); exact hd.go e; exact hd.bo i e2 e)
  refine ⟨vb, va, vo, v', Y, k', h1, hr, hC, ⟨⟨_, _, _, hset, h5', hoth, hop⟩, ⟨hkg, hd.ga, hd.go, hko, hkq, hd.ao⟩⟩, hset, h5', ⟨kall.mono (fun i _ e => ?_), fun i hi => ?_⟩, h6.mono (fun i _ e => .inr (.inl e))⟩
  · rcases e with e | e
    · exact .inl e
    · exact .inr (.inl e)
  · rcases hi with hi | hi | hi | hi
    · exact .inl (.inl hi)
    · rcases hk i hi with e | e
      · exact .inl (.inr (.inl e))
      · exact .inr e
    · exact .inl (.inr (.inr (.inl hi)))
    · exact .inl (.inr (.inr (.inr hi)))
theorem pshAI (X : World) (g : Nat) (p : Pa Int) (kb ka ko : Option Nat) (h : IspI X g p kb ka ko) (s : Int) (w : ByteArray) (hn : p.a.length ≤ 4096) :
    ∃ vb va vo v' Y k', Cls X g 78 #[.int .i64 p.s, .int .i64 p.m, vb, va, vo] ∧ (Builtin.append_ #[75, 75] 75 #[va, .slice (some ⟨X.heap.size, 0, none⟩) 1 1]).run Try.prog (X.alloc (.cells #[.int .i64 s, .string w] 103)) = .ok v' Y ∧
      Cls Y g 78 #[.int .i64 p.s, .int .i64 p.m, vb, va, vo] ∧ IspI (Y.setCell ⟨g, 3, none⟩ v') g { p with a := p.a ++ [(s, w)] } kb k' ko ∧ Cls (Y.setCell ⟨g, 3, none⟩ v') g 78 #[.int .i64 p.s, .int .i64 p.m, vb, v', vo] ∧ RA (Y.setCell ⟨g, 3, none⟩ v') 2 v' (p.a ++ [(s, w)]).length (stI (p.a ++ [(s, w)])) k' ∧
      Gr (FO g kb ka ko) X (FO g kb k' ko) (Y.setCell ⟨g, 3, none⟩ v') ∧ KpF (FO g kb ka ko) X Y := by
  obtain ⟨vb, va, vo, h1, h2, h3, h4⟩ := h.c
  have hd := h.d
  obtain ⟨v', Y, k', hr, h5, h6, h7⟩ := pushI X va p.a ka h3 s w hn
  have hC : Cls Y g 78 #[.int .i64 p.s, .int .i64 p.m, vb, va, vo] := h1.kpf h6 hd.ga
  have hlt := h.lt
  have hk : ∀ i, k' = some i → ka = some i ∨ X.heap.size ≤ i := by
    intro i hi
    rcases h7 with ⟨e, _⟩ | ⟨j, e, hj⟩
    · exact .inl (e ▸ hi)
    · rw [e] at hi; cases hi; exact .inr hj
  have hkg : k' ≠ some g := fun e => by
    rcases hk g e with e1 | e1
    · exact hd.ga e1
    · have := h1.lt; omega
  have hko : ∀ i, k' = some i → kb ≠ some i := fun i e e2 => by
    rcases hk i e with e1 | e1
    · exact hd.ba i e2 e1
    · have := hlt i (.inr (.inl e2)); omega
  have hkq : ∀ i, k' = some i → ko ≠ some i := fun i e e2 => by
    rcases hk i e with e1 | e1
    · exact hd.ao i e1 e2
    · have := hlt i (.inr (.inr (.inr e2))); omega
  have hset : Cls (Y.setCell ⟨g, 3, none⟩ v') g 78 #[.int .i64 p.s, .int .i64 p.m, vb, v', vo] := by simpa using hC.set 3 v'
  have h5' := h5.setOther ⟨g, 3, none⟩ v' hkg
  have kall : KpF (fun i => i = g ∨ ka = some i) X (Y.setCell ⟨g, 3, none⟩ v') := (h6.mono (fun _ _ e => .inr e)).trans (KpF.set Y ⟨g, 3, none⟩ v' (.inl rfl)) (fun _ _ e => e)
  have hoth := h2.kpf kall (fun i e => by rintro (rfl | e2); exact hd.gb e; exact hd.ba i e e2)
  have hop := h4.kpf kall (fun i e => by rintro (rfl | e2); exact hd.go e; exact hd.ao i e2 e)
  refine ⟨vb, va, vo, v', Y, k', h1, hr, hC, ⟨⟨_, _, _, hset, hoth, h5', hop⟩, ⟨hd.gb, hkg, hd.go, fun i e e2 => hko i e2 e, hd.bo, hkq⟩⟩, hset, h5', ⟨kall.mono (fun i _ e => ?_), fun i hi => ?_⟩, h6.mono (fun i _ e => .inr (.inr (.inl e)))⟩
  · rcases e with e | e
    · exact .inl e
    · exact .inr (.inr (.inl e))
  · rcases hi with hi | hi | hi | hi
    · exact .inl (.inl hi)
    · exact .inl (.inr (.inl hi))
    · rcases hk i hi with e | e
      · exact .inl (.inr (.inr (.inl e)))
      · exact .inr e
    · exact .inl (.inr (.inr (.inr hi)))
theorem tailI {Z Z1 : World} {g N g9 of9 cp9 : Nat} {s : Int} {m : Int} {L A : List (Int × ByteArray)} {O : Option ((Int × ByteArray) × Bool)} {k' ka ko : Option Nat} {vb va vo : Value} {xs : List Value}
    (h3 : IspI Z g ⟨s, m, L, A, O⟩ k' ka ko) (h4 : Cls Z g 78 #[.int .i64 s, .int .i64 m, vb, va, vo]) (kz : KpF (fun i => i = g9) Z Z1) (cz : Cls Z1 g 78 #[.int .i64 s, .int .i64 m, vb, va, vo]) (rz : RA Z1 2 (.slice (some ⟨g9, of9, none⟩) (N + 1) cp9) (N + 1) xs k') (hx : xs.drop 2 = stI (L.drop 1)) (hk9 : k' = some g9) (hN : (L.drop 1).length = N) :
    (cp9 = 1 → IspI (Z1.setCell ⟨g, 2, none⟩ (.slice (some ⟨g9, of9, none⟩) N 0)) g ⟨s, m, L.drop 1, A, O⟩ k' ka ko) ∧ IspI (Z1.setCell ⟨g, 2, none⟩ (.slice (some ⟨g9, of9 + 2, none⟩) N (cp9 - 1))) g ⟨s, m, L.drop 1, A, O⟩ k' ka ko := by
  obtain ⟨vb', va', vo', h5, _, h6, h7⟩ := h3.c
  have he := clsInj h5 h4
  simp only [Array.mk.injEq, List.cons.injEq, and_true, true_and] at he
  obtain ⟨rfl, rfl, rfl⟩ := he
  have hd := h3.d
  have rt := rz.tail
  rw [hx, ← hN] at rt
  have k2 : ∀ v, KpF (fun i => i = g9 ∨ i = g) Z (Z1.setCell ⟨g, 2, none⟩ v) := fun v => (kz.mono (fun _ _ e => .inl e)).trans (KpF.set Z1 ⟨g, 2, none⟩ v (.inr rfl)) (fun _ _ e => e)
  have q1 : ∀ v, RA (Z1.setCell ⟨g, 2, none⟩ v) 2 va' A.length (stI A) ka := fun v => h6.kpf (k2 v) (fun i e => by rintro (e1 | e1); exact hd.ba g9 hk9 (e1 ▸ e); exact hd.ga (e1 ▸ e))
  have q2 : ∀ v, OpI (Z1.setCell ⟨g, 2, none⟩ v) vo' O ko := fun v => h7.kpf (k2 v) (fun i e => by rintro (e1 | e1); exact hd.bo g9 hk9 (e1 ▸ e); exact hd.go (e1 ▸ e))
  have q3 : ∀ v, Cls (Z1.setCell ⟨g, 2, none⟩ v) g 78 #[.int .i64 s, .int .i64 m, v, va', vo'] := fun v => by simpa using cz.set 2 v
  refine ⟨fun hc => ⟨⟨_, va', vo', q3 _, ?_, q1 _, q2 _⟩, hd⟩, ⟨⟨_, va', vo', q3 _, ?_, q1 _, q2 _⟩, hd⟩⟩
  · have h0 : N = 0 := by
      rcases rz.val with ⟨e, _⟩ | ⟨_, _, _, e, _, _, hle, _⟩
      · cases e
      · cases e; omega
    have hL : L.drop 1 = [] := List.eq_nil_of_length_eq_zero (by omega)
    dsimp only
    rw [hL, h0]
    exact RA.bare hk9 (by rw [setCell_size]; exact rz.lt g9 hk9) of9 rfl
  · rw [← hN]
    exact rt.setOther ⟨g, 2, none⟩ _ hd.gb
set_option maxRecDepth 100000 in
set_option maxHeartbeats 4000000 in
theorem keepI_at (X : World) (g : Nat) (p : Pa Int) (kb ka ko : Option Nat) (h : IspI X g p kb ka ko) (s : Int) (w : ByteArray) (hn : p.b.length ≤ 4096) :
    Calls Try.prog 50 #[.pointer (some ⟨g, 0, none⟩), .agg #[.int .i64 s, .string w]] X fun y Y => y = .returned (.tuple #[]) ∧ ∃ kb', IspI Y g { p with b := keepP p.m p.b (s, w) } kb' ka ko ∧ Gr (FO g kb ka ko) X (FO g kb' ka ko) Y := by
  have k0 : KpF (fun _ => False) X ((X.alloc (.cells #[.int .i64 s, .string w] 103)).drew) := KpF.of (((Below.refl X.heap.size X).alloc (Nat.le_refl _) _).drew)
  have hB := Cls.new X 103 #[.int .i64 s, .string w]
  have hlt := h.lt
  obtain ⟨vb, va, vo, v', Y, k', h1, hr, h2, h3, h4, h5, h6, h7⟩ := pshBI _ g p kb ka ko (h.kpf k0 (fun _ _ e => e)) s w hn
  have hkeep : keepP p.m p.b (s, w) = if (p.b.length : Int) + 1 > p.m then (p.b ++ [(s, w)]).drop 1 else p.b ++ [(s, w)] := rfl
  generalize keepP p.m p.b (s, w) = KB at *
  have hNL : (p.b ++ [(s, w)]).length = p.b.length + 1 := by simp
  generalize p.b ++ [(s, w)] = L at *
  generalize p.b.length = N at *
  rw [hNL] at h5
  have HKB := hide hkeep
  clear hkeep
  have hB1 : Cls (X.alloc (.cells #[.int .i64 s, .string w] 103)).drew X.heap.size 103 #[.int .i64 s, .string w] := hB
  have hout : ¬ FO g kb ka ko X.heap.size := fun e => by have := hlt _ e; omega
  have hB2 := hB1.alloc (.cells #[.int .i64 s, .string w] 103)
  have h1a := h1.alloc (.cells #[.int .i64 s, .string w] 103)
  have hB3 := hB1.kpf h7 hout
  have HSX : Hid ((X.alloc (.cells #[.int .i64 s, .string w] 103)).drew.cell? ⟨g, 2, none⟩ = some vb ∧ (X.alloc (.cells #[.int .i64 s, .string w] 103)).drew.cell? ⟨X.heap.size, 0, none⟩ = some (.int .i64 s) ∧ (X.alloc (.cells #[.int .i64 s, .string w] 103)).drew.cell? ⟨X.heap.size, 1, none⟩ = some (.string w)) := hide ⟨(h1.cell 2).trans rfl, (hB1.cell 0).trans rfl, (hB1.cell 1).trans rfl⟩
  have HSA : Hid (((X.alloc (.cells #[.int .i64 s, .string w] 103)).drew.alloc (.cells #[.int .i64 s, .string w] 103)).cell? ⟨g, 2, none⟩ = some vb ∧ ((X.alloc (.cells #[.int .i64 s, .string w] 103)).drew.alloc (.cells #[.int .i64 s, .string w] 103)).cell? ⟨X.heap.size, 0, none⟩ = some (.int .i64 s) ∧ ((X.alloc (.cells #[.int .i64 s, .string w] 103)).drew.alloc (.cells #[.int .i64 s, .string w] 103)).cell? ⟨X.heap.size, 1, none⟩ = some (.string w)) := hide ⟨(h1a.cell 2).trans rfl, (hB2.cell 0).trans rfl, (hB2.cell 1).trans rfl⟩
  have HSY : Hid (Y.cell? ⟨g, 2, none⟩ = some vb ∧ Y.cell? ⟨X.heap.size, 0, none⟩ = some (.int .i64 s) ∧ Y.cell? ⟨X.heap.size, 1, none⟩ = some (.string w)) := hide ⟨(h2.cell 2).trans rfl, (hB3.cell 0).trans rfl, (hB3.cell 1).trans rfl⟩
  rw [show (X.alloc (.cells #[.int .i64 s, .string w] 103)).drew.heap.size = X.heap.size + 1 from World.size_alloc _ _] at hr
  obtain ⟨g9, of9, cp9, rfl, hk9, hg9, hc9, hr9, hl9⟩ := h5.form (by simp)
  have f2 := h2.frozen 2
  have R1 := hide hr
  have e2 : Y.cell? ⟨g, 2, none⟩ = some vb := (h2.cell 2).trans rfl
  have H3 := hide h3
  have H4 := hide h4
  have H5 := hide h5
  have H6 := hide h6
  have HK0 := hide k0
  clear h h1 hr h2 h3 h4 h5 h6 h7 hB hB1 hB2 hB3 h1a hout hlt k0
  go_enter Try.func50, Try.ntmps50
  go_upto_region 1 with fail
  refine regionL (S := fun z => z.cell? ⟨g, 2, none⟩ = some vb ∧ z.cell? ⟨X.heap.size, 0, none⟩ = some (.int .i64 s) ∧ z.cell? ⟨X.heap.size, 1, none⟩ = some (.string w)) (fun i => i == 10) (by kernel_rfl) ?_
  refine anyL_take (i := 0) (v := ?vq0) rfl (by kernel_rfl) (by kernel_rfl) (by kernel_rfl) (by kernel_rfl) (fun _ _ _ h => h) (Or.inl ⟨by rfl, ?hq0⟩) (unhide HSX) ?_
  case hq0 => (intro w hSw; (try dsimp only at hSw); go_simp) <;> with_reducible rfl
  simp only [Act.put, List.getElem_toArray, List.getElem_cons_zero, List.setIfInBounds_toArray, List.set_cons_zero, List.set_cons_succ]
  refine anyL_take (i := 1) (v := ?vq1) rfl (by kernel_rfl) (by kernel_rfl) (by kernel_rfl) (by kernel_rfl) (fun _ _ _ h => h) (Or.inl ⟨by rfl, ?hq1⟩) (unhide HSX) ?_
  case hq1 => (intro w hSw; (try dsimp only at hSw); go_simp) <;> with_reducible rfl
  simp only [Act.put, List.getElem_toArray, List.getElem_cons_zero, List.getElem_cons_succ, List.setIfInBounds_toArray, List.set_cons_zero, List.set_cons_succ]
  refine anyL_take (i := 2) (v := ?vq2) rfl (by kernel_rfl) (by kernel_rfl) (by kernel_rfl) (by kernel_rfl) (fun _ _ _ h => h) (Or.inl ⟨by rfl, ?hq2⟩) (unhide HSX) ?_
  case hq2 => (intro w hSw; (try dsimp only at hSw); go_simp) <;> with_reducible rfl
  simp only [Act.put, List.getElem_toArray, List.getElem_cons_zero, List.getElem_cons_succ, List.setIfInBounds_toArray, List.set_cons_zero, List.set_cons_succ]
  refine anyL_take (i := 3) (v := ?vq3) rfl (by kernel_rfl) (by kernel_rfl) (by kernel_rfl) (by kernel_rfl) (fun _ _ _ h => h) (Or.inl ⟨by rfl, ?hq3⟩) (unhide HSX) ?_
  case hq3 => (intro w hSw; (try dsimp only at hSw); go_simp) <;> with_reducible rfl
  simp only [Act.put, List.getElem_toArray, List.getElem_cons_zero, List.getElem_cons_succ, List.setIfInBounds_toArray, List.set_cons_zero, List.set_cons_succ]
  refine anyL_take (i := 4) (v := ?vq4) rfl (by kernel_rfl) (by kernel_rfl) (by kernel_rfl) (by kernel_rfl) (fun _ _ _ h => h) (Or.inl ⟨by rfl, ?hq4⟩) (unhide HSX) ?_
  case hq4 => (intro w hSw; (try dsimp only at hSw); go_simp) <;> with_reducible rfl
  simp only [Act.put, List.getElem_toArray, List.getElem_cons_zero, List.getElem_cons_succ, List.setIfInBounds_toArray, List.set_cons_zero, List.set_cons_succ]
  refine anyL_take (i := 5) (v := ?vq5) rfl (by kernel_rfl) (by kernel_rfl) (by kernel_rfl) (by kernel_rfl) (fun _ _ _ h => h) (Or.inl ⟨by rfl, ?hq5⟩) (unhide HSX) ?_
  case hq5 => (intro w hSw; (try dsimp only at hSw); go_simp) <;> with_reducible rfl
  simp only [Act.put, List.getElem_toArray, List.getElem_cons_zero, List.getElem_cons_succ, List.setIfInBounds_toArray, List.set_cons_zero, List.set_cons_succ]
  refine anyL_ready (rs := [6]) (by kernel_rfl) (by simp) ?_
  refine AllL.cons rfl (fun K hK => ?_) AllL.nil
  go_simp
  refine unhide hK _ _ (fun _ => unhide HSA) ?_
  clear hK K
  refine anyL_ready (rs := [7]) (by kernel_rfl) (by simp) ?_
  refine AllL.cons rfl (fun K hK => ?_) AllL.nil
  refine step_append_in rfl _ _ 75 75 rfl _ _ rfl rfl _ _ (unhide R1) ?_
  go_simp
  clear R1
  refine unhide hK _ _ (fun _ => unhide HSY) ?_
  clear hK K
  refine anyL_take (i := 8) (v := ?vq6) rfl (by kernel_rfl) (by kernel_rfl) (by kernel_rfl) (by kernel_rfl) (fun _ _ _ h => h) (Or.inl ⟨by rfl, ?hq6⟩) (unhide HSY) ?_
  case hq6 => (intro w hSw; (try dsimp only at hSw); go_simp) <;> with_reducible rfl
  simp only [Act.put, List.getElem_toArray, List.getElem_cons_zero, List.getElem_cons_succ, List.setIfInBounds_toArray, List.set_cons_zero, List.set_cons_succ]
  refine anyL_take (i := 9) (v := ?vq7) rfl (by kernel_rfl) (by kernel_rfl) (by kernel_rfl) (by kernel_rfl) (fun _ _ _ h => h) (Or.inl ⟨by rfl, ?hq7⟩) (unhide HSY) ?_
  case hq7 => (intro w hSw; (try dsimp only at hSw); go_simp) <;> with_reducible rfl
  simp only [Act.put, List.getElem_toArray, List.getElem_cons_zero, List.getElem_cons_succ, List.setIfInBounds_toArray, List.set_cons_zero, List.set_cons_succ]
  refine anyL_ready (rs := [10]) (by kernel_rfl) (by simp) ?_
  refine AllL.cons rfl (fun K hK => ?_) AllL.nil
  go_simp
  refine unhide hK _ _ (fun h => by cases h) ?_
  clear hK K
  refine anyL_done (by kernel_rfl) ?_ _
  clear HSX HSA HSY f2 e2 hr9 hl9 hg9
  generalize Y.setCell ⟨g, 2, none⟩ (.slice (some ⟨g9, of9, none⟩) (N + 1) cp9) = Z at *
  have m0 : Z.cell? ⟨g, 1, none⟩ = some (.int .i64 p.m) := ((unhide H4).cell 1).trans rfl
  have b0 : Z.cell? ⟨g, 2, none⟩ = some (.slice (some ⟨g9, of9, none⟩) (N + 1) cp9) := ((unhide H4).cell 2).trans rfl
  have wN : wrap64 ((N : Int) + 1) = (N : Int) + 1 := wrapPI _ (by omega) (by omega)
  have HR0 : Hid (Gr (FO g kb ka ko) X (FO g k' ka ko) Z) := hide ⟨(((unhide HK0).mono (fun _ _ e => e.elim)).trans (unhide H6).kp (fun _ _ e => e)), fun i hi => by
      rcases (unhide H6).new i hi with e | e
      · exact .inl e
      · exact .inr (Nat.le_trans (unhide HK0).size e)⟩
  have HR : Hid (Gr (FO g kb ka ko) X (FO g k' ka ko) Z.drew) := hide ⟨(((unhide HK0).mono (fun _ _ e => e.elim)).trans (unhide H6).kp (fun _ _ e => e)).trans (kpf_drew Z) (fun _ _ e => e.elim), fun i hi => by
      rcases (unhide H6).new i hi with e | e
      · exact .inl e
      · exact .inr (Nat.le_trans (unhide HK0).size e)⟩
  go_upto_region 2 with fail
  go_region
  by_cases hm : (N : Int) + 1 > p.m
  · have t1 : decide ((N : Int) + 1 > p.m) = true := decide_eq_true hm
    have t1' : decide (p.m < (N : Int) + 1) = true := decide_eq_true hm
    obtain ⟨_, _, _, e9, _, hg9, _, hr9, hl9⟩ := (unhide H5).form (by omega)
    cases e9
    have HD := hide (unhide H3).d
    have q0 := hr9 0 (by omega)
    have f0 := q0.2
    obtain ⟨u0, e0⟩ := Option.isSome_iff_exists.1 q0.1
    simp only [Nat.add_zero] at e0 f0
    have q1 := hr9 1 (by omega)
    have f1 := q1.2
    obtain ⟨u1, e1⟩ := Option.isSome_iff_exists.1 q1.1
    have tc1 : ¬ ((1 : Int) > cp9) := by omega
    clear hr9 hl9 hm hg9 q0 q1
    rw [t1']
    go_upto_region 4 with fail
    have hne : g9 ≠ g := fun e => (unhide HD).gb (hk9 ▸ e ▸ rfl)
    have kz0 := KpF.set (F := fun i => i = g9) Z ⟨g9, of9, none⟩ (.int .i64 0) rfl
    have rz0 := (unhide H5).set 0 (.int .i64 0) (by omega)
    have kz1 := KpF.set (F := fun i => i = g9) (Z.setCell ⟨g9, of9, none⟩ (.int .i64 0)) ⟨g9, of9 + 1, none⟩ (.string ⟨#[]⟩) rfl
    have rz1 := rz0.set 1 (.string ⟨#[]⟩) (by omega)
    simp only [Nat.add_zero] at rz1
    have kzz : KpF (fun i => i = g9) Z (((Z.setCell ⟨g9, of9, none⟩ (.int .i64 0)).setCell ⟨g9, of9 + 1, none⟩ (.string ⟨#[]⟩)).drew) := (kz0.trans kz1 (fun _ _ e => e)) |>.trans (kpf_drew _) (fun _ _ e => e.elim)
    have rzz := rz1.kpf (kpf_drew _) (fun _ _ e => e)
    have czz := (unhide H4).kpf kzz (fun e => hne e.symm)
    have hxx : (((stI L).set 0 (.int .i64 0)).set 1 (.string ⟨#[]⟩)).drop 2 = stI (L.drop 1) := by
      rw [List.drop_set_of_lt (by omega), List.drop_set_of_lt (by omega)]; exact fm_drop _ 2 (fun _ => rfl) L
    have HTT := hide (tailI (unhide H3) (unhide H4) kzz czz rzz hxx hk9 (by rw [List.length_drop, hNL]; omega))
    have HG1 : Hid (∀ v, Gr (FO g kb ka ko) X (FO g k' ka ko) (((Z.setCell ⟨g9, of9, none⟩ (.int .i64 0)).setCell ⟨g9, of9 + 1, none⟩ (.string ⟨#[]⟩)).drew.setCell ⟨g, 2, none⟩ v)) := hide fun v => (unhide HR0).trans ⟨(kzz.mono (G := FO g k' ka ko) (fun i _ e => by rw [e]; exact .inr (.inl hk9))).trans (KpF.set _ ⟨g, 2, none⟩ v (.inl rfl)) (fun _ _ e => e), fun _ h => .inl h⟩
    have HCZ := hide czz
    clear kz0 rz0 kz1 rz1 hne e0 f0 e1 f1 m0 b0 H4 H5 HR HR0 HD H3 H6 HK0 kzz rzz czz hxx
    generalize ((Z.setCell ⟨g9, of9, none⟩ (.int .i64 0)).setCell ⟨g9, of9 + 1, none⟩ (.string ⟨#[]⟩)).drew = Z1 at *
    have b0 : Z1.cell? ⟨g, 2, none⟩ = some (.slice (some ⟨g9, of9, none⟩) (N + 1) cp9) := ((unhide HCZ).cell 2).trans rfl
    have f0 := (unhide HCZ).frozen 2
    have HKB2 : KB = L.drop 1 := (unhide HKB).trans (if_pos (by simpa using t1))
    by_cases hc1 : cp9 = 1
    · subst hc1
      obtain rfl : N = 0 := by omega
      have HI : Hid (IspI (Z1.setCell ⟨g, 2, none⟩ (.slice (some ⟨g9, of9, none⟩) 0 0)) g ⟨p.s, p.m, KB, p.a, p.o⟩ k' ka ko) := hide (by rw [HKB2]; exact (unhide HTT).1 rfl)
      have HG := hide (unhide HG1 (.slice (some ⟨g9, of9, none⟩) 0 0))
      clear HTT HG1 HKB HKB2
      go_wp2_with fail
      exact bodyPost_end (v := .tuple #[]) (results_none Try.results50 _ _ _) rfl ⟨rfl, _, unhide HI, unhide HG⟩
    · have hc2 : ¬ (cp9 - 1 = 0) := by omega
      have HI : Hid (IspI (Z1.setCell ⟨g, 2, none⟩ (.slice (some ⟨g9, of9 + 2, none⟩) N (cp9 - 1))) g ⟨p.s, p.m, KB, p.a, p.o⟩ k' ka ko) := hide (by rw [HKB2]; exact (unhide HTT).2)
      have HG := hide (unhide HG1 (.slice (some ⟨g9, of9 + 2, none⟩) N (cp9 - 1)))
      clear HTT HG1 HKB HKB2
      go_wp2_with fail
      exact bodyPost_end (v := .tuple #[]) (results_none Try.results50 _ _ _) rfl ⟨rfl, _, unhide HI, unhide HG⟩
  · have HI : Hid (IspI Z g ⟨p.s, p.m, KB, p.a, p.o⟩ k' ka ko) := hide (by rw [unhide HKB, if_neg hm]; exact unhide H3)
    have HID := hide ((unhide HI).kpf (kpf_drew Z) (fun _ _ e => e))
    have t1 : decide ((N : Int) + 1 > p.m) = false := decide_eq_false hm
    have t1' : decide (p.m < (N : Int) + 1) = false := decide_eq_false hm
    clear H4 H5 H6 HK0 hm
    rw [t1']
    go_wp2_with fail
    exact bodyPost_end (v := .tuple #[]) (results_none Try.results50 _ _ _) rfl ⟨rfl, _, unhide HID, unhide HR⟩
theorem frontBI (X : World) (g : Nat) (p : Pa Int) (kb ka ko : Option Nat) (h : IspI X g p kb ka ko) (Q : List (Int × ByteArray)) (s : Int) (w : ByteArray) (hp : p.b = Q ++ [(s, w)]) (N : Nat) (hN : Q.length = N) :
    ∃ vb va vo gb of cap, kb = some gb ∧ Cls X g 78 #[.int .i64 p.s, .int .i64 p.m, vb, va, vo] ∧ vb = .slice (some ⟨gb, of, none⟩) (N + 1) cap ∧ N + 1 ≤ cap ∧ (X.cell? ⟨gb, of + N * 2, none⟩ = some (.int .i64 s) ∧ X.cell? ⟨gb, of + N * 2 + 1, none⟩ = some (.string w)) ∧ (X.frozen? ⟨gb, of + N * 2, none⟩ = false ∧ X.frozen? ⟨gb, of + N * 2 + 1, none⟩ = false) ∧ gb ≠ g ∧
      ∀ X1, KpF (fun _ => False) X X1 → IspI (((X1.setCell ⟨gb, of + N * 2, none⟩ (.int .i64 0)).setCell ⟨gb, of + N * 2 + 1, none⟩ (.string ⟨#[]⟩)).setCell ⟨g, 2, none⟩ (.slice (some ⟨gb, of, none⟩) N cap)) g { p with b := Q } kb ka ko ∧ KpF (FO g kb ka ko) X1 (((X1.setCell ⟨gb, of + N * 2, none⟩ (.int .i64 0)).setCell ⟨gb, of + N * 2 + 1, none⟩ (.string ⟨#[]⟩)).setCell ⟨g, 2, none⟩ (.slice (some ⟨gb, of, none⟩) N cap)) := by
  obtain ⟨vb, va, vo, h1, h2, h3, h4⟩ := h.c
  have hd := h.d
  have hl : (Q ++ [(s, w)]).length = N + 1 := by simp [hN]
  rw [hp, hl] at h2
  obtain ⟨gb, of, cap, rfl, hk, hg, hc, hroom, hcell⟩ := h2.form (by omega)
  have hget : ∀ j, j < 2 → N * 2 + j < (N + 1) * 2 := fun j hj => by rw [Nat.add_mul]; omega
  have hidx : N < (Q ++ [(s, w)]).length := by omega
  have hlast : (Q ++ [(s, w)])[N]'hidx = (s, w) := by subst hN; simp
  have hne : gb ≠ g := fun e => hd.gb (e ▸ hk)
  have hcap : ∀ j, j < 2 → N * 2 + j < cap * 2 := fun j hj => Nat.lt_of_lt_of_le (hget j hj) (Nat.mul_le_mul_right _ hc)
  refine ⟨_, _, _, gb, of, cap, hk, h1, rfl, hc, ⟨by have := (hcell _ (hget 0 (by omega))).trans (stI_get0 _ N hidx); rw [hlast] at this; rw [Nat.add_zero] at this; exact this, by have := (hcell _ (hget 1 (by omega))).trans (stI_get1 _ N hidx); rw [hlast] at this; rw [← Nat.add_assoc] at this; exact this⟩, ⟨by have := (hroom _ (hcap 0 (by omega))).2; rw [Nat.add_zero] at this; exact this, by have := (hroom _ (hcap 1 (by omega))).2; rw [← Nat.add_assoc] at this; exact this⟩, hne, fun X1 k1 => ?_⟩
  have r0 := h2.kpf k1 (fun _ _ e => e)
  have r1 := r0.set (N * 2) (.int .i64 0) (by have := hget 0 (by omega); omega)
  have r2 := r1.set (N * 2 + 1) (.string ⟨#[]⟩) (by have := hget 1 (by omega); omega)
  have rf := r2.front
  have hx : (((stI (Q ++ [(s, w)])).set (N * 2) (.int .i64 0)).set (N * 2 + 1) (.string ⟨#[]⟩)).take (N * 2) = stI Q := by
    rw [List.take_set_of_le (by omega), List.take_set_of_le (by omega)]
    have := fm_take (fun x : Int × ByteArray => ([.int .i64 x.1, .string x.2] : List Value)) 2 (fun _ => rfl) N (Q ++ [(s, w)])
    rw [← hN, List.take_left] at this
    rw [← hN]
    exact this
  rw [← Nat.add_assoc] at rf
  rw [hx, ← hN] at rf
  have k2 : KpF (fun i => i = gb ∨ i = g) X1 ((X1.setCell ⟨gb, of + N * 2, none⟩ (.int .i64 0)).setCell ⟨gb, of + N * 2 + 1, none⟩ (.string ⟨#[]⟩)) := ((KpF.refl (fun i => i = gb ∨ i = g) X1).trans (KpF.set (F := fun i => i = gb ∨ i = g) X1 ⟨gb, of + N * 2, none⟩ (.int .i64 0) (.inl rfl)) (fun _ _ e => e)).trans (KpF.set (F := fun i => i = gb ∨ i = g) (X1.setCell ⟨gb, of + N * 2, none⟩ (.int .i64 0)) ⟨gb, of + N * 2 + 1, none⟩ (.string ⟨#[]⟩) (.inl rfl)) (fun _ _ e => e)
  have k3 : KpF (fun i => i = gb ∨ i = g) X1 (((X1.setCell ⟨gb, of + N * 2, none⟩ (.int .i64 0)).setCell ⟨gb, of + N * 2 + 1, none⟩ (.string ⟨#[]⟩)).setCell ⟨g, 2, none⟩ (.slice (some ⟨gb, of, none⟩) N cap)) := k2.trans (KpF.set _ ⟨g, 2, none⟩ _ (.inr rfl)) (fun _ _ e => e)
  have k4 : KpF (fun i => i = gb ∨ i = g) X (((X1.setCell ⟨gb, of + N * 2, none⟩ (.int .i64 0)).setCell ⟨gb, of + N * 2 + 1, none⟩ (.string ⟨#[]⟩)).setCell ⟨g, 2, none⟩ (.slice (some ⟨gb, of, none⟩) N cap)) := (k1.mono (fun _ _ e => e.elim)).trans k3 (fun _ _ e => e)
  have kc : KpF (fun i => i = gb) X ((X1.setCell ⟨gb, of + N * 2, none⟩ (.int .i64 0)).setCell ⟨gb, of + N * 2 + 1, none⟩ (.string ⟨#[]⟩)) := by
    refine (k1.mono (fun _ _ e => e.elim)).trans ?_ (fun _ _ e => e)
    exact ((KpF.refl (fun i => i = gb) X1).trans (KpF.set (F := fun i => i = gb) X1 ⟨gb, of + N * 2, none⟩ (.int .i64 0) rfl) (fun _ _ e => e)).trans (KpF.set (F := fun i => i = gb) (X1.setCell ⟨gb, of + N * 2, none⟩ (.int .i64 0)) ⟨gb, of + N * 2 + 1, none⟩ (.string ⟨#[]⟩) rfl) (fun _ _ e => e)
  have hC := (h1.kpf kc (fun e => hne e.symm)).set 2 (.slice (some ⟨gb, of, none⟩) N cap)
  refine ⟨⟨⟨_, _, _, by simpa using hC, by rw [← hN]; exact rf.setOther ⟨g, 2, none⟩ _ hd.gb, h3.kpf k4 (fun i e => by rintro (e1 | e1); exact hd.ba gb hk (e1 ▸ e); exact hd.ga (e1 ▸ e)), h4.kpf k4 (fun i e => by rintro (e1 | e1); exact hd.bo gb hk (e1 ▸ e); exact hd.go (e1 ▸ e))⟩, hd⟩, k3.mono (fun i _ e => ?_)⟩
  rcases e with e | e
  · exact .inr (.inl (e ▸ hk))
  · exact .inl e
theorem frontAI (X : World) (g : Nat) (p : Pa Int) (kb ka ko : Option Nat) (h : IspI X g p kb ka ko) (Q : List (Int × ByteArray)) (s : Int) (w : ByteArray) (hp : p.a = Q ++ [(s, w)]) (N : Nat) (hN : Q.length = N) :
    ∃ vb va vo gb of cap, ka = some gb ∧ Cls X g 78 #[.int .i64 p.s, .int .i64 p.m, vb, va, vo] ∧ va = .slice (some ⟨gb, of, none⟩) (N + 1) cap ∧ N + 1 ≤ cap ∧ (X.cell? ⟨gb, of + N * 2, none⟩ = some (.int .i64 s) ∧ X.cell? ⟨gb, of + N * 2 + 1, none⟩ = some (.string w)) ∧ (X.frozen? ⟨gb, of + N * 2, none⟩ = false ∧ X.frozen? ⟨gb, of + N * 2 + 1, none⟩ = false) ∧ gb ≠ g ∧
      ∀ X1, KpF (fun _ => False) X X1 → IspI (((X1.setCell ⟨gb, of + N * 2, none⟩ (.int .i64 0)).setCell ⟨gb, of + N * 2 + 1, none⟩ (.string ⟨#[]⟩)).setCell ⟨g, 3, none⟩ (.slice (some ⟨gb, of, none⟩) N cap)) g { p with a := Q } kb ka ko ∧ KpF (FO g kb ka ko) X1 (((X1.setCell ⟨gb, of + N * 2, none⟩ (.int .i64 0)).setCell ⟨gb, of + N * 2 + 1, none⟩ (.string ⟨#[]⟩)).setCell ⟨g, 3, none⟩ (.slice (some ⟨gb, of, none⟩) N cap)) := by
  obtain ⟨vb, va, vo, h1, h2, h3, h4⟩ := h.c
  have hd := h.d
  have hl : (Q ++ [(s, w)]).length = N + 1 := by simp [hN]
  rw [hp, hl] at h3
  obtain ⟨gb, of, cap, rfl, hk, hg, hc, hroom, hcell⟩ := h3.form (by omega)
  have hget : ∀ j, j < 2 → N * 2 + j < (N + 1) * 2 := fun j hj => by rw [Nat.add_mul]; omega
  have hidx : N < (Q ++ [(s, w)]).length := by omega
  have hlast : (Q ++ [(s, w)])[N]'hidx = (s, w) := by subst hN; simp
  have hne : gb ≠ g := fun e => hd.ga (e ▸ hk)
  have hcap : ∀ j, j < 2 → N * 2 + j < cap * 2 := fun j hj => Nat.lt_of_lt_of_le (hget j hj) (Nat.mul_le_mul_right _ hc)
  refine ⟨_, _, _, gb, of, cap, hk, h1, rfl, hc, ⟨by have := (hcell _ (hget 0 (by omega))).trans (stI_get0 _ N hidx); rw [hlast] at this; rw [Nat.add_zero] at this; exact this, by have := (hcell _ (hget 1 (by omega))).trans (stI_get1 _ N hidx); rw [hlast] at this; rw [← Nat.add_assoc] at this; exact this⟩, ⟨by have := (hroom _ (hcap 0 (by omega))).2; rw [Nat.add_zero] at this; exact this, by have := (hroom _ (hcap 1 (by omega))).2; rw [← Nat.add_assoc] at this; exact this⟩, hne, fun X1 k1 => ?_⟩
  have r0 := h3.kpf k1 (fun _ _ e => e)
  have r1 := r0.set (N * 2) (.int .i64 0) (by have := hget 0 (by omega); omega)
  have r2 := r1.set (N * 2 + 1) (.string ⟨#[]⟩) (by have := hget 1 (by omega); omega)
  have rf := r2.front
  have hx : (((stI (Q ++ [(s, w)])).set (N * 2) (.int .i64 0)).set (N * 2 + 1) (.string ⟨#[]⟩)).take (N * 2) = stI Q := by
    rw [List.take_set_of_le (by omega), List.take_set_of_le (by omega)]
    have := fm_take (fun x : Int × ByteArray => ([.int .i64 x.1, .string x.2] : List Value)) 2 (fun _ => rfl) N (Q ++ [(s, w)])
    rw [← hN, List.take_left] at this
    rw [← hN]
    exact this
  rw [← Nat.add_assoc] at rf
  rw [hx, ← hN] at rf
  have k2 : KpF (fun i => i = gb ∨ i = g) X1 ((X1.setCell ⟨gb, of + N * 2, none⟩ (.int .i64 0)).setCell ⟨gb, of + N * 2 + 1, none⟩ (.string ⟨#[]⟩)) := ((KpF.refl (fun i => i = gb ∨ i = g) X1).trans (KpF.set (F := fun i => i = gb ∨ i = g) X1 ⟨gb, of + N * 2, none⟩ (.int .i64 0) (.inl rfl)) (fun _ _ e => e)).trans (KpF.set (F := fun i => i = gb ∨ i = g) (X1.setCell ⟨gb, of + N * 2, none⟩ (.int .i64 0)) ⟨gb, of + N * 2 + 1, none⟩ (.string ⟨#[]⟩) (.inl rfl)) (fun _ _ e => e)
  have k3 : KpF (fun i => i = gb ∨ i = g) X1 (((X1.setCell ⟨gb, of + N * 2, none⟩ (.int .i64 0)).setCell ⟨gb, of + N * 2 + 1, none⟩ (.string ⟨#[]⟩)).setCell ⟨g, 3, none⟩ (.slice (some ⟨gb, of, none⟩) N cap)) := k2.trans (KpF.set _ ⟨g, 3, none⟩ _ (.inr rfl)) (fun _ _ e => e)
  have k4 : KpF (fun i => i = gb ∨ i = g) X (((X1.setCell ⟨gb, of + N * 2, none⟩ (.int .i64 0)).setCell ⟨gb, of + N * 2 + 1, none⟩ (.string ⟨#[]⟩)).setCell ⟨g, 3, none⟩ (.slice (some ⟨gb, of, none⟩) N cap)) := (k1.mono (fun _ _ e => e.elim)).trans k3 (fun _ _ e => e)
  have kc : KpF (fun i => i = gb) X ((X1.setCell ⟨gb, of + N * 2, none⟩ (.int .i64 0)).setCell ⟨gb, of + N * 2 + 1, none⟩ (.string ⟨#[]⟩)) := by
    refine (k1.mono (fun _ _ e => e.elim)).trans ?_ (fun _ _ e => e)
    exact ((KpF.refl (fun i => i = gb) X1).trans (KpF.set (F := fun i => i = gb) X1 ⟨gb, of + N * 2, none⟩ (.int .i64 0) rfl) (fun _ _ e => e)).trans (KpF.set (F := fun i => i = gb) (X1.setCell ⟨gb, of + N * 2, none⟩ (.int .i64 0)) ⟨gb, of + N * 2 + 1, none⟩ (.string ⟨#[]⟩) rfl) (fun _ _ e => e)
  have hC := (h1.kpf kc (fun e => hne e.symm)).set 3 (.slice (some ⟨gb, of, none⟩) N cap)
  refine ⟨⟨⟨_, _, _, by simpa using hC, h2.kpf k4 (fun i e => by rintro (e1 | e1); exact hd.ba gb (e1 ▸ e) hk; exact hd.gb (e1 ▸ e)), by rw [← hN]; exact rf.setOther ⟨g, 3, none⟩ _ hd.ga, h4.kpf k4 (fun i e => by rintro (e1 | e1); exact hd.ao gb hk (e1 ▸ e); exact hd.go (e1 ▸ e))⟩, hd⟩, k3.mono (fun i _ e => ?_)⟩
  rcases e with e | e
  · exact .inr (.inr (.inl (e ▸ hk)))
  · exact .inl e
end Go.Proofs.Ytdemfejladepjaa
