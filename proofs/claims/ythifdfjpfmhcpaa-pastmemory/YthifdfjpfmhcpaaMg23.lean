/- Layer 17: PastMemory: lists of words that lie apart, written and grown. -/
import Derived.Test.YthifdfjpfmhcpaaMg22

namespace Go.Proofs.Ythifdfjpfmhcpaa
open Go.ChangeShapes Go.WideShapes Go.ChangeAt Go.RowKit

set_option maxRecDepth 100000 in
/-- a word more: the list as it was is still there -/
theorem growW {X : World} {v : Value} {l : List ByteArray} {k : Option Nat} (h : RS X v l k) (w : ByteArray) (hn : l.length ≤ 1000000) :
    ∃ v' Y k', (Builtin.append_ #[37, 37] 37 #[v, .slice (some ⟨X.heap.size, 0, none⟩) 1 1]).run Try.prog (X.alloc (.cells #[.string w] 9)) = .ok v' Y ∧ RS Y v' (l ++ [w]) k' ∧ KpF (fun b => k = some b) X Y ∧
      ((k' = k ∧ k ≠ none ∧ ∃ g off cap, v = .slice (some ⟨g, off, none⟩) l.length cap ∧ v' = .slice (some ⟨g, off, none⟩) (l.length + 1) cap) ∨ (∃ h, k' = some h ∧ X.heap.size ≤ h) ∧ KpF (fun _ => False) X Y) := by
  have hX : (X.alloc (.cells #[.string w] 9)).heap.size = X.heap.size + 1 := World.size_alloc _ _
  have h1 : RA (X.alloc (.cells #[.string w] 9)) 1 v l.length (l.map Value.string) k := RA.allocd h _
  have hsrc : Src Try.prog 1 37 (.slice (some ⟨X.heap.size, 0, none⟩) 1 1) 1 [.string w] (X.alloc (.cells #[.string w] 9)) := Src.ofSlice _ Try.underlying37 ⟨X.heap.size, 0, none⟩ 1 1 [.string w] rfl (fun j u hj => by
      rw [Addr.add_lit, Nat.zero_add]
      refine (World.cell?_alloc_mark X _ _ (0, 0) j).trans ?_
      rw [List.getElem?_toArray]; exact hj) (fun u hu => by
      simp only [List.mem_cons, List.not_mem_nil, or_false] at hu
      rcases hu with rfl; rfl)
  by_cases hroom : ∃ g off cap, v = .slice (some ⟨g, off, none⟩) l.length cap ∧ l.length + 1 ≤ cap
  · obtain ⟨g, off, cap, e, hr⟩ := hroom
    obtain ⟨v', Y, k', hrun, h2, h3, h4⟩ := pushW h w hn
    refine ⟨v', Y, k', hrun, h2, h3, .inl ?_⟩
    subst e
    have hk : k = some g := by
      rcases RA.val h with ⟨e, _⟩ | ⟨_, _, _, e, e2, _⟩
      · cases e
      · cases e; exact e2
    have hc : ∀ j, j < cap * 1 → ((X.alloc (.cells #[.string w] 9)).cell? ⟨g, off + j, none⟩).isSome = true ∧ (X.alloc (.cells #[.string w] 9)).frozen? ⟨g, off + j, none⟩ = false := by
      rcases h1.val with ⟨e, _⟩ | ⟨_, _, _, e, _, _, _, hc, _⟩
      · cases e
      · cases e; exact hc
    have hrun2 := run_append_room_src (P := Try.prog) (X.alloc (.cells #[.string w] 9)) 37 37 37 9 _ Try.underlying37 rfl g off l.length cap (.slice (some ⟨X.heap.size, 0, none⟩) 1 1) 1 [.string w] hsrc hr (fun j hj => by
        have hj0 : j = 0 := by simpa using hj
        subst hj0
        exact (hc (l.length * 1 + 0) (by omega)).1) (fun j hj => by
        have hj0 : j = 0 := by simpa using hj
        subst hj0
        exact (hc (l.length * 1 + 0) (by omega)).2)
    rw [hrun] at hrun2
    injection hrun2 with e1 e2
    refine ⟨?_, by rw [hk]; simp, g, off, cap, rfl, e1⟩
    subst e1
    rcases RA.val h2 with ⟨e, _⟩ | ⟨_, _, _, e, e2, _⟩
    · cases e
    · injection e with e _ _
      injection e with e
      injection e with e _ _
      rw [e2, hk, e]
  · have hold : (Builtin.firstCells 1 l.length v).run Try.prog (X.alloc (.cells #[.string w] 9)).drew = .ok (l.map Value.string).toArray (X.alloc (.cells #[.string w] 9)).drew ∧ ∃ b c, v = .slice b l.length c ∧ c < l.length + 1 := by
      rcases h1.val with ⟨e, e2, _⟩ | ⟨g, off, cap, e, _, _, hnc, _, hc⟩
      · have hl : l = [] := List.eq_nil_of_length_eq_zero e2
        subst hl
        rw [e]
        exact ⟨run_firstCells_none _ 1 0 0 0, none, 0, rfl, by simp⟩
      · have hlt : cap < l.length + 1 := by
          rcases Nat.lt_or_ge cap (l.length + 1) with h' | h'
          · exact h'
          · exact absurd ⟨g, off, cap, e, h'⟩ hroom
        rw [e]
        refine ⟨run_firstCells_some _ 1 l.length ⟨g, off, none⟩ l.length cap (l.map Value.string) (by simp) (fun j u hu => ?_), _, _, rfl, hlt⟩
        have hj : j < l.length := by simpa using (List.getElem?_eq_some_iff.1 hu).1
        rw [Addr.add_lit]
        show (X.alloc (.cells #[.string w] 9)).cell? ⟨g, off + j, none⟩ = _
        rw [hc j (by omega), hu]
    obtain ⟨hold, b, c, rfl, hc⟩ := hold
    obtain ⟨v', Y, k', hrun, h2, h3, h4⟩ := pushW h w hn
    have hrun2 := run_append_grow_src (P := Try.prog) (X.alloc (.cells #[.string w] 9)) 37 37 37 9 _ (.string ⟨#[]⟩) Try.underlying37 rfl rfl b l.length c (l.map Value.string) hold (.slice (some ⟨X.heap.size, 0, none⟩) 1 1) 1 [.string w] hsrc hc (by omega) (growslice_fits (by omega) (by show (l.length + 1) * 16 ≤ _; omega))
    rw [hrun] at hrun2
    injection hrun2 with e1 e2
    refine ⟨v', Y, k', hrun, h2, h3, .inr ⟨⟨X.heap.size + 1, ?_, by omega⟩, ?_⟩⟩
    · subst e1
      rcases RA.val h2 with ⟨e, _⟩ | ⟨_, _, _, e, e3, _⟩
      · cases e
      · injection e with e _ _
        injection e with e
        injection e with e _ _
        rw [e3, ← e, hX]
    · subst e2
      exact KpF.of ((((Below.refl X.heap.size X).alloc (Nat.le_refl _) _).drew).alloc (by rw [show (X.alloc (.cells #[.string w] 9)).drew.heap.size = X.heap.size + 1 from hX]; omega) _)

/-- what holds in PastMemory: the past, the kept words, the list of lists (its first n entries are V 0, V 1 ..), the lists V i where D i, all apart -/
structure MeI (w : World) (F : Nat → Prop) (g : Nat) (P : Pa Int) (vB vA : Value) (LB LA : List ByteArray) (kB kA : Option Nat) (X : World) (n : Nat) (vAll : Value) (kAll : Option Nat) (D : Nat → Prop) (V : Nat → Value) (K : Nat → Option Nat) (C : Nat → List ByteArray) : Prop where
  p : PsI X F g P
  b : Below w.heap.size w X
  fB : RS X vB LB kB
  fA : RS X vA LA kA
  row : RA X 1 vAll n ((List.range n).map V) kAll
  el : ∀ i, D i → RS X (V i) (C i) (K i)
  ap : ∀ i j, D i → D j → i ≠ j → ∀ h, K i = some h → K j ≠ some h
  ou : ∀ i, D i → ∀ h, K i = some h → ¬ F h ∧ kAll ≠ some h ∧ kB ≠ some h ∧ kA ≠ some h ∧ w.heap.size ≤ h
  al : ∀ h, kAll = some h → ¬ F h ∧ kB ≠ some h ∧ kA ≠ some h ∧ w.heap.size ≤ h
section
variable {w : World} {F : Nat → Prop} {g : Nat} {P : Pa Int} {vB vA : Value} {LB LA : List ByteArray} {kB kA : Option Nat} {X : World} {n : Nat} {vAll : Value} {kAll : Option Nat} {D : Nat → Prop} {V : Nat → Value} {K : Nat → Option Nat} {C : Nat → List ByteArray}
theorem MeI.below (h : MeI w F g P vB vA LB LA kB kA X n vAll kAll D V K C) {Y : World} (x : Below X.heap.size X Y) : MeI w F g P vB vA LB LA kB kA Y n vAll kAll D V K C :=
  ⟨h.p.below x, h.b.trans (x.mono h.b.size), h.fB.below x, h.fA.below x, h.row.kpf (F := fun _ => False) (KpF.of x) (fun _ _ e => e), fun i hi => (h.el i hi).below x, h.ap, h.ou, h.al⟩
/-- two new lists -/
theorem MeI.add (h : MeI w F g P vB vA LB LA kB kA X n vAll kAll D V K C) {Y : World} (x : Below X.heap.size X Y) {v1 v2 : Value} {l1 l2 : List ByteArray} {k1 k2 : Option Nat} (r1 : RS Y v1 l1 k1) (r2 : RS Y v2 l2 k2) (h1 : ∀ i, k1 = some i → X.heap.size ≤ i) (h2 : ∀ i, k2 = some i → X.heap.size ≤ i) (h12 : ∀ i, k1 = some i → k2 ≠ some i)
    (m : Nat) (hm : n ≤ m) (hD1 : ¬ D m) (hD2 : ¬ D (m + 1)) :
    MeI w F g P vB vA LB LA kB kA Y n vAll kAll (fun i => D i ∨ i = m ∨ i = m + 1) (fun i => if i = m then v1 else if i = m + 1 then v2 else V i) (fun i => if i = m then k1 else if i = m + 1 then k2 else K i) (fun i => if i = m then l1 else if i = m + 1 then l2 else C i) := by
  have hlt : ∀ i, D i → ∀ j, K i = some j → j < X.heap.size := fun i hi j e => RA.lt (h.el i hi) j e
  have hn : ∀ j, X.heap.size ≤ j → ¬ F j ∧ kAll ≠ some j ∧ kB ≠ some j ∧ kA ≠ some j ∧ w.heap.size ≤ j := fun j hj =>
    ⟨fun e => by have := h.p.lt j e; omega, fun e => by have := h.row.lt j e; omega, fun e => by have := RA.lt h.fB j e; omega, fun e => by have := RA.lt h.fA j e; omega, Nat.le_trans h.b.size hj⟩
  have hne : ∀ i, D i → i ≠ m ∧ i ≠ m + 1 := fun i hi => ⟨fun e => hD1 (e ▸ hi), fun e => hD2 (e ▸ hi)⟩
  have hB := h.below x
  refine ⟨hB.p, hB.b, hB.fB, hB.fA, ?_, ?_, ?_, ?_, h.al⟩
  · have e : (List.range n).map (fun i => if i = m then v1 else if i = m + 1 then v2 else V i) = (List.range n).map V := List.map_congr_left fun i hi => by
      have := List.mem_range.1 hi
      rw [if_neg (by omega), if_neg (by omega)]
    rw [e]
    exact hB.row
  · rintro i (hi | rfl | rfl)
    · obtain ⟨n1, n2⟩ := hne i hi
      simp only [if_neg n1, if_neg n2]
      exact hB.el i hi
    · simpa using r1
    · simpa using r2
  · have key : ∀ i, (D i ∨ i = m ∨ i = m + 1) → ∀ j, (if i = m then k1 else if i = m + 1 then k2 else K i) = some j → (D i ∧ K i = some j ∧ j < X.heap.size) ∨ (i = m ∧ k1 = some j) ∨ (i = m + 1 ∧ k2 = some j) := by
      rintro i (hi | rfl | rfl) j e
      · obtain ⟨n1, n2⟩ := hne i hi
        simp only [if_neg n1, if_neg n2] at e
        exact .inl ⟨hi, e, hlt i hi j e⟩
      · simp at e; exact .inr (.inl ⟨rfl, e⟩)
      · simp at e; exact .inr (.inr ⟨rfl, e⟩)
    intro i j hi hj hij q e1 e2
    rcases key i hi q e1 with ⟨a1, a2, a3⟩ | ⟨a1, a2⟩ | ⟨a1, a2⟩ <;> rcases key j hj q e2 with ⟨b1, b2, b3⟩ | ⟨b1, b2⟩ | ⟨b1, b2⟩
    · exact h.ap i j a1 b1 hij q a2 b2
    · have := h1 q b2; omega
    · have := h2 q b2; omega
    · have := h1 q a2; omega
    · omega
    · exact h12 q a2 b2
    · have := h2 q a2; omega
    · exact h12 q b2 a2
    · omega
  · rintro i (hi | rfl | rfl) q e
    · obtain ⟨n1, n2⟩ := hne i hi
      simp only [if_neg n1, if_neg n2] at e
      exact h.ou i hi q e
    · simp at e; exact hn q (h1 q e)
    · simp at e; exact hn q (h2 q e)
set_option maxRecDepth 100000 in
/-- two lists are put to the list of lists -/
theorem MeI.app (h : MeI w F g P vB vA LB LA kB kA X n vAll kAll D V K C) (hn : n ≤ 1000) (d1 : D n) (d2 : D (n + 1)) :
    ∃ v' Y k', (Builtin.append_ #[49, 49] 49 #[vAll, .slice (some ⟨X.heap.size, 0, none⟩) 2 2]).run Try.prog (X.alloc (.cells #[V n, V (n + 1)] 37)) = .ok v' Y ∧
      MeI w F g P vB vA LB LA kB kA Y (n + 2) v' k' D V K C := by
  have bA := (Below.refl X.heap.size X).alloc (Nat.le_refl _) (.cells #[V n, V (n + 1)] 37)
  have hA := h.below bA
  have hX : (X.alloc (.cells #[V n, V (n + 1)] 37)).heap.size = X.heap.size + 1 := World.size_alloc _ _
  have one : ∀ u ∈ [V n, V (n + 1)], u.oneCell' = true := by
    intro u hu
    simp only [List.mem_cons, List.not_mem_nil, or_false] at hu
    rcases hu with rfl | rfl
    · obtain ⟨a, c, e⟩ := (h.el n d1).val; rw [e]; rfl
    · obtain ⟨a, c, e⟩ := (h.el _ d2).val; rw [e]; rfl
  have hsrc : Src Try.prog 1 49 (.slice (some ⟨X.heap.size, 0, none⟩) 2 2) 2 [V n, V (n + 1)] (X.alloc (.cells #[V n, V (n + 1)] 37)) := Src.ofSlice _ Try.underlying49 ⟨X.heap.size, 0, none⟩ 2 2 [V n, V (n + 1)] rfl (fun j u hj => by
      rw [Addr.add_lit, Nat.zero_add]
      refine (World.cell?_alloc_mark X _ _ (0, 0) j).trans ?_
      rw [List.getElem?_toArray]; exact hj) one
  obtain ⟨v', Y, k', hr, h1, h2, h3⟩ := RA.pushN (P := Try.prog) hA.row 49 49 37 _ _ 24 Try.underlying49 rfl rfl rfl rfl rfl _ 2 [V n, V (n + 1)] hsrc (fun _ => by omega) (by omega) (by omega)
  have hk : ∀ j, k' = some j → kAll = some j ∨ j = X.heap.size + 1 := by
    intro j e
    rcases h3 with ⟨e1, _⟩ | e1
    · exact .inl (e1 ▸ e)
    · rw [e1] at e; injection e with e; exact .inr (by omega)
  have hltF := hA.p.lt
  refine ⟨v', Y, k', hr, ⟨hA.p.kpf h2 (fun i e e1 => (h.al i e1).1 e), hA.b.trans (h2.below hA.b.size (fun i e => (h.al i e).2.2.2)), hA.fB.kpf h2 (fun i e e1 => (h.al i e1).2.1 e), hA.fA.kpf h2 (fun i e e1 => (h.al i e1).2.2.1 e), ?_, fun i hi => (hA.el i hi).kpf h2 (fun q e e1 => (h.ou i hi q e).2.1 e1), h.ap, fun i hi q e => ?_, fun q e => ?_⟩⟩
  · rw [List.range_succ, List.range_succ]
    simpa using h1
  · obtain ⟨a1, a2, a3⟩ := h.ou i hi q e
    refine ⟨a1, fun e1 => ?_, a3⟩
    rcases hk q e1 with e2 | e2
    · exact a2 e2
    · have := RA.lt (h.el i hi) q e; omega
  · rcases hk q e with e1 | e1
    · exact h.al q e1
    · refine ⟨fun e2 => ?_, fun e2 => ?_, fun e2 => ?_, ?_⟩
      · have := h.p.lt q e2; omega
      · have := RA.lt h.fB q e2; omega
      · have := RA.lt h.fA q e2; omega
      · have := h.b.size; omega
/-- a word of a list is written -/
theorem MeI.write (h : MeI w F g P vB vA LB LA kB kA X n vAll kAll D V K C) {i : Nat} (hi : D i) {gi oi ci : Nat} (hv : V i = .slice (some ⟨gi, oi, none⟩) (C i).length ci) {j : Nat} (hj : j < (C i).length) (s : ByteArray) :
    MeI w F g P vB vA LB LA kB kA (X.setCell ⟨gi, oi + j, none⟩ (.string s)) n vAll kAll D V K (fun q => if q = i then (C i).set j s else C q) := by
  have hK : K i = some gi := by
    rcases RA.val (h.el i hi) with ⟨e, _⟩ | ⟨_, _, _, e, e2, _⟩
    · rw [hv] at e; cases e
    · rw [hv] at e; cases e; exact e2
  obtain ⟨o1, o2, o3, o4, o5⟩ := h.ou i hi gi hK
  have kk := KpF.set (F := fun q => q = gi) X ⟨gi, oi + j, none⟩ (.string s) rfl
  refine ⟨h.p.kpf kk (fun q e e1 => o1 (e1 ▸ e)), h.b.trans (kk.below h.b.size (fun q e => by rw [e]; exact o5)), h.fB.kpf kk (fun q e e1 => o3 (e1 ▸ e)), h.fA.kpf kk (fun q e e1 => o4 (e1 ▸ e)), h.row.kpf kk (fun q e e1 => o2 (e1 ▸ e)), fun q hq => ?_, h.ap, h.ou, h.al⟩
  by_cases e : q = i
  · subst e
    simp only [if_true]
    have h1 : RA X 1 (.slice (some ⟨gi, oi, none⟩) (C q).length ci) (C q).length ((C q).map Value.string) (K q) := by rw [← hv]; exact h.el q hi
    have h2 := h1.set j (.string s) (by omega)
    unfold RS
    rw [hv, List.length_set, List.map_set]
    exact h2
  · simp only [if_neg e]
    exact (h.el q hq).kpf kk (fun r e1 e2 => h.ap q i hq hi e r e1 (e2 ▸ hK))
/-- what is written lies apart from all -/
theorem MeI.apart (h : MeI w F g P vB vA LB LA kB kA X n vAll kAll D V K C) {Y : World} {G : Nat → Prop} (x : KpF G X Y) (hG : ∀ q, G q → ¬ F q ∧ kAll ≠ some q ∧ kB ≠ some q ∧ kA ≠ some q ∧ w.heap.size ≤ q) (hK : ∀ q, G q → ∀ i, D i → K i ≠ some q) : MeI w F g P vB vA LB LA kB kA Y n vAll kAll D V K C :=
  ⟨h.p.kpf x (fun q e e1 => (hG q e1).1 e), h.b.trans (x.below h.b.size (fun q e => (hG q e).2.2.2.2)), h.fB.kpf x (fun q e e1 => (hG q e1).2.2.1 e), h.fA.kpf x (fun q e e1 => (hG q e1).2.2.2.1 e), h.row.kpf x (fun q e e1 => (hG q e1).2.1 e), fun i hi => (h.el i hi).kpf x (fun q e e1 => hK q e1 i hi e), h.ap, h.ou, h.al⟩
/-- the list that is grown: it still lies where V k does, or apart from all -/
def GrL (w : World) (F : Nat → Prop) (kB kA : Option Nat) (X : World) (kAll : Option Nat) (D : Nat → Prop) (V : Nat → Value) (K : Nat → Option Nat) (C : Nat → List ByteArray) (k t : Nat) (vl : Value) : Prop :=
  ∃ Cl kl, RS X vl Cl kl ∧ Cl.length = (C k).length + t ∧ ((Cl.take (C k).length = C k ∧ kl = K k ∧ (V k = vl ∧ t = 0 ∨ ∃ g off cap, V k = .slice (some ⟨g, off, none⟩) (C k).length cap ∧ vl = .slice (some ⟨g, off, none⟩) Cl.length cap)) ∨
    ∀ q, kl = some q → (¬ F q ∧ kAll ≠ some q ∧ kB ≠ some q ∧ kA ≠ some q ∧ w.heap.size ≤ q) ∧ ∀ i, D i → K i ≠ some q)
theorem MeI.grl (h : MeI w F g P vB vA LB LA kB kA X n vAll kAll D V K C) {k : Nat} (hk : D k) : GrL w F kB kA X kAll D V K C k 0 (V k) :=
  ⟨C k, K k, h.el k hk, rfl, .inl ⟨List.take_length, rfl, .inl ⟨rfl, rfl⟩⟩⟩
set_option maxRecDepth 100000 in
theorem MeI.grow (h : MeI w F g P vB vA LB LA kB kA X n vAll kAll D V K C) {k t : Nat} (hk : D k) {vl : Value} (hg : GrL w F kB kA X kAll D V K C k t vl) (s : ByteArray) (hl : (C k).length + t ≤ 100000) :
    ∃ v' Y, (Builtin.append_ #[37, 37] 37 #[vl, .slice (some ⟨X.heap.size, 0, none⟩) 1 1]).run Try.prog (X.alloc (.cells #[.string s] 9)) = .ok v' Y ∧
      MeI w F g P vB vA LB LA kB kA Y n vAll kAll D V K C ∧ GrL w F kB kA Y kAll D V K C k (t + 1) v' := by
  obtain ⟨Cl, kl, r, hlen, hcase⟩ := hg
  obtain ⟨v', Y, k', hr, r', hkp, hc⟩ := growW r s (by omega)
  have hnew : ∀ q, X.heap.size ≤ q → (¬ F q ∧ kAll ≠ some q ∧ kB ≠ some q ∧ kA ≠ some q ∧ w.heap.size ≤ q) ∧ ∀ i, D i → K i ≠ some q := fun q hq =>
    ⟨⟨fun e => by have := h.p.lt q e; omega, fun e => by have := h.row.lt q e; omega, fun e => by have := RA.lt h.fB q e; omega, fun e => by have := RA.lt h.fA q e; omega, Nat.le_trans h.b.size hq⟩, fun i hi e => by have := RA.lt (h.el i hi) q e; omega⟩
  have hlen' : (Cl ++ [s]).length = (C k).length + (t + 1) := by rw [List.length_append]; simp; omega
  refine ⟨v', Y, hr, ?_⟩
  rcases hc with ⟨e1, e2, g1, o1, c1, ev, ev'⟩ | ⟨⟨q, e1, hq⟩, hkp0⟩
  · rcases hcase with ⟨ht, hkl, hform⟩ | hfr
    · obtain ⟨q, hq⟩ : ∃ q, K k = some q := by
        cases hK : K k with
        | none => rw [hkl, hK] at e2; exact absurd rfl e2
        | some q => exact ⟨q, rfl⟩
      obtain ⟨p1, p2, p3, p4, p5⟩ := h.ou k hk q hq
      have hkp' : KpF (fun b => b = q) X Y := hkp.mono (fun b _ e => by rw [hkl, hq] at e; injection e with e; exact e.symm)
      have hVk : V k = .slice (some ⟨g1, o1, none⟩) (C k).length c1 := by
        rcases hform with ⟨a1, a2⟩ | ⟨g2, o2, c2, a1, a2⟩
        · rw [a1, ev, hlen, a2, Nat.add_zero]
        · rw [ev] at a2
          injection a2 with a2 _ a3
          injection a2 with a2
          injection a2 with a2 a4
          rw [a1, a2, a4, a3]
      have hcut : RS Y (V k) (C k) (K k) := by
        rw [ev'] at r'
        have := RS.cut (m := (C k).length) r' (by rw [List.length_append]; rfl) (by rw [hlen']; omega)
        rw [List.take_append_of_le_length (by omega), ht] at this
        rw [hVk, ← hkl, ← e1]
        exact this
      refine ⟨⟨h.p.kpf hkp' (fun b e e1 => p1 (e1 ▸ e)), h.b.trans (hkp'.below h.b.size (fun b e => by rw [e]; exact p5)), h.fB.kpf hkp' (fun b e e1 => p3 (e1 ▸ e)), h.fA.kpf hkp' (fun b e e1 => p4 (e1 ▸ e)), h.row.kpf hkp' (fun b e e1 => p2 (e1 ▸ e)), fun i hi => ?_, h.ap, h.ou, h.al⟩, ⟨Cl ++ [s], k', r', hlen', .inl ⟨by rw [List.take_append_of_le_length (by omega), ht], e1.trans hkl, .inr ⟨g1, o1, c1, hVk, by rw [ev', List.length_append]; rfl⟩⟩⟩⟩
      by_cases e : i = k
      · subst e; exact hcut
      · exact (h.el i hi).kpf hkp' (fun b a1 a2 => h.ap i k hi hk e b a1 (a2 ▸ hq))
    · refine ⟨h.apart hkp (fun b e => (hfr b e).1) (fun b e => (hfr b e).2), ⟨Cl ++ [s], k', r', hlen', .inr (fun b e => hfr b (e1 ▸ e))⟩⟩
  · refine ⟨h.apart hkp0 (fun b e => e.elim) (fun b e => e.elim), ⟨Cl ++ [s], k', r', hlen', .inr (fun b e => ?_)⟩⟩
    rw [e1] at e
    injection e with e
    exact e ▸ hnew q hq
theorem MeI.congr (h : MeI w F g P vB vA LB LA kB kA X n vAll kAll D V K C) {D' : Nat → Prop} {C' : Nat → List ByteArray} (hD : ∀ i, D' i → D i) (hC : ∀ i, D' i → C i = C' i) : MeI w F g P vB vA LB LA kB kA X n vAll kAll D' V K C' :=
  ⟨h.p, h.b, h.fB, h.fA, h.row, fun i hi => by rw [← hC i hi]; exact h.el i (hD i hi), fun i j hi hj => h.ap i j (hD i hi) (hD j hj), fun i hi => h.ou i (hD i hi), h.al⟩
/-- an entry of the list of lists -/
theorem MeI.entry (h : MeI w F g P vB vA LB LA kB kA X n vAll kAll D V K C) {i : Nat} (hi : i < n) : ∃ g off cap, vAll = .slice (some ⟨g, off, none⟩) n cap ∧ X.cell? ⟨g, off + i, none⟩ = some (V i) := by
  obtain ⟨g, off, cap, e, _, _, _, _, hc⟩ := h.row.form (by omega)
  refine ⟨g, off, cap, e, ?_⟩
  rw [hc i (by omega), List.getElem?_map, List.getElem?_range hi]; rfl
end
/-- which lists are there -/
def DL (k i : Nat) : Prop := i < 2 * k ∨ i = 18 ∨ i = 19
/-- what they hold -/
def cP (LB LA : List ByteArray) (i : Nat) : List ByteArray := if i % 2 = 0 then LB else LA
def cQ (LB LA : List ByteArray) (ch : Nat → ByteArray) (k i : Nat) : List ByteArray := if i < k then List.replicate (cP LB LA i).length (ch i) else cP LB LA i
theorem cP_len {LB LA : List ByteArray} (h1 : LB.length ≤ 4096) (h2 : LA.length ≤ 4096) (i : Nat) : (cP LB LA i).length ≤ 4096 := by
  unfold cP; split <;> assumption
theorem rep_set (l : List ByteArray) (s : ByteArray) {j : Nat} (hj : j < l.length) : (List.replicate j s ++ l.drop j).set j s = List.replicate (j + 1) s ++ l.drop (j + 1) := by
  have e : l.drop j = l[j] :: l.drop (j + 1) := List.drop_eq_getElem_cons hj
  rw [e, List.set_append_right _ _ (by simp), List.length_replicate, Nat.sub_self, List.set_cons_zero, List.replicate_succ', List.append_assoc]
  rfl
/-- while list k is written: its first j words are -/
def cJ (LB LA : List ByteArray) (ch : Nat → ByteArray) (k j q : Nat) : List ByteArray := if q = k then List.replicate j (ch k) ++ (cP LB LA k).drop j else cQ LB LA ch k q
theorem cJ_self (LB LA : List ByteArray) (ch : Nat → ByteArray) (k j : Nat) : cJ LB LA ch k j k = List.replicate j (ch k) ++ (cP LB LA k).drop j := if_pos rfl
theorem cJ_len (LB LA : List ByteArray) (ch : Nat → ByteArray) (k : Nat) {j : Nat} (hj : j ≤ (cP LB LA k).length) : (cJ LB LA ch k j k).length = (cP LB LA k).length := by
  rw [cJ_self]; simp; omega
theorem cQ_self (LB LA : List ByteArray) (ch : Nat → ByteArray) (k : Nat) : cQ LB LA ch k k = cP LB LA k := if_neg (by omega)
theorem cJ_zero (LB LA : List ByteArray) (ch : Nat → ByteArray) (k i : Nat) : cQ LB LA ch k i = cJ LB LA ch k 0 i := by
  unfold cJ
  split
  · rename_i h; subst h; rw [cQ_self]; simp
  · rfl
theorem cJ_last (LB LA : List ByteArray) (ch : Nat → ByteArray) (k i : Nat) : cJ LB LA ch k (cP LB LA k).length i = cQ LB LA ch (k + 1) i := by
  unfold cJ cQ
  split
  · rename_i h; subst h; rw [if_pos (by omega), List.drop_length, List.append_nil]
  · rename_i h
    by_cases h1 : i < k
    · rw [if_pos h1, if_pos (by omega)]
    · rw [if_neg h1, if_neg (by omega)]
theorem cQ_len (LB LA : List ByteArray) (ch : Nat → ByteArray) (k i : Nat) : (cQ LB LA ch k i).length = (cP LB LA i).length := by
  unfold cQ; split
  · simp
  · rfl
section
variable {w : World} {F : Nat → Prop} {g : Nat} {P : Pa Int} {vB vA : Value} {LB LA : List ByteArray} {kB kA : Option Nat} {X : World} {n : Nat} {vAll : Value} {kAll : Option Nat} {D : Nat → Prop} {V : Nat → Value} {K : Nat → Option Nat} {ch : Nat → ByteArray}
/-- the word number j of list k is written -/
theorem MeI.writeJ {k j : Nat} (h : MeI w F g P vB vA LB LA kB kA X n vAll kAll D V K (cJ LB LA ch k j)) (hk : D k) {al : Option Addr} {cl : Nat} (hv : V k = .slice al (cP LB LA k).length cl) (hj : j < (cP LB LA k).length) :
    ∃ gi oi u, al = some ⟨gi, oi, none⟩ ∧ X.cell? ⟨gi, oi + j, none⟩ = some u ∧ X.frozen? ⟨gi, oi + j, none⟩ = false ∧ MeI w F g P vB vA LB LA kB kA (X.setCell ⟨gi, oi + j, none⟩ (.string (ch k))) n vAll kAll D V K (cJ LB LA ch k (j + 1)) := by
  have hrow := h.el k hk
  have hcl := cJ_len LB LA ch k (j := j) (by omega)
  obtain ⟨gi, oi, ci, ev, _, _, hnc, hroom, _⟩ := RA.form hrow (by omega)
  rw [hv, hcl] at ev
  injection ev with ev1 _ ev3
  obtain ⟨q1, q2⟩ := hroom j (by omega)
  obtain ⟨uc, q1⟩ := Option.isSome_iff_exists.1 q1
  have hW := h.write (i := k) hk (gi := gi) (oi := oi) (ci := cl) (by rw [hcl, hv, ev1]) (j := j) (by omega) (ch k)
  refine ⟨gi, oi, uc, ev1, q1, q2, hW.congr (fun _ h => h) (fun i _ => ?_)⟩
  by_cases e : i = k
  · subst e
    show (if i = i then _ else _) = _
    rw [if_pos rfl, cJ_self, cJ_self]
    exact rep_set _ _ hj
  · show (if i = k then _ else _) = _
    rw [if_neg e]
    unfold cJ
    rw [if_neg e, if_neg e]
end
end Go.Proofs.Ythifdfjpfmhcpaa
