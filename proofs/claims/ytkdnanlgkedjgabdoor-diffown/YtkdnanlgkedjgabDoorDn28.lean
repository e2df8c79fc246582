/- Layer 17: rows that begin anywhere in a block of their own; what a call leaves as it was, by the blocks that it may write. -/
import Derived.Test.YtkdnanlgkedjgabDoorDn13
import Derived.Deep.AppendSrc

namespace Go.Proofs.YtkdnanlgkedjgabDoor
open Go.ChangeShapes Go.WideShapes Go.ChangeAt Go.RowKit

/-- all blocks that were there stay as they were, but for those of F -/
structure KpF (F : Nat → Prop) (X Y : World) : Prop where
  os : Y.os = X.os
  tape : Y.tape = X.tape
  output : Y.output = X.output
  size : X.heap.size ≤ Y.heap.size
  block : ∀ k, k < X.heap.size → ¬ F k → Y.heap[k]? = X.heap[k]?
theorem KpF.refl (F : Nat → Prop) (X : World) : KpF F X X := ⟨rfl, rfl, rfl, Nat.le_refl _, fun _ _ _ => rfl⟩
theorem KpF.trans {F G : Nat → Prop} {X Y Z : World} (h : KpF F X Y) (k : KpF G Y Z) (hG : ∀ k, k < X.heap.size → G k → F k) : KpF F X Z :=
  ⟨k.os.trans h.os, k.tape.trans h.tape, k.output.trans h.output, Nat.le_trans h.size k.size, fun i hi hF => (k.block i (Nat.lt_of_lt_of_le hi h.size) (fun e => hF (hG i hi e))).trans (h.block i hi hF)⟩
theorem KpF.mono {F G : Nat → Prop} {X Y : World} (h : KpF F X Y) (hG : ∀ k, k < X.heap.size → F k → G k) : KpF G X Y := ⟨h.os, h.tape, h.output, h.size, fun i hi hF => h.block i hi (fun e => hF (hG i hi e))⟩
theorem KpF.below {F : Nat → Prop} {B : Nat} {X Y : World} (h : KpF F X Y) (hB : B ≤ X.heap.size) (hF : ∀ k, F k → B ≤ k) : Below B X Y :=
  ⟨h.os, h.tape, h.output, h.size, fun k hk => h.block k (by omega) (fun e => by have := hF k e; omega)⟩
theorem KpF.of {F : Nat → Prop} {X Y : World} (h : Below X.heap.size X Y) : KpF F X Y := ⟨h.os, h.tape, h.output, h.size, fun k hk _ => h.block k hk⟩
theorem KpF.alloc (F : Nat → Prop) (X : World) (o : Obj) : KpF F X (X.alloc o) := KpF.of ((Below.refl X.heap.size X).alloc (Nat.le_refl _) o)
theorem KpF.set {F : Nat → Prop} (X : World) (p : Addr) (u : Value) (hF : F p.block) : KpF F X (X.setCell p u) :=
  ⟨rfl, rfl, rfl, by simp [World.setCell], fun k _ hk => Below.heap_setCell X p u k (fun e => hk (e ▸ hF))⟩
theorem Cls.kpf {F : Nat → Prop} {X Y : World} {B : Nat} {t : TypeId} {cs : Array Value} (h : Cls X B t cs) (k : KpF F X Y) (hB : ¬ F B) : Cls Y B t cs := h.same (k.block B h.lt hB)

/-- v holds n elements of s cells each, the cells xs; it lies in the block k, all of whose room may be written -/
structure RA (X : World) (s : Nat) (v : Value) (n : Nat) (xs : List Value) (k : Option Nat) : Prop where
  len : xs.length = n * s
  val : (v = .slice none 0 0 ∧ n = 0 ∧ k = none) ∨ ∃ g off cap, v = .slice (some ⟨g, off, none⟩) n cap ∧ k = some g ∧ g < X.heap.size ∧ n ≤ cap ∧
    (∀ j, j < cap * s → (X.cell? ⟨g, off + j, none⟩).isSome = true ∧ X.frozen? ⟨g, off + j, none⟩ = false) ∧ ∀ j, j < n * s → X.cell? ⟨g, off + j, none⟩ = xs[j]?
theorem RA.nil (X : World) (s : Nat) : RA X s (.slice none 0 0) 0 [] none := ⟨by simp, .inl ⟨rfl, rfl, rfl⟩⟩
theorem RA.same {X Y : World} {s n : Nat} {v : Value} {xs : List Value} {k : Option Nat} (h : RA X s v n xs k) (hs : X.heap.size ≤ Y.heap.size) (hb : ∀ g, k = some g → g < X.heap.size → Y.heap[g]? = X.heap[g]?) : RA Y s v n xs k := by
  refine ⟨h.len, ?_⟩
  rcases h.val with h1 | ⟨g, off, cap, e1, e2, h3, h4, h5, h6⟩
  · exact .inl h1
  · have e := hb g e2 h3
    refine .inr ⟨g, off, cap, e1, e2, Nat.lt_of_lt_of_le h3 hs, h4, fun j hj => ?_, fun j hj => ?_⟩
    · rw [World.cell?_of_block (a := ⟨g, off + j, none⟩) e, World.frozen?_of_block (a := ⟨g, off + j, none⟩) e]
      exact h5 j hj
    · rw [World.cell?_of_block (a := ⟨g, off + j, none⟩) e]
      exact h6 j hj
theorem RA.kpf {F : Nat → Prop} {X Y : World} {s n : Nat} {v : Value} {xs : List Value} {k : Option Nat} (h : RA X s v n xs k) (hk : KpF F X Y) (hF : ∀ g, k = some g → ¬ F g) : RA Y s v n xs k := h.same hk.size fun g e hg => hk.block g hg (hF g e)
theorem RA.lt {X : World} {s n : Nat} {v : Value} {xs : List Value} {k : Option Nat} (h : RA X s v n xs k) (g : Nat) (e : k = some g) : g < X.heap.size := by
  rcases h.val with ⟨_, _, h1⟩ | ⟨g', off, cap, _, e2, h3, _⟩
  · rw [h1] at e; cases e
  · rw [e2] at e; cases e; exact h3
theorem RA.setOther {X : World} {s n : Nat} {v : Value} {xs : List Value} {k : Option Nat} (h : RA X s v n xs k) (p : Addr) (u : Value) (hp : k ≠ some p.block) : RA (X.setCell p u) s v n xs k :=
  h.same (by simp [World.setCell]) fun g e _ => Below.heap_setCell X p u g (fun e2 => hp (e2 ▸ e))
theorem RA.allocd {X : World} {s n : Nat} {v : Value} {xs : List Value} {k : Option Nat} (h : RA X s v n xs k) (o : Obj) : RA (X.alloc o) s v n xs k :=
  h.same (by simp) fun g _ hg => Below.heap_alloc X o g hg
/-- the row's form, where it is not empty -/
theorem RA.form {X : World} {s n : Nat} {v : Value} {xs : List Value} {k : Option Nat} (h : RA X s v n xs k) (hn : 0 < n) : ∃ g off cap, v = .slice (some ⟨g, off, none⟩) n cap ∧ k = some g ∧ g < X.heap.size ∧ n ≤ cap ∧
    (∀ j, j < cap * s → (X.cell? ⟨g, off + j, none⟩).isSome = true ∧ X.frozen? ⟨g, off + j, none⟩ = false) ∧ ∀ j, j < n * s → X.cell? ⟨g, off + j, none⟩ = xs[j]? := by
  rcases h.val with ⟨_, h1, _⟩ | h1
  · omega
  · exact h1
theorem cellS_set {w : World} {g k : Nat} {v : Value} (h : (w.cell? ⟨g, k, none⟩).isSome = true) (j : Nat) : (w.setCell ⟨g, k, none⟩ v).cell? ⟨g, j, none⟩ = if j = k then some v else w.cell? ⟨g, j, none⟩ := by
  have e1 : w.setCells g k [v] = w.setCell ⟨g, k, none⟩ v := rfl
  rw [← e1]
  by_cases hjk : j = k
  · subst hjk
    rw [if_pos rfl]
    have := World.cell?_setCells_in g [v] j w (fun i hi => by obtain rfl : i = 0 := by simpa using hi
                                                              exact h) 0 (by simp)
    simpa using this
  · rw [if_neg hjk]
    exact World.cell?_setCells_out g [v] k w ⟨g, j, none⟩ (fun _ _ => by simp; omega)
theorem frozenS_set {w : World} {g k : Nat} {v : Value} (j : Nat) : (w.setCell ⟨g, k, none⟩ v).frozen? ⟨g, j, none⟩ = w.frozen? ⟨g, j, none⟩ := by
  have e1 : w.setCells g k [v] = w.setCell ⟨g, k, none⟩ v := rfl
  rw [← e1]
  exact World.frozen?_setCells g [v] k w ⟨g, j, none⟩
/-- one cell of a row is written -/
theorem RA.set {X : World} {s n g off cap : Nat} {xs : List Value} {k : Option Nat} (h : RA X s (.slice (some ⟨g, off, none⟩) n cap) n xs k) (j : Nat) (u : Value) (hj : j < n * s) :
    RA (X.setCell ⟨g, off + j, none⟩ u) s (.slice (some ⟨g, off, none⟩) n cap) n (xs.set j u) k := by
  refine ⟨by rw [List.length_set]; exact h.len, ?_⟩
  rcases h.val with ⟨e, _⟩ | ⟨g', off', cap', e1, e2, h3, h4, h5, h6⟩
  · cases e
  · cases e1
    have hsome := (h5 j (Nat.lt_of_lt_of_le hj (Nat.mul_le_mul_right _ h4))).1
    refine .inr ⟨g, off, cap, rfl, e2, by simpa [World.setCell] using h3, h4, fun i hi => ?_, fun i hi => ?_⟩
    · rw [cellS_set hsome, frozenS_set]
      refine ⟨?_, (h5 i hi).2⟩
      split
      · rfl
      · exact (h5 i hi).1
    · rw [cellS_set hsome]
      by_cases hij : i = j
      · subst hij
        rw [if_pos rfl, List.getElem?_set_self (by rw [h.len]; exact hj)]
      · rw [if_neg (by omega), List.getElem?_set_ne (by omega)]
        exact h6 i hi
/-- the first element is left out -/
theorem RA.tail {X : World} {s n g off cap : Nat} {xs : List Value} {k : Option Nat} (h : RA X s (.slice (some ⟨g, off, none⟩) (n + 1) cap) (n + 1) xs k) :
    RA X s (.slice (some ⟨g, off + s, none⟩) n (cap - 1)) n (xs.drop s) k := by
  refine ⟨by rw [List.length_drop, h.len, Nat.add_mul]; omega, ?_⟩
  rcases h.val with ⟨e, _⟩ | ⟨g', off', cap', e1, e2, h3, h4, h5, h6⟩
  · cases e
  · cases e1
    have hc : cap * s = (cap - 1) * s + s := by
      obtain ⟨c, rfl⟩ : ∃ c, cap = c + 1 := ⟨cap - 1, by omega⟩
      rw [Nat.add_sub_cancel, Nat.add_mul]; omega
    refine .inr ⟨g, off + s, cap - 1, rfl, e2, h3, by omega, fun i hi => ?_, fun i hi => ?_⟩
    · rw [Nat.add_assoc]
      exact h5 (s + i) (by omega)
    · rw [Nat.add_assoc, h6 (s + i) (by rw [Nat.add_mul]; omega), List.getElem?_drop]
/-- and where no room is left, its place does not matter -/
theorem RA.bare {X : World} {s g off : Nat} {k : Option Nat} (hk : k = some g) (hg : g < X.heap.size) (off' : Nat) (_h : off' = off) : RA X s (.slice (some ⟨g, off, none⟩) 0 0) 0 [] k :=
  ⟨by simp, .inr ⟨g, off, 0, rfl, hk, hg, Nat.le_refl _, fun j hj => by simp at hj, fun j hj => by simp at hj⟩⟩
/-- the last element is left out -/
theorem RA.front {X : World} {s n g off cap : Nat} {xs : List Value} {k : Option Nat} (h : RA X s (.slice (some ⟨g, off, none⟩) (n + 1) cap) (n + 1) xs k) :
    RA X s (.slice (some ⟨g, off, none⟩) n cap) n (xs.take (n * s)) k := by
  refine ⟨by rw [List.length_take, h.len, Nat.add_mul]; omega, ?_⟩
  rcases h.val with ⟨e, _⟩ | ⟨g', off', cap', e1, e2, h3, h4, h5, h6⟩
  · cases e
  · cases e1
    refine .inr ⟨g, off, cap, rfl, e2, h3, by omega, h5, fun i hi => ?_⟩
    rw [h6 i (by rw [Nat.add_mul]; omega), List.getElem?_take_of_lt hi]

theorem setCells_kpf (g : Nat) : ∀ (vs : List Value) (o : Nat) (X : World), KpF (fun b => b = g) X (X.setCells g o vs) ∧ (X.setCells g o vs).heap.size = X.heap.size
  | [], _, X => ⟨KpF.refl _ X, rfl⟩
  | v :: vs, o, X => by
    have h1 := KpF.set (F := fun b => b = g) X ⟨g, o, none⟩ v rfl
    have h2 := setCells_kpf g vs (o + 1) (X.setCell ⟨g, o, none⟩ v)
    exact ⟨h1.trans h2.1 (fun _ _ h => h), h2.2.trans (by simp [World.setCell])⟩
section
variable {P : Program}
/-- one more element: in the row's own room, or in a new block -/
theorem RA.push {X : World} {s n : Nat} {v : Value} {xs : List Value} {k : Option Nat} (h : RA X s v n xs k) (t ty e : TypeId) (i : TypeInfo) (z : Value) (bytes : Nat) (ht : P.underlying t = some (.slice e)) (hi : P.info? e = some i) (hz : i.zero = some z)
    (hsize : i.size = s) (hby : i.bytes = bytes) (hzs : z.cells.size = s)
    (a : Addr) (c : Nat) (news : List Value) (hl : news.length = s) (hnews : ∀ j u, news[j]? = some u → X.cell? (a.add j) = some u) (h1 : ∀ u ∈ news, u.oneCell' = true)
    (hn : n ≤ 1000000000) (hbytes : (n + 1) * bytes ≤ 140737488355328) :
    ∃ v' Y k', (Builtin.append_ #[t, t] ty #[v, .slice (some a) 1 c]).run P X = .ok v' Y ∧ RA Y s v' (n + 1) (xs ++ news) k' ∧ KpF (fun b => k = some b) X Y ∧ (k' = k ∧ k ≠ none ∨ k' = some X.heap.size) := by
  subst hsize
  subst hby
  have hsrc : Src P i.size t (.slice (some a) 1 c) 1 news X := Src.ofSlice X ht a 1 c news (by rw [hl, Nat.one_mul]) hnews h1
  have hlen : (xs ++ news).length = (n + 1) * i.size := by rw [List.length_append, h.len, hl, Nat.add_mul, Nat.one_mul]
  have grow : ∀ (base : Option Addr) (cap : Nat), cap < n + 1 → (Builtin.firstCells i.size n (.slice base n cap)).run P X.drew = .ok xs.toArray X.drew →
      ∃ v' Y k', (Builtin.append_ #[t, t] ty #[.slice base n cap, .slice (some a) 1 c]).run P X = .ok v' Y ∧ RA Y i.size v' (n + 1) (xs ++ news) k' ∧ KpF (fun b => k = some b) X Y ∧ (k' = k ∧ k ≠ none ∨ k' = some X.heap.size) := by
    intro base cap hc hold
    have hr := run_append_grow_src (P := P) X t t ty e i z ht hi hz base n cap xs hold (.slice (some a) 1 c) 1 news hsrc hc (by omega) (growslice_fits (by omega) hbytes)
    have hge : n + 1 ≤ grownCap X (n + 1) cap e := grownCap_ge X (n + 1) cap e
    refine ⟨_, _, some X.heap.size, hr, ?_, ?_, .inr rfl⟩
    · generalize grownCap X (n + 1) cap e = C at hge ⊢
      have hH : ((X.drew.alloc (.cells ((xs ++ news).toArray ++ Builtin.zeroCells z.cells (C - (n + 1))) e))).heap[X.heap.size]? = Option.some (.cells ((xs ++ news).toArray ++ Builtin.zeroCells z.cells (C - (n + 1))) e (0, 0)) := heap_alloc_new X.drew _
      have hsz : ((xs ++ news).toArray ++ Builtin.zeroCells z.cells (C - (n + 1))).size = C * i.size := by
        rw [Array.size_append, List.size_toArray, hlen, size_zeroCells, hzs, ← Nat.add_mul]
        congr 1; omega
      refine ⟨hlen, .inr ⟨X.heap.size, 0, C, rfl, rfl, by simp, hge, fun j hj => ⟨?_, ?_⟩, fun j hj => ?_⟩⟩
      · simp only [World.cell?, hH, Nat.zero_add]
        rw [Array.getElem?_eq_getElem (by rw [hsz]; exact hj)]; rfl
      · simp only [World.frozen?]
        rw [hH]
        simp
      · simp only [World.cell?, hH, Nat.zero_add]
        rw [Array.getElem?_append_left (by rw [List.size_toArray, hlen]; exact hj)]
        simp
    · exact KpF.of (((Below.refl X.heap.size X).drew).alloc (Nat.le_refl _) _)
  rcases h.val with ⟨rfl, rfl, rfl⟩ | ⟨g, off, cap, rfl, rfl, hg, hnc, hroom, hcell⟩
  · have hx : xs = [] := List.eq_nil_of_length_eq_zero (by rw [h.len]; simp)
    subst hx
    exact grow none 0 (by omega) (run_firstCells_none X.drew i.size 0 0 0)
  · by_cases hr : n + 1 ≤ cap
    · have hin : ∀ j, j < news.length → n * i.size + j < cap * i.size := by
        intro j hj
        have : (n + 1) * i.size ≤ cap * i.size := Nat.mul_le_mul_right _ hr
        rw [Nat.add_mul, Nat.one_mul] at this
        omega
      have hrun := run_append_room_src (P := P) X t t ty e i ht hi g off n cap (.slice (some a) 1 c) 1 news hsrc hr (fun j hj => by rw [Nat.add_assoc]; exact (hroom _ (hin j hj)).1) (fun j hj => by rw [Nat.add_assoc]; exact (hroom _ (hin j hj)).2)
      have hszz : (X.setCells g (off + n * i.size) news).heap.size = X.heap.size := (setCells_kpf g news (off + n * i.size) X).2
      have hsome : ∀ j, j < news.length → (X.cell? ⟨g, off + n * i.size + j, none⟩).isSome = true := fun j hj => by rw [Nat.add_assoc]; exact (hroom _ (hin j hj)).1
      refine ⟨_, _, some g, hrun, ?_, ?_, .inl ⟨rfl, by simp⟩⟩
      · refine ⟨hlen, .inr ⟨g, off, cap, rfl, rfl, by rw [hszz]; exact hg, hr, fun j hj => ⟨?_, ?_⟩, fun j hj => ?_⟩⟩
        · by_cases hj2 : n * i.size ≤ j ∧ j < n * i.size + news.length
          · have := World.cell?_setCells_in g news (off + n * i.size) X hsome (j - n * i.size) (by omega)
            rw [show off + n * i.size + (j - n * i.size) = off + j by omega] at this
            rw [this]; rfl
          · rw [World.cell?_setCells_out g news (off + n * i.size) X ⟨g, off + j, none⟩ (fun _ _ => by dsimp only; omega)]
            exact (hroom j hj).1
        · rw [World.frozen?_setCells]
          exact (hroom j hj).2
        · rw [Nat.add_mul, Nat.one_mul] at hj
          by_cases hj2 : n * i.size ≤ j
          · have hj3 : j - n * i.size < news.length := by omega
            have := World.cell?_setCells_in g news (off + n * i.size) X hsome (j - n * i.size) hj3
            rw [show off + n * i.size + (j - n * i.size) = off + j by omega] at this
            rw [this, List.getElem?_append_right (by rw [h.len]; exact hj2), h.len, List.getElem?_eq_getElem hj3]
          · rw [World.cell?_setCells_out g news (off + n * i.size) X ⟨g, off + j, none⟩ (fun _ _ => by dsimp only; omega), List.getElem?_append_left (by rw [h.len]; omega)]
            exact hcell j (by omega)
      · exact (setCells_kpf g news (off + n * i.size) X).1.mono fun b _ e => by rw [e]
    · refine grow (some ⟨g, off, none⟩) cap (by omega) (run_firstCells_some X.drew i.size n ⟨g, off, none⟩ n cap xs h.len (fun j u hu => ?_))
      have hj : j < n * i.size := by rw [← h.len]; exact (List.getElem?_eq_some_iff.1 hu).1
      rw [Addr.add_lit]
      show X.cell? ⟨g, off + j, none⟩ = _
      rw [hcell j hj, hu]
end
end Go.Proofs.YtkdnanlgkedjgabDoor
