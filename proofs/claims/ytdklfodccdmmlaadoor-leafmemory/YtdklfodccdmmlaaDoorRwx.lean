/- Rows that may be written and grown whatever they hold; bytes are appended to one's own. -/
import Derived.Test.YtdklfodccdmmlaaDoorOwnR
import Derived.Deep.AppendSrc
namespace Go.Proofs.YtdklfodccdmmlaaDoor
open Go.ChangeShapes Go.WideShapes Go.ChangeAt Go.RowKit

theorem bchain {B : Nat} {a b c : World} (hB : B ≤ a.heap.size) (h : Below B a b) (k : Below b.heap.size b c) : Below B a c := h.trans (k.mono (Nat.le_trans hB h.size))

theorem Own.isB {w : World} {B : Nat} {v : Value} {l : List Int} (h : Own w B v l) (hl : ∀ x ∈ l, 0 ≤ x ∧ x ≤ 255) (hn : l.length ≤ 140737488351232) : ∃ a cap, v = .slice a l.length cap ∧ IsB w a cap l := by
  have hc := h
  rcases h.2 with ⟨rfl, h0⟩ | ⟨g, cap, cur, rfl, _, hg, hle, _⟩
  · exact ⟨none, 0, by rw [h0], by omega, hn, Or.inl (List.length_eq_zero_iff.1 h0), hl⟩
  · exact ⟨_, cap, rfl, hle, hn, Or.inr ⟨g, 0, rfl, hc.lies hl⟩, hl⟩

theorem push_u8s (W : World) (B : Nat) (v : Value) (l m : List Int) (ty : TypeId) (h : Own W B v l) (hn : l.length ≤ 140737488350000) (hm : m.length ≤ 4) (h0 : 0 < m.length) (hB : B ≤ W.heap.size) :
    ∃ v' W', (Builtin.append_ #[22, 22] ty #[v, .slice (some ⟨W.heap.size, 0, none⟩) m.length m.length]).run Tryd.prog (W.alloc (.cells (m.map (Value.int .u8)).toArray 5)) = .ok v' W' ∧
      Own W' B v' (l ++ m) ∧ Below B W W' := by
  obtain ⟨i, hi, hz, hs, hby⟩ := info_u8
  have hr := World.ownsRow.alloc h (.cells (m.map (Value.int .u8)).toArray 5)
  obtain ⟨g, c, W', hrun, ho, hg, _, _⟩ := run_append_lies (P := Tryd.prog) (W.alloc (.cells (m.map (Value.int .u8)).toArray 5)) 22 ty B 5 i (.int .u8 0) 1 1 Tryd.underlying22 hi hz hs hby rfl (by decide)
    v l.length (l.map (Value.int .u8)) hr ⟨W.heap.size, 0, none⟩ m.length m.length (m.map (Value.int .u8)) (by simp)
    (fun j u hj => by
      rw [Addr.add_lit, Nat.zero_add]
      refine (World.cell?_alloc_mark W _ _ (0, 0) j).trans ?_
      rw [List.getElem?_toArray]; exact hj)
    (fun u hu => by obtain ⟨x, _, rfl⟩ := List.mem_map.1 hu; rfl) h0 (by unfold maxLen; omega) (by omega) (by simp; omega) _ rfl
  refine ⟨_, W', hrun, ?_, ((Below.refl B W).alloc hB _).grown hg (by simp; omega) (fun k hk => (hr.lt k hk).1)⟩
  unfold Own
  simpa using ho

theorem Own.push1 {W : World} {B : Nat} {v : Value} {l : List Int} (h : Own W B v l) (x : Int) (hn : l.length ≤ 140737488350000) (hB : B ≤ W.heap.size) : ∃ v' W', (Builtin.append_ #[22, 22] 22 #[v, .slice (some ⟨W.heap.size, 0, none⟩) 1 1]).run Tryd.prog (W.alloc (.cells #[.int .u8 x] 5)) = .ok v' W' ∧ Own W' B v' (l ++ [x]) ∧ Below B W W' := by
  simpa using push_u8s W B v l [x] 22 h hn (by simp) (by simp) hB
theorem Own.push2 {W : World} {B : Nat} {v : Value} {l : List Int} (h : Own W B v l) (x y : Int) (hn : l.length ≤ 140737488350000) (hB : B ≤ W.heap.size) : ∃ v' W', (Builtin.append_ #[22, 22] 22 #[v, .slice (some ⟨W.heap.size, 0, none⟩) 2 2]).run Tryd.prog (W.alloc (.cells #[.int .u8 x, .int .u8 y] 5)) = .ok v' W' ∧ Own W' B v' (l ++ [x, y]) ∧ Below B W W' := by
  simpa using push_u8s W B v l [x, y] 22 h hn (by simp) (by simp) hB
theorem Own.push3 {W : World} {B : Nat} {v : Value} {l : List Int} (h : Own W B v l) (x y z : Int) (hn : l.length ≤ 140737488350000) (hB : B ≤ W.heap.size) : ∃ v' W', (Builtin.append_ #[22, 22] 22 #[v, .slice (some ⟨W.heap.size, 0, none⟩) 3 3]).run Tryd.prog (W.alloc (.cells #[.int .u8 x, .int .u8 y, .int .u8 z] 5)) = .ok v' W' ∧ Own W' B v' (l ++ [x, y, z]) ∧ Below B W W' := by
  simpa using push_u8s W B v l [x, y, z] 22 h hn (by simp) (by simp) hB
theorem Own.push4 {W : World} {B : Nat} {v : Value} {l : List Int} (h : Own W B v l) (x y z t : Int) (hn : l.length ≤ 140737488350000) (hB : B ≤ W.heap.size) : ∃ v' W', (Builtin.append_ #[22, 22] 22 #[v, .slice (some ⟨W.heap.size, 0, none⟩) 4 4]).run Tryd.prog (W.alloc (.cells #[.int .u8 x, .int .u8 y, .int .u8 z, .int .u8 t] 5)) = .ok v' W' ∧ Own W' B v' (l ++ [x, y, z, t]) ∧ Below B W W' := by
  simpa using push_u8s W B v l [x, y, z, t] 22 h hn (by simp) (by simp) hB

/-- a row of integers of at most N elements, none of its cells frozen -/
def RwX (k : IntKind) (N : Nat) (W : World) (v : Value) : Prop := v = .slice none 0 0 ∨ ∃ g n cap, v = .slice (some ⟨g, 0, none⟩) n cap ∧ n ≤ N ∧ g < W.heap.size ∧ n ≤ cap ∧
  (∀ i, i < cap → (W.cell? ⟨g, i, none⟩).isSome = true ∧ W.frozen? ⟨g, i, none⟩ = false) ∧ ∀ i, i < n → ∃ b, W.cell? ⟨g, i, none⟩ = some (.int k b)
theorem grownO_trans {w w1 w2 : World} {r row : Option Nat} (h : w.grownBy w1 r) (h2 : w1.grownBy w2 row) (hr : ∀ k, row = some k → r = some k ∨ w.heap.size ≤ k) : w.grownBy w2 r := by
  refine ⟨h2.os.trans h.os, h2.tape.trans h.tape, h2.output.trans h.output, Nat.le_trans h.size h2.size, fun k hk hne => ?_⟩
  refine (h2.block k (Nat.lt_of_lt_of_le hk h.size) (fun e => ?_)).trans (h.block k hk hne)
  rcases hr k e.symm with h' | h'
  · exact hne h'.symm
  · omega
theorem setCells_one (w : World) (b o : Nat) (v : Value) : w.setCells b o [v] = w.setCell ⟨b, o, none⟩ v := rfl
theorem cell_set {w : World} {g k : Nat} {v : Value} (h : (w.cell? ⟨g, k, none⟩).isSome = true) (j : Nat) : (w.setCell ⟨g, k, none⟩ v).cell? ⟨g, j, none⟩ = if j = k then some v else w.cell? ⟨g, j, none⟩ := by
  rw [← setCells_one]
  by_cases hjk : j = k
  · subst hjk
    rw [if_pos rfl]
    have := World.cell?_setCells_in g [v] j w (fun i hi => by obtain rfl : i = 0 := by simpa using hi
                                                              exact h) 0 (by simp)
    simpa using this
  · rw [if_neg hjk]
    exact World.cell?_setCells_out g [v] k w ⟨g, j, none⟩ (fun _ _ => by simp; omega)
theorem frozen_set {w : World} {g k : Nat} {v : Value} (j : Nat) : (w.setCell ⟨g, k, none⟩ v).frozen? ⟨g, j, none⟩ = w.frozen? ⟨g, j, none⟩ := by
  rw [← setCells_one]
  exact World.frozen?_setCells g [v] k w ⟨g, j, none⟩
theorem size_set (w : World) (a : Addr) (v : Value) : (w.setCell a v).heap.size = w.heap.size := by simp [World.setCell]
theorem rwX_set {k : IntKind} {N : Nat} {W : World} {g n cap : Nat} (h : RwX k N W (.slice (some ⟨g, 0, none⟩) n cap)) (j : Nat) (x : Int) (hj : j < n) : RwX k N (W.setCell ⟨g, j, none⟩ (.int k x)) (.slice (some ⟨g, 0, none⟩) n cap) := by
  rcases h with h | ⟨g', n', cap', e, h1, h2, h3, h4, h5⟩
  · cases h
  · cases e
    have hs := (h4 j (by omega)).1
    refine Or.inr ⟨g, n, cap, rfl, h1, by rw [size_set]; exact h2, h3, fun i hi => ⟨?_, by rw [frozen_set]; exact (h4 i hi).2⟩, fun i hi => ?_⟩
    · rw [cell_set hs]; split
      · rfl
      · exact (h4 i hi).1
    · rw [cell_set hs]; split
      · exact ⟨x, rfl⟩
      · exact h5 i hi
theorem rwX_put {k : IntKind} {N : Nat} {W : World} {g n cap : Nat} (h : RwX k N W (.slice (some ⟨g, 0, none⟩) n cap)) (x : Int) (hr : n + 1 ≤ cap) : RwX k (N + 1) (W.setCell ⟨g, n, none⟩ (.int k x)) (.slice (some ⟨g, 0, none⟩) (n + 1) cap) := by
  rcases h with h | ⟨g', n', cap', e, h1, h2, h3, h4, h5⟩
  · cases h
  · cases e
    have hs := (h4 n (by omega)).1
    refine Or.inr ⟨g, n + 1, cap, rfl, by omega, by rw [size_set]; exact h2, hr, fun i hi => ⟨?_, by rw [frozen_set]; exact (h4 i hi).2⟩, fun i hi => ?_⟩
    · rw [cell_set hs]; split
      · rfl
      · exact (h4 i hi).1
    · rw [cell_set hs]; split
      · exact ⟨x, rfl⟩
      · exact h5 i (by omega)
/-- a new row -/
theorem rwX_new {k : IntKind} {N : Nat} (W : World) (t : TypeId) (xs : List Value) (n c : Nat) (hx : xs.length = n) (hn : n ≤ N) (hv : ∀ u ∈ xs, ∃ b, u = .int k b) (hc : n ≤ c) :
    RwX k N (W.alloc (.cells (xs.toArray ++ Builtin.zeroCells (Value.int k 0).cells (c - n)) t)) (.slice (some ⟨W.heap.size, 0, none⟩) n c) := by
  have hz1 : (Value.int k 0).cells.size = 1 := rfl
  refine Or.inr ⟨W.heap.size, n, c, rfl, hn, by simp, hc, fun i hi => ⟨?_, ?_⟩, fun i hi => ?_⟩
  · rw [World.cell?_alloc_mark]
    have : i < (xs.toArray ++ Builtin.zeroCells (Value.int k 0).cells (c - n)).size := by simp only [Array.size_append, List.size_toArray, size_zeroCells, hz1, hx]; omega
    rw [Array.getElem?_eq_getElem this]
    rfl
  · have e : (W.alloc (.cells (xs.toArray ++ Builtin.zeroCells (Value.int k 0).cells (c - n)) t)).heap[W.heap.size]? = some (.cells (xs.toArray ++ Builtin.zeroCells (Value.int k 0).cells (c - n)) t (0, 0)) := heap_alloc_new W _
    simp only [World.frozen?]
    rw [e]
    simp
  · rw [World.cell?_alloc_mark, Array.getElem?_append_left (by simpa [hx] using hi)]
    have hi' : i < xs.length := by omega
    obtain ⟨b, hb⟩ := hv xs[i] (List.getElem_mem hi')
    exact ⟨b, by simp [List.getElem?_eq_getElem hi', hb]⟩

theorem Own.below {w w' : World} {B : Nat} {v : Value} {l : List Int} (h : Own w B v l) (hb : Below w.heap.size w w') : Own w' B v l := h.kept (row := none) ⟨hb.os, hb.tape, hb.output, hb.size, fun k hk _ => hb.block k hk⟩ (Classical.em _)

end Go.Proofs.YtdklfodccdmmlaaDoor
