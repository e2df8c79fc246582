/- Layer 3: rows that may be written and grown whatever they hold; contracts of galleylaw03's spoil and rot: nothing but the row that is handed in turns. -/
import Derived.Test.YtlfcplipnmclhabDoorRf6
import Derived.Deep.AppendSrc
namespace Go.Proofs.YtlfcplipnmclhabDoor
open Go.ChangeShapes Go.WideShapes Go.ChangeAt Go.RowKit

/-- a row of integers of at most N elements, none of its cells frozen -/
def RwX (k : IntKind) (N : Nat) (W : World) (v : Value) : Prop := v = .slice none 0 0 ∨ ∃ g n cap, v = .slice (some ⟨g, 0, none⟩) n cap ∧ n ≤ N ∧ g < W.heap.size ∧ n ≤ cap ∧
  (∀ i, i < cap → (W.cell? ⟨g, i, none⟩).isSome = true ∧ W.frozen? ⟨g, i, none⟩ = false) ∧ ∀ i, i < n → ∃ b, W.cell? ⟨g, i, none⟩ = some (.int k b)
theorem grownO_trans {w w1 w2 : World} {r row : Option Nat} (h : w.grownBy w1 r) (h2 : w1.grownBy w2 row) (hr : ∀ k, row = some k → r = some k ∨ w.heap.size ≤ k) : w.grownBy w2 r := by
  refine ⟨h2.os.trans h.os, h2.tape.trans h.tape, h2.output.trans h.output, Nat.le_trans h.size h2.size, fun k hk hne => ?_⟩
  refine (h2.block k (Nat.lt_of_lt_of_le hk h.size) (fun e => ?_)).trans (h.block k hk hne)
  rcases hr k e.symm with h' | h'
  · exact hne h'.symm
  · omega
theorem setCells_one (w : World) (b o : Nat) (v : Value) : w.setCells b o [v] = w.setCell ⟨b, o, none⟩ v := rfl
theorem cell_set {w : World} {g k : Nat} {v : Value} (h : (w.cell? ⟨g, k, none⟩).isSome = true) (j : Nat) : (w.setCell ⟨g, k, none⟩ v).cell? ⟨g, j, none⟩ = if j = k then some v else w.cell? ⟨g, j, none⟩ := by
  rw [← setCells_one]
  by_cases hjk : j = k
  · subst hjk
    rw [if_pos rfl]
    have := World.cell?_setCells_in g [v] j w (fun i hi => by obtain rfl : i = 0 := by simpa using hi
                                                              exact h) 0 (by simp)
    simpa using this
  · rw [if_neg hjk]
    exact World.cell?_setCells_out g [v] k w ⟨g, j, none⟩ (fun _ _ => by simp; omega)
theorem frozen_set {w : World} {g k : Nat} {v : Value} (j : Nat) : (w.setCell ⟨g, k, none⟩ v).frozen? ⟨g, j, none⟩ = w.frozen? ⟨g, j, none⟩ := by
  rw [← setCells_one]
  exact World.frozen?_setCells g [v] k w ⟨g, j, none⟩
theorem size_set (w : World) (a : Addr) (v : Value) : (w.setCell a v).heap.size = w.heap.size := by simp [World.setCell]
theorem rwX_set {k : IntKind} {N : Nat} {W : World} {g n cap : Nat} (h : RwX k N W (.slice (some ⟨g, 0, none⟩) n cap)) (j : Nat) (x : Int) (hj : j < n) : RwX k N (W.setCell ⟨g, j, none⟩ (.int k x)) (.slice (some ⟨g, 0, none⟩) n cap) := by
  rcases h with h | ⟨g', n', cap', e, h1, h2, h3, h4, h5⟩
  · cases h
  · cases e
    have hs := (h4 j (by omega)).1
    refine Or.inr ⟨g, n, cap, rfl, h1, by rw [size_set]; exact h2, h3, fun i hi => ⟨?_, by rw [frozen_set]; exact (h4 i hi).2⟩, fun i hi => ?_⟩
    · rw [cell_set hs]; split
      · rfl
      · exact (h4 i hi).1
    · rw [cell_set hs]; split
      · exact ⟨x, rfl⟩
      · exact h5 i hi
theorem rwX_put {k : IntKind} {N : Nat} {W : World} {g n cap : Nat} (h : RwX k N W (.slice (some ⟨g, 0, none⟩) n cap)) (x : Int) (hr : n + 1 ≤ cap) : RwX k (N + 1) (W.setCell ⟨g, n, none⟩ (.int k x)) (.slice (some ⟨g, 0, none⟩) (n + 1) cap) := by
  rcases h with h | ⟨g', n', cap', e, h1, h2, h3, h4, h5⟩
  · cases h
  · cases e
    have hs := (h4 n (by omega)).1
    refine Or.inr ⟨g, n + 1, cap, rfl, by omega, by rw [size_set]; exact h2, hr, fun i hi => ⟨?_, by rw [frozen_set]; exact (h4 i hi).2⟩, fun i hi => ?_⟩
    · rw [cell_set hs]; split
      · rfl
      · exact (h4 i hi).1
    · rw [cell_set hs]; split
      · exact ⟨x, rfl⟩
      · exact h5 i (by omega)
/-- a new row -/
theorem rwX_new {k : IntKind} {N : Nat} (W : World) (t : TypeId) (xs : List Value) (n c : Nat) (hx : xs.length = n) (hn : n ≤ N) (hv : ∀ u ∈ xs, ∃ b, u = .int k b) (hc : n ≤ c) :
    RwX k N (W.alloc (.cells (xs.toArray ++ Builtin.zeroCells (Value.int k 0).cells (c - n)) t)) (.slice (some ⟨W.heap.size, 0, none⟩) n c) := by
  have hz1 : (Value.int k 0).cells.size = 1 := rfl
  refine Or.inr ⟨W.heap.size, n, c, rfl, hn, by simp, hc, fun i hi => ⟨?_, ?_⟩, fun i hi => ?_⟩
  · rw [World.cell?_alloc_mark]
    have : i < (xs.toArray ++ Builtin.zeroCells (Value.int k 0).cells (c - n)).size := by simp only [Array.size_append, List.size_toArray, size_zeroCells, hz1, hx]; omega
    rw [Array.getElem?_eq_getElem this]
    rfl
  · have e : (W.alloc (.cells (xs.toArray ++ Builtin.zeroCells (Value.int k 0).cells (c - n)) t)).heap[W.heap.size]? = some (.cells (xs.toArray ++ Builtin.zeroCells (Value.int k 0).cells (c - n)) t (0, 0)) := heap_alloc_new W _
    simp only [World.frozen?]
    rw [e]
    simp
  · rw [World.cell?_alloc_mark, Array.getElem?_append_left (by simpa [hx] using hi)]
    have hi' : i < xs.length := by omega
    obtain ⟨b, hb⟩ := hv xs[i] (List.getElem_mem hi')
    exact ⟨b, by simp [List.getElem?_eq_getElem hi', hb]⟩

/-- append one to such a row -/
theorem pushX_u8 (W : World) (N : Nat) (v : Value) (x : Int) (ty : TypeId) (h : RwX .u8 N W v) (hN : N ≤ 8388608) :
    ∃ v' W', (Builtin.append_ #[30, 30] ty #[v, .slice (some ⟨W.heap.size, 0, none⟩) 1 1]).run Tryd.prog (W.alloc (.cells #[.int .u8 x] 5)) = .ok v' W' ∧ RwX .u8 (N + 1) W' v' ∧
      (W.alloc (.cells #[.int .u8 x] 5)).grownBy W' v.ownBlock ∧ ((v'.ownBlock = v.ownBlock) ∨ ∃ g, v'.ownBlock = some g ∧ W.heap.size ≤ g) := by
  obtain ⟨i, hi, hz, hs, hby⟩ := info_u8
  have hsrc : Src Tryd.prog i.size 30 (.slice (some ⟨W.heap.size, 0, none⟩) 1 1) 1 [.int .u8 x] (W.alloc (.cells #[.int .u8 x] 5)) := by
    rw [hs]
    refine Src.ofSlice _ Tryd.underlying30 ⟨W.heap.size, 0, none⟩ 1 1 [.int .u8 x] rfl (fun j u hj => ?_) (fun u hu => by simp at hu; subst hu; rfl)
    cases j with
    | zero => simp at hj; subst hj; rw [Addr.add_lit]; exact (World.cell?_alloc_mark W _ _ (0, 0) 0).trans rfl
    | succ j => simp at hj
  rcases h with rfl | ⟨g, n, cap, rfl, hn, hg, hnc, hc, hv⟩
  · have := run_append_grow_src (P := Tryd.prog) (W.alloc (.cells #[.int .u8 x] 5)) 30 30 ty 5 i (.int .u8 0) Tryd.underlying30 hi hz none 0 0 []
      (by rw [hs]; rfl) _ 1 _ hsrc (by omega) (by omega) (by rw [hby]; decide)
    refine ⟨_, _, this, ?_, ⟨rfl, rfl, rfl, by simp, fun k hk _ => heap_alloc_old _ _ hk⟩, Or.inr ⟨_, rfl, by simp⟩⟩
    exact rwX_new _ _ [.int .u8 x] 1 _ rfl (by omega) (fun u hu => by simp at hu; subst hu; exact ⟨x, rfl⟩) (grownCap_ge _ _ _ _)
  · have hga : g ≠ W.heap.size := by omega
    have hcell : ∀ i, (W.alloc (.cells #[.int .u8 x] 5)).cell? ⟨g, i, none⟩ = W.cell? ⟨g, i, none⟩ := fun i => World.cell?_of_block (a := ⟨g, i, none⟩) (heap_alloc_old W _ hg)
    have hfro : ∀ i, (W.alloc (.cells #[.int .u8 x] 5)).frozen? ⟨g, i, none⟩ = W.frozen? ⟨g, i, none⟩ := fun i => by
      have e := heap_alloc_old W (.cells #[.int .u8 x] 5) hg
      simp only [World.frozen?, e]
    by_cases hroom : n + 1 ≤ cap
    · have := run_append_room_src (P := Tryd.prog) (W.alloc (.cells #[.int .u8 x] 5)) 30 30 ty 5 i Tryd.underlying30 hi g 0 n cap _ 1 _ hsrc hroom
        (fun j hj => by
          obtain rfl : j = 0 := by simpa using hj
          rw [hs, Nat.mul_one, Nat.zero_add, Nat.add_zero, hcell]; exact (hc n (by omega)).1)
        (fun j hj => by
          obtain rfl : j = 0 := by simpa using hj
          rw [hs, Nat.mul_one, Nat.zero_add, Nat.add_zero, hfro]; exact (hc n (by omega)).2)
      rw [hs, Nat.mul_one, Nat.zero_add] at this
      rw [setCells_one] at this
      refine ⟨_, _, this, ?_, grown_set _ _ _ _, Or.inl rfl⟩
      have hb : RwX .u8 N (W.alloc (.cells #[.int .u8 x] 5)) (.slice (some ⟨g, 0, none⟩) n cap) := Or.inr ⟨g, n, cap, rfl, hn, by simp; omega, hnc, fun i hi => ⟨by rw [hcell]; exact (hc i hi).1, by rw [hfro]; exact (hc i hi).2⟩, fun i hi => by rw [hcell]; exact hv i hi⟩
      exact rwX_put hb x hroom
    · have hold : (Builtin.firstCells i.size n (.slice (some ⟨g, 0, none⟩) n cap)).run Tryd.prog (W.alloc (.cells #[.int .u8 x] 5)).drew = .ok ((List.range n).map fun i => (W.cell? ⟨g, i, none⟩).getD undef).toArray (W.alloc (.cells #[.int .u8 x] 5)).drew := by
        refine run_firstCells_some _ _ n ⟨g, 0, none⟩ n cap _ (by rw [hs]; simp) (fun j u hj => ?_)
        have hj' : j < n := by
          rcases Nat.lt_or_ge j n with h | h
          · exact h
          · rw [List.getElem?_eq_none (by simpa using h)] at hj; cases hj
        obtain ⟨b, hb⟩ := hv j hj'
        rw [List.getElem?_map, List.getElem?_range hj'] at hj
        simp [hb] at hj
        subst hj
        rw [Addr.add_lit, Nat.zero_add]
        exact (hcell j).trans hb
      have := run_append_grow_src (P := Tryd.prog) (W.alloc (.cells #[.int .u8 x] 5)) 30 30 ty 5 i (.int .u8 0) Tryd.underlying30 hi hz (some ⟨g, 0, none⟩) n cap _ hold _ 1 _ hsrc (by omega) (by omega)
        (by rw [hby]; exact growslice_fits (by omega) (by omega))
      refine ⟨_, _, this, ?_, ⟨rfl, rfl, rfl, by simp, fun k hk _ => heap_alloc_old _ _ hk⟩, Or.inr ⟨_, rfl, by simp⟩⟩
      refine rwX_new _ _ _ (n + 1) _ (by simp) (by omega) (fun u hu => ?_) (grownCap_ge _ _ _ _)
      rcases List.mem_append.1 hu with hu | hu
      · obtain ⟨j, hj, rfl⟩ := List.mem_map.1 hu
        obtain ⟨b, hb⟩ := hv j (List.mem_range.1 hj)
        exact ⟨b, by rw [hb]; rfl⟩
      · simp at hu; subst hu; exact ⟨x, rfl⟩

set_option maxHeartbeats 1000000 in
theorem rot_at (N : Nat) (v : Value) (w : World) (h : RwX .u8 N w v) (hN : N ≤ 8388000) :
    Calls Tryd.prog 15 #[v] w fun e w' => (∃ x, e = .returned x) ∧ w.grownBy w' v.ownBlock := by
  obtain ⟨a, n, cap, hv, hn⟩ : ∃ a n cap, v = .slice a n cap ∧ n ≤ N := by
    rcases h with rfl | ⟨g, n, cap, rfl, hn, _⟩
    · exact ⟨none, 0, 0, rfl, Nat.zero_le _⟩
    · exact ⟨_, n, cap, rfl, hn⟩
  subst hv
  have H := hide h
  go_enter Tryd.func15, Tryd.ntmps15
  go_wp2
  go_loopw [6] (fun i wx => ∃ k : Nat, k ≤ n ∧ i = .int .i64 k ∧ Hid (RwX .u8 N wx (.slice a n cap)) ∧ w.grownBy wx (Value.slice a n cap).ownBlock) (fun i _ => n - (intOf i).toNat)
  case atStart => exact ⟨0, Nat.zero_le _, rfl, H, grown_refl _ _⟩
  case round =>
    obtain ⟨k, hk, rfl, hr, hg⟩ := hrel
    by_cases hlt : k < n
    · rcases unhide hr with h0 | ⟨g, n', cap', e, hn', hgl, hnc, hc, hvv⟩
      · cases h0; omega
      · cases e
        obtain ⟨b, hb⟩ := hvv k hlt
        have hf := (hc k (by omega)).2
        have hst : RwX .u8 N (wr.setCell ⟨g, k, none⟩ (.int .u8 42)) (.slice (some ⟨g, 0, none⟩) n cap) := rwX_set (unhide hr) k _ hlt
        have hgr : w.grownBy (wr.setCell ⟨g, k, none⟩ (.int .u8 42)) (some g) := grown_trans hg (grown_set wr g k _) (fun j e => Or.inl (by cases e; rfl))
        go_wp2
        go_roundw
        case rel => exact ⟨k + 1, by omega, by go_num, hide hst, hgr⟩
        case measure => simp [intOf]; omega
    · go_wp2_with fail
      go_loopw [0, 3] (fun v i wx => ∃ k : Nat, k ≤ 40 ∧ i = .int .i64 k ∧ Hid (RwX .u8 (N + k) wx v) ∧ Hid (v.ownBlock = (Value.slice a n cap).ownBlock ∨ ∃ g, v.ownBlock = some g ∧ w.heap.size ≤ g) ∧ w.grownBy wx (Value.slice a n cap).ownBlock) (fun _ i _ => 40 - (intOf i).toNat)
      case atStart => exact ⟨0, by omega, rfl, hr, hide (Or.inl rfl), hg⟩
      case round =>
        obtain ⟨j, hj, rfl, hr2, hw2, hg2⟩ := hrel
        by_cases hlt2 : j < 40
        · obtain ⟨v4, w4, r4, q4, g4, o4⟩ := pushX_u8 wr (N + j) _ 43 30 (unhide hr2) (by omega)
          have R4 := hide r4
          have hsz := hg2.size
          have hga := (World.grownBy_alloc wr (.cells #[.int .u8 43] 5) none)
          have G4 : Hid (w.grownBy w4 (Value.slice a n cap).ownBlock) := hide (grownO_trans (grownO_trans hg2 hga (fun k e => by cases e)) g4 (fun k e => by
            rcases unhide hw2 with h | ⟨g, h, hle⟩
            · rw [h] at e; exact Or.inl e
            · rw [h] at e; cases e; exact Or.inr hle))
          have O4 : Hid (v4.ownBlock = (Value.slice a n cap).ownBlock ∨ ∃ g, v4.ownBlock = some g ∧ w.heap.size ≤ g) := hide (by
            rcases o4 with h | ⟨g, h, hle⟩
            · rw [h]; exact unhide hw2
            · exact Or.inr ⟨g, h, Nat.le_trans hsz hle⟩)
          clear r4 g4 o4
          go_wp2_with (at_builtin; refine wpList_append_known rfl _ _ 30 30 rfl _ _ rfl rfl _ _ (unhide R4) ?_)
          go_roundw
          case rel => exact ⟨j + 1, by omega, by go_num, hide q4, O4, unhide G4⟩
          case measure => simp [intOf]; omega
        · go_wp2
          go_end0
          exact ⟨⟨_, rfl⟩, hg2⟩

/-- append one to such a row -/
theorem pushX_u16 (W : World) (N : Nat) (v : Value) (x : Int) (ty : TypeId) (h : RwX .u16 N W v) (hN : N ≤ 8388608) :
    ∃ v' W', (Builtin.append_ #[31, 31] ty #[v, .slice (some ⟨W.heap.size, 0, none⟩) 1 1]).run Tryd.prog (W.alloc (.cells #[.int .u16 x] 22)) = .ok v' W' ∧ RwX .u16 (N + 1) W' v' ∧
      (W.alloc (.cells #[.int .u16 x] 22)).grownBy W' v.ownBlock ∧ ((v'.ownBlock = v.ownBlock) ∨ ∃ g, v'.ownBlock = some g ∧ W.heap.size ≤ g) := by
  obtain ⟨i, hi, hz, hs, hby⟩ := info_u16
  have hsrc : Src Tryd.prog i.size 31 (.slice (some ⟨W.heap.size, 0, none⟩) 1 1) 1 [.int .u16 x] (W.alloc (.cells #[.int .u16 x] 22)) := by
    rw [hs]
    refine Src.ofSlice _ Tryd.underlying31 ⟨W.heap.size, 0, none⟩ 1 1 [.int .u16 x] rfl (fun j u hj => ?_) (fun u hu => by simp at hu; subst hu; rfl)
    cases j with
    | zero => simp at hj; subst hj; rw [Addr.add_lit]; exact (World.cell?_alloc_mark W _ _ (0, 0) 0).trans rfl
    | succ j => simp at hj
  rcases h with rfl | ⟨g, n, cap, rfl, hn, hg, hnc, hc, hv⟩
  · have := run_append_grow_src (P := Tryd.prog) (W.alloc (.cells #[.int .u16 x] 22)) 31 31 ty 22 i (.int .u16 0) Tryd.underlying31 hi hz none 0 0 []
      (by rw [hs]; rfl) _ 1 _ hsrc (by omega) (by omega) (by rw [hby]; decide)
    refine ⟨_, _, this, ?_, ⟨rfl, rfl, rfl, by simp, fun k hk _ => heap_alloc_old _ _ hk⟩, Or.inr ⟨_, rfl, by simp⟩⟩
    exact rwX_new _ _ [.int .u16 x] 1 _ rfl (by omega) (fun u hu => by simp at hu; subst hu; exact ⟨x, rfl⟩) (grownCap_ge _ _ _ _)
  · have hga : g ≠ W.heap.size := by omega
    have hcell : ∀ i, (W.alloc (.cells #[.int .u16 x] 22)).cell? ⟨g, i, none⟩ = W.cell? ⟨g, i, none⟩ := fun i => World.cell?_of_block (a := ⟨g, i, none⟩) (heap_alloc_old W _ hg)
    have hfro : ∀ i, (W.alloc (.cells #[.int .u16 x] 22)).frozen? ⟨g, i, none⟩ = W.frozen? ⟨g, i, none⟩ := fun i => by
      have e := heap_alloc_old W (.cells #[.int .u16 x] 22) hg
      simp only [World.frozen?, e]
    by_cases hroom : n + 1 ≤ cap
    · have := run_append_room_src (P := Tryd.prog) (W.alloc (.cells #[.int .u16 x] 22)) 31 31 ty 22 i Tryd.underlying31 hi g 0 n cap _ 1 _ hsrc hroom
        (fun j hj => by
          obtain rfl : j = 0 := by simpa using hj
          rw [hs, Nat.mul_one, Nat.zero_add, Nat.add_zero, hcell]; exact (hc n (by omega)).1)
        (fun j hj => by
          obtain rfl : j = 0 := by simpa using hj
          rw [hs, Nat.mul_one, Nat.zero_add, Nat.add_zero, hfro]; exact (hc n (by omega)).2)
      rw [hs, Nat.mul_one, Nat.zero_add] at this
      rw [setCells_one] at this
      refine ⟨_, _, this, ?_, grown_set _ _ _ _, Or.inl rfl⟩
      have hb : RwX .u16 N (W.alloc (.cells #[.int .u16 x] 22)) (.slice (some ⟨g, 0, none⟩) n cap) := Or.inr ⟨g, n, cap, rfl, hn, by simp; omega, hnc, fun i hi => ⟨by rw [hcell]; exact (hc i hi).1, by rw [hfro]; exact (hc i hi).2⟩, fun i hi => by rw [hcell]; exact hv i hi⟩
      exact rwX_put hb x hroom
    · have hold : (Builtin.firstCells i.size n (.slice (some ⟨g, 0, none⟩) n cap)).run Tryd.prog (W.alloc (.cells #[.int .u16 x] 22)).drew = .ok ((List.range n).map fun i => (W.cell? ⟨g, i, none⟩).getD undef).toArray (W.alloc (.cells #[.int .u16 x] 22)).drew := by
        refine run_firstCells_some _ _ n ⟨g, 0, none⟩ n cap _ (by rw [hs]; simp) (fun j u hj => ?_)
        have hj' : j < n := by
          rcases Nat.lt_or_ge j n with h | h
          · exact h
          · rw [List.getElem?_eq_none (by simpa using h)] at hj; cases hj
        obtain ⟨b, hb⟩ := hv j hj'
        rw [List.getElem?_map, List.getElem?_range hj'] at hj
        simp [hb] at hj
        subst hj
        rw [Addr.add_lit, Nat.zero_add]
        exact (hcell j).trans hb
      have := run_append_grow_src (P := Tryd.prog) (W.alloc (.cells #[.int .u16 x] 22)) 31 31 ty 22 i (.int .u16 0) Tryd.underlying31 hi hz (some ⟨g, 0, none⟩) n cap _ hold _ 1 _ hsrc (by omega) (by omega)
        (by rw [hby]; exact growslice_fits (by omega) (by omega))
      refine ⟨_, _, this, ?_, ⟨rfl, rfl, rfl, by simp, fun k hk _ => heap_alloc_old _ _ hk⟩, Or.inr ⟨_, rfl, by simp⟩⟩
      refine rwX_new _ _ _ (n + 1) _ (by simp) (by omega) (fun u hu => ?_) (grownCap_ge _ _ _ _)
      rcases List.mem_append.1 hu with hu | hu
      · obtain ⟨j, hj, rfl⟩ := List.mem_map.1 hu
        obtain ⟨b, hb⟩ := hv j (List.mem_range.1 hj)
        exact ⟨b, by rw [hb]; rfl⟩
      · simp at hu; subst hu; exact ⟨x, rfl⟩

set_option maxHeartbeats 1000000 in
theorem spoil_at (N : Nat) (v : Value) (w : World) (h : RwX .u16 N w v) (hN : N ≤ 8388000) :
    Calls Tryd.prog 14 #[v] w fun e w' => (∃ x, e = .returned x) ∧ w.grownBy w' v.ownBlock := by
  obtain ⟨a, n, cap, hv, hn⟩ : ∃ a n cap, v = .slice a n cap ∧ n ≤ N := by
    rcases h with rfl | ⟨g, n, cap, rfl, hn, _⟩
    · exact ⟨none, 0, 0, rfl, Nat.zero_le _⟩
    · exact ⟨_, n, cap, rfl, hn⟩
  subst hv
  have H := hide h
  go_enter Tryd.func14, Tryd.ntmps14
  go_wp2
  go_loopw [6] (fun i wx => ∃ k : Nat, k ≤ n ∧ i = .int .i64 k ∧ Hid (RwX .u16 N wx (.slice a n cap)) ∧ w.grownBy wx (Value.slice a n cap).ownBlock) (fun i _ => n - (intOf i).toNat)
  case atStart => exact ⟨0, Nat.zero_le _, rfl, H, grown_refl _ _⟩
  case round =>
    obtain ⟨k, hk, rfl, hr, hg⟩ := hrel
    by_cases hlt : k < n
    · rcases unhide hr with h0 | ⟨g, n', cap', e, hn', hgl, hnc, hc, hvv⟩
      · cases h0; omega
      · cases e
        obtain ⟨b, hb⟩ := hvv k hlt
        have hf := (hc k (by omega)).2
        have hst : RwX .u16 N (wr.setCell ⟨g, k, none⟩ (.int .u16 256)) (.slice (some ⟨g, 0, none⟩) n cap) := rwX_set (unhide hr) k _ hlt
        have hgr : w.grownBy (wr.setCell ⟨g, k, none⟩ (.int .u16 256)) (some g) := grown_trans hg (grown_set wr g k _) (fun j e => Or.inl (by cases e; rfl))
        go_wp2
        go_roundw
        case rel => exact ⟨k + 1, by omega, by go_num, hide hst, hgr⟩
        case measure => simp [intOf]; omega
    · go_wp2_with fail
      go_loopw [0, 3] (fun v i wx => ∃ k : Nat, k ≤ 40 ∧ i = .int .i64 k ∧ Hid (RwX .u16 (N + k) wx v) ∧ Hid (v.ownBlock = (Value.slice a n cap).ownBlock ∨ ∃ g, v.ownBlock = some g ∧ w.heap.size ≤ g) ∧ w.grownBy wx (Value.slice a n cap).ownBlock) (fun _ i _ => 40 - (intOf i).toNat)
      case atStart => exact ⟨0, by omega, rfl, hr, hide (Or.inl rfl), hg⟩
      case round =>
        obtain ⟨j, hj, rfl, hr2, hw2, hg2⟩ := hrel
        by_cases hlt2 : j < 40
        · obtain ⟨v4, w4, r4, q4, g4, o4⟩ := pushX_u16 wr (N + j) _ 257 31 (unhide hr2) (by omega)
          have R4 := hide r4
          have hsz := hg2.size
          have hga := (World.grownBy_alloc wr (.cells #[.int .u16 257] 22) none)
          have G4 : Hid (w.grownBy w4 (Value.slice a n cap).ownBlock) := hide (grownO_trans (grownO_trans hg2 hga (fun k e => by cases e)) g4 (fun k e => by
            rcases unhide hw2 with h | ⟨g, h, hle⟩
            · rw [h] at e; exact Or.inl e
            · rw [h] at e; cases e; exact Or.inr hle))
          have O4 : Hid (v4.ownBlock = (Value.slice a n cap).ownBlock ∨ ∃ g, v4.ownBlock = some g ∧ w.heap.size ≤ g) := hide (by
            rcases o4 with h | ⟨g, h, hle⟩
            · rw [h]; exact unhide hw2
            · exact Or.inr ⟨g, h, Nat.le_trans hsz hle⟩)
          clear r4 g4 o4
          go_wp2_with (at_builtin; refine wpList_append_known rfl _ _ 31 31 rfl _ _ rfl rfl _ _ (unhide R4) ?_)
          go_roundw
          case rel => exact ⟨j + 1, by omega, by go_num, hide q4, O4, unhide G4⟩
          case measure => simp [intOf]; omega
        · go_wp2
          go_end0
          exact ⟨⟨_, rfl⟩, hg2⟩

end Go.Proofs.YtlfcplipnmclhabDoor
