/- LeafMemory: rows of bytes that are written and grown (as of layer 6), Bytes as such a row. · LeafMemory: the state while bytes are written over; a list of rows. · LeafMemory: Cut and the document's Cut together. · LeafMemory's walk. · LeafMemory: for every input the law returns true and every argument reads afterwards as it read before; conditions: the table of classes holds at the call what the program's text lays (the card ties it to that text). -/
import Derived.Test.YtdklfodccdmmlaaDoorLcpM
import Derived.Test.YtdklfodccdmmlaaDoorRwx
import Derived.Test.YtdklfodccdmmlaaDoorLayW
import Derived.Test.YtdklfodccdmmlaaDoorLay
import Derived.Below
import Derived.ChangeOld
import Derived.ShutString

section
namespace Go.Proofs.YtdklfodccdmmlaaDoor
open Go.ChangeShapes Go.WideShapes Go.ChangeAt Go.RowKit
attribute [local go_sem] Oper.semAt_some

/-- append one to such a row; what it held stays where it lay -/
theorem pushX_u8k (W : World) (N : Nat) (v : Value) (x : Int) (ty : TypeId) (h : RwX .u8 N W v) (hN : N ≤ 8388608)
    (h0 : v ≠ .slice none 0 0) : ∃ g n c v' W', v = .slice (some ⟨g, 0, none⟩) n c ∧ (Builtin.append_ #[22, 22] ty #[v, .slice (some ⟨W.heap.size, 0, none⟩) 1 1]).run Tryd.prog (W.alloc (.cells #[.int .u8 x] 5)) = .ok v' W' ∧
      ((v' = .slice (some ⟨g, 0, none⟩) (n + 1) c ∧ n + 1 ≤ c ∧ W' = (W.alloc (.cells #[.int .u8 x] 5)).setCell ⟨g, n, none⟩ (.int .u8 x)) ∨ (∃ g' c', v' = .slice (some ⟨g', 0, none⟩) (n + 1) c' ∧ W.heap.size ≤ g' ∧ RwX .u8 (N + 1) W' v' ∧ Below W.heap.size W W' ∧ ∃ cs m, W'.heap[g']? = some (.cells cs 5 m))) := by
  obtain ⟨i, hi, hz, hs, hby⟩ := info_u8
  have hsrc : Src Tryd.prog i.size 22 (.slice (some ⟨W.heap.size, 0, none⟩) 1 1) 1 [.int .u8 x] (W.alloc (.cells #[.int .u8 x] 5)) := by
    rw [hs]
    refine Src.ofSlice _ Tryd.underlying22 ⟨W.heap.size, 0, none⟩ 1 1 [.int .u8 x] rfl (fun j u hj => ?_) (fun u hu => by simp at hu; subst hu; rfl)
    cases j with
    | zero => simp at hj; subst hj; rw [Addr.add_lit]; exact (World.cell?_alloc_mark W _ _ (0, 0) 0).trans rfl
    | succ j => simp at hj
  rcases h with rfl | ⟨g, n, cap, rfl, hn, hg, hnc, hc, hv⟩
  · exact absurd rfl h0
  · have hga : g ≠ W.heap.size := by omega
    have hcell : ∀ i, (W.alloc (.cells #[.int .u8 x] 5)).cell? ⟨g, i, none⟩ = W.cell? ⟨g, i, none⟩ := fun i => World.cell?_of_block (a := ⟨g, i, none⟩) (heap_alloc_old W _ hg)
    have hfro : ∀ i, (W.alloc (.cells #[.int .u8 x] 5)).frozen? ⟨g, i, none⟩ = W.frozen? ⟨g, i, none⟩ := fun i => by
      have e := heap_alloc_old W (.cells #[.int .u8 x] 5) hg
      simp only [World.frozen?, e]
    by_cases hroom : n + 1 ≤ cap
    · have := run_append_room_src (P := Tryd.prog) (W.alloc (.cells #[.int .u8 x] 5)) 22 22 ty 5 i Tryd.underlying22 hi g 0 n cap _ 1 _ hsrc hroom
        (fun j hj => by
          obtain rfl : j = 0 := by simpa using hj
          rw [hs, Nat.mul_one, Nat.zero_add, Nat.add_zero, hcell]; exact (hc n (by omega)).1)
        (fun j hj => by
          obtain rfl : j = 0 := by simpa using hj
          rw [hs, Nat.mul_one, Nat.zero_add, Nat.add_zero, hfro]; exact (hc n (by omega)).2)
      rw [hs, Nat.mul_one, Nat.zero_add] at this
      rw [setCells_one] at this
      exact ⟨g, n, cap, _, _, rfl, this, Or.inl ⟨rfl, hroom, rfl⟩⟩
    · have hold : (Builtin.firstCells i.size n (.slice (some ⟨g, 0, none⟩) n cap)).run Tryd.prog (W.alloc (.cells #[.int .u8 x] 5)).drew = .ok ((List.range n).map fun i => (W.cell? ⟨g, i, none⟩).getD undef).toArray (W.alloc (.cells #[.int .u8 x] 5)).drew := by
        refine run_firstCells_some _ _ n ⟨g, 0, none⟩ n cap _ (by rw [hs]; simp) (fun j u hj => ?_)
        have hj' : j < n := by
          rcases Nat.lt_or_ge j n with h | h
          · exact h
          · rw [List.getElem?_eq_none (by simpa using h)] at hj; cases hj
        obtain ⟨b, hb⟩ := hv j hj'
        rw [List.getElem?_map, List.getElem?_range hj'] at hj
        simp [hb] at hj
        subst hj
        rw [Addr.add_lit, Nat.zero_add]
        exact (hcell j).trans hb
      have := run_append_grow_src (P := Tryd.prog) (W.alloc (.cells #[.int .u8 x] 5)) 22 22 ty 5 i (.int .u8 0) Tryd.underlying22 hi hz (some ⟨g, 0, none⟩) n cap _ hold _ 1 _ hsrc (by omega) (by omega)
        (by rw [hby]; exact growslice_fits (by omega) (by omega))
      refine ⟨g, n, cap, _, _, rfl, this, Or.inr ⟨_, _, rfl, by simp, ?_, ((((Below.refl W.heap.size W).alloc (Nat.le_refl _) _).drew).alloc (by simp) _), _, _, World.alloc_heap_new _ _⟩⟩
      refine rwX_new _ _ _ (n + 1) _ (by simp) (by omega) (fun u hu => ?_) (grownCap_ge _ _ _ _)
      rcases List.mem_append.1 hu with hu | hu
      · obtain ⟨j, hj, rfl⟩ := List.mem_map.1 hu
        obtain ⟨b, hb⟩ := hv j (List.mem_range.1 hj)
        exact ⟨b, by rw [hb]; rfl⟩
      · simp at hu; subst hu; exact ⟨x, rfl⟩

theorem RwX.lt {k : IntKind} {N : Nat} {W : World} {v : Value} (h : RwX k N W v) {g : Nat} (hg : v.ownBlock = some g) : g < W.heap.size := by
  rcases h with rfl | ⟨g', n, cap, rfl, _, h2, _⟩
  · cases hg
  · cases hg; exact h2
theorem RwX.kept {k : IntKind} {N : Nat} {W W' : World} {v : Value} {row : Option Nat} (h : RwX k N W v) (hg : W.grownBy W' row) (hne : v.ownBlock = none ∨ v.ownBlock ≠ row) : RwX k N W' v := by
  rcases h with rfl | ⟨g, n, cap, rfl, h1, h2, h3, h4, h5⟩
  · exact Or.inl rfl
  · have e : W'.heap[g]? = W.heap[g]? := hg.block g h2 (by simpa [Value.ownBlock] using hne)
    have ec : ∀ i, W'.cell? ⟨g, i, none⟩ = W.cell? ⟨g, i, none⟩ := fun i => World.cell?_of_block (a := ⟨g, i, none⟩) e
    have ef : ∀ i, W'.frozen? ⟨g, i, none⟩ = W.frozen? ⟨g, i, none⟩ := fun i => by simp only [World.frozen?, e]
    exact Or.inr ⟨g, n, cap, rfl, h1, Nat.lt_of_lt_of_le h2 hg.size, h3, fun i hi => ⟨by rw [ec]; exact (h4 i hi).1, by rw [ef]; exact (h4 i hi).2⟩, fun i hi => by rw [ec]; exact h5 i hi⟩
theorem RwX.below {k : IntKind} {N : Nat} {W W' : World} {v : Value} (h : RwX k N W v) (hb : Below W.heap.size W W') : RwX k N W' v := h.kept (row := none) ⟨hb.os, hb.tape, hb.output, hb.size, fun k hk _ => hb.block k hk⟩ (Classical.em _)
/-- []byte of a string is such a row -/
theorem toBytesX (W : World) (l : List Int) (N : Nat) (hl : ∀ x ∈ l, 0 ≤ x ∧ x ≤ 255) (hn : l.length ≤ 140737488351232) (hN : l.length ≤ N) :
    ∃ c W', (convert 9 22 (.string (strOfNums l))).run Tryd.prog W = .ok (.slice (some ⟨W.heap.size, 0, none⟩) l.length c) W' ∧ IsN W' (some ⟨W.heap.size, 0, none⟩) c l ∧ Below W.heap.size W W' ∧ RwX .u8 N W' (.slice (some ⟨W.heap.size, 0, none⟩) l.length c) ∧ ∃ cs m, W'.heap[W.heap.size]? = some (.cells cs 5 m) := by
  obtain ⟨c, W', h1, h2, h3, h4⟩ := toBytes W l hl hn
  refine ⟨c, W', h1, h2, h3, Or.inr ⟨W.heap.size, l.length, c, rfl, hN, h4, h2.1.1, ?_, fun i hi => ⟨l.getD i 0, ?_⟩⟩, ?_⟩
  rotate_left 2
  · have := run_bytes_of_string (P := Tryd.prog) W 9 22 5 (strOfNums l) Tryd.underlying9 Tryd.underlying22 Tryd.underlying5
    rw [h1] at this
    simp only [Result.ok.injEq, Value.slice.injEq] at this
    obtain ⟨_, rfl⟩ := this
    exact ⟨_, _, World.alloc_heap_new W.drew _⟩
  · have := run_bytes_of_string (P := Tryd.prog) W 9 22 5 (strOfNums l) Tryd.underlying9 Tryd.underlying22 Tryd.underlying5
    rw [h1] at this
    simp only [Result.ok.injEq, Value.slice.injEq] at this
    obtain ⟨⟨_, _, rfl⟩, rfl⟩ := this
    have hge := grownCap_ge W (strOfNums l).size 0 5
    have hr : (bytesRow (strOfNums l) (grownCap W (strOfNums l).size 0 5)).size = grownCap W (strOfNums l).size 0 5 := by
      unfold bytesRow
      simp only [Array.size_append, Array.size_map, Array.size_replicate]
      show (strOfNums l).size + _ = _
      omega
    intro i hi
    generalize bytesRow (strOfNums l) (grownCap W (strOfNums l).size 0 5) = row at *
    have hb : (W.drew.alloc (.cells row 5 (row.size, row.size + 1))).heap[W.heap.size]? = some (.cells row 5 (row.size, row.size + 1)) := World.alloc_heap_new W.drew _
    constructor
    · simp only [World.cell?, hb]
      simp
      omega
    · unfold World.frozen?
      simp only [hb]
      simp
      omega
  · have := IsN.cells h2.1 i hi
    rwa [Addr.add_lit, Nat.zero_add] at this
set_option maxRecDepth 100000 in
theorem BytesX_at (g : Nat) (l : List Int) (N : Nat) (w : World) (h : IsLf w g l) (hl : ∀ x ∈ l, 0 ≤ x ∧ x ≤ 255) (hn : l.length ≤ 140737488351232) (hN : l.length ≤ N) :
    Calls Tryd.prog 9 #[.pointer (some ⟨g, 0, none⟩)] w fun y w' => ∃ c, y = .returned (.slice (some ⟨w.heap.size, 0, none⟩) l.length c) ∧ (RwX .u8 N w' (.slice (some ⟨w.heap.size, 0, none⟩) l.length c) ∧ ∃ cs m, w'.heap[w.heap.size]? = some (.cells cs 5 m)) ∧ Below w.heap.size w w' := by
  have c := h.text
  obtain ⟨c1, w1, r1, k1, x1, z1⟩ := toBytesX w l N hl hn hN
  have R1 := hide r1
  have Z1 := hide z1
  clear z1 k1
  go_enter Tryd.func9, Tryd.ntmps9
  go_wp2_with fail
  go_ret
  exact ⟨_, rfl, unhide Z1, x1⟩

end Go.Proofs.YtdklfodccdmmlaaDoor
end

section
namespace Go.Proofs.YtdklfodccdmmlaaDoor
open Go.ChangeShapes Go.WideShapes Go.ChangeAt Go.RowKit
attribute [local go_sem] Oper.semAt_some

theorem make_u8M (w : World) (c : Nat) (hc : c ≤ 70368744177664) : ∃ w', (Instr.makeSlice 22 (.int .i64 0) (.int .i64 (c : Int))).run Tryd.prog w = .ok (.slice (some ⟨w.heap.size, 0, none⟩) 0 c) w' ∧ Own w' w.heap.size (.slice (some ⟨w.heap.size, 0, none⟩) 0 c) [] ∧ Below w.heap.size w w' := by
  obtain ⟨i, hi, hz, hs, hby⟩ := info_u8
  obtain ⟨w', h1, h2, h3⟩ := run_make_own (P := Tryd.prog) w w.heap.size 22 5 i (.int .u8 0) 1 Tryd.underlying22 hi hz hs .i64 .i64 c (by rw [hby]; omega) (by unfold maxLen; omega) (Nat.le_refl _)
  exact ⟨w', h1, h2, (Below.refl _ w).grown h3 (Nat.le_refl _) (fun k e => by cases e)⟩
theorem row_onM {X Y : World} {B s n : Nat} {t : TypeId} {v : Value} {xs : List Value} (h : X.ownsRow B t s v n xs) (hb : ∀ G, v.ownBlock = some G → Y.heap[G]? = X.heap[G]?) : Y.ownsRow B t s v n xs := by
  refine ⟨h.1, ?_⟩
  rcases h.2 with h2 | ⟨g, cap, cur, e, h3, h4, h5⟩
  · exact Or.inl h2
  · exact Or.inr ⟨g, cap, cur, e, h3, (hb g (by rw [e]; rfl)).trans h4, h5⟩
theorem row_blockM {X : World} {B s n : Nat} {t : TypeId} {v : Value} {xs : List Value} (h : X.ownsRow B t s v n xs) {G : Nat} (hG : v.ownBlock = some G) : B ≤ G ∧ ∃ cur, X.heap[G]? = some (.cells cur t (0, 0)) := by
  rcases h.2 with ⟨rfl, _⟩ | ⟨g, cap, cur, rfl, h3, h4, _⟩
  · cases hG
  · cases hG; exact ⟨h3, cur, h4⟩
theorem row_lowM {X : World} {B s n : Nat} {t : TypeId} {v : Value} {xs : List Value} (h : X.ownsRow B t s v n xs) : X.ownsRow 0 t s v n xs := by
  refine ⟨h.1, ?_⟩
  rcases h.2 with h2 | ⟨g, cap, cur, e, _, h4⟩
  · exact Or.inl h2
  · exact Or.inr ⟨g, cap, cur, e, Nat.zero_le _, h4⟩
theorem row_lenM {X : World} {B s n : Nat} {t : TypeId} {v : Value} {xs : List Value} (h : X.ownsRow B t s v n xs) : ∃ a c, v = .slice a n c := by
  rcases h.2 with ⟨rfl, h0⟩ | ⟨g, cap, cur, rfl, _⟩
  · exact ⟨none, 0, by rw [h0]⟩
  · exact ⟨_, _, rfl⟩
theorem row_below {X Y : World} {B s n : Nat} {t : TypeId} {v : Value} {xs : List Value} (h : X.ownsRow B t s v n xs) (hb : Below X.heap.size X Y) : Y.ownsRow B t s v n xs :=
  row_onM h fun G hG => by
    obtain ⟨_, cur, h2⟩ := row_blockM h hG
    exact hb.block G (Array.getElem?_eq_some_iff.1 h2).1
/-- what lies there when the room is written over -/
structure LmS (w : World) (gl : Nat) (l : List Int) (vc : Value) (cg : List Nat) (ps : List (List Int)) (vw : Value) (ws : List Value) (vq : Value) (X : World) : Prop where
  b : Below w.heap.size w X
  l1 : IsLf X gl l
  c : X.ownsRow 0 24 1 vc cg.length (ptrs cg)
  lv : Lvs X 0 cg ps
  wr : X.ownsRow 0 22 1 vw ws.length ws
  wb : Own X 0 vq l
theorem LmS.set {w : World} {gl : Nat} {l : List Int} {vc : Value} {cg : List Nat} {ps : List (List Int)} {vw : Value} {ws : List Value} {vq : Value} {X : World} (h : LmS w gl l vc cg ps vw ws vq X) {g : Nat} {cs : Array Value} {m : Nat × Nat} (hg : X.heap[g]? = some (.cells cs 5 m)) (hw : w.heap.size ≤ g) (hne : vq.ownBlock ≠ some g) (i : Nat) (u : Value) : LmS w gl l vc cg ps vw ws vq (X.setCell ⟨g, i, none⟩ u) := by
  have hk : ∀ (k : Nat) (cs' : Array Value) (t : TypeId) (m' : Nat × Nat), X.heap[k]? = some (.cells cs' t m') → t ≠ 5 → (X.setCell ⟨g, i, none⟩ u).heap[k]? = X.heap[k]? := fun k cs' t m' hk ht => Below.heap_setCell X ⟨g, i, none⟩ u k (by rintro rfl; rw [hg] at hk; cases hk; exact ht rfl)
  refine ⟨h.b.setCell (p := ⟨g, i, none⟩) hw u, (hk _ _ _ _ h.l1 (by decide)).trans h.l1, row_onM h.c fun G hG => ?_, ⟨h.lv.1, fun j hj => ⟨(hk _ _ _ _ (h.lv.2 j hj).1 (by decide)).trans (h.lv.2 j hj).1, Nat.zero_le _⟩⟩, row_onM h.wr fun G hG => ?_, h.wb.kept (grown_set X g i u) (Or.inr hne)⟩
  · obtain ⟨_, cur, h2⟩ := row_blockM h.c hG
    exact hk _ _ _ _ h2 (by decide)
  · obtain ⟨_, cur, h2⟩ := row_blockM h.wr hG
    exact hk _ _ _ _ h2 (by decide)
theorem LmS.on {w : World} {gl : Nat} {l : List Int} {vc : Value} {cg : List Nat} {ps : List (List Int)} {vw : Value} {ws : List Value} {vq : Value} {X Y : World} (h : LmS w gl l vc cg ps vw ws vq X) (hb : Below X.heap.size X Y) : LmS w gl l vc cg ps vw ws vq Y :=
  ⟨h.b.trans (hb.mono h.b.size), h.l1.on hb, row_below h.c hb, h.lv.on hb, row_below h.wr hb, h.wb.below hb⟩
/-- a list of rows of bytes, and the row that holds them -/
def slv (p : Nat × Nat × Nat) : Value := .slice (some ⟨p.1, 0, none⟩) p.2.1 p.2.2
structure RsL (N : Nat) (L : List (Nat × Nat × Nat)) (va : Value) (X : World) : Prop where
  r : ∀ p ∈ L, RwX .u8 4096 X (slv p) ∧ N ≤ p.1 ∧ ∃ cs m, X.heap[p.1]? = some (.cells cs 5 m)
  d : (L.map (·.1)).Nodup
  a : X.ownsRow N 22 1 va L.length (L.map slv)
theorem RsL.on {N : Nat} {L : List (Nat × Nat × Nat)} {va : Value} {X Y : World} (h : RsL N L va X) (hb : Below X.heap.size X Y) : RsL N L va Y :=
  ⟨fun p hp => by
    obtain ⟨h1, h2, cs, m, h3⟩ := h.r p hp
    exact ⟨h1.below hb, h2, cs, m, (hb.block p.1 (Array.getElem?_eq_some_iff.1 h3).1).trans h3⟩, h.d, row_below h.a hb⟩
theorem RsL.lt {N : Nat} {L : List (Nat × Nat × Nat)} {va : Value} {X : World} (h : RsL N L va X) : ∀ p ∈ L, p.1 < X.heap.size := fun p hp => by
  obtain ⟨_, _, cs, m, h3⟩ := h.r p hp
  exact (Array.getElem?_eq_some_iff.1 h3).1
/-- some more rows that were made behind the others -/
theorem RsL.push {N : Nat} {L M : List (Nat × Nat × Nat)} {va : Value} {X : World} (h : RsL N L va X) (hM : ∀ p ∈ M, RwX .u8 4096 X (slv p) ∧ N ≤ p.1 ∧ ∃ cs m, X.heap[p.1]? = some (.cells cs 5 m)) (hd : ((L ++ M).map (·.1)).Nodup) (h0 : 0 < M.length) (h3 : M.length ≤ 3) (hl : L.length ≤ 1000000) (hN : N ≤ X.heap.size) :
    ∃ g c W', (Builtin.append_ #[31, 31] 31 #[va, .slice (some ⟨X.heap.size, 0, none⟩) M.length M.length]).run Tryd.prog (X.alloc (.cells (M.map slv).toArray 22)) = .ok (.slice (some ⟨g, 0, none⟩) (L.length + M.length) c) W' ∧ RsL N (L ++ M) (.slice (some ⟨g, 0, none⟩) (L.length + M.length) c) W' ∧ Below N X W' := by
  obtain ⟨i, hi, hz, hs, hby⟩ := info_bs
  have hr := World.ownsRow.alloc h.a (.cells (M.map slv).toArray 22)
  have x1 := (Below.refl X.heap.size X).alloc (Nat.le_refl _) (.cells (M.map slv).toArray 22)
  have h1 := h.on x1
  obtain ⟨g, c', W', hrun, ho, hg, _, _⟩ := run_append_lies (P := Tryd.prog) (X.alloc (.cells (M.map slv).toArray 22)) 31 31 N 22 i (.slice none 0 0) 1 24 Tryd.underlying31 hi hz hs hby rfl (by decide)
    va L.length (L.map slv) hr ⟨X.heap.size, 0, none⟩ M.length M.length (M.map slv) (by simp)
    (fun j u hj => by
      rw [Addr.add_lit, Nat.zero_add]
      refine (World.cell?_alloc_mark X _ _ (0, 0) j).trans ?_
      simpa using hj)
    (fun u hu => by
      obtain ⟨p, _, rfl⟩ := List.mem_map.1 hu
      rfl) (by omega) (by unfold maxLen; omega) (by omega) (by simp; omega) _ rfl
  have hb : Below N X W' := ((Below.refl N X).alloc hN _).grown hg (by simp; omega) (fun k hk => (hr.lt k hk).1)
  have hne : ∀ p ∈ L ++ M, (slv p).ownBlock ≠ va.ownBlock := fun p hp e => by
    have hp3 : ∃ cs m, X.heap[p.1]? = some (.cells cs 5 m) := by
      rcases List.mem_append.1 hp with hp | hp
      · exact (h.r p hp).2.2
      · exact (hM p hp).2.2
    obtain ⟨cs, m, h3⟩ := hp3
    obtain ⟨_, cur, h4⟩ := row_blockM h.a (G := p.1) e.symm
    rw [h3] at h4
    cases h4
  refine ⟨g, c', W', hrun, ⟨fun p hp => ?_, hd, ?_⟩, hb⟩
  · have hp3 : RwX .u8 4096 X (slv p) ∧ N ≤ p.1 ∧ ∃ cs m, X.heap[p.1]? = some (.cells cs 5 m) := by
      rcases List.mem_append.1 hp with hp | hp
      · exact h.r p hp
      · exact hM p hp
    obtain ⟨k1, k2, cs, m, k3⟩ := hp3
    have hlt := (Array.getElem?_eq_some_iff.1 k3).1
    refine ⟨(k1.below x1).kept hg (Or.inr (hne p hp)), k2, cs, m, ?_⟩
    exact (hg.block p.1 (by simp; omega) (fun e => hne p hp e)).trans ((x1.block p.1 hlt).trans k3)
  · have e1 : (L ++ M).length = L.length + M.length := List.length_append
    have e2 : (L ++ M).map slv = L.map slv ++ M.map slv := List.map_append
    rw [e1, e2]
    exact ho
theorem inj_fst {L : List (Nat × Nat × Nat)} (h : (L.map (·.1)).Nodup) {p q : Nat × Nat × Nat} (hp : p ∈ L) (hq : q ∈ L) (e : p.1 = q.1) : p = q := by
  induction L with
  | nil => cases hp
  | cons a r ih =>
    simp only [List.map_cons, List.nodup_cons, List.mem_map] at h
    rcases List.mem_cons.1 hp with e1 | hp1
    · rcases List.mem_cons.1 hq with e2 | hq1
      · rw [e1, e2]
      · exact absurd ⟨q, hq1, by rw [← e, e1]⟩ h.1
    · rcases List.mem_cons.1 hq with e2 | hq1
      · exact absurd ⟨p, hp1, by rw [e, e2]⟩ h.1
      · exact ih h.2 hp1 hq1
/-- one of the rows is written or grown -/
theorem RsL.grow {N : Nat} {L : List (Nat × Nat × Nat)} {va : Value} {X Y : World} (h : RsL N L va X) {p : Nat × Nat × Nat} (hp : p ∈ L) (hg : X.grownBy Y (some p.1)) (hr : RwX .u8 4096 Y (slv p)) (ht : ∃ cs m, Y.heap[p.1]? = some (.cells cs 5 m)) : RsL N L va Y := by
  refine ⟨fun q hq => ?_, h.d, row_onM h.a fun G hG => ?_⟩
  · obtain ⟨k1, k2, cs, m, k3⟩ := h.r q hq
    by_cases e : q = p
    · subst e
      exact ⟨hr, k2, ht⟩
    · have hne : q.1 ≠ p.1 := fun e1 => e (inj_fst h.d hq hp e1)
      refine ⟨k1.kept hg (Or.inr (by show some q.1 ≠ some p.1; exact fun e2 => hne (Option.some.inj e2))), k2, cs, m, ?_⟩
      exact (hg.block q.1 (Array.getElem?_eq_some_iff.1 k3).1 (fun e2 => hne (Option.some.inj e2))).trans k3
  · obtain ⟨_, cur, h2⟩ := row_blockM h.a hG
    refine hg.block G (Array.getElem?_eq_some_iff.1 h2).1 (fun e => ?_)
    have e := Option.some.inj e
    subst e
    obtain ⟨_, _, cs, m, k3⟩ := h.r p hp
    rw [k3] at h2
    cases h2

theorem cells_set {X : World} {g : Nat} {cs : Array Value} {t : TypeId} {m : Nat × Nat} (h : X.heap[g]? = some (.cells cs t m)) (i : Nat) (v : Value) : ∃ cs', (X.setCell ⟨g, i, none⟩ v).heap[g]? = some (.cells cs' t m) := by
  have hl : g < X.heap.size := (Array.getElem?_eq_some_iff.1 h).1
  rw [Array.getElem?_eq_getElem hl] at h
  have e := Option.some.inj h
  show ∃ cs', (X.heap.modify g _)[g]? = _
  rw [Array.getElem?_eq_getElem (by rw [Array.size_modify]; exact hl), Array.getElem_modify_self, e]
  exact ⟨_, rfl⟩
theorem RwX.putAny {N : Nat} {W : World} {g n cap : Nat} (h : RwX .u8 N W (.slice (some ⟨g, 0, none⟩) n cap)) (i : Nat) (hi : i < cap) (x : Int) : RwX .u8 N (W.setCell ⟨g, i, none⟩ (.int .u8 x)) (.slice (some ⟨g, 0, none⟩) n cap) := by
  rcases h with h | ⟨g', n', cap', e, h1, h2, h3, h4, h5⟩
  · cases h
  · cases e
    refine Or.inr ⟨g, n, cap, rfl, h1, by rw [size_set]; exact h2, h3, fun j hj => ⟨?_, ?_⟩, fun j hj => ?_⟩
    · rw [cell_set (h4 i hi).1]
      split
      · rfl
      · exact (h4 j hj).1
    · rw [frozen_set]
      exact (h4 j hj).2
    · rw [cell_set (h4 i hi).1]
      split
      · exact ⟨x, rfl⟩
      · exact h5 j hj
theorem RwX.cellX {N : Nat} {W : World} {g n cap : Nat} (h : RwX .u8 N W (.slice (some ⟨g, 0, none⟩) n cap)) : n ≤ cap ∧ n ≤ N ∧ ∀ i, i < cap → (W.cell? ⟨g, i, none⟩).isSome = true ∧ W.frozen? ⟨g, i, none⟩ = false := by
  rcases h with h | ⟨g', n', cap', e, h1, h2, h3, h4, h5⟩
  · cases h
  · cases e
    exact ⟨h3, h1, h4⟩
theorem nodup_ne {L : List (Nat × Nat × Nat)} (h : (L.map (·.1)).Nodup) {i j : Nat} {p q : Nat × Nat × Nat} (hi : L[i]? = some p) (hj : L[j]? = some q) (hne : i ≠ j) : p.1 ≠ q.1 := by
  intro e
  obtain ⟨h1, e1⟩ := List.getElem?_eq_some_iff.1 hi
  obtain ⟨h2, e2⟩ := List.getElem?_eq_some_iff.1 hj
  have hpw := List.pairwise_iff_getElem.1 h
  rcases Nat.lt_or_gt_of_ne hne with hlt | hlt
  · have := hpw i j (by simpa using h1) (by simpa using h2) hlt
    simp only [List.getElem_map, e1, e2] at this
    exact this e
  · have := hpw j i (by simpa using h2) (by simpa using h1) hlt
    simp only [List.getElem_map, e1, e2] at this
    exact this e.symm
/-- the first k rows are written over, each with its number -/
def Wd (L : List (Nat × Nat × Nat)) (k : Nat) (X : World) : Prop := ∀ (j : Nat) (p : Nat × Nat × Nat), j < k → L[j]? = some p → ∀ i, i < p.2.1 → X.cell? ⟨p.1, i, none⟩ = some (.int .u8 (IntKind.u8.wrap (j : Int)))
theorem Wd.on {L : List (Nat × Nat × Nat)} {k N : Nat} {va : Value} {X Y : World} (h : Wd L k X) (hr : RsL N L va X) (hb : Below X.heap.size X Y) : Wd L k Y := fun j p hj hp i hi =>
  (hb.cell (p := ⟨p.1, i, none⟩) (hr.lt p (List.mem_of_getElem? hp))).trans (h j p hj hp i hi)
/-- a row of theirs is written at a place of its room -/
theorem RsL.put {N : Nat} {L : List (Nat × Nat × Nat)} {va : Value} {X : World} (h : RsL N L va X) {g n c : Nat} (hp : (g, n, c) ∈ L) (i : Nat) (hi : i < c) (x : Int) : RsL N L va (X.setCell ⟨g, i, none⟩ (.int .u8 x)) := by
  obtain ⟨k1, _, cs, m, k3⟩ := h.r _ hp
  obtain ⟨cs', h'⟩ := cells_set k3 i (.int .u8 x)
  exact h.grow hp (grown_set X g i _) (k1.putAny i hi x) ⟨cs', m, h'⟩
theorem Wd.other {L : List (Nat × Nat × Nat)} {k g : Nat} {X : World} (h : Wd L k X) (hg : ∀ j p, j < k → L[j]? = some p → p.1 ≠ g) (i : Nat) (v : Value) : Wd L k (X.setCell ⟨g, i, none⟩ v) := fun j p hj hp i' hi' =>
  (World.cell?_of_block (Below.heap_setCell X ⟨g, i, none⟩ v p.1 (hg j p hj hp))).trans (h j p hj hp i' hi')
theorem Wd.spare {L : List (Nat × Nat × Nat)} {k g n c N : Nat} {va : Value} {X : World} (h : Wd L (k + 1) X) (hr : RsL N L va X) (hp : L[k]? = some (g, n, c)) (i : Nat) (h1 : n ≤ i) (h2 : i < c) (v : Value) : Wd L (k + 1) (X.setCell ⟨g, i, none⟩ v) := fun j p hj hq i' hi' => by
  by_cases e : j = k
  · subst e
    rw [hp] at hq
    cases hq
    have hx := ((hr.r _ (List.mem_of_getElem? hp)).1).cellX.2.2 i h2
    have hi2 : i' < n := hi'
    rw [cell_set hx.1, if_neg (by omega)]
    exact h j _ hj hp i' hi'
  · exact (World.cell?_of_block (Below.heap_setCell X ⟨g, i, none⟩ v p.1 (nodup_ne hr.d hq hp e))).trans (h j p hj hq i' hi')
/-- the local row: the one of the list, or one of its own -/
def Gw (N : Nat) (L : List (Nat × Nat × Nat)) (g n c i : Nat) (va v : Value) (X : World) : Prop := ∃ gv m cv, v = .slice (some ⟨gv, 0, none⟩) m cv ∧ RwX .u8 (4096 + i) X v ∧ ((gv = g ∧ cv = c ∧ n ≤ m) ∨ ((∀ p ∈ L, p.1 ≠ gv) ∧ N ≤ gv ∧ va.ownBlock ≠ some gv ∧ ∃ cs m, X.heap[gv]? = some (.cells cs 5 m)))
theorem RsL.off {N : Nat} {L : List (Nat × Nat × Nat)} {va : Value} {X : World} (h : RsL N L va X) {g : Nat} (h1 : ∀ p ∈ L, p.1 ≠ g) (h2 : va.ownBlock ≠ some g) (i : Nat) (v : Value) : RsL N L va (X.setCell ⟨g, i, none⟩ v) :=
  ⟨fun p hp => by
    obtain ⟨k1, k2, cs, m, k3⟩ := h.r p hp
    exact ⟨k1.kept (grown_set X g i v) (Or.inr (fun e => h1 p hp (Option.some.inj e))), k2, cs, m, (Below.heap_setCell X ⟨g, i, none⟩ v p.1 (h1 p hp)).trans k3⟩, h.d, row_onM h.a fun G hG => Below.heap_setCell X ⟨g, i, none⟩ v G (fun e => h2 (hG.trans (congrArg some e)))⟩
/-- one byte more behind the local row -/
theorem Gw.push {N : Nat} {L : List (Nat × Nat × Nat)} {g n c i k : Nat} {va v : Value} {X : World} (hG : Gw N L g n c i va v X) (hr : RsL N L va X) (hw : Wd L (k + 1) X) (hp : L[k]? = some (g, n, c)) (hi : i ≤ 8) (hN : N ≤ X.heap.size) :
    ∃ a m c' W', (Builtin.append_ #[22, 22] 22 #[v, .slice (some ⟨X.heap.size, 0, none⟩) 1 1]).run Tryd.prog (X.alloc (.cells #[.int .u8 238] 5)) = .ok (.slice a m c') W' ∧ Gw N L g n c (i + 1) va (.slice a m c') W' ∧ RsL N L va W' ∧ Wd L (k + 1) W' ∧ Below N X W' := by
  obtain ⟨gv, m, cv, rfl, hx, hgv⟩ := hG
  have x1 := (Below.refl X.heap.size X).alloc (Nat.le_refl _) (.cells #[.int .u8 238] 5)
  have hr1 := hr.on x1
  have hw1 := hw.on hr x1
  have hx1 := hx.below x1
  obtain ⟨g', n', c', v', W', e, hrun, hcase⟩ := pushX_u8k X (4096 + i) _ 238 22 hx (by omega) (by intro h; cases h)
  cases e
  have hpm := List.mem_of_getElem? hp
  have hgN : N ≤ g := (hr.r _ hpm).2.1
  rcases hcase with ⟨rfl, hroom, rfl⟩ | ⟨g2, c2, rfl, h2, h3, h4, h5⟩
  · have hput : RwX .u8 (4096 + (i + 1)) ((X.alloc (.cells #[.int .u8 238] 5)).setCell ⟨gv, m, none⟩ (.int .u8 238)) (.slice (some ⟨gv, 0, none⟩) (m + 1) cv) := rwX_put hx1 238 hroom
    rcases hgv with ⟨rfl, rfl, hnm⟩ | ⟨q1, q2, q3, cs, mm, q4⟩
    · refine ⟨_, _, _, _, hrun, ⟨_, _, _, rfl, hput, Or.inl ⟨rfl, rfl, by omega⟩⟩, hr1.put hpm m (by omega) 238, hw1.spare hr1 hp m hnm (by omega) _, ?_⟩
      exact (x1.mono hN).setCell (p := ⟨gv, m, none⟩) hgN _
    · have hl : gv < X.heap.size := (Array.getElem?_eq_some_iff.1 q4).1
      obtain ⟨cs', q5⟩ := cells_set ((x1.block gv hl).trans q4) m (.int .u8 238)
      refine ⟨_, _, _, _, hrun, ⟨_, _, _, rfl, hput, Or.inr ⟨q1, q2, q3, cs', mm, q5⟩⟩, hr1.off q1 q3 m _, hw1.other (fun j p _ hq => q1 p (List.mem_of_getElem? hq)) m _, ?_⟩
      exact (x1.mono hN).setCell (p := ⟨gv, m, none⟩) q2 _
  · refine ⟨_, _, _, _, hrun, ⟨_, _, _, rfl, h3, Or.inr ⟨fun p hp e => ?_, by omega, fun e => ?_, h5⟩⟩, hr.on h4, hw.on hr h4, h4.mono hN⟩
    · have := hr.lt p hp
      omega
    · obtain ⟨_, cur, h6⟩ := row_blockM hr.a e
      have := (Array.getElem?_eq_some_iff.1 h6).1
      omega

end Go.Proofs.YtdklfodccdmmlaaDoor
end

section
namespace Go.Proofs.YtdklfodccdmmlaaDoor
open Go.ChangeShapes Go.WideShapes Go.ChangeAt Go.RowKit
attribute [local go_sem] Oper.semAt_some

theorem cut_isB {w : World} {a0 : Option Addr} {cap : Nat} {l : List Int} (h : IsB w a0 cap l) {p : Nat × Nat} (h1 : p.1 < p.2) (h2 : p.2 ≤ l.length) : IsB w (some ⟨(a0.getD ⟨0, 0, none⟩).block, (a0.getD ⟨0, 0, none⟩).off + p.1, none⟩) (cap - p.1) ((l.take p.2).drop p.1) := by
  have h3 := (h.takeP (n := p.2)).loP (n := p.1)
  have h4 := h.1
  rw [if_neg (by omega)] at h3
  rcases h.2.2.1 with h5 | ⟨g, off, rfl, _⟩
  · rw [h5] at h2; simp at h2; omega
  · simpa [Addr.add_lit] using h3
theorem cti_at {l : List Int} {m : Nat} (hm : 1 ≤ m) : ∀ k, k ≤ (prs l m).length → ∃ b, CtI l m k b
  | 0, _ => ⟨0, CtI.zero l m⟩
  | k + 1, h => by
    obtain ⟨b, hb⟩ := cti_at (l := l) hm k (by omega)
    exact ⟨_, (hb.next hm (by omega)).2.2.2⟩
theorem prs_in {l : List Int} {m k : Nat} (hm : 1 ≤ m) (hk : k < (prs l m).length) : ∃ b e, (prs l m).getD k (0, 0) = (b, e) ∧ b < e ∧ e ≤ l.length ∧ (pcs l m).getD k [] = (l.take e).drop b := by
  obtain ⟨b, hb⟩ := cti_at (l := l) hm k (by omega)
  obtain ⟨h1, h2, h3, _⟩ := hb.next hm hk
  exact ⟨b, _, h3, h1, h2, pcs_at hk h3⟩
theorem few_flatM {E : List (List Int)} (h : ∀ x ∈ E, 0 < x.length) : E.length ≤ E.flatten.length := by
  induction E with
  | nil => exact Nat.le_refl _
  | cons a r ih =>
    have h1 := h a (by simp)
    have h2 := ih (fun x hx => h x (by simp [hx]))
    simp only [List.length_cons, List.flatten_cons, List.length_append]
    omega
theorem pcs_few {l : List Int} {m : Nat} (hm : 1 ≤ m) : (pcs l m).length ≤ l.length ∧ ∀ p ∈ pcs l m, p.length ≤ l.length := by
  have hin : ∀ p ∈ pcs l m, 0 < p.length ∧ p.length ≤ l.length := fun p hp => by
    obtain ⟨k, hk, e⟩ := List.getElem_of_mem hp
    have hk2 : k < (prs l m).length := by rw [← pcs_prs]; exact hk
    obtain ⟨b, e', _, h1, h2, h3⟩ := prs_in hm hk2
    have e3 : (pcs l m).getD k [] = p := by rw [List.getD_eq_getElem?_getD, List.getElem?_eq_getElem hk]; exact e
    rw [← e3, h3, List.length_drop, List.length_take]
    omega
  refine ⟨?_, fun p hp => (hin p hp).2⟩
  have := few_flatM (fun p hp => (hin p hp).1)
  rwa [pcs_flat hm] at this
/-- what both Cuts answer, whatever is asked -/
theorem cut_both (l : List Int) (mo : Int) (hl : l.length ≤ 4096) (hin : ∀ x ∈ l, 0 ≤ x ∧ x ≤ 255) :
    ∃ (e1 : Int) (ps : List (List Int)) (ws : Option Addr → Nat → List Value), ps.length ≤ 4096 ∧ (∀ p ∈ ps, p.length ≤ 4096 ∧ ∀ x ∈ p, 0 ≤ x ∧ x ≤ 255) ∧
      (∀ X a c, IsN X a c l → Wt X → Calls Tryd.prog 6 #[.slice a l.length c, .int .i64 mo] X fun y w' => ∃ v gs, y = .returned (.tuple #[v, .int .i64 e1]) ∧ w'.ownsRow 0 24 1 v gs.length (ptrs gs) ∧ Lvs w' 0 gs ps ∧ Below X.heap.size X w') ∧
      (∀ X a c, IsB X a c l → Calls Tryd.prog 7 #[.slice a l.length c, .int .i64 mo] X fun y w' => ∃ v e2, y = .returned (.tuple #[v, .int .i64 e2]) ∧ w'.ownsRow 0 22 1 v (ws a c).length (ws a c) ∧ Below X.heap.size X w') ∧
      (∀ a c i, i < ps.length → (ws a c).length = ps.length ∧ ∃ g off n c', (ws a c)[i]? = some (.slice (some ⟨g, off, none⟩) n c') ∧ n = (ps.getD i []).length ∧ ∀ X, IsB X a c l → IsB X (some ⟨g, off, none⟩) c' (ps.getD i [])) := by
  by_cases h : mo < 1 ∨ 4096 < mo
  · refine ⟨80, [], fun _ _ => [], by simp, by simp, fun X a c _ _ => ?_, fun X a c _ => ?_, fun a c i hi => by simp at hi⟩
    · refine (CutE_at a l.length c mo X h).mono ?_
      rintro y w' ⟨rfl, rfl⟩
      exact ⟨_, [], rfl, ⟨rfl, Or.inl ⟨rfl, rfl⟩⟩, ⟨rfl, fun i hi => by simp at hi⟩, Below.refl _ _⟩
    · refine (RCutE_at a l.length c mo X h).mono ?_
      rintro y w' ⟨rfl, rfl⟩
      exact ⟨_, _, rfl, ⟨rfl, Or.inl ⟨rfl, rfl⟩⟩, Below.refl _ _⟩
  · obtain ⟨m, rfl⟩ : ∃ m : Nat, mo = (m : Int) := ⟨mo.toNat, by omega⟩
    have h1 : 1 ≤ m := by omega
    have h2 : m ≤ 4096 := by omega
    have hf := pcs_few (l := l) h1
    refine ⟨0, pcs l m, fun a c => (prs l m).map (cutV (a.getD ⟨0, 0, none⟩).block (a.getD ⟨0, 0, none⟩).off c), by omega, fun p hp => ⟨by have := hf.2 p hp; omega, pcs_in hin p hp⟩, fun X a c hN hW => ?_, fun X a c hB => ?_, fun a c i hi => ⟨by rw [List.length_map, pcs_prs], ?_⟩⟩
    · refine (Cut_at a c l m X hN hW h1 h2 (by omega)).mono ?_
      rintro y w' ⟨v, gs, rfl, hr, hv, hb⟩
      exact ⟨v, gs, rfl, row_lowM hr, ⟨hv.1, fun i hi => ⟨(hv.2 i hi).1, Nat.zero_le _⟩⟩, hb⟩
    · refine (RCut_at a c l m X hB h1 h2 (by omega)).mono ?_
      rintro y w' ⟨v, rfl, hr, hb⟩
      refine ⟨v, _, rfl, ?_, hb⟩
      have := row_lowM hr
      rw [List.length_map]
      exact this
    · have hi2 : i < (prs l m).length := by rw [← pcs_prs]; exact hi
      obtain ⟨b, e, k1, k2, k3, k4⟩ := prs_in h1 hi2
      have k5 : (prs l m)[i]? = some (b, e) := by rw [List.getD_eq_getElem?_getD, List.getElem?_eq_getElem hi2] at k1; rw [List.getElem?_eq_getElem hi2]; exact congrArg some k1
      refine ⟨(a.getD ⟨0, 0, none⟩).block, (a.getD ⟨0, 0, none⟩).off + b, e - b, c - b, by rw [List.getElem?_map, k5]; rfl, ?_, fun X hB => ?_⟩
      · rw [k4, List.length_drop, List.length_take]; omega
      · rw [k4]
        have := cut_isB hB (p := (b, e)) k2 k3
        exact this

end Go.Proofs.YtdklfodccdmmlaaDoor
end

section
namespace Go.Proofs.YtdklfodccdmmlaaDoor
open Go.ChangeShapes Go.WideShapes Go.ChangeAt Go.RowKit
attribute [local go_sem] Oper.semAt_some

theorem size_strM (l : List Int) : (strOfNums l).size = l.length := by simp [strOfNums, ByteArray.size]
theorem str_appM (a b : List Int) : strOfNums a ++ strOfNums b = strOfNums (a ++ b) := by
  apply ByteArray.ext
  simp [strOfNums]
theorem str_abM (l : List Int) : strOfNums (l ++ [91, 92]) = strOfNums l ++ ⟨#[91, 92]⟩ := by rw [← str_appM]; rfl
theorem own_preM {W : World} {B : Nat} {g n c : Nat} {l m : List Int} (h : Own W B (.slice (some ⟨g, 0, none⟩) n c) (l ++ m)) (hl : ∀ x ∈ l ++ m, 0 ≤ x ∧ x ≤ 255) (hn : (l ++ m).length ≤ 140737488351232) : IsN W (some ⟨g, 0, none⟩) c l := by
  obtain ⟨a, c', e, hB⟩ := h.isB hl hn
  cases e
  have h2 := (h.lies hl).pre
  refine ⟨IsB.of h2 (by have := hB.1; rw [List.length_append] at this; omega) (by rw [List.length_append] at hn; omega), fun e => by cases e⟩
theorem half_wrapM {n : Nat} (h : n ≤ 1048576) : wrap64 (Int.tdiv (n : Int) 2) = ((n / 2 : Nat) : Int) ∧ IntKind.i64.wrap (Int.tdiv (n : Int) 2) = ((n / 2 : Nat) : Int) ∧ Int.tdiv (n : Int) 2 = ((n / 2 : Nat) : Int) := by
  have e : Int.tdiv (n : Int) 2 = ((n / 2 : Nat) : Int) := by rw [Int.tdiv_eq_ediv_of_nonneg (by omega)]; omega
  rw [e]
  exact ⟨by unfold wrap64; omega, by rw [IntKind.wrap_i64]; omega, rfl⟩

set_option maxRecDepth 100000 in
set_option maxHeartbeats 8000000 in
theorem LeafMemory_any (a0 : Option Addr) (cap : Nat) (l : List Int) (mo : Int) (w : World) (hB : IsN w a0 cap l) (_hm : (Lit.int .i64 mo).wf = true) (hW : Wt w) :
    Calls Tryd.prog 3 #[.slice a0 l.length cap, .int .i64 mo] w fun e w' => e = .returned (.bool true) ∧ Below w.heap.size w w' := by
  clear _hm
  have HN := hide fun (X : World) (hx : Below w.heap.size w X) => hB.below hx (Nat.le_refl _)
  have HIN : Hid (∀ x ∈ l, 0 ≤ x ∧ x ≤ 255) := hide hB.1.2.2.2
  have HW := hide fun (X : World) (hx : Below w.heap.size w X) => hW.below hx
  have HF := hide (fixed8_at w hW)
  clear hW hB
  go_enter Tryd.func3, Tryd.ntmps3
  go_wp2_with fail
  refine (unhide HF).mono ?_
  rintro y w1 ⟨rfl, x1⟩
  dsimp only
  clear HF
  by_cases hl : l.length ≤ 4096
  case neg =>
    have c1 : (4096 : Int) < (l.length : Int) := by omega
    have c2 : 4096 < l.length := by omega
    have HX := hide x1
    go_wp2_with fail
    refine bodyPost_ret (results_tmp rfl _ _ _) rfl ⟨rfl, unhide HX⟩
  have c1 : ¬ (4096 : Int) < (l.length : Int) := by omega
  have c2 : ¬ 4096 < l.length := by omega
  obtain ⟨n2, hn2⟩ : ∃ n2, n2 = l.length + 2 := ⟨_, rfl⟩
  have hdi : (l.length : Int) + 2 = (n2 : Int) := by omega
  have hdw : IntKind.i64.wrap (n2 : Int) = (n2 : Int) := by rw [IntKind.wrap_i64]; omega
  obtain ⟨w2, r2, o2, x2⟩ := make_u8M w1 n2 (by omega)
  have D2 := x1.trans (x2.mono x1.size)
  obtain ⟨v3, w3, r3, o3, x3, _, _⟩ := appG 22 o2 x2.size (unhide HN w2 D2).1 (by simp; omega)
  rw [List.nil_append] at o3
  obtain ⟨va, NN, vc, rfl⟩ : ∃ a k c, v3 = .slice a k c := by obtain ⟨a, c, h⟩ := row_lenM o3; exact ⟨a, _, c, h⟩
  have x23 := x2.trans x3
  obtain ⟨v4, w4, r4, o4, x4⟩ := o3.push2 91 92 (by omega) x23.size
  obtain ⟨gf, cf, rfl, hgf, hgl, hcf⟩ := o4.form (by simp)
  have x14 := x23.trans x4
  have D4 := x1.trans (x14.mono x1.size)
  have hll : (l ++ [91, 92]).length = l.length + 2 := by simp
  have hin2 : ∀ x ∈ l ++ [91, 92], 0 ≤ x ∧ x ≤ 255 := fun x hx => by
    rcases List.mem_append.1 hx with h | h
    · exact unhide HIN x h
    · simp at h; omega
  have N4 := own_preM o4 hin2 (by rw [hll]; omega)
  have hin2 := hide hin2
  rw [hll] at o4 r4 hcf
  rw [← hn2] at o4 r4 hcf
  have R3 := hide r3
  have R4 := hide r4
  have HO4 := hide o4
  have HGF : Hid (w.heap.size ≤ gf) := hide (Nat.le_trans x1.size hgf)
  have HNw := hide (New_at (some ⟨gf, 0, none⟩) cf l w4 N4 (unhide HW w4 D4) hl)
  have q1 : l.length ≤ cf := by omega
  have q2 : (l.length : Int) ≤ (cf : Int) := by omega
  have HN2 := hide hn2
  have HD4 := hide D4
  clear r3 r4 o2 o3 o4 x2 x3 x4 x23 x14 D2 D4 N4 hgf hll x1 hcf hn2
  go_wp2_with (first | (at_builtin; refine wpList_append_known rfl _ _ 22 22 rfl _ _ rfl rfl _ _ (unhide R3) ?_; clear R3) | (at_builtin; refine wpList_append_known rfl _ _ 22 22 rfl _ _ rfl rfl _ _ (unhide R4) ?_))
  refine (unhide HNw).mono ?_
  rintro y w5 ⟨gl, rfl, lf5, _, x5⟩
  dsimp only
  obtain ⟨e1, ps, ws, hps, hpb, hC1, hC2, hC3⟩ := cut_both l mo hl (unhide HIN)
  have D5 := (unhide HD4).trans (x5.mono (unhide HD4).size)
  have o5 := (unhide HO4).below x5
  have N5 := own_preM (l := l) (m := [91, 92]) o5 (unhide hin2) (by simp; omega)
  have HC := hide (hC1 w5 (some ⟨gf, 0, none⟩) cf N5 (unhide HW w5 D5))
  have HPS := hide (And.intro hps hpb)
  have HC2 := hide hC2
  have HC3 := hide hC3
  clear HNw hC1 hC2 hC3 hps hpb N5 HO4 HD4 r2 R4
  go_wp2_with fail
  refine (unhide HC).mono ?_
  rintro y w6 ⟨vC, gs, rfl, rc6, lv6, x6⟩
  dsimp only
  have D6 := D5.trans (x6.mono D5.size)
  have lf6 := lf5.on x6
  have o6 := o5.below x6
  obtain ⟨v7, w7, r7, o7, x7⟩ := run_copy_own w6 a0 cap l 22 (unhide HN w6 D6).1
  obtain ⟨qa, qc, rfl⟩ := row_lenM o7
  have D7 := D6.trans (x7.mono D6.size)
  have i7 : IsB w7 qa qc l := by
    obtain ⟨a, c, e, h⟩ := o7.isB (unhide HIN) (by omega)
    cases e
    exact h
  have HR := hide (unhide HC2 w7 qa qc i7)
  have R7 := hide r7
  obtain ⟨ca, cc, rfl⟩ := row_lenM rc6
  have lf7 := lf6.on x7
  have rc7 := row_below rc6 x7
  have lv7 := lv6.on x7
  have o7f := o6.below x7
  have hgf7 : gf < w6.heap.size := by
    obtain ⟨_, cur, h⟩ := row_blockM o6 (G := gf) rfl
    exact (Array.getElem?_eq_some_iff.1 h).1
  have hqne : (Value.slice qa l.length qc).ownBlock ≠ some gf := fun e => by
    have := (row_blockM o7 e).1
    omega
  have HQN := hide hqne
  clear HC HC2 r7 i7 lf5 lf6 rc6 lv6 o5 o6 x5 x6 D5 hgf7 hqne
  go_wp2_with (at_builtin; refine wpList_append_known rfl _ _ 22 22 rfl _ _ rfl rfl _ _ (unhide R7) ?_)
  refine (unhide HR).mono ?_
  rintro y w8 ⟨vW, e2, rfl, rw8, x8⟩
  dsimp only
  obtain ⟨wa, wqc, rfl⟩ := row_lenM rw8
  have D8 := D7.trans (x8.mono D7.size)
  have o8 := o7f.below x8
  have S8 : Hid (LmS w gl l (.slice ca gs.length cc) gs ps (.slice wa (ws qa qc).length wqc) (ws qa qc) (.slice qa l.length qc) w8) := hide ⟨D8, lf7.on x8, row_below rc7 x8, lv7.on x8, rw8, row_lowM (row_below o7 x8)⟩
  have kb := str_bs w8 a0 cap l (unhide HN w8 D8).1.2.2.1
  have kf : (convert 22 9 (.slice (some ⟨gf, 0, none⟩) n2 cf)).run Tryd.prog w8 = .ok (.string (strOfNums l ++ ⟨#[91, 92]⟩)) w8 := by
    obtain ⟨a, c, e, h⟩ := Own.isB o8 (unhide hin2) (by simp; omega)
    simp only [Value.slice.injEq] at e
    obtain ⟨rfl, _, rfl⟩ := e
    have := str_bs w8 (some ⟨gf, 0, none⟩) cf (l ++ [91, 92]) h.2.2.1
    have e2 : (l ++ [91, 92] : List Int).length = n2 := by rw [unhide HN2]; simp
    rw [str_abM, e2] at this
    exact this
  have hs1 : ¬ 9223372036854775807 < (strOfNums l).size + 2 := by rw [size_strM]; omega
  generalize strOfNums l = Sl at *
  have HOF : Hid (∃ L : List Int, L.length = n2 ∧ Own w8 0 (.slice (some ⟨gf, 0, none⟩) n2 cf) L) := hide ⟨l ++ [91, 92], by rw [unhide HN2]; simp, row_lowM o8⟩
  clear HR R7 lf7 rc7 lv7 o7f o7 x7 x8 rw8 o8 D6 D7 D8
  go_upto_region 11 with fail
  clear kb kf hs1
  go_wp2_with fail
  go_loopw [12, 75] (fun v12 v75 wx => (∃ z, v12 = z) ∧ ∃ i : Nat, v75 = .int .i64 (i : Int) ∧ i ≤ n2 ∧ Hid (LmS w gl l (.slice ca gs.length cc) gs ps (.slice wa (ws qa qc).length wqc) (ws qa qc) (.slice qa l.length qc) wx) ∧ Hid (∃ L : List Int, L.length = n2 ∧ Own wx 0 (.slice (some ⟨gf, 0, none⟩) n2 cf) L)) (fun _ v75 _ => n2 - (intOf v75).toNat)
  case atStart => exact ⟨⟨_, rfl⟩, 0, rfl, Nat.zero_le _, S8, HOF⟩
  case round =>
    clear S8 HOF
    obtain ⟨⟨z12, rfl⟩, i, rfl, hi, HS, HL⟩ := hrel
    by_cases c : i < n2
    · have t1 : (i : Int) < (n2 : Int) := by omega
      obtain ⟨L, hL, oL⟩ := unhide HL
      obtain ⟨e1', e2'⟩ := oL.cell i (by omega)
      obtain ⟨cv, e3'⟩ := Option.isSome_iff_exists.1 e1'
      obtain ⟨_, cur, hbk⟩ := row_blockM oL (G := gf) rfl
      have HS2 := hide ((unhide HS).set hbk (unhide HGF) (unhide HQN) i (.int .u8 120))
      have HL2 : Hid (∃ L : List Int, L.length = n2 ∧ Own (wr.setCell ⟨gf, i, none⟩ (.int .u8 120)) 0 (.slice (some ⟨gf, 0, none⟩) n2 cf) L) := hide ⟨L.set i 120, by simp [hL], oL.set i 120⟩
      have hn2 := unhide HN2
      have hiw : IntKind.i64.wrap ((i : Int) + 1) = (i : Int) + 1 := by rw [IntKind.wrap_i64]; omega
      clear HS HL oL hL hbk hn2
      go_wp2_with fail
      go_roundw
      case rel => exact ⟨⟨_, rfl⟩, i + 1, by go_num, by omega, HS2, HL2⟩
      case measure =>
        show n2 - ((i : Int) + 1).toNat < n2 - (i : Int).toNat
        omega
    · have t1 : ¬ (i : Int) < (n2 : Int) := by omega
      have hS := unhide HS
      obtain ⟨hf1, hf2, hf3⟩ := half_wrapM (n := l.length) (by omega)
      have hfl : l.length / 2 ≤ l.length := by omega
      have HH2 : Hid (l.length / 2 * 2 ≤ l.length) := hide (by omega)
      have HSp := hide (Split_at gl (l.length / 2) l wr hS.l1 (unhide HIN) hl (by omega) (unhide HW wr hS.b))
      generalize l.length / 2 = hv at *
      clear HL hS hi c
      go_wp2_with fail
      refine (unhide HSp).mono ?_
      rintro y X1 ⟨gx, gy, rfl, lx, ly, xS⟩
      dsimp only
      have S1 := (unhide HS).on xS
      have HS1 := hide S1
      have HLX := hide (And.intro lx ly)
      clear HS HSp xS S1 lx ly
      have A0 : Hid (RsL X1.heap.size [] (.slice none 0 0) X1) := hide ⟨fun p hp => (List.not_mem_nil hp).elim, List.nodup_nil, ⟨rfl, Or.inl ⟨rfl, rfl⟩⟩⟩
      have hhl : (l.take hv).length ≤ 4096 ∧ (l.drop hv).length ≤ 4096 := by rw [List.length_take, List.length_drop]; omega
      have hht : ∀ x ∈ l.take hv, 0 ≤ x ∧ x ≤ 255 := fun x hx => unhide HIN x (List.mem_of_mem_take hx)
      have hhd : ∀ x ∈ l.drop hv, 0 ≤ x ∧ x ≤ 255 := fun x hx => unhide HIN x (List.mem_of_mem_drop hx)
      have HBy : Hid (∀ X, Below X1.heap.size X1 X → (Calls Tryd.prog 9 #[.pointer (some ⟨gl, 0, none⟩)] X fun y w' => ∃ c, y = .returned (.slice (some ⟨X.heap.size, 0, none⟩) l.length c) ∧ (RwX .u8 4096 w' (.slice (some ⟨X.heap.size, 0, none⟩) l.length c) ∧ ∃ cs m, w'.heap[X.heap.size]? = some (.cells cs 5 m)) ∧ Below X.heap.size X w') ∧ (Calls Tryd.prog 9 #[.pointer (some ⟨gx, 0, none⟩)] X fun y w' => ∃ c, y = .returned (.slice (some ⟨X.heap.size, 0, none⟩) (l.take hv).length c) ∧ (RwX .u8 4096 w' (.slice (some ⟨X.heap.size, 0, none⟩) (l.take hv).length c) ∧ ∃ cs m, w'.heap[X.heap.size]? = some (.cells cs 5 m)) ∧ Below X.heap.size X w') ∧ (Calls Tryd.prog 9 #[.pointer (some ⟨gy, 0, none⟩)] X fun y w' => ∃ c, y = .returned (.slice (some ⟨X.heap.size, 0, none⟩) (l.drop hv).length c) ∧ (RwX .u8 4096 w' (.slice (some ⟨X.heap.size, 0, none⟩) (l.drop hv).length c) ∧ ∃ cs m, w'.heap[X.heap.size]? = some (.cells cs 5 m)) ∧ Below X.heap.size X w')) := hide fun X hx =>
        ⟨BytesX_at gl l 4096 X ((unhide HS1).l1.on hx) (unhide HIN) (by omega) hl, BytesX_at gx (l.take hv) 4096 X ((unhide HLX).1.on hx) hht (by omega) hhl.1, BytesX_at gy (l.drop hv) 4096 X ((unhide HLX).2.on hx) hhd (by omega) hhl.2⟩
      clear hhl hht hhd
      generalize hll1 : (l.take hv).length = lt at HBy
      generalize hll2 : (l.drop hv).length = ld at HBy
      clear hll1 hll2
      go_wp2_with fail
      go_loopw [16, 17] (fun v16 v17 wx => ∃ (ra : Option Addr) (rn rc : Nat) (L : List (Nat × Nat × Nat)), v16 = .slice ra rn rc ∧ ∃ k : Nat, v17 = .int .i64 (k : Int) ∧ k ≤ 5 ∧ Hid (L.length = 3 * k) ∧ Hid (Below X1.heap.size X1 wx) ∧ Hid (RsL X1.heap.size L (.slice ra rn rc) wx)) (fun _ v17 _ => 5 - (intOf v17).toNat)
      case atStart => exact ⟨_, _, _, [], rfl, 0, rfl, Nat.zero_le _, hide rfl, hide (Below.refl _ _), A0⟩
      case round =>
        clear A0
        obtain ⟨ra, rn, rc, L, rfl, k, rfl, hk, HLk, HLB, HRs⟩ := hrel
        by_cases c : k < 5
        · have t2 : (k : Int) < 5 := by omega
          have hkw : IntKind.i64.wrap ((k : Int) + 1) = (k : Int) + 1 := by rw [IntKind.wrap_i64]; omega
          have HB1 := hide (unhide HBy wr (unhide HLB)).1
          go_wp2_with fail
          refine (unhide HB1).mono ?_
          rintro y y1 ⟨c1, rfl, ⟨b1, b1'⟩, x1⟩
          dsimp only
          have L1 := (unhide HLB).trans (x1.mono (unhide HLB).size)
          have HB2 := hide (unhide HBy y1 L1).2.1
          clear HB1
          go_wp2_with fail
          refine (unhide HB2).mono ?_
          rintro y y2 ⟨c2, rfl, ⟨b2, b2'⟩, x2⟩
          dsimp only
          have L2 := L1.trans (x2.mono L1.size)
          have HB3 := hide (unhide HBy y2 L2).2.2
          clear HB2
          go_wp2_with fail
          refine (unhide HB3).mono ?_
          rintro y y3 ⟨c3, rfl, ⟨b3, b3'⟩, x3⟩
          dsimp only
          have L3 := L2.trans (x3.mono L2.size)
          have x23 := x2.trans (x3.mono x2.size)
          have x13 := x1.trans (x23.mono x1.size)
          have hR3 := (unhide HRs).on x13
          have hlt := (unhide HRs).lt
          have s1 : wr.heap.size < y1.heap.size := by obtain ⟨cs, m, h⟩ := b1'; exact (Array.getElem?_eq_some_iff.1 h).1
          have s2 : y1.heap.size < y2.heap.size := by obtain ⟨cs, m, h⟩ := b2'; exact (Array.getElem?_eq_some_iff.1 h).1
          have s3 : y2.heap.size < y3.heap.size := by obtain ⟨cs, m, h⟩ := b3'; exact (Array.getElem?_eq_some_iff.1 h).1
          have s0 := (unhide HLB).size
          obtain ⟨g9, c9, W9, r9, k9, z9⟩ := hR3.push (M := [(wr.heap.size, l.length, c1), (y1.heap.size, lt, c2), (y2.heap.size, ld, c3)]) (fun p hp => by
            simp only [List.mem_cons, List.not_mem_nil, or_false] at hp
            rcases hp with rfl | rfl | rfl
            · obtain ⟨cs, m, h⟩ := b1'
              exact ⟨b1.below x23, s0, cs, m, (x23.block _ s1).trans h⟩
            · obtain ⟨cs, m, h⟩ := b2'
              exact ⟨b2.below x3, by show X1.heap.size ≤ y1.heap.size; omega, cs, m, (x3.block _ s2).trans h⟩
            · exact ⟨b3, by show X1.heap.size ≤ y2.heap.size; omega, b3'⟩) (by
            rw [List.map_append]
            refine List.nodup_append.2 ⟨(unhide HRs).d, by simp; omega, ?_⟩
            intro a ha b hb e
            obtain ⟨p, hp, rfl⟩ := List.mem_map.1 ha
            have := hlt p hp
            simp only [List.map_cons, List.map_nil, List.mem_cons, List.not_mem_nil, or_false] at hb
            omega) (by simp) (by simp) (by have := unhide HLk; omega) (by omega)
          have hln := unhide HLk
          have hrn : rn = L.length := by obtain ⟨a, c, e⟩ := row_lenM (unhide HRs).a; cases e; rfl
          have R9 := hide (show (Builtin.append_ #[31, 31] 31 #[.slice ra rn rc, .slice (some ⟨y3.heap.size, 0, none⟩) 3 3]).run Tryd.prog (y3.alloc (.cells #[.slice (some ⟨wr.heap.size, 0, none⟩) l.length c1, .slice (some ⟨y1.heap.size, 0, none⟩) lt c2, .slice (some ⟨y2.heap.size, 0, none⟩) ld c3] 22)) = .ok (.slice (some ⟨g9, 0, none⟩) (L.length + 3) c9) W9 from r9)
          have HK9 : Hid (RsL X1.heap.size (L ++ [(wr.heap.size, l.length, c1), (y1.heap.size, lt, c2), (y2.heap.size, ld, c3)]) (.slice (some ⟨g9, 0, none⟩) (L.length + 3) c9) W9) := hide k9
          have HL9 : Hid ((L ++ [(wr.heap.size, l.length, c1), (y1.heap.size, lt, c2), (y2.heap.size, ld, c3)]).length = 3 * (k + 1)) := hide (by simp; omega)
          have HB9 := hide (L3.trans z9)
          clear HB3 HRs HLB HLk b1 b1' b2 b2' b3 b3' x1 x2 x3 L1 L2 L3 x23 x13 hR3 hlt s0 s1 s2 s3 r9 k9 z9 hln hrn
          go_wp2_with (at_builtin; refine wpList_append_known rfl _ _ 31 31 rfl _ _ rfl rfl _ _ (unhide R9) ?_)
          go_roundw
          case rel => exact ⟨_, _, _, _, rfl, k + 1, by go_num, by omega, HL9, HB9, HK9⟩
          case measure =>
            show 5 - ((k : Int) + 1).toNat < 5 - (k : Int).toNat
            omega
        · have t2 : ¬ (k : Int) < 5 := by omega
          have hk5 : k = 5 := by omega
          have HLk : Hid (L.length = 15) := hide (by rw [unhide HLk]; omega)
          clear hk5 hk c
          go_wp2_with fail
          go_loopw [16, 19, 106] (fun v16 v19 v106 wx => (∃ z, v19 = z) ∧ ∃ (ra : Option Addr) (rn rc : Nat) (L : List (Nat × Nat × Nat)), v16 = .slice ra rn rc ∧ ∃ j : Nat, v106 = .int .i64 (j : Int) ∧ j ≤ gs.length ∧ Hid (L.length = 15 + j) ∧ Hid (Below X1.heap.size X1 wx) ∧ Hid (RsL X1.heap.size L (.slice ra rn rc) wx)) (fun _ _ v106 _ => gs.length - (intOf v106).toNat)
          case atStart => exact ⟨⟨_, rfl⟩, _, _, _, L, rfl, 0, rfl, Nat.zero_le _, HLk, HLB, HRs⟩
          case round =>
            clear HLk HLB HRs
            obtain ⟨⟨z19, rfl⟩, ra, rn, rc, L, rfl, j, rfl, hj, HLk, HLB, HRs⟩ := hrel
            have HGP : Hid (gs.length = ps.length ∧ gs.length ≤ 4096) := hide ⟨(unhide HS1).lv.1, (unhide HS1).lv.1 ▸ (unhide HPS).1⟩
            have hps4 := (unhide HGP).2
            by_cases c : j < gs.length
            · have t3 : (j : Int) < (gs.length : Int) := by omega
              have hS1 := (unhide HS1).on (unhide HLB)
              obtain ⟨gcr, hca, hcj⟩ : ∃ g, ca = some ⟨g, 0, none⟩ ∧ wr.cell? ⟨g, j, none⟩ = some (.pointer (some ⟨gs.getD j 0, 0, none⟩)) := by
                have hcc := hS1.c
                rcases hS1.c.2 with ⟨_, h0⟩ | ⟨g, cap', cur, e, _⟩
                · omega
                · cases e
                  have := World.ownsRow.cells hcc rfl j (.pointer (some ⟨gs.getD j 0, 0, none⟩)) (by simp [ptrs, List.getD_eq_getElem?_getD, List.getElem?_eq_getElem c])
                  rw [Addr.add_lit, Nat.zero_add] at this
                  exact ⟨g, rfl, this⟩
              subst hca
              have lvj := (hS1.lv.2 j c).1
              have hpj := (unhide HPS).2 (ps.getD j []) (by rw [List.getD_eq_getElem?_getD, List.getElem?_eq_getElem (by have := (unhide HGP).1; omega)]; exact List.getElem_mem _)
              have HB1 := hide (BytesX_at (gs.getD j 0) (ps.getD j []) 4096 wr lvj hpj.2 (by omega) hpj.1)
              generalize gs.getD j 0 = gj at *
              generalize (ps.getD j []).length = lj at HB1
              have hjw : IntKind.i64.wrap ((j : Int) + 1) = (j : Int) + 1 := by rw [IntKind.wrap_i64]; omega
              clear hS1 lvj hpj
              go_wp2_with fail
              refine (unhide HB1).mono ?_
              rintro y y1 ⟨c1, rfl, ⟨b1, b1'⟩, x1⟩
              dsimp only
              have L1 := (unhide HLB).trans (x1.mono (unhide HLB).size)
              have hR3 := (unhide HRs).on x1
              have hlt := (unhide HRs).lt
              have s0 := (unhide HLB).size
              have s9 := L1.size
              obtain ⟨g9, c9, W9, r9, k9, z9⟩ := hR3.push (M := [(wr.heap.size, lj, c1)]) (fun p hp => by
                simp only [List.mem_cons, List.not_mem_nil, or_false] at hp
                subst hp
                exact ⟨b1, s0, b1'⟩) (by
                rw [List.map_append]
                refine List.nodup_append.2 ⟨(unhide HRs).d, by simp, ?_⟩
                intro a ha b hb e
                obtain ⟨p, hp, rfl⟩ := List.mem_map.1 ha
                have := hlt p hp
                simp only [List.map_cons, List.map_nil, List.mem_cons, List.not_mem_nil, or_false] at hb
                omega) (by simp) (by simp) (by have := unhide HLk; omega) s9
              have hln := unhide HLk
              have R9 := hide (show (Builtin.append_ #[31, 31] 31 #[.slice ra rn rc, .slice (some ⟨y1.heap.size, 0, none⟩) 1 1]).run Tryd.prog (y1.alloc (.cells #[.slice (some ⟨wr.heap.size, 0, none⟩) lj c1] 22)) = .ok (.slice (some ⟨g9, 0, none⟩) (L.length + 1) c9) W9 from r9)
              have HK9 : Hid (RsL X1.heap.size (L ++ [(wr.heap.size, lj, c1)]) (.slice (some ⟨g9, 0, none⟩) (L.length + 1) c9) W9) := hide k9
              have HL9 : Hid ((L ++ [(wr.heap.size, lj, c1)]).length = 15 + (j + 1)) := hide (by simp; omega)
              have HB9 := hide (L1.trans z9)
              clear HB1 HRs HLB HLk b1 b1' x1 L1 hR3 hlt s0 s9 r9 k9 z9 hln hcj
              go_wp2_with (at_builtin; refine wpList_append_known rfl _ _ 31 31 rfl _ _ rfl rfl _ _ (unhide R9) ?_)
              go_roundw
              case rel => exact ⟨⟨_, rfl⟩, _, _, _, _, rfl, j + 1, by go_num, by omega, HL9, HB9, HK9⟩
              case measure =>
                show gs.length - ((j : Int) + 1).toNat < gs.length - (j : Int).toNat
                omega
            · have t3 : ¬ (j : Int) < (gs.length : Int) := by omega
              have hrn : rn = L.length := by obtain ⟨a, c, e⟩ := row_lenM (unhide HRs).a; cases e; rfl
              subst hrn
              have hL4 : L.length ≤ 4111 := by have := unhide HLk; omega
              have HW0 : Hid (Wd L 0 wr) := hide fun j' p hj' => absurd hj' (Nat.not_lt_zero _)
              clear HLk hj c
              go_wp2_with fail
              go_loopw [20, 21, 22, 23, 118] (fun v20 v21 v22 v23 v118 wx => (∃ z, v20 = z) ∧ (∃ z, v21 = z) ∧ (∃ z, v22 = z) ∧ (∃ z, v23 = z) ∧ ∃ q : Nat, v118 = .int .i64 (q : Int) ∧ q ≤ L.length ∧ Hid (Below X1.heap.size X1 wx) ∧ Hid (RsL X1.heap.size L (.slice ra L.length rc) wx) ∧ Hid (Wd L q wx)) (fun _ _ _ _ v118 _ => L.length - (intOf v118).toNat)
              case atStart => exact ⟨⟨_, rfl⟩, ⟨_, rfl⟩, ⟨_, rfl⟩, ⟨_, rfl⟩, 0, rfl, Nat.zero_le _, HLB, HRs, HW0⟩
              case round =>
                clear HLB HRs HW0
                obtain ⟨⟨z20, rfl⟩, ⟨z21, rfl⟩, ⟨z22, rfl⟩, ⟨z23, rfl⟩, q, rfl, hq, HLB, HRs, HWd⟩ := hrel
                by_cases c : q < L.length
                · have t4 : (q : Int) < (L.length : Int) := by omega
                  obtain ⟨p, hp⟩ : ∃ p, L[q]? = some p := ⟨_, List.getElem?_eq_getElem c⟩
                  obtain ⟨pg, pn, pc⟩ := p
                  have hpm := List.mem_of_getElem? hp
                  obtain ⟨ga, hra, hcq⟩ : ∃ g, ra = some ⟨g, 0, none⟩ ∧ wr.cell? ⟨g, q, none⟩ = some (.slice (some ⟨pg, 0, none⟩) pn pc) := by
                    have haa := (unhide HRs).a
                    rcases haa.2 with ⟨_, h0⟩ | ⟨g, cap', cur, e, _⟩
                    · omega
                    · cases e
                      have := World.ownsRow.cells haa rfl q (slv (pg, pn, pc)) (by simp [List.getElem?_map, hp])
                      rw [Addr.add_lit, Nat.zero_add] at this
                      exact ⟨g, rfl, this⟩
                  subst hra
                  have hrw : RwX .u8 4096 wr (.slice (some ⟨pg, 0, none⟩) pn pc) := ((unhide HRs).r _ hpm).1
                  obtain ⟨hpn, hpN, _⟩ := hrw.cellX
                  have hNg : X1.heap.size ≤ pg := ((unhide HRs).r _ hpm).2.1
                  have hqw : IntKind.i64.wrap ((q : Int) + 1) = (q : Int) + 1 := by rw [IntKind.wrap_i64]; omega
                  have HP := hide hp
                  have HPM := hide hpm
                  have HNG := hide hNg
                  have HC0 : Hid (∀ i', i' < 0 → wr.cell? ⟨pg, i', none⟩ = some (.int .u8 (IntKind.u8.wrap (q : Int)))) := hide fun i' h => absurd h (Nat.not_lt_zero _)
                  clear hp hpm hrw hNg
                  go_wp2_with fail
                  clear hcq
                  go_loopw [22, 125] (fun v22 v125 wx => (∃ z, v22 = z) ∧ ∃ i : Nat, v125 = .int .i64 (i : Int) ∧ i ≤ pn ∧ Hid (Below X1.heap.size X1 wx) ∧ Hid (RsL X1.heap.size L (.slice (some ⟨ga, 0, none⟩) L.length rc) wx) ∧ Hid (Wd L q wx) ∧ Hid (∀ i', i' < i → wx.cell? ⟨pg, i', none⟩ = some (.int .u8 (IntKind.u8.wrap (q : Int))))) (fun _ v125 _ => pn - (intOf v125).toNat)
                  case atStart => exact ⟨⟨_, rfl⟩, 0, rfl, Nat.zero_le _, HLB, HRs, HWd, HC0⟩
                  case round =>
                    clear HLB HRs HWd HC0
                    obtain ⟨⟨z22', rfl⟩, i', rfl, hi', HLB, HRs, HWd, HC0⟩ := hrel
                    have hrw : RwX .u8 4096 wr (.slice (some ⟨pg, 0, none⟩) pn pc) := ((unhide HRs).r _ (unhide HPM)).1
                    by_cases ci : i' < pn
                    · have t5 : (i' : Int) < (pn : Int) := by omega
                      obtain ⟨e5, f5⟩ := hrw.cellX.2.2 i' (by omega)
                      obtain ⟨cv, e6⟩ := Option.isSome_iff_exists.1 e5
                      have hiw' : IntKind.i64.wrap ((i' : Int) + 1) = (i' : Int) + 1 := by rw [IntKind.wrap_i64]; omega
                      have HLB2 := hide ((unhide HLB).setCell (p := ⟨pg, i', none⟩) (unhide HNG) (.int .u8 (IntKind.u8.wrap (q : Int))))
                      have HRs2 := hide ((unhide HRs).put (unhide HPM) i' (by omega) (IntKind.u8.wrap (q : Int)))
                      have HWd2 := hide ((unhide HWd).other (fun j p hj hpj => nodup_ne (unhide HRs).d hpj (unhide HP) (by omega)) i' (.int .u8 (IntKind.u8.wrap (q : Int))))
                      have HC2' : Hid (∀ k', k' < i' + 1 → (wr.setCell ⟨pg, i', none⟩ (.int .u8 (IntKind.u8.wrap (q : Int)))).cell? ⟨pg, k', none⟩ = some (.int .u8 (IntKind.u8.wrap (q : Int)))) := hide fun k' hk' => by
                        rw [cell_set e5]
                        split
                        · rfl
                        · exact unhide HC0 k' (by omega)
                      clear HLB HRs HWd HC0 hrw e5
                      go_wp2_with fail
                      go_roundw
                      case rel => exact ⟨⟨_, rfl⟩, i' + 1, by go_num, by omega, HLB2, HRs2, HWd2, HC2'⟩
                      case measure =>
                        show pn - ((i' : Int) + 1).toNat < pn - (i' : Int).toNat
                        omega
                    · have t5 : ¬ (i' : Int) < (pn : Int) := by omega
                      have HWd3 : Hid (Wd L (q + 1) wr) := hide fun j p hj hpj i2 hi2 => by
                        by_cases ej : j = q
                        · subst ej
                          rw [unhide HP] at hpj
                          cases hpj
                          have hi3 : i2 < pn := hi2
                          exact unhide HC0 i2 (by omega)
                        · exact unhide HWd j p (by omega) hpj i2 hi2
                      have HG0 : Hid (Gw X1.heap.size L pg pn pc 0 (.slice (some ⟨ga, 0, none⟩) L.length rc) (.slice (some ⟨pg, 0, none⟩) pn pc) wr) := hide ⟨pg, pn, pc, rfl, hrw, Or.inl ⟨rfl, rfl, Nat.le_refl _⟩⟩
                      clear HWd HC0 hrw hi' ci
                      go_wp2_with fail
                      go_loopw [21, 23] (fun v21 v23 wx => ∃ (a : Option Addr) (m c' : Nat), v21 = .slice a m c' ∧ ∃ i : Nat, v23 = .int .i64 (i : Int) ∧ i ≤ 8 ∧ Hid (Below X1.heap.size X1 wx) ∧ Hid (RsL X1.heap.size L (.slice (some ⟨ga, 0, none⟩) L.length rc) wx) ∧ Hid (Wd L (q + 1) wx) ∧ Hid (Gw X1.heap.size L pg pn pc i (.slice (some ⟨ga, 0, none⟩) L.length rc) (.slice a m c') wx)) (fun _ v23 _ => 8 - (intOf v23).toNat)
                      case atStart => exact ⟨_, _, _, rfl, 0, rfl, Nat.zero_le _, HLB, HRs, HWd3, HG0⟩
                      case round =>
                        clear HLB HRs HWd3 HG0
                        obtain ⟨a9, m9, c9', rfl, i9, rfl, hi9, HLB, HRs, HWd, HG⟩ := hrel
                        by_cases ci : i9 < 8
                        · have t6 : (i9 : Int) < 8 := by omega
                          have hiw' : IntKind.i64.wrap ((i9 : Int) + 1) = (i9 : Int) + 1 := by rw [IntKind.wrap_i64]; omega
                          obtain ⟨pa, pm, pc', W', rp, hG2, hR2, hW2, hB2⟩ := (unhide HG).push (unhide HRs) (unhide HWd) (unhide HP) hi9 (unhide HLB).size
                          have RP := hide rp
                          have HG2 := hide hG2
                          have HR2 := hide hR2
                          have HW2 := hide hW2
                          have HB2 := hide ((unhide HLB).trans hB2)
                          clear HLB HRs HWd HG rp hG2 hR2 hW2 hB2
                          go_wp2_with (at_builtin; refine wpList_append_known rfl _ _ 22 22 rfl _ _ rfl rfl _ _ (unhide RP) ?_)
                          go_roundw
                          case rel => exact ⟨_, _, _, rfl, i9 + 1, by go_num, by omega, HB2, HR2, HW2, HG2⟩
                          case measure =>
                            show 8 - ((i9 : Int) + 1).toNat < 8 - (i9 : Int).toNat
                            omega
                        · have t6 : ¬ (i9 : Int) < 8 := by omega
                          clear HG
                          go_wp2_with fail
                          go_roundw
                          case rel => exact ⟨⟨_, rfl⟩, ⟨_, rfl⟩, ⟨_, rfl⟩, ⟨_, rfl⟩, q + 1, by go_num, by omega, HLB, HRs, HWd⟩
                          case measure =>
                            show L.length - ((q : Int) + 1).toNat < L.length - (q : Int).toNat
                            omega
                · have t4 : ¬ (q : Int) < (L.length : Int) := by omega
                  have hqe : q = L.length := by omega
                  subst hqe
                  clear hq c
                  go_wp2_with fail
                  go_loopw [24, 25, 26, 144] (fun v24 v25 v26 v144 wx => (∃ z, v24 = z) ∧ (∃ z, v25 = z) ∧ (∃ z, v26 = z) ∧ ∃ q : Nat, v144 = .int .i64 (q : Int) ∧ q ≤ L.length ∧ Hid (Below X1.heap.size X1 wx) ∧ Hid (RsL X1.heap.size L (.slice ra L.length rc) wx) ∧ Hid (Wd L L.length wx)) (fun _ _ _ v144 _ => L.length - (intOf v144).toNat)
                  case atStart => exact ⟨⟨_, rfl⟩, ⟨_, rfl⟩, ⟨_, rfl⟩, 0, rfl, Nat.zero_le _, HLB, HRs, HWd⟩
                  case round =>
                    clear HLB HRs HWd
                    obtain ⟨⟨z24, rfl⟩, ⟨z25, rfl⟩, ⟨z26, rfl⟩, q, rfl, hq, HLB, HRs, HWd⟩ := hrel
                    by_cases c : q < L.length
                    · have t4 : (q : Int) < (L.length : Int) := by omega
                      obtain ⟨p, hp⟩ : ∃ p, L[q]? = some p := ⟨_, List.getElem?_eq_getElem c⟩
                      obtain ⟨pg, pn, pc⟩ := p
                      have hpm := List.mem_of_getElem? hp
                      obtain ⟨ga, hra, hcq⟩ : ∃ g, ra = some ⟨g, 0, none⟩ ∧ wr.cell? ⟨g, q, none⟩ = some (.slice (some ⟨pg, 0, none⟩) pn pc) := by
                        have haa := (unhide HRs).a
                        rcases haa.2 with ⟨_, h0⟩ | ⟨g, cap', cur, e, _⟩
                        · omega
                        · cases e
                          have := World.ownsRow.cells haa rfl q (slv (pg, pn, pc)) (by simp [List.getElem?_map, hp])
                          rw [Addr.add_lit, Nat.zero_add] at this
                          exact ⟨g, rfl, this⟩
                      subst hra
                      have hrw : RwX .u8 4096 wr (.slice (some ⟨pg, 0, none⟩) pn pc) := ((unhide HRs).r _ hpm).1
                      obtain ⟨hpn, hpN, _⟩ := hrw.cellX
                      have hqw : IntKind.i64.wrap ((q : Int) + 1) = (q : Int) + 1 := by rw [IntKind.wrap_i64]; omega
                      have HP := hide hp
                      clear hp hpm hrw
                      go_wp2_with fail
                      clear hcq
                      go_loopw [26, 151] (fun v26 v151 wx => (∃ z, v26 = z) ∧ ∃ i : Nat, v151 = .int .i64 (i : Int) ∧ i ≤ pn ∧ Hid (Below X1.heap.size X1 wx) ∧ Hid (RsL X1.heap.size L (.slice (some ⟨ga, 0, none⟩) L.length rc) wx) ∧ Hid (Wd L L.length wx)) (fun _ v151 _ => pn - (intOf v151).toNat)
                      case atStart => exact ⟨⟨_, rfl⟩, 0, rfl, Nat.zero_le _, HLB, HRs, HWd⟩
                      case round =>
                        clear HLB HRs HWd
                        obtain ⟨⟨z26', rfl⟩, i', rfl, hi', HLB, HRs, HWd⟩ := hrel
                        by_cases ci : i' < pn
                        · have t5 : (i' : Int) < (pn : Int) := by omega
                          have e6 : wr.cell? ⟨pg, i', none⟩ = some (.int .u8 (IntKind.u8.wrap (q : Int))) := unhide HWd q (pg, pn, pc) c (unhide HP) i' ci
                          have hiw' : IntKind.i64.wrap ((i' : Int) + 1) = (i' : Int) + 1 := by rw [IntKind.wrap_i64]; omega
                          go_wp2_with fail
                          go_roundw
                          case rel => exact ⟨⟨_, rfl⟩, i' + 1, by go_num, by omega, HLB, HRs, HWd⟩
                          case measure =>
                            show pn - ((i' : Int) + 1).toNat < pn - (i' : Int).toNat
                            omega
                        · have t5 : ¬ (i' : Int) < (pn : Int) := by omega
                          go_wp2_with fail
                          go_roundw
                          case rel => exact ⟨⟨_, rfl⟩, ⟨_, rfl⟩, ⟨_, rfl⟩, q + 1, by go_num, by omega, HLB, HRs, HWd⟩
                          case measure =>
                            show L.length - ((q : Int) + 1).toNat < L.length - (q : Int).toNat
                            omega
                    · have t4 : ¬ (q : Int) < (L.length : Int) := by omega
                      have hS2 := (unhide HS1).on (unhide HLB)
                      have hb2 := (unhide HN wr hS2.b).1
                      have lxy := unhide HLX
                      have h1l : (l.take hv).length = hv := by rw [List.length_take]; omega
                      have h2l : (l.drop hv).length = l.length - hv := by rw [List.length_drop]
                      have HI1 := hide fun (Y : World) (hb : Below wr.heap.size wr Y) => is_at gl a0 cap l Y (hS2.l1.on hb) (hb2.below hb (Nat.le_refl _)) (by omega)
                      have HI2 := hide fun (Y : World) (hb : Below wr.heap.size wr Y) => is_at gx a0 cap (l.take hv) Y (lxy.1.on ((unhide HLB).trans (hb.mono (unhide HLB).size))) ((hb2.below hb (Nat.le_refl _)).takeP (n := hv)) (by omega)
                      have HI3 := hide fun (Y : World) (hb : Below wr.heap.size wr Y) => is_at gy _ _ (l.drop hv) Y (lxy.2.on ((unhide HLB).trans (hb.mono (unhide HLB).size))) ((hb2.below hb (Nat.le_refl _)).loP (n := hv)) (by omega)
                      rw [h1l] at HI2
                      rw [h2l] at HI3
                      have hcl := hb2.1
                      have v1 : (hv : Int) ≤ (l.length : Int) := by omega
                      have v2 : hv ≤ cap := by omega
                      have v3 : l.length ≤ cap := hcl
                      have v4 : (hv : Int) ≤ (cap : Int) := by omega
                      have v5 : (l.length : Int) ≤ (cap : Int) := by omega
                      have HSX := hide hS2
                      clear hS2 hb2 lxy h1l h2l HRs HWd hq c hcl
                      go_upto_region 50 with fail
                      go_cut [186] (fun cv wx => cv = .bool false ∧ Hid (Below wr.heap.size wr wx))
                      case first =>
                        by_cases hcx : cap = hv
                        · have hz : l.length = 0 := by have := unhide HH2; omega
                          have hz2 : hv = 0 := by omega
                          obtain rfl : l = [] := List.length_eq_zero_iff.1 hz
                          subst hz2
                          subst hcx
                          have HI3' := hide (by have := unhide HI3; simp only [↓reduceIte] at this; exact this)
                          have HI1' := hide (unhide HI1 wr (Below.refl _ _))
                          clear hf1 hf2 hf3 hfl v1 v2 v3 v4 v5 hz
                          go_wp2_with fail
                          refine (unhide HI1').mono ?_
                          rintro y y1 ⟨rfl, x1⟩
                          dsimp only
                          have HI2' := hide (unhide HI2 y1 x1)
                          go_wp2_with fail
                          refine (unhide HI2').mono ?_
                          rintro y y2 ⟨rfl, x2⟩
                          dsimp only
                          have x12 := x1.trans (x2.mono x1.size)
                          have HI4' := hide (unhide HI3' y2 x12)
                          go_wp2_with fail
                          refine (unhide HI4').mono ?_
                          rintro y y3 ⟨rfl, x3⟩
                          dsimp only
                          have HX := hide (x12.trans (x3.mono x12.size))
                          go_wp2_with fail
                          go_meet
                          exact ⟨rfl, HX⟩
                        · have HI3' := hide (by have := unhide HI3; simp only [if_neg hcx] at this; exact this)
                          have HI1' := hide (unhide HI1 wr (Below.refl _ _))
                          go_wp2_with fail
                          refine (unhide HI1').mono ?_
                          rintro y y1 ⟨rfl, x1⟩
                          dsimp only
                          have HI2' := hide (unhide HI2 y1 x1)
                          go_wp2_with fail
                          refine (unhide HI2').mono ?_
                          rintro y y2 ⟨rfl, x2⟩
                          dsimp only
                          have x12 := x1.trans (x2.mono x1.size)
                          have HI4' := hide (unhide HI3' y2 x12)
                          go_wp2_with fail
                          refine (unhide HI4').mono ?_
                          rintro y y3 ⟨rfl, x3⟩
                          dsimp only
                          have HX := hide (x12.trans (x3.mono x12.size))
                          go_wp2_with fail
                          go_meet
                          exact ⟨rfl, HX⟩
                      case rest =>
                        obtain ⟨rfl, HX⟩ := hcut
                        have HS9 := hide ((unhide HSX).on (unhide HX))
                        clear HI1 HI2 HI3 HSX HX
                        go_wp2_with fail
                        go_loopw [27, 28, 189] (fun v27 v28 v189 wx => (∃ z, v27 = z) ∧ (∃ z, v28 = z) ∧ ∃ j : Nat, v189 = .int .i64 (j : Int) ∧ j ≤ gs.length ∧ Hid (LmS w gl l (.slice ca gs.length cc) gs ps (.slice wa (ws qa qc).length wqc) (ws qa qc) (.slice qa l.length qc) wx)) (fun _ _ v189 _ => gs.length - (intOf v189).toNat)
                        case atStart => exact ⟨⟨_, rfl⟩, ⟨_, rfl⟩, 0, rfl, Nat.zero_le _, HS9⟩
                        case round =>
                          clear HS9
                          obtain ⟨⟨z27, rfl⟩, ⟨z28, rfl⟩, j, rfl, hj, HS9⟩ := hrel
                          by_cases c : j < gs.length
                          · have t7 : (j : Int) < (gs.length : Int) := by omega
                            have hS := unhide HS9
                            obtain ⟨gcr, hca, hcj⟩ : ∃ g, ca = some ⟨g, 0, none⟩ ∧ wr.cell? ⟨g, j, none⟩ = some (.pointer (some ⟨gs.getD j 0, 0, none⟩)) := by
                              have hcc := hS.c
                              rcases hS.c.2 with ⟨_, h0⟩ | ⟨g, cap', cur, e, _⟩
                              · omega
                              · cases e
                                have := World.ownsRow.cells hcc rfl j (.pointer (some ⟨gs.getD j 0, 0, none⟩)) (by simp [ptrs, List.getD_eq_getElem?_getD, List.getElem?_eq_getElem c])
                                rw [Addr.add_lit, Nat.zero_add] at this
                                exact ⟨g, rfl, this⟩
                            subst hca
                            have hjw : IntKind.i64.wrap ((j : Int) + 1) = (j : Int) + 1 := by rw [IntKind.wrap_i64]; have := (unhide HGP).2; omega
                            have hjp : j < ps.length := by have := (unhide HGP).1; omega
                            obtain ⟨hwl, gq, off, nq, cq, hwe, hnq, hwb⟩ := unhide HC3 qa qc j hjp
                            have hjw2 : j < (ws qa qc).length := by omega
                            have t8 : (j : Int) < ((ws qa qc).length : Int) := by omega
                            obtain ⟨gwr, hwa, hwj⟩ : ∃ g, wa = some ⟨g, 0, none⟩ ∧ wr.cell? ⟨g, j, none⟩ = some (.slice (some ⟨gq, off, none⟩) nq cq) := by
                              have hcc := hS.wr
                              rcases hS.wr.2 with ⟨_, h0⟩ | ⟨g, cap', cur, e, _⟩
                              · omega
                              · cases e
                                have := World.ownsRow.cells hcc rfl j _ hwe
                                rw [Addr.add_lit, Nat.zero_add] at this
                                exact ⟨g, rfl, this⟩
                            subst hwa
                            have lvj := (hS.lv.2 j c).1
                            have hqb : IsB wr qa qc l := by
                              obtain ⟨a, c, e, h⟩ := hS.wb.isB (unhide HIN) (by omega)
                              cases e
                              exact h
                            have hpj := (unhide HPS).2 (ps.getD j []) (by rw [List.getD_eq_getElem?_getD, List.getElem?_eq_getElem hjp]; exact List.getElem_mem _)
                            have HIs := is_at (gs.getD j 0) (some ⟨gq, off, none⟩) cq (ps.getD j []) wr lvj (hwb wr hqb) (by omega)
                            rw [← hnq] at HIs
                            have HIs := hide HIs
                            generalize gs.getD j 0 = gj at *
                            generalize hwn : (ws qa qc).length = wn at *
                            have HON := hide fun (Y : World) (hb : Below wr.heap.size wr Y) => hS.on hb
                            clear hS hwl hwe hnq hwb lvj hqb hpj hjp hwn
                            by_cases he : e1 = 0
                            · subst he
                              go_wp2_with fail
                              refine (unhide HIs).mono ?_
                              rintro y y1 ⟨rfl, x1⟩
                              dsimp only
                              have HS2 := hide (unhide HON y1 x1)
                              clear HON HIs HS9 hcj hwj
                              go_wp2_with fail
                              go_roundw
                              case rel => exact ⟨⟨_, rfl⟩, ⟨_, rfl⟩, j + 1, by go_num, by omega, HS2⟩
                              case measure =>
                                show gs.length - ((j : Int) + 1).toNat < gs.length - (j : Int).toNat
                                omega
                            · have heb : (e1 == 0) = false := by rw [beq_eq_false_iff_ne]; exact he
                              clear HON HIs
                              go_wp2_with fail
                              go_roundw
                              case rel => exact ⟨⟨_, rfl⟩, ⟨_, rfl⟩, j + 1, by go_num, by omega, HS9⟩
                              case measure =>
                                show gs.length - ((j : Int) + 1).toNat < gs.length - (j : Int).toNat
                                omega
                          · have t7 : ¬ (j : Int) < (gs.length : Int) := by omega
                            have HB := hide (unhide HS9).b
                            go_wp2_with fail
                            refine bodyPost_ret (results_tmp rfl _ _ _) rfl ⟨rfl, unhide HB⟩

end Go.Proofs.YtdklfodccdmmlaaDoor
end

section
namespace Go.Proofs.YtdklfodccdmmlaaDoor
open Go.ChangeShapes Go.WideShapes Go.ChangeAt Go.RowKit
open Go.ChangeMaps (open_string shut_string)

set_option maxRecDepth 100000 in
theorem leafMemory_contract (H : Type) (enc : TypeId × Value → H) (W : World) (base : Nat) (args : Array Value) (ds gs : List (DataW H)) (before : List MemPlace)
    (hval : ∀ (j : Nat) t v, Tryd.f3.params[j]? = some t → args[j]? = some v → Value.okWide Tryd.prog W .any base t v)
    (hW : DataW.Whole enc Tryd.prog Tryd.f3.params.toList Rows.leafMemorySpec.vars false W args.toList ds gs before) (hsz : (DataW.weightsEach Tryd.prog (Tryd.f3.params.toList ++ (OpenSpec.ofChange Rows.leafMemorySpec).bare.plain.varTypes Tryd.prog) (ds ++ gs)).all (· ≤ reachBytes) = true) (hL : laidMetH Tryd.prog Rows.leafMemoryRow.laid W) (hsh : W.ShapedOpen Tryd.prog) :
    Calls Tryd.prog 3 args W fun e W' => ∃ v, e = .returned v ∧ Rows.leafMemorySpec.post enc Tryd.prog Tryd.f3 false true false false W args v W' := by
  have hW' := hW
  obtain ⟨p, q, hA0, hV, rfl, _, _⟩ := hW
  have hA : DataW.TrodAll enc Tryd.prog W 0 (fun _ => true) true Tryd.f3.params.toList args.toList ds p := hA0
  rw [Tryd.params3] at hA hval hsz
  obtain ⟨v0, vs0, d0, ds0, p0, q0, hargs, rfl, rfl, h0, r0⟩ := trodAll_cons hA
  obtain ⟨v1, vs1, d1, ds1, p1, q1, rfl, rfl, rfl, h1, r1⟩ := trodAll_cons r0
  obtain ⟨rfl, rfl, rfl⟩ := trodAll_nil r1
  obtain rfl : args = #[v0, v1] := by cases args; simp_all
  obtain ⟨rfl, rfl⟩ := trodVars_none hV
  obtain ⟨a0, len0, cap0, rfl⟩ := okWide_slice Tryd.underlying22 (hval 0 22 v0 rfl rfl)
  have k0 := h0
  have lt0 : ∀ x ∈ p0, x.block < W.heap.size := by obtain ⟨m, hm⟩ := k0; exact DataW.trod_lt m _ _ _ hm
  obtain ⟨l0, rfl, w0⟩ := rowN_of_trod h0 hsz (j := 0) rfl rfl
  obtain ⟨x1, rfl, rfl, rfl, w1⟩ := open_int Tryd.underlying3 (hval 1 3 v1 rfl rfl) h1
  clear hA0
  refine (LeafMemory_any a0 cap0 l0 x1 W w0 w1 (wt_of hL hsh)).mono fun e W' ⟨he, bel⟩ => ?_
  subst he
  exact ⟨_, rfl, _, _, _, [], _, [], hW', trodAll_mk1 (shut_bool Tryd.underlying4 _), (trodAll_cons_mk (Below.trod laidOut (by kernel_rfl) (of_decide_eq_true (by kernel_rfl)) k0 bel lt0) (trodAll_cons_mk (shut_int Tryd.underlying3 w1) trodAll_mk0)), rfl, bel.frame _, fun h => by cases h⟩

theorem leafMemory_met (os : Os) : laidMet Tryd.prog Rows.leafMemoryRow.laid ((laidWorldW os).forCall (fun _ _ => 0) ⟨#[], #[.slice none 0 0, .int .i64 0], []⟩).memory :=
  laidMet_of_run' 8 (by kernel_rfl) (by kernel_rfl)
theorem leafMemory_reads (os : Os) {H : Type} (enc : TypeId × Value → H) : ∃ places, DataW.whole enc Tryd.prog ((laidWorldW os).forCall (fun _ _ => 0) ⟨#[], #[.slice none 0 0, .int .i64 0], []⟩).memory Tryd.f3.params.toList Rows.leafMemorySpec.vars false (#[.slice none 0 0, .int .i64 0] : Array Value).toList 8 = some ([.nil, .lit (.int .i64 0)], [], places) :=
  ⟨[], by kernel_rfl⟩

set_option maxRecDepth 100000 in
theorem leafMemory_lifted (os : Os) (started : os.Started) (H : Type) (enc : TypeId × Value → H) (F : Stop.Interp) :
    ReturnsInHanded {} Tryd.checked os 3 .any ((OpenSpec.ofChange Rows.leafMemorySpec).preRow enc Tryd.prog Tryd.f3 Rows.leafMemoryRow.domain false Rows.leafMemoryRow.laid) (((OpenSpec.ofChange Rows.leafMemorySpec).at F).post enc Tryd.prog Tryd.f3 false true false false) := by
  obtain ⟨places, hx⟩ := leafMemory_reads os enc
  refine returnsInHanded_of_row (C := Tryd.checked) (s := OpenSpec.ofChange Rows.leafMemorySpec) own started (by kernel_rfl) Tryd.func3
    (witness_row_at (enc := enc) (C := Tryd.checked) false (laidWorldW os) #[.slice none 0 0, .int .i64 0] rfl (by kernel_rfl) (by kernel_rfl) (by kernel_rfl)
      (OpenSpec.preRow_of_cond 8 hx (by kernel_rfl) (fun k hk => by cases hk) (by kernel_rfl) (leafMemory_met os))) ?_
  intro W base args ds gs before hval hW _ _ hsz hL hsh _
  exact leafMemory_contract H enc W base args ds gs before hval hW hsz hL hsh

theorem leafMemory_said : Rows.LeafMemorySaid :=
  OpenClaim.holds_of_cond 3 Tryd.f3 rfl rfl rfl rfl rfl rfl rfl ⟨rfl, rfl, rfl, rfl, rfl⟩ rfl rfl rfl rfl rfl (by kernel_rfl) Tryd.func3 (by kernel_rfl)
    (of_decide_eq_true (by kernel_rfl)) (by unfold Func.isWrapper; first | (rw [if_pos (by decide +kernel)]; kernel_rfl) | (rw [if_neg (by decide +kernel)]; exact ⟨rfl, rfl⟩))
    (fun os started H enc _ F => by rw [OpenClaim.pre_eq_preRow]; exact leafMemory_lifted os started H enc F)

theorem leafMemory_plain (f : FuncId) (fn : Func) (hf : Tryd.pinned.checked.prog.funcNamed "galley/galleylaw08.LeafMemory" = some f) (hfn : Tryd.pinned.checked.prog.funcs[f]? = some fn) :
    false = Tryd.pinned.checked.prog.looks [] ∧ ∀ (j : Nat) t, fn.params[j]? = some t → Tryd.pinned.checked.prog.wantsStandIn t = false := by
  obtain rfl : f = 3 := Option.some.inj ((show Tryd.prog.funcNamed "galley/galleylaw08.LeafMemory" = some 3 by kernel_rfl).symm.trans hf) |>.symm
  obtain rfl : fn = Tryd.f3 := (Option.some.inj (Tryd.func3.symm.trans hfn)).symm
  refine ⟨by kernel_rfl, fun j t ht => ?_⟩
  rw [Tryd.params3] at ht
  have hm := Array.mem_of_getElem? ht
  simp only [List.mem_toArray, List.mem_cons, List.not_mem_nil, or_false] at hm
  rcases hm with rfl | rfl
  · exact (show Tryd.prog.wantsStandIn 22 = false by kernel_rfl)
  · exact (show Tryd.prog.wantsStandIn 3 = false by kernel_rfl)

/-- the card -/
theorem leafMemory_card : Rows.LeafMemoryCardSaid :=
  Claim7.holds_tied_plain_at .later [] _ _ _ _ leafMemory_said (fun _ h => by cases h) (by kernel_rfl) (fun _ h => by cases h) leafMemory_row_tie rfl ⟨rfl, rfl⟩ (by kernel_rfl) rfl leafMemory_plain (by kernel_rfl)

#print axioms leafMemory_card
end Go.Proofs.YtdklfodccdmmlaaDoor
end
