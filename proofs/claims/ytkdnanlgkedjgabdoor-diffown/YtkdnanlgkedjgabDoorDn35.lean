/- Layer 13: the builder in memory. -/
import Derived.Test.YtkdnanlgkedjgabDoorDn33
import Derived.Lib.Bytes

namespace Go.Proofs.YtkdnanlgkedjgabDoor
open Go.ChangeShapes Go.WideShapes Go.ChangeAt Go.RowKit
attribute [local go_sem] Oper.semAt_some

def txsV (ts : List (List Int)) : List Value := ts.map fun t => .string (strOfNums t)
theorem txsV_snoc (ts : List (List Int)) (t : List Int) : txsV (ts ++ [t]) = txsV ts ++ [.string (strOfNums t)] := by simp [txsV]
/-- the block that holds the builder's four cells from o on, and others -/
def BdB (t : TypeId) : Prop := t = 111 ∨ t = 111
theorem bdb_op {t : TypeId} (h : BdB t) : t ≠ 41 := by rcases h with rfl | rfl <;> decide
theorem bdb_str {t : TypeId} (h : BdB t) : t ≠ 9 := by rcases h with rfl | rfl <;> decide
structure Bd4 (X : World) (g o : Nat) (r : Nat → Option Value) (vo vk vt vd : Value) : Prop where
  c : ∃ cs t, X.heap[g]? = some (.cells cs t (0, 0)) ∧ BdB t ∧ cs[o]? = some vo ∧ cs[o + 1]? = some vk ∧ cs[o + 2]? = some vt ∧ cs[o + 3]? = some vd ∧ ∀ j, j < o ∨ o + 4 ≤ j → cs[j]? = r j
theorem Bd4.cells {X : World} {g o : Nat} {r : Nat → Option Value} {vo vk vt vd : Value} (h : Bd4 X g o r vo vk vt vd) : X.cell? ⟨g, o, none⟩ = some vo ∧ X.cell? ⟨g, o + 1, none⟩ = some vk ∧ X.cell? ⟨g, o + 2, none⟩ = some vt ∧ X.cell? ⟨g, o + 3, none⟩ = some vd ∧ ∀ i, X.frozen? ⟨g, i, none⟩ = false := by
  obtain ⟨cs, t, h1, _, h2, h3, h4, h5, _⟩ := h.c
  exact ⟨by simp only [World.cell?, h1]; exact h2, by simp only [World.cell?, h1]; exact h3, by simp only [World.cell?, h1]; exact h4, by simp only [World.cell?, h1]; exact h5, fun i => by simp [World.frozen?, h1]⟩
theorem Bd4.lt {X : World} {g o : Nat} {r : Nat → Option Value} {vo vk vt vd : Value} (h : Bd4 X g o r vo vk vt vd) : g < X.heap.size := by
  obtain ⟨cs, t, h1, _⟩ := h.c
  exact (Array.getElem?_eq_some_iff.1 h1).1
theorem Bd4.same {X Y : World} {g o : Nat} {r : Nat → Option Value} {vo vk vt vd : Value} (h : Bd4 X g o r vo vk vt vd) (hs : Y.heap[g]? = X.heap[g]?) : Bd4 Y g o r vo vk vt vd := by
  obtain ⟨cs, t, h1, h2⟩ := h.c
  exact ⟨cs, t, hs.trans h1, h2⟩
theorem heap_set {X : World} {g i : Nat} {cs : Array Value} {t : TypeId} {m : Nat × Nat} (h : X.heap[g]? = some (.cells cs t m)) (v : Value) : (X.setCell ⟨g, i, none⟩ v).heap[g]? = some (.cells (cs.setIfInBounds i v) t m) := by
  have hl := (Array.getElem?_eq_some_iff.1 h).1
  show (X.heap.modify g _)[g]? = _
  rw [Array.getElem?_eq_getElem hl] at h
  rw [Array.getElem?_eq_getElem (by rw [Array.size_modify]; exact hl), Array.getElem_modify_self, Option.some.inj h]
  rfl
theorem Bd4.set {X : World} {g o : Nat} {r : Nat → Option Value} {vo vk vt vd : Value} (h : Bd4 X g o r vo vk vt vd) (u : Value) :
    Bd4 (X.setCell ⟨g, o, none⟩ u) g o r u vk vt vd ∧ Bd4 (X.setCell ⟨g, o + 1, none⟩ u) g o r vo u vt vd ∧ Bd4 (X.setCell ⟨g, o + 2, none⟩ u) g o r vo vk u vd ∧ Bd4 (X.setCell ⟨g, o + 3, none⟩ u) g o r vo vk vt u := by
  obtain ⟨cs, t, h1, h2, h3, h4, h5, h6, h7⟩ := h.c
  have z3 : o + 3 < cs.size := (Array.getElem?_eq_some_iff.1 h6).1
  have self : ∀ i, i < cs.size → (cs.setIfInBounds i u)[i]? = some u := fun i hi => by simp [hi]
  have other : ∀ i j, i ≠ j → (cs.setIfInBounds i u)[j]? = cs[j]? := fun i j hij => by simp [hij]
  refine ⟨⟨_, t, heap_set h1 u, h2, ?_, ?_, ?_, ?_, fun j hj => ?_⟩, ⟨_, t, heap_set h1 u, h2, ?_, ?_, ?_, ?_, fun j hj => ?_⟩, ⟨_, t, heap_set h1 u, h2, ?_, ?_, ?_, ?_, fun j hj => ?_⟩, ⟨_, t, heap_set h1 u, h2, ?_, ?_, ?_, ?_, fun j hj => ?_⟩⟩
  all_goals first | (rw [self _ (by omega)]) | (rw [other _ _ (by omega)]; assumption) | (rw [other _ _ (by omega)]; exact h7 j hj)
/-- what lies elsewhere and stays: a block of a change's type (told by r at the builder's own places, where Bd4 asks nothing of it) -/
def FrB (r : Nat → Option Value) (o : Nat) (X : World) : Prop := ∀ (cs : Array Value) (q : Nat), r o = some (.agg cs) → r (o + 1) = some (.int .i64 (q : Int)) → X.heap[q]? = some (.cells cs 57 (0, 0))
theorem bdb_ch {t : TypeId} (h : BdB t) : t ≠ 57 := by rcases h with rfl | rfl <;> decide
theorem FrB.on {r : Nat → Option Value} {o N : Nat} {X Y : World} (h : FrB r o X) (hb : Below N X Y) (hN : X.heap.size ≤ N) : FrB r o Y := fun cs q h1 h2 => by
  have h3 := h cs q h1 h2
  exact (hb.block q (Nat.lt_of_lt_of_le (Array.getElem?_eq_some_iff.1 h3).1 hN)).trans h3
theorem FrB.set {r : Nat → Option Value} {o g : Nat} {X : World} {ca : Array Value} {t : TypeId} {m : Nat × Nat} (h : FrB r o X) (hg : X.heap[g]? = some (.cells ca t m)) (ht : BdB t) (i : Nat) (u : Value) : FrB r o (X.setCell ⟨g, i, none⟩ u) := fun cs q h1 h2 => by
  have h3 := h cs q h1 h2
  exact (Below.heap_setCell X ⟨g, i, none⟩ u q (typeD_ne h3 hg (fun e => bdb_ch ht e.symm))).trans h3
theorem Bd4.fset {r r' : Nat → Option Value} {o g : Nat} {X : World} {vo vk vt vd : Value} (h : Bd4 X g o r vo vk vt vd) (hf : FrB r' o X) (i : Nat) (u : Value) : FrB r' o (X.setCell ⟨g, i, none⟩ u) := by
  obtain ⟨ca, t, h1, h2, _⟩ := h.c
  exact hf.set h1 h2 i u
theorem FrB.grown {r : Nat → Option Value} {o B s n : Nat} {X Y : World} {t : TypeId} {v : Value} {xs : List Value} (h : FrB r o X) (gr : X.grownBy Y v.ownBlock) (hr : X.ownsRow B t s v n xs) (ht : t ≠ 57) : FrB r o Y := fun cs q h1 h2 => by
  have h3 := h cs q h1 h2
  exact (gr.block q (Array.getElem?_eq_some_iff.1 h3).1 fun e => by
    obtain ⟨_, cur, hc⟩ := rowD_block hr e.symm
    exact typeD_ne h3 hc (fun e => ht e.symm) rfl).trans h3
/-- a builder: what it has written, and what waits -/
structure IsBd (X : World) (B g o : Nat) (r : Nat → Option Value) (b : Bld) (ts : List (List Int)) : Prop where
  c : ∃ vo vt, Bd4 X g o r vo (.int .i64 (b.kept : Int)) vt (.int .i64 (b.dr : Int)) ∧ X.ownsRow B 41 3 vo b.ops.length (opsV b.ops) ∧ X.ownsRow B 9 1 vt ts.length (txsV ts)
  t : ts.flatten = b.tx ∧ ∀ x ∈ ts, x ≠ []
  z : B ≤ g
  f : FrB r o X
theorem IsBd.on {X Y : World} {B N g o : Nat} {r : Nat → Option Value} {b : Bld} {ts : List (List Int)} (h : IsBd X B g o r b ts) (hb : Below N X Y) (hN : X.heap.size ≤ N) : IsBd Y B g o r b ts := by
  obtain ⟨vo, vt, h1, h2, h3⟩ := h.c
  exact ⟨⟨vo, vt, h1.same (hb.block g (Nat.lt_of_lt_of_le h1.lt hN)), rowD_below h2 hb hN, rowD_below h3 hb hN⟩, h.t, h.z, h.f.on hb hN⟩
/-- a cell of the builder's block is set: the rows stay -/
theorem bd_rows {X : World} {B g o s n : Nat} {r : Nat → Option Value} {vo vk vt vd v : Value} {e : TypeId} {xs : List Value} (h : Bd4 X g o r vo vk vt vd) (he : ∀ t, BdB t → t ≠ e) (hr : X.ownsRow B e s v n xs) (i : Nat) (u : Value) : (X.setCell ⟨g, i, none⟩ u).ownsRow B e s v n xs := rowD_on hr fun G hG => by
  obtain ⟨cs, t, h1, h2, _⟩ := h.c
  obtain ⟨_, cur, hc⟩ := rowD_block hr hG
  exact Below.heap_setCell X ⟨g, i, none⟩ u G (typeD_ne hc h1 (fun e => he t h2 e.symm))
theorem IsBd.kept {X : World} {B g o : Nat} {r : Nat → Option Value} {b : Bld} {ts : List (List Int)} (h : IsBd X B g o r b ts) (n : Nat) : IsBd (X.setCell ⟨g, o + 1, none⟩ (.int .i64 (n : Int))) B g o r ⟨b.ops, n, b.tx, b.dr⟩ ts := by
  obtain ⟨vo, vt, h1, h2, h3⟩ := h.c
  exact ⟨⟨vo, vt, (h1.set _).2.1, bd_rows h1 (fun _ => bdb_op) h2 _ _, bd_rows h1 (fun _ => bdb_str) h3 _ _⟩, h.t, h.z, h1.fset h.f _ _⟩
theorem IsBd.drop {X : World} {B g o : Nat} {r : Nat → Option Value} {b : Bld} {ts : List (List Int)} (h : IsBd X B g o r b ts) (n : Nat) : IsBd (X.setCell ⟨g, o + 3, none⟩ (.int .i64 (n : Int))) B g o r ⟨b.ops, b.kept, b.tx, n⟩ ts := by
  obtain ⟨vo, vt, h1, h2, h3⟩ := h.c
  exact ⟨⟨vo, vt, (h1.set _).2.2.2, bd_rows h1 (fun _ => bdb_op) h2 _ _, bd_rows h1 (fun _ => bdb_str) h3 _ _⟩, h.t, h.z, h1.fset h.f _ _⟩
/-- the row of operations has grown, and its cell is set -/
theorem IsBd.ops {X Y : World} {B g o : Nat} {r : Nat → Option Value} {b : Bld} {ts : List (List Int)} {vo vt v' : Value} (h1 : Bd4 X g o r vo (.int .i64 (b.kept : Int)) vt (.int .i64 (b.dr : Int))) (h2 : X.ownsRow B 41 3 vo b.ops.length (opsV b.ops)) (h3 : X.ownsRow B 9 1 vt ts.length (txsV ts))
    (ht : ts.flatten = b.tx ∧ ∀ x ∈ ts, x ≠ []) (hz : B ≤ g) (hf : FrB r o X) (gr : X.grownBy Y vo.ownBlock) {x : Dop} (ho : Y.ownsRow B 41 3 v' (b.ops.length + 1) (opsV b.ops ++ opL x)) :
    Bd4 Y g o r vo (.int .i64 (b.kept : Int)) vt (.int .i64 (b.dr : Int)) ∧ IsBd (Y.setCell ⟨g, o, none⟩ v') B g o r ⟨b.ops ++ [x], b.kept, b.tx, b.dr⟩ ts := by
  obtain ⟨cs, t, k1, k2, _⟩ := h1.c
  have hs : Y.heap[g]? = X.heap[g]? := gr.block g h1.lt fun e => by
    obtain ⟨_, cur, hc⟩ := rowD_block h2 e.symm
    exact typeD_ne k1 hc (bdb_op k2) rfl
  have h1' := h1.same hs
  have h3' : Y.ownsRow B 9 1 vt ts.length (txsV ts) := rowD_on h3 fun G hG => by
    obtain ⟨_, cur, hc⟩ := rowD_block h3 hG
    exact gr.block G (Array.getElem?_eq_some_iff.1 hc).1 fun e => by
      obtain ⟨_, cur', hc'⟩ := rowD_block h2 e.symm
      exact typeD_ne hc hc' (by decide) rfl
  refine ⟨h1', ⟨v', vt, (h1'.set _).1, ?_, bd_rows h1' (fun _ => bdb_str) h3' _ _⟩, ht, hz, h1'.fset (hf.grown gr h2 (by decide)) _ _⟩
  have := bd_rows h1' (fun _ => bdb_op) ho o v'
  simpa [opsV_app, opsV_one] using this
theorem IsBd.txs {X Y : World} {B g o : Nat} {r : Nat → Option Value} {b : Bld} {ts : List (List Int)} {vo vt v' : Value} (h1 : Bd4 X g o r vo (.int .i64 (b.kept : Int)) vt (.int .i64 (b.dr : Int))) (h2 : X.ownsRow B 41 3 vo b.ops.length (opsV b.ops)) (h3 : X.ownsRow B 9 1 vt ts.length (txsV ts))
    (ht : ts.flatten = b.tx ∧ ∀ x ∈ ts, x ≠ []) (hz : B ≤ g) (hf : FrB r o X) (gr : X.grownBy Y vt.ownBlock) {x : List Int} (hx : x ≠ []) (ho : Y.ownsRow B 9 1 v' (ts.length + 1) (txsV ts ++ [.string (strOfNums x)])) :
    Bd4 Y g o r vo (.int .i64 (b.kept : Int)) vt (.int .i64 (b.dr : Int)) ∧ IsBd (Y.setCell ⟨g, o + 2, none⟩ v') B g o r (b.put x) (ts ++ [x]) := by
  obtain ⟨cs, t, k1, k2, _⟩ := h1.c
  have hs : Y.heap[g]? = X.heap[g]? := gr.block g h1.lt fun e => by
    obtain ⟨_, cur, hc⟩ := rowD_block h3 e.symm
    exact typeD_ne k1 hc (bdb_str k2) rfl
  have h1' := h1.same hs
  have h2' : Y.ownsRow B 41 3 vo b.ops.length (opsV b.ops) := rowD_on h2 fun G hG => by
    obtain ⟨_, cur, hc⟩ := rowD_block h2 hG
    exact gr.block G (Array.getElem?_eq_some_iff.1 hc).1 fun e => by
      obtain ⟨_, cur', hc'⟩ := rowD_block h3 e.symm
      exact typeD_ne hc hc' (by decide) rfl
  refine ⟨h1', ⟨vo, v', (h1'.set _).2.2.1, bd_rows h1' (fun _ => bdb_op) h2' _ _, ?_⟩, ⟨by simp [Bld.put, ht.1], fun y hy => ?_⟩, hz, h1'.fset (hf.grown gr h3 (by decide)) _ _⟩
  · have := bd_rows h1' (fun _ => bdb_str) ho (o + 2) v'
    simpa [txsV] using this
  · rcases List.mem_append.1 hy with hy | hy
    · exact ht.2 y hy
    · obtain rfl := List.mem_singleton.1 hy; exact hx

set_option maxRecDepth 100000 in
set_option maxHeartbeats 1000000 in
theorem bdrop_at (B g o : Nat) (r : Nat → Option Value) (b : Bld) (ts : List (List Int)) (n : Nat) (X : World) (h : IsBd X B g o r b ts) (hn : b.dr + n ≤ 4611686018427387904) :
    Calls Tryd.prog 66 #[.pointer (some ⟨g, o, none⟩), .int .i64 (n : Int)] X fun y X' => y = .returned (.tuple #[]) ∧ IsBd X' B g o r (b.drop n) ts ∧ Below B X X' := by
  obtain ⟨vo, vt, h1, h2, h3⟩ := h.c
  obtain ⟨c0, c1, c2, c3, fz⟩ := h1.cells
  have f3 := fz (o + 3)
  have hw : wrap64 ((b.dr : Int) + (n : Int)) = ((b.dr + n : Nat) : Int) := by rw [wrapD _ (by omega) (by omega)]; omega
  have HR := hide (h.drop (b.dr + n))
  have HB := hide ((Below.refl B X).setCell (p := ⟨g, o + 3, none⟩) h.z (.int .i64 ((b.dr + n : Nat) : Int)))
  clear h h1 h2 h3 fz c0 c1 c2 hn
  go_enter Tryd.func66, Tryd.ntmps66
  go_wp2_with fail
  exact bodyPost_end (v := .tuple #[]) (results_none Tryd.results66 _ _ _) rfl ⟨rfl, unhide HR, unhide HB⟩
theorem str_empD (t : List Int) : (strOfNums t).toList.isEmpty = t.isEmpty := by
  rw [Lib.strOfNums_toList]
  cases t <;> rfl
set_option maxRecDepth 100000 in
set_option maxHeartbeats 1000000 in
theorem bput_at (B g o : Nat) (r : Nat → Option Value) (b : Bld) (ts : List (List Int)) (t : List Int) (X : World) (h : IsBd X B g o r b ts) (hn : ts.length ≤ 4398046511104) (hB : B ≤ X.heap.size) :
    Calls Tryd.prog 65 #[.pointer (some ⟨g, o, none⟩), .string (strOfNums t)] X fun y X' => y = .returned (.tuple #[]) ∧ IsBd X' B g o r (b.put t) (if t = [] then ts else ts ++ [t]) ∧ Below B X X' := by
  by_cases ht : t = []
  · subst ht
    rw [if_pos rfl]
    have hE := str_empD []
    rw [List.isEmpty_nil] at hE
    have HR : Hid (IsBd X B g o r (b.put []) ts) := hide (by
      have : b.put [] = b := by simp [Bld.put]
      rw [this]; exact h)
    clear h hn hB
    generalize strOfNums [] = st at *
    go_enter Tryd.func65, Tryd.ntmps65
    go_wp2_with fail
    exact bodyPost_end (v := .tuple #[]) (results_none Tryd.results65 _ _ _) rfl ⟨rfl, unhide HR, Below.refl _ _⟩
  · rw [if_neg ht]
    obtain ⟨vo, vt, h1, h2, h3⟩ := h.c
    obtain ⟨c0, c1, c2, c3, fz⟩ := h1.cells
    obtain ⟨g2, k2, W2, r2, o2, gr2, b2⟩ := push_str X B ts.length vt (txsV ts) (strOfNums t) 109 h3 hn hB
    obtain ⟨d1, HR'⟩ := IsBd.txs h1 h2 h3 h.t h.z h.f gr2 ht o2
    have HR := hide HR'
    have HB := hide (b2.setCell (p := ⟨g, o + 2, none⟩) h.z (.slice (some ⟨g2, 0, none⟩) (ts.length + 1) k2))
    obtain ⟨e0, e1, e2, e3, fz2⟩ := d1.cells
    have f2 := fz2 (o + 2)
    have R2 := hide r2
    have hne : (strOfNums t).toList.isEmpty = false := by rw [str_empD]; cases t with | nil => exact absurd rfl ht | cons a r => rfl
    clear h h1 h2 h3 fz c0 c1 c3 hn HR' d1 e0 e1 e3 fz2 o2 gr2 b2 r2 hB
    generalize strOfNums t = st at *
    generalize ts.length + 1 = m2 at *
    go_enter Tryd.func65, Tryd.ntmps65
    go_wp2_with (at_builtin; refine wpList_append_known rfl _ _ 109 109 rfl _ _ rfl rfl _ _ (unhide R2) ?_; clear R2)
    exact bodyPost_end (v := .tuple #[]) (results_none Tryd.results65 _ _ _) rfl ⟨rfl, unhide HR, unhide HB⟩

end Go.Proofs.YtkdnanlgkedjgabDoor
