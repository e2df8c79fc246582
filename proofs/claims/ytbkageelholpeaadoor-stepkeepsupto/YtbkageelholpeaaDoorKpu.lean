/- StepKeeps: its text in parts; the states between them. -/
import Derived.Test.YtbkageelholpeaaDoorKpt
namespace Go.Proofs.YtbkageelholpeaaDoor
open Go.ChangeShapes Go.WideShapes Go.ChangeAt Go.RowKit

/-- the text behind so many statements, and its first statement -/
def tl : Nat → Code → Code
  | 0, c => c
  | n + 1, .seq _ b => tl n b
  | _, c => c
def hdc : Code → Code
  | .seq a _ => a
  | c => c
def bodyOf (f : Func) : Code := f.body.getD .skip

theorem KB.make {w w4 w6 W' : World} {l : List Int} {gA gS gK : Nat} {ak : Option Addr} {ck : Nat} {row : Option Nat} (h4 : w.heap.size < w4.heap.size) (y4 : Below w.heap.size w w4) (bR4 : Boxed w4 w.heap.size 4 (.bool false)) (x46 : Below w4.heap.size w4 w6) (hg : w6.grownBy W' row)
    (hrow : ∀ k, row = some k → k = gA) (ba : Boxed W' gA 25 (.func (.func 15) #[] #[.pointer (some ⟨gS, 0, none⟩)])) (ga : w4.heap.size ≤ gA) (cS : w6.cell? ⟨gS, 0, none⟩ = some (.string (strOfNums l))) (zS : w4.heap.size ≤ gS ∧ gS < w6.heap.size) (nS : gS ≠ gA)
    (cK : w6.cell? ⟨gK, 0, none⟩ = some (.slice ak l.length ck)) (zK : w4.heap.size ≤ gK ∧ gK < w6.heap.size) (nK : gK ≠ gA) (bK : IsB w6 ak ck l) (iK : ∀ k, (Value.slice ak l.length ck).ownBlock = some k → w4.heap.size ≤ k ∧ k < w6.heap.size ∧ k ≠ gA) :
    KB w l gA gS gK ak ck w4.heap.size W'.heap.size W' ∧ Below w4.heap.size w4 W' := by
  have hne : ∀ g, g ≠ gA → some g ≠ row := fun g hn e => hn (hrow g e.symm)
  have hs := hg.size
  have xW : Below w4.heap.size w4 W' := x46.grown hg x46.size (fun k e => by rw [hrow k e]; exact ga)
  exact ⟨⟨(xW.block _ bR4.lt).trans bR4, ba.cell, hg.cell (a := ⟨gS, 0, none⟩) cS (hne _ nS), hg.cell (a := ⟨gK, 0, none⟩) cK (hne _ nK), isB_row bK hg (fun k e e' => (iK k e').2.2 (hrow k e)),
    ⟨ga, ba.lt⟩, ⟨zS.1, by omega⟩, ⟨zK.1, by omega⟩, fun k e => ⟨(iK k e).1, by have := (iK k e).2.1; omega⟩, h4, Nat.le_refl _, y4.trans (xW.mono (Nat.le_of_lt h4))⟩, xW⟩

/-- the state behind the lists: rm the bytes of the room -/
structure SA (w : World) (l : List Int) (gA gS gK : Nat) (ak : Option Addr) (ck lo hi gr cr B0 : Nat) (rm : List Int) (v : Value) (gs : List (Nat × Nat)) (W : World) : Prop where
  kb : KB w l gA gS gK ak ck lo hi W
  room : Own W B0 (.slice (some ⟨gr, 0, none⟩) (l.length + 3) cr) rm
  ll : LL W hi v (runesL l).length gs
  tab : Tab W
theorem SA.on {w : World} {l : List Int} {gA gS gK : Nat} {ak : Option Addr} {ck lo hi gr cr B0 : Nat} {rm : List Int} {v : Value} {gs : List (Nat × Nat)} {W W' : World} (h : SA w l gA gS gK ak ck lo hi gr cr B0 rm v gs W) (hb : Below W.heap.size W W') : SA w l gA gS gK ak ck lo hi gr cr B0 rm v gs W' :=
  ⟨h.kb.on hb, h.room.below hb, h.ll.on hb, h.tab.below hb h.tab.size⟩

/-- the state while the iterators are gone over -/
structure WS (w : World) (l : List Int) (gA gS gK : Nat) (ak : Option Addr) (ck lo hi : Nat) (v : Value) (gs : List (Nat × Nat)) (gW : Nat) (aw : Option Addr) (cw : Nat) (W : World) : Prop where
  kb : KB w l gA gS gK ak ck lo hi W
  ll : LL W hi v (runesL l).length gs
  bw : Boxed W gW 34 (.slice aw (spots l 0).length cw)
  sw : StepsAt W l aw (spots l 0)
  tab : Tab W
theorem WS.on {w : World} {l : List Int} {gA gS gK : Nat} {ak : Option Addr} {ck lo hi : Nat} {v : Value} {gs : List (Nat × Nat)} {gW : Nat} {aw : Option Addr} {cw : Nat} {W W' : World} (h : WS w l gA gS gK ak ck lo hi v gs gW aw cw W) (hb : Below W.heap.size W W') : WS w l gA gS gK ak ck lo hi v gs gW aw cw W' :=
  ⟨h.kb.on hb, h.ll.on hb, (hb.block _ h.bw.lt).trans h.bw, h.sw.below hb (Nat.le_refl _), h.tab.below hb h.tab.size⟩

/-- a loop over an iterator that names no variable, and is left by its end or by one break -/
theorem range_skip1 {P : Program} {n : Nat} {α : Type} {g : Operand} {ps : Array Tmp} {body : Code} {Q : Exit → Act → World → Prop} {a : Act} {w : World}
    (h1 : 1 ≤ n) {gf : Nat} {lb : Array Value} (hg : a.eval g = .func (.func gf) #[] lb) (eg : ∀ args w, (callFunc gf args).run P w = .ok (.enter gf args) w)
    {encs : α → Array Value} {n₀ : Nat} {S Sp : List α → Prop} {N : Nat} {w0 : World} (hseq : SeqStopsK Fence.wide (n - 1) P gf lb encs (Kp n₀) S Sp N w0) (hn : n₀ ≤ w.heap.size) (hb0 : Below w0.heap.size w0 w) (hps : ∀ x, (encs x).size = ps.size)
    (id : Nat) (I : List α → World → Prop) (J : World → Prop) (hI : OwnFrom w.heap.size I) (hJ : OwnFrom w.heap.size (fun (_ : List α) W => J W)) (h0 : I [] w)
    (hbody : ∀ (l : Nat) (pre : List α) (x : α) (W : World), w.heap.size ≤ l → I pre W → pre.length < N → body.wpIn (Fence.wide.inRound l) (n - 1 - 1) P (ownPostG w.heap.size (Kp n₀) I (fun c _ W => c = Code.exit id ∧ J W) (pre ++ [x]) W) { tmps := (ps.zip (encs x)).foldl (fun t (p, v) => t.setIfInBounds p v) a.tmps, defers := [] } W)
    (hIJ : ∀ xs W, I xs W → J W) (hQ : ∀ a w, Q .normal a w → Q (.exit id) a w)
    (hend : ∀ (D : Nat) (W : World), w.heap.size ≤ D → J W → W.heap[D]? = some (.deferred (some [])) → Q .normal { a with defers := { target := .collected D, args := #[] } :: a.defers } W) :
    (Code.rangeFunc g ps Code.skip body).wpIn Fence.wide n P Q a w :=
  range_skip h1 hg eg hseq hn hb0 hps I (fun c _ W => c = Code.exit id ∧ J W) hI (fun _ s W W' row h hg hr => ⟨h.1, hJ s W W' row h.2 hg hr⟩) h0 hbody
    (fun D xs W hD _ hi hK => hend D W hD (hIJ xs W hi) hK) (fun D c pre W hD _ h hK => by obtain ⟨rfl, hj⟩ := h; exact wpIn_exit (hQ _ _ (hend D W hD hj hK)))

/-- nothing that was there turns but what lies in block g from place m on -/
structure Spare (g m : Nat) (W W' : World) : Prop where
  grown : W.grownBy W' (some g)
  cells : ∀ i, i < m → W'.cell? ⟨g, i, none⟩ = W.cell? ⟨g, i, none⟩
  there : ∀ i, (W.cell? ⟨g, i, none⟩).isSome = true → (W'.cell? ⟨g, i, none⟩).isSome = true
  frozen : ∀ i, W'.frozen? ⟨g, i, none⟩ = W.frozen? ⟨g, i, none⟩
theorem Spare.refl (g m : Nat) (W : World) : Spare g m W W := ⟨grown_refl _ _, fun _ _ => rfl, fun _ h => h, fun _ => rfl⟩
theorem Spare.below {g m : Nat} {W W' : World} (h : Below W.heap.size W W') (hg : g < W.heap.size) : Spare g m W W' :=
  ⟨grown_below _ h, fun i _ => h.cell (p := ⟨g, i, none⟩) hg, fun i hi => by rw [h.cell (p := ⟨g, i, none⟩) hg]; exact hi, fun i => h.frozen (p := ⟨g, i, none⟩) hg⟩
/-- one write, and another into the same block further on, or into one that is new -/
theorem Spare.trans {g m g' n : Nat} {A B C : World} (h : Spare g m A B) (k : Spare g' n B C) (hg : g < A.heap.size) (hk : (g' = g ∧ m ≤ n) ∨ A.heap.size ≤ g') : Spare g m A C := by
  rcases hk with ⟨rfl, hmn⟩ | hk
  · exact ⟨grown_trans h.grown k.grown (fun j e => by cases e; exact Or.inl rfl), fun i hi => (k.cells i (by omega)).trans (h.cells i hi), fun i hi => k.there i (h.there i hi), fun i => (k.frozen i).trans (h.frozen i)⟩
  · have hs := h.grown.size
    have hb : C.heap[g]? = B.heap[g]? := k.grown.block g (by omega) (fun e => by cases e; omega)
    have hc : ∀ i, C.cell? ⟨g, i, none⟩ = B.cell? ⟨g, i, none⟩ := fun i => World.cell?_of_block (a := ⟨g, i, none⟩) hb
    have hf : ∀ i, C.frozen? ⟨g, i, none⟩ = B.frozen? ⟨g, i, none⟩ := fun i => by simp only [World.frozen?, hb]
    exact ⟨grown_trans h.grown k.grown (fun j e => by cases e; exact Or.inr hk), fun i hi => (hc i).trans (h.cells i hi), fun i hi => by rw [hc]; exact h.there i hi, fun i => (hf i).trans (h.frozen i)⟩
theorem Spare.mono {g m n : Nat} {W W' : World} (h : Spare g n W W') (hm : m ≤ n) : Spare g m W W' := ⟨h.grown, fun i hi => h.cells i (by omega), h.there, h.frozen⟩
theorem Spare.row {g m c N : Nat} {W W' : World} (h : Spare g m W W') (hr : RwX .i32 N W (.slice (some ⟨g, 0, none⟩) m c)) : RwX .i32 N W' (.slice (some ⟨g, 0, none⟩) m c) := by
  rcases hr with h0 | ⟨g', n, cap, e, h1, h2, h3, h4, h5⟩
  · cases h0
  · cases e
    exact Or.inr ⟨g, m, c, rfl, h1, Nat.lt_of_lt_of_le h2 h.grown.size, h3, fun i hi => ⟨h.there i (h4 i hi).1, by rw [h.frozen]; exact (h4 i hi).2⟩, fun i hi => by rw [h.cells i hi]; exact h5 i hi⟩

/-- append one to a row of runes -/
theorem pushS (W : World) (N g n cap : Nat) (x : Int) (ty : TypeId) (h : RwX .i32 N W (.slice (some ⟨g, 0, none⟩) n cap)) (hN : N ≤ 8388608) :
    ∃ g' c' W', (Builtin.append_ #[28, 28] ty #[.slice (some ⟨g, 0, none⟩) n cap, .slice (some ⟨W.heap.size, 0, none⟩) 1 1]).run Tryd.prog (W.alloc (.cells #[.int .i32 x] 21)) = .ok (.slice (some ⟨g', 0, none⟩) (n + 1) c') W' ∧ RwX .i32 (N + 1) W' (.slice (some ⟨g', 0, none⟩) (n + 1) c') ∧
      Spare g n W W' ∧ (g' = g ∨ W.heap.size ≤ g') ∧ W'.cell? ⟨g', n, none⟩ = some (.int .i32 x) := by
  obtain ⟨i, hi, hz, hs, hby⟩ := info_i32
  have hsrc : Src Tryd.prog i.size 28 (.slice (some ⟨W.heap.size, 0, none⟩) 1 1) 1 [.int .i32 x] (W.alloc (.cells #[.int .i32 x] 21)) := by
    rw [hs]
    refine Src.ofSlice _ Tryd.underlying28 ⟨W.heap.size, 0, none⟩ 1 1 [.int .i32 x] rfl (fun j u hj => ?_) (fun u hu => by simp at hu; subst hu; rfl)
    cases j with
    | zero => simp at hj; subst hj; rw [Addr.add_lit]; exact (World.cell?_alloc_mark W _ _ (0, 0) 0).trans rfl
    | succ j => simp at hj
  rcases h with h0 | ⟨g0, n0, cap0, e0, hn, hg, hnc, hc, hv⟩
  · cases h0
  · cases e0
    have ba : Below W.heap.size W (W.alloc (.cells #[.int .i32 x] 21)) := (Below.refl _ _).alloc (Nat.le_refl _) _
    have sa : Spare g n W (W.alloc (.cells #[.int .i32 x] 21)) := Spare.below ba hg
    have hcell : ∀ i, (W.alloc (.cells #[.int .i32 x] 21)).cell? ⟨g, i, none⟩ = W.cell? ⟨g, i, none⟩ := fun i => World.cell?_of_block (a := ⟨g, i, none⟩) (heap_alloc_old W _ hg)
    have hfro : ∀ i, (W.alloc (.cells #[.int .i32 x] 21)).frozen? ⟨g, i, none⟩ = W.frozen? ⟨g, i, none⟩ := fun i => by
      have e := heap_alloc_old W (.cells #[.int .i32 x] 21) hg
      simp only [World.frozen?, e]
    by_cases hroom : n + 1 ≤ cap
    · have := run_append_room_src (P := Tryd.prog) (W.alloc (.cells #[.int .i32 x] 21)) 28 28 ty 21 i Tryd.underlying28 hi g 0 n cap _ 1 _ hsrc hroom
        (fun j hj => by
          obtain rfl : j = 0 := by simpa using hj
          rw [hs, Nat.mul_one, Nat.zero_add, Nat.add_zero, hcell]; exact (hc n (by omega)).1)
        (fun j hj => by
          obtain rfl : j = 0 := by simpa using hj
          rw [hs, Nat.mul_one, Nat.zero_add, Nat.add_zero, hfro]; exact (hc n (by omega)).2)
      rw [hs, Nat.mul_one, Nat.zero_add] at this
      rw [setCells_one] at this
      have hb : RwX .i32 N (W.alloc (.cells #[.int .i32 x] 21)) (.slice (some ⟨g, 0, none⟩) n cap) := Or.inr ⟨g, n, cap, rfl, hn, by simp; omega, hnc, fun i hi => ⟨by rw [hcell]; exact (hc i hi).1, by rw [hfro]; exact (hc i hi).2⟩, fun i hi => by rw [hcell]; exact hv i hi⟩
      have hsome : ((W.alloc (.cells #[.int .i32 x] 21)).cell? ⟨g, n, none⟩).isSome = true := by rw [hcell]; exact (hc n (by omega)).1
      have ss : Spare g n (W.alloc (.cells #[.int .i32 x] 21)) ((W.alloc (.cells #[.int .i32 x] 21)).setCell ⟨g, n, none⟩ (.int .i32 x)) := by
        refine ⟨grown_set _ _ _ _, fun i hi => ?_, fun i hi => ?_, fun i => frozen_set i⟩
        · rw [cell_set hsome, if_neg (by omega)]
        · rw [cell_set hsome]; split
          · rfl
          · exact hi
      refine ⟨_, _, _, this, rwX_put hb x hroom, sa.trans ss hg (Or.inl ⟨rfl, Nat.le_refl _⟩), Or.inl rfl, ?_⟩
      rw [cell_set hsome, if_pos rfl]
    · have hold : (Builtin.firstCells i.size n (.slice (some ⟨g, 0, none⟩) n cap)).run Tryd.prog (W.alloc (.cells #[.int .i32 x] 21)).drew = .ok ((List.range n).map fun i => (W.cell? ⟨g, i, none⟩).getD undef).toArray (W.alloc (.cells #[.int .i32 x] 21)).drew := by
        refine run_firstCells_some _ _ n ⟨g, 0, none⟩ n cap _ (by rw [hs]; simp) (fun j u hj => ?_)
        have hj' : j < n := by
          rcases Nat.lt_or_ge j n with h | h
          · exact h
          · rw [List.getElem?_eq_none (by simpa using h)] at hj; cases hj
        obtain ⟨b, hb⟩ := hv j hj'
        rw [List.getElem?_map, List.getElem?_range hj'] at hj
        simp [hb] at hj
        subst hj
        rw [Addr.add_lit, Nat.zero_add]
        exact (hcell j).trans hb
      have := run_append_grow_src (P := Tryd.prog) (W.alloc (.cells #[.int .i32 x] 21)) 28 28 ty 21 i (.int .i32 0) Tryd.underlying28 hi hz (some ⟨g, 0, none⟩) n cap _ hold _ 1 _ hsrc (by omega) (by omega)
        (by rw [hby]; exact growslice_fits (by omega) (by omega))
      refine ⟨_, _, _, this, ?_, Spare.below (((ba.drew).alloc (by simp) _)) hg, Or.inr (by simp), ?_⟩
      · refine rwX_new _ _ _ (n + 1) _ (by simp) (by omega) (fun u hu => ?_) (grownCap_ge _ _ _ _)
        rcases List.mem_append.1 hu with hu | hu
        · obtain ⟨j, hj, rfl⟩ := List.mem_map.1 hu
          obtain ⟨b, hb⟩ := hv j (List.mem_range.1 hj)
          exact ⟨b, by rw [hb]; rfl⟩
        · simp at hu; subst hu; exact ⟨x, rfl⟩
      · refine (World.cell?_alloc_mark _ _ _ (0, 0) n).trans ?_
        rw [Array.getElem?_append_left (by simp)]
        simp

/-- the state behind the iterators: D the mark of the loop over one -/
structure TS (w : World) (B S D : Nat) (v : Value) (m : Nat) (gs : List (Nat × Nat)) (W : World) : Prop where
  cr : Boxed W w.heap.size 4 (.bool false)
  dk : W.heap[D]? = some (.deferred (some []))
  ll : LL W B v m gs
  below : Below w.heap.size w W
  hD : D < S ∧ w.heap.size ≤ D ∧ ∀ p ∈ gs, p.1 ≠ D
  hB : w.heap.size < B ∧ w.heap.size < S
  hS : (∀ p ∈ gs, p.1 < S) ∧ ∀ k, v.ownBlock = some k → k < S
  sz : S ≤ W.heap.size
theorem TS.one {w : World} {B S D : Nat} {v : Value} {m : Nat} {gs : List (Nat × Nat)} {W W' : World} {p : Nat × Nat} (h : TS w B S D v m gs W) (hp : p ∈ gs) (hg : W.grownBy W' (some p.1)) (hr : RwX .i32 4194304 W' (sl m p)) : TS w B S D v m gs W' := by
  have hge := h.ll.ge p hp
  refine ⟨h.cr.kept hg (fun e => by have := Option.some.inj e; have := h.hB; omega), (hg.block D (heap_lt h.dk) (fun e => h.hD.2.2 p hp (Option.some.inj e).symm)).trans h.dk, ⟨World.ownsRow.kept h.ll.own hg (Or.inr (h.ll.ne p hp)), ⟨fun q hq => ?_, h.ll.rr.apart⟩, h.ll.ge, h.ll.ne⟩,
    h.below.grown hg h.below.size (fun k e => by have := Option.some.inj e; have := h.hB; omega), h.hD, h.hB, h.hS, Nat.le_trans h.sz hg.size⟩
  by_cases e : q.1 = p.1
  · have : q = p := by
      obtain ⟨i, hi, rfl⟩ := List.mem_iff_getElem.1 hq
      obtain ⟨j, hj, rfl⟩ := List.mem_iff_getElem.1 hp
      rcases Nat.lt_trichotomy i j with hlt | rfl | hlt
      · have := List.pairwise_iff_getElem.1 h.ll.rr.apart i j (by simpa using hi) (by simpa using hj) hlt
        simp at this; exact absurd e this
      · rfl
      · have := List.pairwise_iff_getElem.1 h.ll.rr.apart j i (by simpa using hj) (by simpa using hi) hlt
        simp at this; exact absurd e.symm this
    rw [this]; exact hr
  · exact (h.ll.rr.rows q hq).keptK hg (Or.inr (fun e' => e (Option.some.inj e')))
theorem TS.far {w : World} {B S D : Nat} {v : Value} {m : Nat} {gs : List (Nat × Nat)} {W W' : World} {row : Option Nat} (h : TS w B S D v m gs W) (hg : W.grownBy W' row) (hr : ∀ k, row = some k → S ≤ k) : TS w B S D v m gs W' :=
  ⟨h.cr.kept hg (fun e => by have := hr _ e.symm; have := h.hB; omega), (hg.block D (heap_lt h.dk) (fun e => by have := hr _ e.symm; have := h.hD; omega)).trans h.dk,
    h.ll.kept hg (fun k e => ⟨fun e' => by have := h.hS.2 k e'; have := hr k e; omega, fun p hp e' => by have := h.hS.1 p hp; have := hr k e; omega⟩),
    h.below.grown hg h.below.size (fun k e => by have := hr k e; have := h.hB; omega), h.hD, h.hB, h.hS, Nat.le_trans h.sz hg.size⟩
theorem TS.far' {w : World} {B S S' D : Nat} {v : Value} {m : Nat} {gs : List (Nat × Nat)} {W : World} (h : TS w B S D v m gs W) (hS : S ≤ S') (hW : S' ≤ W.heap.size) : TS w B S' D v m gs W :=
  ⟨h.cr, h.dk, h.ll, h.below, ⟨by have := h.hD; omega, h.hD.2⟩, ⟨h.hB.1, by have := h.hB; omega⟩, ⟨fun p hp => by have := h.hS.1 p hp; omega, fun k e => by have := h.hS.2 k e; omega⟩, hW⟩

/-- the first k lists hold nothing but their own number -/
def FL (gs : List (Nat × Nat)) (m k : Nat) (W : World) : Prop := ∀ j, j < k → ∀ i, i < m → W.cell? ⟨(gs.getD j (0, 0)).1, i, none⟩ = some (.int .i32 (j : Nat))
theorem getP_mem {gs : List (Nat × Nat)} {j : Nat} (h : j < gs.length) : gs.getD j (0, 0) ∈ gs := by
  rw [List.getD, List.getElem?_eq_getElem h]; exact List.getElem_mem h
theorem LL.apart {W : World} {B : Nat} {v : Value} {m : Nat} {gs : List (Nat × Nat)} (h : LL W B v m gs) {i j : Nat} (hi : i < gs.length) (hj : j < gs.length) (hne : i ≠ j) : (gs.getD i (0, 0)).1 ≠ (gs.getD j (0, 0)).1 := by
  intro e
  simp only [List.getD, List.getElem?_eq_getElem hi, List.getElem?_eq_getElem hj, Option.getD_some] at e
  rcases Nat.lt_or_gt_of_ne hne with hlt | hlt
  · have := List.pairwise_iff_getElem.1 h.rr.apart i j (by simpa using hi) (by simpa using hj) hlt
    simp at this; exact absurd e this
  · have := List.pairwise_iff_getElem.1 h.rr.apart j i (by simpa using hj) (by simpa using hi) hlt
    simp at this; exact absurd e.symm this
theorem FL.kept {gs : List (Nat × Nat)} {m k : Nat} {W W' : World} {row : Option Nat} (h : FL gs m k W) (hg : W.grownBy W' row) (hr : ∀ j, j < k → row ≠ some (gs.getD j (0, 0)).1) : FL gs m k W' :=
  fun j hj i hi => hg.cell (a := ⟨(gs.getD j (0, 0)).1, i, none⟩) (h j hj i hi) (fun e => hr j hj e.symm)

theorem LL.get {W : World} {B gl cl m : Nat} {gs : List (Nat × Nat)} (h : LL W B (.slice (some ⟨gl, 0, none⟩) 5 cl) m gs) (hgs : gs.length = 5) {k : Nat} (hk : k < 5) : W.cell? ⟨gl, k, none⟩ = some (.slice (some ⟨(gs.getD k (0, 0)).1, 0, none⟩) m (gs.getD k (0, 0)).2) := by
  obtain ⟨g, c, e, _, _, hc⟩ := OwnL.cell h.own (by omega)
  rw [hgs] at e
  cases e
  exact hc k (by omega)
/-- the grown lists: the k-th ends with 100 + k -/
structure GR (gs : List (Nat × Nat)) (m S k : Nat) (gv : Value) (hs : List (Nat × Nat)) (W : World) : Prop where
  own : OwnL W S gv (m + 1) hs
  len : hs.length = k
  cell : ∀ j, j < k → W.cell? ⟨(hs.getD j (0, 0)).1, m, none⟩ = some (.int .i32 (100 + (j : Nat)))
  at' : ∀ j, j < k → ((hs.getD j (0, 0)).1 = (gs.getD j (0, 0)).1 ∨ S ≤ (hs.getD j (0, 0)).1) ∧ (hs.getD j (0, 0)).1 < W.heap.size ∧ gv.ownBlock ≠ some (hs.getD j (0, 0)).1
theorem GR.nil (gs : List (Nat × Nat)) (m S : Nat) (W : World) : GR gs m S 0 (.slice none 0 0) [] W := ⟨World.ownsRow_nil _ _ _ _, rfl, fun _ h => absurd h (Nat.not_lt_zero _), fun _ h => absurd h (Nat.not_lt_zero _)⟩
theorem getD_snoc1 (hs : List (Nat × Nat)) (p : Nat × Nat) {j : Nat} (h : j < hs.length) : (hs ++ [p]).getD j (0, 0) = hs.getD j (0, 0) := by simp [List.getD, List.getElem?_append_left h]
theorem getD_snoc2 (hs : List (Nat × Nat)) (p : Nat × Nat) : (hs ++ [p]).getD hs.length (0, 0) = p := by simp [List.getD]
theorem GR.push {w : World} {B S D : Nat} {v : Value} {m k : Nat} {gs hs : List (Nat × Nat)} {gv : Value} {wo w2 : World} {h c : Nat} (ty : TypeId) (hgs : gs.length = 5) (hk : k < 5) (ts : TS w B S D v m gs wo) (fl : FL gs m 5 wo) (gr : GR gs m S k gv hs wo)
    (sp : Spare (gs.getD k (0, 0)).1 m wo w2) (hat : h = (gs.getD k (0, 0)).1 ∨ wo.heap.size ≤ h) (hh : h < w2.heap.size) (hc : w2.cell? ⟨h, m, none⟩ = some (.int .i32 (100 + (k : Nat)))) :
    ∃ gv' w3, (Builtin.append_ #[27, 27] ty #[gv, .slice (some ⟨w2.heap.size, 0, none⟩) 1 1]).run Tryd.prog (w2.alloc (.cells #[.slice (some ⟨h, 0, none⟩) (m + 1) c] 28)) = .ok gv' w3 ∧
      TS w B S D v m gs w3 ∧ FL gs m 5 w3 ∧ GR gs m S (k + 1) gv' (hs ++ [(h, c)]) w3 := by
  have hp := getP_mem (gs := gs) (j := k) (by omega)
  have hrow := ts.ll.rr.rows _ hp
  have hgk := ts.hS.1 _ hp
  have hsz := ts.sz
  have s2 := sp.grown.size
  have ts2 : TS w B S D v m gs w2 := ts.one hp sp.grown (sp.row hrow)
  have fl2 : FL gs m 5 w2 := fun j hj i hi => by
    by_cases e : j = k
    · subst e; rw [sp.cells i hi]; exact fl j hj i hi
    · exact sp.grown.cell (a := ⟨(gs.getD j (0, 0)).1, i, none⟩) (fl j hj i hi) (fun e' => ts.ll.apart (by omega) (by omega) e (Option.some.inj e'))
  have hgv : ∀ q, gv.ownBlock = some q → S ≤ q ∧ q < wo.heap.size := World.ownsRow.lt gr.own
  have own2 : OwnL w2 S gv (m + 1) hs := by
    refine World.ownsRow.kept gr.own sp.grown ?_
    cases e : gv.ownBlock with
    | none => exact Or.inl rfl
    | some q => exact Or.inr (fun e' => by have := hgv q e; have := Option.some.inj e'; omega)
  have hne : ∀ j, j < k → (hs.getD j (0, 0)).1 ≠ (gs.getD k (0, 0)).1 := fun j hj e => by
    rcases (gr.at' j hj).1 with h' | h'
    · exact ts.ll.apart (by omega) (by omega) (by omega : j ≠ k) (h'.symm.trans e)
    · omega
  have cell2 : ∀ j, j < k → w2.cell? ⟨(hs.getD j (0, 0)).1, m, none⟩ = some (.int .i32 (100 + (j : Nat))) := fun j hj => sp.grown.cell (a := ⟨(hs.getD j (0, 0)).1, m, none⟩) (gr.cell j hj) (fun e => hne j hj (Option.some.inj e))
  obtain ⟨gv', w3, r3, o3, b3, g3, at3⟩ := push_listN w2 S gv (m + 1) hs (h, c) ty own2 (by rw [gr.len]; omega) (by omega)
  have ga := World.grownBy_alloc w2 (.cells #[.slice (some ⟨h, 0, none⟩) (m + 1) c] 28) none
  have s3 := g3.size
  rw [World.size_alloc] at s3
  have hgvh : gv.ownBlock ≠ some h := fun e => by have := hgv h e; omega
  refine ⟨gv', w3, r3, (ts2.far ga (fun k e => by cases e)).far g3 (fun q e => (hgv q e).1), (fl2.kept ga (fun j hj e => by cases e)).kept g3 (fun j hj e => by have := (hgv _ e).1; have := ts.hS.1 _ (getP_mem (gs := gs) (j := j) (by omega)); omega), o3, by rw [List.length_append, gr.len]; rfl, fun j hj => ?_, fun j hj => ?_⟩
  · by_cases e : j < k
    · rw [getD_snoc1 _ _ (by rw [gr.len]; exact e)]
      exact g3.cell (a := ⟨(hs.getD j (0, 0)).1, m, none⟩) (ga.cell (a := ⟨(hs.getD j (0, 0)).1, m, none⟩) (cell2 j e) (fun e' => by cases e')) (fun e' => (gr.at' j e).2.2 e'.symm)
    · obtain rfl : j = k := by omega
      have := getD_snoc2 hs (h, c)
      rw [gr.len] at this
      rw [this]
      exact g3.cell (a := ⟨h, m, none⟩) (ga.cell (a := ⟨h, m, none⟩) hc (fun e' => by cases e')) (fun e' => hgvh e'.symm)
  · have hnew : ∀ q, q < w2.heap.size → gv.ownBlock ≠ some q → gv'.ownBlock ≠ some q := fun q hq hn e => by
      rcases at3 with h' | h'
      · rw [h'] at e; exact hn e
      · rw [h'] at e; have := Option.some.inj e; omega
    by_cases e : j < k
    · rw [getD_snoc1 _ _ (by rw [gr.len]; exact e)]
      have := gr.at' j e
      exact ⟨this.1, by omega, hnew _ (by omega) this.2.2⟩
    · obtain rfl : j = k := by omega
      have := getD_snoc2 hs (h, c)
      rw [gr.len] at this
      rw [this]
      refine ⟨?_, by show h < _; omega, hnew h hh hgvh⟩
      rcases hat with h' | h'
      · exact Or.inl h'
      · exact Or.inr (by show S ≤ h; omega)
theorem GR.get {gs hs : List (Nat × Nat)} {m S : Nat} {gv : Value} {W : World} (h : GR gs m S 5 gv hs W) : ∃ gg cg, gv = .slice (some ⟨gg, 0, none⟩) 5 cg ∧ ∀ k, k < 5 → ∃ q c, W.cell? ⟨gg, k, none⟩ = some (.slice (some ⟨q, 0, none⟩) (m + 1) c) ∧ W.cell? ⟨q, m, none⟩ = some (.int .i32 (100 + (k : Nat))) := by
  obtain ⟨g, c, e, _, _, hc⟩ := OwnL.cell h.own (by rw [h.len]; omega)
  refine ⟨g, c, by rw [e, h.len], fun k hk => ⟨(hs.getD k (0, 0)).1, (hs.getD k (0, 0)).2, hc k (by rw [h.len]; exact hk), h.cell k hk⟩⟩

end Go.Proofs.YtbkageelholpeaaDoor
