/- Layer 9's scripts: what a law's loop over the book's ropes keeps. · RopePieces: marks of loops over iterators; pieces, plainly; a loop over an iterator whose variable is no box. · RopeStops: rows of strings that a loop over an iterator grows; plain facts. · RopeStops' walk. · RopeStops: for every input the law returns true and every argument reads afterwards as it read before; conditions: the table of classes holds at the call what the program's text lays (the card ties it to that text). -/
import Derived.Test.YtpfjfgggacpdfaaDoorRpD
import Derived.Test.YtpfjfgggacpdfaaDoorLayL
import Derived.Below
import Derived.ChangeOld
import Derived.ShutString

section
namespace Go.Proofs.YtpfjfgggacpdfaaDoor
open Go.ChangeShapes Go.WideShapes Go.ChangeAt Go.RowKit
attribute [local go_sem] Oper.semAt_some

theorem Bk.low {X : World} {B gB : Nat} {gs : List Nat} {os : List (Option Nd)} (h : Bk X B gB gs os) : Bk X 0 gB gs os := by
  obtain ⟨vr, vt, h1, h2, h3⟩ := h.c
  refine ⟨⟨vr, vt, h1, ⟨h2.1, ?_⟩, ⟨h3.1, ?_⟩⟩, h.n, h.r⟩
  · rcases h2.2 with h | ⟨g, cap, cur, e, _, h4⟩
    · exact Or.inl h
    · exact Or.inr ⟨g, cap, cur, e, Nat.zero_le _, h4⟩
  · rcases h3.2 with h | ⟨g, cap, cur, e, _, h4⟩
    · exact Or.inl h
    · exact Or.inr ⟨g, cap, cur, e, Nat.zero_le _, h4⟩
/-- what the law's loop keeps -/
structure SaI (w : World) (gT : Nat) (gs : List Nat) (os : List (Option Nd)) (X : World) : Prop where
  k : Bk X 0 gT gs os
  s : ∀ i, i < gs.length → (txtO (os.getD i none)).length ≤ 268435456
  b : Below w.heap.size w X

end Go.Proofs.YtpfjfgggacpdfaaDoor
end

section
namespace Go.Proofs.YtpfjfgggacpdfaaDoor
open Go.ChangeShapes Go.WideShapes Go.ChangeAt Go.RowKit
attribute [local go_sem] Oper.semAt_some

/-- marks of loops over iterators that are over -/
def marks (ds : List Nat) : List Deferred := ds.map fun D => { target := .collected D, args := #[] }
def Coll (W : World) (B : Nat) (ds : List Nat) : Prop := ds.Nodup ∧ ∀ D ∈ ds, B ≤ D ∧ W.heap[D]? = some (.deferred (some []))
theorem heap_ltC {W : World} {k : Nat} {o : Obj} (h : W.heap[k]? = some o) : k < W.heap.size := (Array.getElem?_eq_some_iff.1 h).1
theorem Coll.on {W W' : World} {B : Nat} {ds : List Nat} (h : Coll W B ds) (hb : Below W.heap.size W W') : Coll W' B ds :=
  ⟨h.1, fun D hD => ⟨(h.2 D hD).1, (hb.block D (heap_ltC (h.2 D hD).2)).trans (h.2 D hD).2⟩⟩
theorem Coll.more {W : World} {B : Nat} {ds : List Nat} (h : Coll W B ds) {D : Nat} (hn : D ∉ ds) (hB : B ≤ D) (hD : W.heap[D]? = some (.deferred (some []))) : Coll W B (D :: ds) :=
  ⟨List.nodup_cons.2 ⟨hn, h.1⟩, fun E hE => by
    rcases List.mem_cons.1 hE with rfl | hE
    · exact ⟨hB, hD⟩
    · exact h.2 E hE⟩
theorem Coll.low {W : World} {B : Nat} {ds : List Nat} (h : Coll W B ds) : ∀ D ∈ ds, D < W.heap.size := fun D hD => heap_ltC (h.2 D hD).2
theorem leaves_coll {F : Fence} {n : Nat} {P : Program} {fn : Func} {tmps : Array Value} {R : Ending → World → Prop} {B : Nat} : ∀ (ds : List Nat) (W : World), Coll W B ds → (∀ W', Below B W W' → LeavesInM F n P fn tmps R [] .returning W') → LeavesInM F n P fn tmps R (marks ds) .returning W
  | [], W, _, h => h W (Below.refl _ _)
  | D :: ds, W, hc, h => by
    have hD := hc.2 D (by simp)
    refine ⟨by simp, .inl ⟨D, _, rfl, run_takeDeferred hD.2, leaves_coll (B := B) ds _ ?_ (fun W' hb => h W' ?_)⟩⟩
    · refine ⟨(List.nodup_cons.1 hc.1).2, fun E hE => ⟨(hc.2 E (by simp [hE])).1, ?_⟩⟩
      have hne : E ≠ D := fun e => (List.nodup_cons.1 hc.1).1 (by rw [← e]; exact hE)
      rw [World.putObj_heap_other hne]
      exact (hc.2 E (by simp [hE])).2
    · exact (below_putP W D _ hD.1).trans hb

/-- only the plain way out -/
def onlyN (Q : Exit → Act → World → Prop) : Exit → Act → World → Prop
  | .normal, a, w => Q .normal a w
  | _, _, _ => False
theorem wp_onlyN {P : Program} {c : Code} {Q : Exit → Act → World → Prop} {a : Act} {w : World} (h : c.wp P (onlyN Q) a w) : c.wp P Q a w :=
  wp_mono h (fun e a w h => by cases e <;> first | exact h | exact h.elim)
theorem fwdP_pos : ∀ (t : Nd) (f : Nat), ∀ x ∈ fwdP t f, 0 < x.length
  | .tip l, f, x, hx => by
    have hx : x ∈ (if f < l.length then [l.drop f] else []) := hx
    split at hx
    · simp only [List.mem_singleton] at hx
      rw [hx, List.length_drop]
      omega
    · cases hx
  | .fork a b, f, x, hx => by
    have hx : x ∈ (if f < a.txt.length then fwdP a f else []) ++ fwdP b (f - a.txt.length) := hx
    rcases List.mem_append.1 hx with h | h
    · split at h
      · exact fwdP_pos a f x h
      · cases h
    · exact fwdP_pos b _ x h
theorem bwdP_pos {W : World} : ∀ {t : Nd} {v : Value}, IsNd W v t → ∀ (f : Nat), ∀ x ∈ bwdP t f, 0 < x.length
  | .tip l, _, ⟨_, _, _, h, _⟩, f, x, hx => by
    have hx : x ∈ (if 0 < f then [l.take f] else []) := hx
    split at hx
    · simp only [List.mem_singleton] at hx
      rw [hx, List.length_take]
      omega
    · cases hx
  | .fork a b, _, ⟨_, _, _, _, _, h1, h2⟩, f, x, hx => by
    have hx : x ∈ (if a.txt.length < f then bwdP b (f - a.txt.length) else []) ++ bwdP a (min f a.txt.length) := hx
    rcases List.mem_append.1 hx with h | h
    · split at h
      · exact bwdP_pos h2 _ x h
      · cases h
    · exact bwdP_pos h1 _ x h
theorem flat_revC (E : List (List Int)) : E.reverse.flatten.length = E.flatten.length := by
  induction E with
  | nil => rfl
  | cons a r ih => simp only [List.reverse_cons, List.flatten_append, List.flatten_cons, List.flatten_nil, List.append_nil, List.length_append, ih]; omega
/-- what the pieces are: none is empty, together they are the bytes on that side -/
theorem pcs_all {W : World} {v : Value} {o : Option Nd} (h : NdV W v o) (n : Int) (back : Bool) :
    (∀ x ∈ pcsE o n back, 0 < x.length) ∧ (pcsE o n back).flatten.length ≤ (txtO o).length ∧ ((n < 0 ∨ ((txtO o).length : Int) < n) → pcsE o n back = []) ∧
    (∀ m : Nat, n = (m : Int) → m ≤ (txtO o).length → (back = true → (pcsE o n back).reverse.flatten = (txtO o).take m) ∧ (back = false → (pcsE o n back).flatten = (txtO o).drop m)) := by
  by_cases c : n < 0 ∨ ((txtO o).length : Int) < n
  · have e : pcsE o n back = [] := by unfold pcsE; rw [if_pos c]
    rw [e]
    exact ⟨fun x hx => (List.not_mem_nil hx).elim, Nat.zero_le _, fun _ => rfl, fun m hm hl => absurd c (by omega)⟩
  · obtain ⟨m, rfl⟩ : ∃ m : Nat, n = (m : Int) := ⟨n.toNat, by omega⟩
    have hml : m ≤ (txtO o).length := by omega
    cases o with
    | none =>
      rw [pcsE_none]
      have h0 : m = 0 := by have : (txtO none).length = 0 := rfl; omega
      exact ⟨fun x hx => (List.not_mem_nil hx).elim, Nat.zero_le _, fun _ => rfl, fun m' hm' _ => ⟨fun _ => by simp [txtO], fun _ => by simp [txtO]⟩⟩
    | some t =>
      cases back with
      | true =>
        rw [pcsE_back hml]
        have hf := bwdP_flat t m
        refine ⟨bwdP_pos h m, ?_, fun h => absurd h c, fun m' hm' _ => ⟨fun _ => ?_, fun h => (nomatch h)⟩⟩
        · rw [← flat_revC, hf, List.length_take]; exact Nat.min_le_right _ _
        · obtain rfl : m = m' := by omega
          exact hf
      | false =>
        rw [pcsE_on hml]
        have hf := fwdP_flat t m
        refine ⟨fwdP_pos t m, ?_, fun h => absurd h c, fun m' hm' _ => ⟨fun h => (nomatch h), fun _ => ?_⟩⟩
        · rw [hf, List.length_drop]; exact Nat.sub_le _ _
        · obtain rfl : m = m' := by omega
          exact hf
theorem pre_flat {E pre : List (List Int)} (h : pre <+: E) : pre.flatten.length ≤ E.flatten.length := by
  obtain ⟨r, rfl⟩ := h
  rw [List.flatten_append, List.length_append]
  omega

/-- range_p where the loop's variable is a slot of the frame -/
theorem range_pa {P : Program} {n : Nat} {g : Operand} {p1 : Nat} (s1 : Nat) {assign body : Code} {Q : Exit → Act → World → Prop} {a : Act} {w : World}
    {gf : Nat} {lb : Array Value} (hg : a.eval g = .func (.func gf) #[] lb) (eg : ∀ args w, (callFunc gf args).run P w = .ok (.enter gf args) w)
    {N : Nat} {q : Nat → Prop} {E : List (List Int)} {w0 : World} (hseq : SeqP P gf lb N q E w0) (hb0 : Below w0.heap.size w0 w) (hN : N ≤ w.heap.size) (hq : ∀ k, q k → k < w.heap.size)
    (I : List (List Int) → World → Prop) (Ix : Code → List (List Int) → World → Prop) (hI : AbdL w.heap.size I) (hIx : ∀ c, AbdL w.heap.size (Ix c)) (h0 : I [] w) (hn : 1 ≤ n)
    (hassign : ∀ (l : Nat) (v : Value) (W : World) (K : Act → World → Prop), K { tmps := (a.tmps.setIfInBounds p1 v).setIfInBounds s1 v, defers := [] } W →
      assign.wpIn (Fence.wide.inRound l) (n - 1 - 1) P (Exit.then K (fun _ _ _ => False)) { tmps := a.tmps.setIfInBounds p1 v, defers := [] } W)
    (hbody : ∀ (l : Nat) (pre : List (List Int)) (x : List Int) (v : Value) (W : World), w.heap.size ≤ l → l < w.heap.size + 2 → (∃ r, W.heap[l]? = some (.loop r)) → pre ++ [x] <+: E → I pre W → Nw (w.heap.size + 2) v x W → w.heap.size + 2 ≤ W.heap.size → body.wpIn (Fence.wide.inRound l) (n - 1 - 1) P (postP N (ownP q w.heap.size) I Ix (pre ++ [x]) W) { tmps := (a.tmps.setIfInBounds p1 v).setIfInBounds s1 v, defers := [] } W)
    (hdone : ∀ (D : Nat) (W : World), w.heap.size ≤ D → I E W → W.heap[D]? = some (.deferred (some [])) → Q .normal { a with defers := { target := .collected D, args := #[] } :: a.defers } W)
    (hstop : ∀ (D : Nat) (c : Code) (pre : List (List Int)) (W : World), w.heap.size ≤ D → pre <+: E → Ix c pre W → W.heap[D]? = some (.deferred (some [])) → c.wpIn Fence.wide n P Q { a with defers := { target := .collected D, args := #[] } :: a.defers } W) :
    (Code.rangeFunc g #[p1] assign body).wpIn Fence.wide n P Q a w := by
  refine range_p hg eg hseq hb0 hN hq rfl I Ix hI hIx h0 hn (fun v a' _ => a' = { tmps := (a.tmps.setIfInBounds p1 v).setIfInBounds s1 v, defers := [] }) (fun v a' X k o o' _ h => h) ?_ ?_ hdone hstop
  · intro l pre x v W K _ _ _ _ hK
    have e : ((#[p1] : Array Nat).zip #[v]).foldl (fun t (p, v) => t.setIfInBounds p v) a.tmps = a.tmps.setIfInBounds p1 v := by simp
    rw [e]
    exact hassign l v W K (hK _ _ (Below.refl _ _) rfl)
  · intro l pre x v a' W h1 h2 h3 h4 h5 h6 h7 h8
    subst h7
    exact hbody l pre x v W h1 h2 h3 h4 h5 h6 h8

end Go.Proofs.YtpfjfgggacpdfaaDoor
end

section
namespace Go.Proofs.YtpfjfgggacpdfaaDoor
open Go.ChangeShapes Go.WideShapes Go.ChangeAt Go.RowKit
attribute [local go_sem] Oper.semAt_some

theorem size_strS (l : List Int) : (strOfNums l).size = l.length := by simp [strOfNums, ByteArray.size]
/-- the pieces as strings -/
def strs (E : List (List Int)) : List Value := E.map fun x => .string (strOfNums x)
theorem few_flat {E : List (List Int)} (h : ∀ x ∈ E, 0 < x.length) : E.length ≤ E.flatten.length := by
  induction E with
  | nil => exact Nat.le_refl _
  | cons a r ih =>
    have h1 := h a (by simp)
    have h2 := ih (fun x hx => h x (by simp [hx]))
    simp only [List.length_cons, List.flatten_cons, List.length_append]
    omega
theorem pre_all {E pre : List (List Int)} (h : pre <+: E) (hE : ∀ x ∈ E, 0 < x.length) : ∀ x ∈ pre, 0 < x.length := fun x hx => hE x (h.subset hx)
theorem pre_at {E pre : List (List Int)} {x : List Int} (h : pre ++ [x] <+: E) : pre.length < E.length ∧ E.getD pre.length [] = x := by
  obtain ⟨r, rfl⟩ := h
  refine ⟨by simp, ?_⟩
  simp [List.getD_eq_getElem?_getD]
theorem grown_lowS {A B : World} {g N : Nat} (h : A.grownBy B (some g)) (hN : N ≤ A.heap.size) (hg : N ≤ g) : Below N A B := (Below.refl N A).grown h hN (fun k e => by cases e; exact hg)
theorem Cb.grownS {A B : World} {g g' : Nat} {t : TypeId} {v : Value} (h : Cb A g' t v) (hg : A.grownBy B (some g)) (hne : g' ≠ g) : Cb B g' t v := h.same (hg.block g' h.lt (fun e => hne (Option.some.inj e)))
theorem KN.ofGrown {N g : Nat} {q : Nat → Prop} {A B : World} (h : A.grownBy B (some g)) (hN : N ≤ A.heap.size) (hg : N ≤ g) (hq : ¬ q g) : KN N q A B :=
  ⟨grown_lowS h hN hg, fun k hk hl => h.block k hl (fun e => hq (Option.some.inj e ▸ hk))⟩
/-- what the loop that collects the pieces keeps -/
def SlI (gL : Nat) (Ws : World) (pre : List (List Int)) (X : World) : Prop := Ws.grownBy X (some gL) ∧ ∃ v, Cb X gL 26 v ∧ X.ownsRow (Ws.heap.size + 2) 9 1 v pre.length (strs pre)
theorem SlI.abd {gL : Nat} {Ws : World} (h : gL < Ws.heap.size) : AbdL Ws.heap.size (SlI gL Ws) := fun _ _ _ hI hb => by
  obtain ⟨hg, v, hc, ho⟩ := hI
  refine ⟨⟨hb.1.os.trans hg.os, hb.1.tape.trans hg.tape, hb.1.output.trans hg.output, Nat.le_trans hg.size hb.1.size, fun k hk hne => (hb.1.block k hk).trans (hg.block k hk hne)⟩, v, hc.below hb.1 h, row_onB ho fun G hG => ?_⟩
  obtain ⟨h1, cur, h2⟩ := row_block ho hG
  exact hb.2 G h1 (heap_ltC h2)
/-- one piece more -/
theorem SlI.push {gL : Nat} {Ws X : World} {pre : List (List Int)} {x : List Int} (h : SlI gL Ws pre X) (hL : gL < Ws.heap.size) (hs : Ws.heap.size + 2 ≤ X.heap.size) (hn : pre.length ≤ 1099511627776) (q : Nat → Prop) (hq : ∀ k, q k → k < Ws.heap.size ∧ k ≠ gL) :
    ∃ va vn vc g c W', Cb X gL 26 (.slice va vn vc) ∧ vn = pre.length ∧ (Builtin.append_ #[26, 26] 26 #[.slice va vn vc, .slice (some ⟨X.heap.size, 0, none⟩) 1 1]).run Tryd.prog (X.alloc (.cells #[.string (strOfNums x)] 9)) = .ok (.slice (some ⟨g, 0, none⟩) (pre.length + 1) c) W' ∧
      Cb W' gL 26 (.slice va vn vc) ∧ SlI gL Ws (pre ++ [x]) (W'.setCell ⟨gL, 0, none⟩ (.slice (some ⟨g, 0, none⟩) (pre.length + 1) c)) ∧ KN gL (ownP q Ws.heap.size) X (W'.setCell ⟨gL, 0, none⟩ (.slice (some ⟨g, 0, none⟩) (pre.length + 1) c)) := by
  obtain ⟨hg, v, hc, ho⟩ := h
  obtain ⟨va, vc, rfl⟩ := row_len9 ho
  obtain ⟨g, c, W', hr, ho2, hg2, hb2⟩ := push_st X (Ws.heap.size + 2) pre.length _ (strs pre) (strOfNums x) 26 ho (by omega) hs
  have hne : ∀ k, k < Ws.heap.size + 2 → some k ≠ (Value.slice va pre.length vc).ownBlock := fun k hk e => by
    have := (row_block ho e.symm).1
    omega
  have hc2 : Cb W' gL 26 (.slice va pre.length vc) := hc.below hb2 (by omega)
  have hgg := (row_block ho2 (G := g) rfl).1
  refine ⟨va, pre.length, vc, g, c, W', hc, rfl, hr, hc2, ⟨?_, _, hc2.set _, ?_⟩, ?_, ?_⟩
  · have h1 : Ws.grownBy W' (some gL) := ⟨hg2.os.trans hg.os, hg2.tape.trans hg.tape, hg2.output.trans hg.output, Nat.le_trans hg.size hg2.size, fun k hk hn => (hg2.block k (Nat.lt_of_lt_of_le hk hg.size) (hne k (by omega))).trans (hg.block k hk hn)⟩
    exact grown_trans h1 (grown_set W' gL 0 _) (fun k e => by cases e; exact Or.inl rfl)
  · have e : (pre ++ [x]).length = pre.length + 1 := by simp
    have e2 : strs (pre ++ [x]) = strs pre ++ [.string (strOfNums x)] := by simp [strs]
    rw [e, e2]
    refine row_onB ho2 fun G hG => Below.heap_setCell W' ⟨gL, 0, none⟩ _ G ?_
    have := (row_block ho2 hG).1
    show G ≠ gL
    omega
  · exact (hb2.mono (show gL ≤ Ws.heap.size + 2 by omega)).setCell (p := ⟨gL, 0, none⟩) (Nat.le_refl gL) _
  · intro k hk hl
    rcases hk with hk | hk
    · obtain ⟨h1, h2⟩ := hq k hk
      exact (Below.heap_setCell W' ⟨gL, 0, none⟩ _ k h2).trans (hg2.block k hl (hne k (by omega)))
    · exact (Below.heap_setCell W' ⟨gL, 0, none⟩ _ k (by show k ≠ gL; omega)).trans (hg2.block k hl (hne k (by omega)))
/-- the collected pieces, read -/
theorem SlI.read {gL : Nat} {Ws X : World} {E : List (List Int)} (h : SlI gL Ws E X) : ∃ va vc, Cb X gL 26 (.slice va E.length vc) ∧ ∀ n, n < E.length → ∃ ga, va = some ⟨ga, 0, none⟩ ∧ X.cell? ⟨ga, n, none⟩ = some (.string (strOfNums (E.getD n []))) := by
  obtain ⟨_, v, hc, ho⟩ := h
  obtain ⟨va, vc, rfl⟩ := row_len9 ho
  refine ⟨va, vc, hc, fun n hn => ?_⟩
  rcases ho.2 with ⟨_, h0⟩ | ⟨ga, cap, cur, e, _⟩
  · omega
  · cases e
    have := World.ownsRow.cells ho rfl n (.string (strOfNums (E.getD n []))) (by simp [strs, List.getD_eq_getElem?_getD, List.getElem?_eq_getElem hn])
    rw [Addr.add_lit, Nat.zero_add] at this
    exact ⟨ga, rfl, this⟩

end Go.Proofs.YtpfjfgggacpdfaaDoor
end

section
namespace Go.Proofs.YtpfjfgggacpdfaaDoor
open Go.ChangeShapes Go.WideShapes Go.ChangeAt Go.RowKit
attribute [local go_sem] Oper.semAt_some

/-- the frames at the law's loops -/
def FrS (f : Int) (bk : Bool) (gR gT n : Nat) (a : Act) (u : Nat → Value) (k : Nat) (ds : List Nat) : Prop := a = { tmps := #[u 0, .int .i64 f, .bool bk, u 3, u 4, u 5, .pointer (some ⟨gR, 0, none⟩), .pointer (some ⟨gT, 0, none⟩), u 8, u 9, u 10, u 11, u 12, u 13, u 14, u 15, u 16, u 17, u 18, u 19, u 20, u 21, u 22, u 23, u 24, u 25, u 26, u 27, .int .i64 (n : Int), .int .i64 (k : Int), u 30, u 31, u 32, u 33, u 34, u 35, u 36, u 37, u 38, u 39, u 40, u 41, u 42, u 43, u 44, u 45, u 46, u 47, u 48, u 49, u 50, u 51, u 52, u 53, u 54, u 55, u 56, u 57, u 58, u 59, u 60, u 61, u 62, u 63, u 64, u 65, u 66, u 67, u 68, u 69, u 70, u 71, u 72, u 73, u 74, u 75, u 76, u 77, u 78, u 79, u 80, u 81, u 82, u 83, u 84, u 85, u 86, u 87, u 88, u 89, u 90, u 91, u 92, u 93, u 94, u 95, u 96, u 97, u 98, u 99, u 100, u 101, u 102, u 103, u 104, u 105, u 106, u 107, u 108, u 109, u 110, u 111, u 112], defers := marks ds }
theorem FrS.mk {f : Int} {bk : Bool} {gR gT n : Nat} {a : Act} {k : Nat} {ds : List Nat} (h : a = { tmps := #[a.tmps.getD 0 undef, .int .i64 f, .bool bk, a.tmps.getD 3 undef, a.tmps.getD 4 undef, a.tmps.getD 5 undef, .pointer (some ⟨gR, 0, none⟩), .pointer (some ⟨gT, 0, none⟩), a.tmps.getD 8 undef, a.tmps.getD 9 undef, a.tmps.getD 10 undef, a.tmps.getD 11 undef, a.tmps.getD 12 undef, a.tmps.getD 13 undef, a.tmps.getD 14 undef, a.tmps.getD 15 undef, a.tmps.getD 16 undef, a.tmps.getD 17 undef, a.tmps.getD 18 undef, a.tmps.getD 19 undef, a.tmps.getD 20 undef, a.tmps.getD 21 undef, a.tmps.getD 22 undef, a.tmps.getD 23 undef, a.tmps.getD 24 undef, a.tmps.getD 25 undef, a.tmps.getD 26 undef, a.tmps.getD 27 undef, .int .i64 (n : Int), .int .i64 (k : Int), a.tmps.getD 30 undef, a.tmps.getD 31 undef, a.tmps.getD 32 undef, a.tmps.getD 33 undef, a.tmps.getD 34 undef, a.tmps.getD 35 undef, a.tmps.getD 36 undef, a.tmps.getD 37 undef, a.tmps.getD 38 undef, a.tmps.getD 39 undef, a.tmps.getD 40 undef, a.tmps.getD 41 undef, a.tmps.getD 42 undef, a.tmps.getD 43 undef, a.tmps.getD 44 undef, a.tmps.getD 45 undef, a.tmps.getD 46 undef, a.tmps.getD 47 undef, a.tmps.getD 48 undef, a.tmps.getD 49 undef, a.tmps.getD 50 undef, a.tmps.getD 51 undef, a.tmps.getD 52 undef, a.tmps.getD 53 undef, a.tmps.getD 54 undef, a.tmps.getD 55 undef, a.tmps.getD 56 undef, a.tmps.getD 57 undef, a.tmps.getD 58 undef, a.tmps.getD 59 undef, a.tmps.getD 60 undef, a.tmps.getD 61 undef, a.tmps.getD 62 undef, a.tmps.getD 63 undef, a.tmps.getD 64 undef, a.tmps.getD 65 undef, a.tmps.getD 66 undef, a.tmps.getD 67 undef, a.tmps.getD 68 undef, a.tmps.getD 69 undef, a.tmps.getD 70 undef, a.tmps.getD 71 undef, a.tmps.getD 72 undef, a.tmps.getD 73 undef, a.tmps.getD 74 undef, a.tmps.getD 75 undef, a.tmps.getD 76 undef, a.tmps.getD 77 undef, a.tmps.getD 78 undef, a.tmps.getD 79 undef, a.tmps.getD 80 undef, a.tmps.getD 81 undef, a.tmps.getD 82 undef, a.tmps.getD 83 undef, a.tmps.getD 84 undef, a.tmps.getD 85 undef, a.tmps.getD 86 undef, a.tmps.getD 87 undef, a.tmps.getD 88 undef, a.tmps.getD 89 undef, a.tmps.getD 90 undef, a.tmps.getD 91 undef, a.tmps.getD 92 undef, a.tmps.getD 93 undef, a.tmps.getD 94 undef, a.tmps.getD 95 undef, a.tmps.getD 96 undef, a.tmps.getD 97 undef, a.tmps.getD 98 undef, a.tmps.getD 99 undef, a.tmps.getD 100 undef, a.tmps.getD 101 undef, a.tmps.getD 102 undef, a.tmps.getD 103 undef, a.tmps.getD 104 undef, a.tmps.getD 105 undef, a.tmps.getD 106 undef, a.tmps.getD 107 undef, a.tmps.getD 108 undef, a.tmps.getD 109 undef, a.tmps.getD 110 undef, a.tmps.getD 111 undef, a.tmps.getD 112 undef], defers := marks ds }) : FrS f bk gR gT n a (fun i => a.tmps.getD i undef) k ds := h
def FrT (f : Int) (bk : Bool) (gR gT n k gS : Nat) (a : Act) (u : Nat → Value) (gP : Nat) (ds : List Nat) : Prop := a = { tmps := #[u 0, .int .i64 f, .bool bk, u 3, u 4, u 5, .pointer (some ⟨gR, 0, none⟩), .pointer (some ⟨gT, 0, none⟩), u 8, .pointer (some ⟨gS, 0, none⟩), .func (.func 28) #[] #[.pointer (some ⟨gS + 1, 0, none⟩), .pointer (some ⟨gS + 1 + 2, 0, none⟩), .pointer (some ⟨gS + 1 + 1, 0, none⟩)], .pointer (some ⟨gS + 1 + 3, 0, none⟩), u 12, .pointer (some ⟨gP, 0, none⟩), u 14, u 15, u 16, u 17, u 18, u 19, u 20, u 21, u 22, u 23, u 24, u 25, u 26, u 27, .int .i64 (n : Int), .int .i64 (k : Int), u 30, u 31, u 32, u 33, u 34, u 35, u 36, u 37, u 38, u 39, u 40, u 41, u 42, u 43, u 44, u 45, u 46, u 47, u 48, u 49, u 50, u 51, u 52, u 53, u 54, u 55, u 56, u 57, u 58, u 59, u 60, u 61, u 62, u 63, u 64, u 65, u 66, u 67, u 68, u 69, u 70, u 71, u 72, u 73, u 74, u 75, u 76, u 77, u 78, u 79, u 80, u 81, u 82, u 83, u 84, u 85, u 86, u 87, u 88, u 89, u 90, u 91, u 92, u 93, u 94, u 95, u 96, u 97, u 98, u 99, u 100, u 101, u 102, u 103, u 104, u 105, u 106, u 107, u 108, u 109, u 110, u 111, u 112], defers := marks ds }
theorem FrT.mk {f : Int} {bk : Bool} {gR gT n k gS : Nat} {a : Act} {gP : Nat} {ds : List Nat} (h : a = { tmps := #[a.tmps.getD 0 undef, .int .i64 f, .bool bk, a.tmps.getD 3 undef, a.tmps.getD 4 undef, a.tmps.getD 5 undef, .pointer (some ⟨gR, 0, none⟩), .pointer (some ⟨gT, 0, none⟩), a.tmps.getD 8 undef, .pointer (some ⟨gS, 0, none⟩), .func (.func 28) #[] #[.pointer (some ⟨gS + 1, 0, none⟩), .pointer (some ⟨gS + 1 + 2, 0, none⟩), .pointer (some ⟨gS + 1 + 1, 0, none⟩)], .pointer (some ⟨gS + 1 + 3, 0, none⟩), a.tmps.getD 12 undef, .pointer (some ⟨gP, 0, none⟩), a.tmps.getD 14 undef, a.tmps.getD 15 undef, a.tmps.getD 16 undef, a.tmps.getD 17 undef, a.tmps.getD 18 undef, a.tmps.getD 19 undef, a.tmps.getD 20 undef, a.tmps.getD 21 undef, a.tmps.getD 22 undef, a.tmps.getD 23 undef, a.tmps.getD 24 undef, a.tmps.getD 25 undef, a.tmps.getD 26 undef, a.tmps.getD 27 undef, .int .i64 (n : Int), .int .i64 (k : Int), a.tmps.getD 30 undef, a.tmps.getD 31 undef, a.tmps.getD 32 undef, a.tmps.getD 33 undef, a.tmps.getD 34 undef, a.tmps.getD 35 undef, a.tmps.getD 36 undef, a.tmps.getD 37 undef, a.tmps.getD 38 undef, a.tmps.getD 39 undef, a.tmps.getD 40 undef, a.tmps.getD 41 undef, a.tmps.getD 42 undef, a.tmps.getD 43 undef, a.tmps.getD 44 undef, a.tmps.getD 45 undef, a.tmps.getD 46 undef, a.tmps.getD 47 undef, a.tmps.getD 48 undef, a.tmps.getD 49 undef, a.tmps.getD 50 undef, a.tmps.getD 51 undef, a.tmps.getD 52 undef, a.tmps.getD 53 undef, a.tmps.getD 54 undef, a.tmps.getD 55 undef, a.tmps.getD 56 undef, a.tmps.getD 57 undef, a.tmps.getD 58 undef, a.tmps.getD 59 undef, a.tmps.getD 60 undef, a.tmps.getD 61 undef, a.tmps.getD 62 undef, a.tmps.getD 63 undef, a.tmps.getD 64 undef, a.tmps.getD 65 undef, a.tmps.getD 66 undef, a.tmps.getD 67 undef, a.tmps.getD 68 undef, a.tmps.getD 69 undef, a.tmps.getD 70 undef, a.tmps.getD 71 undef, a.tmps.getD 72 undef, a.tmps.getD 73 undef, a.tmps.getD 74 undef, a.tmps.getD 75 undef, a.tmps.getD 76 undef, a.tmps.getD 77 undef, a.tmps.getD 78 undef, a.tmps.getD 79 undef, a.tmps.getD 80 undef, a.tmps.getD 81 undef, a.tmps.getD 82 undef, a.tmps.getD 83 undef, a.tmps.getD 84 undef, a.tmps.getD 85 undef, a.tmps.getD 86 undef, a.tmps.getD 87 undef, a.tmps.getD 88 undef, a.tmps.getD 89 undef, a.tmps.getD 90 undef, a.tmps.getD 91 undef, a.tmps.getD 92 undef, a.tmps.getD 93 undef, a.tmps.getD 94 undef, a.tmps.getD 95 undef, a.tmps.getD 96 undef, a.tmps.getD 97 undef, a.tmps.getD 98 undef, a.tmps.getD 99 undef, a.tmps.getD 100 undef, a.tmps.getD 101 undef, a.tmps.getD 102 undef, a.tmps.getD 103 undef, a.tmps.getD 104 undef, a.tmps.getD 105 undef, a.tmps.getD 106 undef, a.tmps.getD 107 undef, a.tmps.getD 108 undef, a.tmps.getD 109 undef, a.tmps.getD 110 undef, a.tmps.getD 111 undef, a.tmps.getD 112 undef], defers := marks ds }) : FrT f bk gR gT n k gS a (fun i => a.tmps.getD i undef) gP ds := h

/-- how far the law's inner loop is from its end: its variable lies in memory -/
def stopMu (a : Act) (Z : World) : Nat := match a.tmps.getD 13 undef with
  | .pointer (some p) => 5 - (intOf ((Z.cell? p).getD undef)).toNat
  | _ => 0
/-- a piece is written over -/
def PwI (gp o n : Nat) (Y X : World) : Prop := Y.grownBy X (some gp) ∧ ∀ i, i < n → (X.cell? ⟨gp, o + i, none⟩).isSome = true ∧ X.frozen? ⟨gp, o + i, none⟩ = false
theorem PwI.put {gp o n : Nat} {Y X : World} (h : PwI gp o n Y X) (j : Nat) (hj : j < n) (v : Value) : PwI gp o n Y (X.setCell ⟨gp, o + j, none⟩ v) := by
  refine ⟨grown_trans h.1 (grown_set X gp (o + j) v) (fun k e => by cases e; exact Or.inl rfl), fun i hi => ⟨?_, ?_⟩⟩
  · rw [cell_set (h.2 j hj).1]
    split
    · rfl
    · exact (h.2 i hi).1
  · rw [frozen_set]
    exact (h.2 i hi).2
/-- what the loop that stops early keeps -/
def StI (gN sp : Nat) (Ws : World) (pre : List (List Int)) (X : World) : Prop := Ws.grownBy X (some gN) ∧ Cb X gN 3 (.int .i64 (pre.length : Int)) ∧ pre.length < sp
def StX (gN sp : Nat) (Ws : World) (c : Code) (_pre : List (List Int)) (X : World) : Prop := c = .exit 6 ∧ Ws.grownBy X (some gN) ∧ Cb X gN 3 (.int .i64 (sp : Int))
theorem grown_chp {gN : Nat} {Ws X Y : World} (hg : Ws.grownBy X (some gN)) (hb : ChP Ws.heap.size X Y) : Ws.grownBy Y (some gN) :=
  ⟨hb.1.os.trans hg.os, hb.1.tape.trans hg.tape, hb.1.output.trans hg.output, Nat.le_trans hg.size hb.1.size, fun k hk hne => (hb.1.block k hk).trans (hg.block k hk hne)⟩
theorem StI.abd {gN sp : Nat} {Ws : World} (h : gN < Ws.heap.size) : AbdL Ws.heap.size (StI gN sp Ws) := fun _ _ _ hI hb => ⟨grown_chp hI.1 hb, hI.2.1.below hb.1 h, hI.2.2⟩
theorem StX.abd {gN sp : Nat} {Ws : World} (h : gN < Ws.heap.size) (c : Code) : AbdL Ws.heap.size (StX gN sp Ws c) := fun _ _ _ hI hb => ⟨hI.1, grown_chp hI.2.1 hb, hI.2.2.below hb.1 h⟩

set_option maxRecDepth 100000 in
set_option maxHeartbeats 8000000 in
theorem RopeStops_any (a0 : Option Addr) (cap : Nat) (cs : List Ac) (f : Int) (bk : Bool) (w : World) (hA : IsAc w a0 cs) (hn : cs.length ≤ 2199023255488) (_hk : (Lit.int .i64 f).wf = true) (hW : Wt w) :
    Calls Tryd.prog 4 #[.slice a0 cs.length cap, .int .i64 f, .bool bk] w fun e w' => e = .returned (.bool true) ∧ Below w.heap.size w w' := by
  clear _hk
  refine (callsIn_wide (n := 4)).1 ?_
  refine callsIn_of_wp_marks Tryd.func4 rfl trivial ?_ rfl
  simp only [Tryd.ntmps4, List.size_toArray, List.length_cons, List.length_nil, Nat.reduceAdd, Nat.reduceSub, Array.replicate_succ, Array.replicate_zero, List.push_toArray, List.append_toArray, List.nil_append, List.cons_append]
  refine wpIn_wide.2 ?_
  have b1 := (Below.refl w.heap.size w).alloc (Nat.le_refl _) (.cells #[.bool false] 4)
  have cR := Cb.new w 4 (.bool false)
  have hA := hA.on b1
  have hW := hW.below b1
  have HB0 := hide b1
  clear b1
  go_upto_region 1 with fail
  generalize w.alloc (.cells #[.bool false] 4) = w0 at *
  have HW := hide fun (X : World) (hx : Below w0.heap.size w0 X) => hW.below hx
  have HA := hide fun (X : World) (hx : Below w0.heap.size w0 X) => hA.on hx
  have HWk := hide (wakes9_at w0 hW)
  have HK := hide fun (X : World) (hx : Below w0.heap.size w0 X) => cR.on hx
  have hzR : w.heap.size < w0.heap.size := cR.lt
  clear hW hA cR
  generalize hgR : w.heap.size = gR at *
  have HGR := hide hgR
  clear hgR
  go_wp2_with fail
  refine (unhide HWk).mono ?_
  rintro y w1 ⟨rfl, x1⟩
  dsimp only
  have HPl := hide (play9_at a0 cap cs w1 (unhide HA w1 x1) (by omega) (unhide HW w1 x1))
  clear HWk
  go_wp2_with fail
  refine (unhide HPl).mono ?_
  rintro y w2 ⟨gB, gs, os, vr, vt, rfl, h2, c2, hs2, hgl, _, x2⟩
  dsimp only
  have h3 := h2.copy c2
  have hrf : (∃ a k c, vr = .slice a k c) ∧ ∃ a k c, vt = .slice a k c := by
    obtain ⟨vr', vt', d1, d2, d3⟩ := h2.c
    have e := c2.symm.trans d1
    cases e
    obtain ⟨a1, c1, e1⟩ := row_len9 d2
    obtain ⟨a3, c3, e3⟩ := row_len9 d3
    exact ⟨⟨a1, _, c1, e1⟩, ⟨a3, _, c3, e3⟩⟩
  obtain ⟨⟨ra, rl, rc, rfl⟩, ta, tl, tc, rfl⟩ := hrf
  have x3 := (Below.refl w2.heap.size w2).alloc (Nat.le_refl _) (.cells #[.slice ra rl rc, .slice ta tl tc] 28)
  have D2 := x1.trans (x2.mono x1.size)
  have D3 := D2.trans (x3.mono D2.size)
  clear HPl h2 c2 x1 x2 x3 D2
  go_upto_region 6 with fail
  generalize hw3 : w2.alloc (.cells #[.slice ra rl rc, .slice ta tl tc] 28) = w3 at *
  generalize w2.heap.size = gT at *
  clear hw3
  have i0 : SaI w0 gT gs os w3 := ⟨h3.low, hs2, D3⟩
  obtain ⟨vr', vt', d1, d2, d3⟩ := h3.c
  obtain ⟨ra', rc', rfl⟩ := row_len9 d2
  obtain ⟨p0, _, _⟩ := cells2 d1
  clear d1 d2 d3 h3 D3
  go_wp2_with fail
  clear p0
  have hR0 := unhide HK w3 i0.b
  have HZR := hide hzR
  clear hzR HK
  generalize hgn : gs.length = gn at *
  have HGN := hide hgn
  clear hgn
  refine wp_loop (fun a W => ∃ (u : Nat → Value) (k : Nat) (ds : List Nat), FrS f bk gR gT gn a u k ds ∧ k ≤ gn ∧ SaI w0 gT gs os W ∧ Cb W gR 4 (.bool false) ∧ Coll W w0.heap.size ds) (fun a _ => gn - (intOf (a.tmps.getD 29 undef)).toNat) ?_ ?_
  · exact ⟨_, 0, [], FrS.mk rfl, Nat.zero_le _, i0, hR0, List.nodup_nil, fun D h => by cases h⟩
  · rintro a W ⟨u, k, ds, hfr, hk, hI, hR, hc⟩
    unfold FrS at hfr
    subst hfr
    clear i0 hR0
    by_cases c : k < gn
    · have t1 : (k : Int) < (gn : Int) := by omega
      obtain ⟨gr, rc, gt, tc, p0, p1, pc⟩ := hI.k.rows (by have := unhide HGN; omega)
      obtain ⟨ci, cti⟩ := pc k (by have := unhide HGN; omega)
      have hri := hI.k.r k (by have := unhide HGN; omega)
      have hsi := hI.s k (by have := unhide HGN; omega)
      rw [unhide HGN] at p0 p1
      generalize gs.getD k 0 = gi at *
      generalize os.getD k none = oi at *
      clear pc
      have HRO := hide hri.1
      obtain ⟨⟨rv, hr1, hr2⟩, _⟩ := hri
      have hA1 := pcs_all hr2 f bk
      have HTX := hide fun (Y : World) (hb : Below W.heap.size W Y) => text9_at gi oi Y ((unhide HRO).on hb) hsi
      have hsz := size_strS (txtO oi)
      generalize strOfNums (txtO oi) = Si at *
      have HSI := hide hsi
      have hE1 := hA1.1
      have hE2 := hA1.2.1
      have HE12 := hide (And.intro hE1 hE2)
      have x4 := (Below.refl W.heap.size W).alloc (Nat.le_refl _) (.cells #[.int .i64 (k : Int)] 3)
      have cI := Cb.new W 3 (.int .i64 (k : Int))
      have HI9 := hide fun (Y : World) (hb : Below W.heap.size W Y) => (show SaI w0 gT gs os Y from ⟨hI.k.on hb, hI.s, hI.b.trans (hb.mono hI.b.size)⟩)
      have HR9 := hide fun (Y : World) (hb : Below W.heap.size W Y) => hR.on hb
      have HC9 := hide fun (Y : World) (hb : Below W.heap.size W Y) => hc.on hb
      have HLO := hide hc.low
      have HWW := hide hI.b.size
      have HCell := hide fun (Y : World) (hb : Below W.heap.size W Y) => (show Y.cell? ⟨gT, 0, none⟩ = some (.slice (some ⟨gr, 0, none⟩) gn rc) ∧ Y.cell? ⟨gT, 1, none⟩ = some (.slice (some ⟨gt, 0, none⟩) gn tc) ∧ Y.cell? ⟨gr, k, none⟩ = some (.pointer (some ⟨gi, 0, none⟩)) ∧ Y.cell? ⟨gt, k, none⟩ = some (.string Si) from ⟨(hb.cell (p := ⟨gT, 0, none⟩) (lt_cell p0)).trans p0, (hb.cell (p := ⟨gT, 1, none⟩) (lt_cell p1)).trans p1, (hb.cell (p := ⟨gr, k, none⟩) (lt_cell ci)).trans ci, (hb.cell (p := ⟨gt, k, none⟩) (lt_cell cti)).trans cti⟩)
      have hP := Pieces9_at (.pointer (some ⟨gi, 0, none⟩)) rv oi f bk (W.alloc (.cells #[.int .i64 (k : Int)] 3)) (Or.inr ⟨gi, rfl, bk9_on hr1 x4⟩) (NdV.on x4 hr2)
      have z4 : (W.alloc (.cells #[.int .i64 (k : Int)] 3)).heap.size = W.heap.size + 1 := World.size_alloc ..
      have HNV := hide hr2
      clear hI hR hc hA1 hE1 hE2 hr1 hr2 hsi p0 p1 ci cti
      obtain ⟨p0, p1, ci, cti⟩ := unhide HCell _ x4
      go_upto_region 9 with fail
      generalize W.alloc (.cells #[.int .i64 (k : Int)] 3) = w4 at *
      have HP := hide hP
      have ciI := cI.cell
      clear hP
      go_wp2_with fail
      refine (unhide HP).mono ?_
      rintro y w5 ⟨rfl, pb, z5, x5⟩
      dsimp only
      rw [z4] at z5 pb ⊢
      have hfn := fnn9s
      unfold pcsV
      clear HP p0 p1 ci cti ciI
      have X5 := x4.trans (x5.mono x4.size)
      have cI := cI.on x5
      have x6 := (Below.refl w5.heap.size w5).alloc (Nat.le_refl _) (.cells #[.slice none 0 0] 26)
      have cL := Cb.new w5 26 (.slice none 0 0)
      have z6 : (w5.alloc (.cells #[.slice none 0 0] 26)).heap.size = W.heap.size + 1 + 3 + 1 := by rw [World.size_alloc, z5]
      rw [z5] at cL
      have pb := pb.on x6
      have cI := cI.on x6
      have X6 := X5.trans (x6.mono X5.size)
      go_upto_region 13 with fail
      generalize w5.alloc (.cells #[.slice none 0 0] 26) = w6 at *
      generalize hgS : W.heap.size = gS at *
      have HGS := hide hgS
      have hseq1 := pieces1_P W (gS + 1) rv oi f bk (gS + 1 + 3) (fun k => k < w6.heap.size ∧ k ≠ gS + 1 + 3) w6 pb (unhide HNV) (unhide HSI) (hgS ▸ X6) (by omega) (by omega)
      have hlt6 : gS + 1 + 3 < w6.heap.size := by omega
      clear hgS x4 x5 x6 X5
      have i1 : SlI (gS + 1 + 3) w6 [] w6 := ⟨grown_refl _ _, _, cL, ⟨rfl, Or.inl ⟨rfl, rfl⟩⟩⟩
      have hiw : IntKind.i64.wrap ((k : Int) + 1) = (k : Int) + 1 := by rw [IntKind.wrap_i64]; omega
      have hgn9 : gn ≤ 9000000000000000000 := by have := unhide HGN; omega
      clear z4 z5
      go_wp2_with fail
      refine (wpIn_wide (n := 4)).1 ?_
      refine range_pa (p1 := 43) 12 (gf := 28) (lb := #[.pointer (some ⟨gS + 1, 0, none⟩), .pointer (some ⟨gS + 1 + 2, 0, none⟩), .pointer (some ⟨gS + 1 + 1, 0, none⟩)]) rfl (enters_of Tryd.func28 (by kernel_rfl) rfl) hseq1 (Below.refl _ _) (by omega) (fun k h => h.1)
        (SlI (gS + 1 + 3) w6) (fun _ _ _ => False) (SlI.abd hlt6) (fun _ _ _ _ h _ => h) i1 (by decide) ?assign1 ?body1 ?done1 ?stop1
      case assign1 =>
        rintro k' v X K hK
        simp only [List.setIfInBounds_toArray, List.set_cons_zero, List.set_cons_succ] at hK ⊢
        gi_wp2
        exact hK
      case stop1 =>
        rintro D c' pre X _ _ h _
        exact h.elim
      case body1 =>
        rintro k' pre x v X hk1 hk2 ⟨rec, hrec⟩ hpre hSl ⟨gp, op', cp, rfl, hN, hg1, hg2⟩ hsz9
        have hE := unhide HE12
        have hp1 := few_flat (pre_all (List.IsPrefix.trans (List.prefix_append pre [x]) hpre) hE.1)
        have hp2 := pre_flat (List.IsPrefix.trans (List.prefix_append pre [x]) hpre)
        have hp3 := unhide HSI
        have LX : Below gS W X := X6.trans (grown_lowS hSl.1 (by omega) (by omega))
        have hcc := unhide HCell X LX
        have hci := (cI.grownS hSl.1 (by omega)).cell
        have F0 : Below X.heap.size X X.drew := (Below.refl _ X).drew
        have kx := str_bs X.drew (some ⟨gp, op', none⟩) cp x (hN.1.below F0 (Nat.le_refl _)).2.2.1
        have hpn : pre.length ≤ (txtO oi).length := by omega
        have hSl2 : SlI (gS + 1 + 3) w6 pre X.drew := ⟨grown_drew hSl.1, hSl.2⟩
        obtain ⟨va, vn, vc, g9, c9, W9, q1, q2, q3, q4, q5, q6⟩ := hSl2.push (x := x) hlt6 hsz9 (by omega) (fun k => k < w6.heap.size ∧ k ≠ gS + 1 + 3) (fun k h => h)
        have e1 := q1.cell
        have e4 := q4.cell
        have f4 := q4.frozen
        have n3 : ¬ ((txtO oi).length : Int) < (vn : Int) := by omega
        have n4 : ¬ (txtO oi).length < vn := by omega
        have R3 := hide q3
        have HPP := hide (And.intro ((KN.all F0 (by omega)).trans q6) q5)
        have HSS := hide (show (fun w' : World => w'.cell? ⟨gS + 1 + 3, 0, none⟩ = some (.slice va vn vc) ∧ w'.cell? ⟨gT, 1, none⟩ = some (.slice (some ⟨gt, 0, none⟩) gn tc) ∧ w'.cell? ⟨gS, 0, none⟩ = some (.int .i64 (k : Int)) ∧ w'.cell? ⟨gt, k, none⟩ = some (.string Si)) X.drew from ⟨e1, (F0.cell (p := ⟨gT, 1, none⟩) (lt_cell hcc.2.1)).trans hcc.2.1, (F0.cell (p := ⟨gS, 0, none⟩) (lt_cell hci)).trans hci, (F0.cell (p := ⟨gt, k, none⟩) (lt_cell hcc.2.2.2)).trans hcc.2.2.2⟩)
        clear q1 q3 q4 q5 q6 hSl hSl2 hN hpre hrec hE hp1 hp2 hp3 hcc hci hpn q2 F0 LX
        simp only [List.setIfInBounds_toArray, List.set_cons_zero, List.set_cons_succ]
        gi_wp2_with fail
        refine regionL_in (S := fun w' => w'.cell? ⟨gS + 1 + 3, 0, none⟩ = some (.slice va vn vc) ∧ w'.cell? ⟨gT, 1, none⟩ = some (.slice (some ⟨gt, 0, none⟩) gn tc) ∧ w'.cell? ⟨gS, 0, none⟩ = some (.int .i64 (k : Int)) ∧ w'.cell? ⟨gt, k, none⟩ = some (.string Si)) (fun _ => false) (by kernel_rfl) ?hd ?hq ?_
        case hd =>
          intro j o c h e
          have := Array.mem_of_getElem? h
          simp only [List.mem_toArray, List.mem_cons, List.not_mem_nil, or_false] at this
          rcases this with rfl | rfl | rfl | rfl | rfl | rfl | rfl | rfl | rfl <;> cases e
        case hq => rintro ⟨a, w, h⟩; exact h
        generalize X.drew = y0 at *
        refine anyL_take (i := 0) (v := ?vsx23) rfl (by kernel_rfl) (by kernel_rfl) (by kernel_rfl) (by kernel_rfl) (fun _ _ _ h => h) (Or.inl ⟨by rfl, ?hsx23⟩) (unhide HSS) ?_
        case hsx23 => (intro w hSw; (try dsimp only at hSw); go_simp) <;> with_reducible rfl
        simp only [Act.put, List.getElem_toArray, List.getElem_cons_zero, List.setIfInBounds_toArray, List.set_cons_zero, List.set_cons_succ]
        refine anyL_take (i := 1) (v := ?vsx24) rfl (by kernel_rfl) (by kernel_rfl) (by kernel_rfl) (by kernel_rfl) (fun _ _ _ h => h) (Or.inl ⟨by rfl, ?hsx24⟩) (unhide HSS) ?_
        case hsx24 => (intro w hSw; (try dsimp only at hSw); go_simp) <;> with_reducible rfl
        simp only [Act.put, List.getElem_toArray, List.getElem_cons_zero, List.getElem_cons_succ, List.setIfInBounds_toArray, List.set_cons_zero, List.set_cons_succ]
        refine anyL_take (i := 2) (v := ?vsx25) rfl (by kernel_rfl) (by kernel_rfl) (by kernel_rfl) (by kernel_rfl) (fun _ _ _ h => h) (Or.inl ⟨by rfl, ?hsx25⟩) (unhide HSS) ?_
        case hsx25 => (intro w hSw; (try dsimp only at hSw); go_simp) <;> with_reducible rfl
        simp only [Act.put, List.getElem_toArray, List.getElem_cons_zero, List.getElem_cons_succ, List.setIfInBounds_toArray, List.set_cons_zero, List.set_cons_succ]
        refine anyL_take (i := 3) (v := ?vsx26) rfl (by kernel_rfl) (by kernel_rfl) (by kernel_rfl) (by kernel_rfl) (fun _ _ _ h => h) (Or.inl ⟨by rfl, ?hsx26⟩) (unhide HSS) ?_
        case hsx26 => (intro w hSw; (try dsimp only at hSw); go_simp) <;> with_reducible rfl
        simp only [Act.put, List.getElem_toArray, List.getElem_cons_zero, List.getElem_cons_succ, List.setIfInBounds_toArray, List.set_cons_zero, List.set_cons_succ]
        refine anyL_take (i := 4) (v := ?vsx27) rfl (by kernel_rfl) (by kernel_rfl) (by kernel_rfl) (by kernel_rfl) (fun _ _ _ h => h) (Or.inl ⟨by rfl, ?hsx27⟩) (unhide HSS) ?_
        case hsx27 => (intro w hSw; (try dsimp only at hSw); go_simp) <;> with_reducible rfl
        simp only [Act.put, List.getElem_toArray, List.getElem_cons_zero, List.getElem_cons_succ, List.setIfInBounds_toArray, List.set_cons_zero, List.set_cons_succ]
        refine anyL_take (i := 5) (v := ?vsx28) rfl (by kernel_rfl) (by kernel_rfl) (by kernel_rfl) (by kernel_rfl) (fun _ _ _ h => h) (Or.inl ⟨by rfl, ?hsx28⟩) (unhide HSS) ?_
        case hsx28 => (intro w hSw; (try dsimp only at hSw); go_simp) <;> with_reducible rfl
        simp only [Act.put, List.getElem_toArray, List.getElem_cons_zero, List.getElem_cons_succ, List.setIfInBounds_toArray, List.set_cons_zero, List.set_cons_succ]
        refine anyL_take (i := 6) (v := ?vsx29) rfl (by kernel_rfl) (by kernel_rfl) (by kernel_rfl) (by kernel_rfl) (fun _ _ _ h => h) (Or.inl ⟨by rfl, ?hsx29⟩) (unhide HSS) ?_
        case hsx29 => (intro w hSw; (try dsimp only at hSw); go_simp) <;> with_reducible rfl
        simp only [Act.put, List.getElem_toArray, List.getElem_cons_zero, List.getElem_cons_succ, List.setIfInBounds_toArray, List.set_cons_zero, List.set_cons_succ]
        refine anyL_take (i := 7) (v := ?vsx30) rfl (by kernel_rfl) (by kernel_rfl) (by kernel_rfl) (by kernel_rfl) (fun _ _ _ h => h) (Or.inl ⟨by rfl, ?hsx30⟩) (unhide HSS) ?_
        case hsx30 => (intro w hSw; (try dsimp only at hSw); go_simp) <;> with_reducible rfl
        simp only [Act.put, List.getElem_toArray, List.getElem_cons_zero, List.getElem_cons_succ, List.setIfInBounds_toArray, List.set_cons_zero, List.set_cons_succ]
        refine anyL_take (i := 8) (v := ?vsx31) rfl (by kernel_rfl) (by kernel_rfl) (by kernel_rfl) (by kernel_rfl) (fun _ _ _ h => h) (Or.inl ⟨by rfl, ?hsx31⟩) (unhide HSS) ?_
        case hsx31 => (intro w hSw; (try dsimp only at hSw); go_simp) <;> with_reducible rfl
        simp only [Act.put, List.getElem_toArray, List.getElem_cons_zero, List.getElem_cons_succ, List.setIfInBounds_toArray, List.set_cons_zero, List.set_cons_succ]
        refine anyL_done (by kernel_rfl) ?_ _
        clear HSS
        generalize strOfNums x = SX at *
        gi_wp2_with (gi_at_builtin; refine wpListIn_append9 rfl _ _ 26 26 rfl _ _ rfl rfl _ _ (unhide R3) ?_)
        exact ⟨(unhide HPP).1, (unhide HPP).2⟩
      case done1 =>
        rintro D1 X1 hD1 hSl1 hK1
        obtain ⟨va, vc, cL1, hrd⟩ := hSl1.read
        have L1 : Below gS W X1 := X6.trans (grown_lowS hSl1.1 (by omega) (by omega))
        have cI1 := cI.grownS hSl1.1 (by omega)
        have pb1 : PcB X1 (gS + 1) rv f bk := ⟨(World.cell?_of_block (hSl1.1.block (gS + 1) (by omega) (fun e => by have := Option.some.inj e; omega))).trans pb.f, (World.cell?_of_block (hSl1.1.block (gS + 1 + 1) (by omega) (fun e => by have := Option.some.inj e; omega))).trans pb.k, (World.cell?_of_block (hSl1.1.block (gS + 1 + 2) (by omega) (fun e => by have := Option.some.inj e; omega))).trans pb.r⟩
        have hs1 : gS + 1 + 3 + 1 ≤ X1.heap.size := by have := hSl1.1.size; omega
        have hww := unhide HWW
        have HC1 : Hid (Coll X1 w0.heap.size (D1 :: ds)) := hide (by
          have lo := unhide HLO
          exact Coll.more (unhide HC9 X1 L1) (fun h => by have := lo D1 h; omega) (by omega) hK1)
        have x7 := (Below.refl X1.heap.size X1).alloc (Nat.le_refl _) (.cells #[.int .i64 1] 3)
        have cP0 := Cb.new X1 3 (.int .i64 1)
        have hd1 := hide (unhide HC1 |>.on x7)
        generalize hen : (pcsE oi f bk).length = en at *
        have HEN := hide hen
        clear hen
        clear hseq1 i1 hSl1 hK1 cL
        go_wp2_with fail
        generalize X1.alloc (.cells #[.int .i64 1] 3) = X2 at *
        have HS1 := hide hs1
        refine wp_loop (fun a Z => ∃ (u : Nat → Value) (sp : Nat) (gP : Nat) (ds2 : List Nat), FrT f bk gR gT gn k gS a u gP ds2 ∧ 1 ≤ sp ∧ sp ≤ 4 ∧ Below X1.heap.size X1 Z ∧ Cb Z gP 3 (.int .i64 (sp : Int)) ∧ X1.heap.size ≤ gP ∧ Coll Z w0.heap.size ds2) stopMu ?_ ?_
        · exact ⟨_, 1, _, _, FrT.mk rfl, Nat.le_refl _, by decide, x7, cP0, Nat.le_refl _, unhide hd1⟩
        · rintro a Z ⟨u2, sp, gP, ds2, hfr, hp1, hp4, LZ, cP, hgP, hc2⟩
          unfold FrT at hfr
          subst hfr
          clear x7 cP0 hd1
          have cLZ := cL1.on LZ
          have eP := cP.cell
          have eL := cLZ.cell
          have LWZ : Below gS W Z := L1.trans (LZ.mono (by omega))
          have hcc := unhide HCell Z LWZ
          have cIZ := cI1.on LZ
          have eI := cIZ.cell
          by_cases cs2 : sp ≤ en ∧ sp ≤ 3
          · have t2 : (sp : Int) ≤ (en : Int) := by omega
            have t3 : (sp : Int) ≤ 3 := by omega
            have t4 : sp ≤ en := cs2.1
            have x8 := (Below.refl Z.heap.size Z).alloc (Nat.le_refl _) (.cells #[.int .i64 0] 3)
            have cN := Cb.new Z 3 (.int .i64 0)
            have z8 : (Z.alloc (.cells #[.int .i64 0] 3)).heap.size = Z.heap.size + 1 := World.size_alloc ..
            have HPS := hide (pb1.on (LZ.trans (x8.mono LZ.size)))
            have hcZ := hc2.on x8
            go_upto_region 22 with fail
            generalize Z.alloc (.cells #[.int .i64 0] 3) = Z3 at *
            have hgP3 := cP.lt
            have cP3 := cP.on x8
            have cL3 := cLZ.on x8
            have LX3 : Below X1.heap.size X1 Z3 := LZ.trans (x8.mono LZ.size)
            have hZ1 : X1.heap.size ≤ Z.heap.size := LZ.size
            generalize hgN : Z.heap.size = gN at *
            have hseq2 := pieces1_P W (gS + 1) rv oi f bk gN (fun _ => False) Z3 (unhide HPS) (unhide HNV) (unhide HSI) (by rw [unhide HGS]; exact L1.trans (LX3.mono (by omega))) (by rw [unhide HGS]; omega) (by omega)
            have i3 : StI gN sp Z3 [] Z3 := ⟨grown_refl _ _, cN, by show 0 < sp; omega⟩
            clear HPS x8 eP eL eI
            go_wp2_with fail
            refine (wpIn_wide (n := 4)).1 ?_
            refine range_pa (p1 := 69) 15 (gf := 28) (lb := #[.pointer (some ⟨gS + 1, 0, none⟩), .pointer (some ⟨gS + 1 + 2, 0, none⟩), .pointer (some ⟨gS + 1 + 1, 0, none⟩)]) rfl (enters_of Tryd.func28 (by kernel_rfl) rfl) hseq2 (Below.refl _ _) (by omega) (fun k h => h.elim)
              (StI gN sp Z3) (StX gN sp Z3) (StI.abd (by omega)) (StX.abd (by omega)) i3 (by decide) ?assign2 ?body2 ?done2 ?stop2
            case assign2 =>
              rintro k' v X K hK
              simp only [List.setIfInBounds_toArray, List.set_cons_zero, List.set_cons_succ] at hK ⊢
              gi_wp2
              exact hK
            case done2 =>
              rintro D2 X3 hD2 hI3 hK2
              have h9 := hI3.2.2
              rw [unhide HEN] at h9
              omega
            case stop2 =>
              rintro D2 c' pre X3 hD2 hpre ⟨rfl, hg3, cN3⟩ hK2
              have cP5 := cP3.grownS hg3 (by omega)
              have eN := cN3.cell
              have eP := cP5.cell
              have hz3 := hg3.size
              have L3 : Below X1.heap.size X1 X3 := LX3.trans (grown_lowS hg3 (by omega) (by omega))
              have x9 := (Below.refl X3.heap.size X3).alloc (Nat.le_refl _) (.cells #[.int .i64 (sp : Int)] 3)
              have cQ := Cb.new X3 3 (.int .i64 (sp : Int))
              have eQ := cQ.cell
              have fQ := cQ.frozen
              have hww := unhide HWW
              have hs1 := unhide HS1
              have hc3 : Coll X3 w0.heap.size (D2 :: ds2) := by
                refine Coll.more ⟨hcZ.1, fun D hD => ⟨(hcZ.2 D hD).1, (hg3.block D (heap_ltC (hcZ.2 D hD).2) (fun e => ?_)).trans (hcZ.2 D hD).2⟩⟩ (fun h => by have := heap_ltC (hcZ.2 D2 h).2; omega) (by omega) hK2
                have e := Option.some.inj e
                subst e
                have h2 := (hcZ.2 _ hD).2
                rw [show Z3.heap[_]? = _ from cN] at h2
                cases h2
              have hsw : IntKind.i64.wrap ((sp : Int) + 1) = (sp : Int) + 1 := by rw [IntKind.wrap_i64]; omega
              have x10 := (Below.refl X3.heap.size X3).alloc (Nat.le_refl _) (.cells #[.int .i64 ((sp : Int) + 1)] 3)
              have cQ2 := Cb.new X3 3 (.int .i64 ((sp : Int) + 1))
              have hgX : X1.heap.size ≤ X3.heap.size := L3.size
              have hc5 := hc3.on x10
              have L5 := L3.trans (x10.mono L3.size)
              have HCP := hide cP
              clear hcZ hc2 hc3 L3 x9 x10 cP cP3 cP5 cN cN3 cL3 cLZ hg3 hK2 i3 hseq2
              gi_wp2
              go_wp2_with fail
              refine ⟨⟨_, sp + 1, _, _, FrT.mk rfl, by omega, by omega, L5, (by have := cQ2; exact this), hgX, hc5⟩, ?_⟩
              show 5 - (intOf ((World.cell? _ ⟨X3.heap.size, 0, none⟩).getD undef)).toNat < 5 - (intOf ((Z.cell? ⟨gP, 0, none⟩).getD undef)).toNat
              rw [cQ2.cell, (unhide HCP).cell]
              show 5 - ((sp : Int) + 1).toNat < 5 - ((sp : Int)).toNat
              omega
            case body2 =>
              rintro k' pre x v X hk1 hk2 ⟨rec, hrec⟩ hpre ⟨hgr, hcN, hltp⟩ ⟨gp, op', cp, rfl, hN, hg1, hg2⟩ hsz9
              obtain ⟨hpl, hpx⟩ := pre_at hpre
              rw [unhide HEN] at hpl
              obtain ⟨ga, hva, hcell⟩ := hrd pre.length hpl
              rw [hpx] at hcell
              subst hva
              have F0 : Below X.heap.size X X.drew := (Below.refl _ X).drew
              have kx := str_bs X.drew (some ⟨gp, op', none⟩) cp x (hN.1.below F0 (Nat.le_refl _)).2.2.1
              have gP3 := (cP3.grownS hgr (by omega)).on F0
              have gL3 := (cL3.grownS hgr (by omega)).on F0
              have gN3 := hcN.on F0
              have hga := lt_cell hcell
              have hga : ga < X1.heap.size := hga
              have hcell3 : X.drew.cell? ⟨ga, pre.length, none⟩ = some (.string (strOfNums x)) := (World.cell?_of_block (hgr.block ga (by omega) (fun e => by have := Option.some.inj e; omega))).trans ((LX3.cell (p := ⟨ga, pre.length, none⟩) hga).trans hcell)
              have hgr2 : Z3.grownBy X.drew (some gN) := grown_drew hgr
              have ip : PwI gp op' x.length X.drew X.drew := ⟨grown_refl _ _, fun i hi => ⟨by
                have h1 := (hN.1.below F0 (Nat.le_refl _)).2.2.1
                rcases h1 with h1 | ⟨g', o', e', hL⟩
                · rw [h1] at hi; simp at hi
                · cases e'
                  have := (hL i hi).1
                  rw [this]
                  rfl, hN.2 i hi⟩⟩
              have K0 : KN gN (ownP (fun _ => False) Z3.heap.size) X X.drew := KN.all F0 (by omega)
              have n1 : ¬ (sp : Int) ≤ (pre.length : Int) := by omega
              have n2 : ¬ sp ≤ pre.length := by omega
              have n3 : (pre.length : Int) < (en : Int) := by omega
              have n4 : pre.length < en := hpl
              have HSS := hide (show (fun w' : World => w'.cell? ⟨gN, 0, none⟩ = some (.int .i64 (pre.length : Int)) ∧ w'.cell? ⟨gP, 0, none⟩ = some (.int .i64 (sp : Int)) ∧ w'.cell? ⟨gS + 1 + 3, 0, none⟩ = some (.slice (some ⟨ga, 0, none⟩) en vc) ∧ w'.cell? ⟨ga, pre.length, none⟩ = some (.string (strOfNums x)) ∧ (convert 23 9 (.slice (some ⟨gp, op', none⟩) x.length cp)).run Tryd.prog w' = .ok (.string (strOfNums x)) w') X.drew from ⟨gN3.cell, gP3.cell, gL3.cell, hcell3, kx⟩)
              have hlen : (pre ++ [x]).length = pre.length + 1 := by simp
              have HLN := hide hlen
              have hgN1 : gN < gp := by omega
              have hzz : Z3.heap.size ≤ gp := by omega
              have hxl : x.length ≤ 268435456 := by
                have h1 := pre_flat hpre
                have h2 := (unhide HE12).2
                have h3 := unhide HSI
                rw [List.flatten_append, List.length_append] at h1
                have h4 : [x].flatten.length = x.length := by simp
                omega
              have hsp5 : sp ≤ 4 := hp4
              clear hN hpre hrec hgr hcN hcell hcell3 kx hlen hpx hpl F0 hrd
              have HPI := hide ip
              have HGR2 := hide hgr2
              have HK0 := hide K0
              have HGP3 := hide gP3
              have HGN3 := hide gN3
              clear ip hgr2 K0 gP3 gN3 gL3
              have hX : X.drew.heap.size = X.heap.size := rfl
              have HSZ : Hid (gN + 1 ≤ X.drew.heap.size) := hide (by rw [hX]; omega)
              clear hX
              generalize strOfNums x = SX at *
              generalize hpn : pre.length = pn at *
              clear hpn
              generalize hxn : x.length = xn at *
              clear hxn
              simp only [List.setIfInBounds_toArray, List.set_cons_zero, List.set_cons_succ]
              gi_wp2_with fail
              refine regionL_in (S := fun w' => w'.cell? ⟨gN, 0, none⟩ = some (.int .i64 (pn : Int)) ∧ w'.cell? ⟨gP, 0, none⟩ = some (.int .i64 (sp : Int)) ∧ w'.cell? ⟨gS + 1 + 3, 0, none⟩ = some (.slice (some ⟨ga, 0, none⟩) en vc) ∧ w'.cell? ⟨ga, pn, none⟩ = some (.string SX) ∧ (convert 23 9 (.slice (some ⟨gp, op', none⟩) xn cp)).run Tryd.prog w' = .ok (.string SX) w') (fun _ => false) (by kernel_rfl) ?hd ?hq ?_
              case hd =>
                intro j o c h e
                have := Array.mem_of_getElem? h
                simp only [List.mem_toArray, List.mem_cons, List.not_mem_nil, or_false] at this
                rcases this with rfl | rfl | rfl | rfl | rfl | rfl | rfl | rfl | rfl | rfl | rfl | rfl <;> cases e
              case hq => rintro ⟨a, w, h⟩; exact h
              generalize X.drew = y0 at *
              refine anyL_take (i := 0) (v := ?vsy11) rfl (by kernel_rfl) (by kernel_rfl) (by kernel_rfl) (by kernel_rfl) (fun _ _ _ h => h) (Or.inl ⟨by rfl, ?hsy11⟩) (unhide HSS) ?_
              case hsy11 => (intro w hSw; (try dsimp only at hSw); go_simp) <;> with_reducible rfl
              simp only [Act.put, List.getElem_toArray, List.getElem_cons_zero, List.setIfInBounds_toArray, List.set_cons_zero, List.set_cons_succ]
              refine anyL_take (i := 1) (v := ?vsy12) rfl (by kernel_rfl) (by kernel_rfl) (by kernel_rfl) (by kernel_rfl) (fun _ _ _ h => h) (Or.inl ⟨by rfl, ?hsy12⟩) (unhide HSS) ?_
              case hsy12 => (intro w hSw; (try dsimp only at hSw); go_simp) <;> with_reducible rfl
              simp only [Act.put, List.getElem_toArray, List.getElem_cons_zero, List.getElem_cons_succ, List.setIfInBounds_toArray, List.set_cons_zero, List.set_cons_succ]
              refine anyL_take (i := 2) (v := ?vsy13) rfl (by kernel_rfl) (by kernel_rfl) (by kernel_rfl) (by kernel_rfl) (fun _ _ _ h => h) (Or.inl ⟨by rfl, ?hsy13⟩) (unhide HSS) ?_
              case hsy13 => (intro w hSw; (try dsimp only at hSw); go_simp) <;> with_reducible rfl
              simp only [Act.put, List.getElem_toArray, List.getElem_cons_zero, List.getElem_cons_succ, List.setIfInBounds_toArray, List.set_cons_zero, List.set_cons_succ]
              refine anyL_take (i := 3) (v := ?vsy14) rfl (by kernel_rfl) (by kernel_rfl) (by kernel_rfl) (by kernel_rfl) (fun _ _ _ h => h) (Or.inl ⟨by rfl, ?hsy14⟩) (unhide HSS) ?_
              case hsy14 => (intro w hSw; (try dsimp only at hSw); go_simp) <;> with_reducible rfl
              simp only [Act.put, List.getElem_toArray, List.getElem_cons_zero, List.getElem_cons_succ, List.setIfInBounds_toArray, List.set_cons_zero, List.set_cons_succ]
              refine anyL_take (i := 4) (v := ?vsy15) rfl (by kernel_rfl) (by kernel_rfl) (by kernel_rfl) (by kernel_rfl) (fun _ _ _ h => h) (Or.inl ⟨by rfl, ?hsy15⟩) (unhide HSS) ?_
              case hsy15 => (intro w hSw; (try dsimp only at hSw); go_simp) <;> with_reducible rfl
              simp only [Act.put, List.getElem_toArray, List.getElem_cons_zero, List.getElem_cons_succ, List.setIfInBounds_toArray, List.set_cons_zero, List.set_cons_succ]
              refine anyL_take (i := 5) (v := ?vsy16) rfl (by kernel_rfl) (by kernel_rfl) (by kernel_rfl) (by kernel_rfl) (fun _ _ _ h => h) (Or.inl ⟨by rfl, ?hsy16⟩) (unhide HSS) ?_
              case hsy16 => (intro w hSw; (try dsimp only at hSw); go_simp) <;> with_reducible rfl
              simp only [Act.put, List.getElem_toArray, List.getElem_cons_zero, List.getElem_cons_succ, List.setIfInBounds_toArray, List.set_cons_zero, List.set_cons_succ]
              refine anyL_take (i := 6) (v := ?vsy17) rfl (by kernel_rfl) (by kernel_rfl) (by kernel_rfl) (by kernel_rfl) (fun _ _ _ h => h) (Or.inl ⟨by rfl, ?hsy17⟩) (unhide HSS) ?_
              case hsy17 => (intro w hSw; (try dsimp only at hSw); go_simp) <;> with_reducible rfl
              simp only [Act.put, List.getElem_toArray, List.getElem_cons_zero, List.getElem_cons_succ, List.setIfInBounds_toArray, List.set_cons_zero, List.set_cons_succ]
              refine anyL_take (i := 7) (v := ?vsy18) rfl (by kernel_rfl) (by kernel_rfl) (by kernel_rfl) (by kernel_rfl) (fun _ _ _ h => h) (Or.inl ⟨by rfl, ?hsy18⟩) (unhide HSS) ?_
              case hsy18 => (intro w hSw; (try dsimp only at hSw); go_simp) <;> with_reducible rfl
              simp only [Act.put, List.getElem_toArray, List.getElem_cons_zero, List.getElem_cons_succ, List.setIfInBounds_toArray, List.set_cons_zero, List.set_cons_succ]
              refine anyL_take (i := 8) (v := ?vsy19) rfl (by kernel_rfl) (by kernel_rfl) (by kernel_rfl) (by kernel_rfl) (fun _ _ _ h => h) (Or.inl ⟨by rfl, ?hsy19⟩) (unhide HSS) ?_
              case hsy19 => (intro w hSw; (try dsimp only at hSw); go_simp) <;> with_reducible rfl
              simp only [Act.put, List.getElem_toArray, List.getElem_cons_zero, List.getElem_cons_succ, List.setIfInBounds_toArray, List.set_cons_zero, List.set_cons_succ]
              refine anyL_take (i := 9) (v := ?vsy20) rfl (by kernel_rfl) (by kernel_rfl) (by kernel_rfl) (by kernel_rfl) (fun _ _ _ h => h) (Or.inl ⟨by rfl, ?hsy20⟩) (unhide HSS) ?_
              case hsy20 => (intro w hSw; (try dsimp only at hSw); go_simp) <;> with_reducible rfl
              simp only [Act.put, List.getElem_toArray, List.getElem_cons_zero, List.getElem_cons_succ, List.setIfInBounds_toArray, List.set_cons_zero, List.set_cons_succ]
              refine anyL_take (i := 10) (v := ?vsy21) rfl (by kernel_rfl) (by kernel_rfl) (by kernel_rfl) (by kernel_rfl) (fun _ _ _ h => h) (Or.inl ⟨by rfl, ?hsy21⟩) (unhide HSS) ?_
              case hsy21 => (intro w hSw; (try dsimp only at hSw); go_simp) <;> with_reducible rfl
              simp only [Act.put, List.getElem_toArray, List.getElem_cons_zero, List.getElem_cons_succ, List.setIfInBounds_toArray, List.set_cons_zero, List.set_cons_succ]
              refine anyL_take (i := 11) (v := ?vsy22) rfl (by kernel_rfl) (by kernel_rfl) (by kernel_rfl) (by kernel_rfl) (fun _ _ _ h => h) (Or.inl ⟨by rfl, ?hsy22⟩) (unhide HSS) ?_
              case hsy22 => (intro w hSw; (try dsimp only at hSw); go_simp) <;> with_reducible rfl
              simp only [Act.put, List.getElem_toArray, List.getElem_cons_zero, List.getElem_cons_succ, List.setIfInBounds_toArray, List.set_cons_zero, List.set_cons_succ]
              refine anyL_done (by kernel_rfl) ?_ _
              clear HSS
              gi_wp2_with fail
              gi_loopw [16, 84] (fun v16 v84 wx => (∃ z, v16 = z) ∧ ∃ j : Nat, v84 = .int .i64 (j : Int) ∧ j ≤ xn ∧ Hid (PwI gp op' xn y0 wx)) (fun _ v84 _ => xn - (intOf v84).toNat)
              case atStart => exact ⟨⟨_, rfl⟩, 0, rfl, Nat.zero_le _, HPI⟩
              case round =>
                obtain ⟨⟨z16, rfl⟩, j, rfl, hj, HP⟩ := hrel
                by_cases cj : j < xn
                · have m1 : (j : Int) < (xn : Int) := by omega
                  obtain ⟨e5, f5⟩ := (unhide HP).2 j cj
                  obtain ⟨cv, e6⟩ := Option.isSome_iff_exists.1 e5
                  have HP2 := hide ((unhide HP).put j cj (.int .u8 42))
                  have hjw : IntKind.i64.wrap ((j : Int) + 1) = (j : Int) + 1 := by rw [IntKind.wrap_i64]; omega
                  clear HP e5
                  gi_wp2_with fail
                  go_roundw
                  case rel => exact ⟨⟨_, rfl⟩, j + 1, by go_num, by omega, HP2⟩
                  case measure =>
                    show xn - ((j : Int) + 1).toNat < xn - (j : Int).toNat
                    omega
                · have m1 : ¬ (j : Int) < (xn : Int) := by omega
                  have hg5 := (unhide HP).1
                  have cN5 := (unhide HGN3).grownS hg5 (by omega)
                  have cP5 := (unhide HGP3).grownS hg5 (by omega)
                  have e5 := cN5.cell
                  have f5 := cN5.frozen
                  have cN6 := cN5.set (.int .i64 ((pn : Int) + 1))
                  have cP6 := cP5.other ⟨gN, 0, none⟩ (.int .i64 ((pn : Int) + 1)) (by show gP ≠ gN; omega)
                  have e6 := cN6.cell
                  have e7 := cP6.cell
                  have hpw : IntKind.i64.wrap ((pn : Int) + 1) = (pn : Int) + 1 := by rw [IntKind.wrap_i64]; omega
                  have K9 : KN gN (ownP (fun _ => False) Z3.heap.size) X (wr.setCell ⟨gN, 0, none⟩ (.int .i64 ((pn : Int) + 1))) := ((unhide HK0).trans (KN.ofGrown hg5 (by have := unhide HSZ; omega) (by omega) (by rintro (h | h); exact h; omega))).trans (KN.setCell wr ⟨gN, 0, none⟩ _ (Nat.le_refl gN) (by rintro (h | h); exact h; exact absurd h.1 (by show ¬ Z3.heap.size ≤ gN; omega)))
                  have G9 : Z3.grownBy (wr.setCell ⟨gN, 0, none⟩ (.int .i64 ((pn : Int) + 1))) (some gN) := grown_trans (grown_trans (unhide HGR2) hg5 (fun k e => by cases e; exact Or.inr hzz)) (grown_set wr gN 0 _) (fun k e => by cases e; exact Or.inl rfl)
                  rw [z8] at K9
                  have HK9 := hide K9
                  have HG9 := hide G9
                  have HN6 := hide cN6
                  clear HP hg5 cN5 cP5 cN6 cP6 K9 G9
                  by_cases ce : pn + 1 = sp
                  · have m2 : ((pn : Int) + 1 == (sp : Int)) = true := by rw [beq_iff_eq]; omega
                    have m3 : (pn : Int) + 1 = (sp : Int) := by omega
                    have HN7 : Hid (Cb (wr.setCell ⟨gN, 0, none⟩ (.int .i64 ((pn : Int) + 1))) gN 3 (.int .i64 (sp : Int))) := hide (m3 ▸ unhide HN6)
                    clear m3 ce
                    gi_wp2_with fail
                    exact ⟨unhide HK9, rfl, unhide HG9, unhide HN7⟩
                  · have m2 : ((pn : Int) + 1 == (sp : Int)) = false := by rw [beq_eq_false_iff_ne]; omega
                    have HN7 : Hid (Cb (wr.setCell ⟨gN, 0, none⟩ (.int .i64 ((pn : Int) + 1))) gN 3 (.int .i64 ((pre ++ [x]).length : Int))) := hide (by rw [unhide HLN]; exact unhide HN6)
                    have HLT : Hid ((pre ++ [x]).length < sp) := hide (by rw [unhide HLN]; omega)
                    gi_wp2_with fail
                    exact ⟨unhide HK9, unhide HG9, unhide HN7, unhide HLT⟩
          · have HTx := hide fun (Y : World) (hb : Below Z.heap.size Z Y) => unhide HTX Y (LWZ.trans (hb.mono (by have := LZ.size; have := unhide HS1; omega)))
            have HSW := hide fun (Y : World) (hb : Below Z.heap.size Z Y) => (show (fun w' : World => w'.cell? ⟨gT, 0, none⟩ = some (.slice (some ⟨gr, 0, none⟩) gn rc) ∧ w'.cell? ⟨gT, 1, none⟩ = some (.slice (some ⟨gt, 0, none⟩) gn tc) ∧ w'.cell? ⟨gr, k, none⟩ = some (.pointer (some ⟨gi, 0, none⟩)) ∧ w'.cell? ⟨gt, k, none⟩ = some (.string Si) ∧ w'.cell? ⟨gS, 0, none⟩ = some (.int .i64 (k : Int))) Y from ⟨(hb.cell (p := ⟨gT, 0, none⟩) (lt_cell hcc.1)).trans hcc.1, (hb.cell (p := ⟨gT, 1, none⟩) (lt_cell hcc.2.1)).trans hcc.2.1, (hb.cell (p := ⟨gr, k, none⟩) (lt_cell hcc.2.2.1)).trans hcc.2.2.1, (hb.cell (p := ⟨gt, k, none⟩) (lt_cell hcc.2.2.2)).trans hcc.2.2.2, (hb.cell (p := ⟨gS, 0, none⟩) (lt_cell eI)).trans eI⟩)
            have G0 : Below Z.heap.size Z Z.drew := (Below.refl _ Z).drew
            have hgSZ : gS ≤ Z.heap.size := by have := LZ.size; have := unhide HS1; omega
            have HGZ := hide hgSZ
            have HLW := hide LWZ
            have HC2 := hide hc2
            have hcs : (¬ (sp : Int) ≤ (en : Int) ∧ ¬ sp ≤ en) ∨ ((sp : Int) ≤ (en : Int) ∧ sp ≤ en ∧ ¬ (sp : Int) ≤ 3 ∧ ¬ sp ≤ 3) := by omega
            clear hcc LWZ hc2 cs2 cP cLZ cIZ
            rcases hcs with ⟨t2, t3⟩ | ⟨t2, t3, t4, t5⟩
            · go_upto_region 37 with fail
              refine wp_onlyN ?_
              refine regionL (S := fun w' => w'.cell? ⟨gT, 0, none⟩ = some (.slice (some ⟨gr, 0, none⟩) gn rc) ∧ w'.cell? ⟨gT, 1, none⟩ = some (.slice (some ⟨gt, 0, none⟩) gn tc) ∧ w'.cell? ⟨gr, k, none⟩ = some (.pointer (some ⟨gi, 0, none⟩)) ∧ w'.cell? ⟨gt, k, none⟩ = some (.string Si) ∧ w'.cell? ⟨gS, 0, none⟩ = some (.int .i64 (k : Int))) (fun _ => false) (by kernel_rfl) ?_
              generalize Z.drew = z9 at *
              refine anyL_take (i := 0) (v := ?vsz0) rfl (by kernel_rfl) (by kernel_rfl) (by kernel_rfl) (by kernel_rfl) (fun _ _ _ h => h) (Or.inl ⟨by rfl, ?hsz0⟩) (unhide HSW _ G0) ?_
              case hsz0 => (intro w hSw; (try dsimp only at hSw); go_simp) <;> with_reducible rfl
              simp only [Act.put, List.getElem_toArray, List.getElem_cons_zero, List.setIfInBounds_toArray, List.set_cons_zero, List.set_cons_succ]
              refine anyL_take (i := 1) (v := ?vsz1) rfl (by kernel_rfl) (by kernel_rfl) (by kernel_rfl) (by kernel_rfl) (fun _ _ _ h => h) (Or.inl ⟨by rfl, ?hsz1⟩) (unhide HSW _ G0) ?_
              case hsz1 => (intro w hSw; (try dsimp only at hSw); go_simp) <;> with_reducible rfl
              simp only [Act.put, List.getElem_toArray, List.getElem_cons_zero, List.getElem_cons_succ, List.setIfInBounds_toArray, List.set_cons_zero, List.set_cons_succ]
              refine anyL_take (i := 2) (v := ?vsz2) rfl (by kernel_rfl) (by kernel_rfl) (by kernel_rfl) (by kernel_rfl) (fun _ _ _ h => h) (Or.inl ⟨by rfl, ?hsz2⟩) (unhide HSW _ G0) ?_
              case hsz2 => (intro w hSw; (try dsimp only at hSw); go_simp) <;> with_reducible rfl
              simp only [Act.put, List.getElem_toArray, List.getElem_cons_zero, List.getElem_cons_succ, List.setIfInBounds_toArray, List.set_cons_zero, List.set_cons_succ]
              refine anyL_take (i := 3) (v := ?vsz3) rfl (by kernel_rfl) (by kernel_rfl) (by kernel_rfl) (by kernel_rfl) (fun _ _ _ h => h) (Or.inl ⟨by rfl, ?hsz3⟩) (unhide HSW _ G0) ?_
              case hsz3 => (intro w hSw; (try dsimp only at hSw); go_simp) <;> with_reducible rfl
              simp only [Act.put, List.getElem_toArray, List.getElem_cons_zero, List.getElem_cons_succ, List.setIfInBounds_toArray, List.set_cons_zero, List.set_cons_succ]
              refine anyL_take (i := 4) (v := ?vsz4) rfl (by kernel_rfl) (by kernel_rfl) (by kernel_rfl) (by kernel_rfl) (fun _ _ _ h => h) (Or.inl ⟨by rfl, ?hsz4⟩) (unhide HSW _ G0) ?_
              case hsz4 => (intro w hSw; (try dsimp only at hSw); go_simp) <;> with_reducible rfl
              simp only [Act.put, List.getElem_toArray, List.getElem_cons_zero, List.getElem_cons_succ, List.setIfInBounds_toArray, List.set_cons_zero, List.set_cons_succ]
              refine anyL_take (i := 6) (v := ?vsz5) rfl (by kernel_rfl) (by kernel_rfl) (by kernel_rfl) (by kernel_rfl) (fun _ _ _ h => h) (Or.inl ⟨by rfl, ?hsz5⟩) (unhide HSW _ G0) ?_
              case hsz5 => (intro w hSw; (try dsimp only at hSw); go_simp) <;> with_reducible rfl
              simp only [Act.put, List.getElem_toArray, List.getElem_cons_zero, List.getElem_cons_succ, List.setIfInBounds_toArray, List.set_cons_zero, List.set_cons_succ]
              refine anyL_take (i := 7) (v := ?vsz6) rfl (by kernel_rfl) (by kernel_rfl) (by kernel_rfl) (by kernel_rfl) (fun _ _ _ h => h) (Or.inl ⟨by rfl, ?hsz6⟩) (unhide HSW _ G0) ?_
              case hsz6 => (intro w hSw; (try dsimp only at hSw); go_simp) <;> with_reducible rfl
              simp only [Act.put, List.getElem_toArray, List.getElem_cons_zero, List.getElem_cons_succ, List.setIfInBounds_toArray, List.set_cons_zero, List.set_cons_succ]
              refine anyL_take (i := 8) (v := ?vsz7) rfl (by kernel_rfl) (by kernel_rfl) (by kernel_rfl) (by kernel_rfl) (fun _ _ _ h => h) (Or.inl ⟨by rfl, ?hsz7⟩) (unhide HSW _ G0) ?_
              case hsz7 => (intro w hSw; (try dsimp only at hSw); go_simp) <;> with_reducible rfl
              simp only [Act.put, List.getElem_toArray, List.getElem_cons_zero, List.getElem_cons_succ, List.setIfInBounds_toArray, List.set_cons_zero, List.set_cons_succ]
              refine anyL_take (i := 9) (v := ?vsz8) rfl (by kernel_rfl) (by kernel_rfl) (by kernel_rfl) (by kernel_rfl) (fun _ _ _ h => h) (Or.inl ⟨by rfl, ?hsz8⟩) (unhide HSW _ G0) ?_
              case hsz8 => (intro w hSw; (try dsimp only at hSw); go_simp) <;> with_reducible rfl
              simp only [Act.put, List.getElem_toArray, List.getElem_cons_zero, List.getElem_cons_succ, List.setIfInBounds_toArray, List.set_cons_zero, List.set_cons_succ]
              refine anyL_take (i := 10) (v := ?vsz9) rfl (by kernel_rfl) (by kernel_rfl) (by kernel_rfl) (by kernel_rfl) (fun _ _ _ h => h) (Or.inl ⟨by rfl, ?hsz9⟩) (unhide HSW _ G0) ?_
              case hsz9 => (intro w hSw; (try dsimp only at hSw); go_simp) <;> with_reducible rfl
              simp only [Act.put, List.getElem_toArray, List.getElem_cons_zero, List.getElem_cons_succ, List.setIfInBounds_toArray, List.set_cons_zero, List.set_cons_succ]
              refine anyL_ready (rs := [5]) (by kernel_rfl) (by simp) ?_
              refine AllL.cons rfl (fun K hK => ?_) AllL.nil
              go_simp
              refine (unhide HTx _ G0).mono ?_
              rintro e y1 ⟨rfl, x1⟩
              have G1 := G0.trans (x1.mono G0.size)
              refine unhide hK _ _ (fun _ => unhide HSW _ G1) ?_
              clear hK K x1
              refine anyL_take (i := 11) (v := ?vsz10) rfl (by kernel_rfl) (by kernel_rfl) (by kernel_rfl) (by kernel_rfl) (fun _ _ _ h => h) (Or.inl ⟨by rfl, ?hsz10⟩) (unhide HSW _ G1) ?_
              case hsz10 => (intro w hSw; (try dsimp only at hSw); go_simp) <;> with_reducible rfl
              simp only [Act.put, List.getElem_toArray, List.getElem_cons_zero, List.getElem_cons_succ, List.setIfInBounds_toArray, List.set_cons_zero, List.set_cons_succ]
              refine anyL_done (by kernel_rfl) ?_ _
              unfold onlyN
              have G9 := hide G1
              clear HSW HTx G0 G1
              go_wp2_with fail
              refine ⟨⟨_, k + 1, ds2, FrS.mk rfl, by omega, unhide HI9 _ ((unhide HLW).trans ((unhide G9).mono (unhide HGZ))), unhide HR9 _ ((unhide HLW).trans ((unhide G9).mono (unhide HGZ))), (unhide HC2).on (unhide G9)⟩, by simp [intOf]; omega⟩
            · go_upto_region 37 with fail
              refine wp_onlyN ?_
              refine regionL (S := fun w' => w'.cell? ⟨gT, 0, none⟩ = some (.slice (some ⟨gr, 0, none⟩) gn rc) ∧ w'.cell? ⟨gT, 1, none⟩ = some (.slice (some ⟨gt, 0, none⟩) gn tc) ∧ w'.cell? ⟨gr, k, none⟩ = some (.pointer (some ⟨gi, 0, none⟩)) ∧ w'.cell? ⟨gt, k, none⟩ = some (.string Si) ∧ w'.cell? ⟨gS, 0, none⟩ = some (.int .i64 (k : Int))) (fun _ => false) (by kernel_rfl) ?_
              generalize Z.drew = z9 at *
              refine anyL_take (i := 0) (v := ?vsz0) rfl (by kernel_rfl) (by kernel_rfl) (by kernel_rfl) (by kernel_rfl) (fun _ _ _ h => h) (Or.inl ⟨by rfl, ?hsz0⟩) (unhide HSW _ G0) ?_
              case hsz0 => (intro w hSw; (try dsimp only at hSw); go_simp) <;> with_reducible rfl
              simp only [Act.put, List.getElem_toArray, List.getElem_cons_zero, List.setIfInBounds_toArray, List.set_cons_zero, List.set_cons_succ]
              refine anyL_take (i := 1) (v := ?vsz1) rfl (by kernel_rfl) (by kernel_rfl) (by kernel_rfl) (by kernel_rfl) (fun _ _ _ h => h) (Or.inl ⟨by rfl, ?hsz1⟩) (unhide HSW _ G0) ?_
              case hsz1 => (intro w hSw; (try dsimp only at hSw); go_simp) <;> with_reducible rfl
              simp only [Act.put, List.getElem_toArray, List.getElem_cons_zero, List.getElem_cons_succ, List.setIfInBounds_toArray, List.set_cons_zero, List.set_cons_succ]
              refine anyL_take (i := 2) (v := ?vsz2) rfl (by kernel_rfl) (by kernel_rfl) (by kernel_rfl) (by kernel_rfl) (fun _ _ _ h => h) (Or.inl ⟨by rfl, ?hsz2⟩) (unhide HSW _ G0) ?_
              case hsz2 => (intro w hSw; (try dsimp only at hSw); go_simp) <;> with_reducible rfl
              simp only [Act.put, List.getElem_toArray, List.getElem_cons_zero, List.getElem_cons_succ, List.setIfInBounds_toArray, List.set_cons_zero, List.set_cons_succ]
              refine anyL_take (i := 3) (v := ?vsz3) rfl (by kernel_rfl) (by kernel_rfl) (by kernel_rfl) (by kernel_rfl) (fun _ _ _ h => h) (Or.inl ⟨by rfl, ?hsz3⟩) (unhide HSW _ G0) ?_
              case hsz3 => (intro w hSw; (try dsimp only at hSw); go_simp) <;> with_reducible rfl
              simp only [Act.put, List.getElem_toArray, List.getElem_cons_zero, List.getElem_cons_succ, List.setIfInBounds_toArray, List.set_cons_zero, List.set_cons_succ]
              refine anyL_take (i := 4) (v := ?vsz4) rfl (by kernel_rfl) (by kernel_rfl) (by kernel_rfl) (by kernel_rfl) (fun _ _ _ h => h) (Or.inl ⟨by rfl, ?hsz4⟩) (unhide HSW _ G0) ?_
              case hsz4 => (intro w hSw; (try dsimp only at hSw); go_simp) <;> with_reducible rfl
              simp only [Act.put, List.getElem_toArray, List.getElem_cons_zero, List.getElem_cons_succ, List.setIfInBounds_toArray, List.set_cons_zero, List.set_cons_succ]
              refine anyL_take (i := 6) (v := ?vsz5) rfl (by kernel_rfl) (by kernel_rfl) (by kernel_rfl) (by kernel_rfl) (fun _ _ _ h => h) (Or.inl ⟨by rfl, ?hsz5⟩) (unhide HSW _ G0) ?_
              case hsz5 => (intro w hSw; (try dsimp only at hSw); go_simp) <;> with_reducible rfl
              simp only [Act.put, List.getElem_toArray, List.getElem_cons_zero, List.getElem_cons_succ, List.setIfInBounds_toArray, List.set_cons_zero, List.set_cons_succ]
              refine anyL_take (i := 7) (v := ?vsz6) rfl (by kernel_rfl) (by kernel_rfl) (by kernel_rfl) (by kernel_rfl) (fun _ _ _ h => h) (Or.inl ⟨by rfl, ?hsz6⟩) (unhide HSW _ G0) ?_
              case hsz6 => (intro w hSw; (try dsimp only at hSw); go_simp) <;> with_reducible rfl
              simp only [Act.put, List.getElem_toArray, List.getElem_cons_zero, List.getElem_cons_succ, List.setIfInBounds_toArray, List.set_cons_zero, List.set_cons_succ]
              refine anyL_take (i := 8) (v := ?vsz7) rfl (by kernel_rfl) (by kernel_rfl) (by kernel_rfl) (by kernel_rfl) (fun _ _ _ h => h) (Or.inl ⟨by rfl, ?hsz7⟩) (unhide HSW _ G0) ?_
              case hsz7 => (intro w hSw; (try dsimp only at hSw); go_simp) <;> with_reducible rfl
              simp only [Act.put, List.getElem_toArray, List.getElem_cons_zero, List.getElem_cons_succ, List.setIfInBounds_toArray, List.set_cons_zero, List.set_cons_succ]
              refine anyL_take (i := 9) (v := ?vsz8) rfl (by kernel_rfl) (by kernel_rfl) (by kernel_rfl) (by kernel_rfl) (fun _ _ _ h => h) (Or.inl ⟨by rfl, ?hsz8⟩) (unhide HSW _ G0) ?_
              case hsz8 => (intro w hSw; (try dsimp only at hSw); go_simp) <;> with_reducible rfl
              simp only [Act.put, List.getElem_toArray, List.getElem_cons_zero, List.getElem_cons_succ, List.setIfInBounds_toArray, List.set_cons_zero, List.set_cons_succ]
              refine anyL_take (i := 10) (v := ?vsz9) rfl (by kernel_rfl) (by kernel_rfl) (by kernel_rfl) (by kernel_rfl) (fun _ _ _ h => h) (Or.inl ⟨by rfl, ?hsz9⟩) (unhide HSW _ G0) ?_
              case hsz9 => (intro w hSw; (try dsimp only at hSw); go_simp) <;> with_reducible rfl
              simp only [Act.put, List.getElem_toArray, List.getElem_cons_zero, List.getElem_cons_succ, List.setIfInBounds_toArray, List.set_cons_zero, List.set_cons_succ]
              refine anyL_ready (rs := [5]) (by kernel_rfl) (by simp) ?_
              refine AllL.cons rfl (fun K hK => ?_) AllL.nil
              go_simp
              refine (unhide HTx _ G0).mono ?_
              rintro e y1 ⟨rfl, x1⟩
              have G1 := G0.trans (x1.mono G0.size)
              refine unhide hK _ _ (fun _ => unhide HSW _ G1) ?_
              clear hK K x1
              refine anyL_take (i := 11) (v := ?vsz10) rfl (by kernel_rfl) (by kernel_rfl) (by kernel_rfl) (by kernel_rfl) (fun _ _ _ h => h) (Or.inl ⟨by rfl, ?hsz10⟩) (unhide HSW _ G1) ?_
              case hsz10 => (intro w hSw; (try dsimp only at hSw); go_simp) <;> with_reducible rfl
              simp only [Act.put, List.getElem_toArray, List.getElem_cons_zero, List.getElem_cons_succ, List.setIfInBounds_toArray, List.set_cons_zero, List.set_cons_succ]
              refine anyL_done (by kernel_rfl) ?_ _
              unfold onlyN
              have G9 := hide G1
              clear HSW HTx G0 G1
              go_wp2_with fail
              refine ⟨⟨_, k + 1, ds2, FrS.mk rfl, by omega, unhide HI9 _ ((unhide HLW).trans ((unhide G9).mono (unhide HGZ))), unhide HR9 _ ((unhide HLW).trans ((unhide G9).mono (unhide HGZ))), (unhide HC2).on (unhide G9)⟩, by simp [intOf]; omega⟩

    · obtain rfl : k = gn := by omega
      have e1 := hR.frozen
      have e2 := hR.cell
      have hR2 := hR.set (.bool true)
      go_wp2_with fail
      have hz := unhide HZR
      refine leaves_coll (B := w0.heap.size) ds _ ?_ (fun W2 hb2 => ⟨.bool true, ?_, rfl, ?_⟩)
      · exact ⟨hc.1, fun D hD => ⟨(hc.2 D hD).1, (Below.heap_setCell W ⟨gR, 0, none⟩ _ D (by show D ≠ gR; have := (hc.2 D hD).1; omega)).trans (hc.2 D hD).2⟩⟩
      · have e3 := (hR2.below hb2 hz).cell
        simp [results, Tryd.results4, go_sem, e3]
      · rw [unhide HGR]
        exact (((unhide HB0).trans (hI.b.mono (Nat.le_of_lt hz))).setCell (p := ⟨gR, 0, none⟩) (Nat.le_refl _) _).trans (hb2.mono (Nat.le_of_lt hz))

end Go.Proofs.YtpfjfgggacpdfaaDoor
end

section
namespace Go.Proofs.YtpfjfgggacpdfaaDoor
open Go.ChangeShapes Go.WideShapes Go.ChangeAt Go.RowKit
open Go.ChangeMaps (open_string shut_string)

set_option maxRecDepth 100000 in
theorem ropeStops_contract (H : Type) (enc : TypeId × Value → H) (W : World) (base : Nat) (args : Array Value) (ds gs : List (DataW H)) (before : List MemPlace)
    (hval : ∀ (j : Nat) t v, Tryd.f4.params[j]? = some t → args[j]? = some v → Value.okWide Tryd.prog W .any base t v)
    (hW : DataW.Whole enc Tryd.prog Tryd.f4.params.toList Rows.ropeStopsSpec.vars false W args.toList ds gs before) (hsz : (DataW.weightsEach Tryd.prog (Tryd.f4.params.toList ++ (OpenSpec.ofChange Rows.ropeStopsSpec).bare.plain.varTypes Tryd.prog) (ds ++ gs)).all (· ≤ reachBytes) = true) (hL : laidMetH Tryd.prog Rows.ropeStopsRow.laid W) (hsh : W.ShapedOpen Tryd.prog) :
    Calls Tryd.prog 4 args W fun e W' => ∃ v, e = .returned v ∧ Rows.ropeStopsSpec.post enc Tryd.prog Tryd.f4 false true false false W args v W' := by
  have hW' := hW
  obtain ⟨p, q, hA0, hV, rfl, _, _⟩ := hW
  have hA : DataW.TrodAll enc Tryd.prog W 0 (fun _ => true) true Tryd.f4.params.toList args.toList ds p := hA0
  rw [Tryd.params4] at hA hval hsz
  obtain ⟨v0, vs0, d0, ds0, p0, q0, hargs, rfl, rfl, h0, r0⟩ := trodAll_cons hA
  obtain ⟨v1, vs1, d1, ds1, p1, q1, rfl, rfl, rfl, h1, r1⟩ := trodAll_cons r0
  obtain ⟨v2, vs2, d2, ds2, p2, q2, rfl, rfl, rfl, h2, r2⟩ := trodAll_cons r1
  obtain ⟨rfl, rfl, rfl⟩ := trodAll_nil r2
  obtain rfl : args = #[v0, v1, v2] := by cases args; simp_all
  obtain ⟨rfl, rfl⟩ := trodVars_none hV
  obtain ⟨a0, len0, cap0, rfl⟩ := okWide_slice Tryd.underlying22 (hval 0 22 v0 rfl rfl)
  have k0 := h0
  have lt0 : ∀ x ∈ p0, x.block < W.heap.size := by obtain ⟨m, hm⟩ := k0; exact DataW.trod_lt m _ _ _ hm
  obtain ⟨l0, rfl, w0, u0⟩ := acts1_of_trod h0 hsz (j := 0) rfl rfl
  obtain ⟨x1, rfl, rfl, rfl, w1⟩ := open_int Tryd.underlying3 (hval 1 3 v1 rfl rfl) h1
  obtain ⟨x2, rfl, rfl, rfl⟩ := open_bool Tryd.underlying4 (hval 2 4 v2 rfl rfl) h2
  clear hA0
  refine (RopeStops_any a0 cap0 l0 x1 x2 W w0 u0 w1 (wt_of hL hsh)).mono fun e W' ⟨he, bel⟩ => ?_
  subst he
  exact ⟨_, rfl, _, _, _, [], _, [], hW', trodAll_mk1 (shut_bool Tryd.underlying4 _), (trodAll_cons_mk (Below.trod laidOut (by kernel_rfl) (of_decide_eq_true (by kernel_rfl)) k0 bel lt0) (trodAll_cons_mk (shut_int Tryd.underlying3 w1) (trodAll_cons_mk (shut_bool Tryd.underlying4 _) trodAll_mk0))), rfl, bel.frame _, fun h => by cases h⟩

theorem ropeStops_met (os : Os) : laidMet Tryd.prog Rows.ropeStopsRow.laid ((laidWorldW os).forCall (fun _ _ => 0) ⟨#[], #[.slice none 0 0, .int .i64 0, .bool false], []⟩).memory :=
  laidMet_of_run' 8 (by kernel_rfl) (by kernel_rfl)
theorem ropeStops_reads (os : Os) {H : Type} (enc : TypeId × Value → H) : ∃ places, DataW.whole enc Tryd.prog ((laidWorldW os).forCall (fun _ _ => 0) ⟨#[], #[.slice none 0 0, .int .i64 0, .bool false], []⟩).memory Tryd.f4.params.toList Rows.ropeStopsSpec.vars false (#[.slice none 0 0, .int .i64 0, .bool false] : Array Value).toList 8 = some ([.nil, .lit (.int .i64 0), .lit (.bool false)], [], places) :=
  ⟨[], by kernel_rfl⟩

set_option maxRecDepth 100000 in
theorem ropeStops_lifted (os : Os) (started : os.Started) (H : Type) (enc : TypeId × Value → H) (F : Stop.Interp) :
    ReturnsInHanded {} Tryd.checked os 4 .any ((OpenSpec.ofChange Rows.ropeStopsSpec).preRow enc Tryd.prog Tryd.f4 Rows.ropeStopsRow.domain false Rows.ropeStopsRow.laid) (((OpenSpec.ofChange Rows.ropeStopsSpec).at F).post enc Tryd.prog Tryd.f4 false true false false) := by
  obtain ⟨places, hx⟩ := ropeStops_reads os enc
  refine returnsInHanded_of_row (C := Tryd.checked) (s := OpenSpec.ofChange Rows.ropeStopsSpec) own started (by kernel_rfl) Tryd.func4
    (witness_row_at (enc := enc) (C := Tryd.checked) false (laidWorldW os) #[.slice none 0 0, .int .i64 0, .bool false] rfl (by kernel_rfl) (by kernel_rfl) (by kernel_rfl)
      (OpenSpec.preRow_of_cond 8 hx (by kernel_rfl) (fun k hk => by cases hk) (by kernel_rfl) (ropeStops_met os))) ?_
  intro W base args ds gs before hval hW _ _ hsz hL hsh _
  exact ropeStops_contract H enc W base args ds gs before hval hW hsz hL hsh

theorem ropeStops_said : Rows.RopeStopsSaid :=
  OpenClaim.holds_of_cond 4 Tryd.f4 rfl rfl rfl rfl rfl rfl rfl ⟨rfl, rfl, rfl, rfl, rfl⟩ rfl rfl rfl rfl rfl (by kernel_rfl) Tryd.func4 (by kernel_rfl)
    (of_decide_eq_true (by kernel_rfl)) (by unfold Func.isWrapper; first | (rw [if_pos (by decide +kernel)]; kernel_rfl) | (rw [if_neg (by decide +kernel)]; exact ⟨rfl, rfl⟩))
    (fun os started H enc _ F => by rw [OpenClaim.pre_eq_preRow]; exact ropeStops_lifted os started H enc F)

theorem ropeStops_plain (f : FuncId) (fn : Func) (hf : Tryd.pinned.checked.prog.funcNamed "galley/galleylaw09.RopeStops" = some f) (hfn : Tryd.pinned.checked.prog.funcs[f]? = some fn) :
    true = Tryd.pinned.checked.prog.looks [] ∧ ∀ (j : Nat) t, fn.params[j]? = some t → Tryd.pinned.checked.prog.wantsStandIn t = false := by
  obtain rfl : f = 4 := Option.some.inj ((show Tryd.prog.funcNamed "galley/galleylaw09.RopeStops" = some 4 by kernel_rfl).symm.trans hf) |>.symm
  obtain rfl : fn = Tryd.f4 := (Option.some.inj (Tryd.func4.symm.trans hfn)).symm
  refine ⟨by kernel_rfl, fun j t ht => ?_⟩
  rw [Tryd.params4] at ht
  have hm := Array.mem_of_getElem? ht
  simp only [List.mem_toArray, List.mem_cons, List.not_mem_nil, or_false] at hm
  rcases hm with rfl | rfl | rfl
  · exact (show Tryd.prog.wantsStandIn 22 = false by kernel_rfl)
  · exact (show Tryd.prog.wantsStandIn 3 = false by kernel_rfl)
  · exact (show Tryd.prog.wantsStandIn 4 = false by kernel_rfl)

/-- the card -/
theorem ropeStops_card : Rows.RopeStopsCardSaid :=
  Claim7.holds_tied_plain_at .later [] _ _ _ _ ropeStops_said (fun _ h => by cases h) (by kernel_rfl) (fun _ h => by cases h) ropeStops_row_tie rfl ⟨rfl, rfl⟩ (by kernel_rfl) rfl ropeStops_plain (by kernel_rfl)

#print axioms ropeStops_card
end Go.Proofs.YtpfjfgggacpdfaaDoor
end
