/- Layer 9's scripts: what a law's loop over the book's ropes keeps. · RopePieces: marks of loops over iterators; pieces, plainly; a loop over an iterator whose variable is no box. · RopePieces' walk. · RopePieces: for every input the law returns true and every argument reads afterwards as it read before; conditions: the table of classes holds at the call what the program's text lays (the card ties it to that text). -/
import Derived.Test.YtcodpkmhpplamaaDoorRpD
import Derived.Test.YtcodpkmhpplamaaDoorLayL
import Derived.Below
import Derived.ChangeOld
import Derived.ShutString

section
namespace Go.Proofs.YtcodpkmhpplamaaDoor
open Go.ChangeShapes Go.WideShapes Go.ChangeAt Go.RowKit
attribute [local go_sem] Oper.semAt_some

theorem Bk.low {X : World} {B gB : Nat} {gs : List Nat} {os : List (Option Nd)} (h : Bk X B gB gs os) : Bk X 0 gB gs os := by
  obtain ⟨vr, vt, h1, h2, h3⟩ := h.c
  refine ⟨⟨vr, vt, h1, ⟨h2.1, ?_⟩, ⟨h3.1, ?_⟩⟩, h.n, h.r⟩
  · rcases h2.2 with h | ⟨g, cap, cur, e, _, h4⟩
    · exact Or.inl h
    · exact Or.inr ⟨g, cap, cur, e, Nat.zero_le _, h4⟩
  · rcases h3.2 with h | ⟨g, cap, cur, e, _, h4⟩
    · exact Or.inl h
    · exact Or.inr ⟨g, cap, cur, e, Nat.zero_le _, h4⟩
/-- what the law's loop keeps -/
structure SaI (w : World) (gT : Nat) (gs : List Nat) (os : List (Option Nd)) (X : World) : Prop where
  k : Bk X 0 gT gs os
  s : ∀ i, i < gs.length → (txtO (os.getD i none)).length ≤ 268435456
  b : Below w.heap.size w X

end Go.Proofs.YtcodpkmhpplamaaDoor
end

section
namespace Go.Proofs.YtcodpkmhpplamaaDoor
open Go.ChangeShapes Go.WideShapes Go.ChangeAt Go.RowKit
attribute [local go_sem] Oper.semAt_some

/-- marks of loops over iterators that are over -/
def marks (ds : List Nat) : List Deferred := ds.map fun D => { target := .collected D, args := #[] }
def Coll (W : World) (B : Nat) (ds : List Nat) : Prop := ds.Nodup ∧ ∀ D ∈ ds, B ≤ D ∧ W.heap[D]? = some (.deferred (some []))
theorem heap_ltC {W : World} {k : Nat} {o : Obj} (h : W.heap[k]? = some o) : k < W.heap.size := (Array.getElem?_eq_some_iff.1 h).1
theorem Coll.on {W W' : World} {B : Nat} {ds : List Nat} (h : Coll W B ds) (hb : Below W.heap.size W W') : Coll W' B ds :=
  ⟨h.1, fun D hD => ⟨(h.2 D hD).1, (hb.block D (heap_ltC (h.2 D hD).2)).trans (h.2 D hD).2⟩⟩
theorem Coll.more {W : World} {B : Nat} {ds : List Nat} (h : Coll W B ds) {D : Nat} (hn : D ∉ ds) (hB : B ≤ D) (hD : W.heap[D]? = some (.deferred (some []))) : Coll W B (D :: ds) :=
  ⟨List.nodup_cons.2 ⟨hn, h.1⟩, fun E hE => by
    rcases List.mem_cons.1 hE with rfl | hE
    · exact ⟨hB, hD⟩
    · exact h.2 E hE⟩
theorem Coll.low {W : World} {B : Nat} {ds : List Nat} (h : Coll W B ds) : ∀ D ∈ ds, D < W.heap.size := fun D hD => heap_ltC (h.2 D hD).2
theorem leaves_coll {F : Fence} {n : Nat} {P : Program} {fn : Func} {tmps : Array Value} {R : Ending → World → Prop} {B : Nat} : ∀ (ds : List Nat) (W : World), Coll W B ds → (∀ W', Below B W W' → LeavesInM F n P fn tmps R [] .returning W') → LeavesInM F n P fn tmps R (marks ds) .returning W
  | [], W, _, h => h W (Below.refl _ _)
  | D :: ds, W, hc, h => by
    have hD := hc.2 D (by simp)
    refine ⟨by simp, .inl ⟨D, _, rfl, run_takeDeferred hD.2, leaves_coll (B := B) ds _ ?_ (fun W' hb => h W' ?_)⟩⟩
    · refine ⟨(List.nodup_cons.1 hc.1).2, fun E hE => ⟨(hc.2 E (by simp [hE])).1, ?_⟩⟩
      have hne : E ≠ D := fun e => (List.nodup_cons.1 hc.1).1 (by rw [← e]; exact hE)
      rw [World.putObj_heap_other hne]
      exact (hc.2 E (by simp [hE])).2
    · exact (below_putP W D _ hD.1).trans hb

/-- only the plain way out -/
def onlyN (Q : Exit → Act → World → Prop) : Exit → Act → World → Prop
  | .normal, a, w => Q .normal a w
  | _, _, _ => False
theorem wp_onlyN {P : Program} {c : Code} {Q : Exit → Act → World → Prop} {a : Act} {w : World} (h : c.wp P (onlyN Q) a w) : c.wp P Q a w :=
  wp_mono h (fun e a w h => by cases e <;> first | exact h | exact h.elim)
theorem fwdP_pos : ∀ (t : Nd) (f : Nat), ∀ x ∈ fwdP t f, 0 < x.length
  | .tip l, f, x, hx => by
    have hx : x ∈ (if f < l.length then [l.drop f] else []) := hx
    split at hx
    · simp only [List.mem_singleton] at hx
      rw [hx, List.length_drop]
      omega
    · cases hx
  | .fork a b, f, x, hx => by
    have hx : x ∈ (if f < a.txt.length then fwdP a f else []) ++ fwdP b (f - a.txt.length) := hx
    rcases List.mem_append.1 hx with h | h
    · split at h
      · exact fwdP_pos a f x h
      · cases h
    · exact fwdP_pos b _ x h
theorem bwdP_pos {W : World} : ∀ {t : Nd} {v : Value}, IsNd W v t → ∀ (f : Nat), ∀ x ∈ bwdP t f, 0 < x.length
  | .tip l, _, ⟨_, _, _, h, _⟩, f, x, hx => by
    have hx : x ∈ (if 0 < f then [l.take f] else []) := hx
    split at hx
    · simp only [List.mem_singleton] at hx
      rw [hx, List.length_take]
      omega
    · cases hx
  | .fork a b, _, ⟨_, _, _, _, _, h1, h2⟩, f, x, hx => by
    have hx : x ∈ (if a.txt.length < f then bwdP b (f - a.txt.length) else []) ++ bwdP a (min f a.txt.length) := hx
    rcases List.mem_append.1 hx with h | h
    · split at h
      · exact bwdP_pos h2 _ x h
      · cases h
    · exact bwdP_pos h1 _ x h
theorem flat_revC (E : List (List Int)) : E.reverse.flatten.length = E.flatten.length := by
  induction E with
  | nil => rfl
  | cons a r ih => simp only [List.reverse_cons, List.flatten_append, List.flatten_cons, List.flatten_nil, List.append_nil, List.length_append, ih]; omega
/-- what the pieces are: none is empty, together they are the bytes on that side -/
theorem pcs_all {W : World} {v : Value} {o : Option Nd} (h : NdV W v o) (n : Int) (back : Bool) :
    (∀ x ∈ pcsE o n back, 0 < x.length) ∧ (pcsE o n back).flatten.length ≤ (txtO o).length ∧ ((n < 0 ∨ ((txtO o).length : Int) < n) → pcsE o n back = []) ∧
    (∀ m : Nat, n = (m : Int) → m ≤ (txtO o).length → (back = true → (pcsE o n back).reverse.flatten = (txtO o).take m) ∧ (back = false → (pcsE o n back).flatten = (txtO o).drop m)) := by
  by_cases c : n < 0 ∨ ((txtO o).length : Int) < n
  · have e : pcsE o n back = [] := by unfold pcsE; rw [if_pos c]
    rw [e]
    exact ⟨fun x hx => (List.not_mem_nil hx).elim, Nat.zero_le _, fun _ => rfl, fun m hm hl => absurd c (by omega)⟩
  · obtain ⟨m, rfl⟩ : ∃ m : Nat, n = (m : Int) := ⟨n.toNat, by omega⟩
    have hml : m ≤ (txtO o).length := by omega
    cases o with
    | none =>
      rw [pcsE_none]
      have h0 : m = 0 := by have : (txtO none).length = 0 := rfl; omega
      exact ⟨fun x hx => (List.not_mem_nil hx).elim, Nat.zero_le _, fun _ => rfl, fun m' hm' _ => ⟨fun _ => by simp [txtO], fun _ => by simp [txtO]⟩⟩
    | some t =>
      cases back with
      | true =>
        rw [pcsE_back hml]
        have hf := bwdP_flat t m
        refine ⟨bwdP_pos h m, ?_, fun h => absurd h c, fun m' hm' _ => ⟨fun _ => ?_, fun h => (nomatch h)⟩⟩
        · rw [← flat_revC, hf, List.length_take]; exact Nat.min_le_right _ _
        · obtain rfl : m = m' := by omega
          exact hf
      | false =>
        rw [pcsE_on hml]
        have hf := fwdP_flat t m
        refine ⟨fwdP_pos t m, ?_, fun h => absurd h c, fun m' hm' _ => ⟨fun h => (nomatch h), fun _ => ?_⟩⟩
        · rw [hf, List.length_drop]; exact Nat.sub_le _ _
        · obtain rfl : m = m' := by omega
          exact hf
theorem pre_flat {E pre : List (List Int)} (h : pre <+: E) : pre.flatten.length ≤ E.flatten.length := by
  obtain ⟨r, rfl⟩ := h
  rw [List.flatten_append, List.length_append]
  omega

/-- range_p where the loop's variable is a slot of the frame -/
theorem range_pa {P : Program} {n : Nat} {g : Operand} {p1 : Nat} (s1 : Nat) {assign body : Code} {Q : Exit → Act → World → Prop} {a : Act} {w : World}
    {gf : Nat} {lb : Array Value} (hg : a.eval g = .func (.func gf) #[] lb) (eg : ∀ args w, (callFunc gf args).run P w = .ok (.enter gf args) w)
    {N : Nat} {q : Nat → Prop} {E : List (List Int)} {w0 : World} (hseq : SeqP P gf lb N q E w0) (hb0 : Below w0.heap.size w0 w) (hN : N ≤ w.heap.size) (hq : ∀ k, q k → k < w.heap.size)
    (I : List (List Int) → World → Prop) (Ix : Code → List (List Int) → World → Prop) (hI : AbdL w.heap.size I) (hIx : ∀ c, AbdL w.heap.size (Ix c)) (h0 : I [] w) (hn : 1 ≤ n)
    (hassign : ∀ (l : Nat) (v : Value) (W : World) (K : Act → World → Prop), K { tmps := (a.tmps.setIfInBounds p1 v).setIfInBounds s1 v, defers := [] } W →
      assign.wpIn (Fence.wide.inRound l) (n - 1 - 1) P (Exit.then K (fun _ _ _ => False)) { tmps := a.tmps.setIfInBounds p1 v, defers := [] } W)
    (hbody : ∀ (l : Nat) (pre : List (List Int)) (x : List Int) (v : Value) (W : World), w.heap.size ≤ l → l < w.heap.size + 2 → (∃ r, W.heap[l]? = some (.loop r)) → pre ++ [x] <+: E → I pre W → Nw (w.heap.size + 2) v x W → w.heap.size + 2 ≤ W.heap.size → body.wpIn (Fence.wide.inRound l) (n - 1 - 1) P (postP N (ownP q w.heap.size) I Ix (pre ++ [x]) W) { tmps := (a.tmps.setIfInBounds p1 v).setIfInBounds s1 v, defers := [] } W)
    (hdone : ∀ (D : Nat) (W : World), w.heap.size ≤ D → I E W → W.heap[D]? = some (.deferred (some [])) → Q .normal { a with defers := { target := .collected D, args := #[] } :: a.defers } W)
    (hstop : ∀ (D : Nat) (c : Code) (pre : List (List Int)) (W : World), w.heap.size ≤ D → pre <+: E → Ix c pre W → W.heap[D]? = some (.deferred (some [])) → c.wpIn Fence.wide n P Q { a with defers := { target := .collected D, args := #[] } :: a.defers } W) :
    (Code.rangeFunc g #[p1] assign body).wpIn Fence.wide n P Q a w := by
  refine range_p hg eg hseq hb0 hN hq rfl I Ix hI hIx h0 hn (fun v a' _ => a' = { tmps := (a.tmps.setIfInBounds p1 v).setIfInBounds s1 v, defers := [] }) (fun v a' X k o o' _ h => h) ?_ ?_ hdone hstop
  · intro l pre x v W K _ _ _ _ hK
    have e : ((#[p1] : Array Nat).zip #[v]).foldl (fun t (p, v) => t.setIfInBounds p v) a.tmps = a.tmps.setIfInBounds p1 v := by simp
    rw [e]
    exact hassign l v W K (hK _ _ (Below.refl _ _) rfl)
  · intro l pre x v a' W h1 h2 h3 h4 h5 h6 h7 h8
    subst h7
    exact hbody l pre x v W h1 h2 h3 h4 h5 h6 h8

end Go.Proofs.YtcodpkmhpplamaaDoor
end

section
namespace Go.Proofs.YtcodpkmhpplamaaDoor
open Go.ChangeShapes Go.WideShapes Go.ChangeAt Go.RowKit
attribute [local go_sem] Oper.semAt_some

theorem size_strP (l : List Int) : (strOfNums l).size = l.length := by simp [strOfNums, ByteArray.size]
/-- what a loop over the pieces keeps: one box, with the pieces put together -/
def PcI (gA : Nat) (Ws : World) (st : List (List Int) → List Int) (pre : List (List Int)) (X : World) : Prop := Ws.grownBy X (some gA) ∧ Cb X gA 9 (.string (strOfNums (st pre)))
theorem PcI.abd {gA : Nat} {Ws : World} {st : List (List Int) → List Int} (h : gA < Ws.heap.size) : AbdL Ws.heap.size (PcI gA Ws st) := fun _ _ _ hI hb =>
  ⟨⟨hb.1.os.trans hI.1.os, hb.1.tape.trans hI.1.tape, hb.1.output.trans hI.1.output, Nat.le_trans hI.1.size hb.1.size, fun k hk hne => (hb.1.block k hk).trans (hI.1.block k hk hne)⟩, hI.2.below hb.1 h⟩
theorem grown_low {A B : World} {g N : Nat} (h : A.grownBy B (some g)) (hN : N ≤ A.heap.size) (hg : N ≤ g) : Below N A B := (Below.refl N A).grown h hN (fun k e => by cases e; exact hg)
theorem Cb.grown {A B : World} {g g' : Nat} {t : TypeId} {v : Value} (h : Cb A g' t v) (hg : A.grownBy B (some g)) (hne : g' ≠ g) : Cb B g' t v := h.same (hg.block g' h.lt (fun e => hne (Option.some.inj e)))

/-- the frame at the law's loop -/
def FrE (f : Int) (gR gT n : Nat) (a : Act) (u : Nat → Value) (k : Nat) (ds : List Nat) : Prop := a = { tmps := #[u 0, .int .i64 f, u 2, u 3, .pointer (some ⟨gR, 0, none⟩), .pointer (some ⟨gT, 0, none⟩), u 6, u 7, u 8, u 9, u 10, u 11, u 12, u 13, u 14, u 15, u 16, u 17, u 18, u 19, u 20, u 21, u 22, u 23, u 24, u 25, .int .i64 (n : Int), .int .i64 (k : Int), u 28, u 29, u 30, u 31, u 32, u 33, u 34, u 35, u 36, u 37, u 38, u 39, u 40, u 41, u 42, u 43, u 44, u 45, u 46, u 47, u 48, u 49, u 50, u 51, u 52, u 53, u 54, u 55, u 56, u 57, u 58, u 59, u 60, u 61, u 62, u 63, u 64, u 65, u 66, u 67, u 68, u 69, u 70, u 71, u 72, u 73, u 74, u 75, u 76, u 77, u 78, u 79, u 80, u 81, u 82, u 83, u 84, u 85, u 86, u 87, u 88, u 89, u 90, u 91, u 92, u 93, u 94, u 95, u 96, u 97, u 98, u 99, u 100, u 101, u 102, u 103, u 104, u 105, u 106, u 107, u 108, u 109, u 110, u 111, u 112, u 113], defers := marks ds }
theorem FrE.mk {f : Int} {gR gT n : Nat} {a : Act} {k : Nat} {ds : List Nat} (h : a = { tmps := #[a.tmps.getD 0 undef, .int .i64 f, a.tmps.getD 2 undef, a.tmps.getD 3 undef, .pointer (some ⟨gR, 0, none⟩), .pointer (some ⟨gT, 0, none⟩), a.tmps.getD 6 undef, a.tmps.getD 7 undef, a.tmps.getD 8 undef, a.tmps.getD 9 undef, a.tmps.getD 10 undef, a.tmps.getD 11 undef, a.tmps.getD 12 undef, a.tmps.getD 13 undef, a.tmps.getD 14 undef, a.tmps.getD 15 undef, a.tmps.getD 16 undef, a.tmps.getD 17 undef, a.tmps.getD 18 undef, a.tmps.getD 19 undef, a.tmps.getD 20 undef, a.tmps.getD 21 undef, a.tmps.getD 22 undef, a.tmps.getD 23 undef, a.tmps.getD 24 undef, a.tmps.getD 25 undef, .int .i64 (n : Int), .int .i64 (k : Int), a.tmps.getD 28 undef, a.tmps.getD 29 undef, a.tmps.getD 30 undef, a.tmps.getD 31 undef, a.tmps.getD 32 undef, a.tmps.getD 33 undef, a.tmps.getD 34 undef, a.tmps.getD 35 undef, a.tmps.getD 36 undef, a.tmps.getD 37 undef, a.tmps.getD 38 undef, a.tmps.getD 39 undef, a.tmps.getD 40 undef, a.tmps.getD 41 undef, a.tmps.getD 42 undef, a.tmps.getD 43 undef, a.tmps.getD 44 undef, a.tmps.getD 45 undef, a.tmps.getD 46 undef, a.tmps.getD 47 undef, a.tmps.getD 48 undef, a.tmps.getD 49 undef, a.tmps.getD 50 undef, a.tmps.getD 51 undef, a.tmps.getD 52 undef, a.tmps.getD 53 undef, a.tmps.getD 54 undef, a.tmps.getD 55 undef, a.tmps.getD 56 undef, a.tmps.getD 57 undef, a.tmps.getD 58 undef, a.tmps.getD 59 undef, a.tmps.getD 60 undef, a.tmps.getD 61 undef, a.tmps.getD 62 undef, a.tmps.getD 63 undef, a.tmps.getD 64 undef, a.tmps.getD 65 undef, a.tmps.getD 66 undef, a.tmps.getD 67 undef, a.tmps.getD 68 undef, a.tmps.getD 69 undef, a.tmps.getD 70 undef, a.tmps.getD 71 undef, a.tmps.getD 72 undef, a.tmps.getD 73 undef, a.tmps.getD 74 undef, a.tmps.getD 75 undef, a.tmps.getD 76 undef, a.tmps.getD 77 undef, a.tmps.getD 78 undef, a.tmps.getD 79 undef, a.tmps.getD 80 undef, a.tmps.getD 81 undef, a.tmps.getD 82 undef, a.tmps.getD 83 undef, a.tmps.getD 84 undef, a.tmps.getD 85 undef, a.tmps.getD 86 undef, a.tmps.getD 87 undef, a.tmps.getD 88 undef, a.tmps.getD 89 undef, a.tmps.getD 90 undef, a.tmps.getD 91 undef, a.tmps.getD 92 undef, a.tmps.getD 93 undef, a.tmps.getD 94 undef, a.tmps.getD 95 undef, a.tmps.getD 96 undef, a.tmps.getD 97 undef, a.tmps.getD 98 undef, a.tmps.getD 99 undef, a.tmps.getD 100 undef, a.tmps.getD 101 undef, a.tmps.getD 102 undef, a.tmps.getD 103 undef, a.tmps.getD 104 undef, a.tmps.getD 105 undef, a.tmps.getD 106 undef, a.tmps.getD 107 undef, a.tmps.getD 108 undef, a.tmps.getD 109 undef, a.tmps.getD 110 undef, a.tmps.getD 111 undef, a.tmps.getD 112 undef, a.tmps.getD 113 undef], defers := marks ds }) : FrE f gR gT n a (fun i => a.tmps.getD i undef) k ds := h

set_option maxRecDepth 100000 in
set_option maxHeartbeats 8000000 in
theorem RopePieces_any (a0 : Option Addr) (cap : Nat) (cs : List Ac) (f : Int) (w : World) (hA : IsAc w a0 cs) (hn : cs.length ≤ 2199023255488) (_hk : (Lit.int .i64 f).wf = true) (hW : Wt w) :
    Calls Tryd.prog 4 #[.slice a0 cs.length cap, .int .i64 f] w fun e w' => e = .returned (.bool true) ∧ Below w.heap.size w w' := by
  clear _hk
  refine (callsIn_wide (n := 4)).1 ?_
  refine callsIn_of_wp_marks Tryd.func4 rfl trivial ?_ rfl
  simp only [Tryd.ntmps4, List.size_toArray, List.length_cons, List.length_nil, Nat.reduceAdd, Nat.reduceSub, Array.replicate_succ, Array.replicate_zero, List.push_toArray, List.append_toArray, List.nil_append, List.cons_append]
  refine wpIn_wide.2 ?_
  have b1 := (Below.refl w.heap.size w).alloc (Nat.le_refl _) (.cells #[.bool false] 4)
  have cR := Cb.new w 4 (.bool false)
  have hA := hA.on b1
  have hW := hW.below b1
  have HB0 := hide b1
  clear b1
  go_upto_region 1 with fail
  generalize w.alloc (.cells #[.bool false] 4) = w0 at *
  have HW := hide fun (X : World) (hx : Below w0.heap.size w0 X) => hW.below hx
  have HA := hide fun (X : World) (hx : Below w0.heap.size w0 X) => hA.on hx
  have HWk := hide (wakes9_at w0 hW)
  have HK := hide fun (X : World) (hx : Below w0.heap.size w0 X) => cR.on hx
  have hzR : w.heap.size < w0.heap.size := cR.lt
  clear hW hA cR
  generalize hgR : w.heap.size = gR at *
  have HGR := hide hgR
  clear hgR
  go_wp2_with fail
  refine (unhide HWk).mono ?_
  rintro y w1 ⟨rfl, x1⟩
  dsimp only
  have HPl := hide (play9_at a0 cap cs w1 (unhide HA w1 x1) (by omega) (unhide HW w1 x1))
  clear HWk
  go_wp2_with fail
  refine (unhide HPl).mono ?_
  rintro y w2 ⟨gB, gs, os, vr, vt, rfl, h2, c2, hs2, hgl, _, x2⟩
  dsimp only
  have h3 := h2.copy c2
  have hrf : (∃ a k c, vr = .slice a k c) ∧ ∃ a k c, vt = .slice a k c := by
    obtain ⟨vr', vt', d1, d2, d3⟩ := h2.c
    have e := c2.symm.trans d1
    cases e
    obtain ⟨a1, c1, e1⟩ := row_len9 d2
    obtain ⟨a3, c3, e3⟩ := row_len9 d3
    exact ⟨⟨a1, _, c1, e1⟩, ⟨a3, _, c3, e3⟩⟩
  obtain ⟨⟨ra, rl, rc, rfl⟩, ta, tl, tc, rfl⟩ := hrf
  have x3 := (Below.refl w2.heap.size w2).alloc (Nat.le_refl _) (.cells #[.slice ra rl rc, .slice ta tl tc] 27)
  have D2 := x1.trans (x2.mono x1.size)
  have D3 := D2.trans (x3.mono D2.size)
  clear HPl h2 c2 x1 x2 x3 D2
  go_upto_region 6 with fail
  generalize hw3 : w2.alloc (.cells #[.slice ra rl rc, .slice ta tl tc] 27) = w3 at *
  generalize w2.heap.size = gT at *
  clear hw3
  have i0 : SaI w0 gT gs os w3 := ⟨h3.low, hs2, D3⟩
  obtain ⟨vr', vt', d1, d2, d3⟩ := h3.c
  obtain ⟨ra', rc', rfl⟩ := row_len9 d2
  obtain ⟨p0, _, _⟩ := cells2 d1
  clear d1 d2 d3 h3 D3
  go_wp2_with fail
  clear p0
  have hR0 := unhide HK w3 i0.b
  have HZR := hide hzR
  clear hzR HK
  refine wp_loop (fun a W => ∃ (u : Nat → Value) (k : Nat) (ds : List Nat), FrE f gR gT gs.length a u k ds ∧ k ≤ gs.length ∧ SaI w0 gT gs os W ∧ Cb W gR 4 (.bool false) ∧ Coll W w0.heap.size ds) (fun a _ => gs.length - (intOf (a.tmps.getD 27 undef)).toNat) ?_ ?_
  · exact ⟨_, 0, [], FrE.mk rfl, Nat.zero_le _, i0, hR0, List.nodup_nil, fun D h => by cases h⟩
  · rintro a W ⟨u, k, ds, hfr, hk, hI, hR, hc⟩
    unfold FrE at hfr
    subst hfr
    clear i0 hR0
    by_cases c : k < gs.length
    · have t1 : (k : Int) < (gs.length : Int) := by omega
      obtain ⟨gr, rc, gt, tc, p0, p1, pc⟩ := hI.k.rows (by omega)
      obtain ⟨ci, cti⟩ := pc k c
      have hri := hI.k.r k c
      have hsi := hI.s k c
      generalize gs.getD k 0 = gi at *
      generalize os.getD k none = oi at *
      clear pc
      obtain ⟨⟨rv, hr1, hr2⟩, _⟩ := hri
      have hini : ∀ x ∈ txtO oi, 0 ≤ x ∧ x ≤ 255 := txt_in hr2
      have hA1 := pcs_all hr2 f true
      have hA2 := pcs_all hr2 f false
      have hsz := size_strP (txtO oi)
      have hex := str_extract (txtO oi)
      generalize strOfNums (txtO oi) = Si at *
      have HRV := hide (And.intro hr1 hr2)
      have HSI := hide hsi
      have HA12 := hide (And.intro hA1 hA2)
      have HEX := hide hex
      clear hA1 hA2 hr1 hr2 hsi hex
      have x4 := (((Below.refl W.heap.size W).alloc (Nat.le_refl _) (.cells #[.string Si] 9)).alloc (by simp) (.cells #[.string ⟨#[]⟩] 9)).alloc (by simp; omega) (.cells #[.string ⟨#[]⟩] 9)
      have cS : Cb (((W.alloc (.cells #[.string Si] 9)).alloc (.cells #[.string ⟨#[]⟩] 9)).alloc (.cells #[.string ⟨#[]⟩] 9)) W.heap.size 9 (.string Si) := ((Cb.new W _ _).alloc _).alloc _
      have cA : Cb (((W.alloc (.cells #[.string Si] 9)).alloc (.cells #[.string ⟨#[]⟩] 9)).alloc (.cells #[.string ⟨#[]⟩] 9)) (W.heap.size + 1) 9 (.string ⟨#[]⟩) := by
        have := (Cb.new (W.alloc (.cells #[.string Si] 9)) 9 (.string ⟨#[]⟩)).alloc (.cells #[.string ⟨#[]⟩] 9)
        rwa [World.size_alloc] at this
      have cH : Cb (((W.alloc (.cells #[.string Si] 9)).alloc (.cells #[.string ⟨#[]⟩] 9)).alloc (.cells #[.string ⟨#[]⟩] 9)) (W.heap.size + 1 + 1) 9 (.string ⟨#[]⟩) := by
        have := Cb.new ((W.alloc (.cells #[.string Si] 9)).alloc (.cells #[.string ⟨#[]⟩] 9)) 9 (.string ⟨#[]⟩)
        rwa [World.size_alloc, World.size_alloc] at this
      go_upto_region 9 with fail
      go_upto_region 10 with fail
      go_upto_region 11 with fail
      generalize (((W.alloc (.cells #[.string Si] 9)).alloc (.cells #[.string ⟨#[]⟩] 9)).alloc (.cells #[.string ⟨#[]⟩] 9)) = w4 at *
      have HX4 := hide x4
      have hlt4 : W.heap.size + 1 + 1 < w4.heap.size := cH.lt
      have HSW := hide fun (Y : World) (hb : Below w4.heap.size w4 Y) => (show (fun w' : World => w'.cell? ⟨gT, 0, none⟩ = some (.slice (some ⟨gr, 0, none⟩) gs.length rc) ∧ w'.cell? ⟨gr, k, none⟩ = some (.pointer (some ⟨gi, 0, none⟩))) Y from ⟨((x4.trans (hb.mono x4.size)).cell (p := ⟨gT, 0, none⟩) (lt_cell p0)).trans p0, ((x4.trans (hb.mono x4.size)).cell (p := ⟨gr, k, none⟩) (lt_cell ci)).trans ci⟩)
      have HP1 := hide fun (Y : World) (hb : Below w4.heap.size w4 Y) => Pieces9_at (.pointer (some ⟨gi, 0, none⟩)) rv oi f true Y (Or.inr ⟨gi, rfl, bk9_on (unhide HRV).1 (x4.trans (hb.mono x4.size))⟩) (NdV.on (x4.trans (hb.mono x4.size)) (unhide HRV).2)
      have HP2 := hide fun (Y : World) (hb : Below w4.heap.size w4 Y) => Pieces9_at (.pointer (some ⟨gi, 0, none⟩)) rv oi f false Y (Or.inr ⟨gi, rfl, bk9_on (unhide HRV).1 (x4.trans (hb.mono x4.size))⟩) (NdV.on (x4.trans (hb.mono x4.size)) (unhide HRV).2)
      have D0 : Below w4.heap.size w4 w4.drew := (Below.refl _ w4).drew
      clear p0 p1 ci cti x4
      refine wp_onlyN ?_
      refine regionL (S := fun w' => w'.cell? ⟨gT, 0, none⟩ = some (.slice (some ⟨gr, 0, none⟩) gs.length rc) ∧ w'.cell? ⟨gr, k, none⟩ = some (.pointer (some ⟨gi, 0, none⟩))) (fun _ => false) (by kernel_rfl) ?_
      generalize w4.drew = z0 at *
      refine anyL_take (i := 0) (v := ?vpw12) rfl (by kernel_rfl) (by kernel_rfl) (by kernel_rfl) (by kernel_rfl) (fun _ _ _ h => h) (Or.inl ⟨by rfl, ?hpw12⟩) (unhide HSW _ D0) ?_
      case hpw12 => (intro w hSw; (try dsimp only at hSw); go_simp) <;> with_reducible rfl
      simp only [Act.put, List.getElem_toArray, List.getElem_cons_zero, List.setIfInBounds_toArray, List.set_cons_zero, List.set_cons_succ]
      refine anyL_take (i := 1) (v := ?vpw13) rfl (by kernel_rfl) (by kernel_rfl) (by kernel_rfl) (by kernel_rfl) (fun _ _ _ h => h) (Or.inl ⟨by rfl, ?hpw13⟩) (unhide HSW _ D0) ?_
      case hpw13 => (intro w hSw; (try dsimp only at hSw); go_simp) <;> with_reducible rfl
      simp only [Act.put, List.getElem_toArray, List.getElem_cons_zero, List.getElem_cons_succ, List.setIfInBounds_toArray, List.set_cons_zero, List.set_cons_succ]
      refine anyL_take (i := 2) (v := ?vpw14) rfl (by kernel_rfl) (by kernel_rfl) (by kernel_rfl) (by kernel_rfl) (fun _ _ _ h => h) (Or.inl ⟨by rfl, ?hpw14⟩) (unhide HSW _ D0) ?_
      case hpw14 => (intro w hSw; (try dsimp only at hSw); go_simp) <;> with_reducible rfl
      simp only [Act.put, List.getElem_toArray, List.getElem_cons_zero, List.getElem_cons_succ, List.setIfInBounds_toArray, List.set_cons_zero, List.set_cons_succ]
      refine anyL_take (i := 3) (v := ?vpw15) rfl (by kernel_rfl) (by kernel_rfl) (by kernel_rfl) (by kernel_rfl) (fun _ _ _ h => h) (Or.inl ⟨by rfl, ?hpw15⟩) (unhide HSW _ D0) ?_
      case hpw15 => (intro w hSw; (try dsimp only at hSw); go_simp) <;> with_reducible rfl
      simp only [Act.put, List.getElem_toArray, List.getElem_cons_zero, List.getElem_cons_succ, List.setIfInBounds_toArray, List.set_cons_zero, List.set_cons_succ]
      refine anyL_take (i := 4) (v := ?vpw16) rfl (by kernel_rfl) (by kernel_rfl) (by kernel_rfl) (by kernel_rfl) (fun _ _ _ h => h) (Or.inl ⟨by rfl, ?hpw16⟩) (unhide HSW _ D0) ?_
      case hpw16 => (intro w hSw; (try dsimp only at hSw); go_simp) <;> with_reducible rfl
      simp only [Act.put, List.getElem_toArray, List.getElem_cons_zero, List.getElem_cons_succ, List.setIfInBounds_toArray, List.set_cons_zero, List.set_cons_succ]
      refine anyL_take (i := 5) (v := ?vpw17) rfl (by kernel_rfl) (by kernel_rfl) (by kernel_rfl) (by kernel_rfl) (fun _ _ _ h => h) (Or.inl ⟨by rfl, ?hpw17⟩) (unhide HSW _ D0) ?_
      case hpw17 => (intro w hSw; (try dsimp only at hSw); go_simp) <;> with_reducible rfl
      simp only [Act.put, List.getElem_toArray, List.getElem_cons_zero, List.getElem_cons_succ, List.setIfInBounds_toArray, List.set_cons_zero, List.set_cons_succ]
      refine anyL_take (i := 7) (v := ?vpw18) rfl (by kernel_rfl) (by kernel_rfl) (by kernel_rfl) (by kernel_rfl) (fun _ _ _ h => h) (Or.inl ⟨by rfl, ?hpw18⟩) (unhide HSW _ D0) ?_
      case hpw18 => (intro w hSw; (try dsimp only at hSw); go_simp) <;> with_reducible rfl
      simp only [Act.put, List.getElem_toArray, List.getElem_cons_zero, List.getElem_cons_succ, List.setIfInBounds_toArray, List.set_cons_zero, List.set_cons_succ]
      refine anyL_take (i := 8) (v := ?vpw19) rfl (by kernel_rfl) (by kernel_rfl) (by kernel_rfl) (by kernel_rfl) (fun _ _ _ h => h) (Or.inl ⟨by rfl, ?hpw19⟩) (unhide HSW _ D0) ?_
      case hpw19 => (intro w hSw; (try dsimp only at hSw); go_simp) <;> with_reducible rfl
      simp only [Act.put, List.getElem_toArray, List.getElem_cons_zero, List.getElem_cons_succ, List.setIfInBounds_toArray, List.set_cons_zero, List.set_cons_succ]
      refine anyL_take (i := 9) (v := ?vpw20) rfl (by kernel_rfl) (by kernel_rfl) (by kernel_rfl) (by kernel_rfl) (fun _ _ _ h => h) (Or.inl ⟨by rfl, ?hpw20⟩) (unhide HSW _ D0) ?_
      case hpw20 => (intro w hSw; (try dsimp only at hSw); go_simp) <;> with_reducible rfl
      simp only [Act.put, List.getElem_toArray, List.getElem_cons_zero, List.getElem_cons_succ, List.setIfInBounds_toArray, List.set_cons_zero, List.set_cons_succ]
      refine anyL_take (i := 10) (v := ?vpw21) rfl (by kernel_rfl) (by kernel_rfl) (by kernel_rfl) (by kernel_rfl) (fun _ _ _ h => h) (Or.inl ⟨by rfl, ?hpw21⟩) (unhide HSW _ D0) ?_
      case hpw21 => (intro w hSw; (try dsimp only at hSw); go_simp) <;> with_reducible rfl
      simp only [Act.put, List.getElem_toArray, List.getElem_cons_zero, List.getElem_cons_succ, List.setIfInBounds_toArray, List.set_cons_zero, List.set_cons_succ]
      refine anyL_take (i := 11) (v := ?vpw22) rfl (by kernel_rfl) (by kernel_rfl) (by kernel_rfl) (by kernel_rfl) (fun _ _ _ h => h) (Or.inl ⟨by rfl, ?hpw22⟩) (unhide HSW _ D0) ?_
      case hpw22 => (intro w hSw; (try dsimp only at hSw); go_simp) <;> with_reducible rfl
      simp only [Act.put, List.getElem_toArray, List.getElem_cons_zero, List.getElem_cons_succ, List.setIfInBounds_toArray, List.set_cons_zero, List.set_cons_succ]
      refine anyL_take (i := 12) (v := ?vpw23) rfl (by kernel_rfl) (by kernel_rfl) (by kernel_rfl) (by kernel_rfl) (fun _ _ _ h => h) (Or.inl ⟨by rfl, ?hpw23⟩) (unhide HSW _ D0) ?_
      case hpw23 => (intro w hSw; (try dsimp only at hSw); go_simp) <;> with_reducible rfl
      simp only [Act.put, List.getElem_toArray, List.getElem_cons_zero, List.getElem_cons_succ, List.setIfInBounds_toArray, List.set_cons_zero, List.set_cons_succ]
      refine anyL_ready (rs := [6]) (by kernel_rfl) (by simp) ?_
      refine AllL.cons rfl (fun K hK => ?_) AllL.nil
      go_simp
      refine (unhide HP1 _ D0).mono ?_
      rintro e y1 ⟨rfl, pb1, zy1, x1⟩
      have D1 := D0.trans (x1.mono D0.size)
      refine unhide hK _ _ (fun _ => unhide HSW _ D1) ?_
      clear hK K
      refine anyL_ready (rs := [13]) (by kernel_rfl) (by simp) ?_
      refine AllL.cons rfl (fun K hK => ?_) AllL.nil
      go_simp
      refine (unhide HP2 _ D1).mono ?_
      rintro e y2 ⟨rfl, pb2, zy2, x2⟩
      have D2 := D1.trans (x2.mono D1.size)
      refine unhide hK _ _ (fun _ => unhide HSW _ D2) ?_
      clear hK K
      refine anyL_take (i := 14) (v := ?vpw24) rfl (by kernel_rfl) (by kernel_rfl) (by kernel_rfl) (by kernel_rfl) (fun _ _ _ h => h) (Or.inl ⟨by rfl, ?hpw24⟩) (unhide HSW _ D2) ?_
      case hpw24 => (intro w hSw; (try dsimp only at hSw); go_simp) <;> with_reducible rfl
      simp only [Act.put, List.getElem_toArray, List.getElem_cons_zero, List.getElem_cons_succ, List.setIfInBounds_toArray, List.set_cons_zero, List.set_cons_succ]
      refine anyL_take (i := 15) (v := ?vpw25) rfl (by kernel_rfl) (by kernel_rfl) (by kernel_rfl) (by kernel_rfl) (fun _ _ _ h => h) (Or.inl ⟨by rfl, ?hpw25⟩) (unhide HSW _ D2) ?_
      case hpw25 => (intro w hSw; (try dsimp only at hSw); go_simp) <;> with_reducible rfl
      simp only [Act.put, List.getElem_toArray, List.getElem_cons_zero, List.getElem_cons_succ, List.setIfInBounds_toArray, List.set_cons_zero, List.set_cons_succ]
      refine anyL_done (by kernel_rfl) ?_ _
      unfold onlyN
      have hfn := fnn9s
      have pb1 := pb1.on x2
      unfold pcsV
      have cS := cS.on D2
      have cA := cA.on D2
      have cH := cH.on D2
      have X4 := (unhide HX4).trans (D2.mono (unhide HX4).size)
      have hzz : w4.heap.size ≤ z0.heap.size := D0.size
      have hWl : W.heap.size ≤ W.heap.size := Nat.le_refl _
      have HI9 := hide fun (Y : World) (hb : Below W.heap.size W Y) => (show SaI w0 gT gs os Y from ⟨hI.k.on hb, hI.s, hI.b.trans (hb.mono hI.b.size)⟩)
      have HR9 := hide fun (Y : World) (hb : Below W.heap.size W Y) => hR.on hb
      have HC9 := hide fun (Y : World) (hb : Below W.heap.size W Y) => hc.on hb
      have HLO := hide hc.low
      have HWW := hide hI.b.size
      clear hI hR hc HSW HP1 HP2 D0 D1 D2 x1 x2 HX4 hWl
      have NN : Hid (W.heap.size + 1 + 1 < z0.heap.size ∧ y1.heap.size = z0.heap.size + 3 ∧ y2.heap.size = y1.heap.size + 3) := hide ⟨by omega, zy1, zy2⟩
      have hseq1 := pieces1_P W z0.heap.size rv oi f true (W.heap.size + 1) (fun k => k ≠ W.heap.size + 1 ∧ k < y2.heap.size) y2 pb1 (unhide HRV).2 (unhide HSI) X4 (by omega) (by omega)
      have h2lt : W.heap.size + 1 < y2.heap.size := by omega
      clear hzz hlt4 zy1 zy2 pb1
      generalize hgS : W.heap.size = gS at *
      have HGS := hide hgS
      clear hgS
      generalize z0.heap.size = B1 at *
      generalize y1.heap.size = B2 at *
      obtain rfl : B2 = B1 + 3 := (unhide NN).2.1
      have hiw : IntKind.i64.wrap ((k : Int) + 1) = (k : Int) + 1 := by rw [IntKind.wrap_i64]; omega
      go_wp2_with fail
      refine (wpIn_wide (n := 4)).1 ?_
      refine range_pa (p1 := 56) 13 (gf := 31) (lb := #[.pointer (some ⟨B1, 0, none⟩), .pointer (some ⟨B1 + 2, 0, none⟩), .pointer (some ⟨B1 + 1, 0, none⟩)]) rfl (enters_of Tryd.func31 (by kernel_rfl) rfl) hseq1 (Below.refl _ _) (by omega) (fun k h => h.2)
        (PcI (gS + 1) y2 (fun pre => pre.reverse.flatten)) (fun _ _ _ => False) (PcI.abd h2lt) (fun _ _ _ _ h _ => h) ⟨grown_refl _ _, cA⟩ (by decide) ?assign1 ?body1 ?done1 ?stop1
      case assign1 =>
        rintro k' v X K hK
        simp only [List.setIfInBounds_toArray, List.set_cons_zero, List.set_cons_succ] at hK ⊢
        gi_wp2
        exact hK
      case stop1 =>
        rintro D c' pre X _ _ h _
        exact h.elim
      case body1 =>
        rintro k' pre x v X hk1 hk2 ⟨rec, hrec⟩ hpre ⟨hgr, hcA⟩ ⟨gp, op', cp, rfl, hN, hg1, hg2⟩ hsz9
        have hcA : Cb X (gS + 1) 9 (.string (strOfNums pre.reverse.flatten)) := hcA
        have hxp : 0 < x.length := (unhide HA12).1.1 x (hpre.subset (by simp))
        have hfl := pre_flat hpre
        rw [List.flatten_append, List.length_append] at hfl
        have hle2 := (unhide HA12).1.2.1
        have hss := unhide HSI
        have hfr := flat_revC pre
        have e2 := (cS.grown hgr (by omega)).cell
        have e1 := hcA.cell
        have f1 := hcA.frozen
        have kx := str_bs X (some ⟨gp, op', none⟩) cp x hN.1.2.2.1
        have hs1 := size_strP x
        have hs2 := size_strP pre.reverse.flatten
        have hst : (pre ++ [x]).reverse.flatten = x ++ pre.reverse.flatten := by simp
        have happ := str_app9 x pre.reverse.flatten
        have hxx : [x].flatten.length = x.length := by simp
        have n1 : ¬ (x.length : Int) = 0 := by omega
        have n2 : ((x.length : Int) == 0) = false := by rw [beq_eq_false_iff_ne]; exact n1
        have n3 : ¬ ((txtO oi).length : Int) < (pre.reverse.flatten.length : Int) := by omega
        have n4 : ¬ (txtO oi).length < pre.reverse.flatten.length := by omega
        have n5 : ¬ 9223372036854775807 < (strOfNums x).size + (strOfNums pre.reverse.flatten).size := by omega
        have HPP : Hid (∀ u, u = .string (strOfNums x ++ strOfNums pre.reverse.flatten) → Cb (X.setCell ⟨gS + 1, 0, none⟩ u) (gS + 1) 9 (.string (strOfNums (pre ++ [x]).reverse.flatten)) ∧ y2.grownBy (X.setCell ⟨gS + 1, 0, none⟩ u) (some (gS + 1))) := hide fun u hu => by
          subst hu
          rw [hst, ← happ]
          exact ⟨hcA.set _, grown_trans hgr (grown_set X (gS + 1) 0 _) (fun k e => by cases e; exact Or.inl rfl)⟩
        have hq9 : ¬ ownP (fun k => k ≠ gS + 1 ∧ k < y2.heap.size) y2.heap.size (gS + 1) := by
          rintro (h | h)
          · exact h.1 rfl
          · omega
        clear hfl hle2 hss hfr hst happ hxx hcA hgr hN hpre hrec n1
        generalize strOfNums x = SX at *
        generalize pre.reverse.flatten = R at *
        generalize strOfNums R = SR at *
        generalize R.length = rn at *
        simp only [List.setIfInBounds_toArray, List.set_cons_zero, List.set_cons_succ]
        gi_wp2_with fail
        exact ⟨KN.setCell X ⟨gS + 1, 0, none⟩ _ (Nat.le_refl _) hq9, (unhide HPP _ rfl).2, (unhide HPP _ rfl).1⟩
      case done1 =>
        rintro D1 X1 hD1 ⟨hg1, cA1⟩ hK1
        have L1 : Below gS W X1 := X4.trans (grown_low hg1 (by omega) (by omega))
        have pb2' : PcB X1 (B1 + 3) rv f false := ⟨(World.cell?_of_block (hg1.block (B1 + 3) (by have := unhide NN; omega) (fun e => by have := unhide NN; have := Option.some.inj e; omega))).trans pb2.f, (World.cell?_of_block (hg1.block (B1 + 3 + 1) (by have := unhide NN; omega) (fun e => by have := unhide NN; have := Option.some.inj e; omega))).trans pb2.k, (World.cell?_of_block (hg1.block (B1 + 3 + 2) (by have := unhide NN; omega) (fun e => by have := unhide NN; have := Option.some.inj e; omega))).trans pb2.r⟩
        have hseq2 := pieces1_P W (B1 + 3) rv oi f false (gS + 1) (fun k => k ≠ gS + 1 + 1 ∧ k < X1.heap.size) X1 pb2' (unhide HRV).2 (unhide HSI) (by rw [unhide HGS]; exact L1) (by rw [unhide HGS]; omega) (by have := hg1.size; omega)
        have cS := cS.grown hg1 (by omega)
        have cH := cH.grown hg1 (by omega)
        have h3lt : gS + 1 + 1 < X1.heap.size := cH.lt
        have hK1' := hide hK1
        have hD1' : D1 < X1.heap.size := heap_ltC hK1
        have hD1n : gS + 1 + 1 < D1 := by have := unhide NN; omega
        clear hseq1 pb2 pb2' X4 cA hg1 hK1 h2lt
        go_wp2_with fail
        refine (wpIn_wide (n := 4)).1 ?_
        refine range_pa (p1 := 72) 14 (gf := 31) (lb := #[.pointer (some ⟨B1 + 3, 0, none⟩), .pointer (some ⟨B1 + 3 + 2, 0, none⟩), .pointer (some ⟨B1 + 3 + 1, 0, none⟩)]) rfl (enters_of Tryd.func31 (by kernel_rfl) rfl) hseq2 (Below.refl _ _) (by omega) (fun k h => h.2)
          (PcI (gS + 1 + 1) X1 (fun pre => pre.flatten)) (fun _ _ _ => False) (PcI.abd h3lt) (fun _ _ _ _ h _ => h) ⟨grown_refl _ _, cH⟩ (by decide) ?assign2 ?body2 ?done2 ?stop2
        case assign2 =>
          rintro k' v X K hK
          simp only [List.setIfInBounds_toArray, List.set_cons_zero, List.set_cons_succ] at hK ⊢
          gi_wp2
          exact hK
        case stop2 =>
          rintro D c' pre X _ _ h _
          exact h.elim
        case body2 =>
          rintro k' pre x v X hk1 hk2 ⟨rec, hrec⟩ hpre ⟨hgr, hcA⟩ ⟨gp, op', cp, rfl, hN, hg1, hg2⟩ hsz9
          have hcA : Cb X (gS + 1 + 1) 9 (.string (strOfNums pre.flatten)) := hcA
          have hxp : 0 < x.length := (unhide HA12).2.1 x (hpre.subset (by simp))
          have hfl := pre_flat hpre
          rw [List.flatten_append, List.length_append] at hfl
          have hle2 := (unhide HA12).2.2.1
          have hss := unhide HSI
          have e2 := (cS.grown hgr (by omega)).cell
          have e1 := hcA.cell
          have f1 := hcA.frozen
          have kx := str_bs X (some ⟨gp, op', none⟩) cp x hN.1.2.2.1
          have hs1 := size_strP x
          have hs2 := size_strP pre.flatten
          have hst : (pre ++ [x]).flatten = pre.flatten ++ x := by simp
          have happ := str_app9 pre.flatten x
          have hxx : [x].flatten.length = x.length := by simp
          have n1 : ¬ (x.length : Int) = 0 := by omega
          have n2 : ((x.length : Int) == 0) = false := by rw [beq_eq_false_iff_ne]; exact n1
          have n3 : ¬ ((txtO oi).length : Int) < (pre.flatten.length : Int) := by omega
          have n4 : ¬ (txtO oi).length < pre.flatten.length := by omega
          have n5 : ¬ 9223372036854775807 < (strOfNums pre.flatten).size + (strOfNums x).size := by omega
          have HPP : Hid (∀ u, u = .string (strOfNums pre.flatten ++ strOfNums x) → Cb (X.setCell ⟨gS + 1 + 1, 0, none⟩ u) (gS + 1 + 1) 9 (.string (strOfNums (pre ++ [x]).flatten)) ∧ X1.grownBy (X.setCell ⟨gS + 1 + 1, 0, none⟩ u) (some (gS + 1 + 1))) := hide fun u hu => by
            subst hu
            rw [hst, ← happ]
            exact ⟨hcA.set _, grown_trans hgr (grown_set X (gS + 1 + 1) 0 _) (fun k e => by cases e; exact Or.inl rfl)⟩
          have hq9 : ¬ ownP (fun k => k ≠ gS + 1 + 1 ∧ k < X1.heap.size) X1.heap.size (gS + 1 + 1) := by
            rintro (h | h)
            · exact h.1 rfl
            · omega
          clear hfl hle2 hss hst happ hxx hcA hgr hN hpre hrec n1
          generalize strOfNums x = SX at *
          generalize pre.flatten = R at *
          generalize strOfNums R = SR at *
          generalize R.length = rn at *
          simp only [List.setIfInBounds_toArray, List.set_cons_zero, List.set_cons_succ]
          gi_wp2_with fail
          exact ⟨KN.setCell X ⟨gS + 1 + 1, 0, none⟩ _ (Nat.le_succ _) hq9, (unhide HPP _ rfl).2, (unhide HPP _ rfl).1⟩
        case done2 =>
          rintro D2 X2 hD2 ⟨hg2, cH2⟩ hK2
          have L2 : Below gS W X2 := L1.trans (grown_low hg2 (by omega) (by omega))
          have cA1 : Cb X1 (gS + 1) 9 (.string (strOfNums (pcsE oi f true).reverse.flatten)) := cA1
          have cH2 : Cb X2 (gS + 1 + 1) 9 (.string (strOfNums (pcsE oi f false).flatten)) := cH2
          have cA2 := cA1.grown hg2 (by omega)
          have cS2 := cS.grown hg2 (by omega)
          have hK1 : X2.heap[D1]? = some (.deferred (some [])) := (hg2.block D1 hD1' (fun e => by have := Option.some.inj e; omega)).trans (unhide hK1')
          have hWg := unhide HGS
          have hww := unhide HWW
          have HCC : Hid (∀ Y, Below X2.heap.size X2 Y → Below gS W Y → Coll Y w0.heap.size (D2 :: D1 :: ds)) := hide fun Y h1 h2 => by
            have c0 := unhide HC9 Y h2
            have lo := unhide HLO
            refine Coll.more (Coll.more c0 (fun h => ?_) (by omega) ((h1.block D1 (heap_ltC hK1)).trans hK1)) (fun h => ?_) (by omega) ((h1.block D2 (heap_ltC hK2)).trans hK2)
            · have := lo D1 h; omega
            · rcases List.mem_cons.1 h with h | h
              · omega
              · have := lo D2 h; omega
          have HL2 : Hid (Below gS W X2) := hide L2
          have HG2 : Hid (gS ≤ X2.heap.size) := hide (Nat.le_of_lt cS2.lt)
          obtain ⟨⟨_, _, hz1, hb1⟩, ⟨_, _, hz2, hb2⟩⟩ := unhide HA12
          have q1 := cA2.cell
          have q2 := cH2.cell
          have q3 := cS2.cell
          clear hseq2 cA1 cS cH hg2 hK2 hK1 hK1' HC9 HLO L1 L2 cA2 cH2 cS2 hWg hww h3lt hD1 hD2 hD1' hD1n HRV HA12 NN HWW HGS
          by_cases cf : f < 0 ∨ ((txtO oi).length : Int) < f
          · have q1' : X2.cell? ⟨gS + 1, 0, none⟩ = some (.string ⟨#[]⟩) := by rw [hz1 cf] at q1; exact q1
            have q2' : X2.cell? ⟨gS + 1 + 1, 0, none⟩ = some (.string ⟨#[]⟩) := by rw [hz2 cf] at q2; exact q2
            clear hz1 hz2 hb1 hb2 q1 q2
            by_cases c0 : f < 0
            · go_wp2_with fail
              refine ⟨⟨_, k + 1, D2 :: D1 :: ds, FrE.mk rfl, by omega, unhide HI9 _ (unhide HL2), unhide HR9 _ (unhide HL2), unhide HCC _ (Below.refl _ _) (unhide HL2)⟩, by simp [intOf]; omega⟩
            · have c5 : ((txtO oi).length : Int) < f := by omega
              go_wp2_with fail
              refine ⟨⟨_, k + 1, D2 :: D1 :: ds, FrE.mk rfl, by omega, unhide HI9 _ (unhide HL2), unhide HR9 _ (unhide HL2), unhide HCC _ (Below.refl _ _) (unhide HL2)⟩, by simp [intOf]; omega⟩
          · obtain ⟨m, rfl⟩ : ∃ m : Nat, f = (m : Int) := ⟨f.toNat, by omega⟩
            have hml : m ≤ (txtO oi).length := by omega
            rw [(hb1 m rfl hml).1 (by trivial)] at q1
            rw [(hb2 m rfl hml).2 (by trivial)] at q2
            have eA := unhide HEX 0 m
            have eB := unhide HEX m (txtO oi).length
            rw [List.drop_zero, Nat.sub_zero] at eA
            rw [List.take_of_length_le (by rw [List.length_drop]; omega)] at eB
            generalize strOfNums ((txtO oi).take m) = SA at *
            generalize strOfNums ((txtO oi).drop m) = SH at *
            have c0 : ¬ (m : Int) < 0 := by omega
            have c5 : ¬ ((txtO oi).length : Int) < (m : Int) := by omega
            have c6 : (m : Int) ≤ ((txtO oi).length : Int) := by omega
            have HSX := hide fun (Y : World) (hb : Below X2.heap.size X2 Y) => (show (fun w' : World => w'.cell? ⟨gS + 1, 0, none⟩ = some (.string SA) ∧ w'.cell? ⟨gS + 1 + 1, 0, none⟩ = some (.string SH) ∧ w'.cell? ⟨gS, 0, none⟩ = some (.string Si)) Y from ⟨(hb.cell (p := ⟨gS + 1, 0, none⟩) (lt_cell q1)).trans q1, (hb.cell (p := ⟨gS + 1 + 1, 0, none⟩) (lt_cell q2)).trans q2, (hb.cell (p := ⟨gS, 0, none⟩) (lt_cell q3)).trans q3⟩)
            have F0 : Below X2.heap.size X2 X2.drew := (Below.refl _ X2).drew
            clear hz1 hz2 hb1 hb2 cf hml
            generalize (txtO oi).length = tn at *
            go_upto_region 27 with fail
            refine wp_onlyN ?_
            refine regionL (S := fun w' => w'.cell? ⟨gS + 1, 0, none⟩ = some (.string SA) ∧ w'.cell? ⟨gS + 1 + 1, 0, none⟩ = some (.string SH) ∧ w'.cell? ⟨gS, 0, none⟩ = some (.string Si)) (fun _ => false) (by kernel_rfl) ?_
            generalize X2.drew = z9 at *
            refine anyL_take (i := 0) (v := ?vpx0) rfl (by kernel_rfl) (by kernel_rfl) (by kernel_rfl) (by kernel_rfl) (fun _ _ _ h => h) (Or.inl ⟨by rfl, ?hpx0⟩) (unhide HSX _ F0) ?_
            case hpx0 => (intro w hSw; (try dsimp only at hSw); go_simp) <;> with_reducible rfl
            simp only [Act.put, List.getElem_toArray, List.getElem_cons_zero, List.setIfInBounds_toArray, List.set_cons_zero, List.set_cons_succ]
            refine anyL_take (i := 1) (v := ?vpx1) rfl (by kernel_rfl) (by kernel_rfl) (by kernel_rfl) (by kernel_rfl) (fun _ _ _ h => h) (Or.inl ⟨by rfl, ?hpx1⟩) (unhide HSX _ F0) ?_
            case hpx1 => (intro w hSw; (try dsimp only at hSw); go_simp) <;> with_reducible rfl
            simp only [Act.put, List.getElem_toArray, List.getElem_cons_zero, List.getElem_cons_succ, List.setIfInBounds_toArray, List.set_cons_zero, List.set_cons_succ]
            refine anyL_take (i := 2) (v := ?vpx2) rfl (by kernel_rfl) (by kernel_rfl) (by kernel_rfl) (by kernel_rfl) (fun _ _ _ h => h) (Or.inl ⟨by rfl, ?hpx2⟩) (unhide HSX _ F0) ?_
            case hpx2 => (intro w hSw; (try dsimp only at hSw); go_simp) <;> with_reducible rfl
            simp only [Act.put, List.getElem_toArray, List.getElem_cons_zero, List.getElem_cons_succ, List.setIfInBounds_toArray, List.set_cons_zero, List.set_cons_succ]
            refine anyL_take (i := 3) (v := ?vpx3) rfl (by kernel_rfl) (by kernel_rfl) (by kernel_rfl) (by kernel_rfl) (fun _ _ _ h => h) (Or.inl ⟨by rfl, ?hpx3⟩) (unhide HSX _ F0) ?_
            case hpx3 => (intro w hSw; (try dsimp only at hSw); go_simp) <;> with_reducible rfl
            simp only [Act.put, List.getElem_toArray, List.getElem_cons_zero, List.getElem_cons_succ, List.setIfInBounds_toArray, List.set_cons_zero, List.set_cons_succ]
            refine anyL_take (i := 4) (v := ?vpx4) rfl (by kernel_rfl) (by kernel_rfl) (by kernel_rfl) (by kernel_rfl) (fun _ _ _ h => h) (Or.inl ⟨by rfl, ?hpx4⟩) (unhide HSX _ F0) ?_
            case hpx4 => (intro w hSw; (try dsimp only at hSw); go_simp) <;> with_reducible rfl
            simp only [Act.put, List.getElem_toArray, List.getElem_cons_zero, List.getElem_cons_succ, List.setIfInBounds_toArray, List.set_cons_zero, List.set_cons_succ]
            refine anyL_take (i := 5) (v := ?vpx5) rfl (by kernel_rfl) (by kernel_rfl) (by kernel_rfl) (by kernel_rfl) (fun _ _ _ h => h) (Or.inl ⟨by rfl, ?hpx5⟩) (unhide HSX _ F0) ?_
            case hpx5 => (intro w hSw; (try dsimp only at hSw); go_simp) <;> with_reducible rfl
            simp only [Act.put, List.getElem_toArray, List.getElem_cons_zero, List.getElem_cons_succ, List.setIfInBounds_toArray, List.set_cons_zero, List.set_cons_succ]
            refine anyL_take (i := 6) (v := ?vpx6) rfl (by kernel_rfl) (by kernel_rfl) (by kernel_rfl) (by kernel_rfl) (fun _ _ _ h => h) (Or.inl ⟨by rfl, ?hpx6⟩) (unhide HSX _ F0) ?_
            case hpx6 => (intro w hSw; (try dsimp only at hSw); go_simp) <;> with_reducible rfl
            simp only [Act.put, List.getElem_toArray, List.getElem_cons_zero, List.getElem_cons_succ, List.setIfInBounds_toArray, List.set_cons_zero, List.set_cons_succ]
            refine anyL_take (i := 7) (v := ?vpx7) rfl (by kernel_rfl) (by kernel_rfl) (by kernel_rfl) (by kernel_rfl) (fun _ _ _ h => h) (Or.inl ⟨by rfl, ?hpx7⟩) (unhide HSX _ F0) ?_
            case hpx7 => (intro w hSw; (try dsimp only at hSw); go_simp) <;> with_reducible rfl
            simp only [Act.put, List.getElem_toArray, List.getElem_cons_zero, List.getElem_cons_succ, List.setIfInBounds_toArray, List.set_cons_zero, List.set_cons_succ]
            refine anyL_take (i := 8) (v := ?vpx8) rfl (by kernel_rfl) (by kernel_rfl) (by kernel_rfl) (by kernel_rfl) (fun _ _ _ h => h) (Or.inl ⟨by rfl, ?hpx8⟩) (unhide HSX _ F0) ?_
            case hpx8 => (intro w hSw; (try dsimp only at hSw); go_simp) <;> with_reducible rfl
            simp only [Act.put, List.getElem_toArray, List.getElem_cons_zero, List.getElem_cons_succ, List.setIfInBounds_toArray, List.set_cons_zero, List.set_cons_succ]
            refine anyL_take (i := 9) (v := ?vpx9) rfl (by kernel_rfl) (by kernel_rfl) (by kernel_rfl) (by kernel_rfl) (fun _ _ _ h => h) (Or.inl ⟨by rfl, ?hpx9⟩) (unhide HSX _ F0) ?_
            case hpx9 => (intro w hSw; (try dsimp only at hSw); go_simp) <;> with_reducible rfl
            simp only [Act.put, List.getElem_toArray, List.getElem_cons_zero, List.getElem_cons_succ, List.setIfInBounds_toArray, List.set_cons_zero, List.set_cons_succ]
            refine anyL_take (i := 10) (v := ?vpx10) rfl (by kernel_rfl) (by kernel_rfl) (by kernel_rfl) (by kernel_rfl) (fun _ _ _ h => h) (Or.inl ⟨by rfl, ?hpx10⟩) (unhide HSX _ F0) ?_
            case hpx10 => (intro w hSw; (try dsimp only at hSw); go_simp) <;> with_reducible rfl
            simp only [Act.put, List.getElem_toArray, List.getElem_cons_zero, List.getElem_cons_succ, List.setIfInBounds_toArray, List.set_cons_zero, List.set_cons_succ]
            refine anyL_take (i := 11) (v := ?vpx11) rfl (by kernel_rfl) (by kernel_rfl) (by kernel_rfl) (by kernel_rfl) (fun _ _ _ h => h) (Or.inl ⟨by rfl, ?hpx11⟩) (unhide HSX _ F0) ?_
            case hpx11 => (intro w hSw; (try dsimp only at hSw); go_simp) <;> with_reducible rfl
            simp only [Act.put, List.getElem_toArray, List.getElem_cons_zero, List.getElem_cons_succ, List.setIfInBounds_toArray, List.set_cons_zero, List.set_cons_succ]
            refine anyL_done (by kernel_rfl) ?_ _
            unfold onlyN
            have F9 := hide F0
            clear HSX F0
            go_wp2_with fail
            refine ⟨⟨_, k + 1, D2 :: D1 :: ds, FrE.mk rfl, by omega, unhide HI9 _ ((unhide HL2).trans ((unhide F9).mono (unhide HG2))), unhide HR9 _ ((unhide HL2).trans ((unhide F9).mono (unhide HG2))), unhide HCC _ (unhide F9) ((unhide HL2).trans ((unhide F9).mono (unhide HG2)))⟩, by simp [intOf]; omega⟩
    · obtain rfl : k = gs.length := by omega
      have e1 := hR.frozen
      have e2 := hR.cell
      have hR2 := hR.set (.bool true)
      go_wp2_with fail
      have hz := unhide HZR
      refine leaves_coll (B := w0.heap.size) ds _ ?_ (fun W2 hb2 => ⟨.bool true, ?_, rfl, ?_⟩)
      · exact ⟨hc.1, fun D hD => ⟨(hc.2 D hD).1, (Below.heap_setCell W ⟨gR, 0, none⟩ _ D (by show D ≠ gR; have := (hc.2 D hD).1; omega)).trans (hc.2 D hD).2⟩⟩
      · have e3 := (hR2.below hb2 hz).cell
        simp [results, Tryd.results4, go_sem, e3]
      · rw [unhide HGR]
        exact (((unhide HB0).trans (hI.b.mono (Nat.le_of_lt hz))).setCell (p := ⟨gR, 0, none⟩) (Nat.le_refl _) _).trans (hb2.mono (Nat.le_of_lt hz))

end Go.Proofs.YtcodpkmhpplamaaDoor
end

section
namespace Go.Proofs.YtcodpkmhpplamaaDoor
open Go.ChangeShapes Go.WideShapes Go.ChangeAt Go.RowKit
open Go.ChangeMaps (open_string shut_string)

set_option maxRecDepth 100000 in
theorem ropePieces_contract (H : Type) (enc : TypeId × Value → H) (W : World) (base : Nat) (args : Array Value) (ds gs : List (DataW H)) (before : List MemPlace)
    (hval : ∀ (j : Nat) t v, Tryd.f4.params[j]? = some t → args[j]? = some v → Value.okWide Tryd.prog W .any base t v)
    (hW : DataW.Whole enc Tryd.prog Tryd.f4.params.toList Rows.ropePiecesSpec.vars false W args.toList ds gs before) (hsz : (DataW.weightsEach Tryd.prog (Tryd.f4.params.toList ++ (OpenSpec.ofChange Rows.ropePiecesSpec).bare.plain.varTypes Tryd.prog) (ds ++ gs)).all (· ≤ reachBytes) = true) (hL : laidMetH Tryd.prog Rows.ropePiecesRow.laid W) (hsh : W.ShapedOpen Tryd.prog) :
    Calls Tryd.prog 4 args W fun e W' => ∃ v, e = .returned v ∧ Rows.ropePiecesSpec.post enc Tryd.prog Tryd.f4 false true false false W args v W' := by
  have hW' := hW
  obtain ⟨p, q, hA0, hV, rfl, _, _⟩ := hW
  have hA : DataW.TrodAll enc Tryd.prog W 0 (fun _ => true) true Tryd.f4.params.toList args.toList ds p := hA0
  rw [Tryd.params4] at hA hval hsz
  obtain ⟨v0, vs0, d0, ds0, p0, q0, hargs, rfl, rfl, h0, r0⟩ := trodAll_cons hA
  obtain ⟨v1, vs1, d1, ds1, p1, q1, rfl, rfl, rfl, h1, r1⟩ := trodAll_cons r0
  obtain ⟨rfl, rfl, rfl⟩ := trodAll_nil r1
  obtain rfl : args = #[v0, v1] := by cases args; simp_all
  obtain ⟨rfl, rfl⟩ := trodVars_none hV
  obtain ⟨a0, len0, cap0, rfl⟩ := okWide_slice Tryd.underlying22 (hval 0 22 v0 rfl rfl)
  have k0 := h0
  have lt0 : ∀ x ∈ p0, x.block < W.heap.size := by obtain ⟨m, hm⟩ := k0; exact DataW.trod_lt m _ _ _ hm
  obtain ⟨l0, rfl, w0, u0⟩ := acts1_of_trod h0 hsz (j := 0) rfl rfl
  obtain ⟨x1, rfl, rfl, rfl, w1⟩ := open_int Tryd.underlying3 (hval 1 3 v1 rfl rfl) h1
  clear hA0
  refine (RopePieces_any a0 cap0 l0 x1 W w0 u0 w1 (wt_of hL hsh)).mono fun e W' ⟨he, bel⟩ => ?_
  subst he
  exact ⟨_, rfl, _, _, _, [], _, [], hW', trodAll_mk1 (shut_bool Tryd.underlying4 _), (trodAll_cons_mk (Below.trod laidOut (by kernel_rfl) (of_decide_eq_true (by kernel_rfl)) k0 bel lt0) (trodAll_cons_mk (shut_int Tryd.underlying3 w1) trodAll_mk0)), rfl, bel.frame _, fun h => by cases h⟩

theorem ropePieces_met (os : Os) : laidMet Tryd.prog Rows.ropePiecesRow.laid ((laidWorldW os).forCall (fun _ _ => 0) ⟨#[], #[.slice none 0 0, .int .i64 0], []⟩).memory :=
  laidMet_of_run' 8 (by kernel_rfl) (by kernel_rfl)
theorem ropePieces_reads (os : Os) {H : Type} (enc : TypeId × Value → H) : ∃ places, DataW.whole enc Tryd.prog ((laidWorldW os).forCall (fun _ _ => 0) ⟨#[], #[.slice none 0 0, .int .i64 0], []⟩).memory Tryd.f4.params.toList Rows.ropePiecesSpec.vars false (#[.slice none 0 0, .int .i64 0] : Array Value).toList 8 = some ([.nil, .lit (.int .i64 0)], [], places) :=
  ⟨[], by kernel_rfl⟩

set_option maxRecDepth 100000 in
theorem ropePieces_lifted (os : Os) (started : os.Started) (H : Type) (enc : TypeId × Value → H) (F : Stop.Interp) :
    ReturnsInHanded {} Tryd.checked os 4 .any ((OpenSpec.ofChange Rows.ropePiecesSpec).preRow enc Tryd.prog Tryd.f4 Rows.ropePiecesRow.domain false Rows.ropePiecesRow.laid) (((OpenSpec.ofChange Rows.ropePiecesSpec).at F).post enc Tryd.prog Tryd.f4 false true false false) := by
  obtain ⟨places, hx⟩ := ropePieces_reads os enc
  refine returnsInHanded_of_row (C := Tryd.checked) (s := OpenSpec.ofChange Rows.ropePiecesSpec) own started (by kernel_rfl) Tryd.func4
    (witness_row_at (enc := enc) (C := Tryd.checked) false (laidWorldW os) #[.slice none 0 0, .int .i64 0] rfl (by kernel_rfl) (by kernel_rfl) (by kernel_rfl)
      (OpenSpec.preRow_of_cond 8 hx (by kernel_rfl) (fun k hk => by cases hk) (by kernel_rfl) (ropePieces_met os))) ?_
  intro W base args ds gs before hval hW _ _ hsz hL hsh _
  exact ropePieces_contract H enc W base args ds gs before hval hW hsz hL hsh

theorem ropePieces_said : Rows.RopePiecesSaid :=
  OpenClaim.holds_of_cond 4 Tryd.f4 rfl rfl rfl rfl rfl rfl rfl ⟨rfl, rfl, rfl, rfl, rfl⟩ rfl rfl rfl rfl rfl (by kernel_rfl) Tryd.func4 (by kernel_rfl)
    (of_decide_eq_true (by kernel_rfl)) (by unfold Func.isWrapper; first | (rw [if_pos (by decide +kernel)]; kernel_rfl) | (rw [if_neg (by decide +kernel)]; exact ⟨rfl, rfl⟩))
    (fun os started H enc _ F => by rw [OpenClaim.pre_eq_preRow]; exact ropePieces_lifted os started H enc F)

theorem ropePieces_plain (f : FuncId) (fn : Func) (hf : Tryd.pinned.checked.prog.funcNamed "galley/galleylaw09.RopePieces" = some f) (hfn : Tryd.pinned.checked.prog.funcs[f]? = some fn) :
    true = Tryd.pinned.checked.prog.looks [] ∧ ∀ (j : Nat) t, fn.params[j]? = some t → Tryd.pinned.checked.prog.wantsStandIn t = false := by
  obtain rfl : f = 4 := Option.some.inj ((show Tryd.prog.funcNamed "galley/galleylaw09.RopePieces" = some 4 by kernel_rfl).symm.trans hf) |>.symm
  obtain rfl : fn = Tryd.f4 := (Option.some.inj (Tryd.func4.symm.trans hfn)).symm
  refine ⟨by kernel_rfl, fun j t ht => ?_⟩
  rw [Tryd.params4] at ht
  have hm := Array.mem_of_getElem? ht
  simp only [List.mem_toArray, List.mem_cons, List.not_mem_nil, or_false] at hm
  rcases hm with rfl | rfl
  · exact (show Tryd.prog.wantsStandIn 22 = false by kernel_rfl)
  · exact (show Tryd.prog.wantsStandIn 3 = false by kernel_rfl)

/-- the card -/
theorem ropePieces_card : Rows.RopePiecesCardSaid :=
  Claim7.holds_tied_plain_at .later [] _ _ _ _ ropePieces_said (fun _ h => by cases h) (by kernel_rfl) (fun _ h => by cases h) ropePieces_row_tie rfl ⟨rfl, rfl⟩ (by kernel_rfl) rfl ropePieces_plain (by kernel_rfl)

#print axioms ropePieces_card
end Go.Proofs.YtcodpkmhpplamaaDoor
end
