/- Contracts of step.All and of the iterator that it answers: the steps with their places, from the first on, for every loop body that keeps what lay below. · A loop over an iterator that keeps cells of its own (a captured variable): the loop's invariant speaks of what lay ahead of the loop alone, and the iterator may do whatever it likes behind that. · step.All's iterator once more, in the words of the loop over iterators that keep cells: it yields the steps in their order. · A block of cells of one's own, of any number. · A region that draws its order, within a round of a loop over an iterator: the walk outside a round serves. -/
import Derived.Test.YteamaneompijkaaGreatDoorSa05
import Derived.RangeFuncNested
import Derived.RangeFuncBound
import Derived.RangeFuncCalls
import Derived.RangeFuncLeaves
import Derived.Shelf.Abstract
import Derived.Shelf.RegionOpen
import Derived.WalkKit
import Derived.OwnWalkIn
import Derived.TacticsInMore
import Derived.LoopNIn
import Derived.LoopIn
import Derived.Deep.RegionHeld
namespace Go.Proofs.YteamaneompijkaaGreatDoor
open Go.ChangeShapes Go.WideShapes Go.ChangeAt Go.RowKit
set_option maxRecDepth 100000
set_option maxHeartbeats 8000000
section
attribute [local go_sem] Oper.semAt_some
def encS (l : List Int) (p : Nat) : Array Value := #[.int .i64 p, .agg #[.int .i32 (first (l.drop p)).1, .int .i64 (wid (l.drop p)), .bool (whl (l.drop p))]]
theorem All_at (a0 : Option Addr) (cap : Nat) (l : List Int) (w : World) (hB : IsB w a0 cap l) :
    Calls Tryz.prog 77 #[.slice a0 l.length cap] w fun e w' => e = .returned (.func (.func 105) #[] #[.pointer (some ⟨w.heap.size, 0, none⟩)]) ∧ w' = w.alloc (.cells #[.string (strOfNums l)] 9) := by
  have kb := str_bs w a0 cap l hB.2.2.1
  go_enter Tryz.func77, Tryz.ntmps77
  go_wp2
  go_ret
  exact ⟨rfl, rfl⟩
end
section
def KB (q : Nat → Prop) (N : Nat) (A B : World) : Prop := A.heap.size ≤ B.heap.size ∧ ∀ k, (q k ∨ N ≤ k) → k < A.heap.size → B.heap[k]? = A.heap[k]?
theorem KB.trans {q : Nat → Prop} {N : Nat} {A B C : World} (h : KB q N A B) (k : KB q N B C) : KB q N A C :=
  ⟨Nat.le_trans h.1 k.1, fun i hi hl => (k.2 i hi (Nat.lt_of_lt_of_le hl h.1)).trans (h.2 i hi hl)⟩
theorem KB.weak {q q' : Nat → Prop} {N N' : Nat} {A B : World} (h : KB q N A B) (hq : ∀ k, q' k ∨ N' ≤ k → q k ∨ N ≤ k) : KB q' N' A B := ⟨h.1, fun k hk hl => h.2 k (hq k hk) hl⟩
theorem KB.all {q : Nat → Prop} {N : Nat} {A B : World} (h : Below A.heap.size A B) : KB q N A B := ⟨h.size, fun k _ hl => h.block k hl⟩
theorem KB.alloc (q : Nat → Prop) (N : Nat) (A : World) (o : Obj) : KB q N A (A.alloc o) := KB.all ((Below.refl _ A).alloc (Nat.le_refl _) o)
theorem KB.setCell {q : Nat → Prop} {N : Nat} (A : World) (p : Addr) (v : Value) (h : ¬ q p.block) (h' : p.block < N) : KB q N A (A.setCell p v) :=
  ⟨by show A.heap.size ≤ (A.heap.modify _ _).size; rw [Array.size_modify]; exact Nat.le_refl _, fun k hk _ => Below.heap_setCell A p v k (fun e => by subst e; rcases hk with hk | hk <;> first | exact h hk | omega)⟩
def Abd {α : Type} (N : Nat) (J : List α → World → Prop) : Prop := ∀ s A B, J s A → Below N A B → J s B
def SeqB {α : Type} (P : Program) (g : Nat) (lb : Array Value) (encs : α → Array Value) (q : Nat → Prop) (E : List α) (w : World) : Prop :=
  ∀ (l : Nat) (J Jx : List α → World → Prop) (W : World), Below w.heap.size w W → Abd W.heap.size J → Abd W.heap.size Jx →
    (∀ pre x W1 m, pre ++ [x] <+: E → J pre W1 → W.heap.size ≤ W1.heap.size → YieldAt Fence.wide m P l (encs x) W1 fun e W' =>
      KB q W.heap.size W1 W' ∧ ((e = .returned (.bool true) ∧ J (pre ++ [x]) W') ∨ (e = .returned (.bool false) ∧ Jx (pre ++ [x]) W'))) →
    J [] W → ∀ m, CallsIn Fence.wide m P g (#[.func (.yield l) #[] #[]] ++ lb) W fun e W' => (∃ v, e = .returned v) ∧ (J E W' ∨ ∃ pre, pre <+: E ∧ Jx pre W')
def postB {α : Type} (q : Nat → Prop) (N : Nat) (I : List α → World → Prop) (Ix : Code → List α → World → Prop) (xs : List α) (W : World) : Exit → Act → World → Prop
  | .normal, _, W' => KB q N W W' ∧ I xs W'
  | .ret, _, W' => KB q N W W' ∧ Ix .ret xs W'
  | .exit id, _, W' => KB q N W W' ∧ Ix (.exit id) xs W'
  | .goto t, _, W' => KB q N W W' ∧ Ix (.goto t) xs W'
  | .panic _, _, _ => False
  | .outgrown, _, _ => False
theorem round_any {m m' : Nat} {P : Program} {l : Nat} {f : FuncId} {tmps : Array Value} {assign body : Code} {w : World} {R : Ending → World → Prop} (h : RoundIn Fence.wide m P l f tmps assign body w R) : RoundIn Fence.wide m' P l f tmps assign body w R :=
  ⟨h.1, fun c cs _ => h.2 c cs (room_wide _)⟩
theorem below_putl {N : Nat} (W : World) (l : Nat) (o : Obj) (h : N ≤ l) : Below N W (W.putObj l o) :=
  ⟨rfl, rfl, rfl, by simp, fun k hk => World.putObj_heap_other (by omega)⟩
theorem range_below {P : Program} {n : Nat} {α : Type} {g : Operand} {ps : Array Tmp} {assign body : Code} {Q : Exit → Act → World → Prop} {a : Act} {w : World}
    {gf : Nat} {lb : Array Value} (hg : a.eval g = .func (.func gf) #[] lb) (eg : ∀ args w, (callFunc gf args).run P w = .ok (.enter gf args) w)
    {encs : α → Array Value} {q : Nat → Prop} {E : List α} {w0 : World} (hseq : SeqB P gf lb encs q E w0) (hb0 : Below w0.heap.size w0 w) (hq : ∀ k, q k → k < w.heap.size) (hps : ∀ x, (encs x).size = ps.size)
    (I : List α → World → Prop) (Ix : Code → List α → World → Prop) (hI : Abd w.heap.size I) (hIx : ∀ c, Abd w.heap.size (Ix c)) (h0 : I [] w) (hn : 1 ≤ n)
    (Ax : α → Act → World → Prop) (hAx : ∀ x a' X l o o', X.heap[l]? = some (.loop o) → Ax x a' X → Ax x a' (X.putObj l (.loop o')))
    (hassign : ∀ (l : Nat) (pre : List α) (x : α) (W : World) (K : Act → World → Prop), pre ++ [x] <+: E → I pre W → w.heap.size ≤ W.heap.size → (∀ a' W', Below W.heap.size W W' → Ax x a' W' → K a' W') →
      assign.wpIn (Fence.wide.inRound l) (n - 1 - 1) P (Exit.then K (fun _ _ _ => False)) { tmps := (ps.zip (encs x)).foldl (fun t (p, v) => t.setIfInBounds p v) a.tmps, defers := [] } W)
    (hbody : ∀ (l : Nat) (pre : List α) (x : α) (a' : Act) (W : World), w.heap.size ≤ l → (∃ r, W.heap[l]? = some (.loop r)) → pre ++ [x] <+: E → I pre W → Ax x a' W → w.heap.size ≤ W.heap.size → body.wpIn (Fence.wide.inRound l) (n - 1 - 1) P (postB q w.heap.size I Ix (pre ++ [x]) W) a' W)
    (hdone : ∀ (D : Nat) (W : World), w.heap.size ≤ D → I E W → W.heap[D]? = some (.deferred (some [])) → Q .normal { a with defers := { target := .collected D, args := #[] } :: a.defers } W)
    (hstop : ∀ (D : Nat) (c : Code) (pre : List α) (W : World), w.heap.size ≤ D → pre <+: E → Ix c pre W → W.heap[D]? = some (.deferred (some [])) → c.wpIn Fence.wide n P Q { a with defers := { target := .collected D, args := #[] } :: a.defers } W) :
    (Code.rangeFunc g ps assign body).wpIn Fence.wide n P Q a w := by
  refine wpIn_rangeFunc fun fn hfn => ?_
  have hro : Fence.wide.round = none := rfl
  rw [hro]
  let rec' : LoopState → Option Code → Loop := fun st pe => { state := st, pending := pe, fn, tmps := a.tmps, params := ps, assign, body, defers := w.heap.size }
  let V := (w.alloc (.deferred (some []))).alloc (.loop (rec' .ready none))
  have hs1 : V.heap.size = w.heap.size + 1 + 1 := by simp [V]
  have v1 : V.heap[w.heap.size + 1]? = some (.loop (rec' .ready none)) := by
    have := World.alloc_heap_new (w.alloc (.deferred (some []))) (.loop (rec' .ready none)); rwa [World.size_alloc] at this
  have v2 : V.heap[w.heap.size]? = some (.deferred (some [])) := (Below.heap_alloc _ _ _ (by simp)).trans (World.alloc_heap_new w _)
  have vb : Below w.heap.size w V := ((Below.refl _ w).alloc (Nat.le_refl _) _).alloc (by simp) _
  refine ⟨w.heap.size + 1, [{ target := .collected w.heap.size, args := #[] }], V, { target := .fn (.func gf) lb, args := #[.func (.yield (w.heap.size + 1)) #[] #[]] }, V, gf,
    #[.func (.yield (w.heap.size + 1)) #[] #[]] ++ lb, V, run_enterLoop_outer _ _ _ _ _, ?_, ?_, ?_, fun _ => hn, ?_⟩
  · simp only [resolve, hg]
    simp [go_sem]
  · intro f' _; trivial
  · simp [invoke, go_sem, eg]
  have mine : ∀ {A B : World}, Below V.heap.size A B → Below w.heap.size A B := fun h => h.mono (by omega)
  refine (hseq (w.heap.size + 1)
    (fun pre W => I pre W ∧ W.heap[w.heap.size + 1]? = some (.loop (rec' .ready none)) ∧ W.heap[w.heap.size]? = some (.deferred (some [])))
    (fun pre W => ∃ c, Ix c pre W ∧ W.heap[w.heap.size + 1]? = some (.loop (rec' .done (some c))) ∧ W.heap[w.heap.size]? = some (.deferred (some [])))
    V (hb0.trans (vb.mono hb0.size))
    (fun s A B h hb => ⟨hI s A B h.1 (mine hb), (hb.block _ (by omega)).trans h.2.1, (hb.block _ (by omega)).trans h.2.2⟩)
    (fun s A B h hb => by obtain ⟨c, h1, h2, h3⟩ := h; exact ⟨c, hIx c s A B h1 (mine hb), (hb.block _ (by omega)).trans h2, (hb.block _ (by omega)).trans h3⟩)
    ?_ ⟨hI _ _ _ h0 vb, v1, v2⟩ (n - 1)).mono ?_
  · rintro pre x W m hpre ⟨hi, hl, hk⟩ hsz
    have hy := run_yield (P := P) (args := encs x) hl (hps x)
    refine ⟨fn, _, assign, body, hy, round_any (m := n - 1 - 1) (roundIn_of_wpIn trivial (hassign _ pre x W _ hpre hi (by omega) ?_))⟩
    intro a' U hu hax
    have hU : w.heap.size + 1 < W.heap.size := by omega
    have ul := (hu.block _ hU).trans hl
    have uk := (hu.block w.heap.size (by omega)).trans hk
    have us := hu.size
    refine ⟨_, run_beginRound ul rfl, ?_⟩
    have bl : (U.putObj (w.heap.size + 1) (.loop { rec' .ready none with state := .busy })).heap[w.heap.size + 1]? = some (.loop { rec' .ready none with state := .busy }) := World.putObj_heap_same (by omega)
    have bk : (U.putObj (w.heap.size + 1) (.loop { rec' .ready none with state := .busy })).heap[w.heap.size]? = some (.deferred (some [])) := (World.putObj_heap_other (by omega)).trans uk
    refine wpIn_mono (hbody _ pre x a' _ (by omega) ⟨_, bl⟩ hpre (hI _ _ _ (hI _ _ _ hi (hu.mono (by omega))) (below_putl U _ _ (by omega))) (hAx x a' U _ _ _ ul hax) (by simp; omega)) ?_
    have fin : ∀ (jump : Option Code) (X : World), KB q w.heap.size (U.putObj (w.heap.size + 1) (.loop { rec' .ready none with state := .busy })) X →
        (Instr.endRound (w.heap.size + 1) jump).run P X = .ok (.bool jump.isNone) (X.putObj (w.heap.size + 1) (.loop (rec' (if jump.isNone then .ready else .done) jump))) ∧
        (X.putObj (w.heap.size + 1) (.loop (rec' (if jump.isNone then .ready else .done) jump))).heap[w.heap.size + 1]? = some (.loop (rec' (if jump.isNone then .ready else .done) jump)) ∧
        (X.putObj (w.heap.size + 1) (.loop (rec' (if jump.isNone then .ready else .done) jump))).heap[w.heap.size]? = some (.deferred (some [])) ∧
        KB q V.heap.size W (X.putObj (w.heap.size + 1) (.loop (rec' (if jump.isNone then .ready else .done) jump))) := fun jump X hX => by
      have xs := hX.1
      rw [World.putObj_size] at xs
      have xl := (hX.2 (w.heap.size + 1) (.inr (by omega)) (by simp; omega)).trans bl
      have xk := (hX.2 w.heap.size (.inr (Nat.le_refl _)) (by simp; omega)).trans bk
      refine ⟨run_endRound (P := P) jump xl, World.putObj_heap_same (by omega), (World.putObj_heap_other (by omega)).trans xk, by simp; omega, fun k hk2 hkl => ?_⟩
      by_cases e : k = w.heap.size + 1
      · exact absurd hk2 (by rintro (h | h) <;> first | omega | (have := hq k h; omega))
      · rw [World.putObj_heap_other e]
        refine (hX.2 k (hk2.imp id (fun h => by omega)) (by simp; omega)).trans ?_
        rw [World.putObj_heap_other e]
        exact hu.block k hkl
    rintro e a3 X hp
    cases e with
    | normal =>
      obtain ⟨hX, hi3⟩ := hp
      obtain ⟨hr, h1, h2, h3⟩ := fin none X hX
      exact ⟨_, _, hr, h3, .inl ⟨rfl, hI _ _ _ hi3 (below_putl _ _ _ (by omega)), h1, h2⟩⟩
    | ret =>
      obtain ⟨hX, hi3⟩ := hp
      obtain ⟨hr, h1, h2, h3⟩ := fin (some .ret) X hX
      exact ⟨_, _, hr, h3, .inr ⟨rfl, .ret, hIx _ _ _ _ hi3 (below_putl _ _ _ (by omega)), h1, h2⟩⟩
    | exit id =>
      obtain ⟨hX, hi3⟩ := hp
      obtain ⟨hr, h1, h2, h3⟩ := fin (some (.exit id)) X hX
      exact ⟨_, _, hr, h3, .inr ⟨rfl, .exit id, hIx _ _ _ _ hi3 (below_putl _ _ _ (by omega)), h1, h2⟩⟩
    | goto t =>
      obtain ⟨hX, hi3⟩ := hp
      obtain ⟨hr, h1, h2, h3⟩ := fin (some (.goto t)) X hX
      exact ⟨_, _, hr, h3, .inr ⟨rfl, .goto t, hIx _ _ _ _ hi3 (below_putl _ _ _ (by omega)), h1, h2⟩⟩
    | panic ch => exact hp.elim
    | outgrown => exact hp.elim
  · rintro e X ⟨⟨v, rfl⟩, (⟨hi, hl, hk⟩ | ⟨pre, hpre, c, hi, hl, hk⟩)⟩
    · exact ⟨none, _, run_endLoop (P := P) hl (by simp [rec']), hdone _ _ (Nat.le_refl _) (hI _ _ _ hi (below_putl _ _ _ (by omega))) ((World.putObj_heap_other (by omega)).trans hk)⟩
    · exact ⟨some c, _, run_endLoop (P := P) hl (by simp [rec']), hstop _ c pre _ (Nat.le_refl _) hpre (hIx c _ _ _ hi (below_putl _ _ _ (by omega))) ((World.putObj_heap_other (by omega)).trans hk)⟩
end
section
attribute [local go_sem] Oper.semAt_some
theorem cell_lt {W : World} {g o : Nat} {v : Value} (h : W.cell? ⟨g, o, none⟩ = some v) : g < W.heap.size := by
  rcases Nat.lt_or_ge g W.heap.size with h1 | h1
  · exact h1
  · simp [World.cell?, Array.getElem?_eq_none h1] at h
theorem kb_cell {q : Nat → Prop} {N g o : Nat} {A B : World} (h : KB q N A B) (hg : q g ∨ N ≤ g) {v : Value} (hc : A.cell? ⟨g, o, none⟩ = some v) : B.cell? ⟨g, o, none⟩ = some v :=
  (World.cell?_of_block (a := ⟨g, o, none⟩) (h.2 g hg (cell_lt hc))).trans hc
theorem kb_tab {q : Nat → Prop} {N : Nat} {A B : World} (h : KB q N A B) (hg : q 0) (hT : Tab A) : Tab B := fun i h1 h2 => kb_cell h (Or.inl hg) (hT i h1 h2)
theorem all1_B (Bn : Nat) (l : List Int) (w : World) (hBw : w.cell? ⟨Bn, 0, none⟩ = some (.string (strOfNums l))) (hTw : Tab w) (hl : l.length ≤ maxLen) (hb : ∀ x ∈ l, 0 ≤ x ∧ x ≤ 255) :
    SeqB Tryz.prog 105 #[.pointer (some ⟨Bn, 0, none⟩)] (encS l) (fun k => k = 0 ∨ k = Bn) (spots l 0) w := by
  intro lo J Jx W hW hJ hJx hY h0 m
  have hBn : W.cell? ⟨Bn, 0, none⟩ = some (.string (strOfNums l)) := (hW.cell (p := ⟨Bn, 0, none⟩) (cell_lt hBw)).trans hBw
  have hT := hTw.below hW hTw.size
  clear hW hBw hTw
  refine callsIn_wide.2 ((callsIn_wide (n := 2)).1 ?_)
  have hBq := cell_lt hBn
  have h0q := hT.size
  have hsz : (strOfNums l).size = l.length := strOfNums_size l
  have HLB := hide hb
  have hl' := hl
  unfold maxLen at hl'
  clear hb
  refine callsIn_of_wp Tryz.func105 rfl trivial ?_ rfl
  simp only [Tryz.ntmps105, List.size_toArray, List.length_cons, List.length_nil, Nat.reduceAdd, Nat.reduceSub, Array.replicate_succ, Array.replicate_zero, List.push_toArray, List.append_toArray, List.nil_append, List.cons_append]
  gi_wp2
  gi_loopw [3, 4] (fun _ _ wr => ∃ (pos : Nat) (pre : List Nat), wr.heap[W.heap.size]? = some (.stringIter (strOfNums l) pos) ∧ pos ≤ l.length ∧ spots l 0 = pre ++ spots l pos ∧ J pre wr ∧ KB (fun k => k = 0 ∨ k = Bn) W.heap.size W wr) (fun _ _ wr => (strOfNums l).size - wr.iterPos W.heap.size)
  case atStart => exact ⟨0, [], World.iter_heap W _ 0, Nat.zero_le _, rfl, hJ [] W _ h0 ((Below.refl _ W).alloc (Nat.le_refl _) _), KB.alloc _ _ _ _⟩
  case round =>
    obtain ⟨pos, pre, hk, hpl, hsp, hJs, hbw⟩ := hrel
    have HSP := hide hsp
    clear hsp
    by_cases hp : pos < l.length
    · have hps : pos < (strOfNums l).size := by rw [hsz]; exact hp
      have hnx : ∀ ty, (Instr.next (.pointer (some ⟨W.heap.size, 0, none⟩)) true ty).run Tryz.prog wr = _ := fun ty => next_in wr W.heap.size (strOfNums l) pos ty hk hps
      obtain ⟨e1, e2⟩ := decode_stp (unhide HLB) hp
      rw [e1, e2] at hnx
      have hx := str_extract l pos l.length
      rw [List.take_of_length_le (by simp)] at hx
      have hlt := heap_lt hk
      have hbp := below_putl wr W.heap.size (.stringIter (strOfNums l) (pos + wid (l.drop pos))) (Nat.le_refl _)
      have hJ1 := hJ pre wr _ hJs hbp
      have hk1 : (wr.putObj W.heap.size (.stringIter (strOfNums l) (pos + wid (l.drop pos)))).heap[W.heap.size]? = some (.stringIter (strOfNums l) (pos + wid (l.drop pos))) := World.putObj_heap_same hlt
      have hip := pos_in hk
      have HSC := hide (spots_cons hp)
      have hwl := wid_len hp
      have hwp := wid_pos hp
      have hc1 : (wr.putObj W.heap.size (.stringIter (strOfNums l) (pos + wid (l.drop pos)))).cell? ⟨Bn, 0, none⟩ = some (.string (strOfNums l)) := (hbp.cell (p := ⟨Bn, 0, none⟩) hBq).trans (kb_cell hbw (Or.inl (Or.inr rfl)) hBn)
      have hT1 := (kb_tab hbw (Or.inl rfl) hT).below hbp h0q
      have hb1 : KB (fun k => k = 0 ∨ k = Bn) W.heap.size W (wr.putObj W.heap.size (.stringIter (strOfNums l) (pos + wid (l.drop pos)))) :=
        ⟨by simpa using hbw.1, fun k hk' hl => (World.putObj_heap_other (by omega)).trans (hbw.2 k hk' hl)⟩
      have HK1 := hide hk1
      have HNX := hide hnx
      clear e1 e2 hk1 hnx hk hJs hbw hbp
      generalize hw1 : wr.putObj W.heap.size (.stringIter (strOfNums l) (pos + wid (l.drop pos))) = w1 at *
      have hnx := unhide HNX
      gi_wp2_with fail
      refine ⟨trivial, ?_⟩
      refine (callsIn_wide.2 (told_at (l.drop pos) w1 (by simp; omega) (fun x hx => unhide HLB x (List.mem_of_mem_drop hx)) (by simp; omega) hT1)).mono ?_
      unfold stp stepV
      rintro e w2 ⟨rfl, hb2⟩
      have s1 := hb1.1
      have hJ2 := hJ pre w1 w2 hJ1 (hb2.mono s1)
      have hbb := hb1.trans (KB.all hb2)
      have hk2 := (hb2.block W.heap.size (heap_lt (unhide HK1))).trans (unhide HK1)
      have s2 := hb2.size
      obtain ⟨fn, tmps, assign, body, hy, hR⟩ := hY pre pos w2 (2 - 1) ⟨spots l (pos + wid (l.drop pos)), by rw [unhide HSP, unhide HSC]; simp⟩ hJ2 (by omega)
      unfold encS at hy
      clear hc1 hT1 hJ1 hnx HNX HK1 hb1 hb2 hw1
      gi_wp2_with fail
      refine hR.mono ?_
      rintro e w3 ⟨hk3, (⟨rfl, hJ3⟩ | ⟨rfl, hJx3⟩)⟩
      · have hk4 := (hk3.2 W.heap.size (Or.inr (Nat.le_refl _)) (heap_lt hk2)).trans hk2
        gi_wp2
        go_roundw
        case rel => exact ⟨pos + wid (l.drop pos), pre ++ [pos], hk4, hwl, by rw [unhide HSP, unhide HSC]; simp, hJ3, hbb.trans hk3⟩
        case measure => rw [pos_in hk4, hip]; omega
      · gi_wp2
        refine bodyPost_ret (results_none rfl _ _ _) rfl ?_
        exact ⟨⟨_, rfl⟩, .inr ⟨pre ++ [pos], ⟨spots l (pos + wid (l.drop pos)), by rw [unhide HSP, unhide HSC]; simp⟩, hJx3⟩⟩
    · have hps : ¬ pos < (strOfNums l).size := by rw [hsz]; exact hp
      have hnx : ∀ ty, (Instr.next (.pointer (some ⟨W.heap.size, 0, none⟩)) true ty).run Tryz.prog wr = _ := fun ty => next_out wr W.heap.size (strOfNums l) pos ty hk hps
      have HE : Hid (pre = spots l 0) := hide (by rw [unhide HSP, spots_end hp]; simp)
      gi_wp2
      go_end0
      exact ⟨⟨_, rfl⟩, .inl (by rw [unhide HE] at hJs; exact hJs)⟩
end
section
def Cls (W : World) (B : Nat) (t : TypeId) (cs : Array Value) : Prop := W.heap[B]? = some (.cells cs t (0, 0))
theorem Cls.lt {W : World} {B : Nat} {t : TypeId} {cs : Array Value} (h : Cls W B t cs) : B < W.heap.size := (Array.getElem?_eq_some_iff.1 h).1
theorem Cls.cell {W : World} {B : Nat} {t : TypeId} {cs : Array Value} (h : Cls W B t cs) (i : Nat) : W.cell? ⟨B, i, none⟩ = cs[i]? := by simp [World.cell?, show W.heap[B]? = _ from h]
theorem Cls.frozen {W : World} {B : Nat} {t : TypeId} {cs : Array Value} (h : Cls W B t cs) (i : Nat) : W.frozen? ⟨B, i, none⟩ = false := by simp [World.frozen?, show W.heap[B]? = _ from h]
theorem Cls.new (W : World) (t : TypeId) (cs : Array Value) : Cls (W.alloc (.cells cs t)) W.heap.size t cs := World.alloc_heap_new W _
theorem Cls.same {W W' : World} {B : Nat} {t : TypeId} {cs : Array Value} (h : Cls W B t cs) (hb : W'.heap[B]? = W.heap[B]?) : Cls W' B t cs := hb.trans h
theorem Cls.below {W W' : World} {B N : Nat} {t : TypeId} {cs : Array Value} (h : Cls W B t cs) (hb : Below N W W') (hB : B < N) : Cls W' B t cs := h.same (hb.block B hB)
theorem Cls.kb {q : Nat → Prop} {N : Nat} {W W' : World} {B : Nat} {t : TypeId} {cs : Array Value} (h : Cls W B t cs) (hb : KB q N W W') (hB : q B ∨ N ≤ B) : Cls W' B t cs := h.same (hb.2 B hB h.lt)
theorem Cls.alloc {W : World} {B : Nat} {t : TypeId} {cs : Array Value} (h : Cls W B t cs) (o : Obj) : Cls (W.alloc o) B t cs := h.same (Below.heap_alloc W o B h.lt)
theorem Cls.other {W : World} {B : Nat} {t : TypeId} {cs : Array Value} (h : Cls W B t cs) (p : Addr) (v : Value) (hp : B ≠ p.block) : Cls (W.setCell p v) B t cs := h.same (Below.heap_setCell W p v B hp)
theorem Cls.set {W : World} {B : Nat} {t : TypeId} {cs : Array Value} (h : Cls W B t cs) (i : Nat) (v : Value) : Cls (W.setCell ⟨B, i, none⟩ v) B t (cs.setIfInBounds i v) := by
  have hl := h.lt
  show (W.heap.modify B _)[B]? = _
  rw [Array.getElem?_eq_getElem (by rw [Array.size_modify]; exact hl), Array.getElem_modify_self]
  have := h
  unfold Cls at this
  rw [Array.getElem?_eq_getElem hl] at this
  rw [Option.some.inj this]
  rfl
theorem setCell_size (W : World) (p : Addr) (v : Value) : (W.setCell p v).heap.size = W.heap.size := by show (W.heap.modify _ _).size = _; rw [Array.size_modify]
theorem setCell_below {N : Nat} (W : World) (p : Addr) (v : Value) (h : N ≤ p.block) : Below N W (W.setCell p v) := (Below.refl N W).setCell (p := p) h v
end
section
theorem oper_in {P : Program} {l n : Nat} {o : Oper} {a : Act} {w : World} {K : Act → World → Prop} {Q : Exit → Act → World → Prop} (hd : ∀ c, o.op ≠ .defer c) (h : o.wp P a w K Q) : o.wpIn (Fence.wide.inRound l) n P a w K Q := by
  refine ⟨fun _ _ => trivial, ?_⟩
  rw [Oper.semAt_eq _ _ _ hd]
  unfold Oper.wp at h
  generalize (execOp a.eval o).run P w = r at h
  cases r with
  | ok x w' =>
    cases x with
    | value v => exact h
    | skip => exact h
    | defer d => exact h
    | enter f args => exact ⟨(fun e => by cases e), CallsIn.inRound l (callsIn_wide.2 h)⟩
    | row row args =>
      refine ⟨(fun e => by cases e), fun c cs _ => ?_⟩
      obtain ⟨v, w', hr, hs⟩ := h c cs
      exact ⟨v, w', hr, stepsIn_wide.2 hs⟩
    | _ => exact h.elim
  | halt x w' =>
    cases x with
    | panic v => exact h
    | _ => exact h.elim
theorem op_in {P : Program} {ops : Array Oper} {l n i : Nat} {a : Act} {w : World} {K : Act → World → Prop} {Q : Exit → Act → World → Prop} (hd : ∀ (j : Nat) (o : Oper) c, ops[j]? = some o → o.op ≠ .defer c) (hq : ¬ LetsOut Q)
    (h : wpOp P ops Q i K a w) : wpOpIn (Fence.wide.inRound l) n P ops Q i K a w := by
  unfold wpOp at h
  unfold wpOpIn
  cases ho : ops[i]? with
  | none => rw [ho] at h; exact h
  | some o =>
    rw [ho] at h
    simp only at h ⊢
    split at h
    · rename_i hw
      rw [if_pos hw]
      rcases h with h | h
      · exact oper_in (fun c => hd i o c ho) h
      · exact absurd h.2 hq
    · rename_i hw
      rw [if_neg hw]
      exact ⟨fun _ _ => trivial, h⟩
theorem any_in {P : Program} {md : Region.Mode} {ops : Array Oper} {l n : Nat} {Q : Exit → Act → World → Prop} (hd : ∀ (j : Nat) (o : Oper) c, ops[j]? = some o → o.op ≠ .defer c) (hq : ¬ LetsOut Q) :
    ∀ (fuel : Nat) (listed : Array Bool) (a : Act) (w : World), wpAny P md ops Q fuel listed a w → wpAnyIn (Fence.wide.inRound l) n P md ops Q fuel listed a w
  | 0, _, _, _, h => h
  | fuel + 1, _, _, _, h => ⟨h.1, fun i hi => wpOpIn_mono (fun a w => any_in hd hq fuel _ a w) (op_in hd hq (h.2 i hi))⟩
theorem step_append_in {P : Program} {ops : Array Oper} {o : Oper} {a : Act} {w : World} {K : Act → World → Prop} {Q : Exit → Act → World → Prop} {E : Prop} (hw : Region.wanted o (yielded ops a.tmps) = true) (s x : Operand) (t tx : TypeId)
    (ho : o.op = .call { callee := .builtin .append, args := #[s, x], argTypes := #[t, tx] }) (v u : Value) (hs : a.eval s = v) (hx : a.eval x = u) (v' : Value) (w' : World)
    (hr : (Builtin.append_ #[t, tx] o.type #[v, u]).run P w = .ok v' w') (h : K (a.put o.dst v') w') : if Region.wanted o (yielded ops a.tmps) = true then Oper.wp P o a w K Q else E := by
  rw [if_pos hw]
  unfold Oper.wp execOp
  simp only [ho, resolve, invoke, builtin, Sem.run_bind, Sem.run_pure, Result.andThen_ok, List.map_toArray, List.map_cons, List.map_nil, hs, hx, hr]
  exact h
end
end Go.Proofs.YteamaneompijkaaGreatDoor
