/- A loop over an iterator that keeps cells of its own (a captured variable): the loop's invariant speaks of what lay ahead of the loop alone, and the iterator may do whatever it likes behind that. -/
import Derived.Test.YtkdnanlgkedjgabDoorDn11

namespace Go.Proofs.YtkdnanlgkedjgabDoor
open Go.ChangeShapes Go.WideShapes Go.ChangeAt Go.RowKit

/-- the blocks of q stay, and whatever lies at or behind N -/
def KB (q : Nat → Prop) (N : Nat) (A B : World) : Prop := A.heap.size ≤ B.heap.size ∧ ∀ k, (q k ∨ N ≤ k) → k < A.heap.size → B.heap[k]? = A.heap[k]?
theorem KB.refl (q : Nat → Prop) (N : Nat) (A : World) : KB q N A A := ⟨Nat.le_refl _, fun _ _ _ => rfl⟩
theorem KB.trans {q : Nat → Prop} {N : Nat} {A B C : World} (h : KB q N A B) (k : KB q N B C) : KB q N A C :=
  ⟨Nat.le_trans h.1 k.1, fun i hi hl => (k.2 i hi (Nat.lt_of_lt_of_le hl h.1)).trans (h.2 i hi hl)⟩
theorem KB.weak {q q' : Nat → Prop} {N N' : Nat} {A B : World} (h : KB q N A B) (hq : ∀ k, q' k ∨ N' ≤ k → q k ∨ N ≤ k) : KB q' N' A B := ⟨h.1, fun k hk hl => h.2 k (hq k hk) hl⟩
theorem KB.all {q : Nat → Prop} {N : Nat} {A B : World} (h : Below A.heap.size A B) : KB q N A B := ⟨h.size, fun k _ hl => h.block k hl⟩
theorem KB.alloc (q : Nat → Prop) (N : Nat) (A : World) (o : Obj) : KB q N A (A.alloc o) := KB.all ((Below.refl _ A).alloc (Nat.le_refl _) o)
theorem KB.setCell {q : Nat → Prop} {N : Nat} (A : World) (p : Addr) (v : Value) (h : ¬ q p.block) (h' : p.block < N) : KB q N A (A.setCell p v) :=
  ⟨by show A.heap.size ≤ (A.heap.modify _ _).size; rw [Array.size_modify]; exact Nat.le_refl _, fun k hk _ => Below.heap_setCell A p v k (fun e => by subst e; rcases hk with hk | hk <;> first | exact h hk | omega)⟩
/-- what lay ahead of N alone matters -/
def Abd {α : Type} (N : Nat) (J : List α → World → Prop) : Prop := ∀ s A B, J s A → Below N A B → J s B
/-- the iterator's contract: it yields the list E in its order -/
def SeqB {α : Type} (P : Program) (g : Nat) (lb : Array Value) (encs : α → Array Value) (q : Nat → Prop) (E : List α) (w : World) : Prop :=
  ∀ (l : Nat) (J Jx : List α → World → Prop) (W : World), Below w.heap.size w W → Abd W.heap.size J → Abd W.heap.size Jx →
    (∀ pre x W1 m, pre ++ [x] <+: E → J pre W1 → W.heap.size ≤ W1.heap.size → YieldAt Fence.wide m P l (encs x) W1 fun e W' =>
      KB q W.heap.size W1 W' ∧ ((e = .returned (.bool true) ∧ J (pre ++ [x]) W') ∨ (e = .returned (.bool false) ∧ Jx (pre ++ [x]) W'))) →
    J [] W → ∀ m, CallsIn Fence.wide m P g (#[.func (.yield l) #[] #[]] ++ lb) W fun e W' => (∃ v, e = .returned v) ∧ (J E W' ∨ ∃ pre, pre <+: E ∧ Jx pre W')
theorem SeqB.later {α : Type} {P : Program} {g : Nat} {lb : Array Value} {encs : α → Array Value} {q : Nat → Prop} {E : List α} {w w' : World} (h : SeqB P g lb encs q E w) (hb : Below w.heap.size w w') : SeqB P g lb encs q E w' :=
  fun l J Jx W hW => h l J Jx W (hb.trans (hW.mono hb.size))

def postB {α : Type} (q : Nat → Prop) (N : Nat) (I : List α → World → Prop) (Ix : Code → List α → World → Prop) (xs : List α) (W : World) : Exit → Act → World → Prop
  | .normal, _, W' => KB q N W W' ∧ I xs W'
  | .ret, _, W' => KB q N W W' ∧ Ix .ret xs W'
  | .exit id, _, W' => KB q N W W' ∧ Ix (.exit id) xs W'
  | .goto t, _, W' => KB q N W W' ∧ Ix (.goto t) xs W'
  | .panic _, _, _ => False
  | .outgrown, _, _ => False

theorem round_any {m m' : Nat} {P : Program} {l : Nat} {f : FuncId} {tmps : Array Value} {assign body : Code} {w : World} {R : Ending → World → Prop} (h : RoundIn Fence.wide m P l f tmps assign body w R) : RoundIn Fence.wide m' P l f tmps assign body w R :=
  ⟨h.1, fun c cs _ => h.2 c cs (room_wide _)⟩
theorem below_putl {N : Nat} (W : World) (l : Nat) (o : Obj) (h : N ≤ l) : Below N W (W.putObj l o) :=
  ⟨rfl, rfl, rfl, by simp, fun k hk => World.putObj_heap_other (by omega)⟩
theorem kb_putl {q : Nat → Prop} {N l : Nat} {A B : World} {o o' : Obj} (h : KB q N A B) (hA : A.heap[l]? = some o) (hl : l < B.heap.size) (ho : o' = o) : KB q N A (B.putObj l o') := by
  subst ho
  refine ⟨by simpa using h.1, fun k hk hl' => ?_⟩
  by_cases e : k = l
  · subst e; rw [World.putObj_heap_same hl, hA]
  · rw [World.putObj_heap_other e]; exact h.2 k hk hl'

set_option maxHeartbeats 1000000 in
theorem range_below {P : Program} {n : Nat} {α : Type} {g : Operand} {ps : Array Tmp} {assign body : Code} {Q : Exit → Act → World → Prop} {a : Act} {w : World}
    {gf : Nat} {lb : Array Value} (hg : a.eval g = .func (.func gf) #[] lb) (eg : ∀ args w, (callFunc gf args).run P w = .ok (.enter gf args) w)
    {encs : α → Array Value} {q : Nat → Prop} {E : List α} {w0 : World} (hseq : SeqB P gf lb encs q E w0) (hb0 : Below w0.heap.size w0 w) (hq : ∀ k, q k → k < w.heap.size) (hps : ∀ x, (encs x).size = ps.size)
    (I : List α → World → Prop) (Ix : Code → List α → World → Prop) (hI : Abd w.heap.size I) (hIx : ∀ c, Abd w.heap.size (Ix c)) (h0 : I [] w) (hn : 1 ≤ n)
    (Ax : α → Act → World → Prop) (hAx : ∀ x a' X l o o', X.heap[l]? = some (.loop o) → Ax x a' X → Ax x a' (X.putObj l (.loop o')))
    (hassign : ∀ (l : Nat) (pre : List α) (x : α) (W : World) (K : Act → World → Prop), pre ++ [x] <+: E → I pre W → w.heap.size ≤ W.heap.size → (∀ a' W', Below W.heap.size W W' → Ax x a' W' → K a' W') →
      assign.wpIn (Fence.wide.inRound l) (n - 1 - 1) P (Exit.then K (fun _ _ _ => False)) { tmps := (ps.zip (encs x)).foldl (fun t (p, v) => t.setIfInBounds p v) a.tmps, defers := [] } W)
    (hbody : ∀ (l : Nat) (pre : List α) (x : α) (a' : Act) (W : World), w.heap.size ≤ l → (∃ r, W.heap[l]? = some (.loop r)) → pre ++ [x] <+: E → I pre W → Ax x a' W → w.heap.size ≤ W.heap.size → body.wpIn (Fence.wide.inRound l) (n - 1 - 1) P (postB q w.heap.size I Ix (pre ++ [x]) W) a' W)
    (hdone : ∀ (D : Nat) (W : World), w.heap.size ≤ D → I E W → W.heap[D]? = some (.deferred (some [])) → Q .normal { a with defers := { target := .collected D, args := #[] } :: a.defers } W)
    (hstop : ∀ (D : Nat) (c : Code) (pre : List α) (W : World), w.heap.size ≤ D → pre <+: E → Ix c pre W → W.heap[D]? = some (.deferred (some [])) → c.wpIn Fence.wide n P Q { a with defers := { target := .collected D, args := #[] } :: a.defers } W) :
    (Code.rangeFunc g ps assign body).wpIn Fence.wide n P Q a w := by
  refine wpIn_rangeFunc fun fn hfn => ?_
  have hro : Fence.wide.round = none := rfl
  rw [hro]
  let rec' : LoopState → Option Code → Loop := fun st pe => { state := st, pending := pe, fn, tmps := a.tmps, params := ps, assign, body, defers := w.heap.size }
  let V := (w.alloc (.deferred (some []))).alloc (.loop (rec' .ready none))
  have hs1 : V.heap.size = w.heap.size + 1 + 1 := by simp [V]
  have v1 : V.heap[w.heap.size + 1]? = some (.loop (rec' .ready none)) := by
    have := World.alloc_heap_new (w.alloc (.deferred (some []))) (.loop (rec' .ready none)); rwa [World.size_alloc] at this
  have v2 : V.heap[w.heap.size]? = some (.deferred (some [])) := (Below.heap_alloc _ _ _ (by simp)).trans (World.alloc_heap_new w _)
  have vb : Below w.heap.size w V := ((Below.refl _ w).alloc (Nat.le_refl _) _).alloc (by simp) _
  refine ⟨w.heap.size + 1, [{ target := .collected w.heap.size, args := #[] }], V, { target := .fn (.func gf) lb, args := #[.func (.yield (w.heap.size + 1)) #[] #[]] }, V, gf,
    #[.func (.yield (w.heap.size + 1)) #[] #[]] ++ lb, V, run_enterLoop_outer _ _ _ _ _, ?_, ?_, ?_, fun _ => hn, ?_⟩
  · simp only [resolve, hg]
    simp [go_sem]
  · intro f' _; trivial
  · simp [invoke, go_sem, eg]
  have mine : ∀ {A B : World}, Below V.heap.size A B → Below w.heap.size A B := fun h => h.mono (by omega)
  refine (hseq (w.heap.size + 1)
    (fun pre W => I pre W ∧ W.heap[w.heap.size + 1]? = some (.loop (rec' .ready none)) ∧ W.heap[w.heap.size]? = some (.deferred (some [])))
    (fun pre W => ∃ c, Ix c pre W ∧ W.heap[w.heap.size + 1]? = some (.loop (rec' .done (some c))) ∧ W.heap[w.heap.size]? = some (.deferred (some [])))
    V (hb0.trans (vb.mono hb0.size))
    (fun s A B h hb => ⟨hI s A B h.1 (mine hb), (hb.block _ (by omega)).trans h.2.1, (hb.block _ (by omega)).trans h.2.2⟩)
    (fun s A B h hb => by obtain ⟨c, h1, h2, h3⟩ := h; exact ⟨c, hIx c s A B h1 (mine hb), (hb.block _ (by omega)).trans h2, (hb.block _ (by omega)).trans h3⟩)
    ?_ ⟨hI _ _ _ h0 vb, v1, v2⟩ (n - 1)).mono ?_
  · rintro pre x W m hpre ⟨hi, hl, hk⟩ hsz
    have hy := run_yield (P := P) (args := encs x) hl (hps x)
    refine ⟨fn, _, assign, body, hy, round_any (m := n - 1 - 1) (roundIn_of_wpIn trivial (hassign _ pre x W _ hpre hi (by omega) ?_))⟩
    intro a' U hu hax
    have hU : w.heap.size + 1 < W.heap.size := by omega
    have ul := (hu.block _ hU).trans hl
    have uk := (hu.block w.heap.size (by omega)).trans hk
    have us := hu.size
    refine ⟨_, run_beginRound ul rfl, ?_⟩
    have bl : (U.putObj (w.heap.size + 1) (.loop { rec' .ready none with state := .busy })).heap[w.heap.size + 1]? = some (.loop { rec' .ready none with state := .busy }) := World.putObj_heap_same (by omega)
    have bk : (U.putObj (w.heap.size + 1) (.loop { rec' .ready none with state := .busy })).heap[w.heap.size]? = some (.deferred (some [])) := (World.putObj_heap_other (by omega)).trans uk
    refine wpIn_mono (hbody _ pre x a' _ (by omega) ⟨_, bl⟩ hpre (hI _ _ _ (hI _ _ _ hi (hu.mono (by omega))) (below_putl U _ _ (by omega))) (hAx x a' U _ _ _ ul hax) (by simp; omega)) ?_
    have fin : ∀ (jump : Option Code) (X : World), KB q w.heap.size (U.putObj (w.heap.size + 1) (.loop { rec' .ready none with state := .busy })) X →
        (Instr.endRound (w.heap.size + 1) jump).run P X = .ok (.bool jump.isNone) (X.putObj (w.heap.size + 1) (.loop (rec' (if jump.isNone then .ready else .done) jump))) ∧
        (X.putObj (w.heap.size + 1) (.loop (rec' (if jump.isNone then .ready else .done) jump))).heap[w.heap.size + 1]? = some (.loop (rec' (if jump.isNone then .ready else .done) jump)) ∧
        (X.putObj (w.heap.size + 1) (.loop (rec' (if jump.isNone then .ready else .done) jump))).heap[w.heap.size]? = some (.deferred (some [])) ∧
        KB q V.heap.size W (X.putObj (w.heap.size + 1) (.loop (rec' (if jump.isNone then .ready else .done) jump))) := fun jump X hX => by
      have xs := hX.1
      rw [World.putObj_size] at xs
      have xl := (hX.2 (w.heap.size + 1) (.inr (by omega)) (by simp; omega)).trans bl
      have xk := (hX.2 w.heap.size (.inr (Nat.le_refl _)) (by simp; omega)).trans bk
      refine ⟨run_endRound (P := P) jump xl, World.putObj_heap_same (by omega), (World.putObj_heap_other (by omega)).trans xk, by simp; omega, fun k hk2 hkl => ?_⟩
      by_cases e : k = w.heap.size + 1
      · exact absurd hk2 (by rintro (h | h) <;> first | omega | (have := hq k h; omega))
      · rw [World.putObj_heap_other e]
        refine (hX.2 k (hk2.imp id (fun h => by omega)) (by simp; omega)).trans ?_
        rw [World.putObj_heap_other e]
        exact hu.block k hkl
    rintro e a3 X hp
    cases e with
    | normal =>
      obtain ⟨hX, hi3⟩ := hp
      obtain ⟨hr, h1, h2, h3⟩ := fin none X hX
      exact ⟨_, _, hr, h3, .inl ⟨rfl, hI _ _ _ hi3 (below_putl _ _ _ (by omega)), h1, h2⟩⟩
    | ret =>
      obtain ⟨hX, hi3⟩ := hp
      obtain ⟨hr, h1, h2, h3⟩ := fin (some .ret) X hX
      exact ⟨_, _, hr, h3, .inr ⟨rfl, .ret, hIx _ _ _ _ hi3 (below_putl _ _ _ (by omega)), h1, h2⟩⟩
    | exit id =>
      obtain ⟨hX, hi3⟩ := hp
      obtain ⟨hr, h1, h2, h3⟩ := fin (some (.exit id)) X hX
      exact ⟨_, _, hr, h3, .inr ⟨rfl, .exit id, hIx _ _ _ _ hi3 (below_putl _ _ _ (by omega)), h1, h2⟩⟩
    | goto t =>
      obtain ⟨hX, hi3⟩ := hp
      obtain ⟨hr, h1, h2, h3⟩ := fin (some (.goto t)) X hX
      exact ⟨_, _, hr, h3, .inr ⟨rfl, .goto t, hIx _ _ _ _ hi3 (below_putl _ _ _ (by omega)), h1, h2⟩⟩
    | panic ch => exact hp.elim
    | outgrown => exact hp.elim
  · rintro e X ⟨⟨v, rfl⟩, (⟨hi, hl, hk⟩ | ⟨pre, hpre, c, hi, hl, hk⟩)⟩
    · exact ⟨none, _, run_endLoop (P := P) hl (by simp [rec']), hdone _ _ (Nat.le_refl _) (hI _ _ _ hi (below_putl _ _ _ (by omega))) ((World.putObj_heap_other (by omega)).trans hk)⟩
    · exact ⟨some c, _, run_endLoop (P := P) hl (by simp [rec']), hstop _ c pre _ (Nat.le_refl _) hpre (hIx c _ _ _ hi (below_putl _ _ _ (by omega))) ((World.putObj_heap_other (by omega)).trans hk)⟩

end Go.Proofs.YtkdnanlgkedjgabDoor
