/- Layer 17, plain: a past, and what the calls make of it. · A region that draws its order, within a round of a loop over an iterator: the walk outside a round serves. -/
import Derived.Test.YthifdfjpfmhcpaaMg08
import Derived.Test.YthifdfjpfmhcpaaMg06
import Derived.Deep.RegionHeld

section
namespace Go.Proofs.Ythifdfjpfmhcpaa

/-- a past: its state, its most, the steps back and again (the nearest one last), the open group -/
structure Pa (α : Type) where
  s : α
  m : Int
  b : List (α × ByteArray)
  a : List (α × ByteArray)
  o : Option ((α × ByteArray) × Bool)
section
variable {α : Type}
def keepP (m : Int) (b : List (α × ByteArray)) (x : α × ByteArray) : List (α × ByteArray) := if (b.length : Int) + 1 > m then (b ++ [x]).drop 1 else b ++ [x]
theorem keepP_len (m : Int) (b : List (α × ByteArray)) (x : α × ByteArray) (h : (b.length : Int) ≤ m) : ((keepP m b x).length : Int) ≤ m := by
  unfold keepP
  split
  · rw [List.length_drop, List.length_append]; simp; omega
  · rw [List.length_append]; simp; omega
def doP (p : Pa α) (x : α) (w : ByteArray) : Pa α :=
  match p.o with
  | none => { p with s := x, b := keepP p.m p.b (p.s, w), a := [] }
  | some (y, _) => { p with s := x, a := [], o := some (y, true) }
/-- a step is taken over from one list to the other -/
def undoP (p : Pa α) : Pa α × Option (α × ByteArray) × Int :=
  match p.o with
  | some _ => (p, none, 171)
  | none => match p.b.getLast? with
    | none => (p, none, 170)
    | some x => ({ p with s := x.1, b := p.b.dropLast, a := p.a ++ [(p.s, x.2)] }, some x, 0)
def redoP (p : Pa α) : Pa α × Option (α × ByteArray) × Int :=
  match p.o with
  | some _ => (p, none, 171)
  | none => match p.a.getLast? with
    | none => (p, none, 170)
    | some x => ({ p with s := x.1, a := p.a.dropLast, b := p.b ++ [(p.s, x.2)] }, some x, 0)
def beginP (p : Pa α) (w : ByteArray) : Pa α × Int :=
  match p.o with
  | some _ => (p, 171)
  | none => ({ p with o := some ((p.s, w), false) }, 0)
def endP (p : Pa α) : Pa α × Int :=
  match p.o with
  | none => (p, 171)
  | some (x, d) => ({ p with o := none, b := if d then keepP p.m p.b x else p.b }, 0)
def forgetP (p : Pa α) : Pa α × Int :=
  match p.o with
  | some _ => (p, 171)
  | none => ({ p with a := [], b := [] }, 0)
/-- what holds of a past at all times -/
structure OkP (p : Pa α) : Prop where
  m0 : 0 ≤ p.m
  m1 : p.m ≤ 4096
  l : (p.b.length : Int) + p.a.length ≤ p.m
  g : ∀ x, p.o = some (x, true) → p.a = []
theorem OkP.new (x : α) (m : Int) (h0 : 0 ≤ m) (h1 : m ≤ 4096) : OkP ⟨x, m, [], [], none⟩ := ⟨h0, h1, by simpa using h0, fun _ h => by cases h⟩
theorem OkP.do {p : Pa α} (h : OkP p) (x : α) (w : ByteArray) : OkP (doP p x w) := by
  have h1 := h.l
  unfold doP
  split
  · rename_i ho
    refine ⟨h.m0, h.m1, ?_, fun y hy => rfl⟩
    have := keepP_len p.m p.b (p.s, w) (by omega)
    simpa using this
  · exact ⟨h.m0, h.m1, by simp; omega, fun _ _ => rfl⟩
theorem OkP.undo {p : Pa α} (h : OkP p) : OkP (undoP p).1 := by
  have h1 := h.l
  unfold undoP
  split
  · exact h
  · split
    · exact h
    · rename_i ho _ x hx
      have hne : p.b ≠ [] := by intro e; rw [e] at hx; cases hx
      have hp : 0 < p.b.length := List.length_pos_iff.2 hne
      refine ⟨h.m0, h.m1, ?_, fun y hy => ?_⟩
      · simp only [List.length_dropLast, List.length_append, List.length_cons, List.length_nil]; omega
      · dsimp only at hy; rw [ho] at hy; cases hy
theorem OkP.redo {p : Pa α} (h : OkP p) : OkP (redoP p).1 := by
  have h1 := h.l
  unfold redoP
  split
  · exact h
  · split
    · exact h
    · rename_i ho _ x hx
      have hne : p.a ≠ [] := by intro e; rw [e] at hx; cases hx
      have hp : 0 < p.a.length := List.length_pos_iff.2 hne
      refine ⟨h.m0, h.m1, ?_, fun y hy => ?_⟩
      · simp only [List.length_dropLast, List.length_append, List.length_cons, List.length_nil]; omega
      · dsimp only at hy; rw [ho] at hy; cases hy
theorem OkP.begin {p : Pa α} (h : OkP p) (w : ByteArray) : OkP (beginP p w).1 := by
  unfold beginP
  split
  · exact h
  · exact ⟨h.m0, h.m1, h.l, fun y hy => by cases hy⟩
theorem OkP.ends {p : Pa α} (h : OkP p) : OkP (endP p).1 := by
  have h1 := h.l
  unfold endP
  split
  · exact h
  · rename_i x d ho
    refine ⟨h.m0, h.m1, ?_, fun y hy => by cases hy⟩
    dsimp only
    cases d with
    | false => exact h1
    | true =>
      have ha := h.g x ho
      have := keepP_len p.m p.b x (by omega)
      simp only [if_true, ha]
      simpa using this
theorem OkP.forget {p : Pa α} (h : OkP p) : OkP (forgetP p).1 := by
  unfold forgetP
  split
  · exact h
  · exact ⟨h.m0, h.m1, by simpa using h.m0, fun y hy => rfl⟩
theorem OkP.bl {p : Pa α} (h : OkP p) : p.b.length ≤ 4096 := by have := h.l; have := h.m1; omega
theorem OkP.al {p : Pa α} (h : OkP p) : p.a.length ≤ 4096 := by have := h.l; have := h.m1; omega
end
/-- a step as cells lies in lists of steps -/
theorem fm_len {α β : Type} (f : α → List β) (s : Nat) (hf : ∀ x, (f x).length = s) : ∀ l : List α, (l.flatMap f).length = l.length * s
  | [] => by simp
  | x :: r => by rw [List.flatMap_cons, List.length_append, hf, fm_len f s hf r, List.length_cons, Nat.add_mul]; omega
theorem fm_get {α β : Type} (f : α → List β) (s : Nat) (hf : ∀ x, (f x).length = s) : ∀ (l : List α) (i j : Nat) (hi : i < l.length), j < s → (l.flatMap f)[i * s + j]? = (f l[i])[j]?
  | [], i, j, hi, _ => absurd hi (by simp)
  | x :: r, 0, j, _, hj => by
    rw [List.flatMap_cons, Nat.zero_mul, Nat.zero_add, List.getElem?_append_left (by rw [hf]; exact hj)]; rfl
  | x :: r, i + 1, j, hi, hj => by
    rw [List.flatMap_cons, List.getElem?_append_right (by rw [hf, Nat.add_mul]; omega), hf, show (i + 1) * s + j - s = i * s + j by rw [Nat.add_mul]; omega]
    exact fm_get f s hf r i j (by simpa using hi) hj
theorem fm_drop {α β : Type} (f : α → List β) (s : Nat) (hf : ∀ x, (f x).length = s) (l : List α) : (l.flatMap f).drop s = (l.drop 1).flatMap f := by
  cases l with
  | nil => simp
  | cons x r =>
    rw [List.flatMap_cons, ← hf x, List.drop_left]; rfl
theorem fm_take {α β : Type} (f : α → List β) (s : Nat) (hf : ∀ x, (f x).length = s) : ∀ (n : Nat) (l : List α), (l.flatMap f).take (n * s) = (l.take n).flatMap f
  | 0, l => by simp
  | n + 1, [] => by simp
  | n + 1, x :: r => by
    rw [List.flatMap_cons, List.take_succ_cons, List.flatMap_cons, List.take_append, hf, show (n + 1) * s - s = n * s by rw [Nat.add_mul]; omega, fm_take f s hf n r, List.take_of_length_le (by rw [hf, Nat.add_mul]; omega)]
/-- no two of them share a block -/
structure DJ (g : Nat) (kb ka ko : Option Nat) : Prop where
  gb : kb ≠ some g
  ga : ka ≠ some g
  go : ko ≠ some g
  ba : ∀ h, kb = some h → ka ≠ some h
  bo : ∀ h, kb = some h → ko ≠ some h
  ao : ∀ h, ka = some h → ko ≠ some h
/-- the blocks of a past -/
def FO (g : Nat) (kb ka ko : Option Nat) (h : Nat) : Prop := h = g ∨ kb = some h ∨ ka = some h ∨ ko = some h
/-- from F in X to G in Y: nothing else was changed, what is new is new -/
structure Gr (F : Nat → Prop) (X : World) (G : Nat → Prop) (Y : World) : Prop where
  kp : KpF F X Y
  new : ∀ k, G k → F k ∨ X.heap.size ≤ k
theorem Gr.refl (F : Nat → Prop) (X : World) : Gr F X F X := ⟨KpF.refl F X, fun _ h => .inl h⟩
theorem Gr.trans {F G H : Nat → Prop} {X Y Z : World} (h : Gr F X G Y) (k : Gr G Y H Z) : Gr F X H Z := by
  refine ⟨h.kp.trans k.kp (fun i hi hG => ?_), fun i hH => ?_⟩
  · rcases h.new i hG with h1 | h1
    · exact h1
    · omega
  · rcases k.new i hH with h1 | h1
    · exact h.new i h1
    · exact .inr (Nat.le_trans h.kp.size h1)
theorem Gr.out {F G : Nat → Prop} {X Y : World} (h : Gr F X G Y) {k : Nat} (hk : k < X.heap.size) (hF : ¬ F k) : ¬ G k := fun hG => by
  rcases h.new k hG with h1 | h1
  · exact hF h1
  · omega
/-- a new block, that is none of the past's -/
theorem Gr.keepOut {F G : Nat → Prop} {X Y : World} (h : Gr F X G Y) {k : Nat} (hF : ¬ F k) (hk : k < X.heap.size) : ¬ G k := h.out hk hF
theorem Gr.lo {F G : Nat → Prop} {X Y : World} {B : Nat} (h : Gr F X G Y) (hB : B ≤ X.heap.size) (hF : ∀ k, F k → B ≤ k) : ∀ k, G k → B ≤ k := fun k hG => by
  rcases h.new k hG with h1 | h1
  · exact hF k h1
  · omega
theorem kpf_drew (Z : World) : KpF (fun _ => False) Z Z.drew := ⟨rfl, rfl, rfl, Nat.le_refl _, fun _ _ _ => rfl⟩
theorem clsInj {X : World} {g : Nat} {t t' : TypeId} {a b : Array Value} (h : Cls X g t a) (h' : Cls X g t' b) : a = b := by
  have := h.symm.trans h'
  injection this with this
  injection this
end Go.Proofs.Ythifdfjpfmhcpaa
end

section
namespace Go.Proofs.Ythifdfjpfmhcpaa
open Go.ChangeShapes Go.WideShapes Go.ChangeAt Go.RowKit

theorem oper_in {P : Program} {l n : Nat} {o : Oper} {a : Act} {w : World} {K : Act → World → Prop} {Q : Exit → Act → World → Prop} (hd : ∀ c, o.op ≠ .defer c) (h : o.wp P a w K Q) : o.wpIn (Fence.wide.inRound l) n P a w K Q := by
  refine ⟨fun _ _ => trivial, ?_⟩
  rw [Oper.semAt_eq _ _ _ hd]
  unfold Oper.wp at h
  generalize (execOp a.eval o).run P w = r at h
  cases r with
  | ok x w' =>
    cases x with
    | value v => exact h
    | skip => exact h
    | defer d => exact h
    | enter f args => exact ⟨(fun e => by cases e), CallsIn.inRound l (callsIn_wide.2 h)⟩
    | row row args =>
      refine ⟨(fun e => by cases e), fun c cs _ => ?_⟩
      obtain ⟨v, w', hr, hs⟩ := h c cs
      exact ⟨v, w', hr, stepsIn_wide.2 hs⟩
    | _ => exact h.elim
  | halt x w' =>
    cases x with
    | panic v => exact h
    | _ => exact h.elim

theorem op_in {P : Program} {ops : Array Oper} {l n i : Nat} {a : Act} {w : World} {K : Act → World → Prop} {Q : Exit → Act → World → Prop} (hd : ∀ (j : Nat) (o : Oper) c, ops[j]? = some o → o.op ≠ .defer c) (hq : ¬ LetsOut Q)
    (h : wpOp P ops Q i K a w) : wpOpIn (Fence.wide.inRound l) n P ops Q i K a w := by
  unfold wpOp at h
  unfold wpOpIn
  cases ho : ops[i]? with
  | none => rw [ho] at h; exact h
  | some o =>
    rw [ho] at h
    simp only at h ⊢
    split at h
    · rename_i hw
      rw [if_pos hw]
      rcases h with h | h
      · exact oper_in (fun c => hd i o c ho) h
      · exact absurd h.2 hq
    · rename_i hw
      rw [if_neg hw]
      exact ⟨fun _ _ => trivial, h⟩

theorem any_in {P : Program} {md : Region.Mode} {ops : Array Oper} {l n : Nat} {Q : Exit → Act → World → Prop} (hd : ∀ (j : Nat) (o : Oper) c, ops[j]? = some o → o.op ≠ .defer c) (hq : ¬ LetsOut Q) :
    ∀ (fuel : Nat) (listed : Array Bool) (a : Act) (w : World), wpAny P md ops Q fuel listed a w → wpAnyIn (Fence.wide.inRound l) n P md ops Q fuel listed a w
  | 0, _, _, _, h => h
  | fuel + 1, _, _, _, h => ⟨h.1, fun i hi => wpOpIn_mono (fun a w => any_in hd hq fuel _ a w) (op_in hd hq (h.2 i hi))⟩

/-- the beginning, within a round -/
theorem region_in {P : Program} {ops : Array Oper} {l n id : Nat} {a : Act} {w : World} {Q : Exit → Act → World → Prop} {S : World → Prop} (hm : P.follows .mixedOrders = true) (hd : ∀ (j : Nat) (o : Oper) c, ops[j]? = some o → o.op ≠ .defer c) (hq : ¬ LetsOut Q)
    (hS : S w.drew) (h : S w.drew → wpAnyH P .any ops Q S ops.size (Array.replicate ops.size false) a w.drew) : (Code.region id ops true).wpIn (Fence.wide.inRound l) n P Q a w :=
  wpIn_region_any hm (any_in hd hq _ _ _ _ (wpAny_of_held _ _ _ _ (h hS)))

theorem step_append_in {P : Program} {ops : Array Oper} {o : Oper} {a : Act} {w : World} {K : Act → World → Prop} {Q : Exit → Act → World → Prop} {E : Prop} (hw : Region.wanted o (yielded ops a.tmps) = true) (s x : Operand) (t tx : TypeId)
    (ho : o.op = .call { callee := .builtin .append, args := #[s, x], argTypes := #[t, tx] }) (v u : Value) (hs : a.eval s = v) (hx : a.eval x = u) (v' : Value) (w' : World)
    (hr : (Builtin.append_ #[t, tx] o.type #[v, u]).run P w = .ok v' w') (h : K (a.put o.dst v') w') : if Region.wanted o (yielded ops a.tmps) = true then Oper.wp P o a w K Q else E := by
  rw [if_pos hw]
  unfold Oper.wp execOp
  simp only [ho, resolve, invoke, builtin, Sem.run_bind, Sem.run_pure, Result.andThen_ok, List.map_toArray, List.map_cons, List.map_nil, hs, hx, hr]
  exact h

end Go.Proofs.Ythifdfjpfmhcpaa
end
