/- Layer 17, plain: a past, and what the calls make of it. · Layer 17: lists of words of one's own. · Layer 17: lists appended to lists, cut; lists of numbers of one's own. -/
import Derived.Test.YtdemfejladepjaaMg05
import Derived.Laws.MakeOwn
import Derived.Deep.AppendSrc

section
namespace Go.Proofs.Ytdemfejladepjaa

/-- a past: its state, its most, the steps back and again (the nearest one last), the open group -/
structure Pa (α : Type) where
  s : α
  m : Int
  b : List (α × ByteArray)
  a : List (α × ByteArray)
  o : Option ((α × ByteArray) × Bool)
section
variable {α : Type}
def keepP (m : Int) (b : List (α × ByteArray)) (x : α × ByteArray) : List (α × ByteArray) := if (b.length : Int) + 1 > m then (b ++ [x]).drop 1 else b ++ [x]
theorem keepP_len (m : Int) (b : List (α × ByteArray)) (x : α × ByteArray) (h : (b.length : Int) ≤ m) : ((keepP m b x).length : Int) ≤ m := by
  unfold keepP
  split
  · rw [List.length_drop, List.length_append]; simp; omega
  · rw [List.length_append]; simp; omega
def doP (p : Pa α) (x : α) (w : ByteArray) : Pa α :=
  match p.o with
  | none => { p with s := x, b := keepP p.m p.b (p.s, w), a := [] }
  | some (y, _) => { p with s := x, a := [], o := some (y, true) }
/-- a step is taken over from one list to the other -/
def undoP (p : Pa α) : Pa α × Option (α × ByteArray) × Int :=
  match p.o with
  | some _ => (p, none, 171)
  | none => match p.b.getLast? with
    | none => (p, none, 170)
    | some x => ({ p with s := x.1, b := p.b.dropLast, a := p.a ++ [(p.s, x.2)] }, some x, 0)
def redoP (p : Pa α) : Pa α × Option (α × ByteArray) × Int :=
  match p.o with
  | some _ => (p, none, 171)
  | none => match p.a.getLast? with
    | none => (p, none, 170)
    | some x => ({ p with s := x.1, a := p.a.dropLast, b := p.b ++ [(p.s, x.2)] }, some x, 0)
def beginP (p : Pa α) (w : ByteArray) : Pa α × Int :=
  match p.o with
  | some _ => (p, 171)
  | none => ({ p with o := some ((p.s, w), false) }, 0)
def endP (p : Pa α) : Pa α × Int :=
  match p.o with
  | none => (p, 171)
  | some (x, d) => ({ p with o := none, b := if d then keepP p.m p.b x else p.b }, 0)
def forgetP (p : Pa α) : Pa α × Int :=
  match p.o with
  | some _ => (p, 171)
  | none => ({ p with a := [], b := [] }, 0)
/-- what holds of a past at all times -/
structure OkP (p : Pa α) : Prop where
  m0 : 0 ≤ p.m
  m1 : p.m ≤ 4096
  l : (p.b.length : Int) + p.a.length ≤ p.m
  g : ∀ x, p.o = some (x, true) → p.a = []
theorem OkP.new (x : α) (m : Int) (h0 : 0 ≤ m) (h1 : m ≤ 4096) : OkP ⟨x, m, [], [], none⟩ := ⟨h0, h1, by simpa using h0, fun _ h => by cases h⟩
theorem OkP.do {p : Pa α} (h : OkP p) (x : α) (w : ByteArray) : OkP (doP p x w) := by
  have h1 := h.l
  unfold doP
  split
  · rename_i ho
    refine ⟨h.m0, h.m1, ?_, fun y hy => rfl⟩
    have := keepP_len p.m p.b (p.s, w) (by omega)
    simpa using this
  · exact ⟨h.m0, h.m1, by simp; omega, fun _ _ => rfl⟩
theorem OkP.undo {p : Pa α} (h : OkP p) : OkP (undoP p).1 := by
  have h1 := h.l
  unfold undoP
  split
  · exact h
  · split
    · exact h
    · rename_i ho _ x hx
      have hne : p.b ≠ [] := by intro e; rw [e] at hx; cases hx
      have hp : 0 < p.b.length := List.length_pos_iff.2 hne
      refine ⟨h.m0, h.m1, ?_, fun y hy => ?_⟩
      · simp only [List.length_dropLast, List.length_append, List.length_cons, List.length_nil]; omega
      · dsimp only at hy; rw [ho] at hy; cases hy
theorem OkP.redo {p : Pa α} (h : OkP p) : OkP (redoP p).1 := by
  have h1 := h.l
  unfold redoP
  split
  · exact h
  · split
    · exact h
    · rename_i ho _ x hx
      have hne : p.a ≠ [] := by intro e; rw [e] at hx; cases hx
      have hp : 0 < p.a.length := List.length_pos_iff.2 hne
      refine ⟨h.m0, h.m1, ?_, fun y hy => ?_⟩
      · simp only [List.length_dropLast, List.length_append, List.length_cons, List.length_nil]; omega
      · dsimp only at hy; rw [ho] at hy; cases hy
theorem OkP.begin {p : Pa α} (h : OkP p) (w : ByteArray) : OkP (beginP p w).1 := by
  unfold beginP
  split
  · exact h
  · exact ⟨h.m0, h.m1, h.l, fun y hy => by cases hy⟩
theorem OkP.ends {p : Pa α} (h : OkP p) : OkP (endP p).1 := by
  have h1 := h.l
  unfold endP
  split
  · exact h
  · rename_i x d ho
    refine ⟨h.m0, h.m1, ?_, fun y hy => by cases hy⟩
    dsimp only
    cases d with
    | false => exact h1
    | true =>
      have ha := h.g x ho
      have := keepP_len p.m p.b x (by omega)
      simp only [if_true, ha]
      simpa using this
theorem OkP.forget {p : Pa α} (h : OkP p) : OkP (forgetP p).1 := by
  unfold forgetP
  split
  · exact h
  · exact ⟨h.m0, h.m1, by simpa using h.m0, fun y hy => rfl⟩
theorem OkP.bl {p : Pa α} (h : OkP p) : p.b.length ≤ 4096 := by have := h.l; have := h.m1; omega
theorem OkP.al {p : Pa α} (h : OkP p) : p.a.length ≤ 4096 := by have := h.l; have := h.m1; omega
end
/-- a step as cells lies in lists of steps -/
theorem fm_len {α β : Type} (f : α → List β) (s : Nat) (hf : ∀ x, (f x).length = s) : ∀ l : List α, (l.flatMap f).length = l.length * s
  | [] => by simp
  | x :: r => by rw [List.flatMap_cons, List.length_append, hf, fm_len f s hf r, List.length_cons, Nat.add_mul]; omega
theorem fm_get {α β : Type} (f : α → List β) (s : Nat) (hf : ∀ x, (f x).length = s) : ∀ (l : List α) (i j : Nat) (hi : i < l.length), j < s → (l.flatMap f)[i * s + j]? = (f l[i])[j]?
  | [], i, j, hi, _ => absurd hi (by simp)
  | x :: r, 0, j, _, hj => by
    rw [List.flatMap_cons, Nat.zero_mul, Nat.zero_add, List.getElem?_append_left (by rw [hf]; exact hj)]; rfl
  | x :: r, i + 1, j, hi, hj => by
    rw [List.flatMap_cons, List.getElem?_append_right (by rw [hf, Nat.add_mul]; omega), hf, show (i + 1) * s + j - s = i * s + j by rw [Nat.add_mul]; omega]
    exact fm_get f s hf r i j (by simpa using hi) hj
theorem fm_drop {α β : Type} (f : α → List β) (s : Nat) (hf : ∀ x, (f x).length = s) (l : List α) : (l.flatMap f).drop s = (l.drop 1).flatMap f := by
  cases l with
  | nil => simp
  | cons x r =>
    rw [List.flatMap_cons, ← hf x, List.drop_left]; rfl
theorem fm_take {α β : Type} (f : α → List β) (s : Nat) (hf : ∀ x, (f x).length = s) : ∀ (n : Nat) (l : List α), (l.flatMap f).take (n * s) = (l.take n).flatMap f
  | 0, l => by simp
  | n + 1, [] => by simp
  | n + 1, x :: r => by
    rw [List.flatMap_cons, List.take_succ_cons, List.flatMap_cons, List.take_append, hf, show (n + 1) * s - s = n * s by rw [Nat.add_mul]; omega, fm_take f s hf n r, List.take_of_length_le (by rw [hf, Nat.add_mul]; omega)]
/-- no two of them share a block -/
structure DJ (g : Nat) (kb ka ko : Option Nat) : Prop where
  gb : kb ≠ some g
  ga : ka ≠ some g
  go : ko ≠ some g
  ba : ∀ h, kb = some h → ka ≠ some h
  bo : ∀ h, kb = some h → ko ≠ some h
  ao : ∀ h, ka = some h → ko ≠ some h
/-- the blocks of a past -/
def FO (g : Nat) (kb ka ko : Option Nat) (h : Nat) : Prop := h = g ∨ kb = some h ∨ ka = some h ∨ ko = some h
/-- from F in X to G in Y: nothing else was changed, what is new is new -/
structure Gr (F : Nat → Prop) (X : World) (G : Nat → Prop) (Y : World) : Prop where
  kp : KpF F X Y
  new : ∀ k, G k → F k ∨ X.heap.size ≤ k
theorem Gr.refl (F : Nat → Prop) (X : World) : Gr F X F X := ⟨KpF.refl F X, fun _ h => .inl h⟩
theorem Gr.trans {F G H : Nat → Prop} {X Y Z : World} (h : Gr F X G Y) (k : Gr G Y H Z) : Gr F X H Z := by
  refine ⟨h.kp.trans k.kp (fun i hi hG => ?_), fun i hH => ?_⟩
  · rcases h.new i hG with h1 | h1
    · exact h1
    · omega
  · rcases k.new i hH with h1 | h1
    · exact h.new i h1
    · exact .inr (Nat.le_trans h.kp.size h1)
theorem Gr.out {F G : Nat → Prop} {X Y : World} (h : Gr F X G Y) {k : Nat} (hk : k < X.heap.size) (hF : ¬ F k) : ¬ G k := fun hG => by
  rcases h.new k hG with h1 | h1
  · exact hF h1
  · omega
/-- a new block, that is none of the past's -/
theorem Gr.keepOut {F G : Nat → Prop} {X Y : World} (h : Gr F X G Y) {k : Nat} (hF : ¬ F k) (hk : k < X.heap.size) : ¬ G k := h.out hk hF
theorem Gr.lo {F G : Nat → Prop} {X Y : World} {B : Nat} (h : Gr F X G Y) (hB : B ≤ X.heap.size) (hF : ∀ k, F k → B ≤ k) : ∀ k, G k → B ≤ k := fun k hG => by
  rcases h.new k hG with h1 | h1
  · exact hF k h1
  · omega
theorem kpf_drew (Z : World) : KpF (fun _ => False) Z Z.drew := ⟨rfl, rfl, rfl, Nat.le_refl _, fun _ _ _ => rfl⟩
theorem clsInj {X : World} {g : Nat} {t t' : TypeId} {a b : Array Value} (h : Cls X g t a) (h' : Cls X g t' b) : a = b := by
  have := h.symm.trans h'
  injection this with this
  injection this
end Go.Proofs.Ytdemfejladepjaa
end

section
namespace Go.Proofs.Ytdemfejladepjaa
open Go.ChangeShapes Go.WideShapes Go.ChangeAt Go.RowKit

theorem RA.ofOwn {X : World} {B s n : Nat} {e : TypeId} {v : Value} {xs : List Value} (h : X.ownsRow B e s v n xs) : ∃ k, RA X s v n xs k ∧ ∀ g, k = some g → B ≤ g := by
  rcases h.2 with ⟨e1, e2⟩ | ⟨g, cap, cur, e1, hb, hg, hn, hm, hs, ht⟩
  · exact ⟨none, ⟨h.1, .inl ⟨e1, e2, rfl⟩⟩, fun _ e => by cases e⟩
  · refine ⟨some g, ⟨h.1, .inr ⟨g, 0, cap, e1, rfl, (Array.getElem?_eq_some_iff.1 hg).1, hn, fun j hj => ⟨?_, ?_⟩, fun j hj => ?_⟩⟩, fun i e => by cases e; exact hb⟩
    · simp only [World.cell?, hg, Nat.zero_add]
      rw [Array.getElem?_eq_getElem (by omega)]; rfl
    · simp only [World.frozen?]; rw [hg]; simp
    · simp only [World.cell?, hg, Nat.zero_add]
      rw [← ht, List.getElem?_take_of_lt hj]
      simp
theorem idx_lt {i n s j : Nat} (hj : j < s) (hi : i < n) : i * s + j < n * s := by
  have : (i + 1) * s ≤ n * s := Nat.mul_le_mul_right s hi
  rw [Nat.add_mul] at this
  omega
/-- a list of words -/
def RS (X : World) (v : Value) (l : List ByteArray) (k : Option Nat) : Prop := RA X 1 v l.length (l.map Value.string) k
set_option maxRecDepth 100000 in
theorem pushW {X : World} {v : Value} {l : List ByteArray} {k : Option Nat} (h : RS X v l k) (w : ByteArray) (hn : l.length ≤ 1000000) :
    ∃ v' Y k', (Builtin.append_ #[51, 51] 51 #[v, .slice (some ⟨X.heap.size, 0, none⟩) 1 1]).run Try.prog (X.alloc (.cells #[.string w] 9)) = .ok v' Y ∧ RS Y v' (l ++ [w]) k' ∧
      KpF (fun b => k = some b) X Y ∧ (k' = k ∧ k ≠ none ∨ ∃ h, k' = some h ∧ X.heap.size ≤ h) := by
  have h1 := RA.allocd h (.cells #[.string w] 9)
  obtain ⟨v', Y, k', hr, h2, h3, h4⟩ := h1.push (P := Try.prog) 51 51 9 _ _ 16 Try.underlying51 rfl rfl rfl rfl rfl ⟨X.heap.size, 0, none⟩ 1 [.string w] rfl (fun j u hj => by
      rw [Addr.add_lit, Nat.zero_add]
      refine (World.cell?_alloc_mark X _ _ (0, 0) j).trans ?_
      rw [List.getElem?_toArray]; exact hj) (fun u hu => by
      simp only [List.mem_cons, List.not_mem_nil, or_false] at hu
      rcases hu with rfl <;> rfl) (by omega) (by omega)
  refine ⟨v', Y, k', hr, ?_, ((KpF.alloc _ X _).trans h3 (fun _ _ e => e)), ?_⟩
  · unfold RS
    rw [List.map_append, List.length_append]
    exact h2
  · rcases h4 with h4 | h4
    · exact .inl h4
    · exact .inr ⟨_, h4, by simp⟩
set_option maxRecDepth 100000 in
theorem makeW (X : World) (c : Nat) (hc : c ≤ 1000000) : ∃ Y k, (Instr.makeSlice 51 (.int .i64 0) (.int .i64 (c : Int))).run Try.prog X = .ok (.slice (some ⟨X.heap.size, 0, none⟩) 0 c) Y ∧ RS Y (.slice (some ⟨X.heap.size, 0, none⟩) 0 c) [] k ∧ (∀ g, k = some g → X.heap.size ≤ g) ∧ Below X.heap.size X Y := by
  obtain ⟨w', h1, h2, h3⟩ := run_make_own (P := Try.prog) X X.heap.size 51 9 _ (.string ⟨#[]⟩) 1 Try.underlying51 rfl rfl rfl .i64 .i64 c (by show 16 * c ≤ 281474976710656; omega) (by unfold maxLen; omega) (Nat.le_refl _)
  obtain ⟨k, h4, h5⟩ := RA.ofOwn h2
  exact ⟨w', k, h1, h4, h5, (Below.refl _ X).grown h3 (Nat.le_refl _) (fun k e => by cases e)⟩
theorem RS.below {X Y : World} {v : Value} {l : List ByteArray} {k : Option Nat} (h : RS X v l k) (b : Below X.heap.size X Y) : RS Y v l k := RA.kpf (F := fun _ => False) h (KpF.of b) (fun _ _ e => e)
theorem RS.kpf {F : Nat → Prop} {X Y : World} {v : Value} {l : List ByteArray} {k : Option Nat} (h : RS X v l k) (b : KpF F X Y) (hF : ∀ g, k = some g → ¬ F g) : RS Y v l k := RA.kpf h b hF
/-- its form, where it is not empty, and a word of it -/
theorem RS.get {X : World} {v : Value} {l : List ByteArray} {k : Option Nat} (h : RS X v l k) {i : Nat} (hi : i < l.length) : ∃ g off cap, v = .slice (some ⟨g, off, none⟩) l.length cap ∧ k = some g ∧ g < X.heap.size ∧ X.cell? ⟨g, off + i, none⟩ = some (.string l[i]) := by
  obtain ⟨g, off, cap, e, hk, hg, _, _, hc⟩ := RA.form h (by omega)
  refine ⟨g, off, cap, e, hk, hg, ?_⟩
  rw [hc i (by omega), List.getElem?_map, List.getElem?_eq_getElem hi]; rfl
theorem RS.val {X : World} {v : Value} {l : List ByteArray} {k : Option Nat} (h : RS X v l k) : ∃ a c, v = .slice a l.length c := by
  rcases RA.val h with ⟨e, e2, _⟩ | ⟨g, off, cap, e, _⟩
  · exact ⟨none, 0, by rw [e, e2]⟩
  · exact ⟨_, _, e⟩
end Go.Proofs.Ytdemfejladepjaa
end

section
namespace Go.Proofs.Ytdemfejladepjaa
open Go.ChangeShapes Go.WideShapes Go.ChangeAt Go.RowKit

section
variable {P : Program}
/-- more elements, whatever they lie in -/
theorem RA.pushN {X : World} {s n : Nat} {v : Value} {xs : List Value} {k : Option Nat} (h : RA X s v n xs k) (t ty e : TypeId) (i : TypeInfo) (z : Value) (bytes : Nat) (ht : P.underlying t = some (.slice e)) (hi : P.info? e = some i) (hz : i.zero = some z)
    (hsize : i.size = s) (hby : i.bytes = bytes) (hzs : z.cells.size = s)
    (x : Value) (q : Nat) (news : List Value) (hsrc : Src P s t x q news X) (hn0 : v = .slice none 0 0 → 0 < q)
    (hn : n + q ≤ 1000000000) (hbytes : (n + q) * bytes ≤ 140737488355328) :
    ∃ v' Y k', (Builtin.append_ #[t, t] ty #[v, x]).run P X = .ok v' Y ∧ RA Y s v' (n + q) (xs ++ news) k' ∧ KpF (fun b => k = some b) X Y ∧ (k' = k ∧ k ≠ none ∨ k' = some X.heap.size) := by
  subst hsize
  subst hby
  have hl := hsrc.newsLen
  have hlen : (xs ++ news).length = (n + q) * i.size := by rw [List.length_append, h.len, hl, Nat.add_mul]
  have grow : ∀ (base : Option Addr) (cap : Nat), cap < n + q → (Builtin.firstCells i.size n (.slice base n cap)).run P X.drew = .ok xs.toArray X.drew →
      ∃ v' Y k', (Builtin.append_ #[t, t] ty #[.slice base n cap, x]).run P X = .ok v' Y ∧ RA Y i.size v' (n + q) (xs ++ news) k' ∧ KpF (fun b => k = some b) X Y ∧ (k' = k ∧ k ≠ none ∨ k' = some X.heap.size) := by
    intro base cap hc hold
    have hr := run_append_grow_src (P := P) X t t ty e i z ht hi hz base n cap xs hold x q news hsrc hc (by omega) (growslice_fits (by omega) hbytes)
    have hge : n + q ≤ grownCap X (n + q) cap e := grownCap_ge X (n + q) cap e
    refine ⟨_, _, some X.heap.size, hr, ?_, ?_, .inr rfl⟩
    · generalize grownCap X (n + q) cap e = C at hge ⊢
      have hH : ((X.drew.alloc (.cells ((xs ++ news).toArray ++ Builtin.zeroCells z.cells (C - (n + q))) e))).heap[X.heap.size]? = Option.some (.cells ((xs ++ news).toArray ++ Builtin.zeroCells z.cells (C - (n + q))) e (0, 0)) := heap_alloc_new X.drew _
      have hsz : ((xs ++ news).toArray ++ Builtin.zeroCells z.cells (C - (n + q))).size = C * i.size := by
        rw [Array.size_append, List.size_toArray, hlen, size_zeroCells, hzs, ← Nat.add_mul]
        congr 1; omega
      refine ⟨hlen, .inr ⟨X.heap.size, 0, C, rfl, rfl, by simp, hge, fun j hj => ⟨?_, ?_⟩, fun j hj => ?_⟩⟩
      · simp only [World.cell?, hH, Nat.zero_add]
        rw [Array.getElem?_eq_getElem (by rw [hsz]; exact hj)]; rfl
      · simp only [World.frozen?]
        rw [hH]
        simp
      · simp only [World.cell?, hH, Nat.zero_add]
        rw [Array.getElem?_append_left (by rw [List.size_toArray, hlen]; exact hj)]
        simp
    · exact KpF.of (((Below.refl X.heap.size X).drew).alloc (Nat.le_refl _) _)
  rcases h.val with ⟨rfl, rfl, rfl⟩ | ⟨g, off, cap, rfl, rfl, hg, hnc, hroom, hcell⟩
  · have hx : xs = [] := List.eq_nil_of_length_eq_zero (by rw [h.len]; simp)
    subst hx
    have := hn0 rfl
    exact grow none 0 (by omega) (run_firstCells_none X.drew i.size 0 0 0)
  · by_cases hr : n + q ≤ cap
    · have hin : ∀ j, j < news.length → n * i.size + j < cap * i.size := by
        intro j hj
        have : (n + q) * i.size ≤ cap * i.size := Nat.mul_le_mul_right _ hr
        rw [Nat.add_mul] at this
        omega
      have hrun := run_append_room_src (P := P) X t t ty e i ht hi g off n cap x q news hsrc hr (fun j hj => by rw [Nat.add_assoc]; exact (hroom _ (hin j hj)).1) (fun j hj => by rw [Nat.add_assoc]; exact (hroom _ (hin j hj)).2)
      have hszz : (X.setCells g (off + n * i.size) news).heap.size = X.heap.size := (setCells_kpf g news (off + n * i.size) X).2
      have hsome : ∀ j, j < news.length → (X.cell? ⟨g, off + n * i.size + j, none⟩).isSome = true := fun j hj => by rw [Nat.add_assoc]; exact (hroom _ (hin j hj)).1
      refine ⟨_, _, some g, hrun, ?_, ?_, .inl ⟨rfl, by simp⟩⟩
      · refine ⟨hlen, .inr ⟨g, off, cap, rfl, rfl, by rw [hszz]; exact hg, hr, fun j hj => ⟨?_, ?_⟩, fun j hj => ?_⟩⟩
        · by_cases hj2 : n * i.size ≤ j ∧ j < n * i.size + news.length
          · have := World.cell?_setCells_in g news (off + n * i.size) X hsome (j - n * i.size) (by omega)
            rw [show off + n * i.size + (j - n * i.size) = off + j by omega] at this
            rw [this]; rfl
          · rw [World.cell?_setCells_out g news (off + n * i.size) X ⟨g, off + j, none⟩ (fun _ _ => by dsimp only; omega)]
            exact (hroom j hj).1
        · rw [World.frozen?_setCells]
          exact (hroom j hj).2
        · rw [Nat.add_mul] at hj
          by_cases hj2 : n * i.size ≤ j
          · have hj3 : j - n * i.size < news.length := by omega
            have := World.cell?_setCells_in g news (off + n * i.size) X hsome (j - n * i.size) hj3
            rw [show off + n * i.size + (j - n * i.size) = off + j by omega] at this
            rw [this, List.getElem?_append_right (by rw [h.len]; exact hj2), h.len, List.getElem?_eq_getElem hj3]
          · rw [World.cell?_setCells_out g news (off + n * i.size) X ⟨g, off + j, none⟩ (fun _ _ => by dsimp only; omega), List.getElem?_append_left (by rw [h.len]; omega)]
            exact hcell j (by omega)
      · exact (setCells_kpf g news (off + n * i.size) X).1.mono fun b _ e => by rw [e]
    · refine grow (some ⟨g, off, none⟩) cap (by omega) (run_firstCells_some X.drew i.size n ⟨g, off, none⟩ n cap xs h.len (fun j u hu => ?_))
      have hj : j < n * i.size := by rw [← h.len]; exact (List.getElem?_eq_some_iff.1 hu).1
      rw [Addr.add_lit]
      show X.cell? ⟨g, off + j, none⟩ = _
      rw [hcell j hj, hu]
end
/-- a row, as it is read by an append -/
theorem RA.src {P : Program} {X : World} {s n : Nat} {v : Value} {xs : List Value} {k : Option Nat} (h : RA X s v n xs k) {t e : TypeId} (ht : P.underlying t = some (.slice e)) (h1 : ∀ u ∈ xs, u.oneCell' = true) : Src P s t v n xs X := by
  rcases h.val with ⟨rfl, rfl, _⟩ | ⟨g, off, cap, rfl, _, _, _, _, hc⟩
  · have hx : xs = [] := List.eq_nil_of_length_eq_zero (by rw [h.len]; simp)
    subst hx
    exact Src.ofNil X ht 0
  · refine Src.ofSlice X ht ⟨g, off, none⟩ n cap xs h.len (fun j u hj => ?_) h1
    rw [Addr.add_lit]
    show X.cell? ⟨g, off + j, none⟩ = _
    rw [hc j (by rw [← h.len]; exact (List.getElem?_eq_some_iff.1 hj).1), hj]
set_option maxRecDepth 100000 in
theorem appW {X : World} {v v2 : Value} {l l2 : List ByteArray} {k k2 : Option Nat} (h : RS X v l k) (h2 : RS X v2 l2 k2) (h0 : v = .slice none 0 0 → 0 < l2.length) (hn : l.length + l2.length ≤ 1000000) :
    ∃ v' Y k', (Builtin.append_ #[51, 51] 51 #[v, v2]).run Try.prog X = .ok v' Y ∧ RS Y v' (l ++ l2) k' ∧ KpF (fun b => k = some b) X Y ∧ (k' = k ∧ k ≠ none ∨ k' = some X.heap.size) := by
  obtain ⟨v', Y, k', hr, h5, h6, h7⟩ := RA.pushN (P := Try.prog) h 51 51 9 _ _ 16 Try.underlying51 rfl rfl rfl rfl rfl v2 l2.length (l2.map Value.string) (RA.src h2 Try.underlying51 (fun u hu => by obtain ⟨x, _, rfl⟩ := List.mem_map.1 hu; rfl)) h0 (by omega) (by omega)
  refine ⟨v', Y, k', hr, ?_, h6, h7⟩
  unfold RS
  rw [List.map_append, List.length_append]
  exact h5
/-- the first ones of a list -/
theorem RA.cut {X : World} {s n g off cap m : Nat} {xs : List Value} {k : Option Nat} (h : RA X s (.slice (some ⟨g, off, none⟩) n cap) n xs k) (hm : m ≤ n) : RA X s (.slice (some ⟨g, off, none⟩) m cap) m (xs.take (m * s)) k := by
  have hms : m * s ≤ n * s := Nat.mul_le_mul_right s hm
  refine ⟨by rw [List.length_take, h.len]; omega, ?_⟩
  rcases h.val with ⟨e, _⟩ | ⟨g', off', cap', e1, e2, h3, h4, h5, h6⟩
  · cases e
  · cases e1
    refine .inr ⟨g, off, cap, rfl, e2, h3, by omega, h5, fun i hi => ?_⟩
    rw [h6 i (by omega), List.getElem?_take_of_lt hi]
theorem RS.cut {X : World} {g off n cap m : Nat} {l : List ByteArray} {k : Option Nat} (h : RS X (.slice (some ⟨g, off, none⟩) n cap) l k) (hn : n = l.length) (hm : m ≤ l.length) : RS X (.slice (some ⟨g, off, none⟩) m cap) (l.take m) k := by
  subst hn
  have h1 : RA X 1 (.slice (some ⟨g, off, none⟩) l.length cap) l.length (l.map Value.string) k := h
  have := h1.cut hm
  unfold RS
  rw [List.length_take, Nat.min_eq_left hm, List.map_take]
  rw [Nat.mul_one] at this
  exact this
/-- numbers of one's own -/
def RI (X : World) (v : Value) (l : List Int) (k : Option Nat) : Prop := RA X 1 v l.length (l.map (Value.int .i64)) k
theorem RI.kpf {F : Nat → Prop} {X Y : World} {v : Value} {l : List Int} {k : Option Nat} (h : RI X v l k) (b : KpF F X Y) (hF : ∀ g, k = some g → ¬ F g) : RI Y v l k := RA.kpf h b hF
theorem RI.get {X : World} {v : Value} {l : List Int} {k : Option Nat} (h : RI X v l k) {i : Nat} (hi : i < l.length) : ∃ g off cap, v = .slice (some ⟨g, off, none⟩) l.length cap ∧ k = some g ∧ g < X.heap.size ∧ X.cell? ⟨g, off + i, none⟩ = some (.int .i64 l[i]) := by
  obtain ⟨g, off, cap, e, hk, hg, _, _, hc⟩ := RA.form h (by omega)
  refine ⟨g, off, cap, e, hk, hg, ?_⟩
  rw [hc i (by omega), List.getElem?_map, List.getElem?_eq_getElem hi]; rfl
end Go.Proofs.Ytdemfejladepjaa
end
