/- Contract of galleylaw02.gone: what an iterator gives, in two lists of the call's own. -/
import Derived.Test.YtdklfodccdmmlaaDoorBrg
import Derived.RangeFuncBox
import Derived.Maps.AppendAt
import Derived.Deep.AppendLies
namespace Go.Proofs.YtdklfodccdmmlaaDoor
open Go.ChangeShapes Go.WideShapes Go.ChangeAt Go.RowKit
attribute [local go_sem] Oper.semAt_some

def cel (l : List Int) (p : Nat) : List Value := [.int .i32 (first (l.drop p)).1, .int .i64 (wid (l.drop p)), .bool (whl (l.drop p))]
def ints (ps : List Nat) : List Value := ps.map fun (p : Nat) => .int .i64 (p : Int)
def stps (l : List Int) (ps : List Nat) : List Value := ps.flatMap (cel l)
theorem ints_snoc (ps : List Nat) (p : Nat) : ints (ps ++ [p]) = ints ps ++ [.int .i64 p] := by simp [ints]
theorem stps_snoc (l : List Int) (ps : List Nat) (p : Nat) : stps l (ps ++ [p]) = stps l ps ++ cel l p := by simp [stps]

/-- a struct of three cells, not frozen -/
def Box3 (W : World) (B : Nat) (t : TypeId) (a b c : Value) : Prop := W.heap[B]? = some (.cells #[a, b, c] t (0, 0))
theorem Box3.lt {W : World} {B : Nat} {t : TypeId} {a b c : Value} (h : Box3 W B t a b c) : B < W.heap.size := (Array.getElem?_eq_some_iff.1 h).1
theorem Box3.cells {W : World} {B : Nat} {t : TypeId} {a b c : Value} (h : Box3 W B t a b c) : W.cell? ⟨B, 0, none⟩ = some a ∧ W.cell? ⟨B, 1, none⟩ = some b ∧ W.cell? ⟨B, 2, none⟩ = some c := by
  refine ⟨?_, ?_, ?_⟩ <;> simp [World.cell?, show W.heap[B]? = _ from h]
theorem Box3.new (W : World) (t : TypeId) (a b c : Value) : Box3 (W.alloc (.cells #[a, b, c] t)) W.heap.size t a b c := World.alloc_heap_new W _
theorem Box3.kept {W W' : World} {row : Option Nat} {B : Nat} {t : TypeId} {a b c : Value} (h : Box3 W B t a b c) (hg : W.grownBy W' row) (hne : some B ≠ row) : Box3 W' B t a b c := (hg.block B h.lt hne).trans h

/-- what the two boxes hold, and the rows -/
structure Mid (n₀ BP BS : Nat) (vp vs : Value) (l : List Int) (pre : List Nat) (W : World) : Prop where
  bp : Boxed W BP 70 vp
  bs : Boxed W BS 60 vs
  rp : W.ownsRow n₀ 3 1 vp pre.length (ints pre)
  rs : W.ownsRow n₀ 64 3 vs pre.length (stps l pre)

theorem row_ne {W : World} {n₀ e e' s s' : Nat} {v v' : Value} {n n' : Nat} {xs xs' : List Value} (h : W.ownsRow n₀ e s v n xs) (h' : W.ownsRow n₀ e' s' v' n' xs') (hne : e ≠ e') : v.ownBlock = none ∨ v.ownBlock ≠ v'.ownBlock := by
  rcases h.2 with ⟨rfl, _⟩ | ⟨g, cap, cur, rfl, _, hg, _⟩
  · exact Or.inl rfl
  · right
    rcases h'.2 with ⟨rfl, _⟩ | ⟨g', cap', cur', rfl, _, hg', _⟩
    · simp [Value.ownBlock]
    · intro e
      simp [Value.ownBlock] at e
      subst e
      rw [hg] at hg'
      cases hg'
      exact hne rfl

theorem Mid.kept {n₀ BP BS : Nat} {vp vs : Value} {l : List Int} {pre : List Nat} {W W' : World} {row : Option Nat} (h : Mid n₀ BP BS vp vs l pre W) (hg : W.grownBy W' row)
    (hr : ∀ r, row = some r → ∃ o : Obj, W.heap[r]? = some o ∧ o.isCells = false) : Mid n₀ BP BS vp vs l pre W' := by
  have ne : ∀ {k : Nat} {cur : Array Value} {t : TypeId} {m : Nat × Nat}, W.heap[k]? = some (.cells cur t m) → some k ≠ row := fun hk e => by
    obtain ⟨o, ho, hc⟩ := hr _ e.symm
    rw [hk] at ho
    cases ho
    cases hc
  have nr : ∀ {e s : Nat} {v : Value} {n : Nat} {xs : List Value}, W.ownsRow n₀ e s v n xs → v.ownBlock = none ∨ v.ownBlock ≠ row := fun h => by
    rcases h.2 with ⟨rfl, _⟩ | ⟨g, cap, cur, rfl, _, hg, _⟩
    · exact Or.inl rfl
    · exact Or.inr (ne hg)
  exact ⟨h.bp.kept hg (ne h.bp), h.bs.kept hg (ne h.bs), h.rp.kept hg (nr h.rp), h.rs.kept hg (nr h.rs)⟩
theorem Mid.alloc {n₀ BP BS : Nat} {vp vs : Value} {l : List Int} {pre : List Nat} {W : World} (h : Mid n₀ BP BS vp vs l pre W) (o : Obj) : Mid n₀ BP BS vp vs l pre (W.alloc o) := h.kept (World.grownBy_alloc W o none) (fun r e => by cases e)
theorem Mid.drew {n₀ BP BS : Nat} {vp vs : Value} {l : List Int} {pre : List Nat} {W : World} (h : Mid n₀ BP BS vp vs l pre W) : Mid n₀ BP BS vp vs l pre W.drew := h.kept (row := none) ⟨rfl, rfl, rfl, Nat.le_refl _, fun _ _ _ => rfl⟩ (fun r e => by cases e)

set_option maxRecDepth 100000 in
theorem info_int : ∃ i, Tryd.prog.info? 3 = some i ∧ i.zero = some (.int .i64 0) ∧ i.size = 1 ∧ i.bytes = 8 := by
  refine ⟨_, rfl, ?_, ?_, ?_⟩ <;> rfl
set_option maxRecDepth 100000 in
theorem info_step : ∃ i, Tryd.prog.info? 64 = some i ∧ i.zero = some (.agg #[.int .i32 0, .int .i64 0, .bool false]) ∧ i.size = 3 ∧ i.bytes = 24 := by
  refine ⟨_, rfl, ?_, ?_, ?_⟩ <;> rfl

theorem box_facts {W : World} {B : Nat} {t : TypeId} {v : Value} (h : Boxed W B t v) : W.cell? ⟨B, 0, none⟩ = some v ∧ W.frozen? ⟨B, 0, none⟩ = false := ⟨h.cell, h.frozen⟩
theorem Box3.not_row {W : World} {B : Nat} {t e : TypeId} {a b c : Value} (h : Box3 W B t a b c) (hte : t ≠ e) {base size k : Nat} {v : Value} {xs : List Value} (hr : W.ownsRow base e size v k xs) : some B ≠ v.ownBlock := by
  rcases hr.2 with ⟨rfl, _⟩ | ⟨g, cap, cur, rfl, _, hg, _⟩
  · simp [Value.ownBlock]
  · intro e
    simp [Value.ownBlock] at e
    subst e
    rw [show W.heap[B]? = _ from h] at hg
    cases hg
    exact hte rfl

/-- what has come about since W: nothing below n₀ has turned, nor what is no cells -/
structure Run (n₀ : Nat) (W W1 : World) : Prop where
  below : Below n₀ W W1
  others : KeepsOthers W W1
  size : n₀ ≤ W1.heap.size
theorem Run.alloc {n₀ : Nat} {W W1 : World} (h : Run n₀ W W1) (o : Obj) : Run n₀ W (W1.alloc o) := ⟨h.below.alloc h.size o, h.others.trans (KeepsOthers.alloc _ _), by have := h.size; simp; omega⟩
theorem Run.row {n₀ : Nat} {W W1 W2 : World} {e s n : Nat} {v : Value} {xs : List Value} (h : Run n₀ W W1) (hr : W1.ownsRow n₀ e s v n xs) (hg : W1.grownBy W2 v.ownBlock) : Run n₀ W W2 := by
  refine ⟨h.below.grown hg h.size (fun k hk => (hr.lt k hk).1), h.others.trans ⟨hg.size, fun k o hk ho => ?_⟩, Nat.le_trans h.size hg.size⟩
  refine (hg.block k (heap_lt hk) (fun e => ?_)).trans hk
  rcases hr.2 with ⟨rfl, _⟩ | ⟨g, cap, cur, rfl, _, hgg, _⟩
  · simp [Value.ownBlock] at e
  · simp [Value.ownBlock] at e
    subst e
    rw [hk] at hgg
    cases hgg
    cases ho
theorem Run.set {n₀ B : Nat} {W W1 : World} (h : Run n₀ W W1) (hB : n₀ ≤ B) (v : Value) : Run n₀ W (W1.setCell ⟨B, 0, none⟩ v) :=
  ⟨h.below.setCell (p := ⟨B, 0, none⟩) hB v, h.others.trans (KeepsOthers.setCell _ _ _), by have := h.size; simpa [World.setCell] using this⟩
theorem Run.walks {n₀ : Nat} {W W1 : World} (h : Run n₀ W W1) : Kp n₀ W W1 :=
  ⟨h.below, h.others.size, fun k o hk ho => h.others.same k o hk (by cases o <;> first | rfl | cases ho)⟩

/-- between two operations: the boxes, and the step's own block -/
structure St (n₀ Bx : Nat) (vp vs : Value) (l : List Int) (x : Nat) (W W1 : World) : Prop where
  run : Run n₀ W W1
  bp : Boxed W1 n₀ 70 vp
  bs : Boxed W1 (n₀ + 1) 60 vs
  bx : Box3 W1 Bx 64 (.int .i32 (first (l.drop x)).1) (.int .i64 (wid (l.drop x))) (.bool (whl (l.drop x)))
  ne : vs.ownBlock ≠ some Bx
def RP (n₀ : Nat) (vp : Value) (pre : List Nat) (W : World) : Prop := W.ownsRow n₀ 3 1 vp pre.length (ints pre)
def RS (n₀ : Nat) (l : List Int) (vs : Value) (pre : List Nat) (W : World) : Prop := W.ownsRow n₀ 64 3 vs pre.length (stps l pre)
def EP (g x : Nat) (W : World) : Prop := Boxed W g 3 (.int .i64 x)
def ES (l : List Int) (g x : Nat) (W : World) : Prop := Box3 W g 64 (.int .i32 (first (l.drop x)).1) (.int .i64 (wid (l.drop x))) (.bool (whl (l.drop x)))

theorem kept_alloc {n₀ : Nat} {l : List Int} {W : World} (o : Obj) : (∀ v p, RP n₀ v p W → RP n₀ v p (W.alloc o)) ∧ (∀ v p, RS n₀ l v p W → RS n₀ l v p (W.alloc o)) ∧ (∀ g x, EP g x W → EP g x (W.alloc o)) ∧ (∀ g x, ES l g x W → ES l g x (W.alloc o)) :=
  ⟨fun _ _ h => World.ownsRow.alloc h o, fun _ _ h => World.ownsRow.alloc h o, fun _ _ h => Boxed.alloc h o, fun _ _ h => Box3.kept h (World.grownBy_alloc W o none) (by simp)⟩
theorem St.alloc {n₀ Bx : Nat} {vp vs : Value} {l : List Int} {x : Nat} {W W1 : World} (h : St n₀ Bx vp vs l x W W1) (o : Obj) : St n₀ Bx vp vs l x W (W1.alloc o) :=
  ⟨h.run.alloc o, h.bp.alloc o, h.bs.alloc o, h.bx.kept (World.grownBy_alloc W1 o none) (by simp), h.ne⟩
theorem St.held {n₀ Bx : Nat} {vp vs : Value} {l : List Int} {x : Nat} {W W1 : World} (h : St n₀ Bx vp vs l x W W1) :
    W1.cell? ⟨n₀, 0, none⟩ = some vp ∧ W1.cell? ⟨n₀ + 1, 0, none⟩ = some vs ∧ W1.cell? ⟨Bx, 0, none⟩ = some (.int .i32 (first (l.drop x)).1) ∧ W1.cell? ⟨Bx, 1, none⟩ = some (.int .i64 (wid (l.drop x))) ∧ W1.cell? ⟨Bx, 2, none⟩ = some (.bool (whl (l.drop x))) :=
  ⟨h.bp.cell, h.bs.cell, h.bx.cells.1, h.bx.cells.2.1, h.bx.cells.2.2⟩

/-- a place is appended -/
theorem push_p {n₀ Bx : Nat} {vp vs : Value} {l : List Int} {pre : List Nat} {x : Nat} {W W1 : World} (h : St n₀ Bx vp vs l x W W1) (hr : RP n₀ vp pre W1) (hl : pre.length ≤ 4194304) {g : Nat} (he : EP g x W1) (ty : TypeId) :
    ∃ g' c' W2, (Builtin.append_ #[70, 70] ty #[vp, .slice (some ⟨g, 0, none⟩) 1 1]).run Tryd.prog W1 = .ok (.slice (some ⟨g', 0, none⟩) (pre.length + 1) c') W2 ∧
      RP n₀ (.slice (some ⟨g', 0, none⟩) (pre.length + 1) c') (pre ++ [x]) W2 ∧ St n₀ Bx vp vs l x W W2 ∧ (∀ v p, RS n₀ l v p W1 → RS n₀ l v p W2) ∧ (∀ k y, ES l k y W1 → ES l k y W2) := by
  obtain ⟨i, hi, hz, hs, hby⟩ := info_int
  obtain ⟨g', c', W2, hrun, ho, hg, _, _⟩ := run_append_lies (P := Tryd.prog) W1 70 ty n₀ 3 i (.int .i64 0) 1 8 Tryd.underlying70 hi hz hs hby rfl (by decide)
    vp pre.length (ints pre) hr ⟨g, 0, none⟩ 1 1 [.int .i64 x] rfl
    (fun j u hj => by
      cases j with
      | zero => simp at hj; subst hj; rw [Addr.add_lit]; exact Boxed.cell he
      | succ j => simp at hj)
    (fun u hu => by simp at hu; subst hu; rfl) (by decide) (by unfold maxLen; omega) (by omega) h.run.size W1.heap.size rfl
  refine ⟨g', c', W2, hrun, ?_, ⟨h.run.row hr hg, h.bp.kept hg (h.bp.not_row (by decide) hr), h.bs.kept hg (h.bs.not_row (by decide) hr), h.bx.kept hg (h.bx.not_row (by decide) hr), h.ne⟩, fun v p h' => World.ownsRow.kept h' hg (row_ne h' hr (by decide)), fun k y h' => Box3.kept h' hg (Box3.not_row h' (by decide) hr)⟩
  unfold RP
  rw [ints_snoc, List.length_append]
  exact ho
/-- a step is appended -/
theorem push_s {n₀ Bx : Nat} {vp vs : Value} {l : List Int} {pre : List Nat} {x : Nat} {W W1 : World} (h : St n₀ Bx vp vs l x W W1) (hr : RS n₀ l vs pre W1) (hl : pre.length ≤ 4194304) {g : Nat} (he : ES l g x W1) (ty : TypeId) :
    ∃ g' c' W2, (Builtin.append_ #[60, 60] ty #[vs, .slice (some ⟨g, 0, none⟩) 1 1]).run Tryd.prog W1 = .ok (.slice (some ⟨g', 0, none⟩) (pre.length + 1) c') W2 ∧
      RS n₀ l (.slice (some ⟨g', 0, none⟩) (pre.length + 1) c') (pre ++ [x]) W2 ∧ St n₀ Bx vp vs l x W W2 ∧ (∀ v p, RP n₀ v p W1 → RP n₀ v p W2) ∧ (∀ k y, EP k y W1 → EP k y W2) := by
  obtain ⟨i, hi, hz, hs, hby⟩ := info_step
  obtain ⟨c0, c1, c2⟩ := Box3.cells he
  obtain ⟨g', c', W2, hrun, ho, hg, _, _⟩ := run_append_lies (P := Tryd.prog) W1 60 ty n₀ 64 i (.agg #[.int .i32 0, .int .i64 0, .bool false]) 3 24 Tryd.underlying60 hi hz hs hby rfl (by decide)
    vs pre.length (stps l pre) hr ⟨g, 0, none⟩ 1 1 (cel l x) rfl
    (fun j u hj => by
      match j with
      | 0 => simp [cel] at hj; subst hj; rw [Addr.add_lit]; exact c0
      | 1 => simp [cel] at hj; subst hj; rw [Addr.add_lit]; exact c1
      | 2 => simp [cel] at hj; subst hj; rw [Addr.add_lit]; exact c2
      | j + 3 => simp [cel] at hj)
    (fun u hu => by simp [cel] at hu; rcases hu with rfl | rfl | rfl <;> rfl) (by decide) (by unfold maxLen; omega) (by omega) h.run.size W1.heap.size rfl
  refine ⟨g', c', W2, hrun, ?_, ⟨h.run.row hr hg, h.bp.kept hg (h.bp.not_row (by decide) hr), h.bs.kept hg (h.bs.not_row (by decide) hr), h.bx.kept hg (fun e => h.ne e.symm), h.ne⟩, fun v p h' => World.ownsRow.kept h' hg (row_ne h' hr (by decide)), fun k y h' => Boxed.kept h' hg (Boxed.not_row h' (by decide) hr)⟩
  unfold RS
  rw [stps_snoc, List.length_append]
  exact ho

/-- both are stored -/
theorem St.done {n₀ Bx : Nat} {vp vs vp' vs' : Value} {l : List Int} {ps : List Nat} {x : Nat} {W W1 : World} (h : St n₀ Bx vp vs l x W W1) (hp : RP n₀ vp' ps W1) (hs : RS n₀ l vs' ps W1) :
    Run n₀ W ((W1.setCell ⟨n₀, 0, none⟩ vp').setCell ⟨n₀ + 1, 0, none⟩ vs') ∧ Mid n₀ n₀ (n₀ + 1) vp' vs' l ps ((W1.setCell ⟨n₀, 0, none⟩ vp').setCell ⟨n₀ + 1, 0, none⟩ vs') := by
  have b1 : Boxed (W1.setCell ⟨n₀, 0, none⟩ vp') n₀ 70 vp' := h.bp.set vp'
  have b2 : Boxed (W1.setCell ⟨n₀, 0, none⟩ vp') (n₀ + 1) 60 vs := h.bs.kept (grownBy_setCell' W1 n₀ vp') (by simp)
  have p1 : RP n₀ vp' ps (W1.setCell ⟨n₀, 0, none⟩ vp') := World.ownsRow.kept hp (grownBy_setCell' W1 n₀ vp') (Or.inr (h.bp.not_row (by decide) hp).symm)
  have s1 : RS n₀ l vs' ps (W1.setCell ⟨n₀, 0, none⟩ vp') := World.ownsRow.kept hs (grownBy_setCell' W1 n₀ vp') (Or.inr (h.bp.not_row (by decide) hs).symm)
  refine ⟨(h.run.set (Nat.le_refl _) _).set (by omega) _, b1.kept (grownBy_setCell' _ (n₀ + 1) vs') (by simp), b2.set vs', ?_, ?_⟩
  · exact World.ownsRow.kept p1 (grownBy_setCell' _ (n₀ + 1) vs') (Or.inr (b2.not_row (by decide) p1).symm)
  · exact World.ownsRow.kept s1 (grownBy_setCell' _ (n₀ + 1) vs') (Or.inr (b2.not_row (by decide) s1).symm)

end Go.Proofs.YtdklfodccdmmlaaDoor
