/- Layer 17: the calls of a past of numbers, each by one contract; a script of calls, plain. -/
import Derived.Test.YthifdfjpfmhcpaaMg19

namespace Go.Proofs.Ythifdfjpfmhcpaa
open Go.ChangeShapes Go.WideShapes Go.ChangeAt Go.RowKit

def anS (x : Option (Int × ByteArray)) : Int := match x with | none => 0 | some y => y.1
def anW {α : Type} (x : Option (α × ByteArray)) : ByteArray := match x with | none => ⟨#[]⟩ | some y => y.2
theorem DoA_at (X : World) (F : Nat → Prop) (g : Nat) (p : Pa Int) (h : PsI X F g p) (hok : OkP p) (x : Int) (w : ByteArray) (hw : w.size ≤ 281474976710656) :
    Calls Try.prog 22 #[.pointer (some ⟨g, 0, none⟩), .int .i64 x, .string w] X fun y Y => y = .returned (.int .i64 0) ∧ ∃ G, PsI Y G g (doP p x w) ∧ Gr F X G Y := by
  cases ho : p.o with
  | none => exact Do0I_at X F g p h x w ho hw hok.bl
  | some y => obtain ⟨y, d⟩ := y; exact Do1I_at X F g p h x w y d ho
theorem undoP_some {α : Type} {p : Pa α} (h : p.o.isSome = true) : undoP p = (p, none, 171) := by
  unfold undoP
  cases ho : p.o with
  | none => rw [ho] at h; cases h
  | some _ => rfl
theorem redoP_some {α : Type} {p : Pa α} (h : p.o.isSome = true) : redoP p = (p, none, 171) := by
  unfold redoP
  cases ho : p.o with
  | none => rw [ho] at h; cases h
  | some _ => rfl
theorem undoP_nil {α : Type} {p : Pa α} (h : p.o = none) (hb : p.b = []) : undoP p = (p, none, 170) := by unfold undoP; rw [h, hb]; rfl
theorem redoP_nil {α : Type} {p : Pa α} (h : p.o = none) (hb : p.a = []) : redoP p = (p, none, 170) := by unfold redoP; rw [h, hb]; rfl
theorem undoP_app {α : Type} {p : Pa α} (h : p.o = none) {Q : List (α × ByteArray)} {x : α × ByteArray} (hb : p.b = Q ++ [x]) : undoP p = ({ p with s := x.1, b := Q, a := p.a ++ [(p.s, x.2)] }, some x, 0) := by
  unfold undoP; rw [h, hb]; simp
theorem redoP_app {α : Type} {p : Pa α} (h : p.o = none) {Q : List (α × ByteArray)} {x : α × ByteArray} (hb : p.a = Q ++ [x]) : redoP p = ({ p with s := x.1, a := Q, b := p.b ++ [(p.s, x.2)] }, some x, 0) := by
  unfold redoP; rw [h, hb]; simp
theorem list_end {α : Type} (l : List α) : l = [] ∨ ∃ Q x, l = Q ++ [x] := by
  rcases List.eq_nil_or_concat l with h | ⟨Q, x, h⟩
  · exact .inl h
  · exact .inr ⟨Q, x, by simpa using h⟩
theorem UndoA_at (X : World) (F : Nat → Prop) (g : Nat) (p : Pa Int) (h : PsI X F g p) (hok : OkP p) :
    Calls Try.prog 19 #[.pointer (some ⟨g, 0, none⟩)] X fun y Y => y = .returned (.tuple #[.int .i64 (anS (undoP p).2.1), .string (anW (undoP p).2.1), .int .i64 (undoP p).2.2]) ∧ ∃ G, PsI Y G g (undoP p).1 ∧ Gr F X G Y := by
  by_cases ho : p.o.isSome = true
  · rw [undoP_some ho]
    refine (Undo2I_at X F g p h ho).mono ?_
    rintro y Y ⟨rfl, rfl⟩
    exact ⟨rfl, F, h, Gr.refl _ _⟩
  · have ho : p.o = none := by simpa using ho
    rcases list_end p.b with hb | ⟨Q, x, hb⟩
    · rw [undoP_nil ho hb]
      exact Undo0I_at X F g p h ho hb
    · rw [undoP_app ho hb]
      have hl : (Q ++ [x]).length ≤ 4096 := hb ▸ hok.bl
      rw [List.length_append] at hl
      exact Undo1I_at X F g p h ho Q x.1 x.2 hb hok.al (by simp at hl; omega)
theorem RedoA_at (X : World) (F : Nat → Prop) (g : Nat) (p : Pa Int) (h : PsI X F g p) (hok : OkP p) :
    Calls Try.prog 20 #[.pointer (some ⟨g, 0, none⟩)] X fun y Y => y = .returned (.tuple #[.int .i64 (anS (redoP p).2.1), .string (anW (redoP p).2.1), .int .i64 (redoP p).2.2]) ∧ ∃ G, PsI Y G g (redoP p).1 ∧ Gr F X G Y := by
  by_cases ho : p.o.isSome = true
  · rw [redoP_some ho]
    refine (Redo2I_at X F g p h ho).mono ?_
    rintro y Y ⟨rfl, rfl⟩
    exact ⟨rfl, F, h, Gr.refl _ _⟩
  · have ho : p.o = none := by simpa using ho
    rcases list_end p.a with hb | ⟨Q, x, hb⟩
    · rw [redoP_nil ho hb]
      exact Redo0I_at X F g p h ho hb
    · rw [redoP_app ho hb]
      have hl : (Q ++ [x]).length ≤ 4096 := hb ▸ hok.al
      rw [List.length_append] at hl
      exact Redo1I_at X F g p h ho Q x.1 x.2 hb hok.bl (by simp at hl; omega)
theorem BeginA_at (X : World) (F : Nat → Prop) (g : Nat) (p : Pa Int) (h : PsI X F g p) (w : ByteArray) (hw : w.size ≤ 281474976710656) :
    Calls Try.prog 23 #[.pointer (some ⟨g, 0, none⟩), .string w] X fun y Y => y = .returned (.int .i64 (beginP p w).2) ∧ ∃ G, PsI Y G g (beginP p w).1 ∧ Gr F X G Y := by
  by_cases ho : p.o.isSome = true
  · have e : beginP p w = (p, 171) := by
      unfold beginP
      cases hp : p.o with
      | none => rw [hp] at ho; cases ho
      | some _ => rfl
    rw [e]
    refine (Begin2I_at X F g p h ho w).mono ?_
    rintro y Y ⟨rfl, rfl⟩
    exact ⟨rfl, F, h, Gr.refl _ _⟩
  · have ho : p.o = none := by simpa using ho
    have e : (beginP p w).2 = 0 := by unfold beginP; rw [ho]
    rw [e]
    exact Begin0I_at X F g p h w ho hw
theorem ForgetA_at (X : World) (F : Nat → Prop) (g : Nat) (p : Pa Int) (h : PsI X F g p) :
    Calls Try.prog 24 #[.pointer (some ⟨g, 0, none⟩)] X fun y Y => y = .returned (.int .i64 (forgetP p).2) ∧ ∃ G, PsI Y G g (forgetP p).1 ∧ Gr F X G Y := by
  by_cases ho : p.o.isSome = true
  · have e : forgetP p = (p, 171) := by
      unfold forgetP
      cases hp : p.o with
      | none => rw [hp] at ho; cases ho
      | some _ => rfl
    rw [e]
    refine (Forget2I_at X F g p h ho).mono ?_
    rintro y Y ⟨rfl, rfl⟩
    exact ⟨rfl, F, h, Gr.refl _ _⟩
  · have ho : p.o = none := by simpa using ho
    have e : (forgetP p).2 = 0 := by unfold forgetP; rw [ho]
    rw [e]
    exact Forget0I_at X F g p h ho
theorem EndA_at (X : World) (F : Nat → Prop) (g : Nat) (p : Pa Int) (h : PsI X F g p) (hok : OkP p) :
    Calls Try.prog 16 #[.pointer (some ⟨g, 0, none⟩)] X fun y Y => y = .returned (.int .i64 (endP p).2) ∧ ∃ G, PsI Y G g (endP p).1 ∧ Gr F X G Y := by
  cases ho : p.o with
  | none =>
    have e : endP p = (p, 171) := by unfold endP; rw [ho]
    rw [e]
    refine (End2I_at X F g p h ho).mono ?_
    rintro y Y ⟨rfl, rfl⟩
    exact ⟨rfl, F, h, Gr.refl _ _⟩
  | some y =>
    obtain ⟨x, d⟩ := y
    have e : (endP p).2 = 0 := by unfold endP; rw [ho]
    rw [e]
    cases d with
    | false => exact EndFalseI_at X F g p h x ho
    | true => exact EndTrueI_at X F g p h x ho hok.bl

/-- one call of a script -/
structure Oq where
  k : Int
  n : Int
  w : ByteArray
def oqZ : Oq := ⟨0, 0, ⟨#[]⟩⟩
def IsQ (W : World) (a : Option Addr) (d : List Oq) : Prop := d = [] ∨ ∃ g off, a = some ⟨g, off, none⟩ ∧ g < W.heap.size ∧ ∀ k, k < d.length →
  W.cell? ⟨g, off + k * 3, none⟩ = some (.int .i64 (d.getD k oqZ).k) ∧ W.cell? ⟨g, off + k * 3 + 1, none⟩ = some (.int .i64 (d.getD k oqZ).n) ∧ W.cell? ⟨g, off + k * 3 + 2, none⟩ = some (.string (d.getD k oqZ).w)
theorem IsQ.below {W W' : World} {B : Nat} {a : Option Addr} {d : List Oq} (h : IsQ W a d) (hb : Below B W W') (hB : W.heap.size ≤ B) : IsQ W' a d := by
  rcases h with h | ⟨g, off, rfl, hg, hc⟩
  · exact Or.inl h
  · refine Or.inr ⟨g, off, rfl, Nat.lt_of_lt_of_le hg hb.size, fun k hk => ?_⟩
    obtain ⟨c0, c1, c2⟩ := hc k hk
    exact ⟨(hb.cell (p := ⟨g, off + k * 3, none⟩) (by show g < B; omega)).trans c0, (hb.cell (p := ⟨g, off + k * 3 + 1, none⟩) (by show g < B; omega)).trans c1, (hb.cell (p := ⟨g, off + k * 3 + 2, none⟩) (by show g < B; omega)).trans c2⟩
theorem IsQ.three {W : World} {a : Option Addr} {d : List Oq} (h : IsQ W a d) {k : Nat} (hk : k < d.length) : ∃ g off, a = some ⟨g, off, none⟩ ∧ g < W.heap.size ∧
    W.cell? ⟨g, off + k * 3, none⟩ = some (.int .i64 (d.getD k oqZ).k) ∧ W.cell? ⟨g, off + k * 3 + 1, none⟩ = some (.int .i64 (d.getD k oqZ).n) ∧ W.cell? ⟨g, off + k * 3 + 2, none⟩ = some (.string (d.getD k oqZ).w) := by
  rcases h with h | ⟨g, off, rfl, hg, hc⟩
  · rw [h] at hk; simp at hk
  · exact ⟨g, off, rfl, hg, hc k hk⟩
/-- what a call of a script makes of a past -/
def stP (p : Pa Int) (o : Oq) : Pa Int := if o.k = 1 then doP p o.n o.w else if o.k = 2 then (undoP p).1 else if o.k = 3 then (redoP p).1 else if o.k = 4 then (beginP p o.w).1 else if o.k = 5 then (endP p).1 else if o.k = 6 then (forgetP p).1 else p
def plP (s m : Int) (d : List Oq) : Pa Int := d.foldl stP ⟨s, m, [], [], none⟩
theorem stP_ok {p : Pa Int} (h : OkP p) (o : Oq) : OkP (stP p o) := by
  unfold stP
  split
  · exact h.do _ _
  split
  · exact h.undo
  split
  · exact h.redo
  split
  · exact h.begin _
  split
  · exact h.ends
  split
  · exact h.forget
  · exact h
theorem foldP_ok : ∀ (d : List Oq) {p : Pa Int}, OkP p → OkP (d.foldl stP p)
  | [], _, h => h
  | o :: r, _, h => foldP_ok r (stP_ok h o)
theorem plP_ok (s m : Int) (h0 : 0 ≤ m) (h1 : m ≤ 4096) (d : List Oq) : OkP (plP s m d) := foldP_ok d (OkP.new s m h0 h1)
theorem plP_take (s m : Int) (d : List Oq) {k : Nat} (hk : k < d.length) : plP s m (d.take (k + 1)) = stP (plP s m (d.take k)) (d.getD k oqZ) := by
  unfold plP
  rw [List.take_succ_eq_append_getElem hk, List.foldl_append]
  simp [List.getD, List.getElem?_eq_getElem hk]
/-- numbers that came in -/
def IsLi (W : World) (a : Option Addr) (l : List Int) : Prop := l = [] ∨ ∃ g off, a = some ⟨g, off, none⟩ ∧ g < W.heap.size ∧ ∀ k, k < l.length → W.cell? ⟨g, off + k, none⟩ = some (.int .i64 (l.getD k 0))
theorem IsLi.below {W W' : World} {B : Nat} {a : Option Addr} {l : List Int} (h : IsLi W a l) (hb : Below B W W') (hB : W.heap.size ≤ B) : IsLi W' a l := by
  rcases h with h | ⟨g, off, rfl, hg, hc⟩
  · exact .inl h
  · exact .inr ⟨g, off, rfl, Nat.lt_of_lt_of_le hg hb.size, fun k hk => (hb.cell (p := ⟨g, off + k, none⟩) (by show g < B; omega)).trans (hc k hk)⟩
theorem IsLi.one {W : World} {a : Option Addr} {l : List Int} (h : IsLi W a l) {k : Nat} (hk : k < l.length) : ∃ g off, a = some ⟨g, off, none⟩ ∧ W.cell? ⟨g, off + k, none⟩ = some (.int .i64 (l.getD k 0)) := by
  rcases h with h | ⟨g, off, rfl, hg, hc⟩
  · rw [h] at hk; simp at hk
  · exact ⟨g, off, rfl, hc k hk⟩
end Go.Proofs.Ythifdfjpfmhcpaa
