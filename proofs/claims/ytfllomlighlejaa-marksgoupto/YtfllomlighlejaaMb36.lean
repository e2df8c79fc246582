/- Layer 14, plain: passing, operation by operation. · Layer 14: shift's next. · Layer 14: passed: what lies there. · Layer 14: passed. · Layer 14: linked. · Layer 14: Over, Both, Place. · Layer 14: the document's Same (as layer 13's); the law's fixed fact (written by wip/tools/sfs.py). · Layer 14: Both (written by wip/tools/sft.py). -/
import Derived.Test.YtfllomlighlejaaMb31
import Derived.Scope
import Derived.Test.YtfllomlighlejaaMb30
import Derived.Test.YtfllomlighlejaaMb32
import Derived.Test.YtfllomlighlejaaMb29

section
namespace Go.Proofs.Ytfllomlighlejaa

/-- the first operation of a list; of none one that does nothing -/
def hdO (r : List Dop) : Dop := r.headD opZ
/-- what is left of an operation that keeps or drops -/
def cutL (o : Dop) (r : List Dop) (s : Nat) : List Dop := if s = o.n.toNat then r else ⟨o.k, o.n - s, []⟩ :: r
def OkO (l : List Dop) : Prop := ∀ o ∈ l, Pln o ∧ szO o ≤ 536870912
/-- in the midst of it -/
structure PsK (f : Bool) (C : List Atm) (la lb out : List Dop) : Prop where
  e : dA out ++ ovA f (dA la) (dA lb) = C
  q : frA (dA la) = frA (dA lb)
  a : OkO la
  b : OkO lb
  k : ∀ o ∈ out, (o.k = 1 ∨ o.k = 2 ∨ o.k = 3) ∧ 0 ≤ o.n
theorem noP {l : List Dop} (h : OkO l) (hk : (hdO l).k ≠ 2) : ∀ x r, dA l ≠ .p x :: r := fun x r e => by
  cases l with
  | nil => cases e
  | cons o l =>
    rw [dA_cons] at e
    exact hk (opA_put (h o (by simp)).1 (dA l) e)
theorem OkO.tail {o : Dop} {l : List Dop} (h : OkO (o :: l)) : OkO l := fun q hq => h q (by simp [hq])
theorem out_k {out : List Dop} (h : ∀ o ∈ out, (o.k = 1 ∨ o.k = 2 ∨ o.k = 3) ∧ 0 ≤ o.n) {y : Dop} (hy : (y.k = 1 ∨ y.k = 2 ∨ y.k = 3) ∧ 0 ≤ y.n) : ∀ o ∈ out ++ [y], (o.k = 1 ∨ o.k = 2 ∨ o.k = 3) ∧ 0 ≤ o.n := fun o ho => by
  rcases List.mem_append.1 ho with ho | ho
  · exact h o ho
  · obtain rfl : o = y := by simpa using ho
    exact hy
theorem PsK.putB {f : Bool} {C : List Atm} {la rb out : List Dop} {y : Dop} (h : PsK f C la (y :: rb) out) (hy : y.k = 2) (hc : f = true ∨ (hdO la).k ≠ 2) : PsK f C la rb (out ++ [y]) := by
  obtain ⟨p1, p2, p3⟩ := szO_p (h.b y (by simp)).1 hy
  have eo : opA y = y.t.map .p := by simp [opA, hy]
  have he := h.e
  have hq := h.q
  rw [dA_cons, eo] at he hq
  rw [ov_puts f y.t _ _ (hc.imp id fun hc => noP h.a hc), ← List.append_assoc] at he
  rw [fr_app, (fr_map_p _).1, Nat.zero_add] at hq
  refine ⟨by rw [dA_app, dA_one, eo]; exact he, hq, h.a, h.b.tail, out_k h.k ⟨.inr (.inl hy), by omega⟩⟩
theorem PsK.keepA {f : Bool} {C : List Atm} {ra lb out : List Dop} {x : Dop} (h : PsK f C (x :: ra) lb out) (hx : x.k = 2) (hc : f = false ∨ (hdO lb).k ≠ 2) : PsK f C ra lb (out ++ [⟨1, (x.t.length : Int), []⟩]) := by
  have eo : opA x = x.t.map .p := by simp [opA, hx]
  have he := h.e
  have hq := h.q
  rw [dA_cons, eo] at he hq
  rw [ov_keeps f x.t _ _ (hc.imp id fun hc => noP h.b hc), ← List.append_assoc] at he
  rw [fr_app, (fr_map_p _).1, Nat.zero_add] at hq
  refine ⟨?_, hq, h.a.tail, h.b, out_k h.k ⟨.inl rfl, by dsimp only; omega⟩⟩
  rw [dA_app, dA_one, show opA (⟨1, (x.t.length : Int), []⟩ : Dop) = List.replicate x.t.length .k by simp [opA]]
  exact he
theorem hd_kinds {l : List Dop} (h : OkO l) (h2 : (hdO l).k ≠ 2) : l = [] ∨ ∃ o r, l = o :: r ∧ (o.k = 1 ∨ o.k = 3) ∧ 1 ≤ o.n ∧ o.t = [] ∧ o.n ≤ 536870912 := by
  cases l with
  | nil => exact .inl rfl
  | cons o r =>
    have ho := h o (by simp)
    have h2 : o.k ≠ 2 := h2
    obtain ⟨s1, s2, s3⟩ := szO_k ho.1 h2
    refine .inr ⟨o, r, rfl, ?_, s3, s2, by have := ho.2; omega⟩
    rcases ho.1 with ⟨h1, _⟩ | ⟨h1, _⟩
    · exact h1
    · exact absurd h1 h2
theorem fr_posS {o : Dop} {r : List Dop} (hk : o.k = 1 ∨ o.k = 3) (hn : 1 ≤ o.n) : 1 ≤ frA (dA (o :: r)) := by
  rw [dA_cons, fr_app]
  rcases hk with hk | hk
  · rw [show opA o = List.replicate o.n.toNat .k by simp [opA, hk], (fr_rep_k _).1]; omega
  · rw [show opA o = List.replicate o.n.toNat .d by simp [opA, hk], (fr_rep_d _).1]; omega
theorem PsK.fin {f : Bool} {C : List Atm} {lb out : List Dop} (h : PsK f C [] lb out) (hb : (hdO lb).k ≠ 2) : lb = [] ∧ dA out = C := by
  have hq := h.q
  rcases hd_kinds h.b hb with rfl | ⟨o, r, rfl, hk, hn, _⟩
  · refine ⟨rfl, ?_⟩
    have := h.e
    rwa [show ovA f (dA []) (dA []) = [] from rfl, List.append_nil] at this
  · have := fr_posS (r := r) hk hn
    rw [show frA (dA ([] : List Dop)) = 0 from rfl] at hq
    omega
theorem cut_at {o : Dop} {r : List Dop} {s : Nat} (h : OkO (o :: r)) (hk : o.k = 1 ∨ o.k = 3) (hs : 1 ≤ s ∧ (s : Int) ≤ o.n) : dA (o :: r) = opA (⟨o.k, (s : Int), []⟩ : Dop) ++ dA (cutL o r s) ∧ OkO (cutL o r s) := by
  have ho := h o (by simp)
  have h2 : o.k ≠ 2 := by omega
  obtain ⟨s1, s2, s3⟩ := szO_k ho.1 h2
  have hb := ho.2
  unfold cutL
  split
  · rename_i hc
    refine ⟨?_, h.tail⟩
    rw [dA_cons]
    congr 1
    rcases hk with hk | hk <;> simp [opA, hk, hc] <;> omega
  · rename_i hc
    refine ⟨?_, fun q hq => ?_⟩
    · rw [dA_cons, dA_cons, ← List.append_assoc]
      congr 1
      rcases hk with hk | hk
      · simp only [opA, hk, if_true]; rw [List.replicate_append_replicate]; congr 1; omega
      · simp only [opA, hk, show ¬ ((3 : Int) = 1) by decide, show ¬ ((3 : Int) = 2) by decide, if_false]; rw [List.replicate_append_replicate]; congr 1; omega
    · rcases List.mem_cons.1 hq with rfl | hq
      · have hp : Pln (⟨o.k, o.n - (s : Int), []⟩ : Dop) := .inl ⟨hk, by dsimp only; omega, rfl⟩
        refine ⟨hp, ?_⟩
        have := (szO_k hp h2).1
        dsimp only at this
        omega
      · exact h.tail q hq
theorem PsK.both {f : Bool} {C : List Atm} {x y : Dop} {ra rb out : List Dop} {s : Nat} (h : PsK f C (x :: ra) (y :: rb) out) (hx : x.k = 1 ∨ x.k = 3) (hy : y.k = 1 ∨ y.k = 3) (hs : 1 ≤ s ∧ (s : Int) ≤ x.n ∧ (s : Int) ≤ y.n) :
    PsK f C (cutL x ra s) (cutL y rb s) (if x.k = 1 then out ++ [⟨y.k, (s : Int), []⟩] else out) := by
  obtain ⟨a1, a2⟩ := cut_at (s := s) h.a hx ⟨hs.1, hs.2.1⟩
  obtain ⟨b1, b2⟩ := cut_at (s := s) h.b hy ⟨hs.1, hs.2.2⟩
  have he := h.e
  have hq := h.q
  rw [a1, b1] at he hq
  have ka : opA (⟨1, (s : Int), []⟩ : Dop) = List.replicate s .k := by simp [opA]
  have kd : opA (⟨3, (s : Int), []⟩ : Dop) = List.replicate s .d := by simp [opA]
  rw [fr_app, fr_app] at hq
  rcases hx with hx | hx <;> rcases hy with hy | hy <;> rw [hx, hy] at he hq <;> simp only [ka, kd, (fr_rep_k _).1, (fr_rep_d _).1] at he hq
  · rw [ov_kk, ← List.append_assoc] at he
    rw [if_pos hx, hy]
    exact ⟨by rw [dA_app, dA_one, ka]; exact he, by omega, a2, b2, out_k h.k ⟨.inl rfl, by dsimp only; omega⟩⟩
  · rw [ov_kd, ← List.append_assoc] at he
    rw [if_pos hx, hy]
    exact ⟨by rw [dA_app, dA_one, kd]; exact he, by omega, a2, b2, out_k h.k ⟨.inr (.inr rfl), by dsimp only; omega⟩⟩
  · rw [ov_dk] at he
    rw [if_neg (by omega)]
    exact ⟨he, by omega, a2, b2, h.k⟩
  · rw [ov_dd] at he
    rw [if_neg (by omega)]
    exact ⟨he, by omega, a2, b2, h.k⟩
theorem cut_len {o : Dop} {r : List Dop} {s : Nat} (h : OkO (o :: r)) (hk : o.k = 1 ∨ o.k = 3) (hs : 1 ≤ s ∧ (s : Int) ≤ o.n) : (dA (cutL o r s)).length < (dA (o :: r)).length := by
  rw [(cut_at h hk hs).1, List.length_append]
  have : (opA (⟨o.k, (s : Int), []⟩ : Dop)).length = s := by rcases hk with hk | hk <;> simp [opA, hk]
  omega
theorem op_len1 {o : Dop} {r : List Dop} (h : OkO (o :: r)) : (dA r).length < (dA (o :: r)).length := by
  rw [dA_cons, List.length_append]
  have : 1 ≤ (opA o).length := by
    have := (szO_i (h o (by simp)).1).2
    unfold szO at this
    exact this
  omega

end Go.Proofs.Ytfllomlighlejaa
end

section
namespace Go.Proofs.Ytfllomlighlejaa
open Go.ChangeShapes Go.WideShapes Go.ChangeAt Go.RowKit
attribute [local go_sem] Oper.semAt_some



def opG (o : Dop) : Value := .agg #[.int .i64 o.k, .int .i64 o.n, .string (strOfNums o.t)]
/-- a variable that holds a list which lies there -/
structure IsLs (w X : World) (g : Nat) (r : List Dop) : Prop where
  c : ∃ a c, Cls X g 24 #[.slice a r.length c] ∧ IsO w a r ∧ r.length ≤ c
  z : w.heap.size ≤ g
end Go.Proofs.Ytfllomlighlejaa
end

section
namespace Go.Proofs.Ytfllomlighlejaa
open Go.ChangeShapes Go.WideShapes Go.ChangeAt Go.RowKit
attribute [local go_sem] Oper.semAt_some

def opC3 (o : Dop) : Array Value := #[.int .i64 o.k, .int .i64 o.n, .string (strOfNums o.t)]
def put3 (X : World) (g : Nat) (o : Dop) : World := ((X.setCell ⟨g, 0, none⟩ (.int .i64 o.k)).setCell ⟨g, 1, none⟩ (.int .i64 o.n)).setCell ⟨g, 2, none⟩ (.string (strOfNums o.t))
theorem put3_heap (X : World) (g : Nat) (o : Dop) (i : Nat) (h : i ≠ g) : (put3 X g o).heap[i]? = X.heap[i]? := by
  unfold put3
  rw [Below.heap_setCell _ ⟨g, 2, none⟩ _ i h, Below.heap_setCell _ ⟨g, 1, none⟩ _ i h, Below.heap_setCell _ ⟨g, 0, none⟩ _ i h]
theorem put3_cls {X : World} {g : Nat} {p o : Dop} (h : Cls X g 50 (opC3 p)) : Cls (put3 X g o) g 50 (opC3 o) := ((h.set 0 (.int .i64 o.k)).set 1 (.int .i64 o.n)).set 2 (.string (strOfNums o.t))
theorem put3_below {B : Nat} {w X : World} {g : Nat} (h : Below B w X) (hg : B ≤ g) (o : Dop) : Below B w (put3 X g o) :=
  ((h.setCell (p := ⟨g, 0, none⟩) hg _).setCell (p := ⟨g, 1, none⟩) hg _).setCell (p := ⟨g, 2, none⟩) hg _
theorem put3_size (X : World) (g : Nat) (o : Dop) : (put3 X g o).heap.size = X.heap.size := by unfold put3; simp
structure PsM (w : World) (g3 g4 g8 g9 BR : Nat) (X : World) (v7 : Value) (la lb out : List Dop) : Prop where
  a : IsLs w X g3 la.tail
  b : IsLs w X g4 lb.tail
  x : Cls X g8 50 (opC3 (hdO la))
  y : Cls X g9 50 (opC3 (hdO lb))
  o : X.ownsRow BR 50 3 v7 out.length (opsV out)
  l : BR ≤ X.heap.size
  d : Below w.heap.size w X
  n : (g3 ≠ g4 ∧ g3 ≠ g8 ∧ g3 ≠ g9) ∧ (g4 ≠ g8 ∧ g4 ≠ g9 ∧ g8 ≠ g9) ∧ (g3 < BR ∧ g4 < BR ∧ g8 < BR ∧ g9 < BR) ∧ w.heap.size ≤ g8 ∧ w.heap.size ≤ g9
theorem IsLs.same {w X Y : World} {g : Nat} {r : List Dop} (h : IsLs w X g r) (hs : Y.heap[g]? = X.heap[g]?) : IsLs w Y g r := by
  obtain ⟨a, c, h1, h2, h3⟩ := h.c
  exact ⟨⟨a, c, h1.same hs, h2, h3⟩, h.z⟩
theorem IsLs.lt {w X : World} {g : Nat} {r : List Dop} (h : IsLs w X g r) : g < X.heap.size := by obtain ⟨a, c, h1, _⟩ := h.c; exact h1.lt
theorem row_grown {X Y : World} {B g : Nat} {v : Value} {n : Nat} {xs : List Value} (h : X.ownsRow B 50 3 v n xs) (hg : X.grownBy Y (some g)) (hlt : g < B) : Y.ownsRow B 50 3 v n xs :=
  World.ownsRow.kept h hg (by
    by_cases hv : v.ownBlock = none
    · exact .inl hv
    · refine .inr fun e => ?_
      have := (h.lt g e).1
      omega)
theorem row_other {X : World} {B g : Nat} {v : Value} {n : Nat} {xs : List Value} (h : X.ownsRow B 50 3 v n xs) (o : Dop) (hlt : g < B) : (put3 X g o).ownsRow B 50 3 v n xs :=
  rowD_on h fun G hG => put3_heap X g o G (fun e => by have := (h.lt G hG).1; omega)
theorem PsM.nextA {w : World} {g3 g4 g8 g9 BR : Nat} {X X' : World} {v7 : Value} {la lb out : List Dop} (h : PsM w g3 g4 g8 g9 BR X v7 la lb out) (hX : X.grownBy X' (some g3)) (hl : IsLs w X' g3 la.tail.tail) : PsM w g3 g4 g8 g9 BR (put3 X' g8 (hdO la.tail)) v7 la.tail lb out := by
  obtain ⟨⟨n1, n2, n3⟩, ⟨n4, n5, n6⟩, ⟨n7, n8, n9, n10⟩, n11, n12⟩ := h.n
  have hb4 := hX.block g4 h.b.lt (fun e => n1 (by cases e; rfl))
  have hb8 := hX.block g8 h.x.lt (fun e => n2 (by cases e; rfl))
  have hb9 := hX.block g9 h.y.lt (fun e => n3 (by cases e; rfl))
  have hd : Below w.heap.size w X' := h.d.grown hX h.d.size (fun k e => by cases e; exact h.a.z)
  refine ⟨hl.same (put3_heap _ _ _ _ n2), (h.b.same hb4).same (put3_heap _ _ _ _ n4), put3_cls (h.x.same hb8), (h.y.same hb9).same (put3_heap _ _ _ _ (fun e => n6 e.symm)), row_other (row_grown h.o hX n7) _ n9, ?_, put3_below hd n11 _, h.n⟩
  rw [put3_size]
  exact Nat.le_trans h.l hX.size
theorem PsM.nextB {w : World} {g3 g4 g8 g9 BR : Nat} {X X' : World} {v7 : Value} {la lb out : List Dop} (h : PsM w g3 g4 g8 g9 BR X v7 la lb out) (hX : X.grownBy X' (some g4)) (hl : IsLs w X' g4 lb.tail.tail) : PsM w g3 g4 g8 g9 BR (put3 X' g9 (hdO lb.tail)) v7 la lb.tail out := by
  obtain ⟨⟨n1, n2, n3⟩, ⟨n4, n5, n6⟩, ⟨n7, n8, n9, n10⟩, n11, n12⟩ := h.n
  have hb3 := hX.block g3 h.a.lt (fun e => n1 (by cases e; rfl))
  have hb8 := hX.block g8 h.x.lt (fun e => n4 (by cases e; rfl))
  have hb9 := hX.block g9 h.y.lt (fun e => n5 (by cases e; rfl))
  have hd : Below w.heap.size w X' := h.d.grown hX h.d.size (fun k e => by cases e; exact h.b.z)
  refine ⟨(h.a.same hb3).same (put3_heap _ _ _ _ n3), hl.same (put3_heap _ _ _ _ n5), (h.x.same hb8).same (put3_heap _ _ _ _ n6), put3_cls (h.y.same hb9), row_other (row_grown h.o hX n8) _ n10, ?_, put3_below hd n12 _, h.n⟩
  rw [put3_size]
  exact Nat.le_trans h.l hX.size
theorem PsM.setA {w : World} {g3 g4 g8 g9 BR : Nat} {X : World} {v7 : Value} {x : Dop} {ra lb out : List Dop} (h : PsM w g3 g4 g8 g9 BR X v7 (x :: ra) lb out) (m : Int) : PsM w g3 g4 g8 g9 BR (X.setCell ⟨g8, 1, none⟩ (.int .i64 m)) v7 (⟨x.k, m, x.t⟩ :: ra) lb out := by
  obtain ⟨⟨n1, n2, n3⟩, ⟨n4, n5, n6⟩, ⟨n7, n8, n9, n10⟩, n11, n12⟩ := h.n
  have hh : ∀ i, i ≠ g8 → (X.setCell ⟨g8, 1, none⟩ (.int .i64 m)).heap[i]? = X.heap[i]? := fun i hi => Below.heap_setCell X ⟨g8, 1, none⟩ _ i hi
  refine ⟨h.a.same (hh _ n2), h.b.same (hh _ n4), h.x.set 1 (.int .i64 m), h.y.same (hh _ (fun e => n6 e.symm)), rowD_on h.o fun G hG => hh G (fun e => by have := (h.o.lt G hG).1; omega), by rw [setCell_size]; exact h.l, h.d.setCell (p := ⟨g8, 1, none⟩) n11 _, h.n⟩
theorem PsM.setB {w : World} {g3 g4 g8 g9 BR : Nat} {X : World} {v7 : Value} {y : Dop} {la rb out : List Dop} (h : PsM w g3 g4 g8 g9 BR X v7 la (y :: rb) out) (m : Int) : PsM w g3 g4 g8 g9 BR (X.setCell ⟨g9, 1, none⟩ (.int .i64 m)) v7 la (⟨y.k, m, y.t⟩ :: rb) out := by
  obtain ⟨⟨n1, n2, n3⟩, ⟨n4, n5, n6⟩, ⟨n7, n8, n9, n10⟩, n11, n12⟩ := h.n
  have hh : ∀ i, i ≠ g9 → (X.setCell ⟨g9, 1, none⟩ (.int .i64 m)).heap[i]? = X.heap[i]? := fun i hi => Below.heap_setCell X ⟨g9, 1, none⟩ _ i hi
  refine ⟨h.a.same (hh _ n3), h.b.same (hh _ n5), h.x.same (hh _ n6), h.y.set 1 (.int .i64 m), rowD_on h.o fun G hG => hh G (fun e => by have := (h.o.lt G hG).1; omega), by rw [setCell_size]; exact h.l, h.d.setCell (p := ⟨g9, 1, none⟩) n12 _, h.n⟩
theorem PsM.push {w : World} {g3 g4 g8 g9 BR : Nat} {X : World} {v7 : Value} {la lb out : List Dop} (h : PsM w g3 g4 g8 g9 BR X v7 la lb out) (hl : out.length ≤ 1099511627776) (k n : Int) (s : ByteArray) (z : Dop) (hz : opL z = [.int .i64 k, .int .i64 n, .string s]) :
    ∃ v' W', (Builtin.append_ #[24, 24] 24 #[v7, .slice (some ⟨X.heap.size, 0, none⟩) 1 1]).run Try.prog (X.alloc (.cells #[.int .i64 k, .int .i64 n, .string s] 50)) = .ok v' W' ∧ PsM w g3 g4 g8 g9 BR W' v' la lb (out ++ [z]) := by
  obtain ⟨g, c, W', r, o, gr, b⟩ := push_op X BR out.length v7 (opsV out) k n s 24 h.o hl h.l
  rw [← hz, ← opsV_one, ← opsV_app] at o
  obtain ⟨⟨n1, n2, n3⟩, ⟨n4, n5, n6⟩, ⟨n7, n8, n9, n10⟩, n11, n12⟩ := h.n
  have hw : w.heap.size ≤ BR := by have := h.a.z; omega
  refine ⟨_, W', r, h.a.same (b.block g3 n7), h.b.same (b.block g4 n8), h.x.same (b.block g8 n9), h.y.same (b.block g9 n10), ?_, Nat.le_trans h.l b.size, h.d.trans (b.mono hw), h.n⟩
  rw [show (out ++ [z]).length = out.length + 1 by simp]
  exact o
theorem PsM.cells {w : World} {g3 g4 g8 g9 BR : Nat} {X : World} {v7 : Value} {la lb out : List Dop} (h : PsM w g3 g4 g8 g9 BR X v7 la lb out) : (X.cell? ⟨g8, 0, none⟩ = some (.int .i64 (hdO la).k) ∧ X.cell? ⟨g8, 1, none⟩ = some (.int .i64 (hdO la).n) ∧ X.cell? ⟨g8, 2, none⟩ = some (.string (strOfNums (hdO la).t))) ∧ (X.cell? ⟨g9, 0, none⟩ = some (.int .i64 (hdO lb).k) ∧ X.cell? ⟨g9, 1, none⟩ = some (.int .i64 (hdO lb).n) ∧ X.cell? ⟨g9, 2, none⟩ = some (.string (strOfNums (hdO lb).t))) ∧ (∀ j, X.frozen? ⟨g8, j, none⟩ = false) ∧ (∀ j, X.frozen? ⟨g9, j, none⟩ = false) := by
  refine ⟨⟨h.x.cell 0, h.x.cell 1, h.x.cell 2⟩, ⟨h.y.cell 0, h.y.cell 1, h.y.cell 2⟩, fun j => ?_, fun j => ?_⟩
  · have : X.heap[g8]? = _ := h.x
    simp [World.frozen?, this]
  · have : X.heap[g9]? = _ := h.y
    simp [World.frozen?, this]

end Go.Proofs.Ytfllomlighlejaa
end

section
namespace Go.Proofs.Ytfllomlighlejaa
open Go.ChangeShapes Go.WideShapes Go.ChangeAt Go.RowKit
attribute [local go_sem] Oper.semAt_some

theorem PsM.midA {w : World} {g3 g4 g8 g9 BR : Nat} {X X' : World} {v7 : Value} {la lb out : List Dop} (h : PsM w g3 g4 g8 g9 BR X v7 la lb out) (hX : X.grownBy X' (some g3)) : X'.cell? ⟨g8, 0, none⟩ = some (.int .i64 (hdO la).k) ∧ X'.cell? ⟨g8, 1, none⟩ = some (.int .i64 (hdO la).n) ∧ X'.cell? ⟨g8, 2, none⟩ = some (.string (strOfNums (hdO la).t)) ∧ X'.frozen? ⟨g8, 0, none⟩ = false ∧ X'.frozen? ⟨g8, 1, none⟩ = false ∧ X'.frozen? ⟨g8, 2, none⟩ = false := by
  have k := h.x.same (hX.block g8 h.x.lt (fun e => h.n.1.2.1 (Option.some.inj e).symm))
  have hh : X'.heap[g8]? = _ := k
  exact ⟨k.cell 0, k.cell 1, k.cell 2, by simp [World.frozen?, hh], by simp [World.frozen?, hh], by simp [World.frozen?, hh]⟩
theorem PsM.midB {w : World} {g3 g4 g8 g9 BR : Nat} {X X' : World} {v7 : Value} {la lb out : List Dop} (h : PsM w g3 g4 g8 g9 BR X v7 la lb out) (hX : X.grownBy X' (some g4)) : X'.cell? ⟨g9, 0, none⟩ = some (.int .i64 (hdO lb).k) ∧ X'.cell? ⟨g9, 1, none⟩ = some (.int .i64 (hdO lb).n) ∧ X'.cell? ⟨g9, 2, none⟩ = some (.string (strOfNums (hdO lb).t)) ∧ X'.frozen? ⟨g9, 0, none⟩ = false ∧ X'.frozen? ⟨g9, 1, none⟩ = false ∧ X'.frozen? ⟨g9, 2, none⟩ = false := by
  have k := h.y.same (hX.block g9 h.y.lt (fun e => h.n.2.1.2.1 (Option.some.inj e).symm))
  have hh : X'.heap[g9]? = _ := k
  exact ⟨k.cell 0, k.cell 1, k.cell 2, by simp [World.frozen?, hh], by simp [World.frozen?, hh], by simp [World.frozen?, hh]⟩
end Go.Proofs.Ytfllomlighlejaa
end

section
namespace Go.Proofs.Ytfllomlighlejaa
open Go.ChangeShapes Go.WideShapes Go.ChangeAt Go.RowKit
attribute [local go_sem] Oper.semAt_some

/-- does each begin where the one ahead of it ends? -/
def lkF : Nat → List Dl → Bool
  | _, [] => true
  | n, a :: r => decide (frD a.d = n) && lkF (toD a.d) r
def lkE (ds : List Dl) (e : List Dop) : Int := if valB e = true then (if ds.all (fun x => valB x.d) = true then (if lkF (frD e) ds = true then 0 else 131) else 130) else 130
theorem drop_dl {ds : List Dl} {k : Nat} (hk : k < ds.length) : ds.drop k = ds.getD k dlZ :: ds.drop (k + 1) := by
  rw [List.drop_eq_getElem_cons hk]; simp [List.getD, List.getElem?_eq_getElem hk]
theorem mem_dl {ds : List Dl} {k : Nat} (hk : k < ds.length) : ds.getD k dlZ ∈ ds := by
  rw [List.getD_eq_getElem?_getD, List.getElem?_eq_getElem hk]; exact List.getElem_mem hk
end Go.Proofs.Ytfllomlighlejaa
end

section
namespace Go.Proofs.Ytfllomlighlejaa
open Go.ChangeShapes Go.WideShapes Go.ChangeAt Go.RowKit
attribute [local go_sem] Oper.semAt_some

/-- what Over answers -/
def ovE (d e : List Dop) (f : Bool) : Int := if valB d && valB e then (if frD d = frD e then (if 268435456 < toA (ovA f (dA d) (dA e)) then 5 else 0) else 131) else 130
def ovD (d e : List Dop) (f : Bool) : List Dop := if ovE d e f = 0 then canA (ovA f (dA d) (dA e)) else []
theorem lk_one (a : Option Addr) (c : Nat) (d e : List Dop) : lkE [⟨a, c, d⟩] e = if valB d && valB e then (if frD d = frD e then 0 else 131) else 130 := by
  unfold lkE
  cases h1 : valB d <;> cases h2 : valB e <;> simp [lkF, h1]
/-- Canon of what passed makes -/
theorem over_can {d e out : List Dop} {f : Bool} (hv : valB d = true) (hv' : valB e = true) (hf : frD d = frD e) (h : dA out = ovA f (dA d) (dA e)) (hk : ∀ o ∈ out, (o.k = 1 ∨ o.k = 2 ∨ o.k = 3) ∧ 0 ≤ o.n) : canD out = (ovD d e f, ovE d e f) := by
  have k := frA_dA (fun o ho => (hk o ho).1)
  have q : frA (dA d) = frA (dA e) := by rw [(frA_dA (valB_k hv)).1, (frA_dA (valB_k hv')).1, hf]
  have hfr := ov_fr f _ (dA d) (dA e) (Nat.le_refl _) q
  rw [(frA_dA (valB_k hv)).2] at hfr
  have h1 := (valB_nn hv).2.2
  have hkn : out.all knB = true := List.all_eq_true.2 fun o ho => by
    obtain ⟨k1, k2⟩ := hk o ho
    rcases k1 with k1 | k1 | k1 <;> simp [knB, k1] <;> omega
  have hlo : lonB out = decide (268435456 < toA (ovA f (dA d) (dA e))) := by
    unfold lonB
    rw [decide_eq_decide, ← k.1, ← k.2, h, hfr]
    omega
  have he : ovE d e f = if 268435456 < toA (ovA f (dA d) (dA e)) then 5 else 0 := by unfold ovE; rw [hv, hv', hf]; simp
  unfold canD ovD
  rw [hkn, hlo, he, h]
  by_cases hc : 268435456 < toA (ovA f (dA d) (dA e))
  · simp [hc]
  · simp [hc]
end Go.Proofs.Ytfllomlighlejaa
end

section
namespace Go.Proofs.Ytfllomlighlejaa
open Go.ChangeShapes Go.WideShapes Go.ChangeAt Go.RowKit
attribute [local go_sem] Oper.semAt_some

set_option maxRecDepth 100000 in
set_option maxHeartbeats 2000000 in
theorem RSame14_at (a : Option Addr) (c : Nat) (d : List Dop) (a' : Option Addr) (c' : Nat) (e : List Dop) (w : World) (h : IsO w a d) (h' : IsO w a' e) (hl : d.length ≤ 4611686018427387904) (_hl' : e.length ≤ 4611686018427387904) (hb : ∀ o ∈ d, TbD o) (hb' : ∀ o ∈ e, TbD o) :
    Calls Try.prog 15 #[.slice a d.length c, .slice a' e.length c'] w fun y w' => y = .returned (.bool (decide (d = e))) ∧ Below w.heap.size w w' := by
  have HO := hide fun (X : World) (hx : Below w.heap.size w X) => h.below hx (Nat.le_refl _)
  have HO' := hide fun (X : World) (hx : Below w.heap.size w X) => h'.below hx (Nat.le_refl _)
  by_cases hlen : d.length = e.length
  case neg =>
    have HV : Hid (decide (d = e) = false) := hide (decide_eq_false fun he => hlen (by rw [he]))
    have t1 : ((d.length : Int) != (e.length : Int)) = true := by simp; omega
    have t2 : ¬ d.length = e.length := hlen
    have t3 : (d.length == e.length) = false := by simpa using hlen
    clear h h' hb hb' hlen HO HO'
    rw [unhide HV]
    go_enter Try.func15, Try.ntmps15
    go_wp2_with fail
    refine bodyPost_ret (results_tmp rfl _ _ _) rfl ⟨rfl, Below.refl _ _⟩
  obtain ⟨V, hV⟩ : ∃ V, V = decide (d = e) := ⟨_, rfl⟩
  rw [← hV]
  have HV := hide hV
  have HL := hide hlen
  have HBB := hide (And.intro hb hb')
  obtain ⟨N, hN⟩ : ∃ N, N = d.length := ⟨_, rfl⟩
  have hN' : N = e.length := by rw [hN, hlen]
  have HN := hide (And.intro hN hN')
  rw [← hN, ← hN']
  have hNl : N ≤ 4611686018427387904 := by omega
  clear h h' hb hb' hlen hV hN hN' hl
  go_enter Try.func15, Try.ntmps15
  go_wp2_with fail
  go_loopw [5] (fun v5 wx => (∃ k : Nat, v5 = .int .i64 (k : Int) ∧ k ≤ N ∧ Hid (d.take k = e.take k)) ∧ Hid (Below w.heap.size w wx)) (fun v5 _ => N - (intOf v5).toNat)
  case atStart => exact ⟨⟨0, rfl, Nat.zero_le _, hide rfl⟩, hide (Below.refl _ _)⟩
  case round =>
    obtain ⟨⟨k, rfl, hk, HK⟩, HB⟩ := hrel
    by_cases hlt : k < N
    · have t1 : decide ((k : Int) < (N : Int)) = true := decide_eq_true (by omega)
      have hd1 : k < d.length := by rw [← (unhide HN).1]; exact hlt
      have he1 : k < e.length := by rw [← (unhide HN).2]; exact hlt
      obtain ⟨g, off, rfl, hg, c0, c1, c2⟩ := (unhide HO wr (unhide HB)).three hd1
      obtain ⟨g', off', rfl, hg', e0, e1, e2⟩ := (unhide HO' wr (unhide HB)).three he1
      have HQ := hide (op_neq ((unhide HBB).1 _ (getD_memE hd1)) ((unhide HBB).2 _ (getD_memE he1)))
      have HTK := hide (take_eqD hd1 he1 (unhide HK))
      have HNE : Hid (d.getD k opZ ≠ e.getD k opZ → d ≠ e) := hide fun h1 h2 => h1 (by rw [h2])
      generalize d.getD k opZ = x at *
      generalize e.getD k opZ = y at *
      obtain ⟨xk, xn, xt⟩ := x
      obtain ⟨yk, yn, yt⟩ := y
      dsimp only at c0 c1 c2 e0 e1 e2 HQ
      generalize hst : strOfNums xt = st at *
      generalize hsu : strOfNums yt = su at *
      have HST := hide hst
      have HSU := hide hsu
      clear hst hsu
      clear hd1 he1 hg hg' HK
      have HB1 := hide (unhide HB).drew
      clear HB
      rcases unhide HQ with hxy | ⟨hxy, hq⟩
      · have HK2 := hide (unhide HTK hxy)
        cases hxy
        have hst : st = su := by rw [← unhide HST, ← unhide HSU]
        subst hst
        clear HTK HNE HQ HST HSU
        go_upto_region 6 with fail
        go_region
        go_wp2_with fail
        go_roundw
        case rel => exact ⟨⟨k + 1, by go_num, hlt, HK2⟩, HB1⟩
        case measure => simp [intOf]; omega
      · have HV2 : Hid (V = false) := hide (by rw [unhide HV]; exact decide_eq_false (unhide HNE hxy))
        clear HTK HNE HQ hxy HST HSU
        rcases hq with hq | ⟨rfl, hq⟩ | ⟨rfl, rfl, hq⟩
        all_goals
          go_upto_region 6 with fail
          go_region
          go_wp2_with fail
          rw [unhide HV2]
          refine bodyPost_ret (results_tmp rfl _ _ _) rfl ⟨rfl, unhide HB1⟩
    · obtain rfl : k = N := by omega
      have t1 : decide ((k : Int) < (k : Int)) = false := decide_eq_false (by omega)
      have HV2 : Hid (V = true) := hide (by
        rw [unhide HV]
        refine decide_eq_true ?_
        have := unhide HK
        rw [(unhide HN).1, List.take_length, ← (unhide HN).1, (unhide HN).2, List.take_length] at this
        exact this)
      clear HK hk
      go_wp2_with fail
      rw [unhide HV2]
      refine bodyPost_ret (results_tmp rfl _ _ _) rfl ⟨rfl, unhide HB⟩

theorem lit_isO (X : World) (ds : List Dop) (cs : Array Value) (h : cs.toList = opsV ds) : IsO (X.alloc (.cells cs 50)) (some ⟨X.heap.size, 0, none⟩) ds := by
  refine Or.inr ⟨_, _, rfl, by simp, fun k hk => ?_⟩
  have f : ∀ j, (X.alloc (.cells cs 50)).cell? ⟨X.heap.size, j, none⟩ = cs[j]? := fun j => World.cell?_alloc_mark X _ _ (0, 0) j
  have g : ∀ j, j < 3 → cs[k * 3 + j]? = (opL (ds.getD k opZ))[j]? := fun j hj => by
    rw [← opsV_get ds k j hk hj, ← h, Array.getElem?_toList]
  refine ⟨?_, ?_, ?_⟩
  · rw [Nat.zero_add, f]; exact g 0 (by decide)
  · rw [Nat.zero_add, f]; exact g 1 (by decide)
  · rw [Nat.zero_add, f]; exact g 2 (by decide)
def exC14 : List Dop := [⟨1, 2, []⟩, ⟨2, 0, [122]⟩, ⟨1, 4, []⟩]
def exX14 : List Dop := [⟨1, 2, []⟩, ⟨2, 0, [122]⟩, ⟨1, 5, []⟩]
def exY14 : List Dop := [⟨1, 4, []⟩, ⟨2, 0, [122]⟩, ⟨1, 3, []⟩]
theorem ex14_t : ovE exD exC14 true = 0 ∧ ovD exD exC14 true = exX14 := by decide
theorem ex14_f : ovE exD exC14 false = 0 ∧ ovD exD exC14 false = exY14 := by decide
theorem ex14_l : plE exD 3 1 = 0 ∧ plV exD 3 1 = 2 := by decide
theorem ex14_r : plE exD 3 2 = 0 ∧ plV exD 3 2 = 4 := by decide
theorem ex14_b : (∀ o ∈ exX14, TbD o) ∧ (∀ o ∈ exY14, TbD o) := by unfold TbD; decide
end Go.Proofs.Ytfllomlighlejaa
end

section
namespace Go.Proofs.Ytfllomlighlejaa
open Go.ChangeShapes Go.WideShapes Go.ChangeAt Go.RowKit
attribute [local go_sem] Oper.semAt_some

def boE (d e : List Dop) : Int := if ovE e d true = 0 then ovE d e false else ovE e d true
def boA (d e : List Dop) : List Dop := if boE d e = 0 then ovD e d true else []
def boB (d e : List Dop) : List Dop := if boE d e = 0 then ovD d e false else []
/-- what Over answers where all is well -/
structure OvK (d e : List Dop) (f : Bool) : Prop where
  v1 : valB d = true
  v2 : valB e = true
  q : frD d = frD e
  l : toA (ovA f (dA d) (dA e)) ≤ 268435456
  c : ovD d e f = canA (ovA f (dA d) (dA e))
  v : valB (ovD d e f) = true
  fr : frD (ovD d e f) = toD d
  tt : toD (ovD d e f) = toA (ovA f (dA d) (dA e))
  a : dA (ovD d e f) = nfA (ovA f (dA d) (dA e))
theorem ov_ok {d e : List Dop} {f : Bool} (h : ovE d e f = 0) : OvK d e f := by
  have hd : ovD d e f = canA (ovA f (dA d) (dA e)) := by unfold ovD; rw [if_pos h]
  unfold ovE at h
  split at h
  · rename_i hv
    have hv1 : valB d = true := by revert hv; cases valB d <;> simp
    have hv2 : valB e = true := by revert hv; cases valB e <;> simp
    split at h
    · rename_i hf
      split at h
      · cases h
      · rename_i hl
        have q : frA (dA d) = frA (dA e) := by rw [(frA_dA (valB_k hv1)).1, (frA_dA (valB_k hv2)).1, hf]
        have hfr := ov_fr f _ (dA d) (dA e) (Nat.le_refl _) q
        rw [(frA_dA (valB_k hv1)).2] at hfr
        have h1 := (valB_nn hv1).2.2
        obtain ⟨c1, c2, c3, c4⟩ := canA_val (u := ovA f (dA d) (dA e)) (by omega) (by omega)
        exact ⟨hv1, hv2, hf, by omega, hd, by rw [hd]; exact c1, by rw [hd, c2]; exact hfr, by rw [hd]; exact c3, by rw [hd]; exact c4⟩
    · cases h
  · cases h
theorem bo_ok {d e : List Dop} (h : boE d e = 0) : OvK e d true ∧ OvK d e false ∧ boA d e = ovD e d true ∧ boB d e = ovD d e false := by
  have hA : boA d e = ovD e d true := by unfold boA; rw [if_pos h]
  have hB : boB d e = ovD d e false := by unfold boB; rw [if_pos h]
  unfold boE at h
  split at h
  · rename_i h1
    exact ⟨ov_ok h1, ov_ok h, hA, hB⟩
  · rename_i h1
    exact absurd h h1
/-- both orders make one delta -/
theorem bo_meet {d e : List Dop} (h : boE d e = 0) : TwoD d (boB d e) ∧ TwoD e (boA d e) ∧ cmD d (boB d e) = cmD e (boA d e) := by
  obtain ⟨o1, o2, eA, eB⟩ := bo_ok h
  rw [eA, eB]
  have t1 := two_ok o2.v1 o2.v o2.fr.symm
  have t2 := two_ok o1.v1 o1.v o1.fr.symm
  refine ⟨t1, t2, ?_⟩
  rw [t1.d, t2.d]
  refine canA_congr ?_
  rw [o2.a, o1.a, cmp_nf_right, cmp_nf_right]
  exact ov_meet _ _ _ (Nat.le_refl _) (by rw [(frA_dA (valB_k o2.v1)).1, (frA_dA (valB_k o2.v2)).1, o2.q])

end Go.Proofs.Ytfllomlighlejaa
end
