/- Layer 14: shift's next. · Layer 14: passed: what lies there. -/
import Derived.Test.YtkmbkoajbmlgaaaMg38
import Derived.Scope
import Derived.Test.YtkmbkoajbmlgaaaMg34

section
namespace Go.Proofs.Ytkmbkoajbmlgaaa
open Go.ChangeShapes Go.WideShapes Go.ChangeAt Go.RowKit
attribute [local go_sem] Oper.semAt_some



def opG (o : Dop) : Value := .agg #[.int .i64 o.k, .int .i64 o.n, .string (strOfNums o.t)]
/-- a variable that holds a list which lies there -/
structure IsLs (w X : World) (g : Nat) (r : List Dop) : Prop where
  c : ∃ a c, Cls X g 24 #[.slice a r.length c] ∧ IsO w a r ∧ r.length ≤ c
  z : w.heap.size ≤ g
set_option maxRecDepth 100000 in
set_option maxHeartbeats 2000000 in
theorem next_at (w X : World) (g : Nat) (r : List Dop) (h : IsLs w X g r) (hd : Below w.heap.size w X) :
    Calls Try.prog 92 #[.pointer (some ⟨g, 0, none⟩)] X fun y X' => y = .returned (opG (hdO r)) ∧ IsLs w X' g r.tail ∧ X.grownBy X' (some g) := by
  obtain ⟨a, c, h1, h2, h3⟩ := h.c
  have hz := h.z
  have c0 : X.cell? ⟨g, 0, none⟩ = some (.slice a r.length c) := h1.cell 0
  cases r with
  | nil =>
    have b0 := (Cls.alloc h1 (.cells #[.int .i64 0, .int .i64 0, .string ⟨#[]⟩] 34))
    have c1 : (X.alloc (.cells #[.int .i64 0, .int .i64 0, .string ⟨#[]⟩] 34)).cell? ⟨g, 0, none⟩ = some (.slice a 0 c) := b0.cell 0
    have HR : Hid (IsLs w (X.alloc (.cells #[.int .i64 0, .int .i64 0, .string ⟨#[]⟩] 34)) g []) := hide ⟨⟨a, c, b0, h2, h3⟩, hz⟩
    have hG := World.grownBy_alloc X (.cells #[.int .i64 0, .int .i64 0, .string ⟨#[]⟩] 34) (some g)
    have HG := hide hG
    obtain ⟨q0, q1, q2⟩ := three_nwD X (.int .i64 0) (.int .i64 0) (.string ⟨#[]⟩) (t := 34)
    clear h h1 h2 h3 hz hd c0 b0 hG
    go_enter Try.func92, Try.ntmps92
    go_wp2_with fail
    exact bodyPost_ret (v := opG (hdO [])) (by simp [results, Try.results92, go_sem, q0, q1, q2, opG, hdO, opZ]; rfl) rfl ⟨rfl, unhide HR, unhide HG⟩
  | cons o r =>
    obtain ⟨ga, off, hga, hg, e0, e1, e2⟩ := (h2.below hd (Nat.le_refl _)).three (k := 0) (by simp)
    subst hga
    have hT := h2.tail h3
    rw [Option.map_some, Addr.add_lit] at hT
    simp only [List.getD_cons_zero, Nat.zero_mul, Nat.add_zero] at e0 e1 e2
    have hgl : ga < w.heap.size := by
      rcases h2 with h2 | ⟨g', off', e, hh, _⟩
      · cases h2
      · cases e; exact hh
    have k1 : Cls (X.alloc (.cells #[.int .i64 0, .int .i64 0, .string ⟨#[]⟩] 34)) g 24 #[.slice (some ⟨ga, off, none⟩) (o :: r).length c] := Cls.alloc h1 _
    have kR : Cls (X.alloc (.cells #[.int .i64 0, .int .i64 0, .string ⟨#[]⟩] 34)) X.heap.size 34 #[.int .i64 0, .int .i64 0, .string ⟨#[]⟩] := Cls.new X _ _
    have bX : Below X.heap.size X (X.alloc (.cells #[.int .i64 0, .int .i64 0, .string ⟨#[]⟩] 34)) := (Below.refl _ _).alloc (Nat.le_refl _) _
    have f0 : (X.alloc (.cells #[.int .i64 0, .int .i64 0, .string ⟨#[]⟩] 34)).cell? ⟨ga, off, none⟩ = some (.int .i64 o.k) := by rw [bX.cell (p := ⟨ga, off, none⟩) hg]; exact e0
    have f1 : (X.alloc (.cells #[.int .i64 0, .int .i64 0, .string ⟨#[]⟩] 34)).cell? ⟨ga, off + 1, none⟩ = some (.int .i64 o.n) := by rw [bX.cell (p := ⟨ga, off + 1, none⟩) hg]; exact e1
    have f2 : (X.alloc (.cells #[.int .i64 0, .int .i64 0, .string ⟨#[]⟩] 34)).cell? ⟨ga, off + 2, none⟩ = some (.string (strOfNums o.t)) := by rw [bX.cell (p := ⟨ga, off + 2, none⟩) hg]; exact e2
    have hG := World.grownBy_alloc X (.cells #[.int .i64 0, .int .i64 0, .string ⟨#[]⟩] 34) (some g)
    have hgX : g < X.heap.size := h1.lt
    clear h h1 c0 e0 e1 e2 bX
    have hl1 : 0 < (o :: r).length := by simp
    obtain ⟨ok, on, ot⟩ := o
    dsimp only at f0 f1 f2
    have HG := hide hG
    have HKR := hide kR
    have HK1 := hide k1
    have HT := hide hT
    have c1 : (X.alloc (.cells #[.int .i64 0, .int .i64 0, .string ⟨#[]⟩] 34)).cell? ⟨g, 0, none⟩ = some (.slice (some ⟨ga, off, none⟩) (Dop.mk ok on ot :: r).length c) := k1.cell 0
    have HZ := hide (And.intro hz hgX)
    clear hG kR k1 hT hz hd h2 hgl hgX
    go_enter Try.func92, Try.ntmps92
    go_upto_region 1 with fail
    generalize X.alloc (.cells #[.int .i64 0, .int .i64 0, .string ⟨#[]⟩] 34) = W1 at *
    have hlen : (Dop.mk ok on ot :: r).length = r.length + 1 := rfl
    have t0 : (((r.length : Int) + 1) == 0) = false := by simp; omega
    have t0' : ((((Dop.mk ok on ot :: r).length : Nat) : Int) == 0) = false := by simp; omega
    go_upto_region 4 with fail
    have k2 := Cls.alloc (unhide HK1) (.cells #[.int .i64 ok, .int .i64 on, .string (strOfNums ot)] 34)
    have kr2 := Cls.alloc (unhide HKR) (.cells #[.int .i64 ok, .int .i64 on, .string (strOfNums ot)] 34)
    have kn2 := Cls.new W1 34 #[.int .i64 ok, .int .i64 on, .string (strOfNums ot)]
    have hg2 := grown_trans (unhide HG) (World.grownBy_alloc W1 (.cells #[.int .i64 ok, .int .i64 on, .string (strOfNums ot)] 34) none) (fun k e => by cases e)
    have hne1 : X.heap.size ≠ W1.heap.size := by have := (unhide HKR).lt; omega
    have hne2 : g ≠ W1.heap.size := by have := (unhide HK1).lt; omega
    have hne3 : g ≠ X.heap.size := by have := (unhide HZ).2; omega
    clear f0 f1 f2 c1 HK1 HKR HG
    generalize W1.alloc (.cells #[.int .i64 ok, .int .i64 on, .string (strOfNums ot)] 34) = W2 at *
    generalize W1.heap.size = g2 at *
    have HXG := hide (Nat.le_refl X.heap.size)
    have c2 : W2.cell? ⟨g, 0, none⟩ = some (.slice (some ⟨ga, off, none⟩) (Dop.mk ok on ot :: r).length c) := k2.cell 0
    have fz : W2.frozen? ⟨g, 0, none⟩ = false := by
      have : W2.heap[g]? = _ := k2
      simp [World.frozen?, this]
    have HK2 := hide k2
    have HKR2 := hide kr2
    have HKN2 := hide kn2
    have HG2 := hide hg2
    clear k2 kr2 kn2 hg2
    go_upto_region 5 with fail
    have k3 : Cls (W2.setCell ⟨g, 0, none⟩ (.slice (if c = 1 then some ⟨ga, off, none⟩ else some ⟨ga, off + 3, none⟩) r.length (c - 1))) g 24 #[.slice (if c = 1 then some ⟨ga, off, none⟩ else some ⟨ga, off + 3, none⟩) r.length (c - 1)] := (unhide HK2).set 0 (.slice (if c = 1 then some ⟨ga, off, none⟩ else some ⟨ga, off + 3, none⟩) r.length (c - 1))
    have kr3 := (unhide HKR2).other ⟨g, 0, none⟩ (.slice (if c = 1 then some ⟨ga, off, none⟩ else some ⟨ga, off + 3, none⟩) r.length (c - 1)) (fun e => hne3 e.symm)
    have kn3 := (unhide HKN2).other ⟨g, 0, none⟩ (.slice (if c = 1 then some ⟨ga, off, none⟩ else some ⟨ga, off + 3, none⟩) r.length (c - 1)) (fun e => hne2 e.symm)
    have hg3 := grown_trans (unhide HG2) (grown_set W2 g 0 (.slice (if c = 1 then some ⟨ga, off, none⟩ else some ⟨ga, off + 3, none⟩) r.length (c - 1))) (fun k e => .inl (by cases e; rfl))
    clear c2 fz HK2 HKR2 HKN2 HG2
    have HR3 : Hid (IsLs w (W2.setCell ⟨g, 0, none⟩ (.slice (if c = 1 then some ⟨ga, off, none⟩ else some ⟨ga, off + 3, none⟩) r.length (c - 1))) g r) := hide ⟨⟨_, c - 1, k3, unhide HT, by simp only [List.length_cons] at h3; omega⟩, (unhide HZ).1⟩
    have HK3 := hide k3
    clear k3 HR3
    generalize W2.setCell ⟨g, 0, none⟩ (.slice (if c = 1 then some ⟨ga, off, none⟩ else some ⟨ga, off + 3, none⟩) r.length (c - 1)) = W3 at *
    have HCT := hide (And.intro (unhide HT) (show r.length ≤ c - 1 by simp only [List.length_cons] at h3; omega))
    clear HT h3
    generalize (if c = 1 then some (⟨ga, off, none⟩ : Addr) else some ⟨ga, off + 3, none⟩) = aq at *
    generalize c - 1 = cq at *
    have m0 : W3.cell? ⟨g2, 0, none⟩ = some (.int .i64 ok) := kn3.cell 0
    have m1 : W3.cell? ⟨g2, 1, none⟩ = some (.int .i64 on) := kn3.cell 1
    have m2 : W3.cell? ⟨g2, 2, none⟩ = some (.string (strOfNums ot)) := kn3.cell 2
    have r0 : W3.cell? ⟨X.heap.size, 0, none⟩ = some (.int .i64 0) := kr3.cell 0
    have r1 : W3.cell? ⟨X.heap.size, 1, none⟩ = some (.int .i64 0) := kr3.cell 1
    have r2 : W3.cell? ⟨X.heap.size, 2, none⟩ = some (.string ⟨#[]⟩) := kr3.cell 2
    have zf : ∀ j, W3.frozen? ⟨X.heap.size, j, none⟩ = false := fun j => by
      have : W3.heap[X.heap.size]? = _ := kr3
      simp [World.frozen?, this]
    have z0 := zf 0
    have z1 := zf 1
    have z2 := zf 2
    have HKR3 := hide kr3
    have HG3 := hide hg3
    clear kr3 kn3 hg3 zf
    clear t0 t0'
    go_wp2_with fail
    have k4 := (((unhide HKR3).set 0 (.int .i64 ok)).set 1 (.int .i64 on)).set 2 (.string (strOfNums ot))
    have b4 := (((unhide HK3).other ⟨X.heap.size, 0, none⟩ (.int .i64 ok) hne3).other ⟨X.heap.size, 1, none⟩ (.int .i64 on) hne3).other ⟨X.heap.size, 2, none⟩ (.string (strOfNums ot)) hne3
    have g4 := grown_trans (grown_trans (grown_trans (unhide HG3) (grown_set W3 (X.heap.size) 0 (.int .i64 ok)) (fun k e => by cases e; exact .inr (unhide HXG))) (grown_set _ (X.heap.size) 1 (.int .i64 on)) (fun k e => by cases e; exact .inr (unhide HXG))) (grown_set _ (X.heap.size) 2 (.string (strOfNums ot))) (fun k e => by cases e; exact .inr (unhide HXG))
    generalize ((W3.setCell ⟨X.heap.size, 0, none⟩ (.int .i64 ok)).setCell ⟨X.heap.size, 1, none⟩ (.int .i64 on)).setCell ⟨X.heap.size, 2, none⟩ (.string (strOfNums ot)) = W4 at *
    have q0 : W4.cell? ⟨X.heap.size, 0, none⟩ = some (.int .i64 ok) := k4.cell 0
    have q1 : W4.cell? ⟨X.heap.size, 1, none⟩ = some (.int .i64 on) := k4.cell 1
    have q2 : W4.cell? ⟨X.heap.size, 2, none⟩ = some (.string (strOfNums ot)) := k4.cell 2
    exact bodyPost_ret (v := opG (Dop.mk ok on ot)) (by simp [results, Try.results92, go_sem, q0, q1, q2, opG]) rfl ⟨rfl, ⟨⟨aq, cq, b4, (unhide HCT).1, (unhide HCT).2⟩, (unhide HZ).1⟩, g4⟩

end Go.Proofs.Ytkmbkoajbmlgaaa
end

section
namespace Go.Proofs.Ytkmbkoajbmlgaaa
open Go.ChangeShapes Go.WideShapes Go.ChangeAt Go.RowKit
attribute [local go_sem] Oper.semAt_some

def opC3 (o : Dop) : Array Value := #[.int .i64 o.k, .int .i64 o.n, .string (strOfNums o.t)]
def put3 (X : World) (g : Nat) (o : Dop) : World := ((X.setCell ⟨g, 0, none⟩ (.int .i64 o.k)).setCell ⟨g, 1, none⟩ (.int .i64 o.n)).setCell ⟨g, 2, none⟩ (.string (strOfNums o.t))
theorem put3_heap (X : World) (g : Nat) (o : Dop) (i : Nat) (h : i ≠ g) : (put3 X g o).heap[i]? = X.heap[i]? := by
  unfold put3
  rw [Below.heap_setCell _ ⟨g, 2, none⟩ _ i h, Below.heap_setCell _ ⟨g, 1, none⟩ _ i h, Below.heap_setCell _ ⟨g, 0, none⟩ _ i h]
theorem put3_cls {X : World} {g : Nat} {p o : Dop} (h : Cls X g 34 (opC3 p)) : Cls (put3 X g o) g 34 (opC3 o) := ((h.set 0 (.int .i64 o.k)).set 1 (.int .i64 o.n)).set 2 (.string (strOfNums o.t))
theorem put3_below {B : Nat} {w X : World} {g : Nat} (h : Below B w X) (hg : B ≤ g) (o : Dop) : Below B w (put3 X g o) :=
  ((h.setCell (p := ⟨g, 0, none⟩) hg _).setCell (p := ⟨g, 1, none⟩) hg _).setCell (p := ⟨g, 2, none⟩) hg _
theorem put3_size (X : World) (g : Nat) (o : Dop) : (put3 X g o).heap.size = X.heap.size := by unfold put3; simp
structure PsM (w : World) (g3 g4 g8 g9 BR : Nat) (X : World) (v7 : Value) (la lb out : List Dop) : Prop where
  a : IsLs w X g3 la.tail
  b : IsLs w X g4 lb.tail
  x : Cls X g8 34 (opC3 (hdO la))
  y : Cls X g9 34 (opC3 (hdO lb))
  o : X.ownsRow BR 34 3 v7 out.length (opsV out)
  l : BR ≤ X.heap.size
  d : Below w.heap.size w X
  n : (g3 ≠ g4 ∧ g3 ≠ g8 ∧ g3 ≠ g9) ∧ (g4 ≠ g8 ∧ g4 ≠ g9 ∧ g8 ≠ g9) ∧ (g3 < BR ∧ g4 < BR ∧ g8 < BR ∧ g9 < BR) ∧ w.heap.size ≤ g8 ∧ w.heap.size ≤ g9
theorem IsLs.same {w X Y : World} {g : Nat} {r : List Dop} (h : IsLs w X g r) (hs : Y.heap[g]? = X.heap[g]?) : IsLs w Y g r := by
  obtain ⟨a, c, h1, h2, h3⟩ := h.c
  exact ⟨⟨a, c, h1.same hs, h2, h3⟩, h.z⟩
theorem IsLs.lt {w X : World} {g : Nat} {r : List Dop} (h : IsLs w X g r) : g < X.heap.size := by obtain ⟨a, c, h1, _⟩ := h.c; exact h1.lt
theorem row_grown {X Y : World} {B g : Nat} {v : Value} {n : Nat} {xs : List Value} (h : X.ownsRow B 34 3 v n xs) (hg : X.grownBy Y (some g)) (hlt : g < B) : Y.ownsRow B 34 3 v n xs :=
  World.ownsRow.kept h hg (by
    by_cases hv : v.ownBlock = none
    · exact .inl hv
    · refine .inr fun e => ?_
      have := (h.lt g e).1
      omega)
theorem row_other {X : World} {B g : Nat} {v : Value} {n : Nat} {xs : List Value} (h : X.ownsRow B 34 3 v n xs) (o : Dop) (hlt : g < B) : (put3 X g o).ownsRow B 34 3 v n xs :=
  rowD_on h fun G hG => put3_heap X g o G (fun e => by have := (h.lt G hG).1; omega)
theorem PsM.nextA {w : World} {g3 g4 g8 g9 BR : Nat} {X X' : World} {v7 : Value} {la lb out : List Dop} (h : PsM w g3 g4 g8 g9 BR X v7 la lb out) (hX : X.grownBy X' (some g3)) (hl : IsLs w X' g3 la.tail.tail) : PsM w g3 g4 g8 g9 BR (put3 X' g8 (hdO la.tail)) v7 la.tail lb out := by
  obtain ⟨⟨n1, n2, n3⟩, ⟨n4, n5, n6⟩, ⟨n7, n8, n9, n10⟩, n11, n12⟩ := h.n
  have hb4 := hX.block g4 h.b.lt (fun e => n1 (by cases e; rfl))
  have hb8 := hX.block g8 h.x.lt (fun e => n2 (by cases e; rfl))
  have hb9 := hX.block g9 h.y.lt (fun e => n3 (by cases e; rfl))
  have hd : Below w.heap.size w X' := h.d.grown hX h.d.size (fun k e => by cases e; exact h.a.z)
  refine ⟨hl.same (put3_heap _ _ _ _ n2), (h.b.same hb4).same (put3_heap _ _ _ _ n4), put3_cls (h.x.same hb8), (h.y.same hb9).same (put3_heap _ _ _ _ (fun e => n6 e.symm)), row_other (row_grown h.o hX n7) _ n9, ?_, put3_below hd n11 _, h.n⟩
  rw [put3_size]
  exact Nat.le_trans h.l hX.size
theorem PsM.nextB {w : World} {g3 g4 g8 g9 BR : Nat} {X X' : World} {v7 : Value} {la lb out : List Dop} (h : PsM w g3 g4 g8 g9 BR X v7 la lb out) (hX : X.grownBy X' (some g4)) (hl : IsLs w X' g4 lb.tail.tail) : PsM w g3 g4 g8 g9 BR (put3 X' g9 (hdO lb.tail)) v7 la lb.tail out := by
  obtain ⟨⟨n1, n2, n3⟩, ⟨n4, n5, n6⟩, ⟨n7, n8, n9, n10⟩, n11, n12⟩ := h.n
  have hb3 := hX.block g3 h.a.lt (fun e => n1 (by cases e; rfl))
  have hb8 := hX.block g8 h.x.lt (fun e => n4 (by cases e; rfl))
  have hb9 := hX.block g9 h.y.lt (fun e => n5 (by cases e; rfl))
  have hd : Below w.heap.size w X' := h.d.grown hX h.d.size (fun k e => by cases e; exact h.b.z)
  refine ⟨(h.a.same hb3).same (put3_heap _ _ _ _ n3), hl.same (put3_heap _ _ _ _ n5), (h.x.same hb8).same (put3_heap _ _ _ _ n6), put3_cls (h.y.same hb9), row_other (row_grown h.o hX n8) _ n10, ?_, put3_below hd n12 _, h.n⟩
  rw [put3_size]
  exact Nat.le_trans h.l hX.size
theorem PsM.setA {w : World} {g3 g4 g8 g9 BR : Nat} {X : World} {v7 : Value} {x : Dop} {ra lb out : List Dop} (h : PsM w g3 g4 g8 g9 BR X v7 (x :: ra) lb out) (m : Int) : PsM w g3 g4 g8 g9 BR (X.setCell ⟨g8, 1, none⟩ (.int .i64 m)) v7 (⟨x.k, m, x.t⟩ :: ra) lb out := by
  obtain ⟨⟨n1, n2, n3⟩, ⟨n4, n5, n6⟩, ⟨n7, n8, n9, n10⟩, n11, n12⟩ := h.n
  have hh : ∀ i, i ≠ g8 → (X.setCell ⟨g8, 1, none⟩ (.int .i64 m)).heap[i]? = X.heap[i]? := fun i hi => Below.heap_setCell X ⟨g8, 1, none⟩ _ i hi
  refine ⟨h.a.same (hh _ n2), h.b.same (hh _ n4), h.x.set 1 (.int .i64 m), h.y.same (hh _ (fun e => n6 e.symm)), rowD_on h.o fun G hG => hh G (fun e => by have := (h.o.lt G hG).1; omega), by rw [setCell_size]; exact h.l, h.d.setCell (p := ⟨g8, 1, none⟩) n11 _, h.n⟩
theorem PsM.setB {w : World} {g3 g4 g8 g9 BR : Nat} {X : World} {v7 : Value} {y : Dop} {la rb out : List Dop} (h : PsM w g3 g4 g8 g9 BR X v7 la (y :: rb) out) (m : Int) : PsM w g3 g4 g8 g9 BR (X.setCell ⟨g9, 1, none⟩ (.int .i64 m)) v7 la (⟨y.k, m, y.t⟩ :: rb) out := by
  obtain ⟨⟨n1, n2, n3⟩, ⟨n4, n5, n6⟩, ⟨n7, n8, n9, n10⟩, n11, n12⟩ := h.n
  have hh : ∀ i, i ≠ g9 → (X.setCell ⟨g9, 1, none⟩ (.int .i64 m)).heap[i]? = X.heap[i]? := fun i hi => Below.heap_setCell X ⟨g9, 1, none⟩ _ i hi
  refine ⟨h.a.same (hh _ n3), h.b.same (hh _ n5), h.x.same (hh _ n6), h.y.set 1 (.int .i64 m), rowD_on h.o fun G hG => hh G (fun e => by have := (h.o.lt G hG).1; omega), by rw [setCell_size]; exact h.l, h.d.setCell (p := ⟨g9, 1, none⟩) n12 _, h.n⟩
theorem PsM.push {w : World} {g3 g4 g8 g9 BR : Nat} {X : World} {v7 : Value} {la lb out : List Dop} (h : PsM w g3 g4 g8 g9 BR X v7 la lb out) (hl : out.length ≤ 1099511627776) (k n : Int) (s : ByteArray) (z : Dop) (hz : opL z = [.int .i64 k, .int .i64 n, .string s]) :
    ∃ v' W', (Builtin.append_ #[24, 24] 24 #[v7, .slice (some ⟨X.heap.size, 0, none⟩) 1 1]).run Try.prog (X.alloc (.cells #[.int .i64 k, .int .i64 n, .string s] 34)) = .ok v' W' ∧ PsM w g3 g4 g8 g9 BR W' v' la lb (out ++ [z]) := by
  obtain ⟨g, c, W', r, o, gr, b⟩ := push_op X BR out.length v7 (opsV out) k n s 24 h.o hl h.l
  rw [← hz, ← opsV_one, ← opsV_app] at o
  obtain ⟨⟨n1, n2, n3⟩, ⟨n4, n5, n6⟩, ⟨n7, n8, n9, n10⟩, n11, n12⟩ := h.n
  have hw : w.heap.size ≤ BR := by have := h.a.z; omega
  refine ⟨_, W', r, h.a.same (b.block g3 n7), h.b.same (b.block g4 n8), h.x.same (b.block g8 n9), h.y.same (b.block g9 n10), ?_, Nat.le_trans h.l b.size, h.d.trans (b.mono hw), h.n⟩
  rw [show (out ++ [z]).length = out.length + 1 by simp]
  exact o
theorem PsM.cells {w : World} {g3 g4 g8 g9 BR : Nat} {X : World} {v7 : Value} {la lb out : List Dop} (h : PsM w g3 g4 g8 g9 BR X v7 la lb out) : (X.cell? ⟨g8, 0, none⟩ = some (.int .i64 (hdO la).k) ∧ X.cell? ⟨g8, 1, none⟩ = some (.int .i64 (hdO la).n) ∧ X.cell? ⟨g8, 2, none⟩ = some (.string (strOfNums (hdO la).t))) ∧ (X.cell? ⟨g9, 0, none⟩ = some (.int .i64 (hdO lb).k) ∧ X.cell? ⟨g9, 1, none⟩ = some (.int .i64 (hdO lb).n) ∧ X.cell? ⟨g9, 2, none⟩ = some (.string (strOfNums (hdO lb).t))) ∧ (∀ j, X.frozen? ⟨g8, j, none⟩ = false) ∧ (∀ j, X.frozen? ⟨g9, j, none⟩ = false) := by
  refine ⟨⟨h.x.cell 0, h.x.cell 1, h.x.cell 2⟩, ⟨h.y.cell 0, h.y.cell 1, h.y.cell 2⟩, fun j => ?_, fun j => ?_⟩
  · have : X.heap[g8]? = _ := h.x
    simp [World.frozen?, this]
  · have : X.heap[g9]? = _ := h.y
    simp [World.frozen?, this]

end Go.Proofs.Ytkmbkoajbmlgaaa
end
