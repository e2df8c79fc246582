/- Layer 8: the laws' own beginning (fixed), and a nil leaf (LeafNil). -/
import Derived.Test.YtljpdbodieepnaaDoorLeg
import Derived.Test.YtljpdbodieepnaaDoorLei
import Derived.Deep.Cut
namespace Go.Proofs.YtljpdbodieepnaaDoor
open Go.ChangeShapes Go.WideShapes Go.ChangeAt Go.RowKit
attribute [local go_sem] Oper.semAt_some

def lA : List Int := [195, 169, 13]
def lB : List Int := [97, 240, 159, 152, 128, 98, 99]
theorem lA_in : ∀ x ∈ lA, 0 ≤ x ∧ x ≤ 255 := by decide
theorem lB_in : ∀ x ∈ lB, 0 ≤ x ∧ x ≤ 255 := by decide
theorem lB_pcs : pcs lB 4 = [[97], [240, 159, 152, 128], [98, 99]] := by decide
theorem lA_bef : weV (ofL (lA.take 1)) = .agg #[.int .i64 1, .int .i64 1, .int .i64 1, .int .i64 0, .string ⟨#[195]⟩, .string ⟨#[195]⟩] := by
  have : ofL (lA.take 1) = ⟨⟨1, 1, 1, 0⟩, [195], [195]⟩ := by decide
  rw [this]; rfl
theorem Lvs.three {W : World} {B : Nat} {gs : List Nat} {a b c : List Int} (h : Lvs W B gs [a, b, c]) : ∃ x y z, gs = [x, y, z] ∧ IsLf W x a ∧ IsLf W y b ∧ IsLf W z c := by
  have h1 := h.1
  match gs, h1 with
  | [x, y, z], _ => exact ⟨x, y, z, rfl, (h.2 0 (by simp)).1, (h.2 1 (by simp)).1, (h.2 2 (by simp)).1⟩
theorem own_three {W : World} {B : Nat} {v : Value} {x y z : Nat} (h : W.ownsRow B 22 1 v 3 (ptrs [x, y, z])) : ∃ g c, v = .slice (some ⟨g, 0, none⟩) 3 c ∧ g < W.heap.size ∧ W.cell? ⟨g, 0, none⟩ = some (.pointer (some ⟨x, 0, none⟩)) ∧ W.cell? ⟨g, 1, none⟩ = some (.pointer (some ⟨y, 0, none⟩)) ∧ W.cell? ⟨g, 2, none⟩ = some (.pointer (some ⟨z, 0, none⟩)) := by
  have hc := h
  rcases h.2 with ⟨rfl, hz⟩ | ⟨g, cap, cur, rfl, _, hg, _⟩
  · cases hz
  · have c0 := World.ownsRow.cells hc rfl 0 (.pointer (some ⟨x, 0, none⟩)) rfl
    have c1 := World.ownsRow.cells hc rfl 1 (.pointer (some ⟨y, 0, none⟩)) rfl
    have c2 := World.ownsRow.cells hc rfl 2 (.pointer (some ⟨z, 0, none⟩)) rfl
    rw [Addr.add_lit, Nat.zero_add] at c0 c1 c2
    exact ⟨g, cap, rfl, (Array.getElem?_eq_some_iff.1 hg).1, c0, c1, c2⟩

set_option maxRecDepth 100000 in
set_option maxHeartbeats 4000000 in
theorem fixed8_at (w : World) (hW : Wt w) : Calls Tryd.prog 11 #[] w fun y w' => y = .returned (.bool true) ∧ Below w.heap.size w w' := by
  have hcv := conv_litW w #[.int .u8 195, .int .u8 169, .int .u8 13] 3
  go_enter Tryd.func11, Tryd.ntmps11
  go_wp2_with fail
  clear hcv
  have b1 : Below w.heap.size w (w.alloc (.cells #[.int .u8 195, .int .u8 169, .int .u8 13] 5 (3, 4))) := (Below.refl _ _).alloc (Nat.le_refl _) _
  have i1 : IsB (w.alloc (.cells #[.int .u8 195, .int .u8 169, .int .u8 13] 5 (3, 4))) (some ⟨w.heap.size, 0, none⟩) 3 lA := lit_isW w lA (3, 4) (by decide) (by decide)
  generalize (w.alloc (.cells #[.int .u8 195, .int .u8 169, .int .u8 13] 5 (3, 4))) = w1 at *
  have hN := New_at (some ⟨w.heap.size, 0, none⟩) 3 lA w1 ⟨i1, fun e => by cases e⟩ (hW.below b1) (by decide)
  rw [show lA.length = 3 from rfl] at hN
  refine hN.mono ?_
  rintro y w2 ⟨gA, rfl, kA, _, x2⟩
  have b2 := b1.trans (x2.mono b1.size)
  clear i1 b1 x2 hN
  dsimp only
  have hcv := conv_litW w2 #[.int .u8 97, .int .u8 240, .int .u8 159, .int .u8 152, .int .u8 128, .int .u8 98, .int .u8 99] 7
  go_wp2_with fail
  clear hcv
  have x3 : Below w2.heap.size w2 (w2.alloc (.cells #[.int .u8 97, .int .u8 240, .int .u8 159, .int .u8 152, .int .u8 128, .int .u8 98, .int .u8 99] 5 (7, 8))) := (Below.refl _ _).alloc (Nat.le_refl _) _
  have i3 : IsB (w2.alloc (.cells #[.int .u8 97, .int .u8 240, .int .u8 159, .int .u8 152, .int .u8 128, .int .u8 98, .int .u8 99] 5 (7, 8))) (some ⟨w2.heap.size, 0, none⟩) 7 lB := lit_isW w2 lB (7, 8) (by decide) (by decide)
  have b3 := b2.trans (x3.mono b2.size)
  have kA3 := kA.on x3
  generalize (w2.alloc (.cells #[.int .u8 97, .int .u8 240, .int .u8 159, .int .u8 152, .int .u8 128, .int .u8 98, .int .u8 99] 5 (7, 8))) = w3 at *
  have hC := Cut_at (some ⟨w2.heap.size, 0, none⟩) 7 lB 4 w3 ⟨i3, fun e => by cases e⟩ (hW.below b3) (by decide) (by decide) (by decide)
  rw [show lB.length = 7 from rfl, lB_pcs, show ((4 : Nat) : Int) = 4 from rfl] at hC
  refine hC.mono ?_
  rintro y w4 ⟨v, gs, rfl, o4, l4, x4⟩
  obtain ⟨px, py, pz, rfl, k0, k1, k2⟩ := l4.three
  obtain ⟨gc, cc, rfl, zc, d0, d1, d2⟩ := own_three o4
  have b4 := b3.trans (x4.mono b3.size)
  have kA4 := kA3.on x4
  clear i3 b3 x4 x3 b2 kA kA3 hC l4 o4
  dsimp only
  go_wp2_with fail
  have hBf := Before_at gA 1 lA w4 kA4 lA_in (by decide) (by decide) (hW.below b4)
  rw [lA_bef, show ((1 : Nat) : Int) = 1 from rfl] at hBf
  refine hBf.mono ?_
  rintro y w5 ⟨rfl, x5⟩
  have b5 := b4.trans (x5.mono b4.size)
  have kA5 := kA4.on x5
  have k05 := k0.on x5
  have k15 := k1.on x5
  have k25 := k2.on x5
  have d05 := (x5.cell (p := ⟨gc, 0, none⟩) zc).trans d0
  have d15 := (x5.cell (p := ⟨gc, 1, none⟩) zc).trans d1
  have d25 := (x5.cell (p := ⟨gc, 2, none⟩) zc).trans d2
  have zc5 := Nat.lt_of_lt_of_le zc x5.size
  clear hBf x5 b4 kA4 k0 k1 k2 d0 d1 d2 zc
  dsimp only
  have x6 : Below w5.heap.size w5 (w5.alloc (.cells #[.int .i64 1, .int .i64 1, .int .i64 1, .int .i64 0, .string ⟨#[195]⟩, .string ⟨#[195]⟩] 40)) := (Below.refl _ _).alloc (Nat.le_refl _) _
  have g6 := push_get w5 (.cells #[.int .i64 1, .int .i64 1, .int .i64 1, .int .i64 0, .string ⟨#[195]⟩, .string ⟨#[195]⟩] 40)
  go_wp2_with fail
  have b6 := b5.trans (x6.mono b5.size)
  have kA6 := kA5.on x6
  have k06 := k05.on x6
  have k16 := k15.on x6
  have k26 := k25.on x6
  have d06 := (x6.cell (p := ⟨gc, 0, none⟩) zc5).trans d05
  have d16 := (x6.cell (p := ⟨gc, 1, none⟩) zc5).trans d15
  have d26 := (x6.cell (p := ⟨gc, 2, none⟩) zc5).trans d25
  have zc6 := Nat.lt_of_lt_of_le zc5 x6.size
  have zw6 : w5.heap.size < (w5.alloc (.cells #[.int .i64 1, .int .i64 1, .int .i64 1, .int .i64 0, .string ⟨#[195]⟩, .string ⟨#[195]⟩] 40)).heap.size := by simp
  clear x6 b5 kA5 k05 k15 k25 d05 d15 d25 zc5
  generalize w5.alloc (.cells #[.int .i64 1, .int .i64 1, .int .i64 1, .int .i64 0, .string ⟨#[195]⟩, .string ⟨#[195]⟩] 40) = w6 at *
  generalize w5.heap.size = gw at *
  have hL := LenL_at gA lA w6 kA6
  rw [show ((lA.length : Nat) : Int) = 3 from rfl] at hL
  refine hL.mono ?_
  rintro y w6' ⟨rfl, rfl⟩
  clear hL
  dsimp only
  go_wp2_with fail
  have hBy := BytesL_at gA lA w6' kA6 lA_in (by decide)
  rw [show lA.length = 3 from rfl] at hBy
  refine hBy.mono ?_
  rintro y w7 ⟨c7, rfl, n7, x7⟩
  have b7 := b6.trans (x7.mono b6.size)
  have k07 := k06.on x7
  have k17 := k16.on x7
  have k27 := k26.on x7
  have d07 := (x7.cell (p := ⟨gc, 0, none⟩) zc6).trans d06
  have d17 := (x7.cell (p := ⟨gc, 1, none⟩) zc6).trans d16
  have d27 := (x7.cell (p := ⟨gc, 2, none⟩) zc6).trans d26
  have g7 : w7.heap[gw]? = _ := (x7.block gw zw6).trans g6
  obtain ⟨_, _, _, _, e4, _, _⟩ := cells6 g7
  have kst := str_bs w7 (some ⟨w6'.heap.size, 0, none⟩) c7 lA n7.1.2.2.1
  rw [show lA.length = 3 from rfl, show strOfNums lA = ⟨#[195, 169, 13]⟩ from rfl] at kst
  have h0 := LenL_at px [97] w7 k07
  have h1 := LenL_at py [240, 159, 152, 128] w7 k17
  have h2 := LenL_at pz [98, 99] w7 k27
  rw [show (([97] : List Int).length : Int) = 1 from rfl] at h0
  rw [show (([240, 159, 152, 128] : List Int).length : Int) = 4 from rfl] at h1
  rw [show (([98, 99] : List Int).length : Int) = 2 from rfl] at h2
  have H0 := hide h0
  have H1 := hide h1
  have H2 := hide h2
  clear hBy n7 x7 b6 kA6 k06 k16 k26 d06 d16 d26 zc6 g6 g7 zw6 k07 k17 k27 h0 h1 h2
  dsimp only
  go_wp2_with fail
  refine (unhide H0).mono ?_
  rintro y w8 ⟨rfl, rfl⟩
  dsimp only
  go_wp2_with fail
  refine (unhide H1).mono ?_
  rintro y w9 ⟨rfl, rfl⟩
  dsimp only
  go_wp2_with fail
  refine (unhide H2).mono ?_
  rintro y w10 ⟨rfl, rfl⟩
  dsimp only
  go_wp2_with fail
  go_ret
  exact ⟨rfl, b7⟩

end Go.Proofs.YtljpdbodieepnaaDoor
