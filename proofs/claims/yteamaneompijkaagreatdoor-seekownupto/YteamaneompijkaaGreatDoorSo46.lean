/- Layer 10's laws: awake; SeekNil's walk. · Layer 10: all that is told of one question is the document's (written by a program). · Layer 10's laws: Joined, Large; what SeekSteps asks of steps, in plain words. -/
import Derived.Test.YteamaneompijkaaGreatDoorSo40
import Derived.Test.YteamaneompijkaaGreatDoorSo45
import Derived.Test.YteamaneompijkaaGreatDoorSo44
namespace Go.Proofs.YteamaneompijkaaGreatDoor
open Go.ChangeShapes Go.WideShapes Go.ChangeAt Go.RowKit
set_option maxRecDepth 100000
set_option maxHeartbeats 8000000
section
attribute [local go_sem] Oper.semAt_some
def ex10 : List (List Int) := [[97, 226], [130, 172, 13], [10, 240, 159], [152, 128]]
def exT10 : List Int := [97, 226, 130, 172, 13, 10, 240, 159, 152, 128]
theorem ex10_flat : ex10.flatten = exT10 := rfl
theorem ex10_to : (toP 1 10 3 3 (EE exT10) : Int) = 6 ∧ toR 1 10 3 3 (EE exT10) = 0 := by decide +kernel
theorem ex10_wh : whV exT10 6 = .tuple #[.agg #[.int .i64 6, .int .i64 4, .int .i64 4, .int .i64 1, .int .i64 0, .int .i64 0, .int .i64 0], .int .i64 0] := by kernel_rfl
theorem row10 {W : World} {g : Nat} {l : List Int} {cs : Array Value} {q : Nat × Nat} (hg : W.heap[g]? = some (.cells cs 5 q)) (hc : ∀ j, j < l.length → cs[j]? = some (.int .u8 (l.getD j 0))) (hl : ∀ x ∈ l, 0 ≤ x ∧ x ≤ 255) (hn : l.length ≤ 1000) : IsN W (some ⟨g, 0, none⟩) l.length l := by
  refine ⟨⟨Nat.le_refl _, by omega, Or.inr ⟨g, 0, rfl, fun j hj => ⟨?_, ?_⟩⟩, hl⟩, fun e => by cases e⟩
  · simp only [World.cell?, hg, Nat.zero_add]
    exact hc j hj
  · have : l.getD j 0 ∈ l := by rw [List.getD_eq_getElem?_getD, List.getElem?_eq_getElem hj]; exact List.getElem_mem hj
    exact hl _ this
theorem ex10_rows (w : World) (o1 o2 o3 o4 o5 : Obj) (h1 : o1 = .cells #[.int .u8 97, .int .u8 226] 5 (2, 3)) (h2 : o2 = .cells #[.int .u8 130, .int .u8 172, .int .u8 13] 5 (3, 4)) (h3 : o3 = .cells #[.int .u8 10, .int .u8 240, .int .u8 159] 5 (3, 4)) (h4 : o4 = .cells #[.int .u8 152, .int .u8 128] 5 (2, 3))
    (h5 : o5 = .cells #[.slice (some ⟨w.heap.size, 0, none⟩) 2 2, .slice (some ⟨w.heap.size + 1, 0, none⟩) 3 3, .slice (some ⟨w.heap.size + 1 + 1, 0, none⟩) 3 3, .slice (some ⟨w.heap.size + 1 + 1 + 1, 0, none⟩) 2 2] 30) :
    IsNN (((((w.alloc o1).alloc o2).alloc o3).alloc o4).alloc o5) (some ⟨w.heap.size + 1 + 1 + 1 + 1, 0, none⟩) ex10 ∧ Below w.heap.size w (((((w.alloc o1).alloc o2).alloc o3).alloc o4).alloc o5) := by
  have b1 : Below w.heap.size w (w.alloc o1) := (Below.refl _ _).alloc (Nat.le_refl _) _
  have b2 : Below (w.alloc o1).heap.size (w.alloc o1) ((w.alloc o1).alloc o2) := (Below.refl _ _).alloc (Nat.le_refl _) _
  have b3 : Below ((w.alloc o1).alloc o2).heap.size ((w.alloc o1).alloc o2) (((w.alloc o1).alloc o2).alloc o3) := (Below.refl _ _).alloc (Nat.le_refl _) _
  have b4 : Below (((w.alloc o1).alloc o2).alloc o3).heap.size (((w.alloc o1).alloc o2).alloc o3) ((((w.alloc o1).alloc o2).alloc o3).alloc o4) := (Below.refl _ _).alloc (Nat.le_refl _) _
  have b5 : Below ((((w.alloc o1).alloc o2).alloc o3).alloc o4).heap.size ((((w.alloc o1).alloc o2).alloc o3).alloc o4) (((((w.alloc o1).alloc o2).alloc o3).alloc o4).alloc o5) := (Below.refl _ _).alloc (Nat.le_refl _) _
  have g1 := bk9_on (bk9_on (bk9_on (bk9_on (push_get w o1) b2) b3) b4) b5
  have g2 := bk9_on (bk9_on (bk9_on (push_get (w.alloc o1) o2) b3) b4) b5
  have g3 := bk9_on (bk9_on (push_get ((w.alloc o1).alloc o2) o3) b4) b5
  have g4 := bk9_on (push_get (((w.alloc o1).alloc o2).alloc o3) o4) b5
  have g5 := push_get ((((w.alloc o1).alloc o2).alloc o3).alloc o4) o5
  have B := (((b1.trans (b2.mono b1.size)).trans (b3.mono (Nat.le_trans b1.size b2.size))).trans (b4.mono (Nat.le_trans (Nat.le_trans b1.size b2.size) b3.size))).trans (b5.mono (Nat.le_trans (Nat.le_trans (Nat.le_trans b1.size b2.size) b3.size) b4.size))
  have zs : (((((w.alloc o1).alloc o2).alloc o3).alloc o4).alloc o5).heap.size = w.heap.size + 1 + 1 + 1 + 1 + 1 := by simp only [World.size_alloc]
  simp only [World.size_alloc] at g2 g3 g4 g5
  clear b1 b2 b3 b4 b5
  generalize (((((w.alloc o1).alloc o2).alloc o3).alloc o4).alloc o5) = W at *
  subst h1 h2 h3 h4 h5
  refine ⟨Or.inr ⟨_, 0, rfl, by omega, fun r hr => ?_⟩, B⟩
  have hr4 : r < 4 := hr
  have hcell : ∀ j, W.cell? ⟨w.heap.size + 1 + 1 + 1 + 1, 0 + j, none⟩ = (#[Value.slice (some ⟨w.heap.size, 0, none⟩) 2 2, .slice (some ⟨w.heap.size + 1, 0, none⟩) 3 3, .slice (some ⟨w.heap.size + 1 + 1, 0, none⟩) 3 3, .slice (some ⟨w.heap.size + 1 + 1 + 1, 0, none⟩) 2 2] : Array Value)[j]? := fun j => by
    simp only [World.cell?, g5, Nat.zero_add]
    rfl
  rcases (by omega : r = 0 ∨ r = 1 ∨ r = 2 ∨ r = 3) with rfl | rfl | rfl | rfl
  · exact ⟨_, _, hcell 0, row10 (l := [97, 226]) g1 (fun j hj => by have : j < 2 := hj; rcases (by omega : j = 0 ∨ j = 1) with rfl | rfl <;> rfl) (by decide) (by decide)⟩
  · exact ⟨_, _, hcell 1, row10 (l := [130, 172, 13]) g2 (fun j hj => by have : j < 3 := hj; rcases (by omega : j = 0 ∨ j = 1 ∨ j = 2) with rfl | rfl | rfl <;> rfl) (by decide) (by decide)⟩
  · exact ⟨_, _, hcell 2, row10 (l := [10, 240, 159]) g3 (fun j hj => by have : j < 3 := hj; rcases (by omega : j = 0 ∨ j = 1 ∨ j = 2) with rfl | rfl | rfl <;> rfl) (by decide) (by decide)⟩
  · exact ⟨_, _, hcell 3, row10 (l := [152, 128]) g4 (fun j hj => by have : j < 2 := hj; rcases (by omega : j = 0 ∨ j = 1) with rfl | rfl <;> rfl) (by decide) (by decide)⟩
theorem conv10 (w : World) (C : Array Value) (n : Nat) : (convert 30 30 (.slice (some ⟨w.heap.size, 0, none⟩) n n)).run Tryz.prog (w.alloc (.cells C 5)) = .ok (.slice (some ⟨w.heap.size, 0, none⟩) n n) (w.alloc (.cells C 5 (C.size, C.size + 1))) :=
  Lib.run_convert_bytes_const w 30 5 C n n Tryz.underlying30 Tryz.underlying5
theorem awake10_at (w : World) (hW : Wt w) : Calls Tryz.prog 6 #[] w fun y w' => y = .returned (.bool true) ∧ Below w.heap.size w w' := by
  have HW := hide fun (X : World) (hx : Below w.heap.size w X) => hW.below hx
  clear hW
  have c1 := conv10 w #[.int .u8 97, .int .u8 226] 2
  have c2 := conv10 (w.alloc (.cells #[.int .u8 97, .int .u8 226] 5 (2, 3))) #[.int .u8 130, .int .u8 172, .int .u8 13] 3
  have c3 := conv10 ((w.alloc (.cells #[.int .u8 97, .int .u8 226] 5 (2, 3))).alloc (.cells #[.int .u8 130, .int .u8 172, .int .u8 13] 5 (3, 4))) #[.int .u8 10, .int .u8 240, .int .u8 159] 3
  have c4 := conv10 (((w.alloc (.cells #[.int .u8 97, .int .u8 226] 5 (2, 3))).alloc (.cells #[.int .u8 130, .int .u8 172, .int .u8 13] 5 (3, 4))).alloc (.cells #[.int .u8 10, .int .u8 240, .int .u8 159] 5 (3, 4))) #[.int .u8 152, .int .u8 128] 2
  rw [World.size_alloc] at c2
  rw [World.size_alloc, World.size_alloc] at c3
  rw [World.size_alloc, World.size_alloc, World.size_alloc] at c4
  go_enter Tryz.func6, Tryz.ntmps6
  obtain ⟨hN, b0⟩ := ex10_rows w _ _ _ _ _ rfl rfl rfl rfl rfl
  have HRo := hide (Rope10_at (some ⟨w.heap.size + 1 + 1 + 1 + 1, 0, none⟩) 4 ex10 _ hN (by decide) (by decide) (unhide HW _ b0))
  rw [show ex10.length = 4 from rfl] at HRo
  have HB0 := hide b0
  clear hN b0
  go_wp2_with fail
  refine (unhide HRo).mono ?_
  rintro y w1 ⟨g, o, rfl, hr, ht, x1⟩
  dsimp only
  rw [ex10_flat] at ht
  have X1 := (unhide HB0).trans (x1.mono (unhide HB0).size)
  have hl : (txtO o).length ≤ 268435456 := by rw [ht]; decide
  have hT := To10_at g o 1 10 3 3 w1 hr hl (unhide HW w1 X1) rfl (fun X _ h => absurd rfl h)
  rw [ht, ex10_to.1, ex10_to.2] at hT
  have HT := hide hT
  have HR := hide hr
  have HX := hide (And.intro ht hl)
  clear c1 c2 c3 c4 hT HRo HB0 x1 hr ht hl
  go_wp2_with fail
  refine (unhide HT).mono ?_
  rintro y w2 ⟨rfl, x2⟩
  dsimp only
  have X2 := X1.trans (x2.mono X1.size)
  have hWh := Where10_at g o 6 w2 ((unhide HR).on x2) (unhide HX).2 (unhide HW w2 X2)
  rw [(unhide HX).1, ex10_wh] at hWh
  have HWh := hide hWh
  clear hWh HT HR HX x2 X1
  go_wp2_with fail
  refine (unhide HWh).mono ?_
  rintro y w3 ⟨rfl, x3⟩
  dsimp only
  have X3 := X2.trans (x3.mono X2.size)
  clear HWh x3 X2
  have b3 := (Below.refl w3.heap.size w3).alloc (Nat.le_refl _) (.cells #[.int .i64 6, .int .i64 4, .int .i64 4, .int .i64 1, .int .i64 0, .int .i64 0, .int .i64 0] 61)
  have HB := hide (X3.trans (b3.mono X3.size))
  clear b3 X3
  go_wp2_with fail
  go_ret
  exact ⟨rfl, unhide HB⟩
theorem eqW10 (w : World) : (binOp .eql 61 (.agg #[.int .i64 0, .int .i64 0, .int .i64 0, .int .i64 0, .int .i64 0, .int .i64 0, .int .i64 0]) (.agg #[.int .i64 0, .int .i64 0, .int .i64 0, .int .i64 0, .int .i64 0, .int .i64 0, .int .i64 0])).run Tryz.prog w = .ok (.bool true) w := by kernel_rfl
theorem eqS10 (w : World) : (binOp .eql 82 (.agg #[.int .i32 0, .int .i64 0, .bool false]) (.agg #[.int .i32 0, .int .i64 0, .bool false])).run Tryz.prog w = .ok (.bool true) w := by kernel_rfl
attribute [local go_sem] eqW10 eqS10
end
section
attribute [local go_sem] Oper.semAt_some
theorem neqV10 (i0 i1 i2 i3 i4 i5 i6 : Int) (w : World) : (binOp .neq 61 (.agg #[.int .i64 i0, .int .i64 i1, .int .i64 i2, .int .i64 i3, .int .i64 i4, .int .i64 i5, .int .i64 i6]) (.agg #[.int .i64 i0, .int .i64 i1, .int .i64 i2, .int .i64 i3, .int .i64 i4, .int .i64 i5, .int .i64 i6])).run Tryz.prog w = .ok (.bool false) w := by simp [go_sem]
theorem eqT10 (r n : Int) (b : Bool) (w : World) : (binOp .eql 82 (.agg #[.int .i32 r, .int .i64 n, .bool b]) (.agg #[.int .i32 r, .int .i64 n, .bool b])).run Tryz.prog w = .ok (.bool true) w := by simp [go_sem]
attribute [local go_sem] neqV10 eqT10
theorem cls6 {Y : World} {g : Nat} {t : TypeId} {x0 x1 x2 x3 x4 x5 : Value} (h : Cls Y g t #[x0, x1, x2, x3, x4, x5]) : Y.cell? ⟨g, 0, none⟩ = some x0 ∧ Y.cell? ⟨g, 1, none⟩ = some x1 ∧ Y.cell? ⟨g, 2, none⟩ = some x2 ∧ Y.cell? ⟨g, 3, none⟩ = some x3 ∧ Y.cell? ⟨g, 4, none⟩ = some x4 ∧ Y.cell? ⟨g, 5, none⟩ = some x5 :=
  ⟨(h.cell 0).trans rfl, (h.cell 1).trans rfl, (h.cell 2).trans rfl, (h.cell 3).trans rfl, (h.cell 4).trans rfl, (h.cell 5).trans rfl⟩
theorem clsA7 {Y : World} {g : Nat} {t : TypeId} {x0 x1 x2 x3 x4 x5 x6 : Value} (h : Cls Y g t #[x0, x1, x2, x3, x4, x5, x6]) : Y.cell? ⟨g, 0, none⟩ = some x0 ∧ Y.cell? ⟨g, 1, none⟩ = some x1 ∧ Y.cell? ⟨g, 2, none⟩ = some x2 ∧ Y.cell? ⟨g, 3, none⟩ = some x3 ∧ Y.cell? ⟨g, 4, none⟩ = some x4 ∧ Y.cell? ⟨g, 5, none⟩ = some x5 ∧ Y.cell? ⟨g, 6, none⟩ = some x6 :=
  ⟨(h.cell 0).trans rfl, (h.cell 1).trans rfl, (h.cell 2).trans rfl, (h.cell 3).trans rfl, (h.cell 4).trans rfl, (h.cell 5).trans rfl, (h.cell 6).trans rfl⟩
theorem answers10_of (g N c : Nat) (a : Option Addr) (pl ln cl fr tr mo P R C D L1 L2 L3 LE F FE q sr sn se i0 i1 i2 i3 i4 i5 i6 e : Int) (sb : Bool) (w : World)
    (h1 : Hid (∀ X, Below w.heap.size w X → Calls Tryz.prog 20 #[.pointer (some ⟨g, 0, none⟩), .int .i64 fr, .int .i64 pl, .int .i64 tr, .int .i64 mo] X fun y w' => y = .returned (.tuple #[.int .i64 P, .int .i64 R]) ∧ Below X.heap.size X w'))
    (h2 : Hid (∀ X, Below w.heap.size w X → Calls Tryz.prog 24 #[.slice a N c, .int .i64 fr, .int .i64 pl, .int .i64 tr, .int .i64 mo] X fun y w' => y = .returned (.tuple #[.int .i64 P, .int .i64 R]) ∧ Below X.heap.size X w'))
    (h3 : Hid (∀ X, Below w.heap.size w X → Calls Tryz.prog 21 #[.pointer (some ⟨g, 0, none⟩), .int .i64 pl] X fun y w' => y = .returned (.tuple #[.agg #[.int .i64 i0, .int .i64 i1, .int .i64 i2, .int .i64 i3, .int .i64 i4, .int .i64 i5, .int .i64 i6], .int .i64 e]) ∧ Below X.heap.size X w'))
    (h4 : Hid (∀ X, Below w.heap.size w X → Calls Tryz.prog 25 #[.slice a N c, .int .i64 pl] X fun y w' => y = .returned (.tuple #[.agg #[.int .i64 i0, .int .i64 i1, .int .i64 i2, .int .i64 i3, .int .i64 i4, .int .i64 i5, .int .i64 i6], .int .i64 e]) ∧ Below X.heap.size X w'))
    (h5 : Hid (∀ X, Below w.heap.size w X → Calls Tryz.prog 26 #[.pointer (some ⟨g, 0, none⟩), .agg #[.int .i64 ln, .int .i64 cl], .int .i64 fr, .int .i64 mo] X fun y w' => y = .returned (.tuple #[.int .i64 C, .int .i64 D]) ∧ Below X.heap.size X w'))
    (h6 : Hid (∀ X, Below w.heap.size w X → Calls Tryz.prog 27 #[.slice a N c, .agg #[.int .i64 ln, .int .i64 cl], .int .i64 fr, .int .i64 mo] X fun y w' => y = .returned (.tuple #[.int .i64 C, .int .i64 D]) ∧ Below X.heap.size X w'))
    (h7 : Hid (∀ X, Below w.heap.size w X → Calls Tryz.prog 28 #[.pointer (some ⟨g, 0, none⟩), .int .i64 ln] X fun y w' => y = .returned (.tuple #[.int .i64 L1, .int .i64 L2, .int .i64 L3, .int .i64 LE]) ∧ Below X.heap.size X w'))
    (h8 : Hid (∀ X, Below w.heap.size w X → Calls Tryz.prog 29 #[.slice a N c, .int .i64 ln] X fun y w' => y = .returned (.tuple #[.agg #[.int .i64 L1, .int .i64 L2, .int .i64 L3], .int .i64 LE]) ∧ Below X.heap.size X w'))
    (h9 : Hid (∀ X, Below w.heap.size w X → Calls Tryz.prog 30 #[.pointer (some ⟨g, 0, none⟩), .int .i64 pl] X fun y w' => y = .returned (.tuple #[.int .i64 F, .int .i64 FE]) ∧ Below X.heap.size X w'))
    (h10 : Hid (∀ X, Below w.heap.size w X → Calls Tryz.prog 31 #[.slice a N c, .int .i64 pl] X fun y w' => y = .returned (.tuple #[.int .i64 F, .int .i64 FE]) ∧ Below X.heap.size X w'))
    (h11 : Hid (∀ X, Below w.heap.size w X → Calls Tryz.prog 32 #[.pointer (some ⟨g, 0, none⟩), .int .i64 pl] X fun y w' => y = .returned (.tuple #[.int .i64 q, .agg #[.int .i32 sr, .int .i64 sn, .bool sb], .int .i64 se]) ∧ Below X.heap.size X w'))
    (h12 : Hid (∀ X, Below w.heap.size w X → Calls Tryz.prog 33 #[.slice a N c, .int .i64 pl] X fun y w' => y = .returned (.tuple #[.int .i64 q, .agg #[.int .i32 sr, .int .i64 sn, .bool sb], .int .i64 se]) ∧ Below X.heap.size X w')) :
    Calls Tryz.prog 10 #[.pointer (some ⟨g, 0, none⟩), .slice a N c, .agg #[.int .i64 pl, .int .i64 ln, .int .i64 cl, .int .i64 fr, .int .i64 tr, .int .i64 mo]] w fun y w' => y = .returned (.bool true) ∧ Below w.heap.size w w' := by
  have kA := Cls.new w 28 #[.int .i64 pl, .int .i64 ln, .int .i64 cl, .int .i64 fr, .int .i64 tr, .int .i64 mo]
  have b0 := (Below.refl w.heap.size w).alloc (Nat.le_refl _) (.cells #[.int .i64 pl, .int .i64 ln, .int .i64 cl, .int .i64 fr, .int .i64 tr, .int .i64 mo] 28)
  go_enter Tryz.func10, Tryz.ntmps10
  go_upto_region 1 with fail
  generalize hgA : w.heap.size = gA at kA ⊢
  clear hgA
  generalize w.alloc (.cells #[.int .i64 pl, .int .i64 ln, .int .i64 cl, .int .i64 fr, .int .i64 tr, .int .i64 mo] 28) = v0 at *
  have HA := hide fun (X : World) (hx : Below v0.heap.size v0 X) => cls6 (kA.below hx kA.lt)
  clear kA
  have F0 := b0
  have G0 := Below.refl v0.heap.size v0
  clear b0
  obtain ⟨c0, c1, c2, c3, c4, c5⟩ := unhide HA v0 G0
  go_wp2_with fail
  clear c0 c1 c2 c3 c4 c5
  refine (unhide h1 v0 F0).mono ?_
  rintro y v1 ⟨rfl, x⟩
  dsimp only
  have F1 := F0.trans (x.mono F0.size)
  have G1 := G0.trans (x.mono G0.size)
  clear x F0 G0 h1
  obtain ⟨c0, c1, c2, c3, c4, c5⟩ := unhide HA v1 G1
  go_wp2_with fail
  clear c0 c1 c2 c3 c4 c5
  refine (unhide h2 v1 F1).mono ?_
  rintro y v2 ⟨rfl, x⟩
  dsimp only
  have F2 := F1.trans (x.mono F1.size)
  have G2 := G1.trans (x.mono G1.size)
  clear x F1 G1 h2
  obtain ⟨c0, c1, c2, c3, c4, c5⟩ := unhide HA v2 G2
  go_wp2_with fail
  clear c0 c1 c2 c3 c4 c5
  refine (unhide h3 v2 F2).mono ?_
  rintro y v3 ⟨rfl, x⟩
  dsimp only
  have F3 := F2.trans (x.mono F2.size)
  have G3 := G2.trans (x.mono G2.size)
  clear x F2 G2 h3
  have kW := Cls.new v3 61 #[.int .i64 i0, .int .i64 i1, .int .i64 i2, .int .i64 i3, .int .i64 i4, .int .i64 i5, .int .i64 i6]
  have x := (Below.refl v3.heap.size v3).alloc (Nat.le_refl _) (.cells #[.int .i64 i0, .int .i64 i1, .int .i64 i2, .int .i64 i3, .int .i64 i4, .int .i64 i5, .int .i64 i6] 61)
  have F4 := F3.trans (x.mono F3.size)
  have G4 := G3.trans (x.mono G3.size)
  clear x F3 G3
  go_upto_region 6 with fail
  generalize hg : v3.heap.size = gW at kW ⊢
  clear hg
  generalize v3.alloc (.cells #[.int .i64 i0, .int .i64 i1, .int .i64 i2, .int .i64 i3, .int .i64 i4, .int .i64 i5, .int .i64 i6] 61) = v4 at *
  obtain ⟨c0, c1, c2, c3, c4, c5⟩ := unhide HA v4 G4
  go_wp2_with fail
  clear c0 c1 c2 c3 c4 c5
  refine (unhide h4 v4 F4).mono ?_
  rintro y v5 ⟨rfl, x⟩
  dsimp only
  have F5 := F4.trans (x.mono F4.size)
  have G5 := G4.trans (x.mono G4.size)
  replace kW := kW.below x kW.lt
  clear x F4 G4 h4
  have kV := Cls.new v5 61 #[.int .i64 i0, .int .i64 i1, .int .i64 i2, .int .i64 i3, .int .i64 i4, .int .i64 i5, .int .i64 i6]
  have x := (Below.refl v5.heap.size v5).alloc (Nat.le_refl _) (.cells #[.int .i64 i0, .int .i64 i1, .int .i64 i2, .int .i64 i3, .int .i64 i4, .int .i64 i5, .int .i64 i6] 61)
  have F6 := F5.trans (x.mono F5.size)
  have G6 := G5.trans (x.mono G5.size)
  replace kW := kW.below x kW.lt
  clear x F5 G5
  go_upto_region 7 with fail
  generalize hg : v5.heap.size = gV at kV ⊢
  clear hg
  generalize v5.alloc (.cells #[.int .i64 i0, .int .i64 i1, .int .i64 i2, .int .i64 i3, .int .i64 i4, .int .i64 i5, .int .i64 i6] 61) = v6 at *
  obtain ⟨d0, d1, d2, d3, d4, d5, d6⟩ := clsA7 kW
  obtain ⟨m0, m1, m2, m3, m4, m5, m6⟩ := clsA7 kV
  clear kW kV
  obtain ⟨c0, c1, c2, c3, c4, c5⟩ := unhide HA v6 G6
  go_wp2_with fail
  clear c0 c1 c2 c3 c4 c5
  refine (unhide h5 v6 F6).mono ?_
  rintro y v7 ⟨rfl, x⟩
  dsimp only
  have F7 := F6.trans (x.mono F6.size)
  have G7 := G6.trans (x.mono G6.size)
  clear x F6 G6 h5
  clear d0 d1 d2 d3 d4 d5 d6 m0 m1 m2 m3 m4 m5 m6
  obtain ⟨c0, c1, c2, c3, c4, c5⟩ := unhide HA v7 G7
  go_wp2_with fail
  clear c0 c1 c2 c3 c4 c5
  refine (unhide h6 v7 F7).mono ?_
  rintro y v8 ⟨rfl, x⟩
  dsimp only
  have F8 := F7.trans (x.mono F7.size)
  have G8 := G7.trans (x.mono G7.size)
  clear x F7 G7 h6
  obtain ⟨c0, c1, c2, c3, c4, c5⟩ := unhide HA v8 G8
  go_wp2_with fail
  clear c0 c1 c2 c3 c4 c5
  refine (unhide h7 v8 F8).mono ?_
  rintro y v9 ⟨rfl, x⟩
  dsimp only
  have F9 := F8.trans (x.mono F8.size)
  have G9 := G8.trans (x.mono G8.size)
  clear x F8 G8 h7
  obtain ⟨c0, c1, c2, c3, c4, c5⟩ := unhide HA v9 G9
  go_wp2_with fail
  clear c0 c1 c2 c3 c4 c5
  refine (unhide h8 v9 F9).mono ?_
  rintro y v10 ⟨rfl, x⟩
  dsimp only
  have F10 := F9.trans (x.mono F9.size)
  have G10 := G9.trans (x.mono G9.size)
  clear x F9 G9 h8
  have kL := Cls.new v10 76 #[.int .i64 L1, .int .i64 L2, .int .i64 L3]
  have x := (Below.refl v10.heap.size v10).alloc (Nat.le_refl _) (.cells #[.int .i64 L1, .int .i64 L2, .int .i64 L3] 76)
  have F11 := F10.trans (x.mono F10.size)
  have G11 := G10.trans (x.mono G10.size)
  clear x F10 G10
  go_upto_region 15 with fail
  generalize hg : v10.heap.size = gL at kL ⊢
  clear hg
  generalize v10.alloc (.cells #[.int .i64 L1, .int .i64 L2, .int .i64 L3] 76) = v11 at *
  obtain ⟨d0, d1, d2⟩ := cells3w kL
  clear kL
  obtain ⟨c0, c1, c2, c3, c4, c5⟩ := unhide HA v11 G11
  go_wp2_with fail
  clear c0 c1 c2 c3 c4 c5
  refine (unhide h9 v11 F11).mono ?_
  rintro y v12 ⟨rfl, x⟩
  dsimp only
  have F12 := F11.trans (x.mono F11.size)
  have G12 := G11.trans (x.mono G11.size)
  clear x F11 G11 h9
  clear d0 d1 d2
  obtain ⟨c0, c1, c2, c3, c4, c5⟩ := unhide HA v12 G12
  go_wp2_with fail
  clear c0 c1 c2 c3 c4 c5
  refine (unhide h10 v12 F12).mono ?_
  rintro y v13 ⟨rfl, x⟩
  dsimp only
  have F13 := F12.trans (x.mono F12.size)
  have G13 := G12.trans (x.mono G12.size)
  clear x F12 G12 h10
  obtain ⟨c0, c1, c2, c3, c4, c5⟩ := unhide HA v13 G13
  go_wp2_with fail
  clear c0 c1 c2 c3 c4 c5
  refine (unhide h11 v13 F13).mono ?_
  rintro y v14 ⟨rfl, x⟩
  dsimp only
  have F14 := F13.trans (x.mono F13.size)
  have G14 := G13.trans (x.mono G13.size)
  clear x F13 G13 h11
  have kS := Cls.new v14 82 #[.int .i32 sr, .int .i64 sn, .bool sb]
  have x := (Below.refl v14.heap.size v14).alloc (Nat.le_refl _) (.cells #[.int .i32 sr, .int .i64 sn, .bool sb] 82)
  have F15 := F14.trans (x.mono F14.size)
  have G15 := G14.trans (x.mono G14.size)
  clear x F14 G14
  go_upto_region 22 with fail
  generalize hg : v14.heap.size = gS at kS ⊢
  clear hg
  generalize v14.alloc (.cells #[.int .i32 sr, .int .i64 sn, .bool sb] 82) = v15 at *
  obtain ⟨c0, c1, c2, c3, c4, c5⟩ := unhide HA v15 G15
  go_wp2_with fail
  clear c0 c1 c2 c3 c4 c5
  refine (unhide h12 v15 F15).mono ?_
  rintro y v16 ⟨rfl, x⟩
  dsimp only
  have F16 := F15.trans (x.mono F15.size)
  have G16 := G15.trans (x.mono G15.size)
  replace kS := kS.below x kS.lt
  clear x F15 G15 h12
  have kT := Cls.new v16 82 #[.int .i32 sr, .int .i64 sn, .bool sb]
  have x := (Below.refl v16.heap.size v16).alloc (Nat.le_refl _) (.cells #[.int .i32 sr, .int .i64 sn, .bool sb] 82)
  have F17 := F16.trans (x.mono F16.size)
  have G17 := G16.trans (x.mono G16.size)
  replace kS := kS.below x kS.lt
  clear x F16 G16
  go_upto_region 23 with fail
  generalize hg : v16.heap.size = gT at kT ⊢
  clear hg
  generalize v16.alloc (.cells #[.int .i32 sr, .int .i64 sn, .bool sb] 82) = v17 at *
  obtain ⟨d0, d1, d2⟩ := cells3w kS
  obtain ⟨m0, m1, m2⟩ := cells3w kT
  clear kS kT
  go_wp2_with fail
  refine bodyPost_ret (results_tmp rfl _ _ _) rfl ⟨rfl, F17⟩
theorem answers10_at (g : Nat) (o : Option Nd) (a : Option Addr) (c : Nat) (T : List Int) (pl ln cl fr tr mo : Int) (w : World) (h1 : IsRo w g o) (e1 : txtO o = T) (hI : IsB w a c T) (hm : T.length ≤ 600) (hW : Wt w) :
    Calls Tryz.prog 10 #[.pointer (some ⟨g, 0, none⟩), .slice a T.length c, .agg #[.int .i64 pl, .int .i64 ln, .int .i64 cl, .int .i64 fr, .int .i64 tr, .int .i64 mo]] w fun y w' => y = .returned (.bool true) ∧ Below w.heap.size w w' := by
  obtain ⟨i0, i1, i2, i3, i4, i5, i6, e, hw⟩ : ∃ i0 i1 i2 i3 i4 i5 i6 e : Int, whV T pl = .tuple #[.agg #[.int .i64 i0, .int .i64 i1, .int .i64 i2, .int .i64 i3, .int .i64 i4, .int .i64 i5, .int .i64 i6], .int .i64 e] := by
    unfold whV; split
    · exact ⟨_, _, _, _, _, _, _, _, rfl⟩
    · exact ⟨_, _, _, _, _, _, _, _, rfl⟩
  obtain ⟨L1, L2, L3, LE, hl, hr⟩ : ∃ L1 L2 L3 LE : Int, liV (nbr T ln) = .tuple #[.int .i64 L1, .int .i64 L2, .int .i64 L3, .int .i64 LE] ∧ rlV (nbr T ln) = .tuple #[.agg #[.int .i64 L1, .int .i64 L2, .int .i64 L3], .int .i64 LE] := by
    cases nbr T ln with
    | none => exact ⟨0, 0, 0, 2, rfl, rfl⟩
    | some x => exact ⟨(x.2.1 : Int), (x.2.2.1 : Int), (x.2.2.2 : Int), 0, rfl, rfl⟩
  obtain ⟨F, FE, hf⟩ : ∃ F FE : Int, floorV T pl = .tuple #[.int .i64 F, .int .i64 FE] := by
    unfold floorV; split
    · exact ⟨_, _, rfl⟩
    · exact ⟨_, _, rfl⟩
  obtain ⟨q, sr, sn, se, sb, hs⟩ : ∃ (q sr sn se : Int) (sb : Bool), stV10 T pl = .tuple #[.int .i64 q, .agg #[.int .i32 sr, .int .i64 sn, .bool sb], .int .i64 se] := by
    unfold stV10; split
    · exact ⟨_, _, _, _, _, rfl⟩
    · exact ⟨_, _, _, _, _, rfl⟩
  have m1 : (txtO o).length ≤ 268435456 := by rw [e1]; omega
  have hb := bytes_of h1
  refine answers10_of g T.length c a pl ln cl fr tr mo (toP fr pl tr mo (EE T) : Int) (toR fr pl tr mo (EE T)) (atP T ln cl fr mo : Int) (atR T ln cl fr mo) L1 L2 L3 LE F FE q sr sn se i0 i1 i2 i3 i4 i5 i6 e sb w
    (hide fun X hx => ?_) (hide fun X hx => RTo10_at a c T fr pl tr mo X (hI.below hx (Nat.le_refl _)) hm) (hide fun X hx => ?_) (hide fun X hx => hw ▸ RWhere7_at a c T pl X (hI.below hx (Nat.le_refl _)) (by omega))
    (hide fun X hx => ?_) (hide fun X hx => RAt7_at a c T ln cl fr mo X (hI.below hx (Nat.le_refl _)) hm) (hide fun X hx => ?_) (hide fun X hx => hr ▸ RLine10_at a c T ln X (hI.below hx (Nat.le_refl _)) hm)
    (hide fun X hx => ?_) (hide fun X hx => hf ▸ RFloor10_at a c T pl X (hI.below hx (Nat.le_refl _)) hm) (hide fun X hx => ?_) (hide fun X hx => hs ▸ RStep10_at a c T pl X (hI.below hx (Nat.le_refl _)) hm)
  · have := ToA10_at g o fr pl tr mo X (h1.on hx) m1 (hW.below hx); rw [e1] at this; exact this
  · have := Where10_at g o pl X (h1.on hx) m1 (hW.below hx); rw [e1, hw] at this; exact this
  · have := AtA10_at g o ln cl fr mo X (h1.on hx) m1 (hW.below hx); rw [e1] at this; exact this
  · have := Line10_at g o ln X (h1.on hx) m1 (hW.below hx); rw [e1, hl] at this; exact this
  · have := Floor10_at g o pl X (h1.on hx) (fun x hx => hb x hx) m1 (hW.below hx); rw [e1, hf] at this; exact this
  · have := Step10_at g o pl X (h1.on hx) m1 (hW.below hx); rw [e1, hs] at this; exact this
end
section
attribute [local go_sem] Oper.semAt_some
structure JoI (w : World) (ls : List (List Int)) (k : Nat) (v : Value) (X : World) : Prop where
  o : Own X w.heap.size v (ls.take k).flatten
  d : Below w.heap.size w X
theorem Joined10_at (a0 : Option Addr) (cap : Nat) (ls : List (List Int)) (w : World) (h : IsNN w a0 ls) (hs : ls.flatten.length ≤ 268435456) (hlen : ls.length ≤ 4611686018427387904) :
    Calls Tryz.prog 7 #[.slice a0 ls.length cap] w fun y w' => ∃ v, y = .returned v ∧ Own w' w.heap.size v ls.flatten ∧ Below w.heap.size w w' := by
  have HP := hide fun (X : World) (hx : Below w.heap.size w X) => h.below hx (Nat.le_refl _)
  have HS := hide hs
  have b0 : Below w.heap.size w (w.alloc (.cells #[] 5)) := (Below.refl _ _).alloc (Nat.le_refl _) _
  have i0 : JoI w ls 0 (.slice (some ⟨w.heap.size, 0, none⟩) 0 0) (w.alloc (.cells #[] 5)) := ⟨own_lit0S w, b0⟩
  clear h hs b0
  go_enter Tryz.func7, Tryz.ntmps7
  go_wp2_with fail
  generalize w.alloc (.cells #[] 5) = w0 at *
  go_loopw [3, 4] (fun v3 v4 wx => ∃ (k : Nat), v4 = .int .i64 (k : Int) ∧ k ≤ ls.length ∧ Hid (JoI w ls k v3 wx)) (fun _ i _ => ls.length - (intOf i).toNat)
  case atStart => exact ⟨0, rfl, Nat.zero_le _, hide i0⟩
  case round =>
    clear i0
    obtain ⟨k, rfl, hk, HI⟩ := hrel
    rename_i v3
    by_cases c : k < ls.length
    · have t1 : (k : Int) < (ls.length : Int) := by omega
      have d1 : decide ((k : Int) < (ls.length : Int)) = true := decide_eq_true t1
      have hI := unhide HI
      rcases unhide HP wr hI.d with hnil | ⟨ga, off, rfl, hga, hrow⟩
      · rw [hnil] at c; exact absurd c (Nat.not_lt_zero _)
      · obtain ⟨A, C, hcell, hN⟩ := hrow k c
        have hle := flat_take ls c
        clear hrow
        generalize ls.getD k [] = pc at *
        have hle2 := flat_le ls (k + 1)
        have hlp : ((ls.take k).flatten).length + pc.length ≤ 268435456 := by
          have := unhide HS
          rw [hle, List.length_append] at hle2
          omega
        obtain ⟨v', W', r1, r2, r3, _⟩ := appG 30 hI.o hI.d.size hN.1 hlp
        have i1 : JoI w ls (k + 1) v' W' := ⟨by rw [hle]; exact r2, hI.d.trans r3⟩
        have R1 := hide r1
        have HI1 := hide i1
        clear r1 r2 r3 hN hI hle hle2 hlp i1 hga
        have wk : wrap64 ((k : Int) + 1) = (k : Int) + 1 := wrap_in _ (by omega) (by omega)
        go_wp2_with (at_builtin; refine wpList_append_known rfl _ _ 30 30 rfl _ _ rfl rfl _ _ (unhide R1) ?_)
        go_roundw
        case rel => exact ⟨k + 1, by push_cast; rfl, by omega, HI1⟩
        case measure => simp only [intOf]; omega
    · have t1 : ¬ (k : Int) < (ls.length : Int) := by omega
      have d1 : decide ((k : Int) < (ls.length : Int)) = false := decide_eq_false t1
      have hkk : k = ls.length := by omega
      have HK := hide hkk
      clear hkk
      go_wp2_with fail
      refine bodyPost_ret (results_tmp rfl _ _ _) rfl ?_
      have hI := unhide HI
      exact ⟨_, rfl, by have := hI.o; rw [unhide HK, List.take_length] at this; exact this, hI.d⟩
theorem Large10_at (a0 : Option Addr) (n cap : Nat) (w : World) (hn : n ≤ 4611686018427387904) : Calls Tryz.prog 8 #[.slice a0 n cap] w fun y w' => y = .returned (.bool (decide (400 < n))) ∧ Below w.heap.size w w' := by
  by_cases h : 400 < n
  · have d1 : decide ((400 : Int) < (n : Int)) = true := decide_eq_true (by omega)
    have d2 : decide ((n : Int) > 400) = true := decide_eq_true (by omega)
    have d3 : decide (400 < n) = true := decide_eq_true h
    rw [d3]
    clear hn
    go_enter Tryz.func8, Tryz.ntmps8
    go_wp2_with fail
    go_ret
    exact ⟨ret_bool (by simp), Below.refl _ _⟩
  · have d1 : decide ((400 : Int) < (n : Int)) = false := decide_eq_false (by omega)
    have d3 : decide (400 < n) = false := decide_eq_false h
    rw [d3]
    clear hn
    go_enter Tryz.func8, Tryz.ntmps8
    go_wp2_with fail
    go_ret
    exact ⟨ret_bool (by simp), Below.refl _ _⟩
end
end Go.Proofs.YteamaneompijkaaGreatDoor
