/- Layer 5: the document's units and Sizes. · Layer 5: the document's Sizes. · Layer 5: the document's head, tail and Of. · Layer 5: the document's Of. · Layer 5: a row of one's own beside boxes (written by wip/tools/wof.py). -/
import Derived.Test.YtlhobpjiclcpiaaDoorWof
import Derived.Test.YtlhobpjiclcpiaaDoorWmc
import Derived.Test.YtlhobpjiclcpiaaDoorRf2T
import Derived.Deep.Cut
import Derived.Test.YtlhobpjiclcpiaaDoorWfx
import Derived.Test.YtlhobpjiclcpiaaDoorRwx
import Derived.Deep.AppendLies
import Derived.Deep.AppendSrc

section
namespace Go.Proofs.YtlhobpjiclcpiaaDoor
open Go.ChangeShapes Go.WideShapes Go.ChangeAt Go.RowKit
attribute [local go_sem] Oper.semAt_some

def H4 (W : World) (g : Nat) (t : TypeId) (x y z u : Value) : Prop := W.heap[g]? = some (.cells #[x, y, z, u] t (0, 0))
theorem H4.lt {W : World} {g : Nat} {t : TypeId} {x y z u : Value} (h : H4 W g t x y z u) : g < W.heap.size := (Array.getElem?_eq_some_iff.1 h).1
theorem H4.cells {W : World} {g : Nat} {t : TypeId} {x y z u : Value} (h : H4 W g t x y z u) : W.cell? ⟨g, 0, none⟩ = some x ∧ W.cell? ⟨g, 1, none⟩ = some y ∧ W.cell? ⟨g, 2, none⟩ = some z ∧ W.cell? ⟨g, 3, none⟩ = some u ∧ ∀ i, W.frozen? ⟨g, i, none⟩ = false := by
  unfold H4 at h
  refine ⟨by simp only [World.cell?, h]; rfl, by simp only [World.cell?, h]; rfl, by simp only [World.cell?, h]; rfl, by simp only [World.cell?, h]; rfl, fun i => by simp only [World.frozen?, h]; simp⟩
theorem H4.on {W W' : World} {g : Nat} {t : TypeId} {x y z u : Value} (h : H4 W g t x y z u) (hb : Below W.heap.size W W') : H4 W' g t x y z u := (hb.block g h.lt).trans h
theorem H4.set1 {W : World} {g : Nat} {t : TypeId} {x y z u : Value} (h : H4 W g t x y z u) (v : Value) : H4 (W.setCell ⟨g, 1, none⟩ v) g t x v z u := heap_setCell_same W g 1 _ t v h
theorem H4.set2 {W : World} {g : Nat} {t : TypeId} {x y z u : Value} (h : H4 W g t x y z u) (v : Value) : H4 (W.setCell ⟨g, 2, none⟩ v) g t x y v u := heap_setCell_same W g 2 _ t v h
theorem H4.set3 {W : World} {g : Nat} {t : TypeId} {x y z u : Value} (h : H4 W g t x y z u) (v : Value) : H4 (W.setCell ⟨g, 3, none⟩ v) g t x y z v := heap_setCell_same W g 3 _ t v h
theorem H4.all {W : World} {g : Nat} {t : TypeId} {x y z u : Value} (h : H4 W g t x y z u) (a b c d : Value) : H4 ((((W.setCell ⟨g, 0, none⟩ a).setCell ⟨g, 1, none⟩ b).setCell ⟨g, 2, none⟩ c).setCell ⟨g, 3, none⟩ d) g t a b c d :=
  have h0 := heap_setCell_same W g 0 #[x, y, z, u] t a h
  have h1 := heap_setCell_same _ g 1 _ t b h0
  have h2 := heap_setCell_same _ g 2 _ t c h1
  heap_setCell_same _ g 3 _ t d h2
theorem H4.other {W : World} {g g' i : Nat} {t : TypeId} {x y z u v : Value} (h : H4 W g t x y z u) (hne : g ≠ g') : H4 (W.setCell ⟨g', i, none⟩ v) g t x y z u := (Below.heap_setCell W ⟨g', i, none⟩ v g hne).trans h

set_option maxRecDepth 100000 in
theorem Runits_at (r : Int) (wd : Int) (b : Bool) (w : World) :
    Calls Tryd.prog 29 #[.agg #[.int .i32 r, .int .i64 wd, .bool b]] w fun y w' => y = .returned (.int .i64 (uni1 r)) ∧ Below w.heap.size w w' := by
  have b0 := (Below.refl w.heap.size w).alloc (Nat.le_refl _) (.cells #[.int .i32 r, .int .i64 wd, .bool b] 60)
  have c0 : (w.alloc (.cells #[.int .i32 r, .int .i64 wd, .bool b] 60)).cell? ⟨w.heap.size, 0, none⟩ = some (.int .i32 r) := (World.cell?_alloc_mark w _ _ (0, 0) 0).trans rfl
  go_enter Tryd.func29, Tryd.ntmps29
  by_cases h : 65535 < r
  · have HV : Hid (uni1 r = 2) := hide (by unfold uni1; rw [if_pos h])
    have t1 : decide (r > 65535) = true := decide_eq_true h
    have t2 : decide (65535 < r) = true := decide_eq_true h
    go_wp2_with fail
    go_ret
    exact ⟨ret_int (by rw [unhide HV]), b0⟩
  · have HV : Hid (uni1 r = 1) := hide (by unfold uni1; rw [if_neg h])
    have t1 : decide (r > 65535) = false := decide_eq_false h
    have t2 : decide (65535 < r) = false := decide_eq_false h
    go_wp2_with fail
    go_ret
    exact ⟨ret_int (by rw [unhide HV]), b0⟩
theorem ends_snoc (a : List Int) (x : Int) : endsN (a ++ [x]) = endsN a + (if (x = 10 ∧ ¬ a.getLast? = some 13) ∨ x = 13 then 1 else 0) := by
  unfold endsN
  rw [crlf_app, List.count_append, List.count_append]
  have h0 : crlf [x] = 0 := by simp [crlf]
  rw [h0]
  have h1 : ([x].count 13 : Int) = if x = 13 then 1 else 0 := by by_cases h : x = 13 <;> simp [h]
  have h2 : ([x].count 10 : Int) = if x = 10 then 1 else 0 := by by_cases h : x = 10 <;> simp [h]
  simp only [Int.natCast_add, h1, h2, List.head?_cons, Option.some.injEq]
  by_cases e1 : x = 13
  · subst e1; simp; omega
  · by_cases e2 : x = 10
    · subst e2
      by_cases e3 : a.getLast? = some 13 <;> simp [e3] <;> omega
    · simp [e1, e2]
theorem usum_snoc (l : List Int) (ps : List Nat) (p : Nat) : usum l (ps ++ [p]) = usum l ps + uni1 (first (l.drop p)).1 := by simp [usum]

end Go.Proofs.YtlhobpjiclcpiaaDoor
end

section
namespace Go.Proofs.YtlhobpjiclcpiaaDoor
open Go.ChangeShapes Go.WideShapes Go.ChangeAt Go.RowKit
attribute [local go_sem] Oper.semAt_some

theorem steps_set {W : World} {l : List Int} {a : Option Addr} {ps : List Nat} {gZ i : Nat} {t : TypeId} {x : Int} {y z u v : Value} (h : StepsAt W l a ps) (hZ : H4 W gZ t (.int .i64 x) y z u) : StepsAt (W.setCell ⟨gZ, i, none⟩ v) l a ps := by
  rcases h with h | ⟨g, h1, h2, h3⟩
  · exact Or.inl h
  · rcases Nat.eq_zero_or_pos ps.length with h0 | h0
    · exact Or.inl (List.length_eq_zero_iff.1 h0)
    · have hne : g ≠ gZ := fun e => by
        have c := (h3 0 h0).1
        rw [Nat.zero_mul, e, hZ.cells.1] at c
        simp at c
      have hb := Below.heap_setCell W ⟨gZ, i, none⟩ v g hne
      have hc : ∀ j, (W.setCell ⟨gZ, i, none⟩ v).cell? ⟨g, j, none⟩ = W.cell? ⟨g, j, none⟩ := fun j => World.cell?_of_block (a := ⟨g, j, none⟩) hb
      exact Or.inr ⟨g, h1, by rw [show (W.setCell ⟨gZ, i, none⟩ v).heap.size = W.heap.size from Array.size_modify ..]; exact h2, fun k hk => by rw [hc, hc, hc]; exact h3 k hk⟩
structure SzI (w : World) (a0 : Option Addr) (cap : Nat) (l : List Int) (gR gZ : Nat) (a : Option Addr) (r u e : Int) (X : World) : Prop where
  R : H4 X gR 25 (.int .i64 0) (.int .i64 0) (.int .i64 0) (.int .i64 0)
  Z : H4 X gZ 25 (.int .i64 (l.length : Int)) (.int .i64 r) (.int .i64 u) (.int .i64 e)
  s : StepsAt X l a (spots l 0)
  b : Below w.heap.size w X
  zr : w.heap.size ≤ gR
  zz : w.heap.size ≤ gZ
  ne : gR ≠ gZ
theorem SzI.on {w : World} {a0 : Option Addr} {cap : Nat} {l : List Int} {gR gZ : Nat} {a : Option Addr} {r u e : Int} {X Y : World} (h : SzI w a0 cap l gR gZ a r u e X) (hb : Below X.heap.size X Y) : SzI w a0 cap l gR gZ a r u e Y :=
  ⟨h.R.on hb, h.Z.on hb, h.s.below hb (Nat.le_refl _), h.b.trans (hb.mono h.b.size), h.zr, h.zz, h.ne⟩
theorem SzI.s1 {w : World} {a0 : Option Addr} {cap : Nat} {l : List Int} {gR gZ : Nat} {a : Option Addr} {r u e : Int} {X : World} (h : SzI w a0 cap l gR gZ a r u e X) (x : Int) : SzI w a0 cap l gR gZ a x u e (X.setCell ⟨gZ, 1, none⟩ (.int .i64 x)) :=
  ⟨h.R.other h.ne, h.Z.set1 _, steps_set h.s h.Z, h.b.setCell (p := ⟨gZ, 1, none⟩) h.zz _, h.zr, h.zz, h.ne⟩
theorem SzI.s2 {w : World} {a0 : Option Addr} {cap : Nat} {l : List Int} {gR gZ : Nat} {a : Option Addr} {r u e : Int} {X : World} (h : SzI w a0 cap l gR gZ a r u e X) (x : Int) : SzI w a0 cap l gR gZ a r x e (X.setCell ⟨gZ, 2, none⟩ (.int .i64 x)) :=
  ⟨h.R.other h.ne, h.Z.set2 _, steps_set h.s h.Z, h.b.setCell (p := ⟨gZ, 2, none⟩) h.zz _, h.zr, h.zz, h.ne⟩
theorem SzI.s3 {w : World} {a0 : Option Addr} {cap : Nat} {l : List Int} {gR gZ : Nat} {a : Option Addr} {r u e : Int} {X : World} (h : SzI w a0 cap l gR gZ a r u e X) (x : Int) : SzI w a0 cap l gR gZ a r u x (X.setCell ⟨gZ, 3, none⟩ (.int .i64 x)) :=
  ⟨h.R.other h.ne, h.Z.set3 _, steps_set h.s h.Z, h.b.setCell (p := ⟨gZ, 3, none⟩) h.zz _, h.zr, h.zz, h.ne⟩
theorem usum_le (l : List Int) : ∀ ps : List Nat, 0 ≤ usum l ps ∧ usum l ps ≤ 2 * (ps.length : Int)
  | [] => by simp [usum]
  | p :: ps => by
    have h1 := usum_le l ps
    have h2 := uni1_in (first (l.drop p)).1
    rw [usum_cons, List.length_cons]
    omega

set_option maxRecDepth 100000 in
set_option maxHeartbeats 4000000 in
theorem RSizes_at (a0 : Option Addr) (cap : Nat) (l : List Int) (w : World) (hB : IsB w a0 cap l) (hl : l.length ≤ 268435456) :
    Calls Tryd.prog 11 #[.slice a0 l.length cap] w fun y w' => y = .returned (szV (szL l)) ∧ Below w.heap.size w w' := by
  have hsl := spots_le l
  have x1 := (Below.refl w.heap.size w).alloc (Nat.le_refl _) (.cells #[.int .i64 0, .int .i64 0, .int .i64 0, .int .i64 0] 25)
  have g1 : H4 (w.alloc (.cells #[.int .i64 0, .int .i64 0, .int .i64 0, .int .i64 0] 25)) w.heap.size 25 (.int .i64 0) (.int .i64 0) (.int .i64 0) (.int .i64 0) := push_get w _
  have x2 := (Below.refl (w.alloc (.cells #[.int .i64 0, .int .i64 0, .int .i64 0, .int .i64 0] 25)).heap.size (w.alloc (.cells #[.int .i64 0, .int .i64 0, .int .i64 0, .int .i64 0] 25))).alloc (Nat.le_refl _) (.cells #[.int .i64 (l.length : Int), .int .i64 0, .int .i64 0, .int .i64 0] 25)
  have g2 : H4 ((w.alloc (.cells #[.int .i64 0, .int .i64 0, .int .i64 0, .int .i64 0] 25)).alloc (.cells #[.int .i64 (l.length : Int), .int .i64 0, .int .i64 0, .int .i64 0] 25)) (w.alloc (.cells #[.int .i64 0, .int .i64 0, .int .i64 0, .int .i64 0] 25)).heap.size 25 (.int .i64 (l.length : Int)) (.int .i64 0) (.int .i64 0) (.int .i64 0) := push_get _ _
  have g12 := g1.on x2
  have b2 := x1.trans (x2.mono x1.size)
  rw [World.size_alloc] at g2
  have hZZ : w.heap.size ≠ w.heap.size + 1 := by omega
  have hzz : w.heap.size ≤ w.heap.size + 1 := by omega
  clear x1 x2 g1
  go_enter Tryd.func11, Tryd.ntmps11
  go_wp2_with fail
  generalize (w.alloc (.cells #[.int .i64 0, .int .i64 0, .int .i64 0, .int .i64 0] 25)).alloc (.cells #[.int .i64 (l.length : Int), .int .i64 0, .int .i64 0, .int .i64 0] 25) = w2 at *
  refine (Steps_at a0 cap l w2 (hB.below b2 (Nat.le_refl _)) hl).mono ?_
  rintro y w3 ⟨a, c, rfl, hcN, hs3, x3⟩
  have HI : Hid (SzI w a0 cap l w.heap.size (w.heap.size + 1) a 0 0 0 w3) := hide ⟨g12.on x3, g2.on x3, hs3, b2.trans (x3.mono b2.size), Nat.le_refl _, hzz, hZZ⟩
  clear g12 g2 hs3 b2 x3 hZZ hzz
  generalize hgZ : w.heap.size + 1 = gZ at *
  generalize hgR : w.heap.size = gR at HI ⊢
  clear hgZ hgR
  have HB := hide hB
  clear hB
  have HN : Hid ((spots l 0).length ≤ l.length) := hide hsl
  generalize hNN : (spots l 0).length = N at *
  have HNN := hide hNN
  clear hNN
  have hN6 : N ≤ 268435456 := by omega
  clear hsl
  go_wp2_with fail
  go_loopw [5] (fun i wx => ∃ k : Nat, k ≤ N ∧ i = .int .i64 (k : Int) ∧ Hid (SzI w a0 cap l gR gZ a (k : Int) (usum l ((spots l 0).take k)) 0 wx)) (fun i _ => N - (intOf i).toNat)
  case atStart => exact ⟨0, Nat.zero_le _, rfl, HI⟩
  case round =>
    clear HI
    obtain ⟨k, hk, rfl, HI⟩ := hrel
    by_cases hlt : k < N
    · have t1 : decide ((k : Int) < (N : Int)) = true := decide_eq_true (by omega)
      have hks : k < (spots l 0).length := by rw [unhide HNN]; exact hlt
      have hu := usum_le l ((spots l 0).take k)
      have hul : (((spots l 0).take k).length : Int) ≤ 268435456 := by rw [List.length_take]; omega
      have HU : Hid (usum l ((spots l 0).take (k + 1)) = usum l ((spots l 0).take k) + uni1 (first (l.drop ((spots l 0).getD k 0))).1) := hide (by rw [take_snoc' _ _ hks, usum_snoc])
      have hs := (unhide HI).s
      obtain ⟨g, rfl⟩ : ∃ g, a = some ⟨g, 0, none⟩ := by
        rcases hs with h | ⟨g, h1, _, _⟩
        · rw [h] at hks; cases hks
        · exact ⟨g, h1⟩
      have HSC : Hid (∀ r u e X, SzI w a0 cap l gR gZ (some ⟨g, 0, none⟩) r u e X → X.cell? ⟨gZ, 2, none⟩ = some (.int .i64 u) ∧ X.cell? ⟨g, k * 3, none⟩ = some (.int .i32 (first (l.drop ((spots l 0).getD k 0))).1) ∧ X.cell? ⟨g, k * 3 + 1, none⟩ = some (.int .i64 (wid (l.drop ((spots l 0).getD k 0)) : Int)) ∧ X.cell? ⟨g, k * 3 + 2, none⟩ = some (.bool (whl (l.drop ((spots l 0).getD k 0))))) := hide (fun r u e X h => ⟨h.Z.cells.2.2.1, by
        rcases h.s with h | ⟨g', h1, _, h3⟩
        · rw [h] at hks; cases hks
        · cases h1; exact h3 k hks⟩)
      clear hs hks
      generalize (first (l.drop ((spots l 0).getD k 0))).1 = rn at *
      generalize (wid (l.drop ((spots l 0).getD k 0)) : Int) = wd at *
      generalize whl (l.drop ((spots l 0).getD k 0)) = wh at *
      generalize hup : usum l ((spots l 0).take (k + 1)) = u' at *
      have HUP := hide hup
      clear hup
      generalize usum l ((spots l 0).take k) = u at *
      obtain ⟨c0, c1, c2, c3, f⟩ := (unhide HI).Z.cells
      have f1 := f 1
      have HI1 := (unhide HI).s1 ((k : Int) + 1)
      clear f
      go_upto_region 7 with fail
      generalize wr.setCell ⟨gZ, 1, none⟩ (.int .i64 ((k : Int) + 1)) = y at *
      have HI2 := HI1.on ((Below.refl y.heap.size y).drew)
      have HS0 : Hid ((fun w' : World => w'.cell? ⟨gZ, 2, none⟩ = some (.int .i64 u) ∧ w'.cell? ⟨g, k * 3, none⟩ = some (.int .i32 rn) ∧ w'.cell? ⟨g, k * 3 + 1, none⟩ = some (.int .i64 wd) ∧ w'.cell? ⟨g, k * 3 + 2, none⟩ = some (.bool wh)) y.drew) := hide (unhide HSC _ _ _ _ HI2)
      clear c0 c1 c2 c3 f1 HI1 HI
      have hun := uni1_in rn
      have hwu : IntKind.i64.wrap (u + uni1 rn) = u' := by rw [unhide HU, IntKind.wrap_i64]; omega
      refine regionL (S := fun w' => w'.cell? ⟨gZ, 2, none⟩ = some (.int .i64 u) ∧ w'.cell? ⟨g, k * 3, none⟩ = some (.int .i32 rn) ∧ w'.cell? ⟨g, k * 3 + 1, none⟩ = some (.int .i64 wd) ∧ w'.cell? ⟨g, k * 3 + 2, none⟩ = some (.bool wh)) (fun i => i == 9) (by kernel_rfl) ?_
      generalize y.drew = y0 at *
      refine anyL_take (i := 0) (v := ?vp0) rfl (by kernel_rfl) (by kernel_rfl) (by kernel_rfl) (by kernel_rfl) (fun _ _ _ h => h) (Or.inl ⟨by rfl, ?hp0⟩) (unhide HS0) ?_
      case hp0 => (intro w hSw; (try dsimp only at hSw); go_simp) <;> with_reducible rfl
      simp only [Act.put, List.getElem_toArray, List.getElem_cons_zero, List.setIfInBounds_toArray, List.set_cons_zero, List.set_cons_succ]
      refine anyL_take (i := 1) (v := ?vp1) rfl (by kernel_rfl) (by kernel_rfl) (by kernel_rfl) (by kernel_rfl) (fun _ _ _ h => h) (Or.inl ⟨by rfl, ?hp1⟩) (unhide HS0) ?_
      case hp1 => (intro w hSw; (try dsimp only at hSw); go_simp) <;> with_reducible rfl
      simp only [Act.put, List.getElem_toArray, List.getElem_cons_zero, List.getElem_cons_succ, List.setIfInBounds_toArray, List.set_cons_zero, List.set_cons_succ]
      refine anyL_take (i := 2) (v := ?vp2) rfl (by kernel_rfl) (by kernel_rfl) (by kernel_rfl) (by kernel_rfl) (fun _ _ _ h => h) (Or.inl ⟨by rfl, ?hp2⟩) (unhide HS0) ?_
      case hp2 => (intro w hSw; (try dsimp only at hSw); go_simp) <;> with_reducible rfl
      simp only [Act.put, List.getElem_toArray, List.getElem_cons_zero, List.getElem_cons_succ, List.setIfInBounds_toArray, List.set_cons_zero, List.set_cons_succ]
      refine anyL_take (i := 3) (v := ?vp3) rfl (by kernel_rfl) (by kernel_rfl) (by kernel_rfl) (by kernel_rfl) (fun _ _ _ h => h) (Or.inl ⟨by rfl, ?hp3⟩) (unhide HS0) ?_
      case hp3 => (intro w hSw; (try dsimp only at hSw); go_simp) <;> with_reducible rfl
      simp only [Act.put, List.getElem_toArray, List.getElem_cons_zero, List.getElem_cons_succ, List.setIfInBounds_toArray, List.set_cons_zero, List.set_cons_succ]
      refine anyL_take (i := 4) (v := ?vp4) rfl (by kernel_rfl) (by kernel_rfl) (by kernel_rfl) (by kernel_rfl) (fun _ _ _ h => h) (Or.inl ⟨by rfl, ?hp4⟩) (unhide HS0) ?_
      case hp4 => (intro w hSw; (try dsimp only at hSw); go_simp) <;> with_reducible rfl
      simp only [Act.put, List.getElem_toArray, List.getElem_cons_zero, List.getElem_cons_succ, List.setIfInBounds_toArray, List.set_cons_zero, List.set_cons_succ]
      refine anyL_take (i := 5) (v := ?vp5) rfl (by kernel_rfl) (by kernel_rfl) (by kernel_rfl) (by kernel_rfl) (fun _ _ _ h => h) (Or.inl ⟨by rfl, ?hp5⟩) (unhide HS0) ?_
      case hp5 => (intro w hSw; (try dsimp only at hSw); go_simp) <;> with_reducible rfl
      simp only [Act.put, List.getElem_toArray, List.getElem_cons_zero, List.getElem_cons_succ, List.setIfInBounds_toArray, List.set_cons_zero, List.set_cons_succ]
      refine anyL_ready (rs := [6]) (by kernel_rfl) (by simp) ?_
      refine AllL.cons rfl (fun K hK => ?_) AllL.nil
      go_simp
      refine (Runits_at rn wd wh y0).mono ?_
      rintro e y1 ⟨rfl, x1⟩
      have HI3 := HI2.on x1
      have HS1 : Hid ((fun w' : World => w'.cell? ⟨gZ, 2, none⟩ = some (.int .i64 u) ∧ w'.cell? ⟨g, k * 3, none⟩ = some (.int .i32 rn) ∧ w'.cell? ⟨g, k * 3 + 1, none⟩ = some (.int .i64 wd) ∧ w'.cell? ⟨g, k * 3 + 2, none⟩ = some (.bool wh)) y1) := hide (unhide HSC _ _ _ _ HI3)
      refine unhide hK _ _ (fun _ => unhide HS1) ?_
      clear hK K HS0 HI2 x1
      refine anyL_take (i := 7) (v := ?vp7) rfl (by kernel_rfl) (by kernel_rfl) (by kernel_rfl) (by kernel_rfl) (fun _ _ _ h => h) (Or.inl ⟨by rfl, ?hp7⟩) (unhide HS1) ?_
      case hp7 => (intro w hSw; (try dsimp only at hSw); go_simp) <;> with_reducible rfl
      simp only [Act.put, List.getElem_toArray, List.getElem_cons_zero, List.getElem_cons_succ, List.setIfInBounds_toArray, List.set_cons_zero, List.set_cons_succ]
      refine anyL_take (i := 8) (v := ?vp8) rfl (by kernel_rfl) (by kernel_rfl) (by kernel_rfl) (by kernel_rfl) (fun _ _ _ h => h) (Or.inl ⟨by rfl, ?hp8⟩) (unhide HS1) ?_
      case hp8 => (intro w hSw; (try dsimp only at hSw); go_simp) <;> with_reducible rfl
      simp only [Act.put, List.getElem_toArray, List.getElem_cons_zero, List.getElem_cons_succ, List.setIfInBounds_toArray, List.set_cons_zero, List.set_cons_succ]
      obtain ⟨c0, c1, c2, c3, f⟩ := HI3.Z.cells
      have f2 := f 2
      have HI4 := HI3.s2 u'
      clear f
      refine anyL_ready (rs := [9]) (by kernel_rfl) (by simp) ?_
      refine AllL.cons rfl (fun K hK => ?_) AllL.nil
      go_simp
      refine unhide hK _ _ (fun h => by cases h) ?_
      clear hK K c0 c1 c2 c3 f2 HS1 HI3
      generalize y1.setCell ⟨gZ, 2, none⟩ (.int .i64 u') = y2 at *
      refine anyL_done (by kernel_rfl) ?_ _
      go_wp2_with fail
      go_roundw
      case rel => exact ⟨k + 1, by omega, by go_num, by rw [unhide HUP, show ((k + 1 : Nat) : Int) = (k : Int) + 1 by omega]; exact hide HI4⟩
      case measure => simp [intOf]; omega
    · obtain rfl : k = N := by omega
      have HI0 : Hid (SzI w a0 cap l gR gZ a (k : Int) (unN l) (endsN (l.take 0)) wr) := hide (by
        have h := unhide HI
        rw [← unhide HNN, List.take_length] at h
        rw [← unhide HNN]
        exact h)
      clear HI hlt hk
      have hen := fun j => endsN_in (l.take j)
      have HEN := hide hen
      clear hen
      go_wp2_with fail
      go_loopw [6] (fun i wx => ∃ j : Nat, j ≤ l.length ∧ i = .int .i64 (j : Int) ∧ Hid (SzI w a0 cap l gR gZ a (k : Int) (unN l) (endsN (l.take j)) wx)) (fun i _ => l.length - (intOf i).toNat)
      case atStart => exact ⟨0, Nat.zero_le _, rfl, HI0⟩
      case round =>
        clear HI0
        obtain ⟨j, hj, rfl, HI⟩ := hrel
        by_cases hlt : j < l.length
        · have t1 : decide ((j : Int) < (l.length : Int)) = true := decide_eq_true (by omega)
          have hBx := (unhide HB).below (unhide HI).b (Nat.le_refl _)
          obtain ⟨g, off, rfl, hL⟩ : ∃ g off, a0 = some ⟨g, off, none⟩ ∧ Lies wr g off l := by
            rcases hBx.2.2.1 with h3 | h3
            · rw [h3] at hlt; simp at hlt
            · exact h3
          have cx := (hL j hlt).1
          have hen := unhide HEN j
          have htl : ((l.take j).length : Int) ≤ 268435456 := by rw [List.length_take]; omega
          have hsn := ends_snoc (l.take j) (l.getD j 0)
          rw [show l.take j ++ [l.getD j 0] = l.take (j + 1) by rw [List.take_succ_eq_append_getElem hlt]; simp [List.getD, List.getElem?_eq_getElem hlt]] at hsn
          have hla : (l.take j).getLast? = some 13 ↔ 0 < j ∧ l.getD (j - 1) 0 = 13 := by
            rw [List.getLast?_eq_getElem?, List.length_take, Nat.min_eq_left (Nat.le_of_lt hlt)]
            rcases Nat.eq_zero_or_pos j with h | h
            · subst h; simp
            · rw [List.getElem?_take_of_lt (by omega), List.getElem?_eq_getElem (by omega), List.getD_eq_getElem?_getD, List.getElem?_eq_getElem (show j - 1 < l.length by omega)]
              simp [h]
          have he1 : -268435456 ≤ endsN (l.take j) := by omega
          have he2 : endsN (l.take j) ≤ 536870912 := by omega
          have cp : 0 < j → wr.cell? ⟨g, off + (j - 1), none⟩ = some (.int .u8 (l.getD (j - 1) 0)) := fun h => (hL (j - 1) (by omega)).1
          clear hen htl hL hBx
          generalize hee : endsN (l.take j) = e at *
          have HEE := hide hee
          clear hee
          generalize l.getD j 0 = x at *
          by_cases e13 : x = 13
          · subst e13
            have HE1 : Hid (endsN (l.take (j + 1)) = e + 1) := hide (by rw [hsn, if_pos (Or.inr rfl)])
            clear hsn hla cp
            obtain ⟨c0, c1, c2, c3, f⟩ := (unhide HI).Z.cells
            have f3 := f 3
            have HI5 := hide ((unhide HI).s3 (e + 1))
            clear f HI
            go_wp2_with fail
            go_roundw
            case rel => exact ⟨j + 1, by omega, by go_num, by rw [unhide HE1]; exact HI5⟩
            case measure => simp [intOf]; omega
          · have q13 : (x == 13) = false := by simpa using e13
            by_cases e10 : x = 10
            · subst e10
              rcases Nat.eq_zero_or_pos j with rfl | hj0
              · rw [Nat.add_zero] at cx
                have HE1 : Hid (endsN (l.take (0 + 1)) = e + 1) := hide (by rw [hsn, if_pos (Or.inl ⟨rfl, by rw [hla]; omega⟩)])
                clear hsn hla cp
                obtain ⟨c0, c1, c2, c3, f⟩ := (unhide HI).Z.cells
                have f3 := f 3
                have HI5 := hide ((unhide HI).s3 (e + 1))
                clear f HI
                go_wp2_with fail
                go_roundw
                case rel => exact ⟨0 + 1, by omega, by go_num, by rw [unhide HE1]; exact HI5⟩
                case measure => simp [intOf]; omega
              · have cy := cp hj0
                have qj : ((j : Int) == 0) = false := by simp; omega
                have qj' : (j == 0) = false := by simp; omega
                have hwj : (j : Int) - 1 = ((j - 1 : Nat) : Int) := by omega
                by_cases ep : l.getD (j - 1) 0 = 13
                · have HE0 : Hid (endsN (l.take (j + 1)) = e) := hide (by rw [hsn, if_neg (by rw [hla]; omega)]; omega)
                  rw [ep] at cy
                  clear hsn hla cp ep
                  go_wp2_with fail
                  go_roundw
                  case rel => exact ⟨j + 1, by omega, by go_num, by rw [unhide HE0]; exact HI⟩
                  case measure => simp [intOf]; omega
                · have HE1 : Hid (endsN (l.take (j + 1)) = e + 1) := hide (by rw [hsn, if_pos (Or.inl ⟨rfl, by rw [hla]; omega⟩)])
                  have qp : (l.getD (j - 1) 0 == 13) = false := by simpa using ep
                  have qp' : (l.getD (j - 1) 0 != 13) = true := by simp only [bne, qp]; rfl
                  clear hsn hla cp ep
                  generalize l.getD (j - 1) 0 = y at *
                  obtain ⟨c0, c1, c2, c3, f⟩ := (unhide HI).Z.cells
                  have f3 := f 3
                  have HI5 := hide ((unhide HI).s3 (e + 1))
                  clear f HI
                  go_wp2_with fail
                  go_roundw
                  case rel => exact ⟨j + 1, by omega, by go_num, by rw [unhide HE1]; exact HI5⟩
                  case measure => simp [intOf]; omega
            · have q10 : (x == 10) = false := by simpa using e10
              have HE0 : Hid (endsN (l.take (j + 1)) = e) := hide (by rw [hsn, if_neg (by omega)]; omega)
              clear hsn hla cp
              go_wp2_with fail
              go_roundw
              case rel => exact ⟨j + 1, by omega, by go_num, by rw [unhide HE0]; exact HI⟩
              case measure => simp [intOf]; omega
        · obtain rfl : j = l.length := by omega
          have HF := (unhide HI)
          rw [List.take_length] at HF
          obtain ⟨c0, c1, c2, c3, f⟩ := HF.Z.cells
          obtain ⟨d0, d1, d2, d3, fr⟩ := HF.R.cells
          have f0 := fr 0
          have f1 := fr 1
          have f2 := fr 2
          have f3 := fr 3
          have HV : Hid (szV (szL l) = .agg #[.int .i64 (l.length : Int), .int .i64 (k : Int), .int .i64 (unN l), .int .i64 (endsN l)]) := hide (by unfold szV szL rnN; rw [unhide HNN])
          have r4 := HF.R.all (.int .i64 (l.length : Int)) (.int .i64 (k : Int)) (.int .i64 (unN l)) (.int .i64 (endsN l))
          have b4 := below4 HF.b HF.zr (.int .i64 (l.length : Int)) (.int .i64 (k : Int)) (.int .i64 (unN l)) (.int .i64 (endsN l))
          clear f fr HI HF HEN
          generalize unN l = uu at *
          generalize endsN l = ee at *
          go_wp2_with fail
          generalize ((((wr.setCell ⟨gR, 0, none⟩ (.int .i64 (l.length : Int))).setCell ⟨gR, 1, none⟩ (.int .i64 (k : Int))).setCell ⟨gR, 2, none⟩ (.int .i64 uu)).setCell ⟨gR, 3, none⟩ (.int .i64 ee)) = wf at *
          obtain ⟨q0, q1, q2, q3, _⟩ := r4.cells
          refine bodyPost_ret (v := .agg #[.int .i64 (l.length : Int), .int .i64 (k : Int), .int .i64 uu, .int .i64 ee]) (by simp [results, Tryd.results11, go_sem, q0, q1, q2, q3]) rfl ⟨by rw [unhide HV], b4⟩

end Go.Proofs.YtlhobpjiclcpiaaDoor
end

section
namespace Go.Proofs.YtlhobpjiclcpiaaDoor
open Go.ChangeShapes Go.WideShapes Go.ChangeAt Go.RowKit
attribute [local go_sem] Oper.semAt_some

set_option maxRecDepth 100000 in
theorem Rhead_at (l : List Int) (w : World) (hl : l.length ≤ 268435456) :
    Calls Tryd.prog 26 #[.string (strOfNums l)] w fun y w' => y = .returned (.string (strOfNums (l.take 3))) ∧ w' = w := by
  have hs := strOfNums_size l
  by_cases h : 3 ≤ l.length
  · have hex : (strOfNums l).extract 0 3 = strOfNums (l.take 3) := by rw [str_extract]; simp
    have h1 : (3 : Int) ≤ (l.length : Int) := by omega
    have hmin : min (3 : Int) (l.length : Int) = 3 := by omega
    go_enter Tryd.func26, Tryd.ntmps26
    go_wp2_with fail
    go_ret
    exact ⟨rfl, rfl⟩
  · have hex : (strOfNums l).extract 0 l.length = strOfNums (l.take 3) := by rw [str_extract]; simp; rw [List.take_of_length_le (by omega)]
    have h1 : ¬ (3 : Int) ≤ (l.length : Int) := by omega
    have hmin : min (3 : Int) (l.length : Int) = (l.length : Int) := by omega
    have hwn : IntKind.i64.wrap (l.length : Int) = (l.length : Int) := by rw [IntKind.wrap_i64]; omega
    go_enter Tryd.func26, Tryd.ntmps26
    go_wp2_with fail
    go_ret
    exact ⟨rfl, rfl⟩
set_option maxRecDepth 100000 in
theorem Rtail_at (l : List Int) (w : World) (hl : l.length ≤ 268435456) :
    Calls Tryd.prog 27 #[.string (strOfNums l)] w fun y w' => y = .returned (.string (strOfNums (tail3 l))) ∧ w' = w := by
  have hs := strOfNums_size l
  unfold tail3
  by_cases h : 3 ≤ l.length
  · obtain ⟨q, hq⟩ : ∃ q, q = l.length - 3 := ⟨_, rfl⟩
    have hex : (strOfNums l).extract q l.length = strOfNums (l.drop q) := by rw [str_extract, List.take_of_length_le (by simp)]
    have hqi : (l.length : Int) - 3 = (q : Int) := by omega
    have h1 : (0 : Int) ≤ (q : Int) := by omega
    have hmax : max (0 : Int) (q : Int) = (q : Int) := by omega
    have hle : (q : Int) ≤ (l.length : Int) := by omega
    have hwq : IntKind.i64.wrap (q : Int) = (q : Int) := by rw [IntKind.wrap_i64]; omega
    rw [← hq]
    clear hq
    go_enter Tryd.func27, Tryd.ntmps27
    go_wp2_with fail
    go_ret
    exact ⟨rfl, rfl⟩
  · have hex : (strOfNums l).extract 0 l.length = strOfNums (l.drop (l.length - 3)) := by rw [str_extract, show l.length - 3 = 0 by omega]; simp
    have h1 : max (0 : Int) ((l.length : Int) - 3) = 0 := by omega
    have h2 : (l.length : Int) - 3 ≤ 0 := by omega
    have h3 : ¬ (0 : Int) ≤ (l.length : Int) - 3 := by omega
    go_enter Tryd.func27, Tryd.ntmps27
    go_wp2_with fail
    go_ret
    exact ⟨rfl, rfl⟩

end Go.Proofs.YtlhobpjiclcpiaaDoor
end

section
namespace Go.Proofs.YtlhobpjiclcpiaaDoor
open Go.ChangeShapes Go.WideShapes Go.ChangeAt Go.RowKit
attribute [local go_sem] Oper.semAt_some

set_option maxRecDepth 100000 in
set_option maxHeartbeats 4000000 in
theorem ROf_at (a0 : Option Addr) (cap : Nat) (l : List Int) (w : World) (hB : IsB w a0 cap l) (hl : l.length ≤ 268435456) :
    Calls Tryd.prog 10 #[.slice a0 l.length cap] w fun y w' => y = .returned (weV (ofL l)) ∧ Below w.heap.size w w' := by
  have x1 := (Below.refl w.heap.size w).alloc (Nat.le_refl _) (.cells #[.int .i64 0, .int .i64 0, .int .i64 0, .int .i64 0, .string ⟨#[]⟩, .string ⟨#[]⟩] 27)
  have g1 := push_get w (.cells #[.int .i64 0, .int .i64 0, .int .i64 0, .int .i64 0, .string ⟨#[]⟩, .string ⟨#[]⟩] 27)
  have z1 : w.heap.size < (w.alloc (.cells #[.int .i64 0, .int .i64 0, .int .i64 0, .int .i64 0, .string ⟨#[]⟩, .string ⟨#[]⟩] 27)).heap.size := by simp
  have t4 : decide ((l.length : Int) > 268435456) = false := decide_eq_false (by omega)
  have t5 : decide ((268435456 : Int) < (l.length : Int)) = false := decide_eq_false (by omega)
  have t5' : decide (268435456 < l.length) = false := decide_eq_false (by omega)
  have HSZ := hide fun X h => RSizes_at a0 cap l X h hl
  have HHD := hide fun X => Rhead_at l X hl
  have HTL := hide fun X => Rtail_at l X hl
  have HV : Hid (weV (ofL l) = .agg #[.int .i64 (szL l).b, .int .i64 (szL l).r, .int .i64 (szL l).u, .int .i64 (szL l).e, .string (strOfNums (l.take 3)), .string (strOfNums (tail3 l))]) := hide rfl
  unfold szV at HSZ
  go_enter Tryd.func10, Tryd.ntmps10
  go_upto_region 3 with fail
  clear t4 t5 t5'
  generalize w.alloc (.cells #[.int .i64 0, .int .i64 0, .int .i64 0, .int .i64 0, .string ⟨#[]⟩, .string ⟨#[]⟩] 27) = w1 at *
  have x2 := x1.trans (((Below.refl w1.heap.size w1).drew).mono x1.size)
  have g2 : w1.drew.heap[w.heap.size]? = _ := (((Below.refl w1.heap.size w1).drew).block _ z1).trans g1
  have z2 : w.heap.size < w1.drew.heap.size := z1
  have HB := hide hB
  clear hB x1 g1 z1
  have HS0 : Hid ((fun w' : World => (convert 22 9 (.slice a0 l.length cap)).run Tryd.prog w' = .ok (.string (strOfNums l)) w') w1.drew) := hide (str_bs _ a0 cap l ((unhide HB).below x2 (Nat.le_refl _)).2.2.1)
  refine regionL (S := fun w' => (convert 22 9 (.slice a0 l.length cap)).run Tryd.prog w' = .ok (.string (strOfNums l)) w') (fun i => i == 9) (by kernel_rfl) ?_
  generalize w1.drew = y0 at *
  generalize (szL l).b = zb at *
  generalize (szL l).r = zr at *
  generalize (szL l).u = zu at *
  generalize (szL l).e = ze at *
  generalize strOfNums (l.take 3) = sh at *
  generalize strOfNums (tail3 l) = st at *
  refine anyL_take (i := 0) (v := ?vo0) rfl (by kernel_rfl) (by kernel_rfl) (by kernel_rfl) (by kernel_rfl) (fun _ _ _ h => h) (Or.inl ⟨by rfl, ?ho0⟩) (unhide HS0) ?_
  case ho0 => (intro w hSw; (try dsimp only at hSw); go_simp) <;> with_reducible rfl
  simp only [Act.put, List.getElem_toArray, List.getElem_cons_zero, List.setIfInBounds_toArray, List.set_cons_zero, List.set_cons_succ]
  refine anyL_take (i := 2) (v := ?vo2) rfl (by kernel_rfl) (by kernel_rfl) (by kernel_rfl) (by kernel_rfl) (fun _ _ _ h => h) (Or.inl ⟨by rfl, ?ho2⟩) (unhide HS0) ?_
  case ho2 => (intro w hSw; (try dsimp only at hSw); go_simp) <;> with_reducible rfl
  simp only [Act.put, List.getElem_toArray, List.getElem_cons_zero, List.getElem_cons_succ, List.setIfInBounds_toArray, List.set_cons_zero, List.set_cons_succ]
  refine anyL_take (i := 3) (v := ?vo3) rfl (by kernel_rfl) (by kernel_rfl) (by kernel_rfl) (by kernel_rfl) (fun _ _ _ h => h) (Or.inl ⟨by rfl, ?ho3⟩) (unhide HS0) ?_
  case ho3 => (intro w hSw; (try dsimp only at hSw); go_simp) <;> with_reducible rfl
  simp only [Act.put, List.getElem_toArray, List.getElem_cons_zero, List.getElem_cons_succ, List.setIfInBounds_toArray, List.set_cons_zero, List.set_cons_succ]
  refine anyL_take (i := 5) (v := ?vo5) rfl (by kernel_rfl) (by kernel_rfl) (by kernel_rfl) (by kernel_rfl) (fun _ _ _ h => h) (Or.inl ⟨by rfl, ?ho5⟩) (unhide HS0) ?_
  case ho5 => (intro w hSw; (try dsimp only at hSw); go_simp) <;> with_reducible rfl
  simp only [Act.put, List.getElem_toArray, List.getElem_cons_zero, List.getElem_cons_succ, List.setIfInBounds_toArray, List.set_cons_zero, List.set_cons_succ]
  refine anyL_take (i := 6) (v := ?vo6) rfl (by kernel_rfl) (by kernel_rfl) (by kernel_rfl) (by kernel_rfl) (fun _ _ _ h => h) (Or.inl ⟨by rfl, ?ho6⟩) (unhide HS0) ?_
  case ho6 => (intro w hSw; (try dsimp only at hSw); go_simp) <;> with_reducible rfl
  simp only [Act.put, List.getElem_toArray, List.getElem_cons_zero, List.getElem_cons_succ, List.setIfInBounds_toArray, List.set_cons_zero, List.set_cons_succ]
  refine anyL_ready (rs := [1]) (by kernel_rfl) (by simp) ?_
  refine AllL.cons rfl (fun K hK => ?_) AllL.nil
  go_simp
  refine (unhide HSZ y0 ((unhide HB).below x2 (Nat.le_refl _))).mono ?_
  rintro e y1 ⟨rfl, q1⟩
  have x3 := x2.trans (q1.mono x2.size)
  have g3 : y1.heap[w.heap.size]? = _ := (q1.block _ z2).trans g2
  have HS1 : Hid ((fun w' : World => (convert 22 9 (.slice a0 l.length cap)).run Tryd.prog w' = .ok (.string (strOfNums l)) w') y1) := hide (str_bs _ a0 cap l ((unhide HB).below x3 (Nat.le_refl _)).2.2.1)
  refine unhide hK _ _ (fun _ => unhide HS1) ?_
  clear hK K HS0 q1 x2 g2 z2
  refine anyL_ready (rs := [4]) (by kernel_rfl) (by simp) ?_
  refine AllL.cons rfl (fun K hK => ?_) AllL.nil
  go_simp
  refine (unhide HHD y1).mono ?_
  rintro e y2 ⟨rfl, rfl⟩
  refine unhide hK _ _ (fun _ => unhide HS1) ?_
  clear hK K
  refine anyL_ready (rs := [7]) (by kernel_rfl) (by simp) ?_
  refine AllL.cons rfl (fun K hK => ?_) AllL.nil
  go_simp
  refine (unhide HTL y2).mono ?_
  rintro e y3 ⟨rfl, rfl⟩
  refine unhide hK _ _ (fun _ => unhide HS1) ?_
  clear hK K
  refine anyL_take (i := 8) (v := ?vo8) rfl (by kernel_rfl) (by kernel_rfl) (by kernel_rfl) (by kernel_rfl) (fun _ _ _ h => h) (Or.inl ⟨by rfl, ?ho8⟩) (unhide HS1) ?_
  case ho8 => (intro w hSw; (try dsimp only at hSw); go_simp) <;> with_reducible rfl
  simp only [Act.put, List.getElem_toArray, List.getElem_cons_zero, List.getElem_cons_succ, List.setIfInBounds_toArray, List.set_cons_zero, List.set_cons_succ]
  obtain ⟨c0, c1, c2, c3, c4, c5, f⟩ := cells6 g3
  have f0 := f 0
  have f1 := f 1
  have f2 := f 2
  have f3 := f 3
  have f4 := f 4
  have f5 := f 5
  clear f
  have xf := box6_all g3 (.int .i64 zb) (.int .i64 zr) (.int .i64 zu) (.int .i64 ze) (.string sh) (.string st)
  have bf := below6 x3 (Nat.le_refl _) (.int .i64 zb) (.int .i64 zr) (.int .i64 zu) (.int .i64 ze) (.string sh) (.string st)
  refine anyL_ready (rs := [9]) (by kernel_rfl) (by simp) ?_
  refine AllL.cons rfl (fun K hK => ?_) AllL.nil
  go_simp
  refine unhide hK _ _ (fun h => by cases h) ?_
  clear hK K
  generalize ((((((y3.setCell ⟨w.heap.size, 0, none⟩ (.int .i64 zb)).setCell ⟨w.heap.size, 1, none⟩ (.int .i64 zr)).setCell ⟨w.heap.size, 2, none⟩ (.int .i64 zu)).setCell ⟨w.heap.size, 3, none⟩ (.int .i64 ze)).setCell ⟨w.heap.size, 4, none⟩ (.string sh)).setCell ⟨w.heap.size, 5, none⟩ (.string st)) = wf at *
  refine anyL_done (by kernel_rfl) ?_ _
  go_wp2_with fail
  obtain ⟨q0, q1, q2, q3, q4, q5, _⟩ := cells6 xf
  refine bodyPost_ret (v := .agg #[.int .i64 zb, .int .i64 zr, .int .i64 zu, .int .i64 ze, .string sh, .string st]) (by simp [results, Tryd.results10, go_sem, q0, q1, q2, q3, q4, q5]) rfl ⟨by rw [unhide HV], bf⟩

end Go.Proofs.YtlhobpjiclcpiaaDoor
end

section
namespace Go.Proofs.YtlhobpjiclcpiaaDoor
open Go.ChangeShapes Go.WideShapes Go.ChangeAt Go.RowKit
attribute [local go_sem] Oper.semAt_some

theorem appL5 {W : World} {B : Nat} {v : Value} {l m : List Int} {a0 : Option Addr} {cap : Nat} (ty : TypeId) (h : Own W B v l) (hB : B ≤ W.heap.size) (hm : IsB W a0 cap m) (hb : l.length + m.length ≤ 268435456) :
    ∃ v' W', (Builtin.append_ #[22, 22] ty #[v, .slice a0 m.length cap]).run Tryd.prog W = .ok v' W' ∧ Own W' B v' (l ++ m) ∧ Below B W W' := by
  obtain ⟨i, hi, hz, hs, hby⟩ := info_u8
  rcases Nat.eq_zero_or_pos m.length with h0 | h0
  · obtain rfl : m = [] := List.length_eq_zero_iff.1 h0
    have hsrc : Src Tryd.prog i.size 22 (.slice a0 0 cap) 0 [] W := by
      cases a0 with
      | none => exact Src.ofNil W Tryd.underlying22 cap
      | some x => exact Src.ofSlice W Tryd.underlying22 x 0 cap [] (by simp) (fun j u h => by simp at h) (fun u h => by cases h)
    refine ⟨v, W, ?_, by simpa using h, Below.refl _ _⟩
    rcases h.2 with ⟨rfl, h0⟩ | ⟨g, c, cur, rfl, hB, hg, hle, hm, hsz, htk⟩
    · simp [Builtin.append_, run_underlying Tryd.underlying22, sizeOf, typeInfo, hi, hsrc.len, hsrc.cells]
    · have := run_append_room_src (P := Tryd.prog) W 22 22 ty 5 i Tryd.underlying22 hi g 0 l.length c (.slice a0 0 cap) 0 [] hsrc (by omega) (fun j hj => absurd hj (Nat.not_lt_zero _)) (fun j hj => absurd hj (Nat.not_lt_zero _))
      simpa [World.setCells] using this
  · rcases hm.2.2.1 with h' | ⟨g, off, rfl, hL⟩
    · rw [h'] at h0; cases h0
    · obtain ⟨g', k, W', hrun, ho, hg, _, _⟩ := run_append_lies (P := Tryd.prog) W 22 ty B 5 i _ 1 1 Tryd.underlying22 hi hz hs hby rfl (by decide) v l.length (l.map (Value.int .u8)) h ⟨g, off, none⟩ m.length cap (m.map (Value.int .u8)) (by simp)
        (fun j u hj => by
          rw [Addr.add_lit]
          obtain ⟨x, hx, rfl⟩ : ∃ x, m[j]? = some x ∧ Value.int .u8 x = u := by simpa using hj
          have hjl : j < m.length := (List.getElem?_eq_some_iff.1 hx).1
          have := (hL j hjl).1
          simpa [List.getD, hx] using this) (fun u hu => by obtain ⟨x, _, rfl⟩ := List.mem_map.1 hu; rfl) h0 (by unfold maxLen; omega) (by omega) hB _ rfl
      exact ⟨_, W', hrun, by simpa [Own] using ho, (Below.refl B W).grown hg hB (fun k hk => (World.ownsRow.lt h k hk).1)⟩


theorem make_u8W (w : World) (c : Nat) (hc : c ≤ 70368744177664) : ∃ w', (Instr.makeSlice 22 (.int .i64 0) (.int .i64 (c : Int))).run Tryd.prog w = .ok (.slice (some ⟨w.heap.size, 0, none⟩) 0 c) w' ∧ Own w' w.heap.size (.slice (some ⟨w.heap.size, 0, none⟩) 0 c) [] ∧ Below w.heap.size w w' := by
  obtain ⟨i, hi, hz, hs, hby⟩ := info_u8
  obtain ⟨w', h1, h2, h3⟩ := run_make_own (P := Tryd.prog) w w.heap.size 22 5 i (.int .u8 0) 1 Tryd.underlying22 hi hz hs .i64 .i64 c (by rw [hby]; omega) (by unfold maxLen; omega) (Nat.le_refl _)
  exact ⟨w', h1, h2, (Below.refl _ w).grown h3 (Nat.le_refl _) (fun k e => by cases e)⟩
/-- a block stays -/
theorem bk_on {X Y : World} {g : Nat} {o : Obj} (h : X.heap[g]? = some o) (hb : Below X.heap.size X Y) : Y.heap[g]? = some o := (hb.block g (Array.getElem?_eq_some_iff.1 h).1).trans h
theorem bk_lt {X : World} {g : Nat} {o : Obj} (h : X.heap[g]? = some o) : g < X.heap.size := (Array.getElem?_eq_some_iff.1 h).1
theorem row_base5 {X : World} {B B' s n : Nat} {t : TypeId} {v : Value} {xs : List Value} (h : X.ownsRow B t s v n xs) (hB : B' ≤ B) : X.ownsRow B' t s v n xs := by
  refine ⟨h.1, ?_⟩
  rcases h.2 with hn | ⟨g, cap, cur, e, hb, rest⟩
  · exact .inl hn
  · exact .inr ⟨g, cap, cur, e, Nat.le_trans hB hb, rest⟩
theorem drewB (w : World) : Below w.heap.size w w.drew := (Below.refl _ _).drew
/-- the room -/
structure RoS (w : World) (gr cr n : Nat) (L : List Int) (X : World) : Prop where
  d : Below w.heap.size w X
  o : Own X w.heap.size (.slice (some ⟨gr, 0, none⟩) n cr) L
theorem RoS.on {w : World} {gr cr n : Nat} {L : List Int} {X Y : World} (h : RoS w gr cr n L X) (hb : Below X.heap.size X Y) : RoS w gr cr n L Y :=
  ⟨h.d.trans (hb.mono h.d.size), h.o.below hb⟩
theorem RoS.lt {w : World} {gr cr n : Nat} {L : List Int} {X : World} (h : RoS w gr cr n L X) : gr < X.heap.size := (World.ownsRow.lt h.o gr rfl).2
theorem RoS.ge {w : World} {gr cr n : Nat} {L : List Int} {X : World} (h : RoS w gr cr n L X) : w.heap.size ≤ gr := (World.ownsRow.lt h.o gr rfl).1
theorem RoS.isN {w : World} {gr cr : Nat} {l : List Int} {X : World} (h : RoS w gr cr (l.length + 2) (l ++ [91, 92]) X) (hl : ∀ x ∈ l, 0 ≤ x ∧ x ≤ 255) (hn : l.length ≤ 1048576) : IsN X (some ⟨gr, 0, none⟩) cr l := by
  have hin : ∀ x ∈ l ++ [91, 92], 0 ≤ x ∧ x ≤ 255 := fun x hx => by
    rcases List.mem_append.1 hx with h1 | h1
    · exact hl x h1
    · simp at h1; rcases h1 with rfl | rfl <;> decide
  have hc : l.length + 2 ≤ cr := by
    rcases h.o.2 with ⟨h0, _⟩ | ⟨g, c, cur, e, _, _, hle, _⟩
    · cases h0
    · simp only [Value.slice.injEq] at e
      obtain ⟨_, _, rfl⟩ := e
      simpa using hle
  exact ⟨⟨by omega, by omega, Or.inr ⟨gr, 0, rfl, (h.o.lies hin).pre⟩, hl⟩, fun e => by cases e⟩
theorem RoS.all {w : World} {gr cr : Nat} {l : List Int} {X : World} (h : RoS w gr cr (l.length + 2) (l ++ [91, 92]) X) (hl : ∀ x ∈ l, 0 ≤ x ∧ x ≤ 255) : (convert 22 9 (.slice (some ⟨gr, 0, none⟩) (l.length + 2) cr)).run Tryd.prog X = .ok (.string (strOfNums (l ++ [91, 92]))) X := by
  have hin : ∀ x ∈ l ++ [91, 92], 0 ≤ x ∧ x ≤ 255 := fun x hx => by
    rcases List.mem_append.1 hx with h1 | h1
    · exact hl x h1
    · simp at h1; rcases h1 with rfl | rfl <;> decide
  have := str_bs X (some ⟨gr, 0, none⟩) cr (l ++ [91, 92]) (Or.inr ⟨gr, 0, rfl, h.o.lies hin⟩)
  simpa using this
theorem row_same5 {X Y : World} {B s n : Nat} {t : TypeId} {v : Value} {xs : List Value} (h : X.ownsRow B t s v n xs) (e : ∀ g, v.ownBlock = some g → Y.heap[g]? = X.heap[g]?) : Y.ownsRow B t s v n xs := by
  refine ⟨h.1, ?_⟩
  rcases h.2 with hn | ⟨g, cap, cur, hv, h0, hg, rest⟩
  · exact .inl hn
  · exact .inr ⟨g, cap, cur, hv, h0, (e g (by rw [hv]; rfl)).trans hg, rest⟩
theorem set6_oth5 (X : World) (g g' : Nat) (a b c d e f : Value) (hne : g' ≠ g) : ((((((X.setCell ⟨g, 0, none⟩ a).setCell ⟨g, 1, none⟩ b).setCell ⟨g, 2, none⟩ c).setCell ⟨g, 3, none⟩ d).setCell ⟨g, 4, none⟩ e).setCell ⟨g, 5, none⟩ f).heap[g']? = X.heap[g']? := by
  rw [Below.heap_setCell _ _ _ g' hne, Below.heap_setCell _ _ _ g' hne, Below.heap_setCell _ _ _ g' hne, Below.heap_setCell _ _ _ g' hne, Below.heap_setCell _ _ _ g' hne, Below.heap_setCell _ _ _ g' hne]
theorem set4_oth5 (X : World) (g g' : Nat) (a b c d : Value) (hne : g' ≠ g) : ((((X.setCell ⟨g, 0, none⟩ a).setCell ⟨g, 1, none⟩ b).setCell ⟨g, 2, none⟩ c).setCell ⟨g, 3, none⟩ d).heap[g']? = X.heap[g']? := by
  rw [Below.heap_setCell _ _ _ g' hne, Below.heap_setCell _ _ _ g' hne, Below.heap_setCell _ _ _ g' hne, Below.heap_setCell _ _ _ g' hne]
theorem box4_all5 {W : World} {g : Nat} {x y z u : Value} {t : TypeId} (h : W.heap[g]? = some (.cells #[x, y, z, u] t (0, 0))) (a b c d : Value) :
    ((((W.setCell ⟨g, 0, none⟩ a).setCell ⟨g, 1, none⟩ b).setCell ⟨g, 2, none⟩ c).setCell ⟨g, 3, none⟩ d).heap[g]? = some (.cells #[a, b, c, d] t (0, 0)) := by
  have h0 := heap_setCell_same W g 0 #[x, y, z, u] t a h
  have h1 := heap_setCell_same _ g 1 _ t b h0
  have h2 := heap_setCell_same _ g 2 _ t c h1
  have h3 := heap_setCell_same _ g 3 _ t d h2
  simpa using h3
theorem RoS.put6 {w : World} {gr cr n : Nat} {L : List Int} {X : World} (h : RoS w gr cr n L X) {g : Nat} (hg : w.heap.size ≤ g) (hne : gr ≠ g) (a b c d e f : Value) : RoS w gr cr n L ((((((X.setCell ⟨g, 0, none⟩ a).setCell ⟨g, 1, none⟩ b).setCell ⟨g, 2, none⟩ c).setCell ⟨g, 3, none⟩ d).setCell ⟨g, 4, none⟩ e).setCell ⟨g, 5, none⟩ f) :=
  ⟨below6 h.d hg a b c d e f, row_same5 h.o fun g' hg' => set6_oth5 X g g' a b c d e f (by cases hg'; exact hne)⟩
theorem RoS.put4 {w : World} {gr cr n : Nat} {L : List Int} {X : World} (h : RoS w gr cr n L X) {g : Nat} (hg : w.heap.size ≤ g) (hne : gr ≠ g) (a b c d : Value) : RoS w gr cr n L ((((X.setCell ⟨g, 0, none⟩ a).setCell ⟨g, 1, none⟩ b).setCell ⟨g, 2, none⟩ c).setCell ⟨g, 3, none⟩ d) :=
  ⟨below4 h.d hg a b c d, row_same5 h.o fun g' hg' => set4_oth5 X g g' a b c d (by cases hg'; exact hne)⟩
/-- the room and three boxes -/
structure R3 (w : World) (gr cr n : Nat) (L : List Int) (g4 g5 g6 : Nat) (c4 c5 : Array Value) (X : World) : Prop where
  s : RoS w gr cr n L X
  a : X.heap[g4]? = some (.cells c4 27 (0, 0))
  b : X.heap[g5]? = some (.cells c5 25 (0, 0))
  c : X.heap[g6]? = some (.cells c4 27 (0, 0))
theorem R3.on {w : World} {gr cr n : Nat} {L : List Int} {g4 g5 g6 : Nat} {c4 c5 : Array Value} {X Y : World} (h : R3 w gr cr n L g4 g5 g6 c4 c5 X) (hb : Below X.heap.size X Y) : R3 w gr cr n L g4 g5 g6 c4 c5 Y := ⟨h.s.on hb, bk_on h.a hb, bk_on h.b hb, bk_on h.c hb⟩
theorem R3.write {w : World} {gr cr n : Nat} {L : List Int} {g4 g5 g6 : Nat} {c4 c5 : Array Value} {X : World} (h : R3 w gr cr n L g4 g5 g6 c4 c5 X) (k : Nat) (x : Int) (h4 : g4 ≠ gr) (h5 : g5 ≠ gr) (h6 : g6 ≠ gr) : R3 w gr cr n (L.set k x) g4 g5 g6 c4 c5 (X.setCell ⟨gr, k, none⟩ (.int .u8 x)) :=
  ⟨⟨h.s.d.setCell (p := ⟨gr, k, none⟩) h.s.ge _, h.s.o.set k x⟩, (Below.heap_setCell _ _ _ g4 h4).trans h.a, (Below.heap_setCell _ _ _ g5 h5).trans h.b, (Below.heap_setCell _ _ _ g6 h6).trans h.c⟩
/-- a measure's bounds -/
theorem sz_bounds {l : List Int} (hl : ∀ x ∈ l, 0 ≤ x ∧ x ≤ 255) : (szL l).r ≤ (szL l).b ∧ (szL l).r ≤ (szL l).u ∧ (szL l).u ≤ (szL l).b ∧ (szL l).e ≤ (szL l).r := by
  obtain ⟨m1, m2, m3⟩ := usum_may hl l.length 0 (by omega) (Nat.zero_le _)
  have m4 := ends_le (l := l) l.length 0 (by omega) (Nat.zero_le _)
  rw [List.drop_zero] at m4
  have hr : (szL l).r = ((spots l 0).length : Int) := rfl
  have hu : (szL l).u = usum l (spots l 0) := rfl
  have he : (szL l).e = endsN l := rfl
  have hb : (szL l).b = (l.length : Int) := rfl
  rw [hr, hu, he, hb]
  omega

end Go.Proofs.YtlhobpjiclcpiaaDoor
end
