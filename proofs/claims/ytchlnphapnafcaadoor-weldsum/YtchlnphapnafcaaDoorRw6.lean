/- Layer 5: the document's Sizes. -/
import Derived.Test.YtchlnphapnafcaaDoorRw5
import Derived.Deep.Cut
namespace Go.Proofs.YtchlnphapnafcaaDoor
open Go.ChangeShapes Go.WideShapes Go.ChangeAt Go.RowKit
attribute [local go_sem] Oper.semAt_some

theorem steps_set {W : World} {l : List Int} {a : Option Addr} {ps : List Nat} {gZ i : Nat} {t : TypeId} {x : Int} {y z u v : Value} (h : StepsAt W l a ps) (hZ : H4 W gZ t (.int .i64 x) y z u) : StepsAt (W.setCell ⟨gZ, i, none⟩ v) l a ps := by
  rcases h with h | ⟨g, h1, h2, h3⟩
  · exact Or.inl h
  · rcases Nat.eq_zero_or_pos ps.length with h0 | h0
    · exact Or.inl (List.length_eq_zero_iff.1 h0)
    · have hne : g ≠ gZ := fun e => by
        have c := (h3 0 h0).1
        rw [Nat.zero_mul, e, hZ.cells.1] at c
        simp at c
      have hb := Below.heap_setCell W ⟨gZ, i, none⟩ v g hne
      have hc : ∀ j, (W.setCell ⟨gZ, i, none⟩ v).cell? ⟨g, j, none⟩ = W.cell? ⟨g, j, none⟩ := fun j => World.cell?_of_block (a := ⟨g, j, none⟩) hb
      exact Or.inr ⟨g, h1, by rw [show (W.setCell ⟨gZ, i, none⟩ v).heap.size = W.heap.size from Array.size_modify ..]; exact h2, fun k hk => by rw [hc, hc, hc]; exact h3 k hk⟩
structure SzI (w : World) (a0 : Option Addr) (cap : Nat) (l : List Int) (gR gZ : Nat) (a : Option Addr) (r u e : Int) (X : World) : Prop where
  R : H4 X gR 23 (.int .i64 0) (.int .i64 0) (.int .i64 0) (.int .i64 0)
  Z : H4 X gZ 23 (.int .i64 (l.length : Int)) (.int .i64 r) (.int .i64 u) (.int .i64 e)
  s : StepsAt X l a (spots l 0)
  b : Below w.heap.size w X
  zr : w.heap.size ≤ gR
  zz : w.heap.size ≤ gZ
  ne : gR ≠ gZ
theorem SzI.on {w : World} {a0 : Option Addr} {cap : Nat} {l : List Int} {gR gZ : Nat} {a : Option Addr} {r u e : Int} {X Y : World} (h : SzI w a0 cap l gR gZ a r u e X) (hb : Below X.heap.size X Y) : SzI w a0 cap l gR gZ a r u e Y :=
  ⟨h.R.on hb, h.Z.on hb, h.s.below hb (Nat.le_refl _), h.b.trans (hb.mono h.b.size), h.zr, h.zz, h.ne⟩
theorem SzI.s1 {w : World} {a0 : Option Addr} {cap : Nat} {l : List Int} {gR gZ : Nat} {a : Option Addr} {r u e : Int} {X : World} (h : SzI w a0 cap l gR gZ a r u e X) (x : Int) : SzI w a0 cap l gR gZ a x u e (X.setCell ⟨gZ, 1, none⟩ (.int .i64 x)) :=
  ⟨h.R.other h.ne, h.Z.set1 _, steps_set h.s h.Z, h.b.setCell (p := ⟨gZ, 1, none⟩) h.zz _, h.zr, h.zz, h.ne⟩
theorem SzI.s2 {w : World} {a0 : Option Addr} {cap : Nat} {l : List Int} {gR gZ : Nat} {a : Option Addr} {r u e : Int} {X : World} (h : SzI w a0 cap l gR gZ a r u e X) (x : Int) : SzI w a0 cap l gR gZ a r x e (X.setCell ⟨gZ, 2, none⟩ (.int .i64 x)) :=
  ⟨h.R.other h.ne, h.Z.set2 _, steps_set h.s h.Z, h.b.setCell (p := ⟨gZ, 2, none⟩) h.zz _, h.zr, h.zz, h.ne⟩
theorem SzI.s3 {w : World} {a0 : Option Addr} {cap : Nat} {l : List Int} {gR gZ : Nat} {a : Option Addr} {r u e : Int} {X : World} (h : SzI w a0 cap l gR gZ a r u e X) (x : Int) : SzI w a0 cap l gR gZ a r u x (X.setCell ⟨gZ, 3, none⟩ (.int .i64 x)) :=
  ⟨h.R.other h.ne, h.Z.set3 _, steps_set h.s h.Z, h.b.setCell (p := ⟨gZ, 3, none⟩) h.zz _, h.zr, h.zz, h.ne⟩
theorem usum_le (l : List Int) : ∀ ps : List Nat, 0 ≤ usum l ps ∧ usum l ps ≤ 2 * (ps.length : Int)
  | [] => by simp [usum]
  | p :: ps => by
    have h1 := usum_le l ps
    have h2 := uni1_in (first (l.drop p)).1
    rw [usum_cons, List.length_cons]
    omega

set_option maxRecDepth 100000 in
set_option maxHeartbeats 4000000 in
theorem RSizes_at (a0 : Option Addr) (cap : Nat) (l : List Int) (w : World) (hB : IsB w a0 cap l) (hl : l.length ≤ 268435456) :
    Calls Tryd.prog 18 #[.slice a0 l.length cap] w fun y w' => y = .returned (szV (szL l)) ∧ Below w.heap.size w w' := by
  have hsl := spots_le l
  have x1 := (Below.refl w.heap.size w).alloc (Nat.le_refl _) (.cells #[.int .i64 0, .int .i64 0, .int .i64 0, .int .i64 0] 23)
  have g1 : H4 (w.alloc (.cells #[.int .i64 0, .int .i64 0, .int .i64 0, .int .i64 0] 23)) w.heap.size 23 (.int .i64 0) (.int .i64 0) (.int .i64 0) (.int .i64 0) := push_get w _
  have x2 := (Below.refl (w.alloc (.cells #[.int .i64 0, .int .i64 0, .int .i64 0, .int .i64 0] 23)).heap.size (w.alloc (.cells #[.int .i64 0, .int .i64 0, .int .i64 0, .int .i64 0] 23))).alloc (Nat.le_refl _) (.cells #[.int .i64 (l.length : Int), .int .i64 0, .int .i64 0, .int .i64 0] 23)
  have g2 : H4 ((w.alloc (.cells #[.int .i64 0, .int .i64 0, .int .i64 0, .int .i64 0] 23)).alloc (.cells #[.int .i64 (l.length : Int), .int .i64 0, .int .i64 0, .int .i64 0] 23)) (w.alloc (.cells #[.int .i64 0, .int .i64 0, .int .i64 0, .int .i64 0] 23)).heap.size 23 (.int .i64 (l.length : Int)) (.int .i64 0) (.int .i64 0) (.int .i64 0) := push_get _ _
  have g12 := g1.on x2
  have b2 := x1.trans (x2.mono x1.size)
  rw [World.size_alloc] at g2
  have hZZ : w.heap.size ≠ w.heap.size + 1 := by omega
  have hzz : w.heap.size ≤ w.heap.size + 1 := by omega
  clear x1 x2 g1
  go_enter Tryd.func18, Tryd.ntmps18
  go_wp2_with fail
  generalize (w.alloc (.cells #[.int .i64 0, .int .i64 0, .int .i64 0, .int .i64 0] 23)).alloc (.cells #[.int .i64 (l.length : Int), .int .i64 0, .int .i64 0, .int .i64 0] 23) = w2 at *
  refine (Steps_at a0 cap l w2 (hB.below b2 (Nat.le_refl _)) hl).mono ?_
  rintro y w3 ⟨a, c, rfl, hcN, hs3, x3⟩
  have HI : Hid (SzI w a0 cap l w.heap.size (w.heap.size + 1) a 0 0 0 w3) := hide ⟨g12.on x3, g2.on x3, hs3, b2.trans (x3.mono b2.size), Nat.le_refl _, hzz, hZZ⟩
  clear g12 g2 hs3 b2 x3 hZZ hzz
  generalize hgZ : w.heap.size + 1 = gZ at *
  generalize hgR : w.heap.size = gR at HI ⊢
  clear hgZ hgR
  have HB := hide hB
  clear hB
  have HN : Hid ((spots l 0).length ≤ l.length) := hide hsl
  generalize hNN : (spots l 0).length = N at *
  have HNN := hide hNN
  clear hNN
  have hN6 : N ≤ 268435456 := by omega
  clear hsl
  go_wp2_with fail
  go_loopw [5] (fun i wx => ∃ k : Nat, k ≤ N ∧ i = .int .i64 (k : Int) ∧ Hid (SzI w a0 cap l gR gZ a (k : Int) (usum l ((spots l 0).take k)) 0 wx)) (fun i _ => N - (intOf i).toNat)
  case atStart => exact ⟨0, Nat.zero_le _, rfl, HI⟩
  case round =>
    clear HI
    obtain ⟨k, hk, rfl, HI⟩ := hrel
    by_cases hlt : k < N
    · have t1 : decide ((k : Int) < (N : Int)) = true := decide_eq_true (by omega)
      have hks : k < (spots l 0).length := by rw [unhide HNN]; exact hlt
      have hu := usum_le l ((spots l 0).take k)
      have hul : (((spots l 0).take k).length : Int) ≤ 268435456 := by rw [List.length_take]; omega
      have HU : Hid (usum l ((spots l 0).take (k + 1)) = usum l ((spots l 0).take k) + uni1 (first (l.drop ((spots l 0).getD k 0))).1) := hide (by rw [take_snoc' _ _ hks, usum_snoc])
      have hs := (unhide HI).s
      obtain ⟨g, rfl⟩ : ∃ g, a = some ⟨g, 0, none⟩ := by
        rcases hs with h | ⟨g, h1, _, _⟩
        · rw [h] at hks; cases hks
        · exact ⟨g, h1⟩
      have HSC : Hid (∀ r u e X, SzI w a0 cap l gR gZ (some ⟨g, 0, none⟩) r u e X → X.cell? ⟨gZ, 2, none⟩ = some (.int .i64 u) ∧ X.cell? ⟨g, k * 3, none⟩ = some (.int .i32 (first (l.drop ((spots l 0).getD k 0))).1) ∧ X.cell? ⟨g, k * 3 + 1, none⟩ = some (.int .i64 (wid (l.drop ((spots l 0).getD k 0)) : Int)) ∧ X.cell? ⟨g, k * 3 + 2, none⟩ = some (.bool (whl (l.drop ((spots l 0).getD k 0))))) := hide (fun r u e X h => ⟨h.Z.cells.2.2.1, by
        rcases h.s with h | ⟨g', h1, _, h3⟩
        · rw [h] at hks; cases hks
        · cases h1; exact h3 k hks⟩)
      clear hs hks
      generalize (first (l.drop ((spots l 0).getD k 0))).1 = rn at *
      generalize (wid (l.drop ((spots l 0).getD k 0)) : Int) = wd at *
      generalize whl (l.drop ((spots l 0).getD k 0)) = wh at *
      generalize hup : usum l ((spots l 0).take (k + 1)) = u' at *
      have HUP := hide hup
      clear hup
      generalize usum l ((spots l 0).take k) = u at *
      obtain ⟨c0, c1, c2, c3, f⟩ := (unhide HI).Z.cells
      have f1 := f 1
      have HI1 := (unhide HI).s1 ((k : Int) + 1)
      clear f
      go_upto_region 7 with fail
      generalize wr.setCell ⟨gZ, 1, none⟩ (.int .i64 ((k : Int) + 1)) = y at *
      have HI2 := HI1.on ((Below.refl y.heap.size y).drew)
      have HS0 : Hid ((fun w' : World => w'.cell? ⟨gZ, 2, none⟩ = some (.int .i64 u) ∧ w'.cell? ⟨g, k * 3, none⟩ = some (.int .i32 rn) ∧ w'.cell? ⟨g, k * 3 + 1, none⟩ = some (.int .i64 wd) ∧ w'.cell? ⟨g, k * 3 + 2, none⟩ = some (.bool wh)) y.drew) := hide (unhide HSC _ _ _ _ HI2)
      clear c0 c1 c2 c3 f1 HI1 HI
      have hun := uni1_in rn
      have hwu : IntKind.i64.wrap (u + uni1 rn) = u' := by rw [unhide HU, IntKind.wrap_i64]; omega
      refine regionL (S := fun w' => w'.cell? ⟨gZ, 2, none⟩ = some (.int .i64 u) ∧ w'.cell? ⟨g, k * 3, none⟩ = some (.int .i32 rn) ∧ w'.cell? ⟨g, k * 3 + 1, none⟩ = some (.int .i64 wd) ∧ w'.cell? ⟨g, k * 3 + 2, none⟩ = some (.bool wh)) (fun i => i == 9) (by kernel_rfl) ?_
      generalize y.drew = y0 at *
      refine anyL_take (i := 0) (v := ?vp0) rfl (by kernel_rfl) (by kernel_rfl) (by kernel_rfl) (by kernel_rfl) (fun _ _ _ h => h) (Or.inl ⟨by rfl, ?hp0⟩) (unhide HS0) ?_
      case hp0 => (intro w hSw; (try dsimp only at hSw); go_simp) <;> with_reducible rfl
      simp only [Act.put, List.getElem_toArray, List.getElem_cons_zero, List.setIfInBounds_toArray, List.set_cons_zero, List.set_cons_succ]
      refine anyL_take (i := 1) (v := ?vp1) rfl (by kernel_rfl) (by kernel_rfl) (by kernel_rfl) (by kernel_rfl) (fun _ _ _ h => h) (Or.inl ⟨by rfl, ?hp1⟩) (unhide HS0) ?_
      case hp1 => (intro w hSw; (try dsimp only at hSw); go_simp) <;> with_reducible rfl
      simp only [Act.put, List.getElem_toArray, List.getElem_cons_zero, List.getElem_cons_succ, List.setIfInBounds_toArray, List.set_cons_zero, List.set_cons_succ]
      refine anyL_take (i := 2) (v := ?vp2) rfl (by kernel_rfl) (by kernel_rfl) (by kernel_rfl) (by kernel_rfl) (fun _ _ _ h => h) (Or.inl ⟨by rfl, ?hp2⟩) (unhide HS0) ?_
      case hp2 => (intro w hSw; (try dsimp only at hSw); go_simp) <;> with_reducible rfl
      simp only [Act.put, List.getElem_toArray, List.getElem_cons_zero, List.getElem_cons_succ, List.setIfInBounds_toArray, List.set_cons_zero, List.set_cons_succ]
      refine anyL_take (i := 3) (v := ?vp3) rfl (by kernel_rfl) (by kernel_rfl) (by kernel_rfl) (by kernel_rfl) (fun _ _ _ h => h) (Or.inl ⟨by rfl, ?hp3⟩) (unhide HS0) ?_
      case hp3 => (intro w hSw; (try dsimp only at hSw); go_simp) <;> with_reducible rfl
      simp only [Act.put, List.getElem_toArray, List.getElem_cons_zero, List.getElem_cons_succ, List.setIfInBounds_toArray, List.set_cons_zero, List.set_cons_succ]
      refine anyL_take (i := 4) (v := ?vp4) rfl (by kernel_rfl) (by kernel_rfl) (by kernel_rfl) (by kernel_rfl) (fun _ _ _ h => h) (Or.inl ⟨by rfl, ?hp4⟩) (unhide HS0) ?_
      case hp4 => (intro w hSw; (try dsimp only at hSw); go_simp) <;> with_reducible rfl
      simp only [Act.put, List.getElem_toArray, List.getElem_cons_zero, List.getElem_cons_succ, List.setIfInBounds_toArray, List.set_cons_zero, List.set_cons_succ]
      refine anyL_take (i := 5) (v := ?vp5) rfl (by kernel_rfl) (by kernel_rfl) (by kernel_rfl) (by kernel_rfl) (fun _ _ _ h => h) (Or.inl ⟨by rfl, ?hp5⟩) (unhide HS0) ?_
      case hp5 => (intro w hSw; (try dsimp only at hSw); go_simp) <;> with_reducible rfl
      simp only [Act.put, List.getElem_toArray, List.getElem_cons_zero, List.getElem_cons_succ, List.setIfInBounds_toArray, List.set_cons_zero, List.set_cons_succ]
      refine anyL_ready (rs := [6]) (by kernel_rfl) (by simp) ?_
      refine AllL.cons rfl (fun K hK => ?_) AllL.nil
      go_simp
      refine (Runits_at rn wd wh y0).mono ?_
      rintro e y1 ⟨rfl, x1⟩
      have HI3 := HI2.on x1
      have HS1 : Hid ((fun w' : World => w'.cell? ⟨gZ, 2, none⟩ = some (.int .i64 u) ∧ w'.cell? ⟨g, k * 3, none⟩ = some (.int .i32 rn) ∧ w'.cell? ⟨g, k * 3 + 1, none⟩ = some (.int .i64 wd) ∧ w'.cell? ⟨g, k * 3 + 2, none⟩ = some (.bool wh)) y1) := hide (unhide HSC _ _ _ _ HI3)
      refine unhide hK _ _ (fun _ => unhide HS1) ?_
      clear hK K HS0 HI2 x1
      refine anyL_take (i := 7) (v := ?vp7) rfl (by kernel_rfl) (by kernel_rfl) (by kernel_rfl) (by kernel_rfl) (fun _ _ _ h => h) (Or.inl ⟨by rfl, ?hp7⟩) (unhide HS1) ?_
      case hp7 => (intro w hSw; (try dsimp only at hSw); go_simp) <;> with_reducible rfl
      simp only [Act.put, List.getElem_toArray, List.getElem_cons_zero, List.getElem_cons_succ, List.setIfInBounds_toArray, List.set_cons_zero, List.set_cons_succ]
      refine anyL_take (i := 8) (v := ?vp8) rfl (by kernel_rfl) (by kernel_rfl) (by kernel_rfl) (by kernel_rfl) (fun _ _ _ h => h) (Or.inl ⟨by rfl, ?hp8⟩) (unhide HS1) ?_
      case hp8 => (intro w hSw; (try dsimp only at hSw); go_simp) <;> with_reducible rfl
      simp only [Act.put, List.getElem_toArray, List.getElem_cons_zero, List.getElem_cons_succ, List.setIfInBounds_toArray, List.set_cons_zero, List.set_cons_succ]
      obtain ⟨c0, c1, c2, c3, f⟩ := HI3.Z.cells
      have f2 := f 2
      have HI4 := HI3.s2 u'
      clear f
      refine anyL_ready (rs := [9]) (by kernel_rfl) (by simp) ?_
      refine AllL.cons rfl (fun K hK => ?_) AllL.nil
      go_simp
      refine unhide hK _ _ (fun h => by cases h) ?_
      clear hK K c0 c1 c2 c3 f2 HS1 HI3
      generalize y1.setCell ⟨gZ, 2, none⟩ (.int .i64 u') = y2 at *
      refine anyL_done (by kernel_rfl) ?_ _
      go_wp2_with fail
      go_roundw
      case rel => exact ⟨k + 1, by omega, by go_num, by rw [unhide HUP, show ((k + 1 : Nat) : Int) = (k : Int) + 1 by omega]; exact hide HI4⟩
      case measure => simp [intOf]; omega
    · obtain rfl : k = N := by omega
      have HI0 : Hid (SzI w a0 cap l gR gZ a (k : Int) (unN l) (endsN (l.take 0)) wr) := hide (by
        have h := unhide HI
        rw [← unhide HNN, List.take_length] at h
        rw [← unhide HNN]
        exact h)
      clear HI hlt hk
      have hen := fun j => endsN_in (l.take j)
      have HEN := hide hen
      clear hen
      go_wp2_with fail
      go_loopw [6] (fun i wx => ∃ j : Nat, j ≤ l.length ∧ i = .int .i64 (j : Int) ∧ Hid (SzI w a0 cap l gR gZ a (k : Int) (unN l) (endsN (l.take j)) wx)) (fun i _ => l.length - (intOf i).toNat)
      case atStart => exact ⟨0, Nat.zero_le _, rfl, HI0⟩
      case round =>
        clear HI0
        obtain ⟨j, hj, rfl, HI⟩ := hrel
        by_cases hlt : j < l.length
        · have t1 : decide ((j : Int) < (l.length : Int)) = true := decide_eq_true (by omega)
          have hBx := (unhide HB).below (unhide HI).b (Nat.le_refl _)
          obtain ⟨g, off, rfl, hL⟩ : ∃ g off, a0 = some ⟨g, off, none⟩ ∧ Lies wr g off l := by
            rcases hBx.2.2.1 with h3 | h3
            · rw [h3] at hlt; simp at hlt
            · exact h3
          have cx := (hL j hlt).1
          have hen := unhide HEN j
          have htl : ((l.take j).length : Int) ≤ 268435456 := by rw [List.length_take]; omega
          have hsn := ends_snoc (l.take j) (l.getD j 0)
          rw [show l.take j ++ [l.getD j 0] = l.take (j + 1) by rw [List.take_succ_eq_append_getElem hlt]; simp [List.getD, List.getElem?_eq_getElem hlt]] at hsn
          have hla : (l.take j).getLast? = some 13 ↔ 0 < j ∧ l.getD (j - 1) 0 = 13 := by
            rw [List.getLast?_eq_getElem?, List.length_take, Nat.min_eq_left (Nat.le_of_lt hlt)]
            rcases Nat.eq_zero_or_pos j with h | h
            · subst h; simp
            · rw [List.getElem?_take_of_lt (by omega), List.getElem?_eq_getElem (by omega), List.getD_eq_getElem?_getD, List.getElem?_eq_getElem (show j - 1 < l.length by omega)]
              simp [h]
          have he1 : -268435456 ≤ endsN (l.take j) := by omega
          have he2 : endsN (l.take j) ≤ 536870912 := by omega
          have cp : 0 < j → wr.cell? ⟨g, off + (j - 1), none⟩ = some (.int .u8 (l.getD (j - 1) 0)) := fun h => (hL (j - 1) (by omega)).1
          clear hen htl hL hBx
          generalize hee : endsN (l.take j) = e at *
          have HEE := hide hee
          clear hee
          generalize l.getD j 0 = x at *
          by_cases e13 : x = 13
          · subst e13
            have HE1 : Hid (endsN (l.take (j + 1)) = e + 1) := hide (by rw [hsn, if_pos (Or.inr rfl)])
            clear hsn hla cp
            obtain ⟨c0, c1, c2, c3, f⟩ := (unhide HI).Z.cells
            have f3 := f 3
            have HI5 := hide ((unhide HI).s3 (e + 1))
            clear f HI
            go_wp2_with fail
            go_roundw
            case rel => exact ⟨j + 1, by omega, by go_num, by rw [unhide HE1]; exact HI5⟩
            case measure => simp [intOf]; omega
          · have q13 : (x == 13) = false := by simpa using e13
            by_cases e10 : x = 10
            · subst e10
              rcases Nat.eq_zero_or_pos j with rfl | hj0
              · rw [Nat.add_zero] at cx
                have HE1 : Hid (endsN (l.take (0 + 1)) = e + 1) := hide (by rw [hsn, if_pos (Or.inl ⟨rfl, by rw [hla]; omega⟩)])
                clear hsn hla cp
                obtain ⟨c0, c1, c2, c3, f⟩ := (unhide HI).Z.cells
                have f3 := f 3
                have HI5 := hide ((unhide HI).s3 (e + 1))
                clear f HI
                go_wp2_with fail
                go_roundw
                case rel => exact ⟨0 + 1, by omega, by go_num, by rw [unhide HE1]; exact HI5⟩
                case measure => simp [intOf]; omega
              · have cy := cp hj0
                have qj : ((j : Int) == 0) = false := by simp; omega
                have qj' : (j == 0) = false := by simp; omega
                have hwj : (j : Int) - 1 = ((j - 1 : Nat) : Int) := by omega
                by_cases ep : l.getD (j - 1) 0 = 13
                · have HE0 : Hid (endsN (l.take (j + 1)) = e) := hide (by rw [hsn, if_neg (by rw [hla]; omega)]; omega)
                  rw [ep] at cy
                  clear hsn hla cp ep
                  go_wp2_with fail
                  go_roundw
                  case rel => exact ⟨j + 1, by omega, by go_num, by rw [unhide HE0]; exact HI⟩
                  case measure => simp [intOf]; omega
                · have HE1 : Hid (endsN (l.take (j + 1)) = e + 1) := hide (by rw [hsn, if_pos (Or.inl ⟨rfl, by rw [hla]; omega⟩)])
                  have qp : (l.getD (j - 1) 0 == 13) = false := by simpa using ep
                  have qp' : (l.getD (j - 1) 0 != 13) = true := by simp only [bne, qp]; rfl
                  clear hsn hla cp ep
                  generalize l.getD (j - 1) 0 = y at *
                  obtain ⟨c0, c1, c2, c3, f⟩ := (unhide HI).Z.cells
                  have f3 := f 3
                  have HI5 := hide ((unhide HI).s3 (e + 1))
                  clear f HI
                  go_wp2_with fail
                  go_roundw
                  case rel => exact ⟨j + 1, by omega, by go_num, by rw [unhide HE1]; exact HI5⟩
                  case measure => simp [intOf]; omega
            · have q10 : (x == 10) = false := by simpa using e10
              have HE0 : Hid (endsN (l.take (j + 1)) = e) := hide (by rw [hsn, if_neg (by omega)]; omega)
              clear hsn hla cp
              go_wp2_with fail
              go_roundw
              case rel => exact ⟨j + 1, by omega, by go_num, by rw [unhide HE0]; exact HI⟩
              case measure => simp [intOf]; omega
        · obtain rfl : j = l.length := by omega
          have HF := (unhide HI)
          rw [List.take_length] at HF
          obtain ⟨c0, c1, c2, c3, f⟩ := HF.Z.cells
          obtain ⟨d0, d1, d2, d3, fr⟩ := HF.R.cells
          have f0 := fr 0
          have f1 := fr 1
          have f2 := fr 2
          have f3 := fr 3
          have HV : Hid (szV (szL l) = .agg #[.int .i64 (l.length : Int), .int .i64 (k : Int), .int .i64 (unN l), .int .i64 (endsN l)]) := hide (by unfold szV szL rnN; rw [unhide HNN])
          have r4 := HF.R.all (.int .i64 (l.length : Int)) (.int .i64 (k : Int)) (.int .i64 (unN l)) (.int .i64 (endsN l))
          have b4 := below4 HF.b HF.zr (.int .i64 (l.length : Int)) (.int .i64 (k : Int)) (.int .i64 (unN l)) (.int .i64 (endsN l))
          clear f fr HI HF HEN
          generalize unN l = uu at *
          generalize endsN l = ee at *
          go_wp2_with fail
          generalize ((((wr.setCell ⟨gR, 0, none⟩ (.int .i64 (l.length : Int))).setCell ⟨gR, 1, none⟩ (.int .i64 (k : Int))).setCell ⟨gR, 2, none⟩ (.int .i64 uu)).setCell ⟨gR, 3, none⟩ (.int .i64 ee)) = wf at *
          obtain ⟨q0, q1, q2, q3, _⟩ := r4.cells
          refine bodyPost_ret (v := .agg #[.int .i64 (l.length : Int), .int .i64 (k : Int), .int .i64 uu, .int .i64 ee]) (by simp [results, Tryd.results18, go_sem, q0, q1, q2, q3]) rfl ⟨by rw [unhide HV], b4⟩

end Go.Proofs.YtchlnphapnafcaaDoor
