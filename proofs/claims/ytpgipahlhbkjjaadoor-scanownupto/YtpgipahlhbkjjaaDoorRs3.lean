/- The document's answer of layer 4: Feed. -/
import Derived.Test.YtpgipahlhbkjjaaDoorRs2
import Derived.Test.YtpgipahlhbkjjaaDoorApr
import Derived.Test.YtpgipahlhbkjjaaDoorLat
import Derived.Deep.RegionHeldLaw
import Derived.Deep.CutRange
namespace Go.Proofs.YtpgipahlhbkjjaaDoor
open Go.ChangeShapes Go.WideShapes Go.ChangeAt Go.RowKit

theorem IsB.take {w : World} {a0 : Option Addr} {cap : Nat} {l : List Int} {n : Nat} (h : IsB w a0 cap l) (_hn : n ≤ l.length) : IsB w a0 cap (l.take n) := by
  obtain ⟨h1, h2, h3, h4⟩ := h
  refine ⟨by simp; omega, by simp; omega, ?_, fun x hx => h4 x (List.mem_of_mem_take hx)⟩
  rcases h3 with h3 | ⟨g', off', rfl, hL⟩
  · exact Or.inl (by rw [h3]; simp)
  · exact Or.inr ⟨g', off', rfl, hL.take n⟩

theorem leftL_le (t : List Int) : leftL t ≤ t.length := by
  unfold leftL
  split
  · rename_i h; exact h.1
  · split
    · rename_i h; exact h.1
    · split
      · rename_i h; exact h.1
      · exact Nat.zero_le _
theorem IsB.lo {w : World} {a : Option Addr} {cap : Nat} {l : List Int} {n : Nat} (h : IsB w a cap l) : IsB w (if cap = n then a else a.map (·.add n)) (cap - n) (l.drop n) := by
  obtain ⟨h1, h2, h3, h4⟩ := h
  refine ⟨by simp; omega, by simp; omega, ?_, fun x hx => h4 x (List.mem_of_mem_drop hx)⟩
  rcases Nat.lt_or_ge n l.length with hlt | hge
  · rcases h3 with h3 | ⟨g', off', rfl, hL⟩
    · rw [h3] at hlt; simp at hlt
    · rw [if_neg (by omega)]
      exact Or.inr ⟨g', off' + n, by simp [Addr.add_lit], hL.drop n⟩
  · exact Or.inl (by simp; omega)

theorem cells2 {W : World} {g : Nat} {x y : Value} {t : TypeId} (h : W.heap[g]? = some (.cells #[x, y] t (0, 0))) : W.cell? ⟨g, 0, none⟩ = some x ∧ W.cell? ⟨g, 1, none⟩ = some y ∧ W.frozen? ⟨g, 0, none⟩ = false ∧ W.frozen? ⟨g, 1, none⟩ = false := by
  refine ⟨by simp only [World.cell?, h]; rfl, by simp only [World.cell?, h]; rfl, by simp only [World.frozen?, h]; simp, by simp only [World.frozen?, h]; simp⟩
theorem keep2 {W : World} {g k : Nat} {x y u v : Value} (hne : k ≠ g) (h : W.cell? ⟨g, 0, none⟩ = some x ∧ W.cell? ⟨g, 1, none⟩ = some y) : ((W.setCell ⟨k, 0, none⟩ u).setCell ⟨k, 1, none⟩ v).cell? ⟨g, 0, none⟩ = some x ∧ ((W.setCell ⟨k, 0, none⟩ u).setCell ⟨k, 1, none⟩ v).cell? ⟨g, 1, none⟩ = some y := by
  have hb : ((W.setCell ⟨k, 0, none⟩ u).setCell ⟨k, 1, none⟩ v).heap[g]? = W.heap[g]? := (((Scf.refl (g + 1) k W).set 0 u).set 1 v).block g (Nat.lt_succ_self _) (Ne.symm hne)
  exact ⟨(World.cell?_of_block (a := ⟨g, 0, none⟩) hb).trans h.1, (World.cell?_of_block (a := ⟨g, 1, none⟩) hb).trans h.2⟩
theorem RT.low {B C : Nat} {v : Value} {ts : List Tri} {W : World} (h : RT C v ts W) (hB : B ≤ C) : RT B v ts W := by
  refine ⟨h.1, ?_⟩
  rcases h.2 with hn | ⟨g, cap, cur, rfl, hC, rest⟩
  · exact .inl hn
  · exact .inr ⟨g, cap, cur, rfl, by omega, rest⟩
theorem RSteps_is (a0 : Option Addr) (cap n : Nat) (l : List Int) (w : World) (hn : n = l.length) (hB : IsB w a0 cap l) (hl : l.length ≤ 4194000) :
    Calls Tryd.prog 20 #[.slice a0 n cap] w fun e w' => ∃ v, e = .returned v ∧ RT w.heap.size v (stepsL l) w' ∧ Below w.heap.size w w' := by
  subst hn
  exact RSteps_at a0 cap l w hB hl
set_option maxHeartbeats 2000000 in
theorem RFeed_at (aH : Option Addr) (cH : Nat) (h : List Int) (pl : Int) (a0 : Option Addr) (cap : Nat) (b : List Int) (w : World) (hH : IsB w aH cH h) (hB : IsB w a0 cap b) (hl : h.length + b.length ≤ 2097152) (hp0 : 0 ≤ pl) (hp1 : pl ≤ 4611686018427387904) :
    Calls Tryd.prog 11 #[.agg #[.slice aH h.length cH, .int .i64 pl], .slice a0 b.length cap] w fun e w' => ∃ a' c' v, e = .returned (.tuple #[.agg #[.slice a' ((h ++ b).drop ((h ++ b).length - leftL (h ++ b))).length c', .int .i64 (pl + (((h ++ b).length - leftL (h ++ b) : Nat) : Int))], v]) ∧
      IsB w' a' c' ((h ++ b).drop ((h ++ b).length - leftL (h ++ b))) ∧ RT w.heap.size v (stepsL ((h ++ b).take ((h ++ b).length - leftL (h ++ b)))) w' ∧ Below w.heap.size w w' ∧ ∀ x, a' = some x → w.heap.size ≤ x.block ∧ x.block < w'.heap.size := by
  obtain ⟨tx, htx⟩ : ∃ tx, tx = h ++ b := ⟨_, rfl⟩
  rw [← htx]
  obtain ⟨n, hn⟩ : ∃ n, n = tx.length - leftL tx := ⟨_, rfl⟩
  rw [← hn]
  have x1 : Below w.heap.size w ((w.alloc (.cells #[.slice aH h.length cH, .int .i64 pl] 28)).alloc (.cells #[.slice none 0 0, .int .i64 0] 28)) := ((Below.refl _ _).alloc (Nat.le_refl _) _).alloc (by simp) _
  have z1 : ((w.alloc (.cells #[.slice aH h.length cH, .int .i64 pl] 28)).alloc (.cells #[.slice none 0 0, .int .i64 0] 28)).heap.size = w.heap.size + 2 := by simp
  have g1 : ((w.alloc (.cells #[.slice aH h.length cH, .int .i64 pl] 28)).alloc (.cells #[.slice none 0 0, .int .i64 0] 28)).heap[w.heap.size]? = some (.cells #[.slice aH h.length cH, .int .i64 pl] 28 (0, 0)) := by
    have hb : Below (w.heap.size + 1) (w.alloc (.cells #[.slice aH h.length cH, .int .i64 pl] 28)) ((w.alloc (.cells #[.slice aH h.length cH, .int .i64 pl] 28)).alloc (.cells #[.slice none 0 0, .int .i64 0] 28)) := (Below.refl _ _).alloc (by simp) _
    rw [hb.block _ (Nat.lt_succ_self _)]
    exact alloc_get w _
  have g2 : ((w.alloc (.cells #[.slice aH h.length cH, .int .i64 pl] 28)).alloc (.cells #[.slice none 0 0, .int .i64 0] 28)).heap[w.heap.size + 1]? = some (.cells #[.slice none 0 0, .int .i64 0] 28 (0, 0)) := by
    have := alloc_get (w.alloc (.cells #[.slice aH h.length cH, .int .i64 pl] 28)) (.cells #[.slice none 0 0, .int .i64 0] 28)
    simpa using this
  go_enter Tryd.func11, Tryd.ntmps11
  go_upto_region 1 with fail
  generalize ((w.alloc (.cells #[.slice aH h.length cH, .int .i64 pl] 28)).alloc (.cells #[.slice none 0 0, .int .i64 0] 28)) = w1 at *
  have zz : w.heap.size < w1.heap.size ∧ w.heap.size + 1 < w1.heap.size := by omega
  clear z1
  obtain ⟨za, zb⟩ := zz
  have hH1 := hH.below x1 (Nat.le_refl _)
  obtain ⟨v2, w2, r2, o2, x2⟩ := run_copy_own w1 aH cH h 26 hH1
  have hB2 := (hB.below x1 (Nat.le_refl _)).below x2 (Nat.le_refl _)
  have z2 := x2.size
  obtain ⟨v3, w3, r3, o3, x3, _⟩ := append_bytes (a0 := a0) (cap := cap) 26 o2 z2 hB2 (by omega)
  have z3 := x3.size
  have hbb : ∀ x ∈ h ++ b, 0 ≤ x ∧ x ≤ 255 := fun x hx => by
    rcases List.mem_append.1 hx with h' | h'
    · exact hH.2.2.2 x h'
    · exact hB.2.2.2 x h'
  have htl : (h ++ b).length = h.length + b.length := List.length_append
  obtain ⟨a3, c3, rfl, i3⟩ := o3.isB hbb (by omega)
  have k3 := o3.blk
  have c1 : w1.cell? ⟨w.heap.size, 0, none⟩ = some (.slice aH h.length cH) := by simp only [World.cell?, g1]; rfl
  have R2 := hide r2
  have R3 := hide r3
  clear r2 r3 o2 o3 hB2 hH1
  have x13 : Below w1.heap.size w1 w3 := x2.trans (x3)
  have g13 := (x13.block w.heap.size (by omega)).trans g1
  have g23 := (x13.block (w.heap.size + 1) (by omega)).trans g2
  rw [← htx] at hbb htl i3 R3
  have htl2 : tx.length ≤ 2097152 := by omega
  have hll : leftL tx ≤ tx.length := leftL_le tx
  clear hB hH g1 g2 x2 x3 htl htx hl
  have hni : (tx.length : Int) - (leftL tx : Int) = (n : Int) := by omega
  have hnt : n ≤ tx.length := by omega
  have hnti : (n : Int) ≤ (tx.length : Int) := by omega
  have hdl : (tx.drop n).length = tx.length - n := by simp
  have htk : (tx.take n).length = n := by simp; omega
  have hc3 := i3.1
  have hnc : (n : Int) ≤ (c3 : Int) := by omega
  have hplb : pl + (n : Int) ≤ 9223372036854775807 := by omega
  have HI3 := hide i3
  have HL3 := hide (RLeft_at a3 c3 tx w3 i3)
  clear i3 hn
  go_wp2_with (at_builtin; first
    | (refine wpList_append_known rfl _ _ 26 26 rfl _ _ rfl rfl _ _ (unhide R2) ?_; clear R2)
    | (refine wpList_append_known rfl _ _ 26 26 rfl _ _ rfl rfl _ _ (unhide R3) ?_; clear R3))
  refine (unhide HL3).mono ?_
  rintro e w4 ⟨rfl, q4, rfl⟩
  clear HL3
  generalize leftL tx = lf at *
  dsimp only
  have i4 : IsB (w3.drewN q4) (if c3 = n then a3 else a3.map (·.add n)) (c3 - n) (tx.drop n) := (unhide HI3).lo
  have x14 : Below w1.heap.size w1 (w3.drewN q4) := Below.drewN x13 q4
  have g14 : (w3.drewN q4).heap[w.heap.size]? = some (.cells #[.slice aH h.length cH, .int .i64 pl] 28 (0, 0)) := g13
  have g24 : (w3.drewN q4).heap[w.heap.size + 1]? = some (.cells #[.slice none 0 0, .int .i64 0] 28 (0, 0)) := g23
  have HI4 := hide (show IsB (w3.drewN q4) a3 c3 tx from unhide HI3)
  have z34 : w3.heap.size ≤ (w3.drewN q4).heap.size := Nat.le_refl _
  generalize w3.drewN q4 = w4 at *
  clear g13 g23 x13 HI3
  obtain ⟨v5, w5, r5, o5, x5⟩ := run_copy_own w4 _ _ (tx.drop n) 26 i4
  obtain ⟨a5, k5, rfl, i5⟩ := o5.isB i4.2.2.2 (by rw [hdl]; omega)
  rw [hdl] at r5
  have z14 := x14.size
  have z5 := x5.size
  have g15 := (x5.block w.heap.size (by omega)).trans g14
  have g25 := (x5.block (w.heap.size + 1) (by omega)).trans g24
  have HI5 := hide ((unhide HI4).below x5 (Nat.le_refl _))
  have c5 : w5.cell? ⟨w.heap.size, 0, none⟩ = some (.slice aH h.length cH) := by simp only [World.cell?, g15]; rfl
  have c5' : w5.cell? ⟨w.heap.size, 1, none⟩ = some (.int .i64 pl) := by simp only [World.cell?, g15]; rfl
  have f5 : ∀ o, w5.frozen? ⟨w.heap.size, o, none⟩ = false := fun o => by simp only [World.frozen?, g15]; simp
  have R5 := hide r5
  clear r5 i4
  have f50 := f5 0
  have f51 := f5 1
  clear f5
  have s1 : (w5.setCell ⟨w.heap.size, 0, none⟩ (.slice a5 (tx.length - n) k5)).cell? ⟨w.heap.size, 1, none⟩ = some (.int .i64 pl) := by rw [cell_set (by rw [c5]; rfl), if_neg (by omega)]; exact c5'
  have s1f : (w5.setCell ⟨w.heap.size, 0, none⟩ (.slice a5 (tx.length - n) k5)).frozen? ⟨w.heap.size, 1, none⟩ = false := by rw [frozen_set]; exact f51
  have key : ∀ sv : Value, Hid ((fun W6 : World => W6.cell? ⟨w.heap.size, 0, none⟩ = some sv ∧ W6.cell? ⟨w.heap.size, 1, none⟩ = some (.int .i64 (pl + (n : Int))) ∧
      W6.heap[w.heap.size + 1]? = some (.cells #[.slice none 0 0, .int .i64 0] 28 (0, 0)) ∧ IsB W6 a3 c3 tx ∧ IsB W6 a5 k5 (tx.drop n) ∧ Below w.heap.size w W6 ∧ w.heap.size + 1 < W6.heap.size ∧ w5.heap.size ≤ W6.heap.size)
      ((w5.setCell ⟨w.heap.size, 0, none⟩ sv).setCell ⟨w.heap.size, 1, none⟩ (.int .i64 (pl + (n : Int))))) := fun sv => by
    have q0 := cell_set (w := w5) (g := w.heap.size) (k := 0) (v := sv) (by rw [c5]; rfl)
    have q1 := cell_set (w := w5.setCell ⟨w.heap.size, 0, none⟩ sv) (g := w.heap.size) (k := 1) (v := .int .i64 (pl + (n : Int))) (by rw [q0, if_neg (by omega), c5']; rfl)
    have sc : Scf w5.heap.size w.heap.size w5 ((w5.setCell ⟨w.heap.size, 0, none⟩ sv).setCell ⟨w.heap.size, 1, none⟩ (.int .i64 (pl + (n : Int)))) := ((Scf.refl _ _ w5).set _ _).set _ _
    have hz1 := x1.size
    refine hide ⟨by rw [q1, if_neg (by omega), q0, if_pos rfl], by rw [q1, if_pos rfl], (sc.block _ (by omega) (by omega)).trans g25, (unhide HI5).scf sc (fun a ha => ?_), i5.scf sc (fun a ha => ?_), ?_, ?_, sc.size⟩
    · have := k3 a ha; have := x5.size; have := x14.size; omega
    · have := o5.blk a ha; omega
    · exact (x1.trans ((x14.mono (by omega)).trans (x5.mono (by omega)))).trans ((sc.mono (by omega)).below (Nat.le_refl _))
    · have := sc.size; omega
  by_cases hcn : c3 = n
  · have hz0 : tx.length - n = 0 := by omega
    rw [if_pos hcn, hcn, Nat.sub_self, hz0] at R5
    rw [hz0] at s1 s1f
    have HW6 := key (.slice a5 0 k5)
    clear key
    subst hcn
    go_upto_region 5 with (at_builtin; refine wpList_append_known rfl _ _ 26 26 rfl _ _ rfl rfl _ _ (unhide R5) ?_)
    have F6 := HW6
    clear s1 s1f c5 c5' f50 f51 R5
    generalize ((w5.setCell ⟨w.heap.size, 0, none⟩ (.slice a5 (0) k5)).setCell ⟨w.heap.size, 1, none⟩ (.int .i64 (pl + (c3 : Int)))) = w6 at *
    obtain ⟨hs60, hs61, hg26, hi3, hi5, hb6, hz6, hz56⟩ := unhide F6
    have HS0 : Hid (w6.drew.cell? ⟨w.heap.size, 0, none⟩ = some (.slice a5 (0) k5) ∧ w6.drew.cell? ⟨w.heap.size, 1, none⟩ = some (.int .i64 (pl + (c3 : Int)))) := hide ⟨hs60, hs61⟩
    have HST := hide (RSteps_is a3 c3 c3 (tx.take c3) w6.drew htk.symm (show IsB w6.drew a3 c3 (tx.take c3) from hi3.take hnt) (by rw [htk]; omega))
    have HI5 := hide hi5
    have HB6 := hide hb6
    have HG6 : Hid (w6.drew.heap[w.heap.size + 1]? = some (.cells #[.slice none 0 0, .int .i64 0] 28 (0, 0))) := hide hg26
    have HI5d : Hid (IsB w6.drew a5 k5 (tx.drop c3)) := hide hi5
    have hz6d : w.heap.size + 1 < w6.drew.heap.size := hz6
    have hz56d : w5.heap.size ≤ w6.drew.heap.size := hz56
    have HD6 := hide (show Below w.heap.size w w6.drew from Below.drewN hb6 1)
    clear hs60 hs61 hi3 hi5 hb6 hg26 F6 HW6
    refine regionL (S := fun w' => w'.cell? ⟨w.heap.size, 0, none⟩ = some (.slice a5 (0) k5) ∧ w'.cell? ⟨w.heap.size, 1, none⟩ = some (.int .i64 (pl + (c3 : Int)))) (fun i => i == 5) (by kernel_rfl) ?_
    generalize w6.drew = wd at *
    refine anyL_take (i := 0) (v := ?v0) rfl (by kernel_rfl) (by kernel_rfl) (by kernel_rfl) (by kernel_rfl) (fun _ _ _ h => h) (Or.inl ⟨by rfl, ?h0⟩) (unhide HS0) ?_
    case h0 => (intro w hSw; (try dsimp only at hSw); go_simp) <;> with_reducible rfl
    simp only [Act.put, List.getElem_toArray, List.getElem_cons_zero, List.setIfInBounds_toArray, List.set_cons_zero, List.set_cons_succ]
    refine anyL_take (i := 1) (v := ?v1) rfl (by kernel_rfl) (by kernel_rfl) (by kernel_rfl) (by kernel_rfl) (fun _ _ _ h => h) (Or.inl ⟨by rfl, ?h1⟩) (unhide HS0) ?_
    case h1 => (intro w hSw; (try dsimp only at hSw); go_simp) <;> with_reducible rfl
    simp only [Act.put, List.getElem_toArray, List.getElem_cons_zero, List.getElem_cons_succ, List.setIfInBounds_toArray, List.set_cons_zero, List.set_cons_succ]
    refine anyL_take (i := 2) (v := ?v2) rfl (by kernel_rfl) (by kernel_rfl) (by kernel_rfl) (by kernel_rfl) (fun _ _ _ h => h) (Or.inl ⟨by rfl, ?h2⟩) (unhide HS0) ?_
    case h2 => (intro w hSw; (try dsimp only at hSw); go_simp) <;> with_reducible rfl
    simp only [Act.put, List.getElem_toArray, List.getElem_cons_zero, List.getElem_cons_succ, List.setIfInBounds_toArray, List.set_cons_zero, List.set_cons_succ]
    refine anyL_take (i := 3) (v := ?v3) rfl (by kernel_rfl) (by kernel_rfl) (by kernel_rfl) (by kernel_rfl) (fun _ _ _ h => h) (Or.inl ⟨by rfl, ?h3⟩) (unhide HS0) ?_
    case h3 => (intro w hSw; (try dsimp only at hSw); go_simp) <;> with_reducible rfl
    simp only [Act.put, List.getElem_toArray, List.getElem_cons_zero, List.getElem_cons_succ, List.setIfInBounds_toArray, List.set_cons_zero, List.set_cons_succ]
    refine anyL_ready (rs := [4]) (by kernel_rfl) (by simp) ?_
    refine AllL.cons rfl (fun K hK => ?_) AllL.nil
    go_simp
    refine (unhide HST).mono ?_
    rintro e w7 ⟨v7, rfl, o7, x7⟩
    have z7 := x7.size
    obtain ⟨c70, c71, f70, f71⟩ := cells2 ((x7.block (w.heap.size + 1) hz6d).trans (unhide HG6))
    have HS7 : Hid (w7.cell? ⟨w.heap.size, 0, none⟩ = some (.slice a5 (0) k5) ∧ w7.cell? ⟨w.heap.size, 1, none⟩ = some (.int .i64 (pl + (c3 : Int)))) := hide ⟨(x7.cell (p := ⟨w.heap.size, 0, none⟩) (by show w.heap.size < _; omega)).trans (unhide HS0).1, (x7.cell (p := ⟨w.heap.size, 1, none⟩) (by show w.heap.size < _; omega)).trans (unhide HS0).2⟩
    have c71' : (w7.setCell ⟨w.heap.size + 1, 0, none⟩ (.slice a5 (0) k5)).cell? ⟨w.heap.size + 1, 1, none⟩ = some (.int .i64 0) := by rw [cell_set (by rw [c70]; rfl), if_neg (by omega)]; exact c71
    have f71' : (w7.setCell ⟨w.heap.size + 1, 0, none⟩ (.slice a5 (0) k5)).frozen? ⟨w.heap.size + 1, 1, none⟩ = false := by rw [frozen_set]; exact f71
    have O7 := hide o7
    have I7 := hide ((unhide HI5d).below x7 (Nat.le_refl _))
    have B7 := hide ((unhide HD6).trans (x7.mono (by omega)))
    clear o7 x7 HST
    dsimp only
    refine unhide hK _ _ (fun _ => unhide HS7) ?_
    clear hK K
    refine anyL_ready (rs := [5]) (by kernel_rfl) (by simp) ?_
    refine AllL.cons rfl (fun K hK => ?_) AllL.nil
    go_simp
    refine unhide hK _ _ (fun h => absurd h (by decide)) ?_
    clear hK K
    refine anyL_ready (rs := [6]) (by kernel_rfl) (by simp) ?_
    refine AllL.cons rfl (fun K hK => ?_) AllL.nil
    go_simp
    refine unhide hK _ _ (fun _ => keep2 (by omega) (unhide HS7)) ?_
    clear hK K
    refine anyL_done (by kernel_rfl) ?_ _
    go_wp2_with fail
    have e0 : ((w7.setCell ⟨w.heap.size + 1, 0, none⟩ (.slice a5 (0) k5)).setCell ⟨w.heap.size + 1, 1, none⟩ (.int .i64 (pl + (c3 : Int)))).cell? ⟨w.heap.size + 1, 0, none⟩ = some (.slice a5 (0) k5) := by rw [cell_set (by rw [c71']; rfl), if_neg (by omega), cell_set (by rw [c70]; rfl), if_pos rfl]
    have e1 : ((w7.setCell ⟨w.heap.size + 1, 0, none⟩ (.slice a5 (0) k5)).setCell ⟨w.heap.size + 1, 1, none⟩ (.int .i64 (pl + (c3 : Int)))).cell? ⟨w.heap.size + 1, 1, none⟩ = some (.int .i64 (pl + (c3 : Int))) := by rw [cell_set (by rw [c71']; rfl), if_pos rfl]
    have sc : Scf w7.heap.size (w.heap.size + 1) w7 ((w7.setCell ⟨w.heap.size + 1, 0, none⟩ (.slice a5 (0) k5)).setCell ⟨w.heap.size + 1, 1, none⟩ (.int .i64 (pl + (c3 : Int)))) := ((Scf.refl _ _ w7).set _ _).set _ _
    refine bodyPost_ret (v := .tuple #[.agg #[.slice a5 (0) k5, .int .i64 (pl + (c3 : Int))], v7]) (by simp [results, Tryd.results11, go_sem, e0, e1]) rfl ⟨a5, k5, v7, by rw [hdl]; rw [hz0], ?_, ?_, ?_, fun a ha => by have := o5.blk a ha; have := sc.size; have := x1.size; omega⟩
    · exact (unhide I7).scf sc (fun a ha => by have := o5.blk a ha; omega)
    · exact ((unhide O7).same fun k hk hk' => sc.block k hk' (by omega)).low (by have := (unhide HD6).size; omega)
    · exact (unhide B7).trans ((sc.mono (unhide B7).size).below (by omega))
  · rw [if_neg hcn] at R5
    have HW6 := key (.slice a5 (tx.length - n) k5)
    clear key
    go_upto_region 5 with (at_builtin; refine wpList_append_known rfl _ _ 26 26 rfl _ _ rfl rfl _ _ (unhide R5) ?_)
    have F6 := HW6
    clear s1 s1f c5 c5' f50 f51 R5
    generalize ((w5.setCell ⟨w.heap.size, 0, none⟩ (.slice a5 (tx.length - n) k5)).setCell ⟨w.heap.size, 1, none⟩ (.int .i64 (pl + (n : Int)))) = w6 at *
    obtain ⟨hs60, hs61, hg26, hi3, hi5, hb6, hz6, hz56⟩ := unhide F6
    have HS0 : Hid (w6.drew.cell? ⟨w.heap.size, 0, none⟩ = some (.slice a5 (tx.length - n) k5) ∧ w6.drew.cell? ⟨w.heap.size, 1, none⟩ = some (.int .i64 (pl + (n : Int)))) := hide ⟨hs60, hs61⟩
    have HST := hide (RSteps_is a3 c3 n (tx.take n) w6.drew htk.symm (show IsB w6.drew a3 c3 (tx.take n) from hi3.take hnt) (by rw [htk]; omega))
    have HI5 := hide hi5
    have HB6 := hide hb6
    have HG6 : Hid (w6.drew.heap[w.heap.size + 1]? = some (.cells #[.slice none 0 0, .int .i64 0] 28 (0, 0))) := hide hg26
    have HI5d : Hid (IsB w6.drew a5 k5 (tx.drop n)) := hide hi5
    have hz6d : w.heap.size + 1 < w6.drew.heap.size := hz6
    have hz56d : w5.heap.size ≤ w6.drew.heap.size := hz56
    have HD6 := hide (show Below w.heap.size w w6.drew from Below.drewN hb6 1)
    clear hs60 hs61 hi3 hi5 hb6 hg26 F6 HW6
    refine regionL (S := fun w' => w'.cell? ⟨w.heap.size, 0, none⟩ = some (.slice a5 (tx.length - n) k5) ∧ w'.cell? ⟨w.heap.size, 1, none⟩ = some (.int .i64 (pl + (n : Int)))) (fun i => i == 5) (by kernel_rfl) ?_
    generalize w6.drew = wd at *
    refine anyL_take (i := 0) (v := ?y0) rfl (by kernel_rfl) (by kernel_rfl) (by kernel_rfl) (by kernel_rfl) (fun _ _ _ h => h) (Or.inl ⟨by rfl, ?e0⟩) (unhide HS0) ?_
    case e0 => (intro w hSw; (try dsimp only at hSw); go_simp) <;> with_reducible rfl
    simp only [Act.put, List.getElem_toArray, List.getElem_cons_zero, List.setIfInBounds_toArray, List.set_cons_zero, List.set_cons_succ]
    refine anyL_take (i := 1) (v := ?y1) rfl (by kernel_rfl) (by kernel_rfl) (by kernel_rfl) (by kernel_rfl) (fun _ _ _ h => h) (Or.inl ⟨by rfl, ?e1⟩) (unhide HS0) ?_
    case e1 => (intro w hSw; (try dsimp only at hSw); go_simp) <;> with_reducible rfl
    simp only [Act.put, List.getElem_toArray, List.getElem_cons_zero, List.getElem_cons_succ, List.setIfInBounds_toArray, List.set_cons_zero, List.set_cons_succ]
    refine anyL_take (i := 2) (v := ?y2) rfl (by kernel_rfl) (by kernel_rfl) (by kernel_rfl) (by kernel_rfl) (fun _ _ _ h => h) (Or.inl ⟨by rfl, ?e2⟩) (unhide HS0) ?_
    case e2 => (intro w hSw; (try dsimp only at hSw); go_simp) <;> with_reducible rfl
    simp only [Act.put, List.getElem_toArray, List.getElem_cons_zero, List.getElem_cons_succ, List.setIfInBounds_toArray, List.set_cons_zero, List.set_cons_succ]
    refine anyL_take (i := 3) (v := ?y3) rfl (by kernel_rfl) (by kernel_rfl) (by kernel_rfl) (by kernel_rfl) (fun _ _ _ h => h) (Or.inl ⟨by rfl, ?e3⟩) (unhide HS0) ?_
    case e3 => (intro w hSw; (try dsimp only at hSw); go_simp) <;> with_reducible rfl
    simp only [Act.put, List.getElem_toArray, List.getElem_cons_zero, List.getElem_cons_succ, List.setIfInBounds_toArray, List.set_cons_zero, List.set_cons_succ]
    refine anyL_ready (rs := [4]) (by kernel_rfl) (by simp) ?_
    refine AllL.cons rfl (fun K hK => ?_) AllL.nil
    go_simp
    refine (unhide HST).mono ?_
    rintro e w7 ⟨v7, rfl, o7, x7⟩
    have z7 := x7.size
    obtain ⟨c70, c71, f70, f71⟩ := cells2 ((x7.block (w.heap.size + 1) hz6d).trans (unhide HG6))
    have HS7 : Hid (w7.cell? ⟨w.heap.size, 0, none⟩ = some (.slice a5 (tx.length - n) k5) ∧ w7.cell? ⟨w.heap.size, 1, none⟩ = some (.int .i64 (pl + (n : Int)))) := hide ⟨(x7.cell (p := ⟨w.heap.size, 0, none⟩) (by show w.heap.size < _; omega)).trans (unhide HS0).1, (x7.cell (p := ⟨w.heap.size, 1, none⟩) (by show w.heap.size < _; omega)).trans (unhide HS0).2⟩
    have c71' : (w7.setCell ⟨w.heap.size + 1, 0, none⟩ (.slice a5 (tx.length - n) k5)).cell? ⟨w.heap.size + 1, 1, none⟩ = some (.int .i64 0) := by rw [cell_set (by rw [c70]; rfl), if_neg (by omega)]; exact c71
    have f71' : (w7.setCell ⟨w.heap.size + 1, 0, none⟩ (.slice a5 (tx.length - n) k5)).frozen? ⟨w.heap.size + 1, 1, none⟩ = false := by rw [frozen_set]; exact f71
    have O7 := hide o7
    have I7 := hide ((unhide HI5d).below x7 (Nat.le_refl _))
    have B7 := hide ((unhide HD6).trans (x7.mono (by omega)))
    clear o7 x7 HST
    dsimp only
    refine unhide hK _ _ (fun _ => unhide HS7) ?_
    clear hK K
    refine anyL_ready (rs := [5]) (by kernel_rfl) (by simp) ?_
    refine AllL.cons rfl (fun K hK => ?_) AllL.nil
    go_simp
    refine unhide hK _ _ (fun h => absurd h (by decide)) ?_
    clear hK K
    refine anyL_ready (rs := [6]) (by kernel_rfl) (by simp) ?_
    refine AllL.cons rfl (fun K hK => ?_) AllL.nil
    go_simp
    refine unhide hK _ _ (fun _ => keep2 (by omega) (unhide HS7)) ?_
    clear hK K
    refine anyL_done (by kernel_rfl) ?_ _
    go_wp2_with fail
    have e0 : ((w7.setCell ⟨w.heap.size + 1, 0, none⟩ (.slice a5 (tx.length - n) k5)).setCell ⟨w.heap.size + 1, 1, none⟩ (.int .i64 (pl + (n : Int)))).cell? ⟨w.heap.size + 1, 0, none⟩ = some (.slice a5 (tx.length - n) k5) := by rw [cell_set (by rw [c71']; rfl), if_neg (by omega), cell_set (by rw [c70]; rfl), if_pos rfl]
    have e1 : ((w7.setCell ⟨w.heap.size + 1, 0, none⟩ (.slice a5 (tx.length - n) k5)).setCell ⟨w.heap.size + 1, 1, none⟩ (.int .i64 (pl + (n : Int)))).cell? ⟨w.heap.size + 1, 1, none⟩ = some (.int .i64 (pl + (n : Int))) := by rw [cell_set (by rw [c71']; rfl), if_pos rfl]
    have sc : Scf w7.heap.size (w.heap.size + 1) w7 ((w7.setCell ⟨w.heap.size + 1, 0, none⟩ (.slice a5 (tx.length - n) k5)).setCell ⟨w.heap.size + 1, 1, none⟩ (.int .i64 (pl + (n : Int)))) := ((Scf.refl _ _ w7).set _ _).set _ _
    refine bodyPost_ret (v := .tuple #[.agg #[.slice a5 (tx.length - n) k5, .int .i64 (pl + (n : Int))], v7]) (by simp [results, Tryd.results11, go_sem, e0, e1]) rfl ⟨a5, k5, v7, by rw [hdl], ?_, ?_, ?_, fun a ha => by have := o5.blk a ha; have := sc.size; have := x1.size; omega⟩
    · exact (unhide I7).scf sc (fun a ha => by have := o5.blk a ha; omega)
    · exact ((unhide O7).same fun k hk hk' => sc.block k hk' (by omega)).low (by have := (unhide HD6).size; omega)
    · exact (unhide B7).trans ((sc.mono (unhide B7).size).below (by omega))

/-- what the document's Feed tells is what scanning tells -/
theorem feed_scan {h b : List Int} (hH : Hel h) : (h ++ b).drop ((h ++ b).length - leftL (h ++ b)) = (scanS h b).2 ∧ stepsL ((h ++ b).take ((h ++ b).length - leftL (h ++ b))) = (scanS h b).1 ∧
    (h ++ b).length - leftL (h ++ b) + (scanS h b).2.length = h.length + b.length := by
  obtain ⟨c0, e1, e2, _⟩ := scanS_text b hH
  have hl := left_held (b := b) hH
  have h1 := congrArg List.length e1
  simp only [List.length_append] at h1
  have hn : (h ++ b).length - leftL (h ++ b) = c0.length := by rw [hl, List.length_append]; omega
  rw [hn]
  refine ⟨?_, ?_, by omega⟩
  · rw [e1]; simp
  · rw [e1, e2]; simp
theorem RFeedS_at (aH : Option Addr) (cH : Nat) (h : List Int) (pl : Int) (a0 : Option Addr) (cap : Nat) (b : List Int) (w : World) (hH : IsB w aH cH h) (hB : IsB w a0 cap b) (hl : h.length + b.length ≤ 2097152) (hp0 : 0 ≤ pl) (hp1 : pl ≤ 4611686018427387904) (hh : Hel h) :
    Calls Tryd.prog 11 #[.agg #[.slice aH h.length cH, .int .i64 pl], .slice a0 b.length cap] w fun e w' => ∃ a' c' v, e = .returned (.tuple #[.agg #[.slice a' (scanS h b).2.length c', .int .i64 (pl + (h.length : Int) + (b.length : Int) - ((scanS h b).2.length : Int))], v]) ∧
      IsB w' a' c' (scanS h b).2 ∧ RT w.heap.size v (scanS h b).1 w' ∧ Below w.heap.size w w' ∧ ∀ x, a' = some x → w.heap.size ≤ x.block ∧ x.block < w'.heap.size := by
  obtain ⟨e1, e2, e3⟩ := feed_scan (b := b) hh
  have := RFeed_at aH cH h pl a0 cap b w hH hB hl hp0 hp1
  rw [e1, e2] at this
  rw [show pl + (h.length : Int) + (b.length : Int) - ((scanS h b).2.length : Int) = pl + (((h ++ b).length - leftL (h ++ b) : Nat) : Int) by omega]
  exact this
end Go.Proofs.YtpgipahlhbkjjaaDoor
