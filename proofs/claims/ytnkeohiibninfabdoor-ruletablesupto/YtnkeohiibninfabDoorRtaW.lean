/- Layer 6: the walk of RuleTables, for arguments under the bound. -/
import Derived.Test.YtnkeohiibninfabDoorRta
import Derived.Test.YtnkeohiibninfabDoorRwk
namespace Go.Proofs.YtnkeohiibninfabDoor
open Go.ChangeShapes Go.WideShapes Go.ChangeAt Go.RowKit

theorem LiesI.at {W : World} {g : Nat} {r : Int} {l : List Int} (h : LiesI W g ((EE l).map (byE r))) {i : Nat} (hi : i < (EE l).length) : W.cell? ⟨g, i, none⟩ = some (.int .i64 (byE r ((EE l).getD i e0) : Nat)) := by
  rw [h i (by rw [List.length_map]; exact hi)]
  have e1 := List.getElem?_eq_getElem hi
  simp [List.getD, e1]
/-- what stays while the law goes on -/
structure TS (w : World) (a0 : Option Addr) (cap : Nat) (l : List Int) (g1 g2 g3 : Nat) (W : World) : Prop where
  b : IsB W a0 cap l
  t : Tab W
  d : Below w.heap.size w W
  x : LiesI W g1 ((EE l).map (byE 1))
  y : LiesI W g2 ((EE l).map (byE 2))
  z : LiesI W g3 ((EE l).map (byE 3))
  s : g1 < W.heap.size ∧ g2 < W.heap.size ∧ g3 < W.heap.size
theorem TS.on {w : World} {a0 : Option Addr} {cap : Nat} {l : List Int} {g1 g2 g3 : Nat} {W W' : World} (h : TS w a0 cap l g1 g2 g3 W) (hb : Below W.heap.size W W') : TS w a0 cap l g1 g2 g3 W' :=
  ⟨h.b.below hb (Nat.le_refl _), h.t.below hb h.t.size, h.d.trans (hb.mono h.d.size), h.x.below hb h.s.1, h.y.below hb h.s.2.1, h.z.below hb h.s.2.2, by have := hb.size; have := h.s; omega⟩
theorem table_row {W : World} {B : Nat} {v : Value} {r : Int} {l : List Int} (h : W.ownsRow B 3 1 v (EE l).length (intsE r (EE l))) : ∃ g c, v = .slice (some ⟨g, 0, none⟩) (EE l).length c ∧ LiesI W g ((EE l).map (byE r)) ∧ g < W.heap.size := by
  have := rowI (W := W) (B := B) (v := v) (ps := (EE l).map (byE r)) (by rw [List.length_map, List.map_map]; exact h) (by
    intro e
    have e2 := congrArg List.length e
    rw [List.length_map, EE_len] at e2
    simp at e2)
  simpa only [List.length_map] using this

/-- what a round of the first loop asks -/
theorem round_facts (w : World) (a0 : Option Addr) (cap : Nat) (l : List Int) (g1 g2 g3 : Nat) (hl : ∀ x ∈ l, 0 ≤ x ∧ x ≤ 255) (hn : l.length ≤ 1048576) (k : Nat) (hk : k < (EE l).length) :
    ∃ X Z : Nat, X ≤ l.length ∧ Z ≤ 4194304 ∧
      (∀ W, TS w a0 cap l g1 g2 g3 W → W.cell? ⟨g1, k, none⟩ = some (.int .i64 (X : Int)) ∧ W.cell? ⟨g2, k, none⟩ = some (.int .i64 (k : Int)) ∧ W.cell? ⟨g3, k, none⟩ = some (.int .i64 (Z : Int))) ∧
      (∀ W, IsB W a0 cap l → Calls Tryd.prog 11 #[.slice a0 X cap] W fun e W' => ∃ a' c', e = .returned (.slice a' X c') ∧ IsB W' a' c' (l.take X) ∧ Below W.heap.size W W') ∧
      (∀ W a c, IsB W a c (l.take X) → Calls Tryd.prog 14 #[.slice a X c] W fun e W' => ∃ a' c', e = .returned (.slice a' Z c') ∧ Below W.heap.size W W') ∧
      (∀ W a c, IsB W a c l → Tab W → Calls Tryd.prog 15 #[.slice a l.length c, .int .i64 (X : Int)] W fun e W' => e = .returned (.bool true) ∧ Below W.heap.size W W') ∧
      (∀ j, k = j + 1 → ∃ Y : Nat, Y < X ∧ ∀ W, TS w a0 cap l g1 g2 g3 W → W.cell? ⟨g1, j, none⟩ = some (.int .i64 (Y : Int))) := by
  have hX := EE_le hl hk
  have hU := units_at hl hk
  have hLn : (l.take ((EE l).getD k e0).1).length = ((EE l).getD k e0).1 := by rw [List.length_take]; omega
  have hin : ∀ x ∈ l.take ((EE l).getD k e0).1, 0 ≤ x ∧ x ≤ 255 := fun x hx => hl x (List.mem_of_mem_take hx)
  refine ⟨((EE l).getD k e0).1, ((EE l).getD k e0).2.2, hX, ?_, fun W h => ⟨h.x.at hk, ?_, h.z.at hk⟩, fun W h => ?_, fun W a c h => ?_, fun W a c h ht => ?_, fun j hj => ?_⟩
  · rw [← hU]
    have := toL_len (l.take ((EE l).getD k e0).1)
    omega
  · have := h.y.at hk
    rw [show byE 2 ((EE l).getD k e0) = ((EE l).getD k e0).2.1 from rfl, runes_at hl hk] at this
    exact this
  · have h2 : IsB W a0 cap (l.take ((EE l).getD k e0).1) := h.takeR
    have := own_at a0 cap _ W h2
    rw [hLn] at this
    exact this
  · have := UTo_at a c _ W h (by rw [hLn]; omega)
    rw [hLn] at this
    refine this.mono ?_
    rintro e W' ⟨v, rfl, o, b⟩
    obtain ⟨a', c', rfl, _⟩ := o.isU (toL_in hin)
    rw [hU]
    exact ⟨a', c', rfl, b⟩
  · have := Edge_at a c (((EE l).getD k e0).1 : Nat) l W h ht
    rw [edge_at hl hk] at this
    exact this
  · subst hj
    refine ⟨((EE l).getD j e0).1, ?_, fun W h => h.x.at (by omega)⟩
    exact (inc_EE hl 1).2.2 j (j + 1) (by omega) hk

set_option maxRecDepth 100000 in
set_option maxHeartbeats 8000000 in
theorem RuleTables_any (a0 : Option Addr) (cap : Nat) (l : List Int) (w : World) (hB : IsB w a0 cap l) (qb : cap ≤ 1048576) (hT : Tab w) :
    Calls Tryd.prog 4 #[.slice a0 l.length cap] w fun e w' => e = .returned (.bool true) ∧ Below w.heap.size w w' := by
  have hl : l.length ≤ 1048576 := Nat.le_trans hB.1 qb
  have HLB := hide hB.2.2.2
  go_enter Tryd.func4, Tryd.ntmps4
  go_wp2_with fail
  refine (wakes6_any w hT).mono ?_
  rintro e w1 ⟨rfl, x1⟩
  have hB1 := hB.below x1 (Nat.le_refl _)
  have hT1 := hT.below x1 hT.size
  go_wp2_with fail
  refine (own_at a0 cap l w1 hB1).mono ?_
  rintro e w2 ⟨a2, c2, rfl, i2, x2⟩
  go_wp2_with fail
  refine (Table_in a2 c2 l 1 w2 i2 (hT1.below x2 hT1.size) rfl hl).mono ?_
  rintro e w3 ⟨v3, rfl, o3, x3⟩
  obtain ⟨g1, d1, rfl, lx, sx⟩ := table_row o3
  have b3 : Below w.heap.size w w3 := (x1.trans (x2.mono x1.size)).trans (x3.mono (Nat.le_trans x1.size x2.size))
  have hB3 := hB.below b3 (Nat.le_refl _)
  have hT3 := hT.below b3 hT.size
  clear o3 i2 x1 x2 x3 hB1 hT1
  go_wp2_with fail
  refine (own_at a0 cap l w3 hB3).mono ?_
  rintro e w4 ⟨a4, c4, rfl, i4, x4⟩
  go_wp2_with fail
  refine (Table_in a4 c4 l 2 w4 i4 (hT3.below x4 hT3.size) rfl hl).mono ?_
  rintro e w5 ⟨v5, rfl, o5, x5⟩
  obtain ⟨g2, d2, rfl, ly, sy⟩ := table_row o5
  have y5 := x4.trans (x5.mono x4.size)
  have b5 : Below w.heap.size w w5 := b3.trans (y5.mono b3.size)
  have hB5 := hB.below b5 (Nat.le_refl _)
  have hT5 := hT.below b5 hT.size
  have lx5 := lx.below y5 sx
  have sx5 := Nat.lt_of_lt_of_le sx y5.size
  clear o5 i4 x4 x5 hB3 hT3 lx sx y5
  go_wp2_with fail
  refine (own_at a0 cap l w5 hB5).mono ?_
  rintro e w6 ⟨a6, c6, rfl, i6, x6⟩
  go_wp2_with fail
  refine (Table_in a6 c6 l 3 w6 i6 (hT5.below x6 hT5.size) rfl hl).mono ?_
  rintro e w7 ⟨v7, rfl, o7, x7⟩
  obtain ⟨g3, d3, rfl, lz, sz⟩ := table_row o7
  have y7 := x6.trans (x7.mono x6.size)
  have b7 : Below w.heap.size w w7 := b5.trans (y7.mono b5.size)
  have ts7 : TS w a0 cap l g1 g2 g3 w7 := ⟨hB.below b7 (Nat.le_refl _), hT.below b7 hT.size, b7, lx5.below y7 sx5, ly.below y7 sy, lz, Nat.lt_of_lt_of_le sx5 y7.size, Nat.lt_of_lt_of_le sy y7.size, sz⟩
  have hn0 := EE_len l
  have hsp := (st_at (unhide HLB) (List.prefix_refl (spots l 0))).2.2.2.2
  have cx0 := ts7.x.at (i := 0) (by omega)
  have cxl := ts7.x.at (i := (spots l 0).length) (by omega)
  have hx0 : byE 1 ((EE l).getD 0 e0) = 0 := by rw [(inc_EE (unhide HLB) 1).1]; rfl
  have hxl : byE 1 ((EE l).getD (spots l 0).length e0) = l.length := by
    have h := EE_last l
    rw [EE_len, Nat.add_sub_cancel] at h
    rw [h]
    have := (st_at (unhide HLB) (List.prefix_refl (spots l 0))).2.1
    have h2 : spots l (stE l (spots l 0)).1 = [] := by simpa using this.symm
    have h3 := (st_at (unhide HLB) (List.prefix_refl (spots l 0))).1
    show (stE l (spots l 0)).1 = l.length
    by_cases hlt : (stE l (spots l 0)).1 < l.length
    · rw [spots_cons hlt] at h2; cases h2
    · omega
  rw [hx0] at cx0
  rw [hxl] at cxl
  have HN := hide hn0
  have HTS := hide ts7
  clear hx0 hxl ts7 o7 i6 x6 x7 y7 lx5 ly lz sx5 sy sz b7 b5 b3 hB5 hT5 hB hT
  generalize hm : (spots l 0).length = m at *
  generalize hnn : (EE l).length = n at *
  have HM := hide hm
  have HNN := hide hnn
  clear hm hnn
  have z1 : decide (n = 0) = false := by simp; omega
  have z2 : ((n : Int) - 1) = (m : Int) := by omega
  go_wp2_with fail
  subst hn0
  have hcap : l.length ≤ cap := (unhide HTS).b.1
  go_loopw [9] (fun i wx => ∃ k : Nat, k ≤ m + 1 ∧ i = .int .i64 k ∧ Hid (TS w a0 cap l g1 g2 g3 wx)) (fun i _ => m + 1 - (intOf i).toNat)
  case atStart => exact ⟨0, Nat.zero_le _, rfl, HTS⟩
  case round =>
    obtain ⟨k, hk, rfl, hts⟩ := hrel
    clear cx0 cxl HTS
    by_cases hlt : k < m + 1
    · obtain ⟨X, Z, hX, hZ, hF, hTK, hUT, hED, hY⟩ := round_facts w a0 cap l g1 g2 g3 (unhide HLB) hl k (by rw [unhide HNN]; exact hlt)
      have HTK := hide hTK
      have HUT := hide hUT
      have HED := hide hED
      clear hTK hUT hED
      have hXc : (X : Int) ≤ (cap : Int) := by omega
      have t2 : decide ((l.length : Int) < (X : Int)) = false := by simp; omega
      have t5 : ¬ l.length < X := by omega
      rcases k with _ | j
      · have HF := hide hF
        clear hF hY
        go_upto_region 11 with fail
        have ts1 := (unhide hts).on (drew_below _ wr)
        have HS1 : Hid ((fun w' => w'.cell? ⟨g1, 0, none⟩ = some (.int .i64 (X : Int)) ∧ w'.cell? ⟨g2, 0, none⟩ = some (.int .i64 (0 : Int)) ∧ w'.cell? ⟨g3, 0, none⟩ = some (.int .i64 (Z : Int))) wr.drew) := hide (unhide HF _ ts1)
        refine regionL (S := fun w' => w'.cell? ⟨g1, 0, none⟩ = some (.int .i64 (X : Int)) ∧ w'.cell? ⟨g2, 0, none⟩ = some (.int .i64 (0 : Int)) ∧ w'.cell? ⟨g3, 0, none⟩ = some (.int .i64 (Z : Int))) (fun _ => false) (by kernel_rfl) ?_
        refine anyL_take (i := 0) (v := ?vq0) rfl (by kernel_rfl) (by kernel_rfl) (by kernel_rfl) (by kernel_rfl) (fun _ _ _ h => h) (Or.inl ⟨by rfl, ?hq0⟩) (unhide HS1) ?_
        case hq0 => (intro w hSw; (try dsimp only at hSw); go_simp) <;> with_reducible rfl
        simp only [Act.put, List.getElem_toArray, List.getElem_cons_zero, List.setIfInBounds_toArray, List.set_cons_zero, List.set_cons_succ]
        refine anyL_take (i := 1) (v := ?vq1) rfl (by kernel_rfl) (by kernel_rfl) (by kernel_rfl) (by kernel_rfl) (fun _ _ _ h => h) (Or.inl ⟨by rfl, ?hq1⟩) (unhide HS1) ?_
        case hq1 => (intro w hSw; (try dsimp only at hSw); go_simp) <;> with_reducible rfl
        simp only [Act.put, List.getElem_toArray, List.getElem_cons_zero, List.getElem_cons_succ, List.setIfInBounds_toArray, List.set_cons_zero, List.set_cons_succ]
        refine anyL_take (i := 2) (v := ?vq2) rfl (by kernel_rfl) (by kernel_rfl) (by kernel_rfl) (by kernel_rfl) (fun _ _ _ h => h) (Or.inl ⟨by rfl, ?hq2⟩) (unhide HS1) ?_
        case hq2 => (intro w hSw; (try dsimp only at hSw); go_simp) <;> with_reducible rfl
        simp only [Act.put, List.getElem_toArray, List.getElem_cons_zero, List.getElem_cons_succ, List.setIfInBounds_toArray, List.set_cons_zero, List.set_cons_succ]
        refine anyL_take (i := 3) (v := undef) rfl (by kernel_rfl) (by kernel_rfl) (by kernel_rfl) (by kernel_rfl) (fun _ _ _ h => h) (Or.inr ⟨by rfl, rfl⟩) (unhide HS1) ?_
        simp only [Act.put, List.getElem_toArray, List.getElem_cons_zero, List.getElem_cons_succ, List.setIfInBounds_toArray, List.set_cons_zero, List.set_cons_succ]
        refine anyL_take (i := 4) (v := undef) rfl (by kernel_rfl) (by kernel_rfl) (by kernel_rfl) (by kernel_rfl) (fun _ _ _ h => h) (Or.inr ⟨by rfl, rfl⟩) (unhide HS1) ?_
        simp only [Act.put, List.getElem_toArray, List.getElem_cons_zero, List.getElem_cons_succ, List.setIfInBounds_toArray, List.set_cons_zero, List.set_cons_succ]
        refine anyL_take (i := 5) (v := undef) rfl (by kernel_rfl) (by kernel_rfl) (by kernel_rfl) (by kernel_rfl) (fun _ _ _ h => h) (Or.inr ⟨by rfl, rfl⟩) (unhide HS1) ?_
        simp only [Act.put, List.getElem_toArray, List.getElem_cons_zero, List.getElem_cons_succ, List.setIfInBounds_toArray, List.set_cons_zero, List.set_cons_succ]
        refine anyL_take (i := 6) (v := undef) rfl (by kernel_rfl) (by kernel_rfl) (by kernel_rfl) (by kernel_rfl) (fun _ _ _ h => h) (Or.inr ⟨by rfl, rfl⟩) (unhide HS1) ?_
        simp only [Act.put, List.getElem_toArray, List.getElem_cons_zero, List.getElem_cons_succ, List.setIfInBounds_toArray, List.set_cons_zero, List.set_cons_succ]
        refine anyL_take (i := 7) (v := undef) rfl (by kernel_rfl) (by kernel_rfl) (by kernel_rfl) (by kernel_rfl) (fun _ _ _ h => h) (Or.inr ⟨by rfl, rfl⟩) (unhide HS1) ?_
        simp only [Act.put, List.getElem_toArray, List.getElem_cons_zero, List.getElem_cons_succ, List.setIfInBounds_toArray, List.set_cons_zero, List.set_cons_succ]
        refine anyL_take (i := 8) (v := undef) rfl (by kernel_rfl) (by kernel_rfl) (by kernel_rfl) (by kernel_rfl) (fun _ _ _ h => h) (Or.inr ⟨by rfl, rfl⟩) (unhide HS1) ?_
        simp only [Act.put, List.getElem_toArray, List.getElem_cons_zero, List.getElem_cons_succ, List.setIfInBounds_toArray, List.set_cons_zero, List.set_cons_succ]
        refine anyL_take (i := 9) (v := undef) rfl (by kernel_rfl) (by kernel_rfl) (by kernel_rfl) (by kernel_rfl) (fun _ _ _ h => h) (Or.inr ⟨by rfl, rfl⟩) (unhide HS1) ?_
        simp only [Act.put, List.getElem_toArray, List.getElem_cons_zero, List.getElem_cons_succ, List.setIfInBounds_toArray, List.set_cons_zero, List.set_cons_succ]
        refine anyL_take (i := 10) (v := undef) rfl (by kernel_rfl) (by kernel_rfl) (by kernel_rfl) (by kernel_rfl) (fun _ _ _ h => h) (Or.inr ⟨by rfl, rfl⟩) (unhide HS1) ?_
        simp only [Act.put, List.getElem_toArray, List.getElem_cons_zero, List.getElem_cons_succ, List.setIfInBounds_toArray, List.set_cons_zero, List.set_cons_succ]
        refine anyL_take (i := 11) (v := undef) rfl (by kernel_rfl) (by kernel_rfl) (by kernel_rfl) (by kernel_rfl) (fun _ _ _ h => h) (Or.inr ⟨by rfl, rfl⟩) (unhide HS1) ?_
        simp only [Act.put, List.getElem_toArray, List.getElem_cons_zero, List.getElem_cons_succ, List.setIfInBounds_toArray, List.set_cons_zero, List.set_cons_succ]
        refine anyL_take (i := 12) (v := undef) rfl (by kernel_rfl) (by kernel_rfl) (by kernel_rfl) (by kernel_rfl) (fun _ _ _ h => h) (Or.inr ⟨by rfl, rfl⟩) (unhide HS1) ?_
        simp only [Act.put, List.getElem_toArray, List.getElem_cons_zero, List.getElem_cons_succ, List.setIfInBounds_toArray, List.set_cons_zero, List.set_cons_succ]
        refine anyL_take (i := 13) (v := ?vq13) rfl (by kernel_rfl) (by kernel_rfl) (by kernel_rfl) (by kernel_rfl) (fun _ _ _ h => h) (Or.inl ⟨by rfl, ?hq13⟩) (unhide HS1) ?_
        case hq13 => (intro w hSw; (try dsimp only at hSw); go_simp) <;> with_reducible rfl
        simp only [Act.put, List.getElem_toArray, List.getElem_cons_zero, List.getElem_cons_succ, List.setIfInBounds_toArray, List.set_cons_zero, List.set_cons_succ]
        refine anyL_take (i := 14) (v := ?vq14) rfl (by kernel_rfl) (by kernel_rfl) (by kernel_rfl) (by kernel_rfl) (fun _ _ _ h => h) (Or.inl ⟨by rfl, ?hq14⟩) (unhide HS1) ?_
        case hq14 => (intro w hSw; (try dsimp only at hSw); go_simp) <;> with_reducible rfl
        simp only [Act.put, List.getElem_toArray, List.getElem_cons_zero, List.getElem_cons_succ, List.setIfInBounds_toArray, List.set_cons_zero, List.set_cons_succ]
        refine anyL_take (i := 15) (v := ?vq15) rfl (by kernel_rfl) (by kernel_rfl) (by kernel_rfl) (by kernel_rfl) (fun _ _ _ h => h) (Or.inl ⟨by rfl, ?hq15⟩) (unhide HS1) ?_
        case hq15 => (intro w hSw; (try dsimp only at hSw); go_simp) <;> with_reducible rfl
        simp only [Act.put, List.getElem_toArray, List.getElem_cons_zero, List.getElem_cons_succ, List.setIfInBounds_toArray, List.set_cons_zero, List.set_cons_succ]
        refine anyL_take (i := 16) (v := ?vq16) rfl (by kernel_rfl) (by kernel_rfl) (by kernel_rfl) (by kernel_rfl) (fun _ _ _ h => h) (Or.inl ⟨by rfl, ?hq16⟩) (unhide HS1) ?_
        case hq16 => (intro w hSw; (try dsimp only at hSw); go_simp) <;> with_reducible rfl
        simp only [Act.put, List.getElem_toArray, List.getElem_cons_zero, List.getElem_cons_succ, List.setIfInBounds_toArray, List.set_cons_zero, List.set_cons_succ]
        refine anyL_take (i := 17) (v := ?vq17) rfl (by kernel_rfl) (by kernel_rfl) (by kernel_rfl) (by kernel_rfl) (fun _ _ _ h => h) (Or.inl ⟨by rfl, ?hq17⟩) (unhide HS1) ?_
        case hq17 => (intro w hSw; (try dsimp only at hSw); go_simp) <;> with_reducible rfl
        simp only [Act.put, List.getElem_toArray, List.getElem_cons_zero, List.getElem_cons_succ, List.setIfInBounds_toArray, List.set_cons_zero, List.set_cons_succ]
        refine anyL_take (i := 18) (v := ?vq18) rfl (by kernel_rfl) (by kernel_rfl) (by kernel_rfl) (by kernel_rfl) (fun _ _ _ h => h) (Or.inl ⟨by rfl, ?hq18⟩) (unhide HS1) ?_
        case hq18 => (intro w hSw; (try dsimp only at hSw); go_simp) <;> with_reducible rfl
        simp only [Act.put, List.getElem_toArray, List.getElem_cons_zero, List.getElem_cons_succ, List.setIfInBounds_toArray, List.set_cons_zero, List.set_cons_succ]
        refine anyL_take (i := 19) (v := ?vq19) rfl (by kernel_rfl) (by kernel_rfl) (by kernel_rfl) (by kernel_rfl) (fun _ _ _ h => h) (Or.inl ⟨by rfl, ?hq19⟩) (unhide HS1) ?_
        case hq19 => (intro w hSw; (try dsimp only at hSw); go_simp) <;> with_reducible rfl
        simp only [Act.put, List.getElem_toArray, List.getElem_cons_zero, List.getElem_cons_succ, List.setIfInBounds_toArray, List.set_cons_zero, List.set_cons_succ]
        refine anyL_take (i := 20) (v := ?vq20) rfl (by kernel_rfl) (by kernel_rfl) (by kernel_rfl) (by kernel_rfl) (fun _ _ _ h => h) (Or.inl ⟨by rfl, ?hq20⟩) (unhide HS1) ?_
        case hq20 => (intro w hSw; (try dsimp only at hSw); go_simp) <;> with_reducible rfl
        simp only [Act.put, List.getElem_toArray, List.getElem_cons_zero, List.getElem_cons_succ, List.setIfInBounds_toArray, List.set_cons_zero, List.set_cons_succ]
        refine anyL_take (i := 21) (v := ?vq21) rfl (by kernel_rfl) (by kernel_rfl) (by kernel_rfl) (by kernel_rfl) (fun _ _ _ h => h) (Or.inl ⟨by rfl, ?hq21⟩) (unhide HS1) ?_
        case hq21 => (intro w hSw; (try dsimp only at hSw); go_simp) <;> with_reducible rfl
        simp only [Act.put, List.getElem_toArray, List.getElem_cons_zero, List.getElem_cons_succ, List.setIfInBounds_toArray, List.set_cons_zero, List.set_cons_succ]
        refine anyL_take (i := 22) (v := ?vq22) rfl (by kernel_rfl) (by kernel_rfl) (by kernel_rfl) (by kernel_rfl) (fun _ _ _ h => h) (Or.inl ⟨by rfl, ?hq22⟩) (unhide HS1) ?_
        case hq22 => (intro w hSw; (try dsimp only at hSw); go_simp) <;> with_reducible rfl
        simp only [Act.put, List.getElem_toArray, List.getElem_cons_zero, List.getElem_cons_succ, List.setIfInBounds_toArray, List.set_cons_zero, List.set_cons_succ]
        refine anyL_take (i := 23) (v := ?vq23) rfl (by kernel_rfl) (by kernel_rfl) (by kernel_rfl) (by kernel_rfl) (fun _ _ _ h => h) (Or.inl ⟨by rfl, ?hq23⟩) (unhide HS1) ?_
        case hq23 => (intro w hSw; (try dsimp only at hSw); go_simp) <;> with_reducible rfl
        simp only [Act.put, List.getElem_toArray, List.getElem_cons_zero, List.getElem_cons_succ, List.setIfInBounds_toArray, List.set_cons_zero, List.set_cons_succ]
        refine anyL_take (i := 24) (v := ?vq24) rfl (by kernel_rfl) (by kernel_rfl) (by kernel_rfl) (by kernel_rfl) (fun _ _ _ h => h) (Or.inl ⟨by rfl, ?hq24⟩) (unhide HS1) ?_
        case hq24 => (intro w hSw; (try dsimp only at hSw); go_simp) <;> with_reducible rfl
        simp only [Act.put, List.getElem_toArray, List.getElem_cons_zero, List.getElem_cons_succ, List.setIfInBounds_toArray, List.set_cons_zero, List.set_cons_succ]
        refine anyL_take (i := 25) (v := ?vq25) rfl (by kernel_rfl) (by kernel_rfl) (by kernel_rfl) (by kernel_rfl) (fun _ _ _ h => h) (Or.inl ⟨by rfl, ?hq25⟩) (unhide HS1) ?_
        case hq25 => (intro w hSw; (try dsimp only at hSw); go_simp) <;> with_reducible rfl
        simp only [Act.put, List.getElem_toArray, List.getElem_cons_zero, List.getElem_cons_succ, List.setIfInBounds_toArray, List.set_cons_zero, List.set_cons_succ]
        refine anyL_take (i := 26) (v := ?vq26) rfl (by kernel_rfl) (by kernel_rfl) (by kernel_rfl) (by kernel_rfl) (fun _ _ _ h => h) (Or.inl ⟨by rfl, ?hq26⟩) (unhide HS1) ?_
        case hq26 => (intro w hSw; (try dsimp only at hSw); go_simp) <;> with_reducible rfl
        simp only [Act.put, List.getElem_toArray, List.getElem_cons_zero, List.getElem_cons_succ, List.setIfInBounds_toArray, List.set_cons_zero, List.set_cons_succ]
        refine anyL_take (i := 27) (v := ?vq27) rfl (by kernel_rfl) (by kernel_rfl) (by kernel_rfl) (by kernel_rfl) (fun _ _ _ h => h) (Or.inl ⟨by rfl, ?hq27⟩) (unhide HS1) ?_
        case hq27 => (intro w hSw; (try dsimp only at hSw); go_simp) <;> with_reducible rfl
        simp only [Act.put, List.getElem_toArray, List.getElem_cons_zero, List.getElem_cons_succ, List.setIfInBounds_toArray, List.set_cons_zero, List.set_cons_succ]
        refine anyL_take (i := 28) (v := ?vq28) rfl (by kernel_rfl) (by kernel_rfl) (by kernel_rfl) (by kernel_rfl) (fun _ _ _ h => h) (Or.inl ⟨by rfl, ?hq28⟩) (unhide HS1) ?_
        case hq28 => (intro w hSw; (try dsimp only at hSw); go_simp) <;> with_reducible rfl
        simp only [Act.put, List.getElem_toArray, List.getElem_cons_zero, List.getElem_cons_succ, List.setIfInBounds_toArray, List.set_cons_zero, List.set_cons_succ]
        refine anyL_take (i := 29) (v := ?vq29) rfl (by kernel_rfl) (by kernel_rfl) (by kernel_rfl) (by kernel_rfl) (fun _ _ _ h => h) (Or.inl ⟨by rfl, ?hq29⟩) (unhide HS1) ?_
        case hq29 => (intro w hSw; (try dsimp only at hSw); go_simp) <;> with_reducible rfl
        simp only [Act.put, List.getElem_toArray, List.getElem_cons_zero, List.getElem_cons_succ, List.setIfInBounds_toArray, List.set_cons_zero, List.set_cons_succ]
        refine anyL_take (i := 30) (v := ?vq30) rfl (by kernel_rfl) (by kernel_rfl) (by kernel_rfl) (by kernel_rfl) (fun _ _ _ h => h) (Or.inl ⟨by rfl, ?hq30⟩) (unhide HS1) ?_
        case hq30 => (intro w hSw; (try dsimp only at hSw); go_simp) <;> with_reducible rfl
        simp only [Act.put, List.getElem_toArray, List.getElem_cons_zero, List.getElem_cons_succ, List.setIfInBounds_toArray, List.set_cons_zero, List.set_cons_succ]
        refine anyL_take (i := 31) (v := ?vq31) rfl (by kernel_rfl) (by kernel_rfl) (by kernel_rfl) (by kernel_rfl) (fun _ _ _ h => h) (Or.inl ⟨by rfl, ?hq31⟩) (unhide HS1) ?_
        case hq31 => (intro w hSw; (try dsimp only at hSw); go_simp) <;> with_reducible rfl
        simp only [Act.put, List.getElem_toArray, List.getElem_cons_zero, List.getElem_cons_succ, List.setIfInBounds_toArray, List.set_cons_zero, List.set_cons_succ]
        refine anyL_take (i := 32) (v := ?vq32) rfl (by kernel_rfl) (by kernel_rfl) (by kernel_rfl) (by kernel_rfl) (fun _ _ _ h => h) (Or.inl ⟨by rfl, ?hq32⟩) (unhide HS1) ?_
        case hq32 => (intro w hSw; (try dsimp only at hSw); go_simp) <;> with_reducible rfl
        simp only [Act.put, List.getElem_toArray, List.getElem_cons_zero, List.getElem_cons_succ, List.setIfInBounds_toArray, List.set_cons_zero, List.set_cons_succ]
        refine anyL_take (i := 33) (v := ?vq33) rfl (by kernel_rfl) (by kernel_rfl) (by kernel_rfl) (by kernel_rfl) (fun _ _ _ h => h) (Or.inl ⟨by rfl, ?hq33⟩) (unhide HS1) ?_
        case hq33 => (intro w hSw; (try dsimp only at hSw); go_simp) <;> with_reducible rfl
        simp only [Act.put, List.getElem_toArray, List.getElem_cons_zero, List.getElem_cons_succ, List.setIfInBounds_toArray, List.set_cons_zero, List.set_cons_succ]
        refine anyL_take (i := 34) (v := ?vq34) rfl (by kernel_rfl) (by kernel_rfl) (by kernel_rfl) (by kernel_rfl) (fun _ _ _ h => h) (Or.inl ⟨by rfl, ?hq34⟩) (unhide HS1) ?_
        case hq34 => (intro w hSw; (try dsimp only at hSw); go_simp) <;> with_reducible rfl
        simp only [Act.put, List.getElem_toArray, List.getElem_cons_zero, List.getElem_cons_succ, List.setIfInBounds_toArray, List.set_cons_zero, List.set_cons_succ]
        refine anyL_take (i := 35) (v := ?vq35) rfl (by kernel_rfl) (by kernel_rfl) (by kernel_rfl) (by kernel_rfl) (fun _ _ _ h => h) (Or.inl ⟨by rfl, ?hq35⟩) (unhide HS1) ?_
        case hq35 => (intro w hSw; (try dsimp only at hSw); go_simp) <;> with_reducible rfl
        simp only [Act.put, List.getElem_toArray, List.getElem_cons_zero, List.getElem_cons_succ, List.setIfInBounds_toArray, List.set_cons_zero, List.set_cons_succ]
        refine anyL_take (i := 36) (v := ?vq36) rfl (by kernel_rfl) (by kernel_rfl) (by kernel_rfl) (by kernel_rfl) (fun _ _ _ h => h) (Or.inl ⟨by rfl, ?hq36⟩) (unhide HS1) ?_
        case hq36 => (intro w hSw; (try dsimp only at hSw); go_simp) <;> with_reducible rfl
        simp only [Act.put, List.getElem_toArray, List.getElem_cons_zero, List.getElem_cons_succ, List.setIfInBounds_toArray, List.set_cons_zero, List.set_cons_succ]
        refine anyL_take (i := 37) (v := ?vq37) rfl (by kernel_rfl) (by kernel_rfl) (by kernel_rfl) (by kernel_rfl) (fun _ _ _ h => h) (Or.inl ⟨by rfl, ?hq37⟩) (unhide HS1) ?_
        case hq37 => (intro w hSw; (try dsimp only at hSw); go_simp) <;> with_reducible rfl
        simp only [Act.put, List.getElem_toArray, List.getElem_cons_zero, List.getElem_cons_succ, List.setIfInBounds_toArray, List.set_cons_zero, List.set_cons_succ]
        refine anyL_take (i := 38) (v := ?vq38) rfl (by kernel_rfl) (by kernel_rfl) (by kernel_rfl) (by kernel_rfl) (fun _ _ _ h => h) (Or.inl ⟨by rfl, ?hq38⟩) (unhide HS1) ?_
        case hq38 => (intro w hSw; (try dsimp only at hSw); go_simp) <;> with_reducible rfl
        simp only [Act.put, List.getElem_toArray, List.getElem_cons_zero, List.getElem_cons_succ, List.setIfInBounds_toArray, List.set_cons_zero, List.set_cons_succ]
        refine anyL_take (i := 39) (v := ?vq39) rfl (by kernel_rfl) (by kernel_rfl) (by kernel_rfl) (by kernel_rfl) (fun _ _ _ h => h) (Or.inl ⟨by rfl, ?hq39⟩) (unhide HS1) ?_
        case hq39 => (intro w hSw; (try dsimp only at hSw); go_simp) <;> with_reducible rfl
        simp only [Act.put, List.getElem_toArray, List.getElem_cons_zero, List.getElem_cons_succ, List.setIfInBounds_toArray, List.set_cons_zero, List.set_cons_succ]
        refine anyL_take (i := 40) (v := ?vq40) rfl (by kernel_rfl) (by kernel_rfl) (by kernel_rfl) (by kernel_rfl) (fun _ _ _ h => h) (Or.inl ⟨by rfl, ?hq40⟩) (unhide HS1) ?_
        case hq40 => (intro w hSw; (try dsimp only at hSw); go_simp) <;> with_reducible rfl
        simp only [Act.put, List.getElem_toArray, List.getElem_cons_zero, List.getElem_cons_succ, List.setIfInBounds_toArray, List.set_cons_zero, List.set_cons_succ]
        refine anyL_take (i := 41) (v := ?vq41) rfl (by kernel_rfl) (by kernel_rfl) (by kernel_rfl) (by kernel_rfl) (fun _ _ _ h => h) (Or.inl ⟨by rfl, ?hq41⟩) (unhide HS1) ?_
        case hq41 => (intro w hSw; (try dsimp only at hSw); go_simp) <;> with_reducible rfl
        simp only [Act.put, List.getElem_toArray, List.getElem_cons_zero, List.getElem_cons_succ, List.setIfInBounds_toArray, List.set_cons_zero, List.set_cons_succ]
        refine anyL_ready (rs := [42]) (by kernel_rfl) (by simp) ?_
        refine AllL.cons rfl (fun K hK => ?_) AllL.nil
        go_simp
        refine (unhide HTK _ ts1.b).mono ?_
        rintro e u2 ⟨a2, c2, rfl, i2, x2⟩
        have ts2 := ts1.on x2
        have HS2 : Hid ((fun w' => w'.cell? ⟨g1, 0, none⟩ = some (.int .i64 (X : Int)) ∧ w'.cell? ⟨g2, 0, none⟩ = some (.int .i64 (0 : Int)) ∧ w'.cell? ⟨g3, 0, none⟩ = some (.int .i64 (Z : Int))) u2) := hide (unhide HF _ ts2)
        refine unhide hK _ _ (fun _ => unhide HS2) ?_
        clear hK K ts1 x2 HS1
        refine anyL_ready (rs := [43]) (by kernel_rfl) (by simp) ?_
        refine AllL.cons rfl (fun K hK => ?_) AllL.nil
        go_simp
        refine (unhide HUT _ a2 c2 i2).mono ?_
        rintro e u3 ⟨a3, c3, rfl, x3⟩
        have ts3 := ts2.on x3
        have HS3 : Hid ((fun w' => w'.cell? ⟨g1, 0, none⟩ = some (.int .i64 (X : Int)) ∧ w'.cell? ⟨g2, 0, none⟩ = some (.int .i64 (0 : Int)) ∧ w'.cell? ⟨g3, 0, none⟩ = some (.int .i64 (Z : Int))) u3) := hide (unhide HF _ ts3)
        refine unhide hK _ _ (fun _ => unhide HS3) ?_
        clear hK K ts2 x3 HS2
        refine anyL_take (i := 44) (v := ?vq42) rfl (by kernel_rfl) (by kernel_rfl) (by kernel_rfl) (by kernel_rfl) (fun _ _ _ h => h) (Or.inl ⟨by rfl, ?hq42⟩) (unhide HS3) ?_
        case hq42 => (intro w hSw; (try dsimp only at hSw); go_simp) <;> with_reducible rfl
        simp only [Act.put, List.getElem_toArray, List.getElem_cons_zero, List.getElem_cons_succ, List.setIfInBounds_toArray, List.set_cons_zero, List.set_cons_succ]
        refine anyL_take (i := 45) (v := ?vq43) rfl (by kernel_rfl) (by kernel_rfl) (by kernel_rfl) (by kernel_rfl) (fun _ _ _ h => h) (Or.inl ⟨by rfl, ?hq43⟩) (unhide HS3) ?_
        case hq43 => (intro w hSw; (try dsimp only at hSw); go_simp) <;> with_reducible rfl
        simp only [Act.put, List.getElem_toArray, List.getElem_cons_zero, List.getElem_cons_succ, List.setIfInBounds_toArray, List.set_cons_zero, List.set_cons_succ]
        refine anyL_take (i := 46) (v := ?vq44) rfl (by kernel_rfl) (by kernel_rfl) (by kernel_rfl) (by kernel_rfl) (fun _ _ _ h => h) (Or.inl ⟨by rfl, ?hq44⟩) (unhide HS3) ?_
        case hq44 => (intro w hSw; (try dsimp only at hSw); go_simp) <;> with_reducible rfl
        simp only [Act.put, List.getElem_toArray, List.getElem_cons_zero, List.getElem_cons_succ, List.setIfInBounds_toArray, List.set_cons_zero, List.set_cons_succ]
        refine anyL_take (i := 47) (v := ?vq45) rfl (by kernel_rfl) (by kernel_rfl) (by kernel_rfl) (by kernel_rfl) (fun _ _ _ h => h) (Or.inl ⟨by rfl, ?hq45⟩) (unhide HS3) ?_
        case hq45 => (intro w hSw; (try dsimp only at hSw); go_simp) <;> with_reducible rfl
        simp only [Act.put, List.getElem_toArray, List.getElem_cons_zero, List.getElem_cons_succ, List.setIfInBounds_toArray, List.set_cons_zero, List.set_cons_succ]
        refine anyL_take (i := 48) (v := ?vq46) rfl (by kernel_rfl) (by kernel_rfl) (by kernel_rfl) (by kernel_rfl) (fun _ _ _ h => h) (Or.inl ⟨by rfl, ?hq46⟩) (unhide HS3) ?_
        case hq46 => (intro w hSw; (try dsimp only at hSw); go_simp) <;> with_reducible rfl
        simp only [Act.put, List.getElem_toArray, List.getElem_cons_zero, List.getElem_cons_succ, List.setIfInBounds_toArray, List.set_cons_zero, List.set_cons_succ]
        refine anyL_take (i := 50) (v := ?vq47) rfl (by kernel_rfl) (by kernel_rfl) (by kernel_rfl) (by kernel_rfl) (fun _ _ _ h => h) (Or.inl ⟨by rfl, ?hq47⟩) (unhide HS3) ?_
        case hq47 => (intro w hSw; (try dsimp only at hSw); go_simp) <;> with_reducible rfl
        simp only [Act.put, List.getElem_toArray, List.getElem_cons_zero, List.getElem_cons_succ, List.setIfInBounds_toArray, List.set_cons_zero, List.set_cons_succ]
        refine anyL_take (i := 51) (v := ?vq48) rfl (by kernel_rfl) (by kernel_rfl) (by kernel_rfl) (by kernel_rfl) (fun _ _ _ h => h) (Or.inl ⟨by rfl, ?hq48⟩) (unhide HS3) ?_
        case hq48 => (intro w hSw; (try dsimp only at hSw); go_simp) <;> with_reducible rfl
        simp only [Act.put, List.getElem_toArray, List.getElem_cons_zero, List.getElem_cons_succ, List.setIfInBounds_toArray, List.set_cons_zero, List.set_cons_succ]
        refine anyL_take (i := 52) (v := ?vq49) rfl (by kernel_rfl) (by kernel_rfl) (by kernel_rfl) (by kernel_rfl) (fun _ _ _ h => h) (Or.inl ⟨by rfl, ?hq49⟩) (unhide HS3) ?_
        case hq49 => (intro w hSw; (try dsimp only at hSw); go_simp) <;> with_reducible rfl
        simp only [Act.put, List.getElem_toArray, List.getElem_cons_zero, List.getElem_cons_succ, List.setIfInBounds_toArray, List.set_cons_zero, List.set_cons_succ]
        refine anyL_take (i := 53) (v := ?vq50) rfl (by kernel_rfl) (by kernel_rfl) (by kernel_rfl) (by kernel_rfl) (fun _ _ _ h => h) (Or.inl ⟨by rfl, ?hq50⟩) (unhide HS3) ?_
        case hq50 => (intro w hSw; (try dsimp only at hSw); go_simp) <;> with_reducible rfl
        simp only [Act.put, List.getElem_toArray, List.getElem_cons_zero, List.getElem_cons_succ, List.setIfInBounds_toArray, List.set_cons_zero, List.set_cons_succ]
        refine anyL_ready (rs := [49]) (by kernel_rfl) (by simp) ?_
        refine AllL.cons rfl (fun K hK => ?_) AllL.nil
        go_simp
        refine (own_at a0 cap l u3 ts3.b).mono ?_
        rintro e u4 ⟨a4, c4, rfl, i4, x4⟩
        have ts4 := ts3.on x4
        have HS4 : Hid ((fun w' => w'.cell? ⟨g1, 0, none⟩ = some (.int .i64 (X : Int)) ∧ w'.cell? ⟨g2, 0, none⟩ = some (.int .i64 (0 : Int)) ∧ w'.cell? ⟨g3, 0, none⟩ = some (.int .i64 (Z : Int))) u4) := hide (unhide HF _ ts4)
        refine unhide hK _ _ (fun _ => unhide HS4) ?_
        clear hK K ts3 x4 HS3
        refine anyL_ready (rs := [54]) (by kernel_rfl) (by simp) ?_
        refine AllL.cons rfl (fun K hK => ?_) AllL.nil
        go_simp
        refine (unhide HED _ a4 c4 i4 ts4.t).mono ?_
        rintro e u5 ⟨rfl, x5⟩
        have ts5 := ts4.on x5
        have HS5 : Hid ((fun w' => w'.cell? ⟨g1, 0, none⟩ = some (.int .i64 (X : Int)) ∧ w'.cell? ⟨g2, 0, none⟩ = some (.int .i64 (0 : Int)) ∧ w'.cell? ⟨g3, 0, none⟩ = some (.int .i64 (Z : Int))) u5) := hide (unhide HF _ ts5)
        refine unhide hK _ _ (fun _ => unhide HS5) ?_
        clear hK K ts4 x5 HS4
        refine anyL_take (i := 55) (v := ?vq51) rfl (by kernel_rfl) (by kernel_rfl) (by kernel_rfl) (by kernel_rfl) (fun _ _ _ h => h) (Or.inl ⟨by rfl, ?hq51⟩) (unhide HS5) ?_
        case hq51 => (intro w hSw; (try dsimp only at hSw); go_simp) <;> with_reducible rfl
        simp only [Act.put, List.getElem_toArray, List.getElem_cons_zero, List.getElem_cons_succ, List.setIfInBounds_toArray, List.set_cons_zero, List.set_cons_succ]
        refine anyL_take (i := 56) (v := ?vq52) rfl (by kernel_rfl) (by kernel_rfl) (by kernel_rfl) (by kernel_rfl) (fun _ _ _ h => h) (Or.inl ⟨by rfl, ?hq52⟩) (unhide HS5) ?_
        case hq52 => (intro w hSw; (try dsimp only at hSw); go_simp) <;> with_reducible rfl
        simp only [Act.put, List.getElem_toArray, List.getElem_cons_zero, List.getElem_cons_succ, List.setIfInBounds_toArray, List.set_cons_zero, List.set_cons_succ]
        refine anyL_done (by kernel_rfl) ?_ _
        go_wp2
        go_roundw
        case rel => exact ⟨1, by omega, rfl⟩
        case measure => simp [intOf]
      · obtain ⟨Y, hYX, hYc⟩ := hY j rfl
        have t1 : decide ((X : Int) ≤ (Y : Int)) = false := by simp; omega
        have t7 : (0 : Int) ≤ (j : Int) + 1 := by omega
        have t3 : (0 : Int) < (j : Int) + 1 := by omega
        have t8 : (j : Int) + 1 < (m : Int) + 1 := by omega
        have t9 : (j : Int) < (m : Int) + 1 := by omega
        have t10 : IntKind.i64.wrap (j : Int) = (j : Int) := by rw [IntKind.wrap_i64]; omega
        have t4 : ((j + 1 : Nat) : Int) - 1 = (j : Int) := by omega
        have t6 : ¬ X ≤ Y := by omega
        have HF := hide (fun W (h : TS w a0 cap l g1 g2 g3 W) => (⟨(hF W h).1, (hF W h).2.1, (hF W h).2.2, hYc W h⟩ : _ ∧ _ ∧ _ ∧ _))
        clear hF hYc
        go_upto_region 11 with fail
        have ts1 := (unhide hts).on (drew_below _ wr)
        have HS1 : Hid ((fun w' => w'.cell? ⟨g1, (j + 1), none⟩ = some (.int .i64 (X : Int)) ∧ w'.cell? ⟨g2, (j + 1), none⟩ = some (.int .i64 (((j + 1 : Nat) : Int) : Int)) ∧ w'.cell? ⟨g3, (j + 1), none⟩ = some (.int .i64 (Z : Int)) ∧ w'.cell? ⟨g1, j, none⟩ = some (.int .i64 (Y : Int))) wr.drew) := hide (unhide HF _ ts1)
        refine regionL (S := fun w' => w'.cell? ⟨g1, (j + 1), none⟩ = some (.int .i64 (X : Int)) ∧ w'.cell? ⟨g2, (j + 1), none⟩ = some (.int .i64 (((j + 1 : Nat) : Int) : Int)) ∧ w'.cell? ⟨g3, (j + 1), none⟩ = some (.int .i64 (Z : Int)) ∧ w'.cell? ⟨g1, j, none⟩ = some (.int .i64 (Y : Int))) (fun _ => false) (by kernel_rfl) ?_
        refine anyL_take (i := 0) (v := ?vq53) rfl (by kernel_rfl) (by kernel_rfl) (by kernel_rfl) (by kernel_rfl) (fun _ _ _ h => h) (Or.inl ⟨by rfl, ?hq53⟩) (unhide HS1) ?_
        case hq53 => (intro w hSw; (try dsimp only at hSw); go_simp) <;> with_reducible rfl
        simp only [Act.put, List.getElem_toArray, List.getElem_cons_zero, List.setIfInBounds_toArray, List.set_cons_zero, List.set_cons_succ]
        refine anyL_take (i := 1) (v := ?vq54) rfl (by kernel_rfl) (by kernel_rfl) (by kernel_rfl) (by kernel_rfl) (fun _ _ _ h => h) (Or.inl ⟨by rfl, ?hq54⟩) (unhide HS1) ?_
        case hq54 => (intro w hSw; (try dsimp only at hSw); go_simp) <;> with_reducible rfl
        simp only [Act.put, List.getElem_toArray, List.getElem_cons_zero, List.getElem_cons_succ, List.setIfInBounds_toArray, List.set_cons_zero, List.set_cons_succ]
        refine anyL_take (i := 2) (v := ?vq55) rfl (by kernel_rfl) (by kernel_rfl) (by kernel_rfl) (by kernel_rfl) (fun _ _ _ h => h) (Or.inl ⟨by rfl, ?hq55⟩) (unhide HS1) ?_
        case hq55 => (intro w hSw; (try dsimp only at hSw); go_simp) <;> with_reducible rfl
        simp only [Act.put, List.getElem_toArray, List.getElem_cons_zero, List.getElem_cons_succ, List.setIfInBounds_toArray, List.set_cons_zero, List.set_cons_succ]
        refine anyL_take (i := 3) (v := ?vq56) rfl (by kernel_rfl) (by kernel_rfl) (by kernel_rfl) (by kernel_rfl) (fun _ _ _ h => h) (Or.inl ⟨by rfl, ?hq56⟩) (unhide HS1) ?_
        case hq56 => (intro w hSw; (try dsimp only at hSw); go_simp) <;> with_reducible rfl
        simp only [Act.put, List.getElem_toArray, List.getElem_cons_zero, List.getElem_cons_succ, List.setIfInBounds_toArray, List.set_cons_zero, List.set_cons_succ]
        refine anyL_take (i := 4) (v := ?vq57) rfl (by kernel_rfl) (by kernel_rfl) (by kernel_rfl) (by kernel_rfl) (fun _ _ _ h => h) (Or.inl ⟨by rfl, ?hq57⟩) (unhide HS1) ?_
        case hq57 => (intro w hSw; (try dsimp only at hSw); go_simp) <;> with_reducible rfl
        simp only [Act.put, List.getElem_toArray, List.getElem_cons_zero, List.getElem_cons_succ, List.setIfInBounds_toArray, List.set_cons_zero, List.set_cons_succ]
        refine anyL_take (i := 5) (v := ?vq58) rfl (by kernel_rfl) (by kernel_rfl) (by kernel_rfl) (by kernel_rfl) (fun _ _ _ h => h) (Or.inl ⟨by rfl, ?hq58⟩) (unhide HS1) ?_
        case hq58 => (intro w hSw; (try dsimp only at hSw); go_simp) <;> with_reducible rfl
        simp only [Act.put, List.getElem_toArray, List.getElem_cons_zero, List.getElem_cons_succ, List.setIfInBounds_toArray, List.set_cons_zero, List.set_cons_succ]
        refine anyL_take (i := 6) (v := ?vq59) rfl (by kernel_rfl) (by kernel_rfl) (by kernel_rfl) (by kernel_rfl) (fun _ _ _ h => h) (Or.inl ⟨by rfl, ?hq59⟩) (unhide HS1) ?_
        case hq59 => (intro w hSw; (try dsimp only at hSw); go_simp) <;> with_reducible rfl
        simp only [Act.put, List.getElem_toArray, List.getElem_cons_zero, List.getElem_cons_succ, List.setIfInBounds_toArray, List.set_cons_zero, List.set_cons_succ]
        refine anyL_take (i := 7) (v := ?vq60) rfl (by kernel_rfl) (by kernel_rfl) (by kernel_rfl) (by kernel_rfl) (fun _ _ _ h => h) (Or.inl ⟨by rfl, ?hq60⟩) (unhide HS1) ?_
        case hq60 => (intro w hSw; (try dsimp only at hSw); go_simp) <;> with_reducible rfl
        simp only [Act.put, List.getElem_toArray, List.getElem_cons_zero, List.getElem_cons_succ, List.setIfInBounds_toArray, List.set_cons_zero, List.set_cons_succ]
        refine anyL_take (i := 8) (v := ?vq61) rfl (by kernel_rfl) (by kernel_rfl) (by kernel_rfl) (by kernel_rfl) (fun _ _ _ h => h) (Or.inl ⟨by rfl, ?hq61⟩) (unhide HS1) ?_
        case hq61 => (intro w hSw; (try dsimp only at hSw); go_simp) <;> with_reducible rfl
        simp only [Act.put, List.getElem_toArray, List.getElem_cons_zero, List.getElem_cons_succ, List.setIfInBounds_toArray, List.set_cons_zero, List.set_cons_succ]
        refine anyL_take (i := 9) (v := ?vq62) rfl (by kernel_rfl) (by kernel_rfl) (by kernel_rfl) (by kernel_rfl) (fun _ _ _ h => h) (Or.inl ⟨by rfl, ?hq62⟩) (unhide HS1) ?_
        case hq62 => (intro w hSw; (try dsimp only at hSw); go_simp) <;> with_reducible rfl
        simp only [Act.put, List.getElem_toArray, List.getElem_cons_zero, List.getElem_cons_succ, List.setIfInBounds_toArray, List.set_cons_zero, List.set_cons_succ]
        refine anyL_take (i := 10) (v := ?vq63) rfl (by kernel_rfl) (by kernel_rfl) (by kernel_rfl) (by kernel_rfl) (fun _ _ _ h => h) (Or.inl ⟨by rfl, ?hq63⟩) (unhide HS1) ?_
        case hq63 => (intro w hSw; (try dsimp only at hSw); go_simp) <;> with_reducible rfl
        simp only [Act.put, List.getElem_toArray, List.getElem_cons_zero, List.getElem_cons_succ, List.setIfInBounds_toArray, List.set_cons_zero, List.set_cons_succ]
        refine anyL_take (i := 11) (v := ?vq64) rfl (by kernel_rfl) (by kernel_rfl) (by kernel_rfl) (by kernel_rfl) (fun _ _ _ h => h) (Or.inl ⟨by rfl, ?hq64⟩) (unhide HS1) ?_
        case hq64 => (intro w hSw; (try dsimp only at hSw); go_simp) <;> with_reducible rfl
        simp only [Act.put, List.getElem_toArray, List.getElem_cons_zero, List.getElem_cons_succ, List.setIfInBounds_toArray, List.set_cons_zero, List.set_cons_succ]
        refine anyL_take (i := 12) (v := ?vq65) rfl (by kernel_rfl) (by kernel_rfl) (by kernel_rfl) (by kernel_rfl) (fun _ _ _ h => h) (Or.inl ⟨by rfl, ?hq65⟩) (unhide HS1) ?_
        case hq65 => (intro w hSw; (try dsimp only at hSw); go_simp) <;> with_reducible rfl
        simp only [Act.put, List.getElem_toArray, List.getElem_cons_zero, List.getElem_cons_succ, List.setIfInBounds_toArray, List.set_cons_zero, List.set_cons_succ]
        refine anyL_take (i := 13) (v := ?vq66) rfl (by kernel_rfl) (by kernel_rfl) (by kernel_rfl) (by kernel_rfl) (fun _ _ _ h => h) (Or.inl ⟨by rfl, ?hq66⟩) (unhide HS1) ?_
        case hq66 => (intro w hSw; (try dsimp only at hSw); go_simp) <;> with_reducible rfl
        simp only [Act.put, List.getElem_toArray, List.getElem_cons_zero, List.getElem_cons_succ, List.setIfInBounds_toArray, List.set_cons_zero, List.set_cons_succ]
        refine anyL_take (i := 14) (v := ?vq67) rfl (by kernel_rfl) (by kernel_rfl) (by kernel_rfl) (by kernel_rfl) (fun _ _ _ h => h) (Or.inl ⟨by rfl, ?hq67⟩) (unhide HS1) ?_
        case hq67 => (intro w hSw; (try dsimp only at hSw); go_simp) <;> with_reducible rfl
        simp only [Act.put, List.getElem_toArray, List.getElem_cons_zero, List.getElem_cons_succ, List.setIfInBounds_toArray, List.set_cons_zero, List.set_cons_succ]
        refine anyL_take (i := 15) (v := ?vq68) rfl (by kernel_rfl) (by kernel_rfl) (by kernel_rfl) (by kernel_rfl) (fun _ _ _ h => h) (Or.inl ⟨by rfl, ?hq68⟩) (unhide HS1) ?_
        case hq68 => (intro w hSw; (try dsimp only at hSw); go_simp) <;> with_reducible rfl
        simp only [Act.put, List.getElem_toArray, List.getElem_cons_zero, List.getElem_cons_succ, List.setIfInBounds_toArray, List.set_cons_zero, List.set_cons_succ]
        refine anyL_take (i := 16) (v := ?vq69) rfl (by kernel_rfl) (by kernel_rfl) (by kernel_rfl) (by kernel_rfl) (fun _ _ _ h => h) (Or.inl ⟨by rfl, ?hq69⟩) (unhide HS1) ?_
        case hq69 => (intro w hSw; (try dsimp only at hSw); go_simp) <;> with_reducible rfl
        simp only [Act.put, List.getElem_toArray, List.getElem_cons_zero, List.getElem_cons_succ, List.setIfInBounds_toArray, List.set_cons_zero, List.set_cons_succ]
        refine anyL_take (i := 17) (v := ?vq70) rfl (by kernel_rfl) (by kernel_rfl) (by kernel_rfl) (by kernel_rfl) (fun _ _ _ h => h) (Or.inl ⟨by rfl, ?hq70⟩) (unhide HS1) ?_
        case hq70 => (intro w hSw; (try dsimp only at hSw); go_simp) <;> with_reducible rfl
        simp only [Act.put, List.getElem_toArray, List.getElem_cons_zero, List.getElem_cons_succ, List.setIfInBounds_toArray, List.set_cons_zero, List.set_cons_succ]
        refine anyL_take (i := 18) (v := ?vq71) rfl (by kernel_rfl) (by kernel_rfl) (by kernel_rfl) (by kernel_rfl) (fun _ _ _ h => h) (Or.inl ⟨by rfl, ?hq71⟩) (unhide HS1) ?_
        case hq71 => (intro w hSw; (try dsimp only at hSw); go_simp) <;> with_reducible rfl
        simp only [Act.put, List.getElem_toArray, List.getElem_cons_zero, List.getElem_cons_succ, List.setIfInBounds_toArray, List.set_cons_zero, List.set_cons_succ]
        refine anyL_take (i := 19) (v := ?vq72) rfl (by kernel_rfl) (by kernel_rfl) (by kernel_rfl) (by kernel_rfl) (fun _ _ _ h => h) (Or.inl ⟨by rfl, ?hq72⟩) (unhide HS1) ?_
        case hq72 => (intro w hSw; (try dsimp only at hSw); go_simp) <;> with_reducible rfl
        simp only [Act.put, List.getElem_toArray, List.getElem_cons_zero, List.getElem_cons_succ, List.setIfInBounds_toArray, List.set_cons_zero, List.set_cons_succ]
        refine anyL_take (i := 20) (v := ?vq73) rfl (by kernel_rfl) (by kernel_rfl) (by kernel_rfl) (by kernel_rfl) (fun _ _ _ h => h) (Or.inl ⟨by rfl, ?hq73⟩) (unhide HS1) ?_
        case hq73 => (intro w hSw; (try dsimp only at hSw); go_simp) <;> with_reducible rfl
        simp only [Act.put, List.getElem_toArray, List.getElem_cons_zero, List.getElem_cons_succ, List.setIfInBounds_toArray, List.set_cons_zero, List.set_cons_succ]
        refine anyL_take (i := 21) (v := ?vq74) rfl (by kernel_rfl) (by kernel_rfl) (by kernel_rfl) (by kernel_rfl) (fun _ _ _ h => h) (Or.inl ⟨by rfl, ?hq74⟩) (unhide HS1) ?_
        case hq74 => (intro w hSw; (try dsimp only at hSw); go_simp) <;> with_reducible rfl
        simp only [Act.put, List.getElem_toArray, List.getElem_cons_zero, List.getElem_cons_succ, List.setIfInBounds_toArray, List.set_cons_zero, List.set_cons_succ]
        refine anyL_take (i := 22) (v := ?vq75) rfl (by kernel_rfl) (by kernel_rfl) (by kernel_rfl) (by kernel_rfl) (fun _ _ _ h => h) (Or.inl ⟨by rfl, ?hq75⟩) (unhide HS1) ?_
        case hq75 => (intro w hSw; (try dsimp only at hSw); go_simp) <;> with_reducible rfl
        simp only [Act.put, List.getElem_toArray, List.getElem_cons_zero, List.getElem_cons_succ, List.setIfInBounds_toArray, List.set_cons_zero, List.set_cons_succ]
        refine anyL_take (i := 23) (v := ?vq76) rfl (by kernel_rfl) (by kernel_rfl) (by kernel_rfl) (by kernel_rfl) (fun _ _ _ h => h) (Or.inl ⟨by rfl, ?hq76⟩) (unhide HS1) ?_
        case hq76 => (intro w hSw; (try dsimp only at hSw); go_simp) <;> with_reducible rfl
        simp only [Act.put, List.getElem_toArray, List.getElem_cons_zero, List.getElem_cons_succ, List.setIfInBounds_toArray, List.set_cons_zero, List.set_cons_succ]
        refine anyL_take (i := 24) (v := ?vq77) rfl (by kernel_rfl) (by kernel_rfl) (by kernel_rfl) (by kernel_rfl) (fun _ _ _ h => h) (Or.inl ⟨by rfl, ?hq77⟩) (unhide HS1) ?_
        case hq77 => (intro w hSw; (try dsimp only at hSw); go_simp) <;> with_reducible rfl
        simp only [Act.put, List.getElem_toArray, List.getElem_cons_zero, List.getElem_cons_succ, List.setIfInBounds_toArray, List.set_cons_zero, List.set_cons_succ]
        refine anyL_take (i := 25) (v := ?vq78) rfl (by kernel_rfl) (by kernel_rfl) (by kernel_rfl) (by kernel_rfl) (fun _ _ _ h => h) (Or.inl ⟨by rfl, ?hq78⟩) (unhide HS1) ?_
        case hq78 => (intro w hSw; (try dsimp only at hSw); go_simp) <;> with_reducible rfl
        simp only [Act.put, List.getElem_toArray, List.getElem_cons_zero, List.getElem_cons_succ, List.setIfInBounds_toArray, List.set_cons_zero, List.set_cons_succ]
        refine anyL_take (i := 26) (v := ?vq79) rfl (by kernel_rfl) (by kernel_rfl) (by kernel_rfl) (by kernel_rfl) (fun _ _ _ h => h) (Or.inl ⟨by rfl, ?hq79⟩) (unhide HS1) ?_
        case hq79 => (intro w hSw; (try dsimp only at hSw); go_simp) <;> with_reducible rfl
        simp only [Act.put, List.getElem_toArray, List.getElem_cons_zero, List.getElem_cons_succ, List.setIfInBounds_toArray, List.set_cons_zero, List.set_cons_succ]
        refine anyL_take (i := 27) (v := ?vq80) rfl (by kernel_rfl) (by kernel_rfl) (by kernel_rfl) (by kernel_rfl) (fun _ _ _ h => h) (Or.inl ⟨by rfl, ?hq80⟩) (unhide HS1) ?_
        case hq80 => (intro w hSw; (try dsimp only at hSw); go_simp) <;> with_reducible rfl
        simp only [Act.put, List.getElem_toArray, List.getElem_cons_zero, List.getElem_cons_succ, List.setIfInBounds_toArray, List.set_cons_zero, List.set_cons_succ]
        refine anyL_take (i := 28) (v := ?vq81) rfl (by kernel_rfl) (by kernel_rfl) (by kernel_rfl) (by kernel_rfl) (fun _ _ _ h => h) (Or.inl ⟨by rfl, ?hq81⟩) (unhide HS1) ?_
        case hq81 => (intro w hSw; (try dsimp only at hSw); go_simp) <;> with_reducible rfl
        simp only [Act.put, List.getElem_toArray, List.getElem_cons_zero, List.getElem_cons_succ, List.setIfInBounds_toArray, List.set_cons_zero, List.set_cons_succ]
        refine anyL_take (i := 29) (v := ?vq82) rfl (by kernel_rfl) (by kernel_rfl) (by kernel_rfl) (by kernel_rfl) (fun _ _ _ h => h) (Or.inl ⟨by rfl, ?hq82⟩) (unhide HS1) ?_
        case hq82 => (intro w hSw; (try dsimp only at hSw); go_simp) <;> with_reducible rfl
        simp only [Act.put, List.getElem_toArray, List.getElem_cons_zero, List.getElem_cons_succ, List.setIfInBounds_toArray, List.set_cons_zero, List.set_cons_succ]
        refine anyL_take (i := 30) (v := ?vq83) rfl (by kernel_rfl) (by kernel_rfl) (by kernel_rfl) (by kernel_rfl) (fun _ _ _ h => h) (Or.inl ⟨by rfl, ?hq83⟩) (unhide HS1) ?_
        case hq83 => (intro w hSw; (try dsimp only at hSw); go_simp) <;> with_reducible rfl
        simp only [Act.put, List.getElem_toArray, List.getElem_cons_zero, List.getElem_cons_succ, List.setIfInBounds_toArray, List.set_cons_zero, List.set_cons_succ]
        refine anyL_take (i := 31) (v := ?vq84) rfl (by kernel_rfl) (by kernel_rfl) (by kernel_rfl) (by kernel_rfl) (fun _ _ _ h => h) (Or.inl ⟨by rfl, ?hq84⟩) (unhide HS1) ?_
        case hq84 => (intro w hSw; (try dsimp only at hSw); go_simp) <;> with_reducible rfl
        simp only [Act.put, List.getElem_toArray, List.getElem_cons_zero, List.getElem_cons_succ, List.setIfInBounds_toArray, List.set_cons_zero, List.set_cons_succ]
        refine anyL_take (i := 32) (v := ?vq85) rfl (by kernel_rfl) (by kernel_rfl) (by kernel_rfl) (by kernel_rfl) (fun _ _ _ h => h) (Or.inl ⟨by rfl, ?hq85⟩) (unhide HS1) ?_
        case hq85 => (intro w hSw; (try dsimp only at hSw); go_simp) <;> with_reducible rfl
        simp only [Act.put, List.getElem_toArray, List.getElem_cons_zero, List.getElem_cons_succ, List.setIfInBounds_toArray, List.set_cons_zero, List.set_cons_succ]
        refine anyL_take (i := 33) (v := ?vq86) rfl (by kernel_rfl) (by kernel_rfl) (by kernel_rfl) (by kernel_rfl) (fun _ _ _ h => h) (Or.inl ⟨by rfl, ?hq86⟩) (unhide HS1) ?_
        case hq86 => (intro w hSw; (try dsimp only at hSw); go_simp) <;> with_reducible rfl
        simp only [Act.put, List.getElem_toArray, List.getElem_cons_zero, List.getElem_cons_succ, List.setIfInBounds_toArray, List.set_cons_zero, List.set_cons_succ]
        refine anyL_take (i := 34) (v := ?vq87) rfl (by kernel_rfl) (by kernel_rfl) (by kernel_rfl) (by kernel_rfl) (fun _ _ _ h => h) (Or.inl ⟨by rfl, ?hq87⟩) (unhide HS1) ?_
        case hq87 => (intro w hSw; (try dsimp only at hSw); go_simp) <;> with_reducible rfl
        simp only [Act.put, List.getElem_toArray, List.getElem_cons_zero, List.getElem_cons_succ, List.setIfInBounds_toArray, List.set_cons_zero, List.set_cons_succ]
        refine anyL_take (i := 35) (v := ?vq88) rfl (by kernel_rfl) (by kernel_rfl) (by kernel_rfl) (by kernel_rfl) (fun _ _ _ h => h) (Or.inl ⟨by rfl, ?hq88⟩) (unhide HS1) ?_
        case hq88 => (intro w hSw; (try dsimp only at hSw); go_simp) <;> with_reducible rfl
        simp only [Act.put, List.getElem_toArray, List.getElem_cons_zero, List.getElem_cons_succ, List.setIfInBounds_toArray, List.set_cons_zero, List.set_cons_succ]
        refine anyL_take (i := 36) (v := ?vq89) rfl (by kernel_rfl) (by kernel_rfl) (by kernel_rfl) (by kernel_rfl) (fun _ _ _ h => h) (Or.inl ⟨by rfl, ?hq89⟩) (unhide HS1) ?_
        case hq89 => (intro w hSw; (try dsimp only at hSw); go_simp) <;> with_reducible rfl
        simp only [Act.put, List.getElem_toArray, List.getElem_cons_zero, List.getElem_cons_succ, List.setIfInBounds_toArray, List.set_cons_zero, List.set_cons_succ]
        refine anyL_take (i := 37) (v := ?vq90) rfl (by kernel_rfl) (by kernel_rfl) (by kernel_rfl) (by kernel_rfl) (fun _ _ _ h => h) (Or.inl ⟨by rfl, ?hq90⟩) (unhide HS1) ?_
        case hq90 => (intro w hSw; (try dsimp only at hSw); go_simp) <;> with_reducible rfl
        simp only [Act.put, List.getElem_toArray, List.getElem_cons_zero, List.getElem_cons_succ, List.setIfInBounds_toArray, List.set_cons_zero, List.set_cons_succ]
        refine anyL_take (i := 38) (v := ?vq91) rfl (by kernel_rfl) (by kernel_rfl) (by kernel_rfl) (by kernel_rfl) (fun _ _ _ h => h) (Or.inl ⟨by rfl, ?hq91⟩) (unhide HS1) ?_
        case hq91 => (intro w hSw; (try dsimp only at hSw); go_simp) <;> with_reducible rfl
        simp only [Act.put, List.getElem_toArray, List.getElem_cons_zero, List.getElem_cons_succ, List.setIfInBounds_toArray, List.set_cons_zero, List.set_cons_succ]
        refine anyL_take (i := 39) (v := ?vq92) rfl (by kernel_rfl) (by kernel_rfl) (by kernel_rfl) (by kernel_rfl) (fun _ _ _ h => h) (Or.inl ⟨by rfl, ?hq92⟩) (unhide HS1) ?_
        case hq92 => (intro w hSw; (try dsimp only at hSw); go_simp) <;> with_reducible rfl
        simp only [Act.put, List.getElem_toArray, List.getElem_cons_zero, List.getElem_cons_succ, List.setIfInBounds_toArray, List.set_cons_zero, List.set_cons_succ]
        refine anyL_take (i := 40) (v := ?vq93) rfl (by kernel_rfl) (by kernel_rfl) (by kernel_rfl) (by kernel_rfl) (fun _ _ _ h => h) (Or.inl ⟨by rfl, ?hq93⟩) (unhide HS1) ?_
        case hq93 => (intro w hSw; (try dsimp only at hSw); go_simp) <;> with_reducible rfl
        simp only [Act.put, List.getElem_toArray, List.getElem_cons_zero, List.getElem_cons_succ, List.setIfInBounds_toArray, List.set_cons_zero, List.set_cons_succ]
        refine anyL_take (i := 41) (v := ?vq94) rfl (by kernel_rfl) (by kernel_rfl) (by kernel_rfl) (by kernel_rfl) (fun _ _ _ h => h) (Or.inl ⟨by rfl, ?hq94⟩) (unhide HS1) ?_
        case hq94 => (intro w hSw; (try dsimp only at hSw); go_simp) <;> with_reducible rfl
        simp only [Act.put, List.getElem_toArray, List.getElem_cons_zero, List.getElem_cons_succ, List.setIfInBounds_toArray, List.set_cons_zero, List.set_cons_succ]
        refine anyL_ready (rs := [42]) (by kernel_rfl) (by simp) ?_
        refine AllL.cons rfl (fun K hK => ?_) AllL.nil
        go_simp
        refine (unhide HTK _ ts1.b).mono ?_
        rintro e u2 ⟨a2, c2, rfl, i2, x2⟩
        have ts2 := ts1.on x2
        have HS2 : Hid ((fun w' => w'.cell? ⟨g1, (j + 1), none⟩ = some (.int .i64 (X : Int)) ∧ w'.cell? ⟨g2, (j + 1), none⟩ = some (.int .i64 (((j + 1 : Nat) : Int) : Int)) ∧ w'.cell? ⟨g3, (j + 1), none⟩ = some (.int .i64 (Z : Int)) ∧ w'.cell? ⟨g1, j, none⟩ = some (.int .i64 (Y : Int))) u2) := hide (unhide HF _ ts2)
        refine unhide hK _ _ (fun _ => unhide HS2) ?_
        clear hK K ts1 x2 HS1
        refine anyL_ready (rs := [43]) (by kernel_rfl) (by simp) ?_
        refine AllL.cons rfl (fun K hK => ?_) AllL.nil
        go_simp
        refine (unhide HUT _ a2 c2 i2).mono ?_
        rintro e u3 ⟨a3, c3, rfl, x3⟩
        have ts3 := ts2.on x3
        have HS3 : Hid ((fun w' => w'.cell? ⟨g1, (j + 1), none⟩ = some (.int .i64 (X : Int)) ∧ w'.cell? ⟨g2, (j + 1), none⟩ = some (.int .i64 (((j + 1 : Nat) : Int) : Int)) ∧ w'.cell? ⟨g3, (j + 1), none⟩ = some (.int .i64 (Z : Int)) ∧ w'.cell? ⟨g1, j, none⟩ = some (.int .i64 (Y : Int))) u3) := hide (unhide HF _ ts3)
        refine unhide hK _ _ (fun _ => unhide HS3) ?_
        clear hK K ts2 x3 HS2
        refine anyL_take (i := 44) (v := ?vq95) rfl (by kernel_rfl) (by kernel_rfl) (by kernel_rfl) (by kernel_rfl) (fun _ _ _ h => h) (Or.inl ⟨by rfl, ?hq95⟩) (unhide HS3) ?_
        case hq95 => (intro w hSw; (try dsimp only at hSw); go_simp) <;> with_reducible rfl
        simp only [Act.put, List.getElem_toArray, List.getElem_cons_zero, List.getElem_cons_succ, List.setIfInBounds_toArray, List.set_cons_zero, List.set_cons_succ]
        refine anyL_take (i := 45) (v := ?vq96) rfl (by kernel_rfl) (by kernel_rfl) (by kernel_rfl) (by kernel_rfl) (fun _ _ _ h => h) (Or.inl ⟨by rfl, ?hq96⟩) (unhide HS3) ?_
        case hq96 => (intro w hSw; (try dsimp only at hSw); go_simp) <;> with_reducible rfl
        simp only [Act.put, List.getElem_toArray, List.getElem_cons_zero, List.getElem_cons_succ, List.setIfInBounds_toArray, List.set_cons_zero, List.set_cons_succ]
        refine anyL_take (i := 46) (v := ?vq97) rfl (by kernel_rfl) (by kernel_rfl) (by kernel_rfl) (by kernel_rfl) (fun _ _ _ h => h) (Or.inl ⟨by rfl, ?hq97⟩) (unhide HS3) ?_
        case hq97 => (intro w hSw; (try dsimp only at hSw); go_simp) <;> with_reducible rfl
        simp only [Act.put, List.getElem_toArray, List.getElem_cons_zero, List.getElem_cons_succ, List.setIfInBounds_toArray, List.set_cons_zero, List.set_cons_succ]
        refine anyL_take (i := 47) (v := ?vq98) rfl (by kernel_rfl) (by kernel_rfl) (by kernel_rfl) (by kernel_rfl) (fun _ _ _ h => h) (Or.inl ⟨by rfl, ?hq98⟩) (unhide HS3) ?_
        case hq98 => (intro w hSw; (try dsimp only at hSw); go_simp) <;> with_reducible rfl
        simp only [Act.put, List.getElem_toArray, List.getElem_cons_zero, List.getElem_cons_succ, List.setIfInBounds_toArray, List.set_cons_zero, List.set_cons_succ]
        refine anyL_take (i := 48) (v := ?vq99) rfl (by kernel_rfl) (by kernel_rfl) (by kernel_rfl) (by kernel_rfl) (fun _ _ _ h => h) (Or.inl ⟨by rfl, ?hq99⟩) (unhide HS3) ?_
        case hq99 => (intro w hSw; (try dsimp only at hSw); go_simp) <;> with_reducible rfl
        simp only [Act.put, List.getElem_toArray, List.getElem_cons_zero, List.getElem_cons_succ, List.setIfInBounds_toArray, List.set_cons_zero, List.set_cons_succ]
        refine anyL_take (i := 50) (v := ?vq100) rfl (by kernel_rfl) (by kernel_rfl) (by kernel_rfl) (by kernel_rfl) (fun _ _ _ h => h) (Or.inl ⟨by rfl, ?hq100⟩) (unhide HS3) ?_
        case hq100 => (intro w hSw; (try dsimp only at hSw); go_simp) <;> with_reducible rfl
        simp only [Act.put, List.getElem_toArray, List.getElem_cons_zero, List.getElem_cons_succ, List.setIfInBounds_toArray, List.set_cons_zero, List.set_cons_succ]
        refine anyL_take (i := 51) (v := ?vq101) rfl (by kernel_rfl) (by kernel_rfl) (by kernel_rfl) (by kernel_rfl) (fun _ _ _ h => h) (Or.inl ⟨by rfl, ?hq101⟩) (unhide HS3) ?_
        case hq101 => (intro w hSw; (try dsimp only at hSw); go_simp) <;> with_reducible rfl
        simp only [Act.put, List.getElem_toArray, List.getElem_cons_zero, List.getElem_cons_succ, List.setIfInBounds_toArray, List.set_cons_zero, List.set_cons_succ]
        refine anyL_take (i := 52) (v := ?vq102) rfl (by kernel_rfl) (by kernel_rfl) (by kernel_rfl) (by kernel_rfl) (fun _ _ _ h => h) (Or.inl ⟨by rfl, ?hq102⟩) (unhide HS3) ?_
        case hq102 => (intro w hSw; (try dsimp only at hSw); go_simp) <;> with_reducible rfl
        simp only [Act.put, List.getElem_toArray, List.getElem_cons_zero, List.getElem_cons_succ, List.setIfInBounds_toArray, List.set_cons_zero, List.set_cons_succ]
        refine anyL_take (i := 53) (v := ?vq103) rfl (by kernel_rfl) (by kernel_rfl) (by kernel_rfl) (by kernel_rfl) (fun _ _ _ h => h) (Or.inl ⟨by rfl, ?hq103⟩) (unhide HS3) ?_
        case hq103 => (intro w hSw; (try dsimp only at hSw); go_simp) <;> with_reducible rfl
        simp only [Act.put, List.getElem_toArray, List.getElem_cons_zero, List.getElem_cons_succ, List.setIfInBounds_toArray, List.set_cons_zero, List.set_cons_succ]
        refine anyL_ready (rs := [49]) (by kernel_rfl) (by simp) ?_
        refine AllL.cons rfl (fun K hK => ?_) AllL.nil
        go_simp
        refine (own_at a0 cap l u3 ts3.b).mono ?_
        rintro e u4 ⟨a4, c4, rfl, i4, x4⟩
        have ts4 := ts3.on x4
        have HS4 : Hid ((fun w' => w'.cell? ⟨g1, (j + 1), none⟩ = some (.int .i64 (X : Int)) ∧ w'.cell? ⟨g2, (j + 1), none⟩ = some (.int .i64 (((j + 1 : Nat) : Int) : Int)) ∧ w'.cell? ⟨g3, (j + 1), none⟩ = some (.int .i64 (Z : Int)) ∧ w'.cell? ⟨g1, j, none⟩ = some (.int .i64 (Y : Int))) u4) := hide (unhide HF _ ts4)
        refine unhide hK _ _ (fun _ => unhide HS4) ?_
        clear hK K ts3 x4 HS3
        refine anyL_ready (rs := [54]) (by kernel_rfl) (by simp) ?_
        refine AllL.cons rfl (fun K hK => ?_) AllL.nil
        go_simp
        refine (unhide HED _ a4 c4 i4 ts4.t).mono ?_
        rintro e u5 ⟨rfl, x5⟩
        have ts5 := ts4.on x5
        have HS5 : Hid ((fun w' => w'.cell? ⟨g1, (j + 1), none⟩ = some (.int .i64 (X : Int)) ∧ w'.cell? ⟨g2, (j + 1), none⟩ = some (.int .i64 (((j + 1 : Nat) : Int) : Int)) ∧ w'.cell? ⟨g3, (j + 1), none⟩ = some (.int .i64 (Z : Int)) ∧ w'.cell? ⟨g1, j, none⟩ = some (.int .i64 (Y : Int))) u5) := hide (unhide HF _ ts5)
        refine unhide hK _ _ (fun _ => unhide HS5) ?_
        clear hK K ts4 x5 HS4
        refine anyL_take (i := 55) (v := ?vq104) rfl (by kernel_rfl) (by kernel_rfl) (by kernel_rfl) (by kernel_rfl) (fun _ _ _ h => h) (Or.inl ⟨by rfl, ?hq104⟩) (unhide HS5) ?_
        case hq104 => (intro w hSw; (try dsimp only at hSw); go_simp) <;> with_reducible rfl
        simp only [Act.put, List.getElem_toArray, List.getElem_cons_zero, List.getElem_cons_succ, List.setIfInBounds_toArray, List.set_cons_zero, List.set_cons_succ]
        refine anyL_take (i := 56) (v := ?vq105) rfl (by kernel_rfl) (by kernel_rfl) (by kernel_rfl) (by kernel_rfl) (fun _ _ _ h => h) (Or.inl ⟨by rfl, ?hq105⟩) (unhide HS5) ?_
        case hq105 => (intro w hSw; (try dsimp only at hSw); go_simp) <;> with_reducible rfl
        simp only [Act.put, List.getElem_toArray, List.getElem_cons_zero, List.getElem_cons_succ, List.setIfInBounds_toArray, List.set_cons_zero, List.set_cons_succ]
        refine anyL_done (by kernel_rfl) ?_ _
        go_wp2
        go_roundw
        case rel => exact ⟨j + 2, by omega, by omega⟩
        case measure => simp [intOf]; omega
    · -- the second loop and the end (not yet tried)
      go_wp2_with fail
      go_loopw [10, 11] (fun v i wx => ∃ p : Nat, p ≤ l.length + 1 ∧ v = .int .i64 ((edgesTo l p).length : Nat) ∧ i = .int .i64 (p : Nat) ∧ Hid (TS w a0 cap l g1 g2 g3 wx)) (fun _ i _ => l.length + 1 - (intOf i).toNat)
      case atStart => exact ⟨0, Nat.zero_le _, rfl, rfl, hts⟩
      case round =>
        obtain ⟨p, hp, rfl, rfl, hts2⟩ := hrel
        by_cases hlt2 : p ≤ l.length
        · go_wp2_with fail
          refine (own_at a0 cap l wr (unhide hts2).b).mono ?_
          rintro e u2 ⟨a2', c2', rfl, i2', x2'⟩
          have ts2 := (unhide hts2).on x2'
          have hE := Edge_at a2' c2' (p : Int) l u2 i2' ts2.t
          rw [edgeB, Int.toNat_natCast, decide_eq_true (by omega), Bool.true_and] at hE
          have hle := edgesTo_len l p
          cases hi : inside l p with
          | true =>
            rw [hi] at hE
            go_wp2_with fail
            refine hE.mono ?_
            rintro e u3 ⟨rfl, x3'⟩
            go_wp2
            go_roundw
            case rel => exact ⟨p + 1, by omega, by rw [edgesTo_no hi], by go_num, hide (ts2.on x3')⟩
            case measure => simp [intOf]; omega
          | false =>
            rw [hi] at hE
            go_wp2_with fail
            refine hE.mono ?_
            rintro e u3 ⟨rfl, x3'⟩
            go_wp2
            go_roundw
            case rel => exact ⟨p + 1, by omega, by rw [edgesTo_yes hi, List.length_append]; go_num, by go_num, hide (ts2.on x3')⟩
            case measure => simp [intOf]; omega
        · obtain rfl : p = l.length + 1 := by omega
          have hcnt := edges_count l
          rw [unhide HNN] at hcnt
          have ts := unhide hts2
          have q2 : szE 2 l = m := by
            have h := (st_at (unhide HLB) (List.prefix_refl (spots l 0))).2.2.1
            show (stE l (spots l 0)).2.1 = m
            rw [h, unhide HM]
          have q3 : szE 3 l = (toL l).length := toL_units (unhide HLB)
          have hz : byE 3 ((EE l).getD m e0) = (toL l).length := by
            have h := EE_last l
            rw [EE_len, Nat.add_sub_cancel, unhide HM] at h
            rw [h]
            exact toL_units (unhide HLB)
          have htl := toL_len l
          have HZ := hide hz
          rw [hcnt]
          clear hz hcnt
          go_wp2_with fail
          refine (own_at a0 cap l wr ts.b).mono ?_
          rintro e u2 ⟨a2', c2', rfl, i2', x2'⟩
          have ts2 := ts.on x2'
          have S2 := Size_at a2' c2' l 2 u2 i2' ts2.t
          rw [q2] at S2
          go_wp2_with fail
          refine S2.mono ?_
          rintro e u3 ⟨rfl, x3'⟩
          have ts3 := ts2.on x3'
          clear S2 ts2 ts
          go_wp2_with fail
          refine (own_at a0 cap l u3 ts3.b).mono ?_
          rintro e u4 ⟨a4', c4', rfl, i4', x4'⟩
          have ts4 := ts3.on x4'
          have S3 := Size_at a4' c4' l 3 u4 i4' ts4.t
          rw [q3] at S3
          go_wp2_with fail
          refine S3.mono ?_
          rintro e u5 ⟨rfl, x5'⟩
          have ts5 := ts4.on x5'
          clear S3 ts4 ts3
          have cz := ts5.z.at (i := m) (by rw [unhide HNN]; omega)
          rw [unhide HZ] at cz
          have y1 : ((m : Int) + 1) - 1 = (m : Int) := by omega
          go_wp2_with fail
          refine (own_at a0 cap l u5 ts5.b).mono ?_
          rintro e u6 ⟨a6', c6', rfl, i6', x6'⟩
          have ts6 := ts5.on x6'
          go_wp2_with fail
          refine (UTo_at a6' c6' l u6 i6' (by omega)).mono ?_
          rintro e u7 ⟨v7, rfl, o7, x7'⟩
          have ts7 := ts6.on x7'
          obtain ⟨a7', c7', rfl, _⟩ := o7.isU (toL_in (unhide HLB))
          go_wp2_with fail
          go_ret
          exact ⟨ret_bool (by simp), ts7.d⟩

end Go.Proofs.YtnkeohiibninfabDoor
