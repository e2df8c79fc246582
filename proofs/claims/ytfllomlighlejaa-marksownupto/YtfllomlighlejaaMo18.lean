/- Layer 15: the comparison of marks. -/
import Derived.Test.YtfllomlighlejaaMo01
import Derived.Test.YtfllomlighlejaaMo15
import Derived.Test.YtfllomlighlejaaMo16
import Derived.Test.YtfllomlighlejaaMo17
import Derived.Test.YtfllomlighlejaaMo13

namespace Go.Proofs.Ytfllomlighlejaa
open Go.ChangeShapes Go.WideShapes Go.ChangeAt Go.RowKit
attribute [local go_sem] Oper.semAt_some

/-- the first number that isn't 0 -/
def firstNZ : List Int → Int
  | [] => 0
  | x :: l => if x = 0 then firstNZ l else x
theorem fnz_drop (vs : List Int) (i : Nat) (hi : i < vs.length) : firstNZ (vs.drop i) = if vs.getD i 0 = 0 then firstNZ (vs.drop (i + 1)) else vs.getD i 0 := by
  rw [List.drop_eq_getElem_cons hi]
  simp [firstNZ, hi]
set_option maxRecDepth 100000 in
set_option maxHeartbeats 1000000 in
/-- cmp.Or -/
theorem CmpOr_at (g : Nat) (vs : List Int) (W : World) (hc : ∀ i, i < vs.length → W.cell? ⟨g, i, none⟩ = some (.int .i64 (vs.getD i 0))) (hl : vs.length ≤ 1000) :
    Calls Try.prog 44 #[.slice (some ⟨g, 0, none⟩) vs.length vs.length] W fun y W' => y = .returned (.int .i64 (firstNZ vs)) ∧ W' = W := by
  have HC := hide hc
  obtain ⟨N, hN⟩ : ∃ N, N = vs.length := ⟨_, rfl⟩
  have HN := hide hN
  rw [← hN] at hl ⊢
  clear hc hN
  obtain ⟨V, hV⟩ : ∃ V, V = firstNZ vs := ⟨_, rfl⟩
  rw [← hV]
  have HV := hide hV
  clear hV
  go_enter Try.func44, Try.ntmps44
  go_wp2_with fail
  go_loopw [5, 8] (fun v5 v8 wx => ((∃ z, v5 = z) ∧ ∃ i : Nat, v8 = .int .i64 (i : Int) ∧ i ≤ N ∧ Hid (firstNZ (vs.drop i) = V)) ∧ Hid (wx = W)) (fun _ v8 _ => N - (intOf v8).toNat)
  case atStart => exact ⟨⟨⟨_, rfl⟩, 0, rfl, Nat.zero_le _, hide (unhide HV).symm⟩, hide rfl⟩
  case round =>
    obtain ⟨⟨⟨z, rfl⟩, i, rfl, hi, HD⟩, HW⟩ := hrel
    obtain rfl := unhide HW
    by_cases hlt : i < N
    · have t1 : decide ((i : Int) < (N : Int)) = true := decide_eq_true (by omega)
      have hlt' : i < vs.length := by rw [← unhide HN]; exact hlt
      have c0 := unhide HC i hlt'
      have HD2 := hide ((fnz_drop vs i hlt').symm.trans (unhide HD))
      generalize vs.getD i 0 = x at *
      by_cases hx : x = 0
      · subst hx
        rw [if_pos rfl] at HD2
        clear HD
        go_wp2_with fail
        go_roundw
        case rel => exact ⟨⟨⟨_, rfl⟩, i + 1, by go_num, hlt, HD2⟩, hide (by trivial)⟩
        case measure => simp [intOf]; omega
      · have t2 : (x != 0) = true := by simpa using hx
        rw [if_neg hx] at HD2
        obtain rfl := unhide HD2
        clear HD HD2
        go_wp2_with fail
        refine bodyPost_ret (results_tmp rfl _ _ _) rfl ⟨rfl, rfl⟩
    · obtain rfl : i = N := by omega
      have t1 : decide ((i : Int) < (i : Int)) = false := decide_eq_false (by omega)
      have h0 : firstNZ (vs.drop i) = 0 := by rw [unhide HN, List.drop_length]; rfl
      obtain rfl : V = 0 := (unhide HD).symm.trans h0
      clear h0 HD HV
      go_wp2_with fail
      refine bodyPost_ret (results_tmp rfl _ _ _) rfl ⟨rfl, rfl⟩
theorem cmpM_or (x y : Mk) : cmpM x y = firstNZ [Lib.compareInt x.p y.p, Lib.compareBytes x.n.data.toList y.n.data.toList] := by
  unfold cmpM firstNZ firstNZ firstNZ Lib.compareInt
  by_cases h1 : x.p < y.p
  · simp [h1]
  · by_cases h2 : y.p < x.p
    · simp [h1, h2]
    · simp [h1, h2]

set_option maxRecDepth 100000 in
set_option maxHeartbeats 1000000 in
theorem MCmp_at (x y : Mk) (W : World) :
    Calls Try.prog 28 #[.agg (mkL x).toArray, .agg (mkL y).toArray] W fun e W' => e = .returned (.int .i64 (cmpM x y)) ∧ ∃ q os, W' = Go.Sort.grow (W.drewN q) os := by
  have hcmp := cmpM_or x y
  obtain ⟨xn, xp, xg⟩ := x
  obtain ⟨yn, yp, yg⟩ := y
  dsimp only at hcmp
  unfold mkL
  dsimp only
  generalize cmpM _ _ = CV at *
  have H1 := hide fun (Y : World) => Try.cmp_Compare_int xp yp Y
  have H2 := hide fun (Y : World) => Try.strings_Compare xn yn Y
  have k1 := (Cls.new W 42 #[.string xn, .int .i64 xp, .int .i64 xg]).alloc (.cells #[.string yn, .int .i64 yp, .int .i64 yg] 42)
  have k2 := Cls.new (W.alloc (.cells #[.string xn, .int .i64 xp, .int .i64 xg] 42)) 42 #[.string yn, .int .i64 yp, .int .i64 yg]
  rw [World.size_alloc] at k2
  have hb := ((Below.refl W.heap.size W).alloc (Nat.le_refl _) (.cells #[.string xn, .int .i64 xp, .int .i64 xg] 42)).alloc ((Below.refl W.heap.size W).alloc (Nat.le_refl _) (.cells #[.string xn, .int .i64 xp, .int .i64 xg] 42)).size (.cells #[.string yn, .int .i64 yp, .int .i64 yg] 42)
  have HB : Hid (Below W.heap.size W ((W.alloc (.cells #[.string xn, .int .i64 xp, .int .i64 xg] 42)).alloc (.cells #[.string yn, .int .i64 yp, .int .i64 yg] 42)).drew) := hide hb.drew
  have HQ : Hid (((W.alloc (.cells #[.string xn, .int .i64 xp, .int .i64 xg] 42)).alloc (.cells #[.string yn, .int .i64 yp, .int .i64 yg] 42)).drew.drawn = W.drawn + 1) := hide rfl
  have HK : Hid (Cls ((W.alloc (.cells #[.string xn, .int .i64 xp, .int .i64 xg] 42)).alloc (.cells #[.string yn, .int .i64 yp, .int .i64 yg] 42)).drew W.heap.size 42 #[.string xn, .int .i64 xp, .int .i64 xg] ∧ Cls ((W.alloc (.cells #[.string xn, .int .i64 xp, .int .i64 xg] 42)).alloc (.cells #[.string yn, .int .i64 yp, .int .i64 yg] 42)).drew (W.heap.size + 1) 42 #[.string yn, .int .i64 yp, .int .i64 yg]) := hide ⟨k1, k2⟩
  clear k1 k2 hb
  generalize hv0 : Lib.compareInt xp yp = V0 at *
  generalize hv1 : Lib.compareBytes xn.data.toList yn.data.toList = V1 at *
  go_enter Try.func28, Try.ntmps28
  go_upto_region 1 with fail
  refine regionL (S := fun z => z.cell? ⟨W.heap.size, 0, none⟩ = some (.string xn) ∧ z.cell? ⟨W.heap.size, 1, none⟩ = some (.int .i64 xp) ∧ z.cell? ⟨(W.heap.size + 1), 0, none⟩ = some (.string yn) ∧ z.cell? ⟨(W.heap.size + 1), 1, none⟩ = some (.int .i64 yp)) (fun _ => false) (by kernel_rfl) ?_
  generalize ((W.alloc (.cells #[.string xn, .int .i64 xp, .int .i64 xg] 42)).alloc (.cells #[.string yn, .int .i64 yp, .int .i64 yg] 42)).drew = X0 at *
  generalize W.heap.size + 1 = B1 at *
  obtain ⟨k1, k2⟩ := unhide HK
  have HS : Hid (X0.cell? ⟨W.heap.size, 0, none⟩ = some (.string xn) ∧ X0.cell? ⟨W.heap.size, 1, none⟩ = some (.int .i64 xp) ∧ X0.cell? ⟨B1, 0, none⟩ = some (.string yn) ∧ X0.cell? ⟨B1, 1, none⟩ = some (.int .i64 yp)) := hide ⟨(k1.cell 0).trans rfl, (k1.cell 1).trans rfl, (k2.cell 0).trans rfl, (k2.cell 1).trans rfl⟩
  have VO : Hid (∀ i, i < [V0, V1].length → (X0.alloc (.cells #[.int .i64 V0, .int .i64 V1] 3)).cell? ⟨X0.heap.size, i, none⟩ = some (.int .i64 ([V0, V1].getD i 0))) := hide fun i hi => by
    have e := (Cls.new X0 3 #[.int .i64 V0, .int .i64 V1]).cell i
    rw [e]
    match i, hi with
    | 0, _ => rfl
    | 1, _ => rfl
  have HSA : Hid ((X0.alloc (.cells #[.int .i64 V0, .int .i64 V1] 3)).cell? ⟨W.heap.size, 0, none⟩ = some (.string xn) ∧ (X0.alloc (.cells #[.int .i64 V0, .int .i64 V1] 3)).cell? ⟨W.heap.size, 1, none⟩ = some (.int .i64 xp) ∧ (X0.alloc (.cells #[.int .i64 V0, .int .i64 V1] 3)).cell? ⟨B1, 0, none⟩ = some (.string yn) ∧ (X0.alloc (.cells #[.int .i64 V0, .int .i64 V1] 3)).cell? ⟨B1, 1, none⟩ = some (.int .i64 yp)) := hide ⟨((k1.alloc _).cell 0).trans rfl, ((k1.alloc _).cell 1).trans rfl, ((k2.alloc _).cell 0).trans rfl, ((k2.alloc _).cell 1).trans rfl⟩
  have HO := hide (CmpOr_at X0.heap.size [V0, V1] _ (unhide VO) (by simp))
  rw [← hcmp] at HO
  have hB9 := (unhide HB).alloc (unhide HB).size (.cells #[.int .i64 V0, .int .i64 V1] 3)
  have HF : Hid (∃ q os, (X0.alloc (.cells #[.int .i64 V0, .int .i64 V1] 3)) = Go.Sort.grow (W.drewN q) os) := hide (grown_of hB9 ⟨1, unhide HQ⟩)
  clear k1 k2 HK hB9 HB HQ VO hcmp
  refine anyL_take (i := 0) (v := ?vcm0) rfl (by kernel_rfl) (by kernel_rfl) (by kernel_rfl) (by kernel_rfl) (fun _ _ _ h => h) (Or.inl ⟨by rfl, ?hcm0⟩) (unhide HS) ?_
  case hcm0 => (intro w hSw; (try dsimp only at hSw); go_simp) <;> with_reducible rfl
  simp only [Act.put, List.getElem_toArray, List.getElem_cons_zero, List.setIfInBounds_toArray, List.set_cons_zero, List.set_cons_succ]
  refine anyL_take (i := 1) (v := ?vcm1) rfl (by kernel_rfl) (by kernel_rfl) (by kernel_rfl) (by kernel_rfl) (fun _ _ _ h => h) (Or.inl ⟨by rfl, ?hcm1⟩) (unhide HS) ?_
  case hcm1 => (intro w hSw; (try dsimp only at hSw); go_simp) <;> with_reducible rfl
  simp only [Act.put, List.getElem_toArray, List.getElem_cons_zero, List.getElem_cons_succ, List.setIfInBounds_toArray, List.set_cons_zero, List.set_cons_succ]
  refine anyL_take (i := 2) (v := ?vcm2) rfl (by kernel_rfl) (by kernel_rfl) (by kernel_rfl) (by kernel_rfl) (fun _ _ _ h => h) (Or.inl ⟨by rfl, ?hcm2⟩) (unhide HS) ?_
  case hcm2 => (intro w hSw; (try dsimp only at hSw); go_simp) <;> with_reducible rfl
  simp only [Act.put, List.getElem_toArray, List.getElem_cons_zero, List.getElem_cons_succ, List.setIfInBounds_toArray, List.set_cons_zero, List.set_cons_succ]
  refine anyL_take (i := 3) (v := ?vcm3) rfl (by kernel_rfl) (by kernel_rfl) (by kernel_rfl) (by kernel_rfl) (fun _ _ _ h => h) (Or.inl ⟨by rfl, ?hcm3⟩) (unhide HS) ?_
  case hcm3 => (intro w hSw; (try dsimp only at hSw); go_simp) <;> with_reducible rfl
  simp only [Act.put, List.getElem_toArray, List.getElem_cons_zero, List.getElem_cons_succ, List.setIfInBounds_toArray, List.set_cons_zero, List.set_cons_succ]
  refine anyL_take (i := 5) (v := ?vcm4) rfl (by kernel_rfl) (by kernel_rfl) (by kernel_rfl) (by kernel_rfl) (fun _ _ _ h => h) (Or.inl ⟨by rfl, ?hcm4⟩) (unhide HS) ?_
  case hcm4 => (intro w hSw; (try dsimp only at hSw); go_simp) <;> with_reducible rfl
  simp only [Act.put, List.getElem_toArray, List.getElem_cons_zero, List.getElem_cons_succ, List.setIfInBounds_toArray, List.set_cons_zero, List.set_cons_succ]
  refine anyL_take (i := 6) (v := ?vcm5) rfl (by kernel_rfl) (by kernel_rfl) (by kernel_rfl) (by kernel_rfl) (fun _ _ _ h => h) (Or.inl ⟨by rfl, ?hcm5⟩) (unhide HS) ?_
  case hcm5 => (intro w hSw; (try dsimp only at hSw); go_simp) <;> with_reducible rfl
  simp only [Act.put, List.getElem_toArray, List.getElem_cons_zero, List.getElem_cons_succ, List.setIfInBounds_toArray, List.set_cons_zero, List.set_cons_succ]
  refine anyL_take (i := 7) (v := ?vcm6) rfl (by kernel_rfl) (by kernel_rfl) (by kernel_rfl) (by kernel_rfl) (fun _ _ _ h => h) (Or.inl ⟨by rfl, ?hcm6⟩) (unhide HS) ?_
  case hcm6 => (intro w hSw; (try dsimp only at hSw); go_simp) <;> with_reducible rfl
  simp only [Act.put, List.getElem_toArray, List.getElem_cons_zero, List.getElem_cons_succ, List.setIfInBounds_toArray, List.set_cons_zero, List.set_cons_succ]
  refine anyL_take (i := 8) (v := ?vcm7) rfl (by kernel_rfl) (by kernel_rfl) (by kernel_rfl) (by kernel_rfl) (fun _ _ _ h => h) (Or.inl ⟨by rfl, ?hcm7⟩) (unhide HS) ?_
  case hcm7 => (intro w hSw; (try dsimp only at hSw); go_simp) <;> with_reducible rfl
  simp only [Act.put, List.getElem_toArray, List.getElem_cons_zero, List.getElem_cons_succ, List.setIfInBounds_toArray, List.set_cons_zero, List.set_cons_succ]
  refine anyL_ready (rs := [4]) (by kernel_rfl) (by simp) ?_
  refine AllL.cons rfl (fun K hK => ?_) AllL.nil
  go_simp
  refine (unhide H1 X0).mono ?_
  rintro y w' ⟨rfl, e⟩
  subst w'
  refine unhide hK _ _ (fun _ => unhide HS) ?_
  clear hK K H1
  refine anyL_ready (rs := [9]) (by kernel_rfl) (by simp) ?_
  refine AllL.cons rfl (fun K hK => ?_) AllL.nil
  go_simp
  refine (unhide H2 X0).mono ?_
  rintro y w' ⟨rfl, e⟩
  subst w'
  refine unhide hK _ _ (fun _ => unhide HS) ?_
  clear hK K H2
  refine anyL_ready (rs := [10]) (by kernel_rfl) (by simp) ?_
  refine AllL.cons rfl (fun K hK => ?_) AllL.nil
  go_simp
  refine unhide hK _ _ (fun _ => unhide HSA) ?_
  clear hK K
  refine anyL_ready (rs := [11]) (by kernel_rfl) (by simp) ?_
  refine AllL.cons rfl (fun K hK => ?_) AllL.nil
  go_simp
  refine (unhide HO).mono ?_
  rintro y w' ⟨rfl, e⟩
  subst w'
  refine unhide hK _ _ (fun _ => unhide HSA) ?_
  clear hK K HO
  refine anyL_take (i := 12) (v := ?vcm8) rfl (by kernel_rfl) (by kernel_rfl) (by kernel_rfl) (by kernel_rfl) (fun _ _ _ h => h) (Or.inl ⟨by rfl, ?hcm8⟩) (unhide HSA) ?_
  case hcm8 => (intro w hSw; (try dsimp only at hSw); go_simp) <;> with_reducible rfl
  simp only [Act.put, List.getElem_toArray, List.getElem_cons_zero, List.getElem_cons_succ, List.setIfInBounds_toArray, List.set_cons_zero, List.set_cons_succ]
  refine anyL_done (by kernel_rfl) ?_ _
  go_wp2_with fail
  refine bodyPost_ret (results_tmp rfl _ _ _) rfl ⟨rfl, unhide HF⟩
end Go.Proofs.Ytfllomlighlejaa
