/- Layer 13: DeltaApply's walk. -/
import Derived.Test.YtecolpnbbpbflaaMg33

namespace Go.Proofs.Ytecolpnbbpbflaa
open Go.ChangeShapes Go.WideShapes Go.ChangeAt Go.RowKit
attribute [local go_sem] Oper.semAt_some

def TbB (b : Bld) : Prop := (∀ o ∈ b.ops, TbD o) ∧ ∀ x ∈ b.tx, 0 ≤ x ∧ x ≤ 255
theorem tb_fin {b : Bld} (h : TbB b) : ∀ o ∈ b.fin, TbD o := by
  intro o ho
  unfold Bld.fin at ho
  rcases List.mem_append.1 ho with ho | ho
  · rcases List.mem_append.1 ho with ho | ho
    · rcases List.mem_append.1 ho with ho | ho
      · exact h.1 o ho
      · unfold kO at ho
        split at ho
        · cases ho
        · rw [List.mem_singleton.1 ho]; intro x hx; cases hx
    · unfold pO at ho
      split at ho
      · cases ho
      · rw [List.mem_singleton.1 ho]; exact h.2
  · unfold dO at ho
    split at ho
    · cases ho
    · rw [List.mem_singleton.1 ho]; intro x hx; cases hx
theorem tb_op {b : Bld} {o : Dop} (h : TbB b) (ho : TbD o) : TbB (b.op o) := by
  unfold Bld.op
  split
  · unfold Bld.keep
    split
    · exact h
    · split
      · exact ⟨h.1, fun x hx => by cases hx⟩
      · exact ⟨tb_fin h, fun x hx => by cases hx⟩
  · split
    · refine ⟨h.1, fun x hx => ?_⟩
      rcases List.mem_append.1 hx with hx | hx
      · exact h.2 x hx
      · exact ho x hx
    · exact h
theorem tb_feed : ∀ (e : List Dop) (b : Bld), TbB b → (∀ o ∈ e, TbD o) → TbB (feedD b e)
  | [], _, h, _ => h
  | o :: r, b, h, he => tb_feed r (b.op o) (tb_op h (he o List.mem_cons_self)) (fun q hq => he q (List.mem_cons_of_mem _ hq))
theorem can_tb {e : List Dop} (he : ∀ o ∈ e, TbD o) : ∀ o ∈ canA (dA e), TbD o := by
  unfold canA
  rw [← feedD_A]
  exact tb_fin (tb_feed e b0 ⟨fun o ho => by simp [b0] at ho, fun x hx => by simp [b0] at hx⟩ he)
theorem iv_small {b : List Int} {d : List Dop} (hv : valB d = true) (hf : frD d = b.length) : (canA (dA (ivD b d))).length ≤ 4611686018427387904 := by
  have h1 := can_len (canA_can (dA (ivD b d))).p
  have h2 : (dA (canA (dA (ivD b d)))).length = (dA (ivD b d)).length := fin_len _
  have h3 := (runV_len hv hf d.length (Nat.le_refl _)).2
  have h4 := (valB_nn hv).2
  rw [List.take_length] at h3
  have h5 : (dA (ivD b d)).length ≤ frD d + toD d := h3
  omega
set_option maxRecDepth 100000 in
set_option maxHeartbeats 4000000 in
theorem DeltaApply_any (a0 : Option Addr) (c0 : Nat) (b : List Int) (a : Option Addr) (c : Nat) (d : List Dop) (w : World) (hb : IsB w a0 c0 b) (h : IsO w a d) (hz : d = [] ∨ ∃ q, a = some q) (hl : d.length * 32 ≤ 140737488355328) (ht : ∀ o ∈ d, TbD o ∧ o.t.length ≤ 140737488355328) :
    Calls Try.prog 5 #[.slice a0 b.length c0, .slice a d.length c] w fun y w' => y = .returned (.bool true) ∧ Below w.heap.size w w' := by
  have hl2 : d.length ≤ 4611686018427387904 := by omega
  have HAw := hide (awake13_at w)
  have HB := hide fun (X : World) (hx : Below w.heap.size w X) => bytes13B a0 c0 b X (hb.below hx (Nat.le_refl _))
  have HO := hide fun (X : World) (hx : Below w.heap.size w X) => own13G a c d X (h.below hx (Nat.le_refl _)) hz hl
  have HA := hide fun (X : World) (a1 : Option Addr) (c1 : Nat) (a2 : Option Addr) (c2 : Nat) (h1 : IsB X a1 c1 b) (h2 : IsO X a2 d) => ApplyB_at a1 c1 b a2 c2 d X h1 h2 hl2 (fun o ho => (ht o ho).1)
  have HIv := hide fun (X : World) (a1 : Option Addr) (c1 : Nat) (a2 : Option Addr) (c2 : Nat) (h1 : IsB X a1 c1 b) (h2 : IsO X a2 d) => InvertO_at a1 c1 b a2 c2 d X h1 h2 hl2
  have HVa := hide fun (X : World) (hx : Below w.heap.size w X) => RValid_at a c d X (h.below hx (Nat.le_refl _)) hl2 (fun o ho => (ht o ho).2)
  have HLe := hide fun (X : World) (hx : Below w.heap.size w X) (hv : valB d = true) => RLens_at a c d X (h.below hx (Nat.le_refl _)) hl2 hv
  have HRA := hide fun (X : World) (hx : Below w.heap.size w X) (hv : valB d = true) (hf : frD d = b.length) => RApplyB_at a0 c0 b a c d X (hb.below hx (Nat.le_refl _)) (h.below hx (Nat.le_refl _)) hl2 hv hf (fun o ho => (ht o ho).1)
  have HRI := hide fun (X : World) (hx : Below w.heap.size w X) (hv : valB d = true) (hf : frD d = b.length) => RInvert_at a0 c0 b a c d X (hb.below hx (Nat.le_refl _)) (h.below hx (Nat.le_refl _)) hl2 hv hf
  have HTB := hide (runV_tb hb.2.2.2 d).2
  have HFC := hide (fit_cases d b.length)
  have HAE : Hid ((fitE d b.length = 0 → apE b d = apD b d ∧ invD b d = canA (dA (ivD b d))) ∧ (fitE d b.length ≠ 0 → apE b d = [] ∧ invD b d = [])) := hide ⟨fun h => by unfold apE invD; rw [if_pos h, if_pos h]; exact ⟨rfl, rfl⟩, fun h => by unfold apE invD; rw [if_neg h, if_neg h]; exact ⟨rfl, rfl⟩⟩
  clear hb h hz hl ht hl2
  generalize apE b d = AE at *
  generalize invD b d = IE at *
  generalize fitE d b.length = E at *
  go_enter Try.func5, Try.ntmps5
  go_wp2_with fail
  refine (unhide HAw).mono ?_
  rintro y w1 ⟨rfl, x1⟩
  dsimp only
  have HX1 := hide x1
  have HB1 := hide (unhide HB w1 x1)
  clear HAw x1
  go_wp2_with fail
  refine (unhide HB1).mono ?_
  rintro y w2 ⟨a2, c2, rfl, i2, x2⟩
  dsimp only
  have HX2 := hide ((unhide HX1).trans (x2.mono (unhide HX1).size))
  have HI2 := hide i2
  have HO2 := hide (unhide HO w2 (unhide HX2))
  clear HX1 HB1 i2 x2
  go_wp2_with fail
  refine (unhide HO2).mono ?_
  rintro y w3 ⟨a3, c3, rfl, i3, x3⟩
  dsimp only
  have HX3 := hide ((unhide HX2).trans (x3.mono (unhide HX2).size))
  have HA3 := hide (unhide HA w3 a2 c2 a3 c3 ((unhide HI2).below x3 (Nat.le_refl _)) i3)
  clear HX2 HO2 HI2 i3 x3
  go_wp2_with fail
  refine (unhide HA3).mono ?_
  rintro y w4 ⟨a4, c4, rfl, i4, x4⟩
  dsimp only
  have HX4 := hide ((unhide HX3).trans (x4.mono (unhide HX3).size))
  have HG4 := hide i4
  have HB4 := hide (unhide HB w4 (unhide HX4))
  clear HX3 HA3 i4 x4
  go_wp2_with fail
  refine (unhide HB4).mono ?_
  rintro y w5 ⟨a5, c5, rfl, i5, x5⟩
  dsimp only
  have HX5 := hide ((unhide HX4).trans (x5.mono (unhide HX4).size))
  have HG5 := hide ((unhide HG4).below x5 (Nat.le_refl _))
  have HI5 := hide i5
  have HO5 := hide (unhide HO w5 (unhide HX5))
  clear HX4 HB4 HG4 i5 x5 HB HO
  go_wp2_with fail
  refine (unhide HO5).mono ?_
  rintro y w6 ⟨a6, c6, rfl, i6, x6⟩
  dsimp only
  have HX6 := hide ((unhide HX5).trans (x6.mono (unhide HX5).size))
  have HG6 := hide ((unhide HG5).below x6 (Nat.le_refl _))
  have HV6 := hide (unhide HIv w6 a5 c5 a6 c6 ((unhide HI5).below x6 (Nat.le_refl _)) i6)
  clear HX5 HO5 HG5 HI5 i6 x6 HIv HA
  go_wp2_with fail
  refine (unhide HV6).mono ?_
  rintro y w7 ⟨a7, c7, rfl, i7, x7⟩
  dsimp only
  have HX7 := hide ((unhide HX6).trans (x7.mono (unhide HX6).size))
  have HG7 := hide ((unhide HG6).below x7 (Nat.le_refl _))
  have HI7 := hide i7
  have HV7 := hide (unhide HVa w7 (unhide HX7))
  clear HX6 HG6 HV6 i7 x7 HVa
  go_wp2_with fail
  refine (unhide HV7).mono ?_
  rintro y w8 ⟨rfl, x8⟩
  dsimp only
  have HX8 := hide ((unhide HX7).trans (x8.mono (unhide HX7).size))
  have HG8 := hide ((unhide HG7).below x8 (Nat.le_refl _))
  have HI8 := hide ((unhide HI7).below x8 (Nat.le_refl _))
  clear HX7 HG7 HI7 HV7 x8
  rcases unhide HFC with ⟨hv, rfl⟩ | ⟨hv, hf, rfl, t1, t2⟩ | ⟨hv, hf, rfl⟩
  · obtain ⟨rfl, rfl⟩ := (unhide HAE).2 (by decide)
    clear HAE HFC HRA HRI HLe HTB HG8 HI8
    rw [hv]
    clear hv
    go_wp2_with fail
    refine bodyPost_ret (results_tmp rfl _ _ _) rfl ⟨rfl, unhide HX8⟩
  · obtain ⟨rfl, rfl⟩ := (unhide HAE).2 (by decide)
    have HL8 := hide (unhide HLe w8 (unhide HX8) hv)
    clear HAE HFC HRA HRI HLe HTB HG8 HI8
    rw [hv]
    clear hv
    generalize frD d = F at *
    generalize toD d = T at *
    have t3 : ¬ F = b.length := hf
    clear hf
    go_wp2_with fail
    refine (unhide HL8).mono ?_
    rintro y w9 ⟨rfl, x9⟩
    dsimp only
    have HX9 := hide ((unhide HX8).trans (x9.mono (unhide HX8).size))
    clear HL8 HX8 x9
    go_wp2_with fail
    refine bodyPost_ret (results_tmp rfl _ _ _) rfl ⟨rfl, unhide HX9⟩
  · obtain ⟨rfl, rfl⟩ := (unhide HAE).1 rfl
    have HL8 := hide (unhide HLe w8 (unhide HX8) hv)
    rw [hf] at HL8
    have HLN : Hid ((canA (dA (ivD b d))).length ≤ 4611686018427387904 ∧ ∀ o ∈ canA (dA (ivD b d)), TbD o) := hide ⟨iv_small hv hf, can_tb (unhide HTB)⟩
    have HRA2 := hide fun (X : World) (hx : Below w.heap.size w X) => unhide HRA X hx hv hf
    have HRI2 := hide fun (X : World) (hx : Below w.heap.size w X) => unhide HRI X hx hv hf
    clear HAE HFC HLe HTB HRA HRI hf
    rw [hv]
    clear hv
    generalize toD d = T at *
    generalize canA (dA (ivD b d)) = IE at *
    go_wp2_with fail
    refine (unhide HL8).mono ?_
    rintro y w9 ⟨rfl, x9⟩
    dsimp only
    have HX9 := hide ((unhide HX8).trans (x9.mono (unhide HX8).size))
    have HG9 := hide ((unhide HG8).below x9 (Nat.le_refl _))
    have HI9 := hide ((unhide HI8).below x9 (Nat.le_refl _))
    clear HL8 HX8 HG8 HI8 x9
    have HXd := hide (unhide HX9).drew
    have HGd := hide ((unhide HG9).below ((Below.refl w9.heap.size w9).drew) (Nat.le_refl _))
    have HId := hide ((unhide HI9).below ((Below.refl w9.heap.size w9).drew) (Nat.le_refl _))
    have HSS : Hid (∀ Z, IsB Z a4 c4 (apD b d) → (convert 45 9 (.slice a4 (apD b d).length c4)).run Try.prog Z = .ok (.string (strOfNums (apD b d))) Z) := hide fun Z hZ => str_bs Z a4 c4 _ hZ.2.2.1
    have HS0 := hide (unhide HSS _ (unhide HGd))
    have HC4 := hide (unhide HRA2 _ (unhide HXd))
    clear HX9 HG9 HI9 HRA2
    generalize apD b d = AE at *
    generalize hst : strOfNums AE = st at *
    clear hst
    go_upto_region 15 with fail
    refine regionL (S := fun w' => (convert 45 9 (.slice a4 AE.length c4)).run Try.prog w' = .ok (.string st) w') (fun _ => false) (by kernel_rfl) ?_
    generalize w9.drew = X0 at *
    refine anyL_take (i := 0) (v := ?vrf0) rfl (by kernel_rfl) (by kernel_rfl) (by kernel_rfl) (by kernel_rfl) (fun _ _ _ h => h) (Or.inl ⟨by rfl, ?hrf0⟩) (unhide HS0) ?_
    case hrf0 => (intro w hSw; (try dsimp only at hSw); go_simp) <;> with_reducible rfl
    simp only [Act.put, List.getElem_toArray, List.getElem_cons_zero, List.setIfInBounds_toArray, List.set_cons_zero, List.set_cons_succ]
    refine anyL_take (i := 1) (v := ?vrf1) rfl (by kernel_rfl) (by kernel_rfl) (by kernel_rfl) (by kernel_rfl) (fun _ _ _ h => h) (Or.inl ⟨by rfl, ?hrf1⟩) (unhide HS0) ?_
    case hrf1 => (intro w hSw; (try dsimp only at hSw); go_simp) <;> with_reducible rfl
    simp only [Act.put, List.getElem_toArray, List.getElem_cons_zero, List.getElem_cons_succ, List.setIfInBounds_toArray, List.set_cons_zero, List.set_cons_succ]
    refine anyL_take (i := 2) (v := ?vrf2) rfl (by kernel_rfl) (by kernel_rfl) (by kernel_rfl) (by kernel_rfl) (fun _ _ _ h => h) (Or.inl ⟨by rfl, ?hrf2⟩) (unhide HS0) ?_
    case hrf2 => (intro w hSw; (try dsimp only at hSw); go_simp) <;> with_reducible rfl
    simp only [Act.put, List.getElem_toArray, List.getElem_cons_zero, List.getElem_cons_succ, List.setIfInBounds_toArray, List.set_cons_zero, List.set_cons_succ]
    refine anyL_take (i := 3) (v := ?vrf3) rfl (by kernel_rfl) (by kernel_rfl) (by kernel_rfl) (by kernel_rfl) (fun _ _ _ h => h) (Or.inl ⟨by rfl, ?hrf3⟩) (unhide HS0) ?_
    case hrf3 => (intro w hSw; (try dsimp only at hSw); go_simp) <;> with_reducible rfl
    simp only [Act.put, List.getElem_toArray, List.getElem_cons_zero, List.getElem_cons_succ, List.setIfInBounds_toArray, List.set_cons_zero, List.set_cons_succ]
    refine anyL_ready (rs := [4]) (by kernel_rfl) (by simp) ?_
    refine AllL.cons rfl (fun K hK => ?_) AllL.nil
    go_simp
    refine (unhide HC4).mono ?_
    rintro e Xa ⟨v10, rfl, hcv10, xa⟩
    have hcvA := hcv10 Xa (Below.refl _ _)
    have HXa := hide ((unhide HXd).trans (xa.mono (unhide HXd).size))
    have HGa := hide ((unhide HGd).below xa (Nat.le_refl _))
    have HIa := hide ((unhide HId).below xa (Nat.le_refl _))
    have HS1 := hide (unhide HSS _ (unhide HGa))
    have HC11 := hide (unhide HRI2 _ (unhide HXa))
    clear HC4 hcv10 xa HXd HGd HId HRI2
    dsimp only
    refine unhide hK _ _ (fun _ => unhide HS1) ?_
    clear hK K
    refine anyL_ready (rs := [5]) (by kernel_rfl) (by simp) ?_
    refine AllL.cons rfl (fun K hK => ?_) AllL.nil
    go_simp
    clear hcvA
    refine unhide hK _ _ (fun _ => unhide HS1) ?_
    clear hK K
    refine anyL_take (i := 6) (v := ?vrf4) rfl (by kernel_rfl) (by kernel_rfl) (by kernel_rfl) (by kernel_rfl) (fun _ _ _ h => h) (Or.inl ⟨by rfl, ?hrf4⟩) (unhide HS1) ?_
    case hrf4 => (intro w hSw; (try dsimp only at hSw); go_simp) <;> with_reducible rfl
    simp only [Act.put, List.getElem_toArray, List.getElem_cons_zero, List.getElem_cons_succ, List.setIfInBounds_toArray, List.set_cons_zero, List.set_cons_succ]
    refine anyL_take (i := 7) (v := ?vrf5) rfl (by kernel_rfl) (by kernel_rfl) (by kernel_rfl) (by kernel_rfl) (fun _ _ _ h => h) (Or.inl ⟨by rfl, ?hrf5⟩) (unhide HS1) ?_
    case hrf5 => (intro w hSw; (try dsimp only at hSw); go_simp) <;> with_reducible rfl
    simp only [Act.put, List.getElem_toArray, List.getElem_cons_zero, List.getElem_cons_succ, List.setIfInBounds_toArray, List.set_cons_zero, List.set_cons_succ]
    refine anyL_take (i := 8) (v := ?vrf6) rfl (by kernel_rfl) (by kernel_rfl) (by kernel_rfl) (by kernel_rfl) (fun _ _ _ h => h) (Or.inl ⟨by rfl, ?hrf6⟩) (unhide HS1) ?_
    case hrf6 => (intro w hSw; (try dsimp only at hSw); go_simp) <;> with_reducible rfl
    simp only [Act.put, List.getElem_toArray, List.getElem_cons_zero, List.getElem_cons_succ, List.setIfInBounds_toArray, List.set_cons_zero, List.set_cons_succ]
    refine anyL_take (i := 9) (v := ?vrf7) rfl (by kernel_rfl) (by kernel_rfl) (by kernel_rfl) (by kernel_rfl) (fun _ _ _ h => h) (Or.inl ⟨by rfl, ?hrf7⟩) (unhide HS1) ?_
    case hrf7 => (intro w hSw; (try dsimp only at hSw); go_simp) <;> with_reducible rfl
    simp only [Act.put, List.getElem_toArray, List.getElem_cons_zero, List.getElem_cons_succ, List.setIfInBounds_toArray, List.set_cons_zero, List.set_cons_succ]
    refine anyL_take (i := 10) (v := ?vrf8) rfl (by kernel_rfl) (by kernel_rfl) (by kernel_rfl) (by kernel_rfl) (fun _ _ _ h => h) (Or.inl ⟨by rfl, ?hrf8⟩) (unhide HS1) ?_
    case hrf8 => (intro w hSw; (try dsimp only at hSw); go_simp) <;> with_reducible rfl
    simp only [Act.put, List.getElem_toArray, List.getElem_cons_zero, List.getElem_cons_succ, List.setIfInBounds_toArray, List.set_cons_zero, List.set_cons_succ]
    refine anyL_ready (rs := [11]) (by kernel_rfl) (by simp) ?_
    refine AllL.cons rfl (fun K hK => ?_) AllL.nil
    go_simp
    refine (unhide HC11).mono ?_
    rintro e Xb ⟨a11, c11, rfl, i11, _, xb⟩
    have HXb := hide ((unhide HXa).trans (xb.mono (unhide HXa).size))
    have HS2 := hide (unhide HSS _ ((unhide HGa).below xb (Nat.le_refl _)))
    have HC12 := hide (same13_at a7 c7 IE a11 c11 IE Xb ((unhide HIa).below xb (Nat.le_refl _)) i11 (unhide HLN).1 (unhide HLN).1 (unhide HLN).2 (unhide HLN).2)
    rw [decide_eq_true rfl] at HC12
    have HG2 := hide ((unhide HGa).below xb (Nat.le_refl _))
    clear HC11 xb i11 HIa HXa HGa HLN
    dsimp only
    refine unhide hK _ _ (fun _ => unhide HS2) ?_
    clear hK K
    refine anyL_ready (rs := [12]) (by kernel_rfl) (by simp) ?_
    refine AllL.cons rfl (fun K hK => ?_) AllL.nil
    go_simp
    refine (unhide HC12).mono ?_
    rintro e Xc ⟨rfl, xc⟩
    have HXc := hide ((unhide HXb).trans (xc.mono (unhide HXb).size))
    have HS3 := hide (unhide HSS _ ((unhide HG2).below xc (Nat.le_refl _)))
    clear HC12 xc HXb HG2
    dsimp only
    refine unhide hK _ _ (fun _ => unhide HS3) ?_
    clear hK K
    refine anyL_take (i := 13) (v := ?vrf9) rfl (by kernel_rfl) (by kernel_rfl) (by kernel_rfl) (by kernel_rfl) (fun _ _ _ h => h) (Or.inl ⟨by rfl, ?hrf9⟩) (unhide HS3) ?_
    case hrf9 => (intro w hSw; (try dsimp only at hSw); go_simp) <;> with_reducible rfl
    simp only [Act.put, List.getElem_toArray, List.getElem_cons_zero, List.getElem_cons_succ, List.setIfInBounds_toArray, List.set_cons_zero, List.set_cons_succ]
    refine anyL_take (i := 14) (v := ?vrf10) rfl (by kernel_rfl) (by kernel_rfl) (by kernel_rfl) (by kernel_rfl) (fun _ _ _ h => h) (Or.inl ⟨by rfl, ?hrf10⟩) (unhide HS3) ?_
    case hrf10 => (intro w hSw; (try dsimp only at hSw); go_simp) <;> with_reducible rfl
    simp only [Act.put, List.getElem_toArray, List.getElem_cons_zero, List.getElem_cons_succ, List.setIfInBounds_toArray, List.set_cons_zero, List.set_cons_succ]
    refine anyL_done (by kernel_rfl) ?_ _
    go_wp2_with fail
    refine bodyPost_ret (results_tmp rfl _ _ _) rfl ⟨rfl, unhide HXc⟩

end Go.Proofs.Ytecolpnbbpbflaa
