/- Layer 13: DeltaApply's walk. · Layer 13: DeltaCanon's walk (written by wip/tools/dsf.py). -/
import Derived.Test.YtecolpnbbpbflaaMg22
import Derived.Test.YtecolpnbbpbflaaMg20

section
namespace Go.Proofs.Ytecolpnbbpbflaa
open Go.ChangeShapes Go.WideShapes Go.ChangeAt Go.RowKit
attribute [local go_sem] Oper.semAt_some

def TbB (b : Bld) : Prop := (∀ o ∈ b.ops, TbD o) ∧ ∀ x ∈ b.tx, 0 ≤ x ∧ x ≤ 255
theorem tb_fin {b : Bld} (h : TbB b) : ∀ o ∈ b.fin, TbD o := by
  intro o ho
  unfold Bld.fin at ho
  rcases List.mem_append.1 ho with ho | ho
  · rcases List.mem_append.1 ho with ho | ho
    · rcases List.mem_append.1 ho with ho | ho
      · exact h.1 o ho
      · unfold kO at ho
        split at ho
        · cases ho
        · rw [List.mem_singleton.1 ho]; intro x hx; cases hx
    · unfold pO at ho
      split at ho
      · cases ho
      · rw [List.mem_singleton.1 ho]; exact h.2
  · unfold dO at ho
    split at ho
    · cases ho
    · rw [List.mem_singleton.1 ho]; intro x hx; cases hx
theorem tb_op {b : Bld} {o : Dop} (h : TbB b) (ho : TbD o) : TbB (b.op o) := by
  unfold Bld.op
  split
  · unfold Bld.keep
    split
    · exact h
    · split
      · exact ⟨h.1, fun x hx => by cases hx⟩
      · exact ⟨tb_fin h, fun x hx => by cases hx⟩
  · split
    · refine ⟨h.1, fun x hx => ?_⟩
      rcases List.mem_append.1 hx with hx | hx
      · exact h.2 x hx
      · exact ho x hx
    · exact h
theorem tb_feed : ∀ (e : List Dop) (b : Bld), TbB b → (∀ o ∈ e, TbD o) → TbB (feedD b e)
  | [], _, h, _ => h
  | o :: r, b, h, he => tb_feed r (b.op o) (tb_op h (he o List.mem_cons_self)) (fun q hq => he q (List.mem_cons_of_mem _ hq))
theorem can_tb {e : List Dop} (he : ∀ o ∈ e, TbD o) : ∀ o ∈ canA (dA e), TbD o := by
  unfold canA
  rw [← feedD_A]
  exact tb_fin (tb_feed e b0 ⟨fun o ho => by simp [b0] at ho, fun x hx => by simp [b0] at hx⟩ he)
theorem iv_small {b : List Int} {d : List Dop} (hv : valB d = true) (hf : frD d = b.length) : (canA (dA (ivD b d))).length ≤ 4611686018427387904 := by
  have h1 := can_len (canA_can (dA (ivD b d))).p
  have h2 : (dA (canA (dA (ivD b d)))).length = (dA (ivD b d)).length := fin_len _
  have h3 := (runV_len hv hf d.length (Nat.le_refl _)).2
  have h4 := (valB_nn hv).2
  rw [List.take_length] at h3
  have h5 : (dA (ivD b d)).length ≤ frD d + toD d := h3
  omega
set_option maxRecDepth 100000 in
set_option maxHeartbeats 4000000 in
theorem DeltaApply_any (a0 : Option Addr) (c0 : Nat) (b : List Int) (a : Option Addr) (c : Nat) (d : List Dop) (w : World) (hb : IsB w a0 c0 b) (h : IsO w a d) (hz : d = [] ∨ ∃ q, a = some q) (hl : d.length * 32 ≤ 140737488355328) (ht : ∀ o ∈ d, TbD o ∧ o.t.length ≤ 140737488355328) :
    Calls Try.prog 5 #[.slice a0 b.length c0, .slice a d.length c] w fun y w' => y = .returned (.bool true) ∧ Below w.heap.size w w' := by
  have hl2 : d.length ≤ 4611686018427387904 := by omega
  have HAw := hide (awake13_at w)
  have HB := hide fun (X : World) (hx : Below w.heap.size w X) => bytes13B a0 c0 b X (hb.below hx (Nat.le_refl _))
  have HO := hide fun (X : World) (hx : Below w.heap.size w X) => own13G a c d X (h.below hx (Nat.le_refl _)) hz hl
  have HA := hide fun (X : World) (a1 : Option Addr) (c1 : Nat) (a2 : Option Addr) (c2 : Nat) (h1 : IsB X a1 c1 b) (h2 : IsO X a2 d) => ApplyB_at a1 c1 b a2 c2 d X h1 h2 hl2 (fun o ho => (ht o ho).1)
  have HIv := hide fun (X : World) (a1 : Option Addr) (c1 : Nat) (a2 : Option Addr) (c2 : Nat) (h1 : IsB X a1 c1 b) (h2 : IsO X a2 d) => InvertO_at a1 c1 b a2 c2 d X h1 h2 hl2
  have HVa := hide fun (X : World) (hx : Below w.heap.size w X) => RValid_at a c d X (h.below hx (Nat.le_refl _)) hl2 (fun o ho => (ht o ho).2)
  have HLe := hide fun (X : World) (hx : Below w.heap.size w X) (hv : valB d = true) => RLens_at a c d X (h.below hx (Nat.le_refl _)) hl2 hv
  have HRA := hide fun (X : World) (hx : Below w.heap.size w X) (hv : valB d = true) (hf : frD d = b.length) => RApplyB_at a0 c0 b a c d X (hb.below hx (Nat.le_refl _)) (h.below hx (Nat.le_refl _)) hl2 hv hf (fun o ho => (ht o ho).1)
  have HRI := hide fun (X : World) (hx : Below w.heap.size w X) (hv : valB d = true) (hf : frD d = b.length) => RInvert_at a0 c0 b a c d X (hb.below hx (Nat.le_refl _)) (h.below hx (Nat.le_refl _)) hl2 hv hf
  have HTB := hide (runV_tb hb.2.2.2 d).2
  have HFC := hide (fit_cases d b.length)
  have HAE : Hid ((fitE d b.length = 0 → apE b d = apD b d ∧ invD b d = canA (dA (ivD b d))) ∧ (fitE d b.length ≠ 0 → apE b d = [] ∧ invD b d = [])) := hide ⟨fun h => by unfold apE invD; rw [if_pos h, if_pos h]; exact ⟨rfl, rfl⟩, fun h => by unfold apE invD; rw [if_neg h, if_neg h]; exact ⟨rfl, rfl⟩⟩
  clear hb h hz hl ht hl2
  generalize apE b d = AE at *
  generalize invD b d = IE at *
  generalize fitE d b.length = E at *
  go_enter Try.func5, Try.ntmps5
  go_wp2_with fail
  refine (unhide HAw).mono ?_
  rintro y w1 ⟨rfl, x1⟩
  dsimp only
  have HX1 := hide x1
  have HB1 := hide (unhide HB w1 x1)
  clear HAw x1
  go_wp2_with fail
  refine (unhide HB1).mono ?_
  rintro y w2 ⟨a2, c2, rfl, i2, x2⟩
  dsimp only
  have HX2 := hide ((unhide HX1).trans (x2.mono (unhide HX1).size))
  have HI2 := hide i2
  have HO2 := hide (unhide HO w2 (unhide HX2))
  clear HX1 HB1 i2 x2
  go_wp2_with fail
  refine (unhide HO2).mono ?_
  rintro y w3 ⟨a3, c3, rfl, i3, x3⟩
  dsimp only
  have HX3 := hide ((unhide HX2).trans (x3.mono (unhide HX2).size))
  have HA3 := hide (unhide HA w3 a2 c2 a3 c3 ((unhide HI2).below x3 (Nat.le_refl _)) i3)
  clear HX2 HO2 HI2 i3 x3
  go_wp2_with fail
  refine (unhide HA3).mono ?_
  rintro y w4 ⟨a4, c4, rfl, i4, x4⟩
  dsimp only
  have HX4 := hide ((unhide HX3).trans (x4.mono (unhide HX3).size))
  have HG4 := hide i4
  have HB4 := hide (unhide HB w4 (unhide HX4))
  clear HX3 HA3 i4 x4
  go_wp2_with fail
  refine (unhide HB4).mono ?_
  rintro y w5 ⟨a5, c5, rfl, i5, x5⟩
  dsimp only
  have HX5 := hide ((unhide HX4).trans (x5.mono (unhide HX4).size))
  have HG5 := hide ((unhide HG4).below x5 (Nat.le_refl _))
  have HI5 := hide i5
  have HO5 := hide (unhide HO w5 (unhide HX5))
  clear HX4 HB4 HG4 i5 x5 HB HO
  go_wp2_with fail
  refine (unhide HO5).mono ?_
  rintro y w6 ⟨a6, c6, rfl, i6, x6⟩
  dsimp only
  have HX6 := hide ((unhide HX5).trans (x6.mono (unhide HX5).size))
  have HG6 := hide ((unhide HG5).below x6 (Nat.le_refl _))
  have HV6 := hide (unhide HIv w6 a5 c5 a6 c6 ((unhide HI5).below x6 (Nat.le_refl _)) i6)
  clear HX5 HO5 HG5 HI5 i6 x6 HIv HA
  go_wp2_with fail
  refine (unhide HV6).mono ?_
  rintro y w7 ⟨a7, c7, rfl, i7, x7⟩
  dsimp only
  have HX7 := hide ((unhide HX6).trans (x7.mono (unhide HX6).size))
  have HG7 := hide ((unhide HG6).below x7 (Nat.le_refl _))
  have HI7 := hide i7
  have HV7 := hide (unhide HVa w7 (unhide HX7))
  clear HX6 HG6 HV6 i7 x7 HVa
  go_wp2_with fail
  refine (unhide HV7).mono ?_
  rintro y w8 ⟨rfl, x8⟩
  dsimp only
  have HX8 := hide ((unhide HX7).trans (x8.mono (unhide HX7).size))
  have HG8 := hide ((unhide HG7).below x8 (Nat.le_refl _))
  have HI8 := hide ((unhide HI7).below x8 (Nat.le_refl _))
  clear HX7 HG7 HI7 HV7 x8
  rcases unhide HFC with ⟨hv, rfl⟩ | ⟨hv, hf, rfl, t1, t2⟩ | ⟨hv, hf, rfl⟩
  · obtain ⟨rfl, rfl⟩ := (unhide HAE).2 (by decide)
    clear HAE HFC HRA HRI HLe HTB HG8 HI8
    rw [hv]
    clear hv
    go_wp2_with fail
    refine bodyPost_ret (results_tmp rfl _ _ _) rfl ⟨rfl, unhide HX8⟩
  · obtain ⟨rfl, rfl⟩ := (unhide HAE).2 (by decide)
    have HL8 := hide (unhide HLe w8 (unhide HX8) hv)
    clear HAE HFC HRA HRI HLe HTB HG8 HI8
    rw [hv]
    clear hv
    generalize frD d = F at *
    generalize toD d = T at *
    have t3 : ¬ F = b.length := hf
    clear hf
    go_wp2_with fail
    refine (unhide HL8).mono ?_
    rintro y w9 ⟨rfl, x9⟩
    dsimp only
    have HX9 := hide ((unhide HX8).trans (x9.mono (unhide HX8).size))
    clear HL8 HX8 x9
    go_wp2_with fail
    refine bodyPost_ret (results_tmp rfl _ _ _) rfl ⟨rfl, unhide HX9⟩
  · obtain ⟨rfl, rfl⟩ := (unhide HAE).1 rfl
    have HL8 := hide (unhide HLe w8 (unhide HX8) hv)
    rw [hf] at HL8
    have HLN : Hid ((canA (dA (ivD b d))).length ≤ 4611686018427387904 ∧ ∀ o ∈ canA (dA (ivD b d)), TbD o) := hide ⟨iv_small hv hf, can_tb (unhide HTB)⟩
    have HRA2 := hide fun (X : World) (hx : Below w.heap.size w X) => unhide HRA X hx hv hf
    have HRI2 := hide fun (X : World) (hx : Below w.heap.size w X) => unhide HRI X hx hv hf
    clear HAE HFC HLe HTB HRA HRI hf
    rw [hv]
    clear hv
    generalize toD d = T at *
    generalize canA (dA (ivD b d)) = IE at *
    go_wp2_with fail
    refine (unhide HL8).mono ?_
    rintro y w9 ⟨rfl, x9⟩
    dsimp only
    have HX9 := hide ((unhide HX8).trans (x9.mono (unhide HX8).size))
    have HG9 := hide ((unhide HG8).below x9 (Nat.le_refl _))
    have HI9 := hide ((unhide HI8).below x9 (Nat.le_refl _))
    clear HL8 HX8 HG8 HI8 x9
    have HXd := hide (unhide HX9).drew
    have HGd := hide ((unhide HG9).below ((Below.refl w9.heap.size w9).drew) (Nat.le_refl _))
    have HId := hide ((unhide HI9).below ((Below.refl w9.heap.size w9).drew) (Nat.le_refl _))
    have HSS : Hid (∀ Z, IsB Z a4 c4 (apD b d) → (convert 45 9 (.slice a4 (apD b d).length c4)).run Try.prog Z = .ok (.string (strOfNums (apD b d))) Z) := hide fun Z hZ => str_bs Z a4 c4 _ hZ.2.2.1
    have HS0 := hide (unhide HSS _ (unhide HGd))
    have HC4 := hide (unhide HRA2 _ (unhide HXd))
    clear HX9 HG9 HI9 HRA2
    generalize apD b d = AE at *
    generalize hst : strOfNums AE = st at *
    clear hst
    go_upto_region 15 with fail
    refine regionL (S := fun w' => (convert 45 9 (.slice a4 AE.length c4)).run Try.prog w' = .ok (.string st) w') (fun _ => false) (by kernel_rfl) ?_
    generalize w9.drew = X0 at *
    refine anyL_take (i := 0) (v := ?vrf0) rfl (by kernel_rfl) (by kernel_rfl) (by kernel_rfl) (by kernel_rfl) (fun _ _ _ h => h) (Or.inl ⟨by rfl, ?hrf0⟩) (unhide HS0) ?_
    case hrf0 => (intro w hSw; (try dsimp only at hSw); go_simp) <;> with_reducible rfl
    simp only [Act.put, List.getElem_toArray, List.getElem_cons_zero, List.setIfInBounds_toArray, List.set_cons_zero, List.set_cons_succ]
    refine anyL_take (i := 1) (v := ?vrf1) rfl (by kernel_rfl) (by kernel_rfl) (by kernel_rfl) (by kernel_rfl) (fun _ _ _ h => h) (Or.inl ⟨by rfl, ?hrf1⟩) (unhide HS0) ?_
    case hrf1 => (intro w hSw; (try dsimp only at hSw); go_simp) <;> with_reducible rfl
    simp only [Act.put, List.getElem_toArray, List.getElem_cons_zero, List.getElem_cons_succ, List.setIfInBounds_toArray, List.set_cons_zero, List.set_cons_succ]
    refine anyL_take (i := 2) (v := ?vrf2) rfl (by kernel_rfl) (by kernel_rfl) (by kernel_rfl) (by kernel_rfl) (fun _ _ _ h => h) (Or.inl ⟨by rfl, ?hrf2⟩) (unhide HS0) ?_
    case hrf2 => (intro w hSw; (try dsimp only at hSw); go_simp) <;> with_reducible rfl
    simp only [Act.put, List.getElem_toArray, List.getElem_cons_zero, List.getElem_cons_succ, List.setIfInBounds_toArray, List.set_cons_zero, List.set_cons_succ]
    refine anyL_take (i := 3) (v := ?vrf3) rfl (by kernel_rfl) (by kernel_rfl) (by kernel_rfl) (by kernel_rfl) (fun _ _ _ h => h) (Or.inl ⟨by rfl, ?hrf3⟩) (unhide HS0) ?_
    case hrf3 => (intro w hSw; (try dsimp only at hSw); go_simp) <;> with_reducible rfl
    simp only [Act.put, List.getElem_toArray, List.getElem_cons_zero, List.getElem_cons_succ, List.setIfInBounds_toArray, List.set_cons_zero, List.set_cons_succ]
    refine anyL_ready (rs := [4]) (by kernel_rfl) (by simp) ?_
    refine AllL.cons rfl (fun K hK => ?_) AllL.nil
    go_simp
    refine (unhide HC4).mono ?_
    rintro e Xa ⟨v10, rfl, hcv10, xa⟩
    have hcvA := hcv10 Xa (Below.refl _ _)
    have HXa := hide ((unhide HXd).trans (xa.mono (unhide HXd).size))
    have HGa := hide ((unhide HGd).below xa (Nat.le_refl _))
    have HIa := hide ((unhide HId).below xa (Nat.le_refl _))
    have HS1 := hide (unhide HSS _ (unhide HGa))
    have HC11 := hide (unhide HRI2 _ (unhide HXa))
    clear HC4 hcv10 xa HXd HGd HId HRI2
    dsimp only
    refine unhide hK _ _ (fun _ => unhide HS1) ?_
    clear hK K
    refine anyL_ready (rs := [5]) (by kernel_rfl) (by simp) ?_
    refine AllL.cons rfl (fun K hK => ?_) AllL.nil
    go_simp
    clear hcvA
    refine unhide hK _ _ (fun _ => unhide HS1) ?_
    clear hK K
    refine anyL_take (i := 6) (v := ?vrf4) rfl (by kernel_rfl) (by kernel_rfl) (by kernel_rfl) (by kernel_rfl) (fun _ _ _ h => h) (Or.inl ⟨by rfl, ?hrf4⟩) (unhide HS1) ?_
    case hrf4 => (intro w hSw; (try dsimp only at hSw); go_simp) <;> with_reducible rfl
    simp only [Act.put, List.getElem_toArray, List.getElem_cons_zero, List.getElem_cons_succ, List.setIfInBounds_toArray, List.set_cons_zero, List.set_cons_succ]
    refine anyL_take (i := 7) (v := ?vrf5) rfl (by kernel_rfl) (by kernel_rfl) (by kernel_rfl) (by kernel_rfl) (fun _ _ _ h => h) (Or.inl ⟨by rfl, ?hrf5⟩) (unhide HS1) ?_
    case hrf5 => (intro w hSw; (try dsimp only at hSw); go_simp) <;> with_reducible rfl
    simp only [Act.put, List.getElem_toArray, List.getElem_cons_zero, List.getElem_cons_succ, List.setIfInBounds_toArray, List.set_cons_zero, List.set_cons_succ]
    refine anyL_take (i := 8) (v := ?vrf6) rfl (by kernel_rfl) (by kernel_rfl) (by kernel_rfl) (by kernel_rfl) (fun _ _ _ h => h) (Or.inl ⟨by rfl, ?hrf6⟩) (unhide HS1) ?_
    case hrf6 => (intro w hSw; (try dsimp only at hSw); go_simp) <;> with_reducible rfl
    simp only [Act.put, List.getElem_toArray, List.getElem_cons_zero, List.getElem_cons_succ, List.setIfInBounds_toArray, List.set_cons_zero, List.set_cons_succ]
    refine anyL_take (i := 9) (v := ?vrf7) rfl (by kernel_rfl) (by kernel_rfl) (by kernel_rfl) (by kernel_rfl) (fun _ _ _ h => h) (Or.inl ⟨by rfl, ?hrf7⟩) (unhide HS1) ?_
    case hrf7 => (intro w hSw; (try dsimp only at hSw); go_simp) <;> with_reducible rfl
    simp only [Act.put, List.getElem_toArray, List.getElem_cons_zero, List.getElem_cons_succ, List.setIfInBounds_toArray, List.set_cons_zero, List.set_cons_succ]
    refine anyL_take (i := 10) (v := ?vrf8) rfl (by kernel_rfl) (by kernel_rfl) (by kernel_rfl) (by kernel_rfl) (fun _ _ _ h => h) (Or.inl ⟨by rfl, ?hrf8⟩) (unhide HS1) ?_
    case hrf8 => (intro w hSw; (try dsimp only at hSw); go_simp) <;> with_reducible rfl
    simp only [Act.put, List.getElem_toArray, List.getElem_cons_zero, List.getElem_cons_succ, List.setIfInBounds_toArray, List.set_cons_zero, List.set_cons_succ]
    refine anyL_ready (rs := [11]) (by kernel_rfl) (by simp) ?_
    refine AllL.cons rfl (fun K hK => ?_) AllL.nil
    go_simp
    refine (unhide HC11).mono ?_
    rintro e Xb ⟨a11, c11, rfl, i11, _, xb⟩
    have HXb := hide ((unhide HXa).trans (xb.mono (unhide HXa).size))
    have HS2 := hide (unhide HSS _ ((unhide HGa).below xb (Nat.le_refl _)))
    have HC12 := hide (same13_at a7 c7 IE a11 c11 IE Xb ((unhide HIa).below xb (Nat.le_refl _)) i11 (unhide HLN).1 (unhide HLN).1 (unhide HLN).2 (unhide HLN).2)
    rw [decide_eq_true rfl] at HC12
    have HG2 := hide ((unhide HGa).below xb (Nat.le_refl _))
    clear HC11 xb i11 HIa HXa HGa HLN
    dsimp only
    refine unhide hK _ _ (fun _ => unhide HS2) ?_
    clear hK K
    refine anyL_ready (rs := [12]) (by kernel_rfl) (by simp) ?_
    refine AllL.cons rfl (fun K hK => ?_) AllL.nil
    go_simp
    refine (unhide HC12).mono ?_
    rintro e Xc ⟨rfl, xc⟩
    have HXc := hide ((unhide HXb).trans (xc.mono (unhide HXb).size))
    have HS3 := hide (unhide HSS _ ((unhide HG2).below xc (Nat.le_refl _)))
    clear HC12 xc HXb HG2
    dsimp only
    refine unhide hK _ _ (fun _ => unhide HS3) ?_
    clear hK K
    refine anyL_take (i := 13) (v := ?vrf9) rfl (by kernel_rfl) (by kernel_rfl) (by kernel_rfl) (by kernel_rfl) (fun _ _ _ h => h) (Or.inl ⟨by rfl, ?hrf9⟩) (unhide HS3) ?_
    case hrf9 => (intro w hSw; (try dsimp only at hSw); go_simp) <;> with_reducible rfl
    simp only [Act.put, List.getElem_toArray, List.getElem_cons_zero, List.getElem_cons_succ, List.setIfInBounds_toArray, List.set_cons_zero, List.set_cons_succ]
    refine anyL_take (i := 14) (v := ?vrf10) rfl (by kernel_rfl) (by kernel_rfl) (by kernel_rfl) (by kernel_rfl) (fun _ _ _ h => h) (Or.inl ⟨by rfl, ?hrf10⟩) (unhide HS3) ?_
    case hrf10 => (intro w hSw; (try dsimp only at hSw); go_simp) <;> with_reducible rfl
    simp only [Act.put, List.getElem_toArray, List.getElem_cons_zero, List.getElem_cons_succ, List.setIfInBounds_toArray, List.set_cons_zero, List.set_cons_succ]
    refine anyL_done (by kernel_rfl) ?_ _
    go_wp2_with fail
    refine bodyPost_ret (results_tmp rfl _ _ _) rfl ⟨rfl, unhide HXc⟩

end Go.Proofs.Ytecolpnbbpbflaa
end

section
namespace Go.Proofs.Ytecolpnbbpbflaa
open Go.ChangeShapes Go.WideShapes Go.ChangeAt Go.RowKit
attribute [local go_sem] Oper.semAt_some

theorem own_isOC {W : World} {B : Nat} {t : TypeId} {v : Value} {d : List Dop} (h : W.ownsRow B t 3 v d.length (opsV d)) : ∃ a c, v = .slice a d.length c ∧ IsO W a d ∧ d.length ≤ c := by
  have hh := h
  rcases h.2 with ⟨rfl, h0⟩ | ⟨g, cap, cur, rfl, hB, hg, hc, hm, hs, ht⟩
  · have : d = [] := List.length_eq_zero_iff.1 h0
    exact ⟨none, 0, by rw [h0], Or.inl this, by omega⟩
  · refine ⟨some ⟨g, 0, none⟩, cap, rfl, Or.inr ⟨g, 0, rfl, (Array.getElem?_eq_some_iff.1 hg).1, fun k hk => ?_⟩, hc⟩
    have f : ∀ j, j < 3 → W.cell? ⟨g, 0 + (k * 3 + j), none⟩ = (opL (d.getD k opZ))[j]? := fun j hj => by
      have e := opsV_get d k j hk hj
      obtain ⟨u, hu⟩ : ∃ u, (opL (d.getD k opZ))[j]? = some u := ⟨_, List.getElem?_eq_getElem (by simpa [opL] using hj)⟩
      rw [hu] at e ⊢
      have := World.ownsRow.cells hh rfl (k * 3 + j) u e
      rwa [Addr.add_lit] at this
    exact ⟨f 0 (by decide), f 1 (by decide), f 2 (by decide)⟩
theorem can_small {d : List Dop} (hk : ∀ o ∈ d, o.k = 1 ∨ o.k = 2 ∨ o.k = 3) (hl : frD d ≤ 268435456 ∧ toD d ≤ 268435456) : (canA (dA d)).length ≤ 1073741824 := by
  have h1 := dA_len hk
  have h2 := feed_bound (dA d)
  have h3 := fin_lenD (feedA b0 (dA d))
  unfold canA
  omega
theorem canD_len (d : List Dop) : (canD d).1.length ≤ 4611686018427387904 := by
  unfold canD
  cases h1 : d.all knB with
  | false => simp
  | true =>
    cases h2 : lonB d with
    | true => simp
    | false =>
      simp only [if_true, Bool.false_eq_true, if_false]
      have h3 : ¬ (268435456 < frD d ∨ 268435456 < toD d) := of_decide_eq_false h2
      have := can_small (d := d) (fun o ho => kn_k h1 ho) (by omega)
      omega
theorem canD_tb {d : List Dop} (h : ∀ o ∈ d, TbD o) : ∀ o ∈ (canD d).1, TbD o := by
  unfold canD
  split
  · split
    · simp
    · exact can_tb h
  · simp
theorem her_tb {m : Nat} {cs : List Dop} (h : ∀ o ∈ cs, TbD o) : ∀ o ∈ herL m cs, TbD o := by
  unfold herL
  split
  · exact h
  · intro o ho
    rcases List.mem_append.1 ho with ho | ho
    · exact h o ho
    · simp at ho; subst ho; intro x hx; simp at hx
theorem up_tb {f : Dop → Dop} {l : List Dop} (h : ∀ o ∈ l, TbD o) (hf : ∀ x, TbD x → TbD (f x)) : ∀ o ∈ upL f l, TbD o := by
  by_cases hl : l = []
  · subst hl; intro o ho; simp [upL] at ho
  · obtain ⟨e, x, rfl⟩ := list_snoc hl
    rw [upL_snoc]
    intro o ho
    rcases List.mem_append.1 ho with ho | ho
    · exact h o (by simp [ho])
    · simp at ho; subst ho; exact hf x (h x (by simp))
theorem stL_tb {s : Nat × List Dop} {o : Dop} (h : ∀ x ∈ s.2, TbD x) (ho : TbD o) : ∀ x ∈ (stL s o).2, TbD x := by
  unfold stL
  split
  · exact h
  · split
    · exact up_tb (her_tb h) (fun x _ => ho)
    · exact up_tb (her_tb h) (fun x hx => hx)
theorem runL_tb {d : List Dop} (h : ∀ o ∈ d, TbD o) : ∀ s : Nat × List Dop, (∀ x ∈ s.2, TbD x) → ∀ x ∈ (d.foldl stL s).2, TbD x := by
  induction d with
  | nil => intro s hs; exact hs
  | cons o r ih => intro s hs; exact ih (fun x hx => h x (by simp [hx])) _ (stL_tb hs (h o (by simp)))
set_option maxRecDepth 100000 in
set_option maxHeartbeats 2000000 in
theorem DeltaCanon_any (a : Option Addr) (c : Nat) (d : List Dop) (w : World) (h : IsO w a d) (hz : d = [] ∨ ∃ q, a = some q) (hl : d.length * 32 ≤ 140737488355328) (ht : ∀ o ∈ d, TbD o ∧ o.t.length ≤ 140737488355328) :
    Calls Try.prog 3 #[.slice a d.length c] w fun y w' => y = .returned (.bool true) ∧ Below w.heap.size w w' := by
  have hl2 : d.length ≤ 4611686018427387904 := by omega
  have HAw := hide (awake13_at w)
  have HO := hide fun (X : World) (hx : Below w.heap.size w X) => own13G a c d X (h.below hx (Nat.le_refl _)) hz hl
  have HV := hide fun (X : World) (_ : Below w.heap.size w X) (a2 : Option Addr) (c2 : Nat) (h2 : IsO X a2 d) => Valid_atD a2 c2 d X h2 hl2
  have HRV := hide fun (X : World) (hx : Below w.heap.size w X) => RValid_at a c d X (h.below hx (Nat.le_refl _)) hl2 (fun o ho => (ht o ho).2)
  have HCa := hide fun (X : World) (_ : Below w.heap.size w X) (a2 : Option Addr) (c2 : Nat) (h2 : IsO X a2 d) => (Canon_at a2 c2 d X h2 hl2).mono (R' := fun y w' => ∃ a' c', y = .returned (.tuple #[.slice a' (canD d).1.length c', .int .i64 (canD d).2]) ∧ IsO w' a' (canD d).1 ∧ Below X.heap.size X w') fun y w' ⟨v, e, ho, x⟩ => by
    obtain ⟨a', c', rfl, hi, _⟩ := own_isOC ho
    exact ⟨a', c', e, hi, x⟩
  have HRC := hide fun (X : World) (hx : Below w.heap.size w X) => RCanon_at a c d X (h.below hx (Nat.le_refl _)) hl2 (fun o ho => (ht o ho).2)
  have HLe := hide fun (X : World) (_ : Below w.heap.size w X) (a2 : Option Addr) (c2 : Nat) (h2 : IsO X a2 d) => Lens_at a2 c2 d X h2 hl2
  have HCh := hide fun (X : World) (_ : Below w.heap.size w X) (a2 : Option Addr) (c2 : Nat) (h2 : IsO X a2 d) => (Changes_at a2 c2 d X h2 hl2).mono (R' := fun y w' => ∃ a' c', y = .returned (.tuple #[.slice a' (chD d).1.length c', .int .i64 (chD d).2]) ∧ IsO w' a' (chD d).1 ∧ Below X.heap.size X w') fun y w' ⟨v, e, ho, x⟩ => by
    obtain ⟨a', c', rfl, hi, _⟩ := own_isOC ho
    exact ⟨a', c', e, hi, x⟩
  have HRL := hide fun (X : World) (hx : Below w.heap.size w X) (hv : valB d = true) => RLens_at a c d X (h.below hx (Nat.le_refl _)) hl2 hv
  have HRH := hide fun (X : World) (hx : Below w.heap.size w X) (hv : valB d = true) => (RChanges_at a c d X (h.below hx (Nat.le_refl _)) hl2 hv).mono (R' := fun y w' => ∃ a' c', y = .returned (.slice a' (runL d).2.length c') ∧ IsO w' a' (runL d).2 ∧ Below X.heap.size X w') fun y w' ⟨v, e, ho, x⟩ => by
    obtain ⟨a', c', rfl, hi, _⟩ := own_isOC ho
    exact ⟨a', c', e, hi, x⟩
  have HSa := hide fun (X : World) (_ : Below w.heap.size w X) (a1 : Option Addr) (c1 : Nat) (a2 : Option Addr) (c2 : Nat) (h1 : IsO X a1 (canD d).1) (h2 : IsO X a2 (canD d).1) => same13_at a1 c1 _ a2 c2 _ X h1 h2 (canD_len d) (canD_len d) (canD_tb fun o ho => (ht o ho).1) (canD_tb fun o ho => (ht o ho).1)
  have HSC := hide fun (X : World) (_ : Below w.heap.size w X) (hv : valB d = true) (a1 : Option Addr) (c1 : Nat) (a2 : Option Addr) (c2 : Nat) (h1 : IsO X a1 (runL d).2) (h2 : IsO X a2 (runL d).2) => RSameC_at a1 c1 _ a2 c2 _ X h1 h2 (by have := runL_len d d.length (Nat.le_refl _); rw [List.take_length] at this; omega) (by have := runL_len d d.length (Nat.le_refl _); rw [List.take_length] at this; omega) (runL_tb (fun o ho => (ht o ho).1) _ (by simp)) (runL_tb (fun o ho => (ht o ho).1) _ (by simp))
  have HD : Hid (decide ((canD d).1 = (canD d).1) = true) := hide (by simp)
  have HD2 : Hid (decide ((runL d).2 = (runL d).2) = true) := hide (by simp)
  clear h hz hl ht hl2
  rw [unhide HD] at HSa
  rw [unhide HD2] at HSC
  unfold lensV at HLe
  unfold chD at HCh
  generalize (canD d).1 = CD at *
  generalize (canD d).2 = CE at *
  clear HD HD2
  cases hv : valB d with
  | false =>
    simp only [hv, Bool.false_eq_true, if_false] at HV HRV HLe HCh
    clear HRL HRH HSC hv
    go_enter Try.func3, Try.ntmps3
    go_wp2_with fail
    refine (unhide HAw).mono ?_
    rintro y w1 ⟨rfl, x1⟩
    dsimp only
    have HX1 := hide x1
    clear HAw x1
    have HC2 := hide (unhide HRV w1 (unhide HX1))
    go_wp2_with fail
    refine (unhide HC2).mono ?_
    rintro y w2 ⟨rfl, x2⟩
    dsimp only
    have HX2 := hide ((unhide HX1).trans (x2.mono (unhide HX1).size))
    clear HC2 HX1 x2  HRV
    have HC3 := hide (unhide HO w2 (unhide HX2))
    go_wp2_with fail
    refine (unhide HC3).mono ?_
    rintro y w3 ⟨a3, c3, rfl, i3, x3⟩
    dsimp only
    have HX3 := hide ((unhide HX2).trans (x3.mono (unhide HX2).size))
    have ho_3 := hide (i3)
    clear HC3 HX2 x3  i3
    have HC4 := hide (unhide HV w3 (unhide HX3) a3 c3 (unhide ho_3))
    go_wp2_with fail
    refine (unhide HC4).mono ?_
    rintro y w4 ⟨rfl, x4⟩
    dsimp only
    have HX4 := hide ((unhide HX3).trans (x4.mono (unhide HX3).size))
    have ho_4 := hide ((unhide ho_3).below x4 (Nat.le_refl _))
    clear HC4 HX3 x4 ho_3 HV
    clear ho_4
    have HC5 := hide (unhide HO w4 (unhide HX4))
    go_wp2_with fail
    refine (unhide HC5).mono ?_
    rintro y w5 ⟨a5, c5, rfl, i5, x5⟩
    dsimp only
    have HX5 := hide ((unhide HX4).trans (x5.mono (unhide HX4).size))
    have ho_5 := hide (i5)
    clear HC5 HX4 x5  i5
    have HC6 := hide (unhide HCa w5 (unhide HX5) a5 c5 (unhide ho_5))
    go_wp2_with fail
    refine (unhide HC6).mono ?_
    rintro y w6 ⟨a6, c6, rfl, i6, x6⟩
    dsimp only
    have HX6 := hide ((unhide HX5).trans (x6.mono (unhide HX5).size))
    have ho_6 := hide ((unhide ho_5).below x6 (Nat.le_refl _))
    have ca_6 := hide (i6)
    clear HC6 HX5 x6 ho_5 HCa i6
    clear ho_6
    have HC7 := hide (unhide HRC w6 (unhide HX6))
    go_wp2_with fail
    refine (unhide HC7).mono ?_
    rintro y w7 ⟨a7, c7, rfl, i7, _, x7⟩
    dsimp only
    have HX7 := hide ((unhide HX6).trans (x7.mono (unhide HX6).size))
    have ca_7 := hide ((unhide ca_6).below x7 (Nat.le_refl _))
    have rc_7 := hide (i7)
    clear HC7 HX6 x7 ca_6 HRC i7
    have HC8 := hide (unhide HSa w7 (unhide HX7) a6 c6 a7 c7 (unhide ca_7) (unhide rc_7))
    go_wp2_with fail
    refine (unhide HC8).mono ?_
    rintro y w8 ⟨rfl, x8⟩
    dsimp only
    have HX8 := hide ((unhide HX7).trans (x8.mono (unhide HX7).size))
    have ca_8 := hide ((unhide ca_7).below x8 (Nat.le_refl _))
    have rc_8 := hide ((unhide rc_7).below x8 (Nat.le_refl _))
    clear HC8 HX7 x8 ca_7 rc_7 HSa
    clear ca_8
    clear rc_8
    have HC9 := hide (unhide HO w8 (unhide HX8))
    go_wp2_with fail
    refine (unhide HC9).mono ?_
    rintro y w9 ⟨a9, c9, rfl, i9, x9⟩
    dsimp only
    have HX9 := hide ((unhide HX8).trans (x9.mono (unhide HX8).size))
    have ho_9 := hide (i9)
    clear HC9 HX8 x9  i9
    have HC10 := hide (unhide HLe w9 (unhide HX9) a9 c9 (unhide ho_9))
    go_wp2_with fail
    refine (unhide HC10).mono ?_
    rintro y w10 ⟨rfl, x10⟩
    dsimp only
    have HX10 := hide ((unhide HX9).trans (x10.mono (unhide HX9).size))
    have ho_10 := hide ((unhide ho_9).below x10 (Nat.le_refl _))
    clear HC10 HX9 x10 ho_9 HLe
    clear ho_10
    have HC11 := hide (unhide HO w10 (unhide HX10))
    go_wp2_with fail
    refine (unhide HC11).mono ?_
    rintro y w11 ⟨a11, c11, rfl, i11, x11⟩
    dsimp only
    have HX11 := hide ((unhide HX10).trans (x11.mono (unhide HX10).size))
    have ho_11 := hide (i11)
    clear HC11 HX10 x11  i11
    have HC12 := hide (unhide HCh w11 (unhide HX11) a11 c11 (unhide ho_11))
    go_wp2_with fail
    refine (unhide HC12).mono ?_
    rintro y w12 ⟨a12, c12, rfl, i12, x12⟩
    dsimp only
    have HX12 := hide ((unhide HX11).trans (x12.mono (unhide HX11).size))
    have ho_12 := hide ((unhide ho_11).below x12 (Nat.le_refl _))
    have ch_12 := hide (i12)
    clear HC12 HX11 x12 ho_11 HCh i12 HO
    clear ho_12
    clear ch_12
    go_wp2_with fail
    refine bodyPost_ret (results_tmp rfl _ _ _) rfl ⟨rfl, unhide HX12⟩
  | true =>
    simp only [hv, if_true] at HV HRV HLe HCh
    have HRL := hide fun (X : World) (hx : Below w.heap.size w X) => unhide HRL X hx hv
    have HRH := hide fun (X : World) (hx : Below w.heap.size w X) => unhide HRH X hx hv
    have HSC := hide fun (X : World) (hx : Below w.heap.size w X) => unhide HSC X hx hv
    clear hv
    generalize (runL d).2 = RD at *
    generalize frD d = F at *
    generalize toD d = T at *
    go_enter Try.func3, Try.ntmps3
    go_wp2_with fail
    refine (unhide HAw).mono ?_
    rintro y w1 ⟨rfl, x1⟩
    dsimp only
    have HX1 := hide x1
    clear HAw x1
    have HC2 := hide (unhide HRV w1 (unhide HX1))
    go_wp2_with fail
    refine (unhide HC2).mono ?_
    rintro y w2 ⟨rfl, x2⟩
    dsimp only
    have HX2 := hide ((unhide HX1).trans (x2.mono (unhide HX1).size))
    clear HC2 HX1 x2  HRV
    have HC3 := hide (unhide HO w2 (unhide HX2))
    go_wp2_with fail
    refine (unhide HC3).mono ?_
    rintro y w3 ⟨a3, c3, rfl, i3, x3⟩
    dsimp only
    have HX3 := hide ((unhide HX2).trans (x3.mono (unhide HX2).size))
    have ho_3 := hide (i3)
    clear HC3 HX2 x3  i3
    have HC4 := hide (unhide HV w3 (unhide HX3) a3 c3 (unhide ho_3))
    go_wp2_with fail
    refine (unhide HC4).mono ?_
    rintro y w4 ⟨rfl, x4⟩
    dsimp only
    have HX4 := hide ((unhide HX3).trans (x4.mono (unhide HX3).size))
    have ho_4 := hide ((unhide ho_3).below x4 (Nat.le_refl _))
    clear HC4 HX3 x4 ho_3 HV
    clear ho_4
    have HC5 := hide (unhide HO w4 (unhide HX4))
    go_wp2_with fail
    refine (unhide HC5).mono ?_
    rintro y w5 ⟨a5, c5, rfl, i5, x5⟩
    dsimp only
    have HX5 := hide ((unhide HX4).trans (x5.mono (unhide HX4).size))
    have ho_5 := hide (i5)
    clear HC5 HX4 x5  i5
    have HC6 := hide (unhide HCa w5 (unhide HX5) a5 c5 (unhide ho_5))
    go_wp2_with fail
    refine (unhide HC6).mono ?_
    rintro y w6 ⟨a6, c6, rfl, i6, x6⟩
    dsimp only
    have HX6 := hide ((unhide HX5).trans (x6.mono (unhide HX5).size))
    have ho_6 := hide ((unhide ho_5).below x6 (Nat.le_refl _))
    have ca_6 := hide (i6)
    clear HC6 HX5 x6 ho_5 HCa i6
    clear ho_6
    have HC7 := hide (unhide HRC w6 (unhide HX6))
    go_wp2_with fail
    refine (unhide HC7).mono ?_
    rintro y w7 ⟨a7, c7, rfl, i7, _, x7⟩
    dsimp only
    have HX7 := hide ((unhide HX6).trans (x7.mono (unhide HX6).size))
    have ca_7 := hide ((unhide ca_6).below x7 (Nat.le_refl _))
    have rc_7 := hide (i7)
    clear HC7 HX6 x7 ca_6 HRC i7
    have HC8 := hide (unhide HSa w7 (unhide HX7) a6 c6 a7 c7 (unhide ca_7) (unhide rc_7))
    go_wp2_with fail
    refine (unhide HC8).mono ?_
    rintro y w8 ⟨rfl, x8⟩
    dsimp only
    have HX8 := hide ((unhide HX7).trans (x8.mono (unhide HX7).size))
    have ca_8 := hide ((unhide ca_7).below x8 (Nat.le_refl _))
    have rc_8 := hide ((unhide rc_7).below x8 (Nat.le_refl _))
    clear HC8 HX7 x8 ca_7 rc_7 HSa
    clear ca_8
    clear rc_8
    have HC9 := hide (unhide HO w8 (unhide HX8))
    go_wp2_with fail
    refine (unhide HC9).mono ?_
    rintro y w9 ⟨a9, c9, rfl, i9, x9⟩
    dsimp only
    have HX9 := hide ((unhide HX8).trans (x9.mono (unhide HX8).size))
    have ho_9 := hide (i9)
    clear HC9 HX8 x9  i9
    have HC10 := hide (unhide HLe w9 (unhide HX9) a9 c9 (unhide ho_9))
    go_wp2_with fail
    refine (unhide HC10).mono ?_
    rintro y w10 ⟨rfl, x10⟩
    dsimp only
    have HX10 := hide ((unhide HX9).trans (x10.mono (unhide HX9).size))
    have ho_10 := hide ((unhide ho_9).below x10 (Nat.le_refl _))
    clear HC10 HX9 x10 ho_9 HLe
    clear ho_10
    have HC11 := hide (unhide HO w10 (unhide HX10))
    go_wp2_with fail
    refine (unhide HC11).mono ?_
    rintro y w11 ⟨a11, c11, rfl, i11, x11⟩
    dsimp only
    have HX11 := hide ((unhide HX10).trans (x11.mono (unhide HX10).size))
    have ho_11 := hide (i11)
    clear HC11 HX10 x11  i11
    have HC12 := hide (unhide HCh w11 (unhide HX11) a11 c11 (unhide ho_11))
    go_wp2_with fail
    refine (unhide HC12).mono ?_
    rintro y w12 ⟨a12, c12, rfl, i12, x12⟩
    dsimp only
    have HX12 := hide ((unhide HX11).trans (x12.mono (unhide HX11).size))
    have ho_12 := hide ((unhide ho_11).below x12 (Nat.le_refl _))
    have ch_12 := hide (i12)
    clear HC12 HX11 x12 ho_11 HCh i12 HO
    clear ho_12
    have HC13 := hide (unhide HRL w12 (unhide HX12))
    go_wp2_with fail
    refine (unhide HC13).mono ?_
    rintro y w13 ⟨rfl, x13⟩
    dsimp only
    have HX13 := hide ((unhide HX12).trans (x13.mono (unhide HX12).size))
    have ch_13 := hide ((unhide ch_12).below x13 (Nat.le_refl _))
    clear HC13 HX12 x13 ch_12 HRL
    have HC14 := hide (unhide HRH w13 (unhide HX13))
    go_wp2_with fail
    refine (unhide HC14).mono ?_
    rintro y w14 ⟨a14, c14, rfl, i14, x14⟩
    dsimp only
    have HX14 := hide ((unhide HX13).trans (x14.mono (unhide HX13).size))
    have ch_14 := hide ((unhide ch_13).below x14 (Nat.le_refl _))
    have rh_14 := hide (i14)
    clear HC14 HX13 x14 ch_13 HRH i14
    have HC15 := hide (unhide HSC w14 (unhide HX14) a12 c12 a14 c14 (unhide ch_14) (unhide rh_14))
    go_wp2_with fail
    refine (unhide HC15).mono ?_
    rintro y w15 ⟨rfl, x15⟩
    dsimp only
    have HX15 := hide ((unhide HX14).trans (x15.mono (unhide HX14).size))
    have ch_15 := hide ((unhide ch_14).below x15 (Nat.le_refl _))
    have rh_15 := hide ((unhide rh_14).below x15 (Nat.le_refl _))
    clear HC15 HX14 x15 ch_14 rh_14 HSC
    clear ch_15
    clear rh_15
    go_wp2_with fail
    refine bodyPost_ret (results_tmp rfl _ _ _) rfl ⟨rfl, unhide HX15⟩

end Go.Proofs.Ytecolpnbbpbflaa
end
