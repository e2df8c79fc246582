/- DiffLeast's walk (written by wip/tools/dgq.py). · DiffLines' walk (written by wip/tools/dgq.py). · What the list of package-level variables gives: the table of classes holds its numbers; and a world for the witness. · DiffLines: for every input the law returns true and every argument reads afterwards as it read before; conditions: the table of classes holds at the call what the program's text lays (the card ties it to that text). -/
import Derived.Test.YtkdnanlgkedjgaaDoorDx49
import Derived.Test.YtkdnanlgkedjgaaDoorDx48
import Derived.Test.YtkdnanlgkedjgaaDoorCards
import Derived.Test.YtkdnanlgkedjgaaDoorTie
import Derived.Test.YtkdnanlgkedjgaaDoorDx02
import Derived.SizedLaws
import Derived.Deep.DeepHandedRow
import Derived.Lib.LaidTab
import Derived.Below
import Derived.ChangeOld
import Derived.ShutString

section
namespace Go.Proofs.YtkdnanlgkedjgaaDoor
open Go.ChangeShapes Go.WideShapes Go.ChangeAt Go.RowKit
attribute [local go_sem] Oper.semAt_some

theorem own_isBd {w : World} {B : Nat} {v : Value} {l : List Int} (h : Own w B v l) (hl : ∀ x ∈ l, 0 ≤ x ∧ x ≤ 255) (hn : l.length ≤ 140737488351232) : ∃ a c, v = .slice a l.length c ∧ IsB w a c l := by
  have hh := h
  rcases h.2 with ⟨rfl, h0⟩ | ⟨g, cap, cur, rfl, _, _, hc, _⟩
  · have h0' : l = [] := List.length_eq_zero_iff.1 h0
    exact ⟨none, 0, by rw [h0], by omega, hn, Or.inl h0', hl⟩
  · exact ⟨some ⟨g, 0, none⟩, cap, rfl, hc, hn, Or.inr ⟨g, 0, rfl, hh.lies hl⟩, hl⟩
set_option maxRecDepth 100000 in
set_option maxHeartbeats 8000000 in
theorem DiffLeast_any (a0 : Option Addr) (c0 : Nat) (l : List Int) (b0 : Option Addr) (d0 : Nat) (m : List Int) (w : World) (hA : IsB w a0 c0 l) (hB : IsB w b0 d0 m) (hT : Tab w) :
    Calls Tryd.prog 5 #[.slice a0 l.length c0, .slice b0 m.length d0] w fun e w' => e = .returned (.bool true) ∧ Below w.heap.size w w' := by
  have HW := hide (wakes19_at w hT)
  have HA := hide hA
  have HB := hide hB
  have HT := hide hT
  have HSTR := hide fun (X : World) (hX : Below w.heap.size w X) => str_bs X b0 d0 m (hB.below hX (Nat.le_refl _)).2.2.1
  have hbl : ByL l := hA.2.2.2
  have hbm : ByL m := hB.2.2.2
  clear hA hB hT
  have HLO1 := hide fun (X : World) => long19_at a0 l.length c0 b0 m.length d0 X
  go_enter Tryd.func5, Tryd.ntmps5
  go_wp2_with fail
  refine (unhide HW).mono ?_
  rintro e w1 ⟨rfl, hb1⟩
  dsimp only
  have H1 := hide hb1
  clear HW hb1
  go_wp2_with fail
  refine (unhide HLO1 w1).mono ?_
  rintro e w2 ⟨rfl, rfl⟩
  dsimp only
  by_cases hl1 : 700 < l.length ∨ 700 < m.length
  · rw [decide_eq_true hl1]
    go_wp2_with fail
    exact bodyPost_ret (results_tmp rfl _ _ _) rfl ⟨rfl, unhide H1⟩
  rw [decide_eq_false hl1]
  have HCS : Hid ((cutS l).length ≤ 2049 ∧ (cutS m).length ≤ 2049) := hide ⟨cut_small (by omega), cut_small (by omega)⟩
  have hsz : l.length ≤ 700 ∧ m.length ≤ 700 := by omega
  have HSZ := hide hsz
  obtain ⟨hv, hfr, hto, hap, N, hpc, hN⟩ := least_all (m := m) (cutS_ok l) (cutS_ok m) (by omega) (by omega)
  obtain ⟨hcn, hcc⟩ := least_cost hbl hbm (by omega) (by omega)
  have HCN := hide hcn
  have HCC := hide hcc
  clear HLO1 hl1 hpc hN hcn hcc
  go_wp2_with fail
  refine (own19_at a0 c0 l w2 ((unhide HA).below (unhide H1) (Nat.le_refl _))).mono ?_
  rintro e u1 ⟨p1, q1, rfl, i1, hb1⟩
  dsimp only
  have G1 := hide ((unhide H1).trans (hb1.mono (unhide H1).size))
  have I1 := hide i1
  clear hb1 i1 H1
  go_wp2_with fail
  refine (own19_at b0 d0 m u1 ((unhide HB).below (unhide G1) (Nat.le_refl _))).mono ?_
  rintro e u2 ⟨p2, q2, rfl, i2, hb2⟩
  dsimp only
  have G2 := hide ((unhide G1).trans (hb2.mono (unhide G1).size))
  have I2 := hide i2
  have I3 := hide ((unhide I1).below hb2 (Nat.le_refl _))
  clear hb2 i2 I1 G1
  have HCL := hide (Least_at p1 q1 l p2 q2 m u2 (unhide I3) (unhide I2) ((unhide HT).below (unhide G2) (unhide HT).size) (by omega) (by omega))
  unfold LeastP at HCL
  clear I2 I3
  have hdl : (leastD l m (cutS l) (cutS m)).length ≤ 536870912 := by have := val_len hv; omega
  have htb : ∀ o ∈ leastD l m (cutS l) (cutS m), TbD o := least_tb (cutS_ok l) (cutS_ok m) hbm
  generalize leastD l m (cutS l) (cutS m) = d at *
  have HVD := hide (And.intro hv (And.intro hfr (And.intro hto htb)))
  go_wp2_with fail
  refine (unhide HCL).mono ?_
  rintro e u3 ⟨hb3, ⟨hno, -⟩ | ⟨-, -, v, rfl, ho⟩⟩
  · exact absurd (unhide HCS) hno
  dsimp only
  obtain ⟨pd, qd, rfl, i3, -⟩ := own_isOE ho
  have G3 := hide ((unhide G2).trans (hb3.mono (unhide G2).size))
  have ID3 := hide i3
  clear hb3 G2 ho i3 HCL
  go_wp2_with fail
  refine (RDistance_at a0 c0 l b0 d0 m u3 ((unhide HA).below (unhide G3) (Nat.le_refl _)) ((unhide HB).below (unhide G3) (Nat.le_refl _)) (by have := unhide HSZ; omega) (by have := unhide HSZ; omega) (unhide HCS).1 (unhide HCS).2).mono ?_
  rintro e u4 ⟨rfl, hb4⟩
  dsimp only
  have G4 := hide ((unhide G3).trans (hb4.mono (unhide G3).size))
  have ID4 := hide ((unhide ID3).below hb4 (Nat.le_refl _))
  clear hb4 G3 ID3
  have HVA := hide (RValid14_at pd qd d u4 (unhide ID4) (by omega) (by have := tx_val hv; omega))
  rw [hv] at HVA
  obtain ⟨AB, hAB⟩ : ∃ AB, AB = aloN cutS l m := ⟨_, rfl⟩
  rw [← hAB]
  have HAB := hide hAB
  have HHV := hide (And.intro hv (And.intro hfr (And.intro hto (And.intro hap (And.intro htb hdl)))))
  clear hv hfr hto hap htb hAB hdl hsz
  go_wp2_with fail
  refine (unhide HVA).mono ?_
  rintro e u5 ⟨rfl, hb5⟩
  dsimp only
  have G5 := hide ((unhide G4).trans (hb5.mono (unhide G4).size))
  have ID5 := hide ((unhide ID4).below hb5 (Nat.le_refl _))
  clear hb5 G4 ID4 HVA
  have HLE := hide (RLensM_at pd qd d u5 (unhide ID5) (by have := (unhide HHV).2.2.2.2.2; omega) (unhide HHV).1)
  rw [(unhide HHV).2.1] at HLE
  go_wp2_with fail
  refine (unhide HLE).mono ?_
  rintro e u6 ⟨rfl, hb6⟩
  dsimp only
  have G6 := hide ((unhide G5).trans (hb6.mono (unhide G5).size))
  have ID6 := hide ((unhide ID5).below hb6 (Nat.le_refl _))
  clear hb6 G5 ID5 HLE
  obtain ⟨hv, hfr, hto, hap, htb, hdl⟩ := unhide HHV
  clear HHV
  have HAP := hide fun (X : World) (hX : Below w.heap.size w X) (hi : IsO X pd d) => RApply_at a0 c0 l pd qd d X ((unhide HA).below hX (Nat.le_refl _)) hi (by omega) hv hfr htb
  rw [hap] at HAP
  have HDL := hide hdl
  have HBM := hide (And.intro hbl hbm)
  have t0 : ((l.length : Int) != (l.length : Int)) = false := by simp
  clear hv hfr hto hap htb hdl hbl hbm
  go_wp2_with fail
  refine regionL (S := fun w' => (convert 22 9 (.slice b0 m.length d0)).run Tryd.prog w' = .ok (.string (strOfNums m)) w') (fun _ => false) (by kernel_rfl) ?_
  have G7 := hide (unhide G6).drew
  have ID7 := hide ((unhide ID6).below ((Below.refl u6.heap.size u6).drew) (Nat.le_refl _))
  clear G6 ID6
  generalize u6.drew = u7 at *
  refine anyL_take (i := 0) (v := ?vq0) rfl (by kernel_rfl) (by kernel_rfl) (by kernel_rfl) (by kernel_rfl) (fun _ _ _ h => h) (Or.inl ⟨by rfl, ?hq0⟩) (unhide HSTR _ (unhide G7)) ?_
  case hq0 => (intro w hSw; (try dsimp only at hSw); go_simp) <;> with_reducible rfl
  simp only [Act.put, List.getElem_toArray, List.getElem_cons_zero, List.setIfInBounds_toArray, List.set_cons_zero, List.set_cons_succ]
  refine anyL_take (i := 1) (v := ?vq1) rfl (by kernel_rfl) (by kernel_rfl) (by kernel_rfl) (by kernel_rfl) (fun _ _ _ h => h) (Or.inl ⟨by rfl, ?hq1⟩) (unhide HSTR _ (unhide G7)) ?_
  case hq1 => (intro w hSw; (try dsimp only at hSw); go_simp) <;> with_reducible rfl
  simp only [Act.put, List.getElem_toArray, List.getElem_cons_zero, List.getElem_cons_succ, List.setIfInBounds_toArray, List.set_cons_zero, List.set_cons_succ]
  refine anyL_take (i := 2) (v := ?vq2) rfl (by kernel_rfl) (by kernel_rfl) (by kernel_rfl) (by kernel_rfl) (fun _ _ _ h => h) (Or.inl ⟨by rfl, ?hq2⟩) (unhide HSTR _ (unhide G7)) ?_
  case hq2 => (intro w hSw; (try dsimp only at hSw); go_simp) <;> with_reducible rfl
  simp only [Act.put, List.getElem_toArray, List.getElem_cons_zero, List.getElem_cons_succ, List.setIfInBounds_toArray, List.set_cons_zero, List.set_cons_succ]
  refine anyL_take (i := 3) (v := ?vq3) rfl (by kernel_rfl) (by kernel_rfl) (by kernel_rfl) (by kernel_rfl) (fun _ _ _ h => h) (Or.inl ⟨by rfl, ?hq3⟩) (unhide HSTR _ (unhide G7)) ?_
  case hq3 => (intro w hSw; (try dsimp only at hSw); go_simp) <;> with_reducible rfl
  simp only [Act.put, List.getElem_toArray, List.getElem_cons_zero, List.getElem_cons_succ, List.setIfInBounds_toArray, List.set_cons_zero, List.set_cons_succ]
  refine anyL_take (i := 4) (v := ?vq4) rfl (by kernel_rfl) (by kernel_rfl) (by kernel_rfl) (by kernel_rfl) (fun _ _ _ h => h) (Or.inl ⟨by rfl, ?hq4⟩) (unhide HSTR _ (unhide G7)) ?_
  case hq4 => (intro w hSw; (try dsimp only at hSw); go_simp) <;> with_reducible rfl
  simp only [Act.put, List.getElem_toArray, List.getElem_cons_zero, List.getElem_cons_succ, List.setIfInBounds_toArray, List.set_cons_zero, List.set_cons_succ]
  refine anyL_take (i := 5) (v := ?vq5) rfl (by kernel_rfl) (by kernel_rfl) (by kernel_rfl) (by kernel_rfl) (fun _ _ _ h => h) (Or.inl ⟨by rfl, ?hq5⟩) (unhide HSTR _ (unhide G7)) ?_
  case hq5 => (intro w hSw; (try dsimp only at hSw); go_simp) <;> with_reducible rfl
  simp only [Act.put, List.getElem_toArray, List.getElem_cons_zero, List.getElem_cons_succ, List.setIfInBounds_toArray, List.set_cons_zero, List.set_cons_succ]
  refine anyL_take (i := 6) (v := ?vq6) rfl (by kernel_rfl) (by kernel_rfl) (by kernel_rfl) (by kernel_rfl) (fun _ _ _ h => h) (Or.inl ⟨by rfl, ?hq6⟩) (unhide HSTR _ (unhide G7)) ?_
  case hq6 => (intro w hSw; (try dsimp only at hSw); go_simp) <;> with_reducible rfl
  simp only [Act.put, List.getElem_toArray, List.getElem_cons_zero, List.getElem_cons_succ, List.setIfInBounds_toArray, List.set_cons_zero, List.set_cons_succ]
  refine anyL_take (i := 9) (v := ?vq7) rfl (by kernel_rfl) (by kernel_rfl) (by kernel_rfl) (by kernel_rfl) (fun _ _ _ h => h) (Or.inl ⟨by rfl, ?hq7⟩) (unhide HSTR _ (unhide G7)) ?_
  case hq7 => (intro w hSw; (try dsimp only at hSw); go_simp) <;> with_reducible rfl
  simp only [Act.put, List.getElem_toArray, List.getElem_cons_zero, List.getElem_cons_succ, List.setIfInBounds_toArray, List.set_cons_zero, List.set_cons_succ]
  refine anyL_take (i := 10) (v := ?vq8) rfl (by kernel_rfl) (by kernel_rfl) (by kernel_rfl) (by kernel_rfl) (fun _ _ _ h => h) (Or.inl ⟨by rfl, ?hq8⟩) (unhide HSTR _ (unhide G7)) ?_
  case hq8 => (intro w hSw; (try dsimp only at hSw); go_simp) <;> with_reducible rfl
  simp only [Act.put, List.getElem_toArray, List.getElem_cons_zero, List.getElem_cons_succ, List.setIfInBounds_toArray, List.set_cons_zero, List.set_cons_succ]
  refine anyL_ready (rs := [7]) (by kernel_rfl) (by simp) ?_
  refine AllL.cons rfl (fun K hK => ?_) AllL.nil
  go_simp
  refine (unhide HAP _ (unhide G7) (unhide ID7)).mono ?_
  rintro y u8 ⟨va, rfl, oa, bu8⟩
  obtain ⟨av, cv, rfl, ib⟩ := own_isBd oa (unhide HBM).2 (by have := unhide HSZ; omega)
  have rc := str_bs u8 av cv m ib.2.2.1
  have G8 := hide ((unhide G7).trans (bu8.mono (unhide G7).size))
  have ID8 := hide ((unhide ID7).below bu8 (Nat.le_refl _))
  refine unhide hK _ _ (fun _ => unhide HSTR _ (unhide G8)) ?_
  clear hK K bu8 oa ib
  refine anyL_ready (rs := [8]) (by kernel_rfl) (by simp) ?_
  refine AllL.cons rfl (fun K hK => ?_) AllL.nil
  go_simp
  refine unhide hK _ _ (fun _ => unhide HSTR _ (unhide G8)) ?_
  clear hK K rc
  have heql : (strOfNums m == strOfNums m) = true := by rw [str_is (unhide HBM).2 (unhide HBM).2]; simp
  have hneq : (strOfNums m != strOfNums m) = false := by rw [bne, heql]; rfl
  refine anyL_take (i := 11) (v := ?vq9) rfl (by kernel_rfl) (by kernel_rfl) (by kernel_rfl) (by kernel_rfl) (fun _ _ _ h => h) (Or.inl ⟨by rfl, ?hq9⟩) (unhide HSTR _ (unhide G8)) ?_
  case hq9 => (intro w hSw; (try dsimp only at hSw); go_simp) <;> with_reducible rfl
  simp only [Act.put, List.getElem_toArray, List.getElem_cons_zero, List.getElem_cons_succ, List.setIfInBounds_toArray, List.set_cons_zero, List.set_cons_succ]
  refine anyL_take (i := 12) (v := ?vq10) rfl (by kernel_rfl) (by kernel_rfl) (by kernel_rfl) (by kernel_rfl) (fun _ _ _ h => h) (Or.inl ⟨by rfl, ?hq10⟩) (unhide HSTR _ (unhide G8)) ?_
  case hq10 => (intro w hSw; (try dsimp only at hSw); go_simp) <;> with_reducible rfl
  simp only [Act.put, List.getElem_toArray, List.getElem_cons_zero, List.getElem_cons_succ, List.setIfInBounds_toArray, List.set_cons_zero, List.set_cons_succ]
  refine anyL_done (by kernel_rfl) ?_ _
  go_wp2_with fail
  have HCO := hide (RCost_at a0 c0 l pd qd d u8 ((unhide HA).below (unhide G8) (Nat.le_refl _)) (unhide ID8) (by have := unhide HDL; omega) (by have := tx_val (unhide HVD).1; omega) (unhide HVD).2.2.2 (by have := unhide HSZ; omega) (fun o ho => by have := val_tl (unhide HVD).1 ho; have := (unhide HVD).2.2.1; have := unhide HSZ; omega))
  rw [unhide HCN, ← unhide HAB] at HCO
  dsimp only at HCO
  refine (unhide HCO).mono ?_
  rintro e u9 ⟨rfl, hb9⟩
  dsimp only
  have G9 := hide ((unhide G8).trans (hb9.mono (unhide G8).size))
  have ID9 := hide ((unhide ID8).below hb9 (Nat.le_refl _))
  clear hb9 G8 ID8 HCO
  have HCE := hide (RClean_at b0 d0 m pd qd d u9 ((unhide HB).below (unhide G9) (Nat.le_refl _)) (unhide ID9) (by have := unhide HDL; omega) (unhide HVD).1 (unhide HVD).2.2.1)
  rw [unhide HCC] at HCE
  go_wp2_with fail
  refine (unhide HCE).mono ?_
  rintro e v1 ⟨rfl, hb1⟩
  dsimp only
  have G10 := hide ((unhide G9).trans (hb1.mono (unhide G9).size))
  clear hb1 G9 ID9 HCE
  go_wp2_with fail
  exact bodyPost_ret (results_tmp rfl _ _ _) rfl ⟨rfl, unhide G10⟩
end Go.Proofs.YtkdnanlgkedjgaaDoor
end

section
namespace Go.Proofs.YtkdnanlgkedjgaaDoor
open Go.ChangeShapes Go.WideShapes Go.ChangeAt Go.RowKit
attribute [local go_sem] Oper.semAt_some

set_option maxRecDepth 100000 in
set_option maxHeartbeats 8000000 in
theorem DiffLines_any (a0 : Option Addr) (c0 : Nat) (l : List Int) (b0 : Option Addr) (d0 : Nat) (m : List Int) (w : World) (hA : IsB w a0 c0 l) (hB : IsB w b0 d0 m) (hT : Tab w) :
    Calls Tryd.prog 6 #[.slice a0 l.length c0, .slice b0 m.length d0] w fun e w' => e = .returned (.bool true) ∧ Below w.heap.size w w' := by
  have HW := hide (wakes19_at w hT)
  have HA := hide hA
  have HB := hide hB
  have HT := hide hT
  have HSTR := hide fun (X : World) (hX : Below w.heap.size w X) => str_bs X b0 d0 m (hB.below hX (Nat.le_refl _)).2.2.1
  have hbl : ByL l := hA.2.2.2
  have hbm : ByL m := hB.2.2.2
  clear hA hB hT
  have HLO1 := hide fun (X : World) => long19_at a0 l.length c0 b0 m.length d0 X
  go_enter Tryd.func6, Tryd.ntmps6
  go_wp2_with fail
  refine (unhide HW).mono ?_
  rintro e w1 ⟨rfl, hb1⟩
  dsimp only
  have H1 := hide hb1
  clear HW hb1
  go_wp2_with fail
  refine (unhide HLO1 w1).mono ?_
  rintro e w2 ⟨rfl, rfl⟩
  dsimp only
  by_cases hl1 : 700 < l.length ∨ 700 < m.length
  · rw [decide_eq_true hl1]
    go_wp2_with fail
    exact bodyPost_ret (results_tmp rfl _ _ _) rfl ⟨rfl, unhide H1⟩
  rw [decide_eq_false hl1]
  have HCS : Hid ((cutN l).length ≤ 2049 ∧ (cutN m).length ≤ 2049) := hide ⟨Nat.le_trans (cutN_ok l).len (by omega), Nat.le_trans (cutN_ok m).len (by omega)⟩
  have hsz : l.length ≤ 700 ∧ m.length ≤ 700 := by omega
  have HSZ := hide hsz
  obtain ⟨hv, hfr, hto, hap, N, hpc, hN⟩ := least_all (m := m) (cutN_ok l) (cutN_ok m) (by omega) (by omega)
  have hNA : N = aloN cutN l m := by
    have n1 := cutP_cnt (cutN_ok l)
    have n2 := cutP_cnt (cutN_ok m)
    unfold aloN; omega
  have HPC := hide (And.intro hpc hNA)
  clear HLO1 hl1 hpc hN hNA
  go_wp2_with fail
  refine (own19_at a0 c0 l w2 ((unhide HA).below (unhide H1) (Nat.le_refl _))).mono ?_
  rintro e u1 ⟨p1, q1, rfl, i1, hb1⟩
  dsimp only
  have G1 := hide ((unhide H1).trans (hb1.mono (unhide H1).size))
  have I1 := hide i1
  clear hb1 i1 H1
  go_wp2_with fail
  refine (own19_at b0 d0 m u1 ((unhide HB).below (unhide G1) (Nat.le_refl _))).mono ?_
  rintro e u2 ⟨p2, q2, rfl, i2, hb2⟩
  dsimp only
  have G2 := hide ((unhide G1).trans (hb2.mono (unhide G1).size))
  have I2 := hide i2
  have I3 := hide ((unhide I1).below hb2 (Nat.le_refl _))
  clear hb2 i2 I1 G1
  have HCL := hide (LinesD_at p1 q1 l p2 q2 m u2 (unhide I3) (unhide I2) (by omega) (by omega))
  unfold LeastP at HCL
  clear I2 I3
  have hdl : (leastD l m (cutN l) (cutN m)).length ≤ 536870912 := by have := val_len hv; omega
  have htb : ∀ o ∈ leastD l m (cutN l) (cutN m), TbD o := least_tb (cutN_ok l) (cutN_ok m) hbm
  generalize leastD l m (cutN l) (cutN m) = d at *
  have HVD := hide (And.intro hv (And.intro hfr (And.intro hto htb)))
  go_wp2_with fail
  refine (unhide HCL).mono ?_
  rintro e u3 ⟨hb3, ⟨hno, -⟩ | ⟨-, -, v, rfl, ho⟩⟩
  · exact absurd (unhide HCS) hno
  dsimp only
  obtain ⟨pd, qd, rfl, i3, -⟩ := own_isOE ho
  have G3 := hide ((unhide G2).trans (hb3.mono (unhide G2).size))
  have ID3 := hide i3
  clear hb3 G2 ho i3 HCL
  go_wp2_with fail
  refine (RLines_at a0 c0 l b0 d0 m u3 ((unhide HA).below (unhide G3) (Nat.le_refl _)) ((unhide HB).below (unhide G3) (Nat.le_refl _)) (by have := unhide HSZ; omega) (by have := unhide HSZ; omega) (unhide HCS).1 (unhide HCS).2).mono ?_
  rintro e u4 ⟨rfl, hb4⟩
  dsimp only
  have G4 := hide ((unhide G3).trans (hb4.mono (unhide G3).size))
  have ID4 := hide ((unhide ID3).below hb4 (Nat.le_refl _))
  clear hb4 G3 ID3
  have HVA := hide (RValid14_at pd qd d u4 (unhide ID4) (by omega) (by have := tx_val hv; omega))
  rw [hv] at HVA
  obtain ⟨AB, hAB⟩ : ∃ AB, AB = aloN cutN l m := ⟨_, rfl⟩
  rw [← hAB]
  have HAB := hide hAB
  have HHV := hide (And.intro hv (And.intro hfr (And.intro hto (And.intro hap (And.intro htb hdl)))))
  clear hv hfr hto hap htb hAB hdl hsz
  go_wp2_with fail
  refine (unhide HVA).mono ?_
  rintro e u5 ⟨rfl, hb5⟩
  dsimp only
  have G5 := hide ((unhide G4).trans (hb5.mono (unhide G4).size))
  have ID5 := hide ((unhide ID4).below hb5 (Nat.le_refl _))
  clear hb5 G4 ID4 HVA
  have HLE := hide (RLensM_at pd qd d u5 (unhide ID5) (by have := (unhide HHV).2.2.2.2.2; omega) (unhide HHV).1)
  rw [(unhide HHV).2.1] at HLE
  go_wp2_with fail
  refine (unhide HLE).mono ?_
  rintro e u6 ⟨rfl, hb6⟩
  dsimp only
  have G6 := hide ((unhide G5).trans (hb6.mono (unhide G5).size))
  have ID6 := hide ((unhide ID5).below hb6 (Nat.le_refl _))
  clear hb6 G5 ID5 HLE
  obtain ⟨hv, hfr, hto, hap, htb, hdl⟩ := unhide HHV
  clear HHV
  have HAP := hide fun (X : World) (hX : Below w.heap.size w X) (hi : IsO X pd d) => RApply_at a0 c0 l pd qd d X ((unhide HA).below hX (Nat.le_refl _)) hi (by omega) hv hfr htb
  rw [hap] at HAP
  have HDL := hide hdl
  have HBM := hide (And.intro hbl hbm)
  have t0 : ((l.length : Int) != (l.length : Int)) = false := by simp
  clear hv hfr hto hap htb hdl hbl hbm
  go_wp2_with fail
  refine regionL (S := fun w' => (convert 22 9 (.slice b0 m.length d0)).run Tryd.prog w' = .ok (.string (strOfNums m)) w') (fun _ => false) (by kernel_rfl) ?_
  have G7 := hide (unhide G6).drew
  have ID7 := hide ((unhide ID6).below ((Below.refl u6.heap.size u6).drew) (Nat.le_refl _))
  clear G6 ID6
  generalize u6.drew = u7 at *
  refine anyL_take (i := 0) (v := ?vq11) rfl (by kernel_rfl) (by kernel_rfl) (by kernel_rfl) (by kernel_rfl) (fun _ _ _ h => h) (Or.inl ⟨by rfl, ?hq11⟩) (unhide HSTR _ (unhide G7)) ?_
  case hq11 => (intro w hSw; (try dsimp only at hSw); go_simp) <;> with_reducible rfl
  simp only [Act.put, List.getElem_toArray, List.getElem_cons_zero, List.setIfInBounds_toArray, List.set_cons_zero, List.set_cons_succ]
  refine anyL_take (i := 1) (v := ?vq12) rfl (by kernel_rfl) (by kernel_rfl) (by kernel_rfl) (by kernel_rfl) (fun _ _ _ h => h) (Or.inl ⟨by rfl, ?hq12⟩) (unhide HSTR _ (unhide G7)) ?_
  case hq12 => (intro w hSw; (try dsimp only at hSw); go_simp) <;> with_reducible rfl
  simp only [Act.put, List.getElem_toArray, List.getElem_cons_zero, List.getElem_cons_succ, List.setIfInBounds_toArray, List.set_cons_zero, List.set_cons_succ]
  refine anyL_take (i := 2) (v := ?vq13) rfl (by kernel_rfl) (by kernel_rfl) (by kernel_rfl) (by kernel_rfl) (fun _ _ _ h => h) (Or.inl ⟨by rfl, ?hq13⟩) (unhide HSTR _ (unhide G7)) ?_
  case hq13 => (intro w hSw; (try dsimp only at hSw); go_simp) <;> with_reducible rfl
  simp only [Act.put, List.getElem_toArray, List.getElem_cons_zero, List.getElem_cons_succ, List.setIfInBounds_toArray, List.set_cons_zero, List.set_cons_succ]
  refine anyL_take (i := 3) (v := ?vq14) rfl (by kernel_rfl) (by kernel_rfl) (by kernel_rfl) (by kernel_rfl) (fun _ _ _ h => h) (Or.inl ⟨by rfl, ?hq14⟩) (unhide HSTR _ (unhide G7)) ?_
  case hq14 => (intro w hSw; (try dsimp only at hSw); go_simp) <;> with_reducible rfl
  simp only [Act.put, List.getElem_toArray, List.getElem_cons_zero, List.getElem_cons_succ, List.setIfInBounds_toArray, List.set_cons_zero, List.set_cons_succ]
  refine anyL_take (i := 4) (v := ?vq15) rfl (by kernel_rfl) (by kernel_rfl) (by kernel_rfl) (by kernel_rfl) (fun _ _ _ h => h) (Or.inl ⟨by rfl, ?hq15⟩) (unhide HSTR _ (unhide G7)) ?_
  case hq15 => (intro w hSw; (try dsimp only at hSw); go_simp) <;> with_reducible rfl
  simp only [Act.put, List.getElem_toArray, List.getElem_cons_zero, List.getElem_cons_succ, List.setIfInBounds_toArray, List.set_cons_zero, List.set_cons_succ]
  refine anyL_take (i := 5) (v := ?vq16) rfl (by kernel_rfl) (by kernel_rfl) (by kernel_rfl) (by kernel_rfl) (fun _ _ _ h => h) (Or.inl ⟨by rfl, ?hq16⟩) (unhide HSTR _ (unhide G7)) ?_
  case hq16 => (intro w hSw; (try dsimp only at hSw); go_simp) <;> with_reducible rfl
  simp only [Act.put, List.getElem_toArray, List.getElem_cons_zero, List.getElem_cons_succ, List.setIfInBounds_toArray, List.set_cons_zero, List.set_cons_succ]
  refine anyL_take (i := 6) (v := ?vq17) rfl (by kernel_rfl) (by kernel_rfl) (by kernel_rfl) (by kernel_rfl) (fun _ _ _ h => h) (Or.inl ⟨by rfl, ?hq17⟩) (unhide HSTR _ (unhide G7)) ?_
  case hq17 => (intro w hSw; (try dsimp only at hSw); go_simp) <;> with_reducible rfl
  simp only [Act.put, List.getElem_toArray, List.getElem_cons_zero, List.getElem_cons_succ, List.setIfInBounds_toArray, List.set_cons_zero, List.set_cons_succ]
  refine anyL_take (i := 9) (v := ?vq18) rfl (by kernel_rfl) (by kernel_rfl) (by kernel_rfl) (by kernel_rfl) (fun _ _ _ h => h) (Or.inl ⟨by rfl, ?hq18⟩) (unhide HSTR _ (unhide G7)) ?_
  case hq18 => (intro w hSw; (try dsimp only at hSw); go_simp) <;> with_reducible rfl
  simp only [Act.put, List.getElem_toArray, List.getElem_cons_zero, List.getElem_cons_succ, List.setIfInBounds_toArray, List.set_cons_zero, List.set_cons_succ]
  refine anyL_take (i := 10) (v := ?vq19) rfl (by kernel_rfl) (by kernel_rfl) (by kernel_rfl) (by kernel_rfl) (fun _ _ _ h => h) (Or.inl ⟨by rfl, ?hq19⟩) (unhide HSTR _ (unhide G7)) ?_
  case hq19 => (intro w hSw; (try dsimp only at hSw); go_simp) <;> with_reducible rfl
  simp only [Act.put, List.getElem_toArray, List.getElem_cons_zero, List.getElem_cons_succ, List.setIfInBounds_toArray, List.set_cons_zero, List.set_cons_succ]
  refine anyL_ready (rs := [7]) (by kernel_rfl) (by simp) ?_
  refine AllL.cons rfl (fun K hK => ?_) AllL.nil
  go_simp
  refine (unhide HAP _ (unhide G7) (unhide ID7)).mono ?_
  rintro y u8 ⟨va, rfl, oa, bu8⟩
  obtain ⟨av, cv, rfl, ib⟩ := own_isBd oa (unhide HBM).2 (by have := unhide HSZ; omega)
  have rc := str_bs u8 av cv m ib.2.2.1
  have G8 := hide ((unhide G7).trans (bu8.mono (unhide G7).size))
  have ID8 := hide ((unhide ID7).below bu8 (Nat.le_refl _))
  refine unhide hK _ _ (fun _ => unhide HSTR _ (unhide G8)) ?_
  clear hK K bu8 oa ib
  refine anyL_ready (rs := [8]) (by kernel_rfl) (by simp) ?_
  refine AllL.cons rfl (fun K hK => ?_) AllL.nil
  go_simp
  refine unhide hK _ _ (fun _ => unhide HSTR _ (unhide G8)) ?_
  clear hK K rc
  have heql : (strOfNums m == strOfNums m) = true := by rw [str_is (unhide HBM).2 (unhide HBM).2]; simp
  have hneq : (strOfNums m != strOfNums m) = false := by rw [bne, heql]; rfl
  refine anyL_take (i := 11) (v := ?vq20) rfl (by kernel_rfl) (by kernel_rfl) (by kernel_rfl) (by kernel_rfl) (fun _ _ _ h => h) (Or.inl ⟨by rfl, ?hq20⟩) (unhide HSTR _ (unhide G8)) ?_
  case hq20 => (intro w hSw; (try dsimp only at hSw); go_simp) <;> with_reducible rfl
  simp only [Act.put, List.getElem_toArray, List.getElem_cons_zero, List.getElem_cons_succ, List.setIfInBounds_toArray, List.set_cons_zero, List.set_cons_succ]
  refine anyL_take (i := 12) (v := ?vq21) rfl (by kernel_rfl) (by kernel_rfl) (by kernel_rfl) (by kernel_rfl) (fun _ _ _ h => h) (Or.inl ⟨by rfl, ?hq21⟩) (unhide HSTR _ (unhide G8)) ?_
  case hq21 => (intro w hSw; (try dsimp only at hSw); go_simp) <;> with_reducible rfl
  simp only [Act.put, List.getElem_toArray, List.getElem_cons_zero, List.getElem_cons_succ, List.setIfInBounds_toArray, List.set_cons_zero, List.set_cons_succ]
  refine anyL_done (by kernel_rfl) ?_ _
  have hNA : N = AB := by rw [unhide HAB]; exact (unhide HPC).2
  subst hNA
  have HPI := hide (pieces19_at a0 c0 l b0 d0 m pd qd d N u8 ((unhide HA).below (unhide G8) (Nat.le_refl _)) ((unhide HB).below (unhide G8) (Nat.le_refl _)) (unhide ID8) (by have := unhide HSZ; omega) (by have := unhide HSZ; omega) (by have := unhide HDL; omega) (unhide HPC).1 (by
    have h1 := (unhide HPC).2
    have n1 := cutP_cnt (cutN_ok l)
    have n2 := cutP_cnt (cutN_ok m)
    have h2 := unhide HCS
    unfold aloN at h1; omega))
  clear HAB
  go_wp2_with fail
  refine (unhide HPI).mono ?_
  rintro e v1 ⟨rfl, hb1⟩
  dsimp only
  have G10 := hide ((unhide G8).trans (hb1.mono (unhide G8).size))
  clear hb1 G8 ID8 HPI
  go_wp2_with fail
  exact bodyPost_ret (results_tmp rfl _ _ _) rfl ⟨rfl, unhide G10⟩
end Go.Proofs.YtkdnanlgkedjgaaDoor
end

section
namespace Go.Proofs.YtkdnanlgkedjgaaDoor
open Go.ChangeShapes Go.WideShapes Go.ChangeAt Go.RowKit

def tab : List Int := (List.range 245).map fun (i : Nat) => cls (i : Int)
theorem laid_eq : (Rows.laid_galley_octet_classes : DataW Unit) = Lib.tabData .u8 tab := by kernel_rfl
theorem ownC : ownKnob Tryd.prog.godebug = none := by kernel_rfl
theorem gTab : Tryd.prog.globalNamed "galley/octet.classes" = some 0 := by kernel_rfl
theorem gTabType : (Tryd.prog.globals[0]?).map (·.type) = some 138 := by kernel_rfl
theorem cellsTab : Tryd.prog.cellsOf 138 = 245 := by kernel_rfl
theorem cellsByte : Tryd.prog.cellsOf 5 = 1 := by kernel_rfl

theorem tab_of_laid {W : World} (h : laidMetH Tryd.prog [("galley/octet.classes", Rows.laid_galley_octet_classes)] W) : Tab W := by
  rw [laid_eq] at h
  have t := Lib.tabIs_of_head (rest := []) gTab gTabType Tryd.underlying138 Tryd.underlying5 cellsByte cellsTab h
  intro b h0 h1
  have hl : tab.length = 245 := by simp [tab]
  have := t.cell gTab b.toNat (by rw [hl]; omega)
  rw [this]
  have hb : b.toNat < 245 := by omega
  have e : tab.getD b.toNat 0 = cls b := by
    simp [tab, List.getD, hb, Int.toNat_of_nonneg h0]
  rw [e]

noncomputable def laidWorld (os : Os) : World :=
  { World.holding Tryd.prog os ⟨#[], #[], []⟩ with heap := (World.holding Tryd.prog os ⟨#[], #[], []⟩).heap.modify 0 fun
      | .cells _ t frozen => .cells (tab.map (Value.int .u8)).toArray t frozen
      | o => o }

theorem laidOut : laidOutB Tryd.prog = true := by kernel_rfl

/-- a []byte that came in reads as these bytes -/
theorem row_of_trod {H : Type} {enc : TypeId × Value → H} {W : World} {a0 : Option Addr} {len0 cap0 : Nat} {d0 : DataW H} {p0 : List MemPlace}
    (h0 : DataW.Trod enc Tryd.prog W 0 (fun _ => true) true 22 (Value.slice a0 len0 cap0) d0 p0)
    {ts : List TypeId} {ds : List (DataW H)} {j : Nat} (hsz : (DataW.weightsEach Tryd.prog ts ds).all (· ≤ reachBytes) = true) (ht : ts[j]? = some 22) (hd : ds[j]? = some d0) :
    ∃ l : List Int, len0 = l.length ∧ IsB W a0 cap0 l := by
  obtain ⟨fuel, hf⟩ := h0
  rcases open_ints Tryd.underlying22 Tryd.underlying5 (by kernel_rfl) hf with ⟨hcs, _⟩ | ⟨x, l, c, zs, hcs, _, hl, hm, hz, hx, hcell, hwz⟩
  · simp [Value.cells] at hcs
    obtain ⟨rfl, rfl, rfl⟩ := hcs
    exact ⟨[], rfl, by simp, by simp, Or.inl rfl, by simp⟩
  · simp [Value.cells] at hcs
    obtain ⟨rfl, rfl, rfl⟩ := hcs
    simp only [Prod.mk.injEq] at hx
    obtain ⟨rfl, _⟩ := hx
    have hz' : zs.length = cap0 := by simpa using hz
    have hs := sized_slice hsz ht hd Tryd.underlying22
    rw [show Tryd.prog.bytesOf 5 = 1 by kernel_rfl] at hs
    have hr : reachBytes = 140737488351232 := rfl
    simp [lits] at hs
    have hlen : (zs.take len0).length = len0 := by simp; omega
    have hby : ∀ x ∈ zs, 0 ≤ x ∧ x ≤ 255 := fun n hn => bounds_u8 (hwz n hn)
    refine ⟨zs.take len0, hlen.symm, by rw [hlen]; omega, by rw [hlen]; omega, ?_, fun y hy => hby y (List.mem_of_mem_take hy)⟩
    rcases Nat.eq_zero_or_pos len0 with h0 | h0
    · subst h0; exact Or.inl rfl
    · obtain ⟨b, off, spot⟩ := x
      have hspot : spot = none := by simpa [Addr.add] using World.cell?_spot (hcell 0 (by omega))
      subst hspot
      refine Or.inr ⟨b, off, rfl, fun i hi => ?_⟩
      rw [hlen] at hi
      have e : (zs.take len0).getD i 0 = zs.getD i 0 := by simp [List.getD, hi]
      rw [e]
      have hc := hcell i (by omega)
      rw [Addr.add_lit] at hc
      refine ⟨hc, ?_⟩
      have := hby (zs[i]'(by omega)) (List.getElem_mem _)
      simpa [List.getD, List.getElem?_eq_getElem (show i < zs.length by omega)] using this

end Go.Proofs.YtkdnanlgkedjgaaDoor
end

section
namespace Go.Proofs.YtkdnanlgkedjgaaDoor
open Go.ChangeShapes Go.WideShapes Go.ChangeAt Go.RowKit
open Go.ChangeMaps (open_string shut_string)

set_option maxRecDepth 100000 in
theorem diffLines_contract (H : Type) (enc : TypeId × Value → H) (W : World) (base : Nat) (args : Array Value) (ds gs : List (DataW H)) (before : List MemPlace)
    (hval : ∀ (j : Nat) t v, Tryd.f6.params[j]? = some t → args[j]? = some v → Value.okWide Tryd.prog W .any base t v)
    (hW : DataW.Whole enc Tryd.prog Tryd.f6.params.toList Rows.diffLinesSpec.vars false W args.toList ds gs before) (hsz : (DataW.weightsEach Tryd.prog (Tryd.f6.params.toList ++ (OpenSpec.ofChange Rows.diffLinesSpec).bare.plain.varTypes Tryd.prog) (ds ++ gs)).all (· ≤ reachBytes) = true) (hL : laidMetH Tryd.prog Rows.diffLinesRow.laid W) :
    Calls Tryd.prog 6 args W fun e W' => ∃ v, e = .returned v ∧ Rows.diffLinesSpec.post enc Tryd.prog Tryd.f6 false true false false W args v W' := by
  have hW' := hW
  obtain ⟨p, q, hA0, hV, rfl, _, _⟩ := hW
  have hA : DataW.TrodAll enc Tryd.prog W 0 (fun _ => true) true Tryd.f6.params.toList args.toList ds p := hA0
  rw [Tryd.params6] at hA hval hsz
  obtain ⟨v0, vs0, d0, ds0, p0, q0, hargs, rfl, rfl, h0, r0⟩ := trodAll_cons hA
  obtain ⟨v1, vs1, d1, ds1, p1, q1, rfl, rfl, rfl, h1, r1⟩ := trodAll_cons r0
  obtain ⟨rfl, rfl, rfl⟩ := trodAll_nil r1
  obtain rfl : args = #[v0, v1] := by cases args; simp_all
  obtain ⟨rfl, rfl⟩ := trodVars_none hV
  obtain ⟨a0, len0, cap0, rfl⟩ := okWide_slice Tryd.underlying22 (hval 0 22 v0 rfl rfl)
  have k0 := h0
  have lt0 : ∀ x ∈ p0, x.block < W.heap.size := by obtain ⟨m, hm⟩ := k0; exact DataW.trod_lt m _ _ _ hm
  obtain ⟨l0, rfl, w0⟩ := row_of_trod h0 hsz (j := 0) rfl rfl
  obtain ⟨a1, len1, cap1, rfl⟩ := okWide_slice Tryd.underlying22 (hval 1 22 v1 rfl rfl)
  have k1 := h1
  have lt1 : ∀ x ∈ p1, x.block < W.heap.size := by obtain ⟨m, hm⟩ := k1; exact DataW.trod_lt m _ _ _ hm
  obtain ⟨l1, rfl, w1⟩ := row_of_trod h1 hsz (j := 1) rfl rfl
  clear hA0
  refine (DiffLines_any a0 cap0 l0 a1 cap1 l1 W w0 w1 (tab_of_laid hL)).mono fun e W' ⟨he, bel⟩ => ?_
  subst he
  exact ⟨_, rfl, _, _, _, [], _, [], hW', trodAll_mk1 (shut_bool Tryd.underlying4 _), (trodAll_cons_mk (Below.trod laidOut (by kernel_rfl) (of_decide_eq_true (by kernel_rfl)) k0 bel lt0) (trodAll_cons_mk (Below.trod laidOut (by kernel_rfl) (of_decide_eq_true (by kernel_rfl)) k1 bel lt1) trodAll_mk0)), rfl, bel.frame _, fun h => by cases h⟩

theorem diffLines_met (os : Os) : laidMet Tryd.prog Rows.diffLinesRow.laid ((laidWorld os).forCall (fun _ _ => 0) ⟨#[], #[.slice none 0 0, .slice none 0 0], []⟩).memory :=
  laidMet_of_run' 8 (by kernel_rfl) (by kernel_rfl)
theorem diffLines_reads (os : Os) {H : Type} (enc : TypeId × Value → H) : ∃ places, DataW.whole enc Tryd.prog ((laidWorld os).forCall (fun _ _ => 0) ⟨#[], #[.slice none 0 0, .slice none 0 0], []⟩).memory Tryd.f6.params.toList Rows.diffLinesSpec.vars false (#[.slice none 0 0, .slice none 0 0] : Array Value).toList 8 = some ([.nil, .nil], [], places) :=
  ⟨[], by kernel_rfl⟩

set_option maxRecDepth 100000 in
theorem diffLines_lifted (os : Os) (started : os.Started) (H : Type) (enc : TypeId × Value → H) (F : Stop.Interp) :
    ReturnsInHanded {} Tryd.checked os 6 .any ((OpenSpec.ofChange Rows.diffLinesSpec).preRow enc Tryd.prog Tryd.f6 Rows.diffLinesRow.domain false Rows.diffLinesRow.laid) (((OpenSpec.ofChange Rows.diffLinesSpec).at F).post enc Tryd.prog Tryd.f6 false true false false) := by
  obtain ⟨places, hx⟩ := diffLines_reads os enc
  refine returnsInHanded_of_row (C := Tryd.checked) (s := OpenSpec.ofChange Rows.diffLinesSpec) ownC started (by kernel_rfl) Tryd.func6
    (witness_row_at (enc := enc) (C := Tryd.checked) false (laidWorld os) #[.slice none 0 0, .slice none 0 0] rfl (by kernel_rfl) (by kernel_rfl) (by kernel_rfl)
      (OpenSpec.preRow_of_cond 8 hx (by kernel_rfl) (fun k hk => by cases hk) (by kernel_rfl) (diffLines_met os))) ?_
  intro W base args ds gs before hval hW _ _ hsz hL _ _
  exact diffLines_contract H enc W base args ds gs before hval hW hsz hL

theorem diffLines_said : Rows.DiffLinesSaid :=
  OpenClaim.holds_of_cond 6 Tryd.f6 rfl rfl rfl rfl rfl rfl rfl ⟨rfl, rfl, rfl, rfl, rfl⟩ rfl rfl rfl rfl rfl (by kernel_rfl) Tryd.func6 (by kernel_rfl)
    (of_decide_eq_true (by kernel_rfl)) (by unfold Func.isWrapper; first | (rw [if_pos (by decide +kernel)]; kernel_rfl) | (rw [if_neg (by decide +kernel)]; exact ⟨rfl, rfl⟩))
    (fun os started H enc _ F => by rw [OpenClaim.pre_eq_preRow]; exact diffLines_lifted os started H enc F)

theorem diffLines_plain (f : FuncId) (fn : Func) (hf : Tryd.pinned.checked.prog.funcNamed "galley/galleylaw19.DiffLines" = some f) (hfn : Tryd.pinned.checked.prog.funcs[f]? = some fn) :
    false = Tryd.pinned.checked.prog.looks [] ∧ ∀ (j : Nat) t, fn.params[j]? = some t → Tryd.pinned.checked.prog.wantsStandIn t = false := by
  obtain rfl : f = 6 := Option.some.inj ((show Tryd.prog.funcNamed "galley/galleylaw19.DiffLines" = some 6 by kernel_rfl).symm.trans hf) |>.symm
  obtain rfl : fn = Tryd.f6 := (Option.some.inj (Tryd.func6.symm.trans hfn)).symm
  refine ⟨by kernel_rfl, fun j t ht => ?_⟩
  rw [Tryd.params6] at ht
  obtain rfl : t = 22 := by simpa using Array.mem_of_getElem? ht
  exact (show Tryd.prog.wantsStandIn 22 = false by kernel_rfl)

/-- the card -/
theorem diffLines_card : Rows.DiffLinesCardSaid :=
  Claim7.holds_tied_plain_at .later [] _ _ _ _ diffLines_said (fun _ h => by cases h) (by kernel_rfl) (fun _ h => by cases h) diffLines_row_tie rfl ⟨rfl, rfl⟩ (by kernel_rfl) rfl diffLines_plain (by kernel_rfl)

#print axioms diffLines_card
end Go.Proofs.YtkdnanlgkedjgaaDoor
end
