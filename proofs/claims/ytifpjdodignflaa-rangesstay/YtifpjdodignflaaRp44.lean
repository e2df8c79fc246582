/- Layer 16: the law's play: Behind, where it fits (written by wip/tools/rgs.py). -/
import Derived.Test.YtifpjdodignflaaRp41

namespace Go.Proofs.Ytifpjdodignflaa
open Go.ChangeShapes Go.WideShapes Go.ChangeAt Go.RowKit
attribute [local go_sem] Oper.semAt_some

set_option maxRecDepth 100000 in
set_option maxHeartbeats 8000000 in
theorem playBO_at (g : Nat) (n : Int) (L : List Rg) (a : Option Addr) (c : Nat) (D : List Rg) (x : Rg) (ad : Option Addr) (cd : Nat) (d : List Dop) (X : World) (h : StR X g n L a D) (ho : IsO X ad d) (hz : d = [] ∨ ∃ q, ad = some q) (hdl : d.length * 32 ≤ 140737488355328) (ht : ∀ o ∈ d, o.t.length ≤ 140737488355328) (hv : valB d = true) (hf : (frD d : Int) = n) :
    Calls Try.prog 11 #[.pointer (some ⟨g, 0, none⟩), rsV n a D.length c, ocA 2 x ad d.length cd] X (PlQ X) := by
  have HP := hide (PlJ.start X g n L a c D 2 x ad cd d h ho)
  have HO := hide ho
  obtain ⟨xn, xl, xh, xs, xe⟩ := x
  unfold rsV ocA
  dsimp only at HP ⊢
  clear h ho
  have HCP := hide fun (Y : World) (hY : IsO Y ad d) => RCopy_at ad cd d Y hY hz hdl
  have hdl2 : d.length ≤ 4611686018427387904 := by omega
  have HTT := hide ht
  clear hz hdl ht
  have HV := hide hv
  have HF := hide hf
  clear hv hf
  go_enter Try.func11, Try.ntmps11
  go_upto_region 5 with fail
  generalize (((X.alloc (.cells #[.int .i64 n, .slice a D.length c] 30)).alloc (.cells #[.int .i64 2, .string xn, .int .i64 xl, .int .i64 xh, .int .i64 xs, .int .i64 xe, .slice ad d.length cd] 41)).alloc (.cells #[.int .i64 0, .slice none 0 0] 30)).alloc (.cells #[.int .i64 0, .slice none 0 0] 30) = w0 at *
  generalize X.heap.size + 1 = B1 at *
  generalize B1 + 1 = B2 at *
  generalize B2 + 1 = B3 at *
  obtain ⟨c0, c1, a0, a1, a2, a3, a4, a5, a6⟩ := (unhide HP).cells
  dsimp only at a0 a1 a2 a3 a4 a5 a6
  have HC0 := hide (unhide HCP w0 (unhide HP).o)
  clear HCP
  go_wp2_with fail
  refine (unhide HC0).mono ?_
  rintro y wc ⟨vc, rfl, oc, xc⟩
  dsimp only
  obtain ⟨ac, cc, hvc, ic, _⟩ := own_isOR oc
  subst hvc
  have HP0 := hide ((unhide HP).on xc)
  clear HC0 HP xc oc c0 c1 a0 a1 a2 a3 a4 a5 a6
  obtain ⟨c0, c1, a0, a1, a2, a3, a4, a5, a6⟩ := (unhide HP0).cells
  dsimp only at a0 a1 a2 a3 a4 a5 a6
  have HC1 := hide (GBeh2_at g n L ac cc d wc (unhide HP0).s.m ic hdl2 (unhide HV) (unhide HF) (unhide HP0).s.ul (unhide HP0).s.len)
  clear ic
  go_wp2_with fail
  refine (unhide HC1).mono ?_
  rintro y w1 ⟨g', S, ag, cg, rfl, hp, m1, x1, G, hG, hGs, oG⟩
  dsimp only
  rw [← hG.length_eq] at oG ⊢
  have hgg := beh_gone (unhide HP0).s.r d hp hG hGs
  subst hgg
  have HP1 := hide ((unhide HP0).on x1)
  have HM1 := hide m1
  have HOG := hide oG
  have HPm := hide hp
  clear HC1 HP0 x1 m1 oG hp hG hGs c0 c1 a0 a1 a2 a3 a4 a5 a6
  obtain ⟨c0, c1, a0, a1, a2, a3, a4, a5, a6⟩ := (unhide HP1).cells
  dsimp only at a0 a1 a2 a3 a4 a5 a6
  obtain ⟨y0, y1, f0, f1⟩ := (unhide HP1).next
  have HC2 := hide (RBehR_ok n a c D ad cd d w1 (unhide HP1).s.k (unhide HP1).s.l (unhide HP1).o hdl2 (unhide HTT) (unhide HP1).s.pd (unhide HV) (unhide HF))
  unfold rsV at HC2
  go_wp2_with fail
  refine (unhide HC2).mono ?_
  rintro y w2 h2
  obtain ⟨v2, vg, rfl, o2, og, x2⟩ := h2
  dsimp only
  obtain ⟨vag, vcg, hvg, _⟩ := rowD_form og
  subst hvg
  obtain ⟨av, cv, hvv, _⟩ := rowD_form o2
  subst hvv
  have hrel := (unhide HP1).s.beh_l (unhide HV) (unhide HF) (unhide HPm)
  have hHN : StR w2 g' (toD d : Int) (kpG d S) av (behL d D).1 := by
    obtain ⟨_, _, e9, i9, _⟩ := own_isRl o2
    injection e9 with e91 e92 e93
    subst e91
    exact ⟨(unhide HM1).below x2 (Nat.le_refl _), i9, hrel.1, hrel.2.1, hrel.2.2.1, toDR_q (unhide HV), ownR_typ o2⟩
  have HP2 := hide ((unhide HP1).on x2)
  have HN2 := hide hHN
  have HGG := hide (And.intro (rowD_below (unhide HOG) x2 (Nat.le_refl _)) og)
  have hgl := hrel.2.2.2
  clear HC2 HP1 x2 o2 og hHN hrel HM1 HPm HOG c0 c1 a0 a1 a2 a3 a4 a5 a6 y0 y1 f0 f1
  generalize (behL d D).1 = D2 at *
  generalize (behL d D).2 = G2 at *
  generalize kpG d S = L2 at *
  have HN := hide ((unhide HN2).put2 (unhide HP2).k3 (.int .i64 (toD d : Int)) (.slice av D2.length cv))
  have HP := hide ((unhide HP2).put3 (unhide HO) (.int .i64 (toD d : Int)) (.slice av D2.length cv))
  have HGZ := hide (And.intro (own_isNm (rowR_put2 (unhide HGG).1 (unhide HP2).k3 (by decide) (.int .i64 (toD d : Int)) (.slice av D2.length cv))) (own_isNm (rowR_put2 (unhide HGG).2 (unhide HP2).k3 (by decide) (.int .i64 (toD d : Int)) (.slice av D2.length cv))))
  obtain ⟨c0, c1, a0, a1, a2, a3, a4, a5, a6⟩ := (unhide HP2).cells
  dsimp only at a0 a1 a2 a3 a4 a5 a6
  obtain ⟨y0, y1, f0, f1⟩ := (unhide HP2).next
  obtain ⟨j0, j1, _, _⟩ := (unhide HP).next
  clear HP2 HN2 HGG
  go_upto_region 19 with fail
  clear j0 j1 y0 y1 f0 f1 c0 c1 a0 a1 a2 a3 a4 a5 a6
  generalize (w2.setCell ⟨B3, 0, none⟩ (.int .i64 (toD d : Int))).setCell ⟨B3, 1, none⟩ (.slice av D2.length cv) = wz at *
  have HNM := hide (RSameNames_at ag cg vag vcg G2 wz (unhide HGZ).1 (unhide HGZ).2 (Nat.le_trans hgl (by decide)))
  clear HGZ hgl
  go_wp2_with fail
  refine (unhide HNM).mono ?_
  rintro y w3 ⟨rfl, x3⟩
  dsimp only
  have HP3 := hide ((unhide HP).on x3)
  have HN3 := hide ((unhide HN).below x3 (Nat.le_refl _))
  clear HNM HP HN x3
  have HP := HP3
  have HN := HN3
  clear HP3 HN3
  go_upto_region 25 with fail
  have HPD := hide ((unhide HP).on (Below.refl w3.heap.size w3).drew)
  have HND := hide ((unhide HN).below (Below.refl w3.heap.size w3).drew (Nat.le_refl _))
  have HT := hide (tells_at g' (toD d : Int) L2 av cv D2 w3.drew (unhide HND))
  unfold rsV at HT
  clear HP HN
  refine regionL (S := fun z => z.cell? ⟨B3, 0, none⟩ = some (.int .i64 (toD d : Int)) ∧ z.cell? ⟨B3, 1, none⟩ = some (.slice av D2.length cv)) (fun _ => false) (by kernel_rfl) ?_
  generalize w3.drew = zz at *
  refine anyL_take (i := 0) (v := ?ven174) rfl (by kernel_rfl) (by kernel_rfl) (by kernel_rfl) (by kernel_rfl) (fun _ _ _ h => h) (Or.inl ⟨by rfl, ?hen174⟩) (clsR_two (unhide HPD).k3) ?_
  case hen174 => (intro w hSw; (try dsimp only at hSw); go_simp) <;> with_reducible rfl
  simp only [Act.put, List.getElem_toArray, List.getElem_cons_zero, List.setIfInBounds_toArray, List.set_cons_zero, List.set_cons_succ]
  refine anyL_take (i := 1) (v := ?ven175) rfl (by kernel_rfl) (by kernel_rfl) (by kernel_rfl) (by kernel_rfl) (fun _ _ _ h => h) (Or.inl ⟨by rfl, ?hen175⟩) (clsR_two (unhide HPD).k3) ?_
  case hen175 => (intro w hSw; (try dsimp only at hSw); go_simp) <;> with_reducible rfl
  simp only [Act.put, List.getElem_toArray, List.getElem_cons_zero, List.getElem_cons_succ, List.setIfInBounds_toArray, List.set_cons_zero, List.set_cons_succ]
  refine anyL_take (i := 2) (v := ?ven176) rfl (by kernel_rfl) (by kernel_rfl) (by kernel_rfl) (by kernel_rfl) (fun _ _ _ h => h) (Or.inl ⟨by rfl, ?hen176⟩) (clsR_two (unhide HPD).k3) ?_
  case hen176 => (intro w hSw; (try dsimp only at hSw); go_simp) <;> with_reducible rfl
  simp only [Act.put, List.getElem_toArray, List.getElem_cons_zero, List.getElem_cons_succ, List.setIfInBounds_toArray, List.set_cons_zero, List.set_cons_succ]
  refine anyL_take (i := 3) (v := ?ven177) rfl (by kernel_rfl) (by kernel_rfl) (by kernel_rfl) (by kernel_rfl) (fun _ _ _ h => h) (Or.inl ⟨by rfl, ?hen177⟩) (clsR_two (unhide HPD).k3) ?_
  case hen177 => (intro w hSw; (try dsimp only at hSw); go_simp) <;> with_reducible rfl
  simp only [Act.put, List.getElem_toArray, List.getElem_cons_zero, List.getElem_cons_succ, List.setIfInBounds_toArray, List.set_cons_zero, List.set_cons_succ]
  refine anyL_take (i := 4) (v := ?ven178) rfl (by kernel_rfl) (by kernel_rfl) (by kernel_rfl) (by kernel_rfl) (fun _ _ _ h => h) (Or.inl ⟨by rfl, ?hen178⟩) (clsR_two (unhide HPD).k3) ?_
  case hen178 => (intro w hSw; (try dsimp only at hSw); go_simp) <;> with_reducible rfl
  simp only [Act.put, List.getElem_toArray, List.getElem_cons_zero, List.getElem_cons_succ, List.setIfInBounds_toArray, List.set_cons_zero, List.set_cons_succ]
  refine anyL_take (i := 5) (v := ?ven179) rfl (by kernel_rfl) (by kernel_rfl) (by kernel_rfl) (by kernel_rfl) (fun _ _ _ h => h) (Or.inl ⟨by rfl, ?hen179⟩) (clsR_two (unhide HPD).k3) ?_
  case hen179 => (intro w hSw; (try dsimp only at hSw); go_simp) <;> with_reducible rfl
  simp only [Act.put, List.getElem_toArray, List.getElem_cons_zero, List.getElem_cons_succ, List.setIfInBounds_toArray, List.set_cons_zero, List.set_cons_succ]
  refine anyL_take (i := 6) (v := ?ven180) rfl (by kernel_rfl) (by kernel_rfl) (by kernel_rfl) (by kernel_rfl) (fun _ _ _ h => h) (Or.inl ⟨by rfl, ?hen180⟩) (clsR_two (unhide HPD).k3) ?_
  case hen180 => (intro w hSw; (try dsimp only at hSw); go_simp) <;> with_reducible rfl
  simp only [Act.put, List.getElem_toArray, List.getElem_cons_zero, List.getElem_cons_succ, List.setIfInBounds_toArray, List.set_cons_zero, List.set_cons_succ]
  refine anyL_ready (rs := [7]) (by kernel_rfl) (by simp) ?_
  refine AllL.cons rfl (fun K hK => ?_) AllL.nil
  go_simp
  refine (unhide HT).mono ?_
  rintro y v1 ⟨rfl, x1⟩
  have HP1 := hide ((unhide HPD).on x1)
  have HN1 := hide ((unhide HND).below x1 (Nat.le_refl _))
  refine unhide hK _ _ (fun _ => clsR_two (unhide HP1).k3) ?_
  clear hK K HT x1 HPD HND
  refine anyL_take (i := 8) (v := ?ven181) rfl (by kernel_rfl) (by kernel_rfl) (by kernel_rfl) (by kernel_rfl) (fun _ _ _ h => h) (Or.inl ⟨by rfl, ?hen181⟩) (clsR_two (unhide HP1).k3) ?_
  case hen181 => (intro w hSw; (try dsimp only at hSw); go_simp) <;> with_reducible rfl
  simp only [Act.put, List.getElem_toArray, List.getElem_cons_zero, List.getElem_cons_succ, List.setIfInBounds_toArray, List.set_cons_zero, List.set_cons_succ]
  refine anyL_take (i := 9) (v := ?ven182) rfl (by kernel_rfl) (by kernel_rfl) (by kernel_rfl) (by kernel_rfl) (fun _ _ _ h => h) (Or.inl ⟨by rfl, ?hen182⟩) (clsR_two (unhide HP1).k3) ?_
  case hen182 => (intro w hSw; (try dsimp only at hSw); go_simp) <;> with_reducible rfl
  simp only [Act.put, List.getElem_toArray, List.getElem_cons_zero, List.getElem_cons_succ, List.setIfInBounds_toArray, List.set_cons_zero, List.set_cons_succ]
  refine anyL_ready (rs := [10]) (by kernel_rfl) (by simp) ?_
  refine AllL.cons rfl (fun K hK => ?_) AllL.nil
  have q2 := (unhide HP1).put2 (.int .i64 (toD d : Int)) (.slice av D2.length cv)
  obtain ⟨y0, y1, f0, f1⟩ := (unhide HP1).res
  obtain ⟨r0, r1⟩ := clsR_two q2.1.1
  have HB9 := hide q2.1.2
  have HS9 := hide ((unhide HN1).put2 (unhide HP1).k2 (.int .i64 (toD d : Int)) (.slice av D2.length cv))
  have HSy := hide (clsR_two q2.2.2.1)
  clear q2
  go_simp
  refine unhide hK _ _ (fun _ => unhide HSy) ?_
  clear hK K y0 y1 f0 f1
  refine anyL_take (i := 11) (v := ?ven183) rfl (by kernel_rfl) (by kernel_rfl) (by kernel_rfl) (by kernel_rfl) (fun _ _ _ h => h) (Or.inl ⟨by rfl, ?hen183⟩) (unhide HSy) ?_
  case hen183 => (intro w hSw; (try dsimp only at hSw); go_simp) <;> with_reducible rfl
  simp only [Act.put, List.getElem_toArray, List.getElem_cons_zero, List.getElem_cons_succ, List.setIfInBounds_toArray, List.set_cons_zero, List.set_cons_succ]
  refine anyL_done (by kernel_rfl) ?_ _
  go_wp2_with fail
  refine bodyPost_ret (v := .tuple #[.pointer (some ⟨g', 0, none⟩), .agg #[.int .i64 (toD d : Int), .slice av D2.length cv], .bool true]) (by simp [results, Try.results11, go_sem, r0, r1]) rfl ?_
  exact ⟨g', (toD d : Int), L2, av, cv, D2, rfl, unhide HS9, unhide HB9⟩
end Go.Proofs.Ytifpjdodignflaa
