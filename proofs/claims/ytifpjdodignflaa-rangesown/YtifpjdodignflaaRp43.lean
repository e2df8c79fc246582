/- Layer 16: the law's play: Drop (written by wip/tools/rgs.py). · Layer 16: the law's play: Behind (written by wip/tools/rgs.py). -/
import Derived.Test.YtifpjdodignflaaRp41

section
namespace Go.Proofs.Ytifpjdodignflaa
open Go.ChangeShapes Go.WideShapes Go.ChangeAt Go.RowKit
attribute [local go_sem] Oper.semAt_some

set_option maxRecDepth 100000 in
set_option maxHeartbeats 8000000 in
theorem playDE_at (g : Nat) (n : Int) (L : List Rg) (a : Option Addr) (c : Nat) (D : List Rg) (x : Rg) (ad : Option Addr) (cd : Nat) (d : List Dop) (X : World) (h : StR X g n L a D) (ho : IsO X ad d) (hg : getG x.n L = none) :
    Calls Try.prog 11 #[.pointer (some ⟨g, 0, none⟩), rsV n a D.length c, ocA 1 x ad d.length cd] X (PlQ X) := by
  have HP := hide (PlJ.start X g n L a c D 1 x ad cd d h ho)
  have HO := hide ho
  obtain ⟨xn, xl, xh, xs, xe⟩ := x
  unfold rsV ocA
  dsimp only at HP ⊢
  clear h ho
  have HG0 := hide hg
  clear hg
  dsimp only at HG0
  go_enter Try.func11, Try.ntmps11
  go_upto_region 5 with fail
  generalize (((X.alloc (.cells #[.int .i64 n, .slice a D.length c] 30)).alloc (.cells #[.int .i64 1, .string xn, .int .i64 xl, .int .i64 xh, .int .i64 xs, .int .i64 xe, .slice ad d.length cd] 41)).alloc (.cells #[.int .i64 0, .slice none 0 0] 30)).alloc (.cells #[.int .i64 0, .slice none 0 0] 30) = w0 at *
  generalize X.heap.size + 1 = B1 at *
  generalize B1 + 1 = B2 at *
  generalize B2 + 1 = B3 at *
  obtain ⟨c0, c1, a0, a1, a2, a3, a4, a5, a6⟩ := (unhide HP).cells
  dsimp only at a0 a1 a2 a3 a4 a5 a6
  have HC1 := hide (GDropE_at g n L xn w0 (unhide HP).s.m (unhide HG0))
  go_wp2_with fail
  refine (unhide HC1).mono ?_
  rintro y w1 ⟨rfl, x1⟩
  dsimp only
  have HP1 := hide ((unhide HP).on x1)
  clear HC1 HP x1 c0 c1 a0 a1 a2 a3 a4 a5 a6
  obtain ⟨c0, c1, a0, a1, a2, a3, a4, a5, a6⟩ := (unhide HP1).cells
  dsimp only at a0 a1 a2 a3 a4 a5 a6
  obtain ⟨y0, y1, f0, f1⟩ := (unhide HP1).next
  have HC2 := hide (RDropR_all n a c D xn w1 (unhide HP1).s.k (unhide HP1).s.len3 ((unhide HP1).s.r.u))
  unfold rsV at HC2
  go_wp2_with fail
  refine (unhide HC2).mono ?_
  rintro y w2 h2
  rcases h2 with ⟨_, rfl, x2⟩ | ⟨h0, _⟩
  rotate_left
  · rw [← (unhide HP1).s.r.get, unhide HG0] at h0; cases h0
  dsimp only
  have HP2 := hide ((unhide HP1).on x2)
  clear HC2 HP1 x2 c0 c1 a0 a1 a2 a3 a4 a5 a6 y0 y1 f0 f1
  obtain ⟨c0, c1, a0, a1, a2, a3, a4, a5, a6⟩ := (unhide HP2).cells
  dsimp only at a0 a1 a2 a3 a4 a5 a6
  obtain ⟨y0, y1, f0, f1⟩ := (unhide HP2).next
  have HP := hide ((unhide HP2).put3 (unhide HO) (.int .i64 n) (.slice a D.length c))
  obtain ⟨j0, j1, _, _⟩ := (unhide HP).next
  clear HP2
  go_upto_region 24 with fail
  clear j0 j1 y0 y1 f0 f1 c0 c1 a0 a1 a2 a3 a4 a5 a6
  generalize (w2.setCell ⟨B3, 0, none⟩ (.int .i64 n)).setCell ⟨B3, 1, none⟩ (.slice a D.length c) = wz at *
  have HPD := hide ((unhide HP).on (Below.refl wz.heap.size wz).drew)
  have HT := hide (tells_at g n L a c D wz.drew (unhide HPD).s)
  unfold rsV at HT
  clear HP
  refine regionL (S := fun z => z.cell? ⟨X.heap.size, 0, none⟩ = some (.int .i64 n) ∧ z.cell? ⟨X.heap.size, 1, none⟩ = some (.slice a D.length c)) (fun _ => false) (by kernel_rfl) ?_
  generalize wz.drew = zz at *
  refine anyL_take (i := 0) (v := ?ven034) rfl (by kernel_rfl) (by kernel_rfl) (by kernel_rfl) (by kernel_rfl) (fun _ _ _ h => h) (Or.inl ⟨by rfl, ?hen034⟩) (clsR_two (unhide HPD).k0) ?_
  case hen034 => (intro w hSw; (try dsimp only at hSw); go_simp) <;> with_reducible rfl
  simp only [Act.put, List.getElem_toArray, List.getElem_cons_zero, List.setIfInBounds_toArray, List.set_cons_zero, List.set_cons_succ]
  refine anyL_take (i := 1) (v := ?ven035) rfl (by kernel_rfl) (by kernel_rfl) (by kernel_rfl) (by kernel_rfl) (fun _ _ _ h => h) (Or.inl ⟨by rfl, ?hen035⟩) (clsR_two (unhide HPD).k0) ?_
  case hen035 => (intro w hSw; (try dsimp only at hSw); go_simp) <;> with_reducible rfl
  simp only [Act.put, List.getElem_toArray, List.getElem_cons_zero, List.getElem_cons_succ, List.setIfInBounds_toArray, List.set_cons_zero, List.set_cons_succ]
  refine anyL_take (i := 2) (v := ?ven036) rfl (by kernel_rfl) (by kernel_rfl) (by kernel_rfl) (by kernel_rfl) (fun _ _ _ h => h) (Or.inl ⟨by rfl, ?hen036⟩) (clsR_two (unhide HPD).k0) ?_
  case hen036 => (intro w hSw; (try dsimp only at hSw); go_simp) <;> with_reducible rfl
  simp only [Act.put, List.getElem_toArray, List.getElem_cons_zero, List.getElem_cons_succ, List.setIfInBounds_toArray, List.set_cons_zero, List.set_cons_succ]
  refine anyL_take (i := 3) (v := ?ven037) rfl (by kernel_rfl) (by kernel_rfl) (by kernel_rfl) (by kernel_rfl) (fun _ _ _ h => h) (Or.inl ⟨by rfl, ?hen037⟩) (clsR_two (unhide HPD).k0) ?_
  case hen037 => (intro w hSw; (try dsimp only at hSw); go_simp) <;> with_reducible rfl
  simp only [Act.put, List.getElem_toArray, List.getElem_cons_zero, List.getElem_cons_succ, List.setIfInBounds_toArray, List.set_cons_zero, List.set_cons_succ]
  refine anyL_take (i := 4) (v := ?ven038) rfl (by kernel_rfl) (by kernel_rfl) (by kernel_rfl) (by kernel_rfl) (fun _ _ _ h => h) (Or.inl ⟨by rfl, ?hen038⟩) (clsR_two (unhide HPD).k0) ?_
  case hen038 => (intro w hSw; (try dsimp only at hSw); go_simp) <;> with_reducible rfl
  simp only [Act.put, List.getElem_toArray, List.getElem_cons_zero, List.getElem_cons_succ, List.setIfInBounds_toArray, List.set_cons_zero, List.set_cons_succ]
  refine anyL_take (i := 5) (v := ?ven039) rfl (by kernel_rfl) (by kernel_rfl) (by kernel_rfl) (by kernel_rfl) (fun _ _ _ h => h) (Or.inl ⟨by rfl, ?hen039⟩) (clsR_two (unhide HPD).k0) ?_
  case hen039 => (intro w hSw; (try dsimp only at hSw); go_simp) <;> with_reducible rfl
  simp only [Act.put, List.getElem_toArray, List.getElem_cons_zero, List.getElem_cons_succ, List.setIfInBounds_toArray, List.set_cons_zero, List.set_cons_succ]
  refine anyL_take (i := 6) (v := ?ven040) rfl (by kernel_rfl) (by kernel_rfl) (by kernel_rfl) (by kernel_rfl) (fun _ _ _ h => h) (Or.inl ⟨by rfl, ?hen040⟩) (clsR_two (unhide HPD).k0) ?_
  case hen040 => (intro w hSw; (try dsimp only at hSw); go_simp) <;> with_reducible rfl
  simp only [Act.put, List.getElem_toArray, List.getElem_cons_zero, List.getElem_cons_succ, List.setIfInBounds_toArray, List.set_cons_zero, List.set_cons_succ]
  refine anyL_ready (rs := [7]) (by kernel_rfl) (by simp) ?_
  refine AllL.cons rfl (fun K hK => ?_) AllL.nil
  go_simp
  refine (unhide HT).mono ?_
  rintro y v1 ⟨rfl, x1⟩
  have HP1 := hide ((unhide HPD).on x1)
  refine unhide hK _ _ (fun _ => clsR_two (unhide HP1).k0) ?_
  clear hK K HT x1 HPD
  refine anyL_take (i := 8) (v := ?ven041) rfl (by kernel_rfl) (by kernel_rfl) (by kernel_rfl) (by kernel_rfl) (fun _ _ _ h => h) (Or.inl ⟨by rfl, ?hen041⟩) (clsR_two (unhide HP1).k0) ?_
  case hen041 => (intro w hSw; (try dsimp only at hSw); go_simp) <;> with_reducible rfl
  simp only [Act.put, List.getElem_toArray, List.getElem_cons_zero, List.getElem_cons_succ, List.setIfInBounds_toArray, List.set_cons_zero, List.set_cons_succ]
  refine anyL_take (i := 9) (v := ?ven042) rfl (by kernel_rfl) (by kernel_rfl) (by kernel_rfl) (by kernel_rfl) (fun _ _ _ h => h) (Or.inl ⟨by rfl, ?hen042⟩) (clsR_two (unhide HP1).k0) ?_
  case hen042 => (intro w hSw; (try dsimp only at hSw); go_simp) <;> with_reducible rfl
  simp only [Act.put, List.getElem_toArray, List.getElem_cons_zero, List.getElem_cons_succ, List.setIfInBounds_toArray, List.set_cons_zero, List.set_cons_succ]
  refine anyL_ready (rs := [10]) (by kernel_rfl) (by simp) ?_
  refine AllL.cons rfl (fun K hK => ?_) AllL.nil
  have q2 := (unhide HP1).put2 (.int .i64 n) (.slice a D.length c)
  obtain ⟨y0, y1, f0, f1⟩ := (unhide HP1).res
  obtain ⟨r0, r1⟩ := clsR_two q2.1.1
  have HB9 := hide q2.1.2
  have HS9 := hide q2.2.2.2
  have HSy := hide (clsR_two q2.2.1)
  clear q2
  go_simp
  refine unhide hK _ _ (fun _ => unhide HSy) ?_
  clear hK K y0 y1 f0 f1
  refine anyL_take (i := 11) (v := ?ven043) rfl (by kernel_rfl) (by kernel_rfl) (by kernel_rfl) (by kernel_rfl) (fun _ _ _ h => h) (Or.inl ⟨by rfl, ?hen043⟩) (unhide HSy) ?_
  case hen043 => (intro w hSw; (try dsimp only at hSw); go_simp) <;> with_reducible rfl
  simp only [Act.put, List.getElem_toArray, List.getElem_cons_zero, List.getElem_cons_succ, List.setIfInBounds_toArray, List.set_cons_zero, List.set_cons_succ]
  refine anyL_done (by kernel_rfl) ?_ _
  go_wp2_with fail
  refine bodyPost_ret (v := .tuple #[.pointer (some ⟨g, 0, none⟩), .agg #[.int .i64 n, .slice a D.length c], .bool true]) (by simp [results, Try.results11, go_sem, r0, r1]) rfl ?_
  exact ⟨g, n, L, a, c, D, rfl, unhide HS9, unhide HB9⟩
set_option maxRecDepth 100000 in
set_option maxHeartbeats 8000000 in
theorem playDO_at (g : Nat) (n : Int) (L : List Rg) (a : Option Addr) (c : Nat) (D : List Rg) (x : Rg) (ad : Option Addr) (cd : Nat) (d : List Dop) (X : World) (h : StR X g n L a D) (ho : IsO X ad d) (m : Rg) (hg : getG x.n L = some m) :
    Calls Try.prog 11 #[.pointer (some ⟨g, 0, none⟩), rsV n a D.length c, ocA 1 x ad d.length cd] X (PlQ X) := by
  have HP := hide (PlJ.start X g n L a c D 1 x ad cd d h ho)
  have HO := hide ho
  obtain ⟨xn, xl, xh, xs, xe⟩ := x
  unfold rsV ocA
  dsimp only at HP ⊢
  clear h ho
  have HG0 := hide hg
  clear hg
  dsimp only at HG0
  go_enter Try.func11, Try.ntmps11
  go_upto_region 5 with fail
  generalize (((X.alloc (.cells #[.int .i64 n, .slice a D.length c] 30)).alloc (.cells #[.int .i64 1, .string xn, .int .i64 xl, .int .i64 xh, .int .i64 xs, .int .i64 xe, .slice ad d.length cd] 41)).alloc (.cells #[.int .i64 0, .slice none 0 0] 30)).alloc (.cells #[.int .i64 0, .slice none 0 0] 30) = w0 at *
  generalize X.heap.size + 1 = B1 at *
  generalize B1 + 1 = B2 at *
  generalize B2 + 1 = B3 at *
  obtain ⟨c0, c1, a0, a1, a2, a3, a4, a5, a6⟩ := (unhide HP).cells
  dsimp only at a0 a1 a2 a3 a4 a5 a6
  have HC1 := hide (GDrop_at g n L xn w0 (unhide HP).s.m m (unhide HG0))
  go_wp2_with fail
  refine (unhide HC1).mono ?_
  rintro y w1 ⟨g', rfl, m1, x1⟩
  dsimp only
  have HP1 := hide ((unhide HP).on x1)
  have HM1 := hide m1
  clear HC1 HP x1 m1 c0 c1 a0 a1 a2 a3 a4 a5 a6
  obtain ⟨c0, c1, a0, a1, a2, a3, a4, a5, a6⟩ := (unhide HP1).cells
  dsimp only at a0 a1 a2 a3 a4 a5 a6
  obtain ⟨y0, y1, f0, f1⟩ := (unhide HP1).next
  have HC2 := hide (RDropR_all n a c D xn w1 (unhide HP1).s.k (unhide HP1).s.len3 ((unhide HP1).s.r.u))
  unfold rsV at HC2
  go_wp2_with fail
  refine (unhide HC2).mono ?_
  rintro y w2 h2
  rcases h2 with ⟨h0, _⟩ | ⟨_, v2, rfl, o2, x2⟩
  · rw [← (unhide HP1).s.r.get, unhide HG0] at h0; cases h0
  dsimp only
  obtain ⟨av, cv, hvv, _⟩ := rowD_form o2
  subst hvv
  have hrel := (unhide HP1).s.del_l xn
  have hHN : StR w2 g' n (delG xn L) av (delG xn D) := by
    obtain ⟨_, _, e9, i9, _⟩ := own_isRl o2
    injection e9 with e91 e92 e93
    subst e91
    exact ⟨(unhide HM1).below x2 (Nat.le_refl _), i9, hrel.1, hrel.2.1, hrel.2.2, (unhide HP1).s.q, ownR_typ o2⟩
  have HP2 := hide ((unhide HP1).on x2)
  have HN2 := hide hHN
  clear HC2 HP1 x2 o2 hHN hrel HM1 c0 c1 a0 a1 a2 a3 a4 a5 a6 y0 y1 f0 f1
  generalize (delG xn D) = D2 at *
  generalize (delG xn L) = L2 at *
  have HN := hide ((unhide HN2).put2 (unhide HP2).k3 (.int .i64 n) (.slice av D2.length cv))
  have HP := hide ((unhide HP2).put3 (unhide HO) (.int .i64 n) (.slice av D2.length cv))
  obtain ⟨c0, c1, a0, a1, a2, a3, a4, a5, a6⟩ := (unhide HP2).cells
  dsimp only at a0 a1 a2 a3 a4 a5 a6
  obtain ⟨y0, y1, f0, f1⟩ := (unhide HP2).next
  obtain ⟨j0, j1, _, _⟩ := (unhide HP).next
  clear HP2 HN2
  go_upto_region 25 with fail
  clear j0 j1 y0 y1 f0 f1 c0 c1 a0 a1 a2 a3 a4 a5 a6
  generalize (w2.setCell ⟨B3, 0, none⟩ (.int .i64 n)).setCell ⟨B3, 1, none⟩ (.slice av D2.length cv) = wz at *
  have HPD := hide ((unhide HP).on (Below.refl wz.heap.size wz).drew)
  have HND := hide ((unhide HN).below (Below.refl wz.heap.size wz).drew (Nat.le_refl _))
  have HT := hide (tells_at g' n L2 av cv D2 wz.drew (unhide HND))
  unfold rsV at HT
  clear HP HN
  refine regionL (S := fun z => z.cell? ⟨B3, 0, none⟩ = some (.int .i64 n) ∧ z.cell? ⟨B3, 1, none⟩ = some (.slice av D2.length cv)) (fun _ => false) (by kernel_rfl) ?_
  generalize wz.drew = zz at *
  refine anyL_take (i := 0) (v := ?ven144) rfl (by kernel_rfl) (by kernel_rfl) (by kernel_rfl) (by kernel_rfl) (fun _ _ _ h => h) (Or.inl ⟨by rfl, ?hen144⟩) (clsR_two (unhide HPD).k3) ?_
  case hen144 => (intro w hSw; (try dsimp only at hSw); go_simp) <;> with_reducible rfl
  simp only [Act.put, List.getElem_toArray, List.getElem_cons_zero, List.setIfInBounds_toArray, List.set_cons_zero, List.set_cons_succ]
  refine anyL_take (i := 1) (v := ?ven145) rfl (by kernel_rfl) (by kernel_rfl) (by kernel_rfl) (by kernel_rfl) (fun _ _ _ h => h) (Or.inl ⟨by rfl, ?hen145⟩) (clsR_two (unhide HPD).k3) ?_
  case hen145 => (intro w hSw; (try dsimp only at hSw); go_simp) <;> with_reducible rfl
  simp only [Act.put, List.getElem_toArray, List.getElem_cons_zero, List.getElem_cons_succ, List.setIfInBounds_toArray, List.set_cons_zero, List.set_cons_succ]
  refine anyL_take (i := 2) (v := ?ven146) rfl (by kernel_rfl) (by kernel_rfl) (by kernel_rfl) (by kernel_rfl) (fun _ _ _ h => h) (Or.inl ⟨by rfl, ?hen146⟩) (clsR_two (unhide HPD).k3) ?_
  case hen146 => (intro w hSw; (try dsimp only at hSw); go_simp) <;> with_reducible rfl
  simp only [Act.put, List.getElem_toArray, List.getElem_cons_zero, List.getElem_cons_succ, List.setIfInBounds_toArray, List.set_cons_zero, List.set_cons_succ]
  refine anyL_take (i := 3) (v := ?ven147) rfl (by kernel_rfl) (by kernel_rfl) (by kernel_rfl) (by kernel_rfl) (fun _ _ _ h => h) (Or.inl ⟨by rfl, ?hen147⟩) (clsR_two (unhide HPD).k3) ?_
  case hen147 => (intro w hSw; (try dsimp only at hSw); go_simp) <;> with_reducible rfl
  simp only [Act.put, List.getElem_toArray, List.getElem_cons_zero, List.getElem_cons_succ, List.setIfInBounds_toArray, List.set_cons_zero, List.set_cons_succ]
  refine anyL_take (i := 4) (v := ?ven148) rfl (by kernel_rfl) (by kernel_rfl) (by kernel_rfl) (by kernel_rfl) (fun _ _ _ h => h) (Or.inl ⟨by rfl, ?hen148⟩) (clsR_two (unhide HPD).k3) ?_
  case hen148 => (intro w hSw; (try dsimp only at hSw); go_simp) <;> with_reducible rfl
  simp only [Act.put, List.getElem_toArray, List.getElem_cons_zero, List.getElem_cons_succ, List.setIfInBounds_toArray, List.set_cons_zero, List.set_cons_succ]
  refine anyL_take (i := 5) (v := ?ven149) rfl (by kernel_rfl) (by kernel_rfl) (by kernel_rfl) (by kernel_rfl) (fun _ _ _ h => h) (Or.inl ⟨by rfl, ?hen149⟩) (clsR_two (unhide HPD).k3) ?_
  case hen149 => (intro w hSw; (try dsimp only at hSw); go_simp) <;> with_reducible rfl
  simp only [Act.put, List.getElem_toArray, List.getElem_cons_zero, List.getElem_cons_succ, List.setIfInBounds_toArray, List.set_cons_zero, List.set_cons_succ]
  refine anyL_take (i := 6) (v := ?ven150) rfl (by kernel_rfl) (by kernel_rfl) (by kernel_rfl) (by kernel_rfl) (fun _ _ _ h => h) (Or.inl ⟨by rfl, ?hen150⟩) (clsR_two (unhide HPD).k3) ?_
  case hen150 => (intro w hSw; (try dsimp only at hSw); go_simp) <;> with_reducible rfl
  simp only [Act.put, List.getElem_toArray, List.getElem_cons_zero, List.getElem_cons_succ, List.setIfInBounds_toArray, List.set_cons_zero, List.set_cons_succ]
  refine anyL_ready (rs := [7]) (by kernel_rfl) (by simp) ?_
  refine AllL.cons rfl (fun K hK => ?_) AllL.nil
  go_simp
  refine (unhide HT).mono ?_
  rintro y v1 ⟨rfl, x1⟩
  have HP1 := hide ((unhide HPD).on x1)
  have HN1 := hide ((unhide HND).below x1 (Nat.le_refl _))
  refine unhide hK _ _ (fun _ => clsR_two (unhide HP1).k3) ?_
  clear hK K HT x1 HPD HND
  refine anyL_take (i := 8) (v := ?ven151) rfl (by kernel_rfl) (by kernel_rfl) (by kernel_rfl) (by kernel_rfl) (fun _ _ _ h => h) (Or.inl ⟨by rfl, ?hen151⟩) (clsR_two (unhide HP1).k3) ?_
  case hen151 => (intro w hSw; (try dsimp only at hSw); go_simp) <;> with_reducible rfl
  simp only [Act.put, List.getElem_toArray, List.getElem_cons_zero, List.getElem_cons_succ, List.setIfInBounds_toArray, List.set_cons_zero, List.set_cons_succ]
  refine anyL_take (i := 9) (v := ?ven152) rfl (by kernel_rfl) (by kernel_rfl) (by kernel_rfl) (by kernel_rfl) (fun _ _ _ h => h) (Or.inl ⟨by rfl, ?hen152⟩) (clsR_two (unhide HP1).k3) ?_
  case hen152 => (intro w hSw; (try dsimp only at hSw); go_simp) <;> with_reducible rfl
  simp only [Act.put, List.getElem_toArray, List.getElem_cons_zero, List.getElem_cons_succ, List.setIfInBounds_toArray, List.set_cons_zero, List.set_cons_succ]
  refine anyL_ready (rs := [10]) (by kernel_rfl) (by simp) ?_
  refine AllL.cons rfl (fun K hK => ?_) AllL.nil
  have q2 := (unhide HP1).put2 (.int .i64 n) (.slice av D2.length cv)
  obtain ⟨y0, y1, f0, f1⟩ := (unhide HP1).res
  obtain ⟨r0, r1⟩ := clsR_two q2.1.1
  have HB9 := hide q2.1.2
  have HS9 := hide ((unhide HN1).put2 (unhide HP1).k2 (.int .i64 n) (.slice av D2.length cv))
  have HSy := hide (clsR_two q2.2.2.1)
  clear q2
  go_simp
  refine unhide hK _ _ (fun _ => unhide HSy) ?_
  clear hK K y0 y1 f0 f1
  refine anyL_take (i := 11) (v := ?ven153) rfl (by kernel_rfl) (by kernel_rfl) (by kernel_rfl) (by kernel_rfl) (fun _ _ _ h => h) (Or.inl ⟨by rfl, ?hen153⟩) (unhide HSy) ?_
  case hen153 => (intro w hSw; (try dsimp only at hSw); go_simp) <;> with_reducible rfl
  simp only [Act.put, List.getElem_toArray, List.getElem_cons_zero, List.getElem_cons_succ, List.setIfInBounds_toArray, List.set_cons_zero, List.set_cons_succ]
  refine anyL_done (by kernel_rfl) ?_ _
  go_wp2_with fail
  refine bodyPost_ret (v := .tuple #[.pointer (some ⟨g', 0, none⟩), .agg #[.int .i64 n, .slice av D2.length cv], .bool true]) (by simp [results, Try.results11, go_sem, r0, r1]) rfl ?_
  exact ⟨g', n, L2, av, cv, D2, rfl, unhide HS9, unhide HB9⟩
end Go.Proofs.Ytifpjdodignflaa
end

section
namespace Go.Proofs.Ytifpjdodignflaa
open Go.ChangeShapes Go.WideShapes Go.ChangeAt Go.RowKit
attribute [local go_sem] Oper.semAt_some

set_option maxRecDepth 100000 in
set_option maxHeartbeats 8000000 in
theorem playBV_at (g : Nat) (n : Int) (L : List Rg) (a : Option Addr) (c : Nat) (D : List Rg) (x : Rg) (ad : Option Addr) (cd : Nat) (d : List Dop) (X : World) (h : StR X g n L a D) (ho : IsO X ad d) (hz : d = [] ∨ ∃ q, ad = some q) (hdl : d.length * 32 ≤ 140737488355328) (ht : ∀ o ∈ d, o.t.length ≤ 140737488355328) (hv : valB d = false) :
    Calls Try.prog 11 #[.pointer (some ⟨g, 0, none⟩), rsV n a D.length c, ocA 2 x ad d.length cd] X (PlQ X) := by
  have HP := hide (PlJ.start X g n L a c D 2 x ad cd d h ho)
  have HO := hide ho
  obtain ⟨xn, xl, xh, xs, xe⟩ := x
  unfold rsV ocA
  dsimp only at HP ⊢
  clear h ho
  have HCP := hide fun (Y : World) (hY : IsO Y ad d) => RCopy_at ad cd d Y hY hz hdl
  have hdl2 : d.length ≤ 4611686018427387904 := by omega
  have HTT := hide ht
  clear hz hdl ht
  have HV := hide hv
  clear hv
  go_enter Try.func11, Try.ntmps11
  go_upto_region 5 with fail
  generalize (((X.alloc (.cells #[.int .i64 n, .slice a D.length c] 30)).alloc (.cells #[.int .i64 2, .string xn, .int .i64 xl, .int .i64 xh, .int .i64 xs, .int .i64 xe, .slice ad d.length cd] 41)).alloc (.cells #[.int .i64 0, .slice none 0 0] 30)).alloc (.cells #[.int .i64 0, .slice none 0 0] 30) = w0 at *
  generalize X.heap.size + 1 = B1 at *
  generalize B1 + 1 = B2 at *
  generalize B2 + 1 = B3 at *
  obtain ⟨c0, c1, a0, a1, a2, a3, a4, a5, a6⟩ := (unhide HP).cells
  dsimp only at a0 a1 a2 a3 a4 a5 a6
  have HC0 := hide (unhide HCP w0 (unhide HP).o)
  clear HCP
  go_wp2_with fail
  refine (unhide HC0).mono ?_
  rintro y wc ⟨vc, rfl, oc, xc⟩
  dsimp only
  obtain ⟨ac, cc, hvc, ic, _⟩ := own_isOR oc
  subst hvc
  have HP0 := hide ((unhide HP).on xc)
  clear HC0 HP xc oc c0 c1 a0 a1 a2 a3 a4 a5 a6
  obtain ⟨c0, c1, a0, a1, a2, a3, a4, a5, a6⟩ := (unhide HP0).cells
  dsimp only at a0 a1 a2 a3 a4 a5 a6
  have HC1 := hide (GBehV_at g ac cc d wc ic hdl2 (unhide HV))
  clear ic
  go_wp2_with fail
  refine (unhide HC1).mono ?_
  rintro y w1 ⟨rfl, x1⟩
  dsimp only
  have HP1 := hide ((unhide HP0).on x1)
  clear HC1 HP0 x1 c0 c1 a0 a1 a2 a3 a4 a5 a6
  obtain ⟨c0, c1, a0, a1, a2, a3, a4, a5, a6⟩ := (unhide HP1).cells
  dsimp only at a0 a1 a2 a3 a4 a5 a6
  obtain ⟨y0, y1, f0, f1⟩ := (unhide HP1).next
  have HC2 := hide (RBehR_no n a c D.length ad cd d w1 (unhide HP1).o hdl2 (unhide HTT) (unhide HV))
  go_wp2_with fail
  refine (unhide HC2).mono ?_
  rintro y w2 h2
  obtain ⟨rfl, x2⟩ := h2
  dsimp only
  have HP2 := hide ((unhide HP1).on x2)
  clear HC2 HP1 x2 c0 c1 a0 a1 a2 a3 a4 a5 a6 y0 y1 f0 f1
  obtain ⟨c0, c1, a0, a1, a2, a3, a4, a5, a6⟩ := (unhide HP2).cells
  dsimp only at a0 a1 a2 a3 a4 a5 a6
  obtain ⟨y0, y1, f0, f1⟩ := (unhide HP2).next
  have HP := hide ((unhide HP2).put3 (unhide HO) (.int .i64 n) (.slice a D.length c))
  obtain ⟨j0, j1, _, _⟩ := (unhide HP).next
  clear HP2
  go_upto_region 19 with fail
  clear j0 j1 y0 y1 f0 f1 c0 c1 a0 a1 a2 a3 a4 a5 a6
  generalize (w2.setCell ⟨B3, 0, none⟩ (.int .i64 n)).setCell ⟨B3, 1, none⟩ (.slice a D.length c) = wz at *
  have HNM := hide (RSameNames_at none 0 none 0 [] wz (.inl rfl) (.inl rfl) (by simp))
  simp only [List.length_nil] at HNM
  go_wp2_with fail
  refine (unhide HNM).mono ?_
  rintro y w3 ⟨rfl, x3⟩
  dsimp only
  have HP3 := hide ((unhide HP).on x3)
  clear HNM HP x3
  have HP := hide (unhide HP3)
  clear HP3
  go_upto_region 24 with fail
  have HPD := hide ((unhide HP).on (Below.refl w3.heap.size w3).drew)
  have HT := hide (tells_at g n L a c D w3.drew (unhide HPD).s)
  unfold rsV at HT
  clear HP
  refine regionL (S := fun z => z.cell? ⟨X.heap.size, 0, none⟩ = some (.int .i64 n) ∧ z.cell? ⟨X.heap.size, 1, none⟩ = some (.slice a D.length c)) (fun _ => false) (by kernel_rfl) ?_
  generalize w3.drew = zz at *
  refine anyL_take (i := 0) (v := ?ven054) rfl (by kernel_rfl) (by kernel_rfl) (by kernel_rfl) (by kernel_rfl) (fun _ _ _ h => h) (Or.inl ⟨by rfl, ?hen054⟩) (clsR_two (unhide HPD).k0) ?_
  case hen054 => (intro w hSw; (try dsimp only at hSw); go_simp) <;> with_reducible rfl
  simp only [Act.put, List.getElem_toArray, List.getElem_cons_zero, List.setIfInBounds_toArray, List.set_cons_zero, List.set_cons_succ]
  refine anyL_take (i := 1) (v := ?ven055) rfl (by kernel_rfl) (by kernel_rfl) (by kernel_rfl) (by kernel_rfl) (fun _ _ _ h => h) (Or.inl ⟨by rfl, ?hen055⟩) (clsR_two (unhide HPD).k0) ?_
  case hen055 => (intro w hSw; (try dsimp only at hSw); go_simp) <;> with_reducible rfl
  simp only [Act.put, List.getElem_toArray, List.getElem_cons_zero, List.getElem_cons_succ, List.setIfInBounds_toArray, List.set_cons_zero, List.set_cons_succ]
  refine anyL_take (i := 2) (v := ?ven056) rfl (by kernel_rfl) (by kernel_rfl) (by kernel_rfl) (by kernel_rfl) (fun _ _ _ h => h) (Or.inl ⟨by rfl, ?hen056⟩) (clsR_two (unhide HPD).k0) ?_
  case hen056 => (intro w hSw; (try dsimp only at hSw); go_simp) <;> with_reducible rfl
  simp only [Act.put, List.getElem_toArray, List.getElem_cons_zero, List.getElem_cons_succ, List.setIfInBounds_toArray, List.set_cons_zero, List.set_cons_succ]
  refine anyL_take (i := 3) (v := ?ven057) rfl (by kernel_rfl) (by kernel_rfl) (by kernel_rfl) (by kernel_rfl) (fun _ _ _ h => h) (Or.inl ⟨by rfl, ?hen057⟩) (clsR_two (unhide HPD).k0) ?_
  case hen057 => (intro w hSw; (try dsimp only at hSw); go_simp) <;> with_reducible rfl
  simp only [Act.put, List.getElem_toArray, List.getElem_cons_zero, List.getElem_cons_succ, List.setIfInBounds_toArray, List.set_cons_zero, List.set_cons_succ]
  refine anyL_take (i := 4) (v := ?ven058) rfl (by kernel_rfl) (by kernel_rfl) (by kernel_rfl) (by kernel_rfl) (fun _ _ _ h => h) (Or.inl ⟨by rfl, ?hen058⟩) (clsR_two (unhide HPD).k0) ?_
  case hen058 => (intro w hSw; (try dsimp only at hSw); go_simp) <;> with_reducible rfl
  simp only [Act.put, List.getElem_toArray, List.getElem_cons_zero, List.getElem_cons_succ, List.setIfInBounds_toArray, List.set_cons_zero, List.set_cons_succ]
  refine anyL_take (i := 5) (v := ?ven059) rfl (by kernel_rfl) (by kernel_rfl) (by kernel_rfl) (by kernel_rfl) (fun _ _ _ h => h) (Or.inl ⟨by rfl, ?hen059⟩) (clsR_two (unhide HPD).k0) ?_
  case hen059 => (intro w hSw; (try dsimp only at hSw); go_simp) <;> with_reducible rfl
  simp only [Act.put, List.getElem_toArray, List.getElem_cons_zero, List.getElem_cons_succ, List.setIfInBounds_toArray, List.set_cons_zero, List.set_cons_succ]
  refine anyL_take (i := 6) (v := ?ven060) rfl (by kernel_rfl) (by kernel_rfl) (by kernel_rfl) (by kernel_rfl) (fun _ _ _ h => h) (Or.inl ⟨by rfl, ?hen060⟩) (clsR_two (unhide HPD).k0) ?_
  case hen060 => (intro w hSw; (try dsimp only at hSw); go_simp) <;> with_reducible rfl
  simp only [Act.put, List.getElem_toArray, List.getElem_cons_zero, List.getElem_cons_succ, List.setIfInBounds_toArray, List.set_cons_zero, List.set_cons_succ]
  refine anyL_ready (rs := [7]) (by kernel_rfl) (by simp) ?_
  refine AllL.cons rfl (fun K hK => ?_) AllL.nil
  go_simp
  refine (unhide HT).mono ?_
  rintro y v1 ⟨rfl, x1⟩
  have HP1 := hide ((unhide HPD).on x1)
  refine unhide hK _ _ (fun _ => clsR_two (unhide HP1).k0) ?_
  clear hK K HT x1 HPD
  refine anyL_take (i := 8) (v := ?ven061) rfl (by kernel_rfl) (by kernel_rfl) (by kernel_rfl) (by kernel_rfl) (fun _ _ _ h => h) (Or.inl ⟨by rfl, ?hen061⟩) (clsR_two (unhide HP1).k0) ?_
  case hen061 => (intro w hSw; (try dsimp only at hSw); go_simp) <;> with_reducible rfl
  simp only [Act.put, List.getElem_toArray, List.getElem_cons_zero, List.getElem_cons_succ, List.setIfInBounds_toArray, List.set_cons_zero, List.set_cons_succ]
  refine anyL_take (i := 9) (v := ?ven062) rfl (by kernel_rfl) (by kernel_rfl) (by kernel_rfl) (by kernel_rfl) (fun _ _ _ h => h) (Or.inl ⟨by rfl, ?hen062⟩) (clsR_two (unhide HP1).k0) ?_
  case hen062 => (intro w hSw; (try dsimp only at hSw); go_simp) <;> with_reducible rfl
  simp only [Act.put, List.getElem_toArray, List.getElem_cons_zero, List.getElem_cons_succ, List.setIfInBounds_toArray, List.set_cons_zero, List.set_cons_succ]
  refine anyL_ready (rs := [10]) (by kernel_rfl) (by simp) ?_
  refine AllL.cons rfl (fun K hK => ?_) AllL.nil
  have q2 := (unhide HP1).put2 (.int .i64 n) (.slice a D.length c)
  obtain ⟨y0, y1, f0, f1⟩ := (unhide HP1).res
  obtain ⟨r0, r1⟩ := clsR_two q2.1.1
  have HB9 := hide q2.1.2
  have HS9 := hide q2.2.2.2
  have HSy := hide (clsR_two q2.2.1)
  clear q2
  go_simp
  refine unhide hK _ _ (fun _ => unhide HSy) ?_
  clear hK K y0 y1 f0 f1
  refine anyL_take (i := 11) (v := ?ven063) rfl (by kernel_rfl) (by kernel_rfl) (by kernel_rfl) (by kernel_rfl) (fun _ _ _ h => h) (Or.inl ⟨by rfl, ?hen063⟩) (unhide HSy) ?_
  case hen063 => (intro w hSw; (try dsimp only at hSw); go_simp) <;> with_reducible rfl
  simp only [Act.put, List.getElem_toArray, List.getElem_cons_zero, List.getElem_cons_succ, List.setIfInBounds_toArray, List.set_cons_zero, List.set_cons_succ]
  refine anyL_done (by kernel_rfl) ?_ _
  go_wp2_with fail
  refine bodyPost_ret (v := .tuple #[.pointer (some ⟨g, 0, none⟩), .agg #[.int .i64 n, .slice a D.length c], .bool true]) (by simp [results, Try.results11, go_sem, r0, r1]) rfl ?_
  exact ⟨g, n, L, a, c, D, rfl, unhide HS9, unhide HB9⟩
set_option maxRecDepth 100000 in
set_option maxHeartbeats 8000000 in
theorem playBF_at (g : Nat) (n : Int) (L : List Rg) (a : Option Addr) (c : Nat) (D : List Rg) (x : Rg) (ad : Option Addr) (cd : Nat) (d : List Dop) (X : World) (h : StR X g n L a D) (ho : IsO X ad d) (hz : d = [] ∨ ∃ q, ad = some q) (hdl : d.length * 32 ≤ 140737488355328) (ht : ∀ o ∈ d, o.t.length ≤ 140737488355328) (hv : valB d = true) (hf : (frD d : Int) ≠ n) :
    Calls Try.prog 11 #[.pointer (some ⟨g, 0, none⟩), rsV n a D.length c, ocA 2 x ad d.length cd] X (PlQ X) := by
  have HP := hide (PlJ.start X g n L a c D 2 x ad cd d h ho)
  have HO := hide ho
  obtain ⟨xn, xl, xh, xs, xe⟩ := x
  unfold rsV ocA
  dsimp only at HP ⊢
  clear h ho
  have HCP := hide fun (Y : World) (hY : IsO Y ad d) => RCopy_at ad cd d Y hY hz hdl
  have hdl2 : d.length ≤ 4611686018427387904 := by omega
  have HTT := hide ht
  clear hz hdl ht
  have HV := hide hv
  clear hv
  have HF := hide hf
  clear hf
  go_enter Try.func11, Try.ntmps11
  go_upto_region 5 with fail
  generalize (((X.alloc (.cells #[.int .i64 n, .slice a D.length c] 30)).alloc (.cells #[.int .i64 2, .string xn, .int .i64 xl, .int .i64 xh, .int .i64 xs, .int .i64 xe, .slice ad d.length cd] 41)).alloc (.cells #[.int .i64 0, .slice none 0 0] 30)).alloc (.cells #[.int .i64 0, .slice none 0 0] 30) = w0 at *
  generalize X.heap.size + 1 = B1 at *
  generalize B1 + 1 = B2 at *
  generalize B2 + 1 = B3 at *
  obtain ⟨c0, c1, a0, a1, a2, a3, a4, a5, a6⟩ := (unhide HP).cells
  dsimp only at a0 a1 a2 a3 a4 a5 a6
  have HC0 := hide (unhide HCP w0 (unhide HP).o)
  clear HCP
  go_wp2_with fail
  refine (unhide HC0).mono ?_
  rintro y wc ⟨vc, rfl, oc, xc⟩
  dsimp only
  obtain ⟨ac, cc, hvc, ic, _⟩ := own_isOR oc
  subst hvc
  have HP0 := hide ((unhide HP).on xc)
  clear HC0 HP xc oc c0 c1 a0 a1 a2 a3 a4 a5 a6
  obtain ⟨c0, c1, a0, a1, a2, a3, a4, a5, a6⟩ := (unhide HP0).cells
  dsimp only at a0 a1 a2 a3 a4 a5 a6
  have HC1 := hide (GBehF_at g n L ac cc d wc (unhide HP0).s.m ic hdl2 (unhide HV) (unhide HF))
  clear ic
  go_wp2_with fail
  refine (unhide HC1).mono ?_
  rintro y w1 ⟨rfl, x1⟩
  dsimp only
  have HP1 := hide ((unhide HP0).on x1)
  clear HC1 HP0 x1 c0 c1 a0 a1 a2 a3 a4 a5 a6
  obtain ⟨c0, c1, a0, a1, a2, a3, a4, a5, a6⟩ := (unhide HP1).cells
  dsimp only at a0 a1 a2 a3 a4 a5 a6
  obtain ⟨y0, y1, f0, f1⟩ := (unhide HP1).next
  have HC2 := hide (RBehR_fit n a c D.length ad cd d w1 (unhide HP1).o hdl2 (unhide HTT) (unhide HV) (unhide HF))
  go_wp2_with fail
  refine (unhide HC2).mono ?_
  rintro y w2 h2
  obtain ⟨rfl, x2⟩ := h2
  dsimp only
  have HP2 := hide ((unhide HP1).on x2)
  clear HC2 HP1 x2 c0 c1 a0 a1 a2 a3 a4 a5 a6 y0 y1 f0 f1
  obtain ⟨c0, c1, a0, a1, a2, a3, a4, a5, a6⟩ := (unhide HP2).cells
  dsimp only at a0 a1 a2 a3 a4 a5 a6
  obtain ⟨y0, y1, f0, f1⟩ := (unhide HP2).next
  have HP := hide ((unhide HP2).put3 (unhide HO) (.int .i64 n) (.slice a D.length c))
  obtain ⟨j0, j1, _, _⟩ := (unhide HP).next
  clear HP2
  go_upto_region 19 with fail
  clear j0 j1 y0 y1 f0 f1 c0 c1 a0 a1 a2 a3 a4 a5 a6
  generalize (w2.setCell ⟨B3, 0, none⟩ (.int .i64 n)).setCell ⟨B3, 1, none⟩ (.slice a D.length c) = wz at *
  have HNM := hide (RSameNames_at none 0 none 0 [] wz (.inl rfl) (.inl rfl) (by simp))
  simp only [List.length_nil] at HNM
  go_wp2_with fail
  refine (unhide HNM).mono ?_
  rintro y w3 ⟨rfl, x3⟩
  dsimp only
  have HP3 := hide ((unhide HP).on x3)
  clear HNM HP x3
  have HP := hide (unhide HP3)
  clear HP3
  go_upto_region 24 with fail
  have HPD := hide ((unhide HP).on (Below.refl w3.heap.size w3).drew)
  have HT := hide (tells_at g n L a c D w3.drew (unhide HPD).s)
  unfold rsV at HT
  clear HP
  refine regionL (S := fun z => z.cell? ⟨X.heap.size, 0, none⟩ = some (.int .i64 n) ∧ z.cell? ⟨X.heap.size, 1, none⟩ = some (.slice a D.length c)) (fun _ => false) (by kernel_rfl) ?_
  generalize w3.drew = zz at *
  refine anyL_take (i := 0) (v := ?ven064) rfl (by kernel_rfl) (by kernel_rfl) (by kernel_rfl) (by kernel_rfl) (fun _ _ _ h => h) (Or.inl ⟨by rfl, ?hen064⟩) (clsR_two (unhide HPD).k0) ?_
  case hen064 => (intro w hSw; (try dsimp only at hSw); go_simp) <;> with_reducible rfl
  simp only [Act.put, List.getElem_toArray, List.getElem_cons_zero, List.setIfInBounds_toArray, List.set_cons_zero, List.set_cons_succ]
  refine anyL_take (i := 1) (v := ?ven065) rfl (by kernel_rfl) (by kernel_rfl) (by kernel_rfl) (by kernel_rfl) (fun _ _ _ h => h) (Or.inl ⟨by rfl, ?hen065⟩) (clsR_two (unhide HPD).k0) ?_
  case hen065 => (intro w hSw; (try dsimp only at hSw); go_simp) <;> with_reducible rfl
  simp only [Act.put, List.getElem_toArray, List.getElem_cons_zero, List.getElem_cons_succ, List.setIfInBounds_toArray, List.set_cons_zero, List.set_cons_succ]
  refine anyL_take (i := 2) (v := ?ven066) rfl (by kernel_rfl) (by kernel_rfl) (by kernel_rfl) (by kernel_rfl) (fun _ _ _ h => h) (Or.inl ⟨by rfl, ?hen066⟩) (clsR_two (unhide HPD).k0) ?_
  case hen066 => (intro w hSw; (try dsimp only at hSw); go_simp) <;> with_reducible rfl
  simp only [Act.put, List.getElem_toArray, List.getElem_cons_zero, List.getElem_cons_succ, List.setIfInBounds_toArray, List.set_cons_zero, List.set_cons_succ]
  refine anyL_take (i := 3) (v := ?ven067) rfl (by kernel_rfl) (by kernel_rfl) (by kernel_rfl) (by kernel_rfl) (fun _ _ _ h => h) (Or.inl ⟨by rfl, ?hen067⟩) (clsR_two (unhide HPD).k0) ?_
  case hen067 => (intro w hSw; (try dsimp only at hSw); go_simp) <;> with_reducible rfl
  simp only [Act.put, List.getElem_toArray, List.getElem_cons_zero, List.getElem_cons_succ, List.setIfInBounds_toArray, List.set_cons_zero, List.set_cons_succ]
  refine anyL_take (i := 4) (v := ?ven068) rfl (by kernel_rfl) (by kernel_rfl) (by kernel_rfl) (by kernel_rfl) (fun _ _ _ h => h) (Or.inl ⟨by rfl, ?hen068⟩) (clsR_two (unhide HPD).k0) ?_
  case hen068 => (intro w hSw; (try dsimp only at hSw); go_simp) <;> with_reducible rfl
  simp only [Act.put, List.getElem_toArray, List.getElem_cons_zero, List.getElem_cons_succ, List.setIfInBounds_toArray, List.set_cons_zero, List.set_cons_succ]
  refine anyL_take (i := 5) (v := ?ven069) rfl (by kernel_rfl) (by kernel_rfl) (by kernel_rfl) (by kernel_rfl) (fun _ _ _ h => h) (Or.inl ⟨by rfl, ?hen069⟩) (clsR_two (unhide HPD).k0) ?_
  case hen069 => (intro w hSw; (try dsimp only at hSw); go_simp) <;> with_reducible rfl
  simp only [Act.put, List.getElem_toArray, List.getElem_cons_zero, List.getElem_cons_succ, List.setIfInBounds_toArray, List.set_cons_zero, List.set_cons_succ]
  refine anyL_take (i := 6) (v := ?ven070) rfl (by kernel_rfl) (by kernel_rfl) (by kernel_rfl) (by kernel_rfl) (fun _ _ _ h => h) (Or.inl ⟨by rfl, ?hen070⟩) (clsR_two (unhide HPD).k0) ?_
  case hen070 => (intro w hSw; (try dsimp only at hSw); go_simp) <;> with_reducible rfl
  simp only [Act.put, List.getElem_toArray, List.getElem_cons_zero, List.getElem_cons_succ, List.setIfInBounds_toArray, List.set_cons_zero, List.set_cons_succ]
  refine anyL_ready (rs := [7]) (by kernel_rfl) (by simp) ?_
  refine AllL.cons rfl (fun K hK => ?_) AllL.nil
  go_simp
  refine (unhide HT).mono ?_
  rintro y v1 ⟨rfl, x1⟩
  have HP1 := hide ((unhide HPD).on x1)
  refine unhide hK _ _ (fun _ => clsR_two (unhide HP1).k0) ?_
  clear hK K HT x1 HPD
  refine anyL_take (i := 8) (v := ?ven071) rfl (by kernel_rfl) (by kernel_rfl) (by kernel_rfl) (by kernel_rfl) (fun _ _ _ h => h) (Or.inl ⟨by rfl, ?hen071⟩) (clsR_two (unhide HP1).k0) ?_
  case hen071 => (intro w hSw; (try dsimp only at hSw); go_simp) <;> with_reducible rfl
  simp only [Act.put, List.getElem_toArray, List.getElem_cons_zero, List.getElem_cons_succ, List.setIfInBounds_toArray, List.set_cons_zero, List.set_cons_succ]
  refine anyL_take (i := 9) (v := ?ven072) rfl (by kernel_rfl) (by kernel_rfl) (by kernel_rfl) (by kernel_rfl) (fun _ _ _ h => h) (Or.inl ⟨by rfl, ?hen072⟩) (clsR_two (unhide HP1).k0) ?_
  case hen072 => (intro w hSw; (try dsimp only at hSw); go_simp) <;> with_reducible rfl
  simp only [Act.put, List.getElem_toArray, List.getElem_cons_zero, List.getElem_cons_succ, List.setIfInBounds_toArray, List.set_cons_zero, List.set_cons_succ]
  refine anyL_ready (rs := [10]) (by kernel_rfl) (by simp) ?_
  refine AllL.cons rfl (fun K hK => ?_) AllL.nil
  have q2 := (unhide HP1).put2 (.int .i64 n) (.slice a D.length c)
  obtain ⟨y0, y1, f0, f1⟩ := (unhide HP1).res
  obtain ⟨r0, r1⟩ := clsR_two q2.1.1
  have HB9 := hide q2.1.2
  have HS9 := hide q2.2.2.2
  have HSy := hide (clsR_two q2.2.1)
  clear q2
  go_simp
  refine unhide hK _ _ (fun _ => unhide HSy) ?_
  clear hK K y0 y1 f0 f1
  refine anyL_take (i := 11) (v := ?ven073) rfl (by kernel_rfl) (by kernel_rfl) (by kernel_rfl) (by kernel_rfl) (fun _ _ _ h => h) (Or.inl ⟨by rfl, ?hen073⟩) (unhide HSy) ?_
  case hen073 => (intro w hSw; (try dsimp only at hSw); go_simp) <;> with_reducible rfl
  simp only [Act.put, List.getElem_toArray, List.getElem_cons_zero, List.getElem_cons_succ, List.setIfInBounds_toArray, List.set_cons_zero, List.set_cons_succ]
  refine anyL_done (by kernel_rfl) ?_ _
  go_wp2_with fail
  refine bodyPost_ret (v := .tuple #[.pointer (some ⟨g, 0, none⟩), .agg #[.int .i64 n, .slice a D.length c], .bool true]) (by simp [results, Try.results11, go_sem, r0, r1]) rfl ?_
  exact ⟨g, n, L, a, c, D, rfl, unhide HS9, unhide HB9⟩
end Go.Proofs.Ytifpjdodignflaa
end
