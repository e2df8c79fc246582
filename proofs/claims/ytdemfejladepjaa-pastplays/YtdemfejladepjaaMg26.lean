/- Layer 17: galleylaw17.step of a past of states int. Written by wip/tools/pve.py. -/
import Derived.Test.YtdemfejladepjaaMg25

namespace Go.Proofs.Ytdemfejladepjaa
open Go.ChangeShapes Go.WideShapes Go.ChangeAt Go.RowKit
attribute [local go_sem] Oper.semAt_some

set_option maxRecDepth 100000 in
set_option maxHeartbeats 4000000 in
theorem step2yI_at (X : World) (F : Nat → Prop) (g : Nat) (p : Pa Int) (D : Nat → Prop) (c : Array Value) (hP : PsI X F g p) (hD : IsD X D c p) (hok : OkP p) (hdj : ∀ i, D i → ¬ F i) (n : Int) (w : ByteArray) (hw : w.size ≤ 281474976710656) (p1 : Pa Int) (x : Int × ByteArray) (hu : undoP p = (p1, some x, 0)) :
    Calls Try.prog 15 #[.pointer (some ⟨g, 0, none⟩), .agg c, .agg #[.int .i64 2, .int .i64 n, .string w], .func (.func 6) #[] #[]] X fun y Y => ∃ c' D' G, y = .returned (.tuple #[.agg c', .bool true]) ∧ IsD Y D' c' p1 ∧ PsI Y G g p1 ∧ (∀ i, D' i → ¬ G i) ∧ Gr F X G Y ∧ ∀ i, D' i → D i ∨ X.heap.size ≤ i := by
  have HP := hide hP
  have HD := hide hD
  have HOK := hide hok
  have HDJ := hide hdj
  have HW := hide hw
  have HFL := hide hP.lt
  obtain ⟨bA, bN, bC, aA, aN, aC, oS, w0, f0, d0, rfl⟩ := hD.form
  clear hP hD hok hdj hw
  go_enter Try.func15, Try.ntmps15
  go_upto_region 1 with fail
  obtain ⟨W0, hE, HA, HO, HR, HK0⟩ := new3B (fun _ => False) X #[.bool false, .int .i64 p.s, .int .i64 p.m, .slice bA bN bC, .slice aA aN aC, .bool oS, .string w0, .int .i64 f0, .bool d0] 44 #[.int .i64 2, .int .i64 n, .string w] 48 #[.bool false, .int .i64 0, .int .i64 0, .slice none 0 0, .slice none 0 0, .bool false, .string ⟨#[]⟩, .int .i64 0, .bool false] 44
  rw [hE]
  clear hE
  have c_O0 : W0.cell? ⟨X.heap.size + 1, 0, none⟩ = some (.int .i64 2) := ((unhide HO).cell 0).trans rfl
  have hgeU : X.heap.size + 1 + 1 < W0.heap.size := (unhide HR).lt
  have NA := hide ((unhide HA).alloc (.cells #[.bool false, .int .i64 0, .int .i64 0, .slice none 0 0, .slice none 0 0, .bool false, .string ⟨#[]⟩, .int .i64 0, .bool false] 44))
  have NO := hide ((unhide HO).alloc (.cells #[.bool false, .int .i64 0, .int .i64 0, .slice none 0 0, .slice none 0 0, .bool false, .string ⟨#[]⟩, .int .i64 0, .bool false] 44))
  have NR := hide ((unhide HR).alloc (.cells #[.bool false, .int .i64 0, .int .i64 0, .slice none 0 0, .slice none 0 0, .bool false, .string ⟨#[]⟩, .int .i64 0, .bool false] 44))
  have NU := hide (Cls.new W0 44 #[.bool false, .int .i64 0, .int .i64 0, .slice none 0 0, .slice none 0 0, .bool false, .string ⟨#[]⟩, .int .i64 0, .bool false])
  have NHK0 := hide ((unhide HK0).al (.cells #[.bool false, .int .i64 0, .int .i64 0, .slice none 0 0, .slice none 0 0, .bool false, .string ⟨#[]⟩, .int .i64 0, .bool false] 44))
  clear HA HO HR HK0
  go_upto_region 8 with fail
  generalize (W0.alloc (.cells #[.bool false, .int .i64 0, .int .i64 0, .slice none 0 0, .slice none 0 0, .bool false, .string ⟨#[]⟩, .int .i64 0, .bool false] 44)) = W1 at *
  have HA := NA
  have HO := NO
  have HR := NR
  have HU := NU
  have HK0 := NHK0
  clear NA NO NR NU NHK0
  clear c_O0
  have hgeV : W0.heap.size < W1.heap.size := (unhide HU).lt
  have NA := hide ((unhide HA).alloc (.cells #[.int .i64 0, .string ⟨#[]⟩] 82))
  have NO := hide ((unhide HO).alloc (.cells #[.int .i64 0, .string ⟨#[]⟩] 82))
  have NR := hide ((unhide HR).alloc (.cells #[.int .i64 0, .string ⟨#[]⟩] 82))
  have NU := hide ((unhide HU).alloc (.cells #[.int .i64 0, .string ⟨#[]⟩] 82))
  have NV := hide (Cls.new W1 82 #[.int .i64 0, .string ⟨#[]⟩])
  have NHK0 := hide ((unhide HK0).al (.cells #[.int .i64 0, .string ⟨#[]⟩] 82))
  clear HA HO HR HU HK0
  go_upto_region 9 with fail
  generalize (W1.alloc (.cells #[.int .i64 0, .string ⟨#[]⟩] 82)) = W2 at *
  have HA := NA
  have HO := NO
  have HR := NR
  have HU := NU
  have HV := NV
  have HK0 := NHK0
  clear NA NO NR NU NV NHK0
  have hltc : W1.heap.size < W2.heap.size := (unhide HV).lt
  have HC : Hid (Calls Try.prog 30 #[.agg #[.bool false, .int .i64 p.s, .int .i64 p.m, .slice bA bN bC, .slice aA aN aC, .bool oS, .string w0, .int .i64 f0, .bool d0]] W2 fun y Y => ∃ c' D', y = .returned (.tuple #[.agg c', .agg #[.int .i64 x.1, .string x.2], .int .i64 0]) ∧ IsD Y D' c' p1 ∧ (∀ i, D' i → D i ∨ W2.heap.size ≤ i) ∧ Below W2.heap.size W2 Y) := hide (by have h := RUndoA_at W2 D _ p ((unhide HD).kpf (unhide HK0) (fun _ _ e => e)) (unhide HOK); rw [hu] at h; exact h)
  obtain ⟨c_A0, c_A1, c_A2, c_A3, c_A4, c_A5, c_A6, c_A7, c_A8⟩ := (unhide HA).cells9
  have c_O0 : W2.cell? ⟨X.heap.size + 1, 0, none⟩ = some (.int .i64 2) := ((unhide HO).cell 0).trans rfl
  go_wp2_with fail
  refine (unhide HC).mono ?_
  rintro y w1 ⟨c1, D1, rfl, i1, n1, x1⟩
  dsimp only
  obtain ⟨bA1, bN1, bC1, aA1, aN1, aC1, oS1, w01, f01, d01, rfl⟩ := i1.form
  have HI1 := hide i1
  have HN1 := hide n1
  clear HC i1 n1
  clear c_A0 c_A1 c_A2 c_A3 c_A4 c_A5 c_A6 c_A7 c_A8 c_O0
  have hcw : W2.heap.size ≤ w1.heap.size := x1.size
  have HX1 := hide x1
  have NA := hide ((unhide HA).kpf (KpF.of (F := fun _ => False) (unhide HX1)) (fun e => e))
  have NO := hide ((unhide HO).kpf (KpF.of (F := fun _ => False) (unhide HX1)) (fun e => e))
  have NR := hide ((unhide HR).kpf (KpF.of (F := fun _ => False) (unhide HX1)) (fun e => e))
  have NU := hide ((unhide HU).kpf (KpF.of (F := fun _ => False) (unhide HX1)) (fun e => e))
  have NV := hide ((unhide HV).kpf (KpF.of (F := fun _ => False) (unhide HX1)) (fun e => e))
  have NHK0 := hide ((unhide HK0).bel (unhide HX1))
  clear HA HO HR HU HV HK0
  have HA := NA
  have HO := NO
  have HR := NR
  have HU := NU
  have HV := NV
  have HK0 := NHK0
  clear NA NO NR NU NV NHK0
  clear x1
  have HKI := hide (KpF.refl (fun i => X.heap.size ≤ i ∧ i < W2.heap.size) w1)
  obtain ⟨c_U0, c_U1, c_U2, c_U3, c_U4, c_U5, c_U6, c_U7, c_U8⟩ := (unhide HU).cells9
  obtain ⟨c_V0, c_V1⟩ := (unhide HV).cells2
  obtain ⟨zc_U0, zc_U1, zc_U2, zc_U3, zc_U4, zc_U5, zc_U6, zc_U7, zc_U8⟩ := (unhide HU).froz9
  obtain ⟨zc_V0, zc_V1⟩ := (unhide HV).froz2
  go_upto_region 14 with fail
  generalize hE : (((((((((((w1.setCell ⟨W0.heap.size, 0, none⟩ (.bool false)).setCell ⟨W0.heap.size, 1, none⟩ (.int .i64 p1.s)).setCell ⟨W0.heap.size, 2, none⟩ (.int .i64 p1.m)).setCell ⟨W0.heap.size, 3, none⟩ (.slice bA1 bN1 bC1)).setCell ⟨W0.heap.size, 4, none⟩ (.slice aA1 aN1 aC1)).setCell ⟨W0.heap.size, 5, none⟩ (.bool oS1)).setCell ⟨W0.heap.size, 6, none⟩ (.string w01)).setCell ⟨W0.heap.size, 7, none⟩ (.int .i64 f01)).setCell ⟨W0.heap.size, 8, none⟩ (.bool d01)).setCell ⟨W1.heap.size, 0, none⟩ (.int .i64 x.1)).setCell ⟨W1.heap.size, 1, none⟩ (.string x.2)) = W3 at *
  have NA : Hid (Cls W3 (X.heap.size) 44 _) := hide (by rw [← hE]; exact Cls.oth2 (Cls.oth9 (unhide HA) (by omega)) (by omega))
  have NO : Hid (Cls W3 (X.heap.size + 1) 48 _) := hide (by rw [← hE]; exact Cls.oth2 (Cls.oth9 (unhide HO) (by omega)) (by omega))
  have NR : Hid (Cls W3 (X.heap.size + 1 + 1) 44 _) := hide (by rw [← hE]; exact Cls.oth2 (Cls.oth9 (unhide HR) (by omega)) (by omega))
  have NU : Hid (Cls W3 (W0.heap.size) 44 #[.bool false, .int .i64 p1.s, .int .i64 p1.m, .slice bA1 bN1 bC1, .slice aA1 aN1 aC1, .bool oS1, .string w01, .int .i64 f01, .bool d01]) := hide (by rw [← hE]; exact Cls.oth2 (Cls.set9 (unhide HU)) (by omega))
  have NV : Hid (Cls W3 (W1.heap.size) 82 #[.int .i64 x.1, .string x.2]) := hide (by rw [← hE]; exact Cls.set2 (Cls.oth9 (unhide HV) (by omega)))
  have NHK0 : Hid (KpF _ X W3) := hide (by rw [← hE]; exact KpF.upd2 (KpF.upd9 (unhide HK0) (.inr (by first | omega | (dsimp only; omega)))) (.inr (by first | omega | (dsimp only; omega))))
  have NHKI : Hid (KpF _ w1 W3) := hide (by rw [← hE]; exact KpF.upd2 (KpF.upd9 (unhide HKI) (.inl ⟨by first | omega | (dsimp only; omega), by first | omega | (dsimp only; omega)⟩)) (.inl ⟨by first | omega | (dsimp only; omega), by first | omega | (dsimp only; omega)⟩))
  clear hE HA HO HR HU HV HK0 HKI
  have HA := NA
  have HO := NO
  have HR := NR
  have HU := NU
  have HV := NV
  have HK0 := NHK0
  have HKI := NHKI
  clear NA NO NR NU NV NHK0 NHKI
  clear c_U0 c_U1 c_U2 c_U3 c_U4 c_U5 c_U6 c_U7 c_U8 c_V0 c_V1 zc_U0 zc_U1 zc_U2 zc_U3 zc_U4 zc_U5 zc_U6 zc_U7 zc_U8 zc_V0 zc_V1
  have HI2 := hide ((unhide HI1).kpf (unhide HKI) (fun i e l => by rcases unhide HN1 i e with q | q; have := (unhide HD).lt i q; omega; omega))
  have HPA := hide ((unhide HP).kpf (unhide HK0) (fun _ _ e => e))
  have hc2 : W2.heap.size ≤ W3.heap.size := Nat.le_trans hcw (unhide HKI).size
  have HCP : Hid (Calls Try.prog 31 #[.pointer (some ⟨g, 0, none⟩)] W3 fun y Y => y = .returned (.tuple #[.int .i64 x.1, .string x.2, .int .i64 0]) ∧ ∃ G, PsI Y G g p1 ∧ Gr F W3 G Y) := hide (by have h := UndoA_at W3 F g p (unhide HPA) (unhide HOK); rw [hu] at h; exact h)
  go_wp2_with fail
  refine (unhide HCP).mono ?_
  rintro y w3 ⟨rfl, G, i3, g3⟩
  dsimp only
  have HI3 := hide i3
  have HG3 := hide g3
  have HX2 := HK0
  clear HCP
  have NA := hide ((unhide HA).kpf g3.kp (fun e => by have := unhide HFL _ e; omega))
  have NO := hide ((unhide HO).kpf g3.kp (fun e => by have := unhide HFL _ e; omega))
  have NR := hide ((unhide HR).kpf g3.kp (fun e => by have := unhide HFL _ e; omega))
  have NU := hide ((unhide HU).kpf g3.kp (fun e => by have := unhide HFL _ e; omega))
  have NV := hide ((unhide HV).kpf g3.kp (fun e => by have := unhide HFL _ e; omega))
  clear HA HO HR HU HV HK0 HKI
  have HA := NA
  have HO := NO
  have HR := NR
  have HU := NU
  have HV := NV
  clear NA NO NR NU NV
  have HK1 := hide (KpF.refl (fun i => X.heap.size ≤ i ∧ i < W2.heap.size) w3)
  clear i3 g3
  go_upto_region 22 with fail
  have NA := hide ((unhide HA).kpf (kpf_drew w3) (fun e => e))
  have NO := hide ((unhide HO).kpf (kpf_drew w3) (fun e => e))
  have NR := hide ((unhide HR).kpf (kpf_drew w3) (fun e => e))
  have NU := hide ((unhide HU).kpf (kpf_drew w3) (fun e => e))
  have NV := hide ((unhide HV).kpf (kpf_drew w3) (fun e => e))
  have NHK1 := hide ((unhide HK1).trans (kpf_drew w3) (fun _ _ e => e.elim))
  clear HA HO HR HU HV HK1
  have HA := NA
  have HO := NO
  have HR := NR
  have HU := NU
  have HV := NV
  have HK1 := NHK1
  clear NA NO NR NU NV NHK1
  have HS0 : Hid (S9 w3.drew (W0.heap.size) (.bool false) (.int .i64 p1.s) (.int .i64 p1.m) (.slice bA1 bN1 bC1) (.slice aA1 aN1 aC1) (.bool oS1) (.string w01) (.int .i64 f01) (.bool d01) ∧ S2 w3.drew (W1.heap.size) (.int .i64 x.1) (.string x.2)) := hide ⟨(unhide HU).cells9, (unhide HV).cells2⟩
  refine regionL (S := fun z => S9 z (W0.heap.size) (.bool false) (.int .i64 p1.s) (.int .i64 p1.m) (.slice bA1 bN1 bC1) (.slice aA1 aN1 aC1) (.bool oS1) (.string w01) (.int .i64 f01) (.bool d01) ∧ S2 z (W1.heap.size) (.int .i64 x.1) (.string x.2)) (fun _ => false) (by kernel_rfl) ?_
  refine anyL_take (i := 0) (v := ?vq0) rfl (by kernel_rfl) (by kernel_rfl) (by kernel_rfl) (by kernel_rfl) (fun _ _ _ h => h) (Or.inl ⟨by rfl, ?hq0⟩) (unhide HS0) ?_
  case hq0 => (intro w hSw; (try dsimp only at hSw); go_simp) <;> with_reducible rfl
  simp only [Act.put, List.getElem_toArray, List.getElem_cons_zero, List.setIfInBounds_toArray, List.set_cons_zero, List.set_cons_succ]
  refine anyL_take (i := 1) (v := ?vq1) rfl (by kernel_rfl) (by kernel_rfl) (by kernel_rfl) (by kernel_rfl) (fun _ _ _ h => h) (Or.inl ⟨by rfl, ?hq1⟩) (unhide HS0) ?_
  case hq1 => (intro w hSw; (try dsimp only at hSw); go_simp) <;> with_reducible rfl
  simp only [Act.put, List.getElem_toArray, List.getElem_cons_zero, List.getElem_cons_succ, List.setIfInBounds_toArray, List.set_cons_zero, List.set_cons_succ]
  refine anyL_take (i := 2) (v := ?vq2) rfl (by kernel_rfl) (by kernel_rfl) (by kernel_rfl) (by kernel_rfl) (fun _ _ _ h => h) (Or.inl ⟨by rfl, ?hq2⟩) (unhide HS0) ?_
  case hq2 => (intro w hSw; (try dsimp only at hSw); go_simp) <;> with_reducible rfl
  simp only [Act.put, List.getElem_toArray, List.getElem_cons_zero, List.getElem_cons_succ, List.setIfInBounds_toArray, List.set_cons_zero, List.set_cons_succ]
  refine anyL_take (i := 3) (v := ?vq3) rfl (by kernel_rfl) (by kernel_rfl) (by kernel_rfl) (by kernel_rfl) (fun _ _ _ h => h) (Or.inl ⟨by rfl, ?hq3⟩) (unhide HS0) ?_
  case hq3 => (intro w hSw; (try dsimp only at hSw); go_simp) <;> with_reducible rfl
  simp only [Act.put, List.getElem_toArray, List.getElem_cons_zero, List.getElem_cons_succ, List.setIfInBounds_toArray, List.set_cons_zero, List.set_cons_succ]
  refine anyL_take (i := 4) (v := ?vq4) rfl (by kernel_rfl) (by kernel_rfl) (by kernel_rfl) (by kernel_rfl) (fun _ _ _ h => h) (Or.inl ⟨by rfl, ?hq4⟩) (unhide HS0) ?_
  case hq4 => (intro w hSw; (try dsimp only at hSw); go_simp) <;> with_reducible rfl
  simp only [Act.put, List.getElem_toArray, List.getElem_cons_zero, List.getElem_cons_succ, List.setIfInBounds_toArray, List.set_cons_zero, List.set_cons_succ]
  refine anyL_take (i := 5) (v := ?vq5) rfl (by kernel_rfl) (by kernel_rfl) (by kernel_rfl) (by kernel_rfl) (fun _ _ _ h => h) (Or.inl ⟨by rfl, ?hq5⟩) (unhide HS0) ?_
  case hq5 => (intro w hSw; (try dsimp only at hSw); go_simp) <;> with_reducible rfl
  simp only [Act.put, List.getElem_toArray, List.getElem_cons_zero, List.getElem_cons_succ, List.setIfInBounds_toArray, List.set_cons_zero, List.set_cons_succ]
  refine anyL_take (i := 6) (v := ?vq6) rfl (by kernel_rfl) (by kernel_rfl) (by kernel_rfl) (by kernel_rfl) (fun _ _ _ h => h) (Or.inl ⟨by rfl, ?hq6⟩) (unhide HS0) ?_
  case hq6 => (intro w hSw; (try dsimp only at hSw); go_simp) <;> with_reducible rfl
  simp only [Act.put, List.getElem_toArray, List.getElem_cons_zero, List.getElem_cons_succ, List.setIfInBounds_toArray, List.set_cons_zero, List.set_cons_succ]
  refine anyL_take (i := 7) (v := ?vq7) rfl (by kernel_rfl) (by kernel_rfl) (by kernel_rfl) (by kernel_rfl) (fun _ _ _ h => h) (Or.inl ⟨by rfl, ?hq7⟩) (unhide HS0) ?_
  case hq7 => (intro w hSw; (try dsimp only at hSw); go_simp) <;> with_reducible rfl
  simp only [Act.put, List.getElem_toArray, List.getElem_cons_zero, List.getElem_cons_succ, List.setIfInBounds_toArray, List.set_cons_zero, List.set_cons_succ]
  refine anyL_take (i := 8) (v := ?vq8) rfl (by kernel_rfl) (by kernel_rfl) (by kernel_rfl) (by kernel_rfl) (fun _ _ _ h => h) (Or.inl ⟨by rfl, ?hq8⟩) (unhide HS0) ?_
  case hq8 => (intro w hSw; (try dsimp only at hSw); go_simp) <;> with_reducible rfl
  simp only [Act.put, List.getElem_toArray, List.getElem_cons_zero, List.getElem_cons_succ, List.setIfInBounds_toArray, List.set_cons_zero, List.set_cons_succ]
  refine anyL_ready (rs := [9]) (by kernel_rfl) (by simp) ?_
  refine AllL.cons rfl (fun K hK => ?_) AllL.nil
  go_simp
  refine (of1_at x.1 _).mono ?_
  rintro y _ ⟨rfl, rfl⟩
  dsimp only
  generalize w3.drew = wo at *
  refine unhide hK _ _ (fun _ => unhide HS0) ?_
  clear hK K
  refine anyL_take (i := 10) (v := ?vq9) rfl (by kernel_rfl) (by kernel_rfl) (by kernel_rfl) (by kernel_rfl) (fun _ _ _ h => h) (Or.inl ⟨by rfl, ?hq9⟩) (unhide HS0) ?_
  case hq9 => (intro w hSw; (try dsimp only at hSw); go_simp) <;> with_reducible rfl
  simp only [Act.put, List.getElem_toArray, List.getElem_cons_zero, List.getElem_cons_succ, List.setIfInBounds_toArray, List.set_cons_zero, List.set_cons_succ]
  refine anyL_take (i := 11) (v := ?vq10) rfl (by kernel_rfl) (by kernel_rfl) (by kernel_rfl) (by kernel_rfl) (fun _ _ _ h => h) (Or.inl ⟨by rfl, ?hq10⟩) (unhide HS0) ?_
  case hq10 => (intro w hSw; (try dsimp only at hSw); go_simp) <;> with_reducible rfl
  simp only [Act.put, List.getElem_toArray, List.getElem_cons_zero, List.getElem_cons_succ, List.setIfInBounds_toArray, List.set_cons_zero, List.set_cons_succ]
  refine anyL_take (i := 12) (v := ?vq11) rfl (by kernel_rfl) (by kernel_rfl) (by kernel_rfl) (by kernel_rfl) (fun _ _ _ h => h) (Or.inl ⟨by rfl, ?hq11⟩) (unhide HS0) ?_
  case hq11 => (intro w hSw; (try dsimp only at hSw); go_simp) <;> with_reducible rfl
  simp only [Act.put, List.getElem_toArray, List.getElem_cons_zero, List.getElem_cons_succ, List.setIfInBounds_toArray, List.set_cons_zero, List.set_cons_succ]
  refine anyL_take (i := 13) (v := ?vq12) rfl (by kernel_rfl) (by kernel_rfl) (by kernel_rfl) (by kernel_rfl) (fun _ _ _ h => h) (Or.inl ⟨by rfl, ?hq12⟩) (unhide HS0) ?_
  case hq12 => (intro w hSw; (try dsimp only at hSw); go_simp) <;> with_reducible rfl
  simp only [Act.put, List.getElem_toArray, List.getElem_cons_zero, List.getElem_cons_succ, List.setIfInBounds_toArray, List.set_cons_zero, List.set_cons_succ]
  refine anyL_take (i := 14) (v := ?vq13) rfl (by kernel_rfl) (by kernel_rfl) (by kernel_rfl) (by kernel_rfl) (fun _ _ _ h => h) (Or.inl ⟨by rfl, ?hq13⟩) (unhide HS0) ?_
  case hq13 => (intro w hSw; (try dsimp only at hSw); go_simp) <;> with_reducible rfl
  simp only [Act.put, List.getElem_toArray, List.getElem_cons_zero, List.getElem_cons_succ, List.setIfInBounds_toArray, List.set_cons_zero, List.set_cons_succ]
  refine anyL_take (i := 15) (v := ?vq14) rfl (by kernel_rfl) (by kernel_rfl) (by kernel_rfl) (by kernel_rfl) (fun _ _ _ h => h) (Or.inl ⟨by rfl, ?hq14⟩) (unhide HS0) ?_
  case hq14 => (intro w hSw; (try dsimp only at hSw); go_simp) <;> with_reducible rfl
  simp only [Act.put, List.getElem_toArray, List.getElem_cons_zero, List.getElem_cons_succ, List.setIfInBounds_toArray, List.set_cons_zero, List.set_cons_succ]
  refine anyL_take (i := 16) (v := ?vq15) rfl (by kernel_rfl) (by kernel_rfl) (by kernel_rfl) (by kernel_rfl) (fun _ _ _ h => h) (Or.inl ⟨by rfl, ?hq15⟩) (unhide HS0) ?_
  case hq15 => (intro w hSw; (try dsimp only at hSw); go_simp) <;> with_reducible rfl
  simp only [Act.put, List.getElem_toArray, List.getElem_cons_zero, List.getElem_cons_succ, List.setIfInBounds_toArray, List.set_cons_zero, List.set_cons_succ]
  refine anyL_take (i := 17) (v := ?vq16) rfl (by kernel_rfl) (by kernel_rfl) (by kernel_rfl) (by kernel_rfl) (fun _ _ _ h => h) (Or.inl ⟨by rfl, ?hq16⟩) (unhide HS0) ?_
  case hq16 => (intro w hSw; (try dsimp only at hSw); go_simp) <;> with_reducible rfl
  simp only [Act.put, List.getElem_toArray, List.getElem_cons_zero, List.getElem_cons_succ, List.setIfInBounds_toArray, List.set_cons_zero, List.set_cons_succ]
  refine anyL_ready (rs := [18]) (by kernel_rfl) (by simp) ?_
  refine AllL.cons rfl (fun K hK => ?_) AllL.nil
  obtain ⟨r_R0, r_R1, r_R2, r_R3, r_R4, r_R5, r_R6, r_R7, r_R8⟩ := (unhide HR).cells9
  obtain ⟨zr_R0, zr_R1, zr_R2, zr_R3, zr_R4, zr_R5, zr_R6, zr_R7, zr_R8⟩ := (unhide HR).froz9
  go_simp
  obtain ⟨W4, hE, NR⟩ := sto9 (unhide HR) (.bool false) (.int .i64 p1.s) (.int .i64 p1.m) (.slice bA1 bN1 bC1) (.slice aA1 aN1 aC1) (.bool oS1) (.string w01) (.int .i64 f01) (.bool d01)
  rw [hE]
  have NA : Hid (Cls W4 (X.heap.size) 44 _) := hide (by rw [← hE]; exact Cls.oth9 (unhide HA) (by omega))
  have NO : Hid (Cls W4 (X.heap.size + 1) 48 _) := hide (by rw [← hE]; exact Cls.oth9 (unhide HO) (by omega))
  have NU : Hid (Cls W4 (W0.heap.size) 44 _) := hide (by rw [← hE]; exact Cls.oth9 (unhide HU) (by omega))
  have NV : Hid (Cls W4 (W1.heap.size) 82 _) := hide (by rw [← hE]; exact Cls.oth9 (unhide HV) (by omega))
  have NHK1 : Hid (KpF _ w3 W4) := hide (by rw [← hE]; exact KpF.upd9 (unhide HK1) (.inl ⟨by first | omega | (dsimp only; omega), by first | omega | (dsimp only; omega)⟩))
  clear hE HA HO HR HU HV HK1
  have HA := NA
  have HO := NO
  have HR := NR
  have HU := NU
  have HV := NV
  have HK1 := NHK1
  clear NA NO NR NU NV NHK1
  have HS4 : Hid (S9 W4 (W0.heap.size) (.bool false) (.int .i64 p1.s) (.int .i64 p1.m) (.slice bA1 bN1 bC1) (.slice aA1 aN1 aC1) (.bool oS1) (.string w01) (.int .i64 f01) (.bool d01) ∧ S2 W4 (W1.heap.size) (.int .i64 x.1) (.string x.2)) := hide ⟨(unhide HU).cells9, (unhide HV).cells2⟩
  refine unhide hK _ _ (fun _ => unhide HS4) ?_
  clear hK K
  refine anyL_take (i := 19) (v := ?vq17) rfl (by kernel_rfl) (by kernel_rfl) (by kernel_rfl) (by kernel_rfl) (fun _ _ _ h => h) (Or.inl ⟨by rfl, ?hq17⟩) (unhide HS4) ?_
  case hq17 => (intro w hSw; (try dsimp only at hSw); go_simp) <;> with_reducible rfl
  simp only [Act.put, List.getElem_toArray, List.getElem_cons_zero, List.getElem_cons_succ, List.setIfInBounds_toArray, List.set_cons_zero, List.set_cons_succ]
  refine anyL_done (by kernel_rfl) ?_ _
  obtain ⟨q0, q1, q2, q3, q4, q5, q6, q7, q8⟩ := (unhide HR).cells9
  go_wp2_with fail
  refine bodyPost_ret (v := .tuple #[.agg #[.bool false, .int .i64 p1.s, .int .i64 p1.m, .slice bA1 bN1 bC1, .slice aA1 aN1 aC1, .bool oS1, .string w01, .int .i64 f01, .bool d01], .bool true]) (by simp [results, Try.results15, go_sem, q0, q1, q2, q3, q4, q5, q6, q7, q8]) rfl ?_
  obtain ⟨z1, z2, z3, z4, z5⟩ := stepEndI (unhide HFL) (unhide HD).lt (unhide HDJ) (unhide HX2) (by omega) hc2 (unhide HI2) (unhide HN1) (unhide HG3) (unhide HI3) (unhide HK1)
  exact ⟨_, D1, G, rfl, z1, z2, z3, z4, z5⟩
set_option maxRecDepth 100000 in
set_option maxHeartbeats 4000000 in
theorem step2nI_at (X : World) (F : Nat → Prop) (g : Nat) (p : Pa Int) (D : Nat → Prop) (c : Array Value) (hP : PsI X F g p) (hD : IsD X D c p) (hok : OkP p) (hdj : ∀ i, D i → ¬ F i) (n : Int) (w : ByteArray) (hw : w.size ≤ 281474976710656) (p1 : Pa Int) (e : Int) (he : e ≠ 0) (hu : undoP p = (p1, none, e)) :
    Calls Try.prog 15 #[.pointer (some ⟨g, 0, none⟩), .agg c, .agg #[.int .i64 2, .int .i64 n, .string w], .func (.func 6) #[] #[]] X fun y Y => ∃ c' D' G, y = .returned (.tuple #[.agg c', .bool true]) ∧ IsD Y D' c' p1 ∧ PsI Y G g p1 ∧ (∀ i, D' i → ¬ G i) ∧ Gr F X G Y ∧ ∀ i, D' i → D i ∨ X.heap.size ≤ i := by
  have HP := hide hP
  have HD := hide hD
  have HOK := hide hok
  have HDJ := hide hdj
  have HW := hide hw
  have HFL := hide hP.lt
  obtain ⟨bA, bN, bC, aA, aN, aC, oS, w0, f0, d0, rfl⟩ := hD.form
  clear hP hD hok hdj hw
  go_enter Try.func15, Try.ntmps15
  go_upto_region 1 with fail
  obtain ⟨W0, hE, HA, HO, HR, HK0⟩ := new3B (fun _ => False) X #[.bool false, .int .i64 p.s, .int .i64 p.m, .slice bA bN bC, .slice aA aN aC, .bool oS, .string w0, .int .i64 f0, .bool d0] 44 #[.int .i64 2, .int .i64 n, .string w] 48 #[.bool false, .int .i64 0, .int .i64 0, .slice none 0 0, .slice none 0 0, .bool false, .string ⟨#[]⟩, .int .i64 0, .bool false] 44
  rw [hE]
  clear hE
  have c_O0 : W0.cell? ⟨X.heap.size + 1, 0, none⟩ = some (.int .i64 2) := ((unhide HO).cell 0).trans rfl
  have hgeU : X.heap.size + 1 + 1 < W0.heap.size := (unhide HR).lt
  have NA := hide ((unhide HA).alloc (.cells #[.bool false, .int .i64 0, .int .i64 0, .slice none 0 0, .slice none 0 0, .bool false, .string ⟨#[]⟩, .int .i64 0, .bool false] 44))
  have NO := hide ((unhide HO).alloc (.cells #[.bool false, .int .i64 0, .int .i64 0, .slice none 0 0, .slice none 0 0, .bool false, .string ⟨#[]⟩, .int .i64 0, .bool false] 44))
  have NR := hide ((unhide HR).alloc (.cells #[.bool false, .int .i64 0, .int .i64 0, .slice none 0 0, .slice none 0 0, .bool false, .string ⟨#[]⟩, .int .i64 0, .bool false] 44))
  have NU := hide (Cls.new W0 44 #[.bool false, .int .i64 0, .int .i64 0, .slice none 0 0, .slice none 0 0, .bool false, .string ⟨#[]⟩, .int .i64 0, .bool false])
  have NHK0 := hide ((unhide HK0).al (.cells #[.bool false, .int .i64 0, .int .i64 0, .slice none 0 0, .slice none 0 0, .bool false, .string ⟨#[]⟩, .int .i64 0, .bool false] 44))
  clear HA HO HR HK0
  go_upto_region 8 with fail
  generalize (W0.alloc (.cells #[.bool false, .int .i64 0, .int .i64 0, .slice none 0 0, .slice none 0 0, .bool false, .string ⟨#[]⟩, .int .i64 0, .bool false] 44)) = W1 at *
  have HA := NA
  have HO := NO
  have HR := NR
  have HU := NU
  have HK0 := NHK0
  clear NA NO NR NU NHK0
  clear c_O0
  have hgeV : W0.heap.size < W1.heap.size := (unhide HU).lt
  have NA := hide ((unhide HA).alloc (.cells #[.int .i64 0, .string ⟨#[]⟩] 82))
  have NO := hide ((unhide HO).alloc (.cells #[.int .i64 0, .string ⟨#[]⟩] 82))
  have NR := hide ((unhide HR).alloc (.cells #[.int .i64 0, .string ⟨#[]⟩] 82))
  have NU := hide ((unhide HU).alloc (.cells #[.int .i64 0, .string ⟨#[]⟩] 82))
  have NV := hide (Cls.new W1 82 #[.int .i64 0, .string ⟨#[]⟩])
  have NHK0 := hide ((unhide HK0).al (.cells #[.int .i64 0, .string ⟨#[]⟩] 82))
  clear HA HO HR HU HK0
  go_upto_region 9 with fail
  generalize (W1.alloc (.cells #[.int .i64 0, .string ⟨#[]⟩] 82)) = W2 at *
  have HA := NA
  have HO := NO
  have HR := NR
  have HU := NU
  have HV := NV
  have HK0 := NHK0
  clear NA NO NR NU NV NHK0
  have hltc : W1.heap.size < W2.heap.size := (unhide HV).lt
  have HC : Hid (Calls Try.prog 30 #[.agg #[.bool false, .int .i64 p.s, .int .i64 p.m, .slice bA bN bC, .slice aA aN aC, .bool oS, .string w0, .int .i64 f0, .bool d0]] W2 fun y Y => ∃ c' D', y = .returned (.tuple #[.agg c', .agg #[.int .i64 0, .string ⟨#[]⟩], .int .i64 e]) ∧ IsD Y D' c' p1 ∧ (∀ i, D' i → D i ∨ W2.heap.size ≤ i) ∧ Below W2.heap.size W2 Y) := hide (by have h := RUndoA_at W2 D _ p ((unhide HD).kpf (unhide HK0) (fun _ _ e => e)) (unhide HOK); rw [hu] at h; exact h)
  obtain ⟨c_A0, c_A1, c_A2, c_A3, c_A4, c_A5, c_A6, c_A7, c_A8⟩ := (unhide HA).cells9
  have c_O0 : W2.cell? ⟨X.heap.size + 1, 0, none⟩ = some (.int .i64 2) := ((unhide HO).cell 0).trans rfl
  go_wp2_with fail
  refine (unhide HC).mono ?_
  rintro y w1 ⟨c1, D1, rfl, i1, n1, x1⟩
  dsimp only
  obtain ⟨bA1, bN1, bC1, aA1, aN1, aC1, oS1, w01, f01, d01, rfl⟩ := i1.form
  have HI1 := hide i1
  have HN1 := hide n1
  clear HC i1 n1
  clear c_A0 c_A1 c_A2 c_A3 c_A4 c_A5 c_A6 c_A7 c_A8 c_O0
  have hcw : W2.heap.size ≤ w1.heap.size := x1.size
  have HX1 := hide x1
  have NA := hide ((unhide HA).kpf (KpF.of (F := fun _ => False) (unhide HX1)) (fun e => e))
  have NO := hide ((unhide HO).kpf (KpF.of (F := fun _ => False) (unhide HX1)) (fun e => e))
  have NR := hide ((unhide HR).kpf (KpF.of (F := fun _ => False) (unhide HX1)) (fun e => e))
  have NU := hide ((unhide HU).kpf (KpF.of (F := fun _ => False) (unhide HX1)) (fun e => e))
  have NV := hide ((unhide HV).kpf (KpF.of (F := fun _ => False) (unhide HX1)) (fun e => e))
  have NHK0 := hide ((unhide HK0).bel (unhide HX1))
  clear HA HO HR HU HV HK0
  have HA := NA
  have HO := NO
  have HR := NR
  have HU := NU
  have HV := NV
  have HK0 := NHK0
  clear NA NO NR NU NV NHK0
  clear x1
  have HKI := hide (KpF.refl (fun i => X.heap.size ≤ i ∧ i < W2.heap.size) w1)
  obtain ⟨c_U0, c_U1, c_U2, c_U3, c_U4, c_U5, c_U6, c_U7, c_U8⟩ := (unhide HU).cells9
  obtain ⟨c_V0, c_V1⟩ := (unhide HV).cells2
  obtain ⟨zc_U0, zc_U1, zc_U2, zc_U3, zc_U4, zc_U5, zc_U6, zc_U7, zc_U8⟩ := (unhide HU).froz9
  obtain ⟨zc_V0, zc_V1⟩ := (unhide HV).froz2
  go_upto_region 14 with fail
  generalize hE : (((((((((((w1.setCell ⟨W0.heap.size, 0, none⟩ (.bool false)).setCell ⟨W0.heap.size, 1, none⟩ (.int .i64 p1.s)).setCell ⟨W0.heap.size, 2, none⟩ (.int .i64 p1.m)).setCell ⟨W0.heap.size, 3, none⟩ (.slice bA1 bN1 bC1)).setCell ⟨W0.heap.size, 4, none⟩ (.slice aA1 aN1 aC1)).setCell ⟨W0.heap.size, 5, none⟩ (.bool oS1)).setCell ⟨W0.heap.size, 6, none⟩ (.string w01)).setCell ⟨W0.heap.size, 7, none⟩ (.int .i64 f01)).setCell ⟨W0.heap.size, 8, none⟩ (.bool d01)).setCell ⟨W1.heap.size, 0, none⟩ (.int .i64 0)).setCell ⟨W1.heap.size, 1, none⟩ (.string ⟨#[]⟩)) = W3 at *
  have NA : Hid (Cls W3 (X.heap.size) 44 _) := hide (by rw [← hE]; exact Cls.oth2 (Cls.oth9 (unhide HA) (by omega)) (by omega))
  have NO : Hid (Cls W3 (X.heap.size + 1) 48 _) := hide (by rw [← hE]; exact Cls.oth2 (Cls.oth9 (unhide HO) (by omega)) (by omega))
  have NR : Hid (Cls W3 (X.heap.size + 1 + 1) 44 _) := hide (by rw [← hE]; exact Cls.oth2 (Cls.oth9 (unhide HR) (by omega)) (by omega))
  have NU : Hid (Cls W3 (W0.heap.size) 44 #[.bool false, .int .i64 p1.s, .int .i64 p1.m, .slice bA1 bN1 bC1, .slice aA1 aN1 aC1, .bool oS1, .string w01, .int .i64 f01, .bool d01]) := hide (by rw [← hE]; exact Cls.oth2 (Cls.set9 (unhide HU)) (by omega))
  have NV : Hid (Cls W3 (W1.heap.size) 82 #[.int .i64 0, .string ⟨#[]⟩]) := hide (by rw [← hE]; exact Cls.set2 (Cls.oth9 (unhide HV) (by omega)))
  have NHK0 : Hid (KpF _ X W3) := hide (by rw [← hE]; exact KpF.upd2 (KpF.upd9 (unhide HK0) (.inr (by first | omega | (dsimp only; omega)))) (.inr (by first | omega | (dsimp only; omega))))
  have NHKI : Hid (KpF _ w1 W3) := hide (by rw [← hE]; exact KpF.upd2 (KpF.upd9 (unhide HKI) (.inl ⟨by first | omega | (dsimp only; omega), by first | omega | (dsimp only; omega)⟩)) (.inl ⟨by first | omega | (dsimp only; omega), by first | omega | (dsimp only; omega)⟩))
  clear hE HA HO HR HU HV HK0 HKI
  have HA := NA
  have HO := NO
  have HR := NR
  have HU := NU
  have HV := NV
  have HK0 := NHK0
  have HKI := NHKI
  clear NA NO NR NU NV NHK0 NHKI
  clear c_U0 c_U1 c_U2 c_U3 c_U4 c_U5 c_U6 c_U7 c_U8 c_V0 c_V1 zc_U0 zc_U1 zc_U2 zc_U3 zc_U4 zc_U5 zc_U6 zc_U7 zc_U8 zc_V0 zc_V1
  have HI2 := hide ((unhide HI1).kpf (unhide HKI) (fun i e l => by rcases unhide HN1 i e with q | q; have := (unhide HD).lt i q; omega; omega))
  have HPA := hide ((unhide HP).kpf (unhide HK0) (fun _ _ e => e))
  have hc2 : W2.heap.size ≤ W3.heap.size := Nat.le_trans hcw (unhide HKI).size
  have HCP : Hid (Calls Try.prog 31 #[.pointer (some ⟨g, 0, none⟩)] W3 fun y Y => y = .returned (.tuple #[.int .i64 0, .string ⟨#[]⟩, .int .i64 e]) ∧ ∃ G, PsI Y G g p1 ∧ Gr F W3 G Y) := hide (by have h := UndoA_at W3 F g p (unhide HPA) (unhide HOK); rw [hu] at h; exact h)
  go_wp2_with fail
  refine (unhide HCP).mono ?_
  rintro y w3 ⟨rfl, G, i3, g3⟩
  dsimp only
  have HI3 := hide i3
  have HG3 := hide g3
  have HX2 := HK0
  clear HCP
  have NA := hide ((unhide HA).kpf g3.kp (fun e => by have := unhide HFL _ e; omega))
  have NO := hide ((unhide HO).kpf g3.kp (fun e => by have := unhide HFL _ e; omega))
  have NR := hide ((unhide HR).kpf g3.kp (fun e => by have := unhide HFL _ e; omega))
  have NU := hide ((unhide HU).kpf g3.kp (fun e => by have := unhide HFL _ e; omega))
  have NV := hide ((unhide HV).kpf g3.kp (fun e => by have := unhide HFL _ e; omega))
  clear HA HO HR HU HV HK0 HKI
  have HA := NA
  have HO := NO
  have HR := NR
  have HU := NU
  have HV := NV
  clear NA NO NR NU NV
  have HK1 := hide (KpF.refl (fun i => X.heap.size ≤ i ∧ i < W2.heap.size) w3)
  clear i3 g3
  have t1 : decide (e = 0) = false := decide_eq_false he
  have t2 : (e == 0) = false := by simpa using he
  have t3 : (e != 0) = true := by simpa using he
  go_upto_region 21 with fail
  obtain ⟨c_U0, c_U1, c_U2, c_U3, c_U4, c_U5, c_U6, c_U7, c_U8⟩ := (unhide HU).cells9
  obtain ⟨c_R0, c_R1, c_R2, c_R3, c_R4, c_R5, c_R6, c_R7, c_R8⟩ := (unhide HR).cells9
  obtain ⟨zc_R0, zc_R1, zc_R2, zc_R3, zc_R4, zc_R5, zc_R6, zc_R7, zc_R8⟩ := (unhide HR).froz9
  go_wp2_with fail
  obtain ⟨W4, hE, NR⟩ := sto9 (unhide HR) (.bool false) (.int .i64 p1.s) (.int .i64 p1.m) (.slice bA1 bN1 bC1) (.slice aA1 aN1 aC1) (.bool oS1) (.string w01) (.int .i64 f01) (.bool d01)
  rw [hE]
  have NA : Hid (Cls W4 (X.heap.size) 44 _) := hide (by rw [← hE]; exact Cls.oth9 (unhide HA) (by omega))
  have NO : Hid (Cls W4 (X.heap.size + 1) 48 _) := hide (by rw [← hE]; exact Cls.oth9 (unhide HO) (by omega))
  have NU : Hid (Cls W4 (W0.heap.size) 44 _) := hide (by rw [← hE]; exact Cls.oth9 (unhide HU) (by omega))
  have NV : Hid (Cls W4 (W1.heap.size) 82 _) := hide (by rw [← hE]; exact Cls.oth9 (unhide HV) (by omega))
  have NHK1 : Hid (KpF _ w3 W4) := hide (by rw [← hE]; exact KpF.upd9 (unhide HK1) (.inl ⟨by first | omega | (dsimp only; omega), by first | omega | (dsimp only; omega)⟩))
  clear hE HA HO HR HU HV HK1
  have HA := NA
  have HO := NO
  have HR := NR
  have HU := NU
  have HV := NV
  have HK1 := NHK1
  clear NA NO NR NU NV NHK1
  obtain ⟨q0, q1, q2, q3, q4, q5, q6, q7, q8⟩ := (unhide HR).cells9
  refine bodyPost_ret (v := .tuple #[.agg #[.bool false, .int .i64 p1.s, .int .i64 p1.m, .slice bA1 bN1 bC1, .slice aA1 aN1 aC1, .bool oS1, .string w01, .int .i64 f01, .bool d01], .bool true]) (by simp [results, Try.results15, go_sem, q0, q1, q2, q3, q4, q5, q6, q7, q8]) rfl ?_
  obtain ⟨z1, z2, z3, z4, z5⟩ := stepEndI (unhide HFL) (unhide HD).lt (unhide HDJ) (unhide HX2) (by omega) hc2 (unhide HI2) (unhide HN1) (unhide HG3) (unhide HI3) (unhide HK1)
  exact ⟨_, D1, G, rfl, z1, z2, z3, z4, z5⟩
set_option maxRecDepth 100000 in
set_option maxHeartbeats 4000000 in
theorem step2BI_at (X : World) (n : Int) (w : ByteArray) :
    Calls Try.prog 15 #[.pointer none, .agg cBad, .agg #[.int .i64 2, .int .i64 n, .string w], .func (.func 6) #[] #[]] X fun y Y => y = .returned (.tuple #[.agg cBad, .bool true]) ∧ Below X.heap.size X Y := by
  unfold cBad
  go_enter Try.func15, Try.ntmps15
  go_upto_region 1 with fail
  obtain ⟨W0, hE, HA, HO, HR, HK0⟩ := new3B (fun _ => False) X #[.bool true, .int .i64 0, .int .i64 0, .slice none 0 0, .slice none 0 0, .bool false, .string ⟨#[]⟩, .int .i64 0, .bool false] 44 #[.int .i64 2, .int .i64 n, .string w] 48 #[.bool false, .int .i64 0, .int .i64 0, .slice none 0 0, .slice none 0 0, .bool false, .string ⟨#[]⟩, .int .i64 0, .bool false] 44
  rw [hE]
  clear hE
  have c_O0 : W0.cell? ⟨X.heap.size + 1, 0, none⟩ = some (.int .i64 2) := ((unhide HO).cell 0).trans rfl
  have hgeU : X.heap.size + 1 + 1 < W0.heap.size := (unhide HR).lt
  have NA := hide ((unhide HA).alloc (.cells #[.bool false, .int .i64 0, .int .i64 0, .slice none 0 0, .slice none 0 0, .bool false, .string ⟨#[]⟩, .int .i64 0, .bool false] 44))
  have NO := hide ((unhide HO).alloc (.cells #[.bool false, .int .i64 0, .int .i64 0, .slice none 0 0, .slice none 0 0, .bool false, .string ⟨#[]⟩, .int .i64 0, .bool false] 44))
  have NR := hide ((unhide HR).alloc (.cells #[.bool false, .int .i64 0, .int .i64 0, .slice none 0 0, .slice none 0 0, .bool false, .string ⟨#[]⟩, .int .i64 0, .bool false] 44))
  have NU := hide (Cls.new W0 44 #[.bool false, .int .i64 0, .int .i64 0, .slice none 0 0, .slice none 0 0, .bool false, .string ⟨#[]⟩, .int .i64 0, .bool false])
  have NHK0 := hide ((unhide HK0).al (.cells #[.bool false, .int .i64 0, .int .i64 0, .slice none 0 0, .slice none 0 0, .bool false, .string ⟨#[]⟩, .int .i64 0, .bool false] 44))
  clear HA HO HR HK0
  go_upto_region 8 with fail
  generalize (W0.alloc (.cells #[.bool false, .int .i64 0, .int .i64 0, .slice none 0 0, .slice none 0 0, .bool false, .string ⟨#[]⟩, .int .i64 0, .bool false] 44)) = W1 at *
  have HA := NA
  have HO := NO
  have HR := NR
  have HU := NU
  have HK0 := NHK0
  clear NA NO NR NU NHK0
  clear c_O0
  have hgeV : W0.heap.size < W1.heap.size := (unhide HU).lt
  have NA := hide ((unhide HA).alloc (.cells #[.int .i64 0, .string ⟨#[]⟩] 82))
  have NO := hide ((unhide HO).alloc (.cells #[.int .i64 0, .string ⟨#[]⟩] 82))
  have NR := hide ((unhide HR).alloc (.cells #[.int .i64 0, .string ⟨#[]⟩] 82))
  have NU := hide ((unhide HU).alloc (.cells #[.int .i64 0, .string ⟨#[]⟩] 82))
  have NV := hide (Cls.new W1 82 #[.int .i64 0, .string ⟨#[]⟩])
  have NHK0 := hide ((unhide HK0).al (.cells #[.int .i64 0, .string ⟨#[]⟩] 82))
  clear HA HO HR HU HK0
  go_upto_region 9 with fail
  generalize (W1.alloc (.cells #[.int .i64 0, .string ⟨#[]⟩] 82)) = W2 at *
  have HA := NA
  have HO := NO
  have HR := NR
  have HU := NU
  have HV := NV
  have HK0 := NHK0
  clear NA NO NR NU NV NHK0
  have hltc : W1.heap.size < W2.heap.size := (unhide HV).lt
  have HC := hide (RUndoB_at W2)
  unfold cBad at HC
  obtain ⟨c_A0, c_A1, c_A2, c_A3, c_A4, c_A5, c_A6, c_A7, c_A8⟩ := (unhide HA).cells9
  have c_O0 : W2.cell? ⟨X.heap.size + 1, 0, none⟩ = some (.int .i64 2) := ((unhide HO).cell 0).trans rfl
  go_wp2_with fail
  refine (unhide HC).mono ?_
  rintro y w1 ⟨rfl, x1⟩
  dsimp only
  clear HC
  clear c_A0 c_A1 c_A2 c_A3 c_A4 c_A5 c_A6 c_A7 c_A8 c_O0
  have hcw : W2.heap.size ≤ w1.heap.size := x1.size
  have HX1 := hide x1
  have NA := hide ((unhide HA).kpf (KpF.of (F := fun _ => False) (unhide HX1)) (fun e => e))
  have NO := hide ((unhide HO).kpf (KpF.of (F := fun _ => False) (unhide HX1)) (fun e => e))
  have NR := hide ((unhide HR).kpf (KpF.of (F := fun _ => False) (unhide HX1)) (fun e => e))
  have NU := hide ((unhide HU).kpf (KpF.of (F := fun _ => False) (unhide HX1)) (fun e => e))
  have NV := hide ((unhide HV).kpf (KpF.of (F := fun _ => False) (unhide HX1)) (fun e => e))
  have NHK0 := hide ((unhide HK0).bel (unhide HX1))
  clear HA HO HR HU HV HK0
  have HA := NA
  have HO := NO
  have HR := NR
  have HU := NU
  have HV := NV
  have HK0 := NHK0
  clear NA NO NR NU NV NHK0
  clear x1
  obtain ⟨c_U0, c_U1, c_U2, c_U3, c_U4, c_U5, c_U6, c_U7, c_U8⟩ := (unhide HU).cells9
  obtain ⟨c_V0, c_V1⟩ := (unhide HV).cells2
  obtain ⟨zc_U0, zc_U1, zc_U2, zc_U3, zc_U4, zc_U5, zc_U6, zc_U7, zc_U8⟩ := (unhide HU).froz9
  obtain ⟨zc_V0, zc_V1⟩ := (unhide HV).froz2
  go_upto_region 14 with fail
  generalize hE : (((((((((((w1.setCell ⟨W0.heap.size, 0, none⟩ (.bool true)).setCell ⟨W0.heap.size, 1, none⟩ (.int .i64 0)).setCell ⟨W0.heap.size, 2, none⟩ (.int .i64 0)).setCell ⟨W0.heap.size, 3, none⟩ (.slice none 0 0)).setCell ⟨W0.heap.size, 4, none⟩ (.slice none 0 0)).setCell ⟨W0.heap.size, 5, none⟩ (.bool false)).setCell ⟨W0.heap.size, 6, none⟩ (.string ⟨#[]⟩)).setCell ⟨W0.heap.size, 7, none⟩ (.int .i64 0)).setCell ⟨W0.heap.size, 8, none⟩ (.bool false)).setCell ⟨W1.heap.size, 0, none⟩ (.int .i64 0)).setCell ⟨W1.heap.size, 1, none⟩ (.string ⟨#[]⟩)) = W3 at *
  have NA : Hid (Cls W3 (X.heap.size) 44 _) := hide (by rw [← hE]; exact Cls.oth2 (Cls.oth9 (unhide HA) (by omega)) (by omega))
  have NO : Hid (Cls W3 (X.heap.size + 1) 48 _) := hide (by rw [← hE]; exact Cls.oth2 (Cls.oth9 (unhide HO) (by omega)) (by omega))
  have NR : Hid (Cls W3 (X.heap.size + 1 + 1) 44 _) := hide (by rw [← hE]; exact Cls.oth2 (Cls.oth9 (unhide HR) (by omega)) (by omega))
  have NU : Hid (Cls W3 (W0.heap.size) 44 #[.bool true, .int .i64 0, .int .i64 0, .slice none 0 0, .slice none 0 0, .bool false, .string ⟨#[]⟩, .int .i64 0, .bool false]) := hide (by rw [← hE]; exact Cls.oth2 (Cls.set9 (unhide HU)) (by omega))
  have NV : Hid (Cls W3 (W1.heap.size) 82 #[.int .i64 0, .string ⟨#[]⟩]) := hide (by rw [← hE]; exact Cls.set2 (Cls.oth9 (unhide HV) (by omega)))
  have NHK0 : Hid (KpF _ X W3) := hide (by rw [← hE]; exact KpF.upd2 (KpF.upd9 (unhide HK0) (.inr (by first | omega | (dsimp only; omega)))) (.inr (by first | omega | (dsimp only; omega))))
  clear hE HA HO HR HU HV HK0
  have HA := NA
  have HO := NO
  have HR := NR
  have HU := NU
  have HV := NV
  have HK0 := NHK0
  clear NA NO NR NU NV NHK0
  clear c_U0 c_U1 c_U2 c_U3 c_U4 c_U5 c_U6 c_U7 c_U8 c_V0 c_V1 zc_U0 zc_U1 zc_U2 zc_U3 zc_U4 zc_U5 zc_U6 zc_U7 zc_U8 zc_V0 zc_V1
  have HCP := hide (UndoNI_at W3)
  go_wp2_with fail
  refine (unhide HCP).mono ?_
  rintro y w3 ⟨rfl, e3⟩
  dsimp only
  subst e3
  clear HCP
  go_upto_region 21 with fail
  obtain ⟨c_U0, c_U1, c_U2, c_U3, c_U4, c_U5, c_U6, c_U7, c_U8⟩ := (unhide HU).cells9
  obtain ⟨c_R0, c_R1, c_R2, c_R3, c_R4, c_R5, c_R6, c_R7, c_R8⟩ := (unhide HR).cells9
  obtain ⟨zc_R0, zc_R1, zc_R2, zc_R3, zc_R4, zc_R5, zc_R6, zc_R7, zc_R8⟩ := (unhide HR).froz9
  go_wp2_with fail
  obtain ⟨W4, hE, NR⟩ := sto9 (unhide HR) (.bool true) (.int .i64 0) (.int .i64 0) (.slice none 0 0) (.slice none 0 0) (.bool false) (.string ⟨#[]⟩) (.int .i64 0) (.bool false)
  rw [hE]
  have NA : Hid (Cls W4 (X.heap.size) 44 _) := hide (by rw [← hE]; exact Cls.oth9 (unhide HA) (by omega))
  have NO : Hid (Cls W4 (X.heap.size + 1) 48 _) := hide (by rw [← hE]; exact Cls.oth9 (unhide HO) (by omega))
  have NU : Hid (Cls W4 (W0.heap.size) 44 _) := hide (by rw [← hE]; exact Cls.oth9 (unhide HU) (by omega))
  have NV : Hid (Cls W4 (W1.heap.size) 82 _) := hide (by rw [← hE]; exact Cls.oth9 (unhide HV) (by omega))
  have NHK0 : Hid (KpF _ X W4) := hide (by rw [← hE]; exact KpF.upd9 (unhide HK0) (.inr (by first | omega | (dsimp only; omega))))
  clear hE HA HO HR HU HV HK0
  have HA := NA
  have HO := NO
  have HR := NR
  have HU := NU
  have HV := NV
  have HK0 := NHK0
  clear NA NO NR NU NV NHK0
  obtain ⟨q0, q1, q2, q3, q4, q5, q6, q7, q8⟩ := (unhide HR).cells9
  refine bodyPost_ret (v := .tuple #[.agg #[.bool true, .int .i64 0, .int .i64 0, .slice none 0 0, .slice none 0 0, .bool false, .string ⟨#[]⟩, .int .i64 0, .bool false], .bool true]) (by simp [results, Try.results15, go_sem, q0, q1, q2, q3, q4, q5, q6, q7, q8]) rfl ?_
  exact ⟨rfl, (unhide HK0).below (Nat.le_refl _) (fun _ e => e.elim)⟩
set_option maxRecDepth 100000 in
set_option maxHeartbeats 4000000 in
theorem step3yI_at (X : World) (F : Nat → Prop) (g : Nat) (p : Pa Int) (D : Nat → Prop) (c : Array Value) (hP : PsI X F g p) (hD : IsD X D c p) (hok : OkP p) (hdj : ∀ i, D i → ¬ F i) (n : Int) (w : ByteArray) (hw : w.size ≤ 281474976710656) (p1 : Pa Int) (x : Int × ByteArray) (hu : redoP p = (p1, some x, 0)) :
    Calls Try.prog 15 #[.pointer (some ⟨g, 0, none⟩), .agg c, .agg #[.int .i64 3, .int .i64 n, .string w], .func (.func 6) #[] #[]] X fun y Y => ∃ c' D' G, y = .returned (.tuple #[.agg c', .bool true]) ∧ IsD Y D' c' p1 ∧ PsI Y G g p1 ∧ (∀ i, D' i → ¬ G i) ∧ Gr F X G Y ∧ ∀ i, D' i → D i ∨ X.heap.size ≤ i := by
  have HP := hide hP
  have HD := hide hD
  have HOK := hide hok
  have HDJ := hide hdj
  have HW := hide hw
  have HFL := hide hP.lt
  obtain ⟨bA, bN, bC, aA, aN, aC, oS, w0, f0, d0, rfl⟩ := hD.form
  clear hP hD hok hdj hw
  go_enter Try.func15, Try.ntmps15
  go_upto_region 1 with fail
  obtain ⟨W0, hE, HA, HO, HR, HK0⟩ := new3B (fun _ => False) X #[.bool false, .int .i64 p.s, .int .i64 p.m, .slice bA bN bC, .slice aA aN aC, .bool oS, .string w0, .int .i64 f0, .bool d0] 44 #[.int .i64 3, .int .i64 n, .string w] 48 #[.bool false, .int .i64 0, .int .i64 0, .slice none 0 0, .slice none 0 0, .bool false, .string ⟨#[]⟩, .int .i64 0, .bool false] 44
  rw [hE]
  clear hE
  have c_O0 : W0.cell? ⟨X.heap.size + 1, 0, none⟩ = some (.int .i64 3) := ((unhide HO).cell 0).trans rfl
  have hgeU : X.heap.size + 1 + 1 < W0.heap.size := (unhide HR).lt
  have NA := hide ((unhide HA).alloc (.cells #[.bool false, .int .i64 0, .int .i64 0, .slice none 0 0, .slice none 0 0, .bool false, .string ⟨#[]⟩, .int .i64 0, .bool false] 44))
  have NO := hide ((unhide HO).alloc (.cells #[.bool false, .int .i64 0, .int .i64 0, .slice none 0 0, .slice none 0 0, .bool false, .string ⟨#[]⟩, .int .i64 0, .bool false] 44))
  have NR := hide ((unhide HR).alloc (.cells #[.bool false, .int .i64 0, .int .i64 0, .slice none 0 0, .slice none 0 0, .bool false, .string ⟨#[]⟩, .int .i64 0, .bool false] 44))
  have NU := hide (Cls.new W0 44 #[.bool false, .int .i64 0, .int .i64 0, .slice none 0 0, .slice none 0 0, .bool false, .string ⟨#[]⟩, .int .i64 0, .bool false])
  have NHK0 := hide ((unhide HK0).al (.cells #[.bool false, .int .i64 0, .int .i64 0, .slice none 0 0, .slice none 0 0, .bool false, .string ⟨#[]⟩, .int .i64 0, .bool false] 44))
  clear HA HO HR HK0
  go_upto_region 8 with fail
  generalize (W0.alloc (.cells #[.bool false, .int .i64 0, .int .i64 0, .slice none 0 0, .slice none 0 0, .bool false, .string ⟨#[]⟩, .int .i64 0, .bool false] 44)) = W1 at *
  have HA := NA
  have HO := NO
  have HR := NR
  have HU := NU
  have HK0 := NHK0
  clear NA NO NR NU NHK0
  clear c_O0
  have hgeV : W0.heap.size < W1.heap.size := (unhide HU).lt
  have NA := hide ((unhide HA).alloc (.cells #[.int .i64 0, .string ⟨#[]⟩] 82))
  have NO := hide ((unhide HO).alloc (.cells #[.int .i64 0, .string ⟨#[]⟩] 82))
  have NR := hide ((unhide HR).alloc (.cells #[.int .i64 0, .string ⟨#[]⟩] 82))
  have NU := hide ((unhide HU).alloc (.cells #[.int .i64 0, .string ⟨#[]⟩] 82))
  have NV := hide (Cls.new W1 82 #[.int .i64 0, .string ⟨#[]⟩])
  have NHK0 := hide ((unhide HK0).al (.cells #[.int .i64 0, .string ⟨#[]⟩] 82))
  clear HA HO HR HU HK0
  go_upto_region 9 with fail
  generalize (W1.alloc (.cells #[.int .i64 0, .string ⟨#[]⟩] 82)) = W2 at *
  have HA := NA
  have HO := NO
  have HR := NR
  have HU := NU
  have HV := NV
  have HK0 := NHK0
  clear NA NO NR NU NV NHK0
  have hltc : W1.heap.size < W2.heap.size := (unhide HV).lt
  have HC : Hid (Calls Try.prog 32 #[.agg #[.bool false, .int .i64 p.s, .int .i64 p.m, .slice bA bN bC, .slice aA aN aC, .bool oS, .string w0, .int .i64 f0, .bool d0]] W2 fun y Y => ∃ c' D', y = .returned (.tuple #[.agg c', .agg #[.int .i64 x.1, .string x.2], .int .i64 0]) ∧ IsD Y D' c' p1 ∧ (∀ i, D' i → D i ∨ W2.heap.size ≤ i) ∧ Below W2.heap.size W2 Y) := hide (by have h := RRedoA_at W2 D _ p ((unhide HD).kpf (unhide HK0) (fun _ _ e => e)) (unhide HOK); rw [hu] at h; exact h)
  obtain ⟨c_A0, c_A1, c_A2, c_A3, c_A4, c_A5, c_A6, c_A7, c_A8⟩ := (unhide HA).cells9
  have c_O0 : W2.cell? ⟨X.heap.size + 1, 0, none⟩ = some (.int .i64 3) := ((unhide HO).cell 0).trans rfl
  go_wp2_with fail
  refine (unhide HC).mono ?_
  rintro y w1 ⟨c1, D1, rfl, i1, n1, x1⟩
  dsimp only
  obtain ⟨bA1, bN1, bC1, aA1, aN1, aC1, oS1, w01, f01, d01, rfl⟩ := i1.form
  have HI1 := hide i1
  have HN1 := hide n1
  clear HC i1 n1
  clear c_A0 c_A1 c_A2 c_A3 c_A4 c_A5 c_A6 c_A7 c_A8 c_O0
  have hcw : W2.heap.size ≤ w1.heap.size := x1.size
  have HX1 := hide x1
  have NA := hide ((unhide HA).kpf (KpF.of (F := fun _ => False) (unhide HX1)) (fun e => e))
  have NO := hide ((unhide HO).kpf (KpF.of (F := fun _ => False) (unhide HX1)) (fun e => e))
  have NR := hide ((unhide HR).kpf (KpF.of (F := fun _ => False) (unhide HX1)) (fun e => e))
  have NU := hide ((unhide HU).kpf (KpF.of (F := fun _ => False) (unhide HX1)) (fun e => e))
  have NV := hide ((unhide HV).kpf (KpF.of (F := fun _ => False) (unhide HX1)) (fun e => e))
  have NHK0 := hide ((unhide HK0).bel (unhide HX1))
  clear HA HO HR HU HV HK0
  have HA := NA
  have HO := NO
  have HR := NR
  have HU := NU
  have HV := NV
  have HK0 := NHK0
  clear NA NO NR NU NV NHK0
  clear x1
  have HKI := hide (KpF.refl (fun i => X.heap.size ≤ i ∧ i < W2.heap.size) w1)
  obtain ⟨c_U0, c_U1, c_U2, c_U3, c_U4, c_U5, c_U6, c_U7, c_U8⟩ := (unhide HU).cells9
  obtain ⟨c_V0, c_V1⟩ := (unhide HV).cells2
  obtain ⟨zc_U0, zc_U1, zc_U2, zc_U3, zc_U4, zc_U5, zc_U6, zc_U7, zc_U8⟩ := (unhide HU).froz9
  obtain ⟨zc_V0, zc_V1⟩ := (unhide HV).froz2
  go_upto_region 17 with fail
  generalize hE : (((((((((((w1.setCell ⟨W0.heap.size, 0, none⟩ (.bool false)).setCell ⟨W0.heap.size, 1, none⟩ (.int .i64 p1.s)).setCell ⟨W0.heap.size, 2, none⟩ (.int .i64 p1.m)).setCell ⟨W0.heap.size, 3, none⟩ (.slice bA1 bN1 bC1)).setCell ⟨W0.heap.size, 4, none⟩ (.slice aA1 aN1 aC1)).setCell ⟨W0.heap.size, 5, none⟩ (.bool oS1)).setCell ⟨W0.heap.size, 6, none⟩ (.string w01)).setCell ⟨W0.heap.size, 7, none⟩ (.int .i64 f01)).setCell ⟨W0.heap.size, 8, none⟩ (.bool d01)).setCell ⟨W1.heap.size, 0, none⟩ (.int .i64 x.1)).setCell ⟨W1.heap.size, 1, none⟩ (.string x.2)) = W3 at *
  have NA : Hid (Cls W3 (X.heap.size) 44 _) := hide (by rw [← hE]; exact Cls.oth2 (Cls.oth9 (unhide HA) (by omega)) (by omega))
  have NO : Hid (Cls W3 (X.heap.size + 1) 48 _) := hide (by rw [← hE]; exact Cls.oth2 (Cls.oth9 (unhide HO) (by omega)) (by omega))
  have NR : Hid (Cls W3 (X.heap.size + 1 + 1) 44 _) := hide (by rw [← hE]; exact Cls.oth2 (Cls.oth9 (unhide HR) (by omega)) (by omega))
  have NU : Hid (Cls W3 (W0.heap.size) 44 #[.bool false, .int .i64 p1.s, .int .i64 p1.m, .slice bA1 bN1 bC1, .slice aA1 aN1 aC1, .bool oS1, .string w01, .int .i64 f01, .bool d01]) := hide (by rw [← hE]; exact Cls.oth2 (Cls.set9 (unhide HU)) (by omega))
  have NV : Hid (Cls W3 (W1.heap.size) 82 #[.int .i64 x.1, .string x.2]) := hide (by rw [← hE]; exact Cls.set2 (Cls.oth9 (unhide HV) (by omega)))
  have NHK0 : Hid (KpF _ X W3) := hide (by rw [← hE]; exact KpF.upd2 (KpF.upd9 (unhide HK0) (.inr (by first | omega | (dsimp only; omega)))) (.inr (by first | omega | (dsimp only; omega))))
  have NHKI : Hid (KpF _ w1 W3) := hide (by rw [← hE]; exact KpF.upd2 (KpF.upd9 (unhide HKI) (.inl ⟨by first | omega | (dsimp only; omega), by first | omega | (dsimp only; omega)⟩)) (.inl ⟨by first | omega | (dsimp only; omega), by first | omega | (dsimp only; omega)⟩))
  clear hE HA HO HR HU HV HK0 HKI
  have HA := NA
  have HO := NO
  have HR := NR
  have HU := NU
  have HV := NV
  have HK0 := NHK0
  have HKI := NHKI
  clear NA NO NR NU NV NHK0 NHKI
  clear c_U0 c_U1 c_U2 c_U3 c_U4 c_U5 c_U6 c_U7 c_U8 c_V0 c_V1 zc_U0 zc_U1 zc_U2 zc_U3 zc_U4 zc_U5 zc_U6 zc_U7 zc_U8 zc_V0 zc_V1
  have HI2 := hide ((unhide HI1).kpf (unhide HKI) (fun i e l => by rcases unhide HN1 i e with q | q; have := (unhide HD).lt i q; omega; omega))
  have HPA := hide ((unhide HP).kpf (unhide HK0) (fun _ _ e => e))
  have hc2 : W2.heap.size ≤ W3.heap.size := Nat.le_trans hcw (unhide HKI).size
  have HCP : Hid (Calls Try.prog 33 #[.pointer (some ⟨g, 0, none⟩)] W3 fun y Y => y = .returned (.tuple #[.int .i64 x.1, .string x.2, .int .i64 0]) ∧ ∃ G, PsI Y G g p1 ∧ Gr F W3 G Y) := hide (by have h := RedoA_at W3 F g p (unhide HPA) (unhide HOK); rw [hu] at h; exact h)
  go_wp2_with fail
  refine (unhide HCP).mono ?_
  rintro y w3 ⟨rfl, G, i3, g3⟩
  dsimp only
  have HI3 := hide i3
  have HG3 := hide g3
  have HX2 := HK0
  clear HCP
  have NA := hide ((unhide HA).kpf g3.kp (fun e => by have := unhide HFL _ e; omega))
  have NO := hide ((unhide HO).kpf g3.kp (fun e => by have := unhide HFL _ e; omega))
  have NR := hide ((unhide HR).kpf g3.kp (fun e => by have := unhide HFL _ e; omega))
  have NU := hide ((unhide HU).kpf g3.kp (fun e => by have := unhide HFL _ e; omega))
  have NV := hide ((unhide HV).kpf g3.kp (fun e => by have := unhide HFL _ e; omega))
  clear HA HO HR HU HV HK0 HKI
  have HA := NA
  have HO := NO
  have HR := NR
  have HU := NU
  have HV := NV
  clear NA NO NR NU NV
  have HK1 := hide (KpF.refl (fun i => X.heap.size ≤ i ∧ i < W2.heap.size) w3)
  clear i3 g3
  go_upto_region 22 with fail
  have NA := hide ((unhide HA).kpf (kpf_drew w3) (fun e => e))
  have NO := hide ((unhide HO).kpf (kpf_drew w3) (fun e => e))
  have NR := hide ((unhide HR).kpf (kpf_drew w3) (fun e => e))
  have NU := hide ((unhide HU).kpf (kpf_drew w3) (fun e => e))
  have NV := hide ((unhide HV).kpf (kpf_drew w3) (fun e => e))
  have NHK1 := hide ((unhide HK1).trans (kpf_drew w3) (fun _ _ e => e.elim))
  clear HA HO HR HU HV HK1
  have HA := NA
  have HO := NO
  have HR := NR
  have HU := NU
  have HV := NV
  have HK1 := NHK1
  clear NA NO NR NU NV NHK1
  have HS0 : Hid (S9 w3.drew (W0.heap.size) (.bool false) (.int .i64 p1.s) (.int .i64 p1.m) (.slice bA1 bN1 bC1) (.slice aA1 aN1 aC1) (.bool oS1) (.string w01) (.int .i64 f01) (.bool d01) ∧ S2 w3.drew (W1.heap.size) (.int .i64 x.1) (.string x.2)) := hide ⟨(unhide HU).cells9, (unhide HV).cells2⟩
  refine regionL (S := fun z => S9 z (W0.heap.size) (.bool false) (.int .i64 p1.s) (.int .i64 p1.m) (.slice bA1 bN1 bC1) (.slice aA1 aN1 aC1) (.bool oS1) (.string w01) (.int .i64 f01) (.bool d01) ∧ S2 z (W1.heap.size) (.int .i64 x.1) (.string x.2)) (fun _ => false) (by kernel_rfl) ?_
  refine anyL_take (i := 0) (v := ?vq18) rfl (by kernel_rfl) (by kernel_rfl) (by kernel_rfl) (by kernel_rfl) (fun _ _ _ h => h) (Or.inl ⟨by rfl, ?hq18⟩) (unhide HS0) ?_
  case hq18 => (intro w hSw; (try dsimp only at hSw); go_simp) <;> with_reducible rfl
  simp only [Act.put, List.getElem_toArray, List.getElem_cons_zero, List.setIfInBounds_toArray, List.set_cons_zero, List.set_cons_succ]
  refine anyL_take (i := 1) (v := ?vq19) rfl (by kernel_rfl) (by kernel_rfl) (by kernel_rfl) (by kernel_rfl) (fun _ _ _ h => h) (Or.inl ⟨by rfl, ?hq19⟩) (unhide HS0) ?_
  case hq19 => (intro w hSw; (try dsimp only at hSw); go_simp) <;> with_reducible rfl
  simp only [Act.put, List.getElem_toArray, List.getElem_cons_zero, List.getElem_cons_succ, List.setIfInBounds_toArray, List.set_cons_zero, List.set_cons_succ]
  refine anyL_take (i := 2) (v := ?vq20) rfl (by kernel_rfl) (by kernel_rfl) (by kernel_rfl) (by kernel_rfl) (fun _ _ _ h => h) (Or.inl ⟨by rfl, ?hq20⟩) (unhide HS0) ?_
  case hq20 => (intro w hSw; (try dsimp only at hSw); go_simp) <;> with_reducible rfl
  simp only [Act.put, List.getElem_toArray, List.getElem_cons_zero, List.getElem_cons_succ, List.setIfInBounds_toArray, List.set_cons_zero, List.set_cons_succ]
  refine anyL_take (i := 3) (v := ?vq21) rfl (by kernel_rfl) (by kernel_rfl) (by kernel_rfl) (by kernel_rfl) (fun _ _ _ h => h) (Or.inl ⟨by rfl, ?hq21⟩) (unhide HS0) ?_
  case hq21 => (intro w hSw; (try dsimp only at hSw); go_simp) <;> with_reducible rfl
  simp only [Act.put, List.getElem_toArray, List.getElem_cons_zero, List.getElem_cons_succ, List.setIfInBounds_toArray, List.set_cons_zero, List.set_cons_succ]
  refine anyL_take (i := 4) (v := ?vq22) rfl (by kernel_rfl) (by kernel_rfl) (by kernel_rfl) (by kernel_rfl) (fun _ _ _ h => h) (Or.inl ⟨by rfl, ?hq22⟩) (unhide HS0) ?_
  case hq22 => (intro w hSw; (try dsimp only at hSw); go_simp) <;> with_reducible rfl
  simp only [Act.put, List.getElem_toArray, List.getElem_cons_zero, List.getElem_cons_succ, List.setIfInBounds_toArray, List.set_cons_zero, List.set_cons_succ]
  refine anyL_take (i := 5) (v := ?vq23) rfl (by kernel_rfl) (by kernel_rfl) (by kernel_rfl) (by kernel_rfl) (fun _ _ _ h => h) (Or.inl ⟨by rfl, ?hq23⟩) (unhide HS0) ?_
  case hq23 => (intro w hSw; (try dsimp only at hSw); go_simp) <;> with_reducible rfl
  simp only [Act.put, List.getElem_toArray, List.getElem_cons_zero, List.getElem_cons_succ, List.setIfInBounds_toArray, List.set_cons_zero, List.set_cons_succ]
  refine anyL_take (i := 6) (v := ?vq24) rfl (by kernel_rfl) (by kernel_rfl) (by kernel_rfl) (by kernel_rfl) (fun _ _ _ h => h) (Or.inl ⟨by rfl, ?hq24⟩) (unhide HS0) ?_
  case hq24 => (intro w hSw; (try dsimp only at hSw); go_simp) <;> with_reducible rfl
  simp only [Act.put, List.getElem_toArray, List.getElem_cons_zero, List.getElem_cons_succ, List.setIfInBounds_toArray, List.set_cons_zero, List.set_cons_succ]
  refine anyL_take (i := 7) (v := ?vq25) rfl (by kernel_rfl) (by kernel_rfl) (by kernel_rfl) (by kernel_rfl) (fun _ _ _ h => h) (Or.inl ⟨by rfl, ?hq25⟩) (unhide HS0) ?_
  case hq25 => (intro w hSw; (try dsimp only at hSw); go_simp) <;> with_reducible rfl
  simp only [Act.put, List.getElem_toArray, List.getElem_cons_zero, List.getElem_cons_succ, List.setIfInBounds_toArray, List.set_cons_zero, List.set_cons_succ]
  refine anyL_take (i := 8) (v := ?vq26) rfl (by kernel_rfl) (by kernel_rfl) (by kernel_rfl) (by kernel_rfl) (fun _ _ _ h => h) (Or.inl ⟨by rfl, ?hq26⟩) (unhide HS0) ?_
  case hq26 => (intro w hSw; (try dsimp only at hSw); go_simp) <;> with_reducible rfl
  simp only [Act.put, List.getElem_toArray, List.getElem_cons_zero, List.getElem_cons_succ, List.setIfInBounds_toArray, List.set_cons_zero, List.set_cons_succ]
  refine anyL_ready (rs := [9]) (by kernel_rfl) (by simp) ?_
  refine AllL.cons rfl (fun K hK => ?_) AllL.nil
  go_simp
  refine (of1_at x.1 _).mono ?_
  rintro y _ ⟨rfl, rfl⟩
  dsimp only
  generalize w3.drew = wo at *
  refine unhide hK _ _ (fun _ => unhide HS0) ?_
  clear hK K
  refine anyL_take (i := 10) (v := ?vq27) rfl (by kernel_rfl) (by kernel_rfl) (by kernel_rfl) (by kernel_rfl) (fun _ _ _ h => h) (Or.inl ⟨by rfl, ?hq27⟩) (unhide HS0) ?_
  case hq27 => (intro w hSw; (try dsimp only at hSw); go_simp) <;> with_reducible rfl
  simp only [Act.put, List.getElem_toArray, List.getElem_cons_zero, List.getElem_cons_succ, List.setIfInBounds_toArray, List.set_cons_zero, List.set_cons_succ]
  refine anyL_take (i := 11) (v := ?vq28) rfl (by kernel_rfl) (by kernel_rfl) (by kernel_rfl) (by kernel_rfl) (fun _ _ _ h => h) (Or.inl ⟨by rfl, ?hq28⟩) (unhide HS0) ?_
  case hq28 => (intro w hSw; (try dsimp only at hSw); go_simp) <;> with_reducible rfl
  simp only [Act.put, List.getElem_toArray, List.getElem_cons_zero, List.getElem_cons_succ, List.setIfInBounds_toArray, List.set_cons_zero, List.set_cons_succ]
  refine anyL_take (i := 12) (v := ?vq29) rfl (by kernel_rfl) (by kernel_rfl) (by kernel_rfl) (by kernel_rfl) (fun _ _ _ h => h) (Or.inl ⟨by rfl, ?hq29⟩) (unhide HS0) ?_
  case hq29 => (intro w hSw; (try dsimp only at hSw); go_simp) <;> with_reducible rfl
  simp only [Act.put, List.getElem_toArray, List.getElem_cons_zero, List.getElem_cons_succ, List.setIfInBounds_toArray, List.set_cons_zero, List.set_cons_succ]
  refine anyL_take (i := 13) (v := ?vq30) rfl (by kernel_rfl) (by kernel_rfl) (by kernel_rfl) (by kernel_rfl) (fun _ _ _ h => h) (Or.inl ⟨by rfl, ?hq30⟩) (unhide HS0) ?_
  case hq30 => (intro w hSw; (try dsimp only at hSw); go_simp) <;> with_reducible rfl
  simp only [Act.put, List.getElem_toArray, List.getElem_cons_zero, List.getElem_cons_succ, List.setIfInBounds_toArray, List.set_cons_zero, List.set_cons_succ]
  refine anyL_take (i := 14) (v := ?vq31) rfl (by kernel_rfl) (by kernel_rfl) (by kernel_rfl) (by kernel_rfl) (fun _ _ _ h => h) (Or.inl ⟨by rfl, ?hq31⟩) (unhide HS0) ?_
  case hq31 => (intro w hSw; (try dsimp only at hSw); go_simp) <;> with_reducible rfl
  simp only [Act.put, List.getElem_toArray, List.getElem_cons_zero, List.getElem_cons_succ, List.setIfInBounds_toArray, List.set_cons_zero, List.set_cons_succ]
  refine anyL_take (i := 15) (v := ?vq32) rfl (by kernel_rfl) (by kernel_rfl) (by kernel_rfl) (by kernel_rfl) (fun _ _ _ h => h) (Or.inl ⟨by rfl, ?hq32⟩) (unhide HS0) ?_
  case hq32 => (intro w hSw; (try dsimp only at hSw); go_simp) <;> with_reducible rfl
  simp only [Act.put, List.getElem_toArray, List.getElem_cons_zero, List.getElem_cons_succ, List.setIfInBounds_toArray, List.set_cons_zero, List.set_cons_succ]
  refine anyL_take (i := 16) (v := ?vq33) rfl (by kernel_rfl) (by kernel_rfl) (by kernel_rfl) (by kernel_rfl) (fun _ _ _ h => h) (Or.inl ⟨by rfl, ?hq33⟩) (unhide HS0) ?_
  case hq33 => (intro w hSw; (try dsimp only at hSw); go_simp) <;> with_reducible rfl
  simp only [Act.put, List.getElem_toArray, List.getElem_cons_zero, List.getElem_cons_succ, List.setIfInBounds_toArray, List.set_cons_zero, List.set_cons_succ]
  refine anyL_take (i := 17) (v := ?vq34) rfl (by kernel_rfl) (by kernel_rfl) (by kernel_rfl) (by kernel_rfl) (fun _ _ _ h => h) (Or.inl ⟨by rfl, ?hq34⟩) (unhide HS0) ?_
  case hq34 => (intro w hSw; (try dsimp only at hSw); go_simp) <;> with_reducible rfl
  simp only [Act.put, List.getElem_toArray, List.getElem_cons_zero, List.getElem_cons_succ, List.setIfInBounds_toArray, List.set_cons_zero, List.set_cons_succ]
  refine anyL_ready (rs := [18]) (by kernel_rfl) (by simp) ?_
  refine AllL.cons rfl (fun K hK => ?_) AllL.nil
  obtain ⟨r_R0, r_R1, r_R2, r_R3, r_R4, r_R5, r_R6, r_R7, r_R8⟩ := (unhide HR).cells9
  obtain ⟨zr_R0, zr_R1, zr_R2, zr_R3, zr_R4, zr_R5, zr_R6, zr_R7, zr_R8⟩ := (unhide HR).froz9
  go_simp
  obtain ⟨W4, hE, NR⟩ := sto9 (unhide HR) (.bool false) (.int .i64 p1.s) (.int .i64 p1.m) (.slice bA1 bN1 bC1) (.slice aA1 aN1 aC1) (.bool oS1) (.string w01) (.int .i64 f01) (.bool d01)
  rw [hE]
  have NA : Hid (Cls W4 (X.heap.size) 44 _) := hide (by rw [← hE]; exact Cls.oth9 (unhide HA) (by omega))
  have NO : Hid (Cls W4 (X.heap.size + 1) 48 _) := hide (by rw [← hE]; exact Cls.oth9 (unhide HO) (by omega))
  have NU : Hid (Cls W4 (W0.heap.size) 44 _) := hide (by rw [← hE]; exact Cls.oth9 (unhide HU) (by omega))
  have NV : Hid (Cls W4 (W1.heap.size) 82 _) := hide (by rw [← hE]; exact Cls.oth9 (unhide HV) (by omega))
  have NHK1 : Hid (KpF _ w3 W4) := hide (by rw [← hE]; exact KpF.upd9 (unhide HK1) (.inl ⟨by first | omega | (dsimp only; omega), by first | omega | (dsimp only; omega)⟩))
  clear hE HA HO HR HU HV HK1
  have HA := NA
  have HO := NO
  have HR := NR
  have HU := NU
  have HV := NV
  have HK1 := NHK1
  clear NA NO NR NU NV NHK1
  have HS4 : Hid (S9 W4 (W0.heap.size) (.bool false) (.int .i64 p1.s) (.int .i64 p1.m) (.slice bA1 bN1 bC1) (.slice aA1 aN1 aC1) (.bool oS1) (.string w01) (.int .i64 f01) (.bool d01) ∧ S2 W4 (W1.heap.size) (.int .i64 x.1) (.string x.2)) := hide ⟨(unhide HU).cells9, (unhide HV).cells2⟩
  refine unhide hK _ _ (fun _ => unhide HS4) ?_
  clear hK K
  refine anyL_take (i := 19) (v := ?vq35) rfl (by kernel_rfl) (by kernel_rfl) (by kernel_rfl) (by kernel_rfl) (fun _ _ _ h => h) (Or.inl ⟨by rfl, ?hq35⟩) (unhide HS4) ?_
  case hq35 => (intro w hSw; (try dsimp only at hSw); go_simp) <;> with_reducible rfl
  simp only [Act.put, List.getElem_toArray, List.getElem_cons_zero, List.getElem_cons_succ, List.setIfInBounds_toArray, List.set_cons_zero, List.set_cons_succ]
  refine anyL_done (by kernel_rfl) ?_ _
  obtain ⟨q0, q1, q2, q3, q4, q5, q6, q7, q8⟩ := (unhide HR).cells9
  go_wp2_with fail
  refine bodyPost_ret (v := .tuple #[.agg #[.bool false, .int .i64 p1.s, .int .i64 p1.m, .slice bA1 bN1 bC1, .slice aA1 aN1 aC1, .bool oS1, .string w01, .int .i64 f01, .bool d01], .bool true]) (by simp [results, Try.results15, go_sem, q0, q1, q2, q3, q4, q5, q6, q7, q8]) rfl ?_
  obtain ⟨z1, z2, z3, z4, z5⟩ := stepEndI (unhide HFL) (unhide HD).lt (unhide HDJ) (unhide HX2) (by omega) hc2 (unhide HI2) (unhide HN1) (unhide HG3) (unhide HI3) (unhide HK1)
  exact ⟨_, D1, G, rfl, z1, z2, z3, z4, z5⟩
set_option maxRecDepth 100000 in
set_option maxHeartbeats 4000000 in
theorem step3nI_at (X : World) (F : Nat → Prop) (g : Nat) (p : Pa Int) (D : Nat → Prop) (c : Array Value) (hP : PsI X F g p) (hD : IsD X D c p) (hok : OkP p) (hdj : ∀ i, D i → ¬ F i) (n : Int) (w : ByteArray) (hw : w.size ≤ 281474976710656) (p1 : Pa Int) (e : Int) (he : e ≠ 0) (hu : redoP p = (p1, none, e)) :
    Calls Try.prog 15 #[.pointer (some ⟨g, 0, none⟩), .agg c, .agg #[.int .i64 3, .int .i64 n, .string w], .func (.func 6) #[] #[]] X fun y Y => ∃ c' D' G, y = .returned (.tuple #[.agg c', .bool true]) ∧ IsD Y D' c' p1 ∧ PsI Y G g p1 ∧ (∀ i, D' i → ¬ G i) ∧ Gr F X G Y ∧ ∀ i, D' i → D i ∨ X.heap.size ≤ i := by
  have HP := hide hP
  have HD := hide hD
  have HOK := hide hok
  have HDJ := hide hdj
  have HW := hide hw
  have HFL := hide hP.lt
  obtain ⟨bA, bN, bC, aA, aN, aC, oS, w0, f0, d0, rfl⟩ := hD.form
  clear hP hD hok hdj hw
  go_enter Try.func15, Try.ntmps15
  go_upto_region 1 with fail
  obtain ⟨W0, hE, HA, HO, HR, HK0⟩ := new3B (fun _ => False) X #[.bool false, .int .i64 p.s, .int .i64 p.m, .slice bA bN bC, .slice aA aN aC, .bool oS, .string w0, .int .i64 f0, .bool d0] 44 #[.int .i64 3, .int .i64 n, .string w] 48 #[.bool false, .int .i64 0, .int .i64 0, .slice none 0 0, .slice none 0 0, .bool false, .string ⟨#[]⟩, .int .i64 0, .bool false] 44
  rw [hE]
  clear hE
  have c_O0 : W0.cell? ⟨X.heap.size + 1, 0, none⟩ = some (.int .i64 3) := ((unhide HO).cell 0).trans rfl
  have hgeU : X.heap.size + 1 + 1 < W0.heap.size := (unhide HR).lt
  have NA := hide ((unhide HA).alloc (.cells #[.bool false, .int .i64 0, .int .i64 0, .slice none 0 0, .slice none 0 0, .bool false, .string ⟨#[]⟩, .int .i64 0, .bool false] 44))
  have NO := hide ((unhide HO).alloc (.cells #[.bool false, .int .i64 0, .int .i64 0, .slice none 0 0, .slice none 0 0, .bool false, .string ⟨#[]⟩, .int .i64 0, .bool false] 44))
  have NR := hide ((unhide HR).alloc (.cells #[.bool false, .int .i64 0, .int .i64 0, .slice none 0 0, .slice none 0 0, .bool false, .string ⟨#[]⟩, .int .i64 0, .bool false] 44))
  have NU := hide (Cls.new W0 44 #[.bool false, .int .i64 0, .int .i64 0, .slice none 0 0, .slice none 0 0, .bool false, .string ⟨#[]⟩, .int .i64 0, .bool false])
  have NHK0 := hide ((unhide HK0).al (.cells #[.bool false, .int .i64 0, .int .i64 0, .slice none 0 0, .slice none 0 0, .bool false, .string ⟨#[]⟩, .int .i64 0, .bool false] 44))
  clear HA HO HR HK0
  go_upto_region 8 with fail
  generalize (W0.alloc (.cells #[.bool false, .int .i64 0, .int .i64 0, .slice none 0 0, .slice none 0 0, .bool false, .string ⟨#[]⟩, .int .i64 0, .bool false] 44)) = W1 at *
  have HA := NA
  have HO := NO
  have HR := NR
  have HU := NU
  have HK0 := NHK0
  clear NA NO NR NU NHK0
  clear c_O0
  have hgeV : W0.heap.size < W1.heap.size := (unhide HU).lt
  have NA := hide ((unhide HA).alloc (.cells #[.int .i64 0, .string ⟨#[]⟩] 82))
  have NO := hide ((unhide HO).alloc (.cells #[.int .i64 0, .string ⟨#[]⟩] 82))
  have NR := hide ((unhide HR).alloc (.cells #[.int .i64 0, .string ⟨#[]⟩] 82))
  have NU := hide ((unhide HU).alloc (.cells #[.int .i64 0, .string ⟨#[]⟩] 82))
  have NV := hide (Cls.new W1 82 #[.int .i64 0, .string ⟨#[]⟩])
  have NHK0 := hide ((unhide HK0).al (.cells #[.int .i64 0, .string ⟨#[]⟩] 82))
  clear HA HO HR HU HK0
  go_upto_region 9 with fail
  generalize (W1.alloc (.cells #[.int .i64 0, .string ⟨#[]⟩] 82)) = W2 at *
  have HA := NA
  have HO := NO
  have HR := NR
  have HU := NU
  have HV := NV
  have HK0 := NHK0
  clear NA NO NR NU NV NHK0
  have hltc : W1.heap.size < W2.heap.size := (unhide HV).lt
  have HC : Hid (Calls Try.prog 32 #[.agg #[.bool false, .int .i64 p.s, .int .i64 p.m, .slice bA bN bC, .slice aA aN aC, .bool oS, .string w0, .int .i64 f0, .bool d0]] W2 fun y Y => ∃ c' D', y = .returned (.tuple #[.agg c', .agg #[.int .i64 0, .string ⟨#[]⟩], .int .i64 e]) ∧ IsD Y D' c' p1 ∧ (∀ i, D' i → D i ∨ W2.heap.size ≤ i) ∧ Below W2.heap.size W2 Y) := hide (by have h := RRedoA_at W2 D _ p ((unhide HD).kpf (unhide HK0) (fun _ _ e => e)) (unhide HOK); rw [hu] at h; exact h)
  obtain ⟨c_A0, c_A1, c_A2, c_A3, c_A4, c_A5, c_A6, c_A7, c_A8⟩ := (unhide HA).cells9
  have c_O0 : W2.cell? ⟨X.heap.size + 1, 0, none⟩ = some (.int .i64 3) := ((unhide HO).cell 0).trans rfl
  go_wp2_with fail
  refine (unhide HC).mono ?_
  rintro y w1 ⟨c1, D1, rfl, i1, n1, x1⟩
  dsimp only
  obtain ⟨bA1, bN1, bC1, aA1, aN1, aC1, oS1, w01, f01, d01, rfl⟩ := i1.form
  have HI1 := hide i1
  have HN1 := hide n1
  clear HC i1 n1
  clear c_A0 c_A1 c_A2 c_A3 c_A4 c_A5 c_A6 c_A7 c_A8 c_O0
  have hcw : W2.heap.size ≤ w1.heap.size := x1.size
  have HX1 := hide x1
  have NA := hide ((unhide HA).kpf (KpF.of (F := fun _ => False) (unhide HX1)) (fun e => e))
  have NO := hide ((unhide HO).kpf (KpF.of (F := fun _ => False) (unhide HX1)) (fun e => e))
  have NR := hide ((unhide HR).kpf (KpF.of (F := fun _ => False) (unhide HX1)) (fun e => e))
  have NU := hide ((unhide HU).kpf (KpF.of (F := fun _ => False) (unhide HX1)) (fun e => e))
  have NV := hide ((unhide HV).kpf (KpF.of (F := fun _ => False) (unhide HX1)) (fun e => e))
  have NHK0 := hide ((unhide HK0).bel (unhide HX1))
  clear HA HO HR HU HV HK0
  have HA := NA
  have HO := NO
  have HR := NR
  have HU := NU
  have HV := NV
  have HK0 := NHK0
  clear NA NO NR NU NV NHK0
  clear x1
  have HKI := hide (KpF.refl (fun i => X.heap.size ≤ i ∧ i < W2.heap.size) w1)
  obtain ⟨c_U0, c_U1, c_U2, c_U3, c_U4, c_U5, c_U6, c_U7, c_U8⟩ := (unhide HU).cells9
  obtain ⟨c_V0, c_V1⟩ := (unhide HV).cells2
  obtain ⟨zc_U0, zc_U1, zc_U2, zc_U3, zc_U4, zc_U5, zc_U6, zc_U7, zc_U8⟩ := (unhide HU).froz9
  obtain ⟨zc_V0, zc_V1⟩ := (unhide HV).froz2
  go_upto_region 17 with fail
  generalize hE : (((((((((((w1.setCell ⟨W0.heap.size, 0, none⟩ (.bool false)).setCell ⟨W0.heap.size, 1, none⟩ (.int .i64 p1.s)).setCell ⟨W0.heap.size, 2, none⟩ (.int .i64 p1.m)).setCell ⟨W0.heap.size, 3, none⟩ (.slice bA1 bN1 bC1)).setCell ⟨W0.heap.size, 4, none⟩ (.slice aA1 aN1 aC1)).setCell ⟨W0.heap.size, 5, none⟩ (.bool oS1)).setCell ⟨W0.heap.size, 6, none⟩ (.string w01)).setCell ⟨W0.heap.size, 7, none⟩ (.int .i64 f01)).setCell ⟨W0.heap.size, 8, none⟩ (.bool d01)).setCell ⟨W1.heap.size, 0, none⟩ (.int .i64 0)).setCell ⟨W1.heap.size, 1, none⟩ (.string ⟨#[]⟩)) = W3 at *
  have NA : Hid (Cls W3 (X.heap.size) 44 _) := hide (by rw [← hE]; exact Cls.oth2 (Cls.oth9 (unhide HA) (by omega)) (by omega))
  have NO : Hid (Cls W3 (X.heap.size + 1) 48 _) := hide (by rw [← hE]; exact Cls.oth2 (Cls.oth9 (unhide HO) (by omega)) (by omega))
  have NR : Hid (Cls W3 (X.heap.size + 1 + 1) 44 _) := hide (by rw [← hE]; exact Cls.oth2 (Cls.oth9 (unhide HR) (by omega)) (by omega))
  have NU : Hid (Cls W3 (W0.heap.size) 44 #[.bool false, .int .i64 p1.s, .int .i64 p1.m, .slice bA1 bN1 bC1, .slice aA1 aN1 aC1, .bool oS1, .string w01, .int .i64 f01, .bool d01]) := hide (by rw [← hE]; exact Cls.oth2 (Cls.set9 (unhide HU)) (by omega))
  have NV : Hid (Cls W3 (W1.heap.size) 82 #[.int .i64 0, .string ⟨#[]⟩]) := hide (by rw [← hE]; exact Cls.set2 (Cls.oth9 (unhide HV) (by omega)))
  have NHK0 : Hid (KpF _ X W3) := hide (by rw [← hE]; exact KpF.upd2 (KpF.upd9 (unhide HK0) (.inr (by first | omega | (dsimp only; omega)))) (.inr (by first | omega | (dsimp only; omega))))
  have NHKI : Hid (KpF _ w1 W3) := hide (by rw [← hE]; exact KpF.upd2 (KpF.upd9 (unhide HKI) (.inl ⟨by first | omega | (dsimp only; omega), by first | omega | (dsimp only; omega)⟩)) (.inl ⟨by first | omega | (dsimp only; omega), by first | omega | (dsimp only; omega)⟩))
  clear hE HA HO HR HU HV HK0 HKI
  have HA := NA
  have HO := NO
  have HR := NR
  have HU := NU
  have HV := NV
  have HK0 := NHK0
  have HKI := NHKI
  clear NA NO NR NU NV NHK0 NHKI
  clear c_U0 c_U1 c_U2 c_U3 c_U4 c_U5 c_U6 c_U7 c_U8 c_V0 c_V1 zc_U0 zc_U1 zc_U2 zc_U3 zc_U4 zc_U5 zc_U6 zc_U7 zc_U8 zc_V0 zc_V1
  have HI2 := hide ((unhide HI1).kpf (unhide HKI) (fun i e l => by rcases unhide HN1 i e with q | q; have := (unhide HD).lt i q; omega; omega))
  have HPA := hide ((unhide HP).kpf (unhide HK0) (fun _ _ e => e))
  have hc2 : W2.heap.size ≤ W3.heap.size := Nat.le_trans hcw (unhide HKI).size
  have HCP : Hid (Calls Try.prog 33 #[.pointer (some ⟨g, 0, none⟩)] W3 fun y Y => y = .returned (.tuple #[.int .i64 0, .string ⟨#[]⟩, .int .i64 e]) ∧ ∃ G, PsI Y G g p1 ∧ Gr F W3 G Y) := hide (by have h := RedoA_at W3 F g p (unhide HPA) (unhide HOK); rw [hu] at h; exact h)
  go_wp2_with fail
  refine (unhide HCP).mono ?_
  rintro y w3 ⟨rfl, G, i3, g3⟩
  dsimp only
  have HI3 := hide i3
  have HG3 := hide g3
  have HX2 := HK0
  clear HCP
  have NA := hide ((unhide HA).kpf g3.kp (fun e => by have := unhide HFL _ e; omega))
  have NO := hide ((unhide HO).kpf g3.kp (fun e => by have := unhide HFL _ e; omega))
  have NR := hide ((unhide HR).kpf g3.kp (fun e => by have := unhide HFL _ e; omega))
  have NU := hide ((unhide HU).kpf g3.kp (fun e => by have := unhide HFL _ e; omega))
  have NV := hide ((unhide HV).kpf g3.kp (fun e => by have := unhide HFL _ e; omega))
  clear HA HO HR HU HV HK0 HKI
  have HA := NA
  have HO := NO
  have HR := NR
  have HU := NU
  have HV := NV
  clear NA NO NR NU NV
  have HK1 := hide (KpF.refl (fun i => X.heap.size ≤ i ∧ i < W2.heap.size) w3)
  clear i3 g3
  have t1 : decide (e = 0) = false := decide_eq_false he
  have t2 : (e == 0) = false := by simpa using he
  have t3 : (e != 0) = true := by simpa using he
  go_upto_region 21 with fail
  obtain ⟨c_U0, c_U1, c_U2, c_U3, c_U4, c_U5, c_U6, c_U7, c_U8⟩ := (unhide HU).cells9
  obtain ⟨c_R0, c_R1, c_R2, c_R3, c_R4, c_R5, c_R6, c_R7, c_R8⟩ := (unhide HR).cells9
  obtain ⟨zc_R0, zc_R1, zc_R2, zc_R3, zc_R4, zc_R5, zc_R6, zc_R7, zc_R8⟩ := (unhide HR).froz9
  go_wp2_with fail
  obtain ⟨W4, hE, NR⟩ := sto9 (unhide HR) (.bool false) (.int .i64 p1.s) (.int .i64 p1.m) (.slice bA1 bN1 bC1) (.slice aA1 aN1 aC1) (.bool oS1) (.string w01) (.int .i64 f01) (.bool d01)
  rw [hE]
  have NA : Hid (Cls W4 (X.heap.size) 44 _) := hide (by rw [← hE]; exact Cls.oth9 (unhide HA) (by omega))
  have NO : Hid (Cls W4 (X.heap.size + 1) 48 _) := hide (by rw [← hE]; exact Cls.oth9 (unhide HO) (by omega))
  have NU : Hid (Cls W4 (W0.heap.size) 44 _) := hide (by rw [← hE]; exact Cls.oth9 (unhide HU) (by omega))
  have NV : Hid (Cls W4 (W1.heap.size) 82 _) := hide (by rw [← hE]; exact Cls.oth9 (unhide HV) (by omega))
  have NHK1 : Hid (KpF _ w3 W4) := hide (by rw [← hE]; exact KpF.upd9 (unhide HK1) (.inl ⟨by first | omega | (dsimp only; omega), by first | omega | (dsimp only; omega)⟩))
  clear hE HA HO HR HU HV HK1
  have HA := NA
  have HO := NO
  have HR := NR
  have HU := NU
  have HV := NV
  have HK1 := NHK1
  clear NA NO NR NU NV NHK1
  obtain ⟨q0, q1, q2, q3, q4, q5, q6, q7, q8⟩ := (unhide HR).cells9
  refine bodyPost_ret (v := .tuple #[.agg #[.bool false, .int .i64 p1.s, .int .i64 p1.m, .slice bA1 bN1 bC1, .slice aA1 aN1 aC1, .bool oS1, .string w01, .int .i64 f01, .bool d01], .bool true]) (by simp [results, Try.results15, go_sem, q0, q1, q2, q3, q4, q5, q6, q7, q8]) rfl ?_
  obtain ⟨z1, z2, z3, z4, z5⟩ := stepEndI (unhide HFL) (unhide HD).lt (unhide HDJ) (unhide HX2) (by omega) hc2 (unhide HI2) (unhide HN1) (unhide HG3) (unhide HI3) (unhide HK1)
  exact ⟨_, D1, G, rfl, z1, z2, z3, z4, z5⟩
set_option maxRecDepth 100000 in
set_option maxHeartbeats 4000000 in
theorem step3BI_at (X : World) (n : Int) (w : ByteArray) :
    Calls Try.prog 15 #[.pointer none, .agg cBad, .agg #[.int .i64 3, .int .i64 n, .string w], .func (.func 6) #[] #[]] X fun y Y => y = .returned (.tuple #[.agg cBad, .bool true]) ∧ Below X.heap.size X Y := by
  unfold cBad
  go_enter Try.func15, Try.ntmps15
  go_upto_region 1 with fail
  obtain ⟨W0, hE, HA, HO, HR, HK0⟩ := new3B (fun _ => False) X #[.bool true, .int .i64 0, .int .i64 0, .slice none 0 0, .slice none 0 0, .bool false, .string ⟨#[]⟩, .int .i64 0, .bool false] 44 #[.int .i64 3, .int .i64 n, .string w] 48 #[.bool false, .int .i64 0, .int .i64 0, .slice none 0 0, .slice none 0 0, .bool false, .string ⟨#[]⟩, .int .i64 0, .bool false] 44
  rw [hE]
  clear hE
  have c_O0 : W0.cell? ⟨X.heap.size + 1, 0, none⟩ = some (.int .i64 3) := ((unhide HO).cell 0).trans rfl
  have hgeU : X.heap.size + 1 + 1 < W0.heap.size := (unhide HR).lt
  have NA := hide ((unhide HA).alloc (.cells #[.bool false, .int .i64 0, .int .i64 0, .slice none 0 0, .slice none 0 0, .bool false, .string ⟨#[]⟩, .int .i64 0, .bool false] 44))
  have NO := hide ((unhide HO).alloc (.cells #[.bool false, .int .i64 0, .int .i64 0, .slice none 0 0, .slice none 0 0, .bool false, .string ⟨#[]⟩, .int .i64 0, .bool false] 44))
  have NR := hide ((unhide HR).alloc (.cells #[.bool false, .int .i64 0, .int .i64 0, .slice none 0 0, .slice none 0 0, .bool false, .string ⟨#[]⟩, .int .i64 0, .bool false] 44))
  have NU := hide (Cls.new W0 44 #[.bool false, .int .i64 0, .int .i64 0, .slice none 0 0, .slice none 0 0, .bool false, .string ⟨#[]⟩, .int .i64 0, .bool false])
  have NHK0 := hide ((unhide HK0).al (.cells #[.bool false, .int .i64 0, .int .i64 0, .slice none 0 0, .slice none 0 0, .bool false, .string ⟨#[]⟩, .int .i64 0, .bool false] 44))
  clear HA HO HR HK0
  go_upto_region 8 with fail
  generalize (W0.alloc (.cells #[.bool false, .int .i64 0, .int .i64 0, .slice none 0 0, .slice none 0 0, .bool false, .string ⟨#[]⟩, .int .i64 0, .bool false] 44)) = W1 at *
  have HA := NA
  have HO := NO
  have HR := NR
  have HU := NU
  have HK0 := NHK0
  clear NA NO NR NU NHK0
  clear c_O0
  have hgeV : W0.heap.size < W1.heap.size := (unhide HU).lt
  have NA := hide ((unhide HA).alloc (.cells #[.int .i64 0, .string ⟨#[]⟩] 82))
  have NO := hide ((unhide HO).alloc (.cells #[.int .i64 0, .string ⟨#[]⟩] 82))
  have NR := hide ((unhide HR).alloc (.cells #[.int .i64 0, .string ⟨#[]⟩] 82))
  have NU := hide ((unhide HU).alloc (.cells #[.int .i64 0, .string ⟨#[]⟩] 82))
  have NV := hide (Cls.new W1 82 #[.int .i64 0, .string ⟨#[]⟩])
  have NHK0 := hide ((unhide HK0).al (.cells #[.int .i64 0, .string ⟨#[]⟩] 82))
  clear HA HO HR HU HK0
  go_upto_region 9 with fail
  generalize (W1.alloc (.cells #[.int .i64 0, .string ⟨#[]⟩] 82)) = W2 at *
  have HA := NA
  have HO := NO
  have HR := NR
  have HU := NU
  have HV := NV
  have HK0 := NHK0
  clear NA NO NR NU NV NHK0
  have hltc : W1.heap.size < W2.heap.size := (unhide HV).lt
  have HC := hide (RRedoB_at W2)
  unfold cBad at HC
  obtain ⟨c_A0, c_A1, c_A2, c_A3, c_A4, c_A5, c_A6, c_A7, c_A8⟩ := (unhide HA).cells9
  have c_O0 : W2.cell? ⟨X.heap.size + 1, 0, none⟩ = some (.int .i64 3) := ((unhide HO).cell 0).trans rfl
  go_wp2_with fail
  refine (unhide HC).mono ?_
  rintro y w1 ⟨rfl, x1⟩
  dsimp only
  clear HC
  clear c_A0 c_A1 c_A2 c_A3 c_A4 c_A5 c_A6 c_A7 c_A8 c_O0
  have hcw : W2.heap.size ≤ w1.heap.size := x1.size
  have HX1 := hide x1
  have NA := hide ((unhide HA).kpf (KpF.of (F := fun _ => False) (unhide HX1)) (fun e => e))
  have NO := hide ((unhide HO).kpf (KpF.of (F := fun _ => False) (unhide HX1)) (fun e => e))
  have NR := hide ((unhide HR).kpf (KpF.of (F := fun _ => False) (unhide HX1)) (fun e => e))
  have NU := hide ((unhide HU).kpf (KpF.of (F := fun _ => False) (unhide HX1)) (fun e => e))
  have NV := hide ((unhide HV).kpf (KpF.of (F := fun _ => False) (unhide HX1)) (fun e => e))
  have NHK0 := hide ((unhide HK0).bel (unhide HX1))
  clear HA HO HR HU HV HK0
  have HA := NA
  have HO := NO
  have HR := NR
  have HU := NU
  have HV := NV
  have HK0 := NHK0
  clear NA NO NR NU NV NHK0
  clear x1
  obtain ⟨c_U0, c_U1, c_U2, c_U3, c_U4, c_U5, c_U6, c_U7, c_U8⟩ := (unhide HU).cells9
  obtain ⟨c_V0, c_V1⟩ := (unhide HV).cells2
  obtain ⟨zc_U0, zc_U1, zc_U2, zc_U3, zc_U4, zc_U5, zc_U6, zc_U7, zc_U8⟩ := (unhide HU).froz9
  obtain ⟨zc_V0, zc_V1⟩ := (unhide HV).froz2
  go_upto_region 17 with fail
  generalize hE : (((((((((((w1.setCell ⟨W0.heap.size, 0, none⟩ (.bool true)).setCell ⟨W0.heap.size, 1, none⟩ (.int .i64 0)).setCell ⟨W0.heap.size, 2, none⟩ (.int .i64 0)).setCell ⟨W0.heap.size, 3, none⟩ (.slice none 0 0)).setCell ⟨W0.heap.size, 4, none⟩ (.slice none 0 0)).setCell ⟨W0.heap.size, 5, none⟩ (.bool false)).setCell ⟨W0.heap.size, 6, none⟩ (.string ⟨#[]⟩)).setCell ⟨W0.heap.size, 7, none⟩ (.int .i64 0)).setCell ⟨W0.heap.size, 8, none⟩ (.bool false)).setCell ⟨W1.heap.size, 0, none⟩ (.int .i64 0)).setCell ⟨W1.heap.size, 1, none⟩ (.string ⟨#[]⟩)) = W3 at *
  have NA : Hid (Cls W3 (X.heap.size) 44 _) := hide (by rw [← hE]; exact Cls.oth2 (Cls.oth9 (unhide HA) (by omega)) (by omega))
  have NO : Hid (Cls W3 (X.heap.size + 1) 48 _) := hide (by rw [← hE]; exact Cls.oth2 (Cls.oth9 (unhide HO) (by omega)) (by omega))
  have NR : Hid (Cls W3 (X.heap.size + 1 + 1) 44 _) := hide (by rw [← hE]; exact Cls.oth2 (Cls.oth9 (unhide HR) (by omega)) (by omega))
  have NU : Hid (Cls W3 (W0.heap.size) 44 #[.bool true, .int .i64 0, .int .i64 0, .slice none 0 0, .slice none 0 0, .bool false, .string ⟨#[]⟩, .int .i64 0, .bool false]) := hide (by rw [← hE]; exact Cls.oth2 (Cls.set9 (unhide HU)) (by omega))
  have NV : Hid (Cls W3 (W1.heap.size) 82 #[.int .i64 0, .string ⟨#[]⟩]) := hide (by rw [← hE]; exact Cls.set2 (Cls.oth9 (unhide HV) (by omega)))
  have NHK0 : Hid (KpF _ X W3) := hide (by rw [← hE]; exact KpF.upd2 (KpF.upd9 (unhide HK0) (.inr (by first | omega | (dsimp only; omega)))) (.inr (by first | omega | (dsimp only; omega))))
  clear hE HA HO HR HU HV HK0
  have HA := NA
  have HO := NO
  have HR := NR
  have HU := NU
  have HV := NV
  have HK0 := NHK0
  clear NA NO NR NU NV NHK0
  clear c_U0 c_U1 c_U2 c_U3 c_U4 c_U5 c_U6 c_U7 c_U8 c_V0 c_V1 zc_U0 zc_U1 zc_U2 zc_U3 zc_U4 zc_U5 zc_U6 zc_U7 zc_U8 zc_V0 zc_V1
  have HCP := hide (RedoNI_at W3)
  go_wp2_with fail
  refine (unhide HCP).mono ?_
  rintro y w3 ⟨rfl, e3⟩
  dsimp only
  subst e3
  clear HCP
  go_upto_region 21 with fail
  obtain ⟨c_U0, c_U1, c_U2, c_U3, c_U4, c_U5, c_U6, c_U7, c_U8⟩ := (unhide HU).cells9
  obtain ⟨c_R0, c_R1, c_R2, c_R3, c_R4, c_R5, c_R6, c_R7, c_R8⟩ := (unhide HR).cells9
  obtain ⟨zc_R0, zc_R1, zc_R2, zc_R3, zc_R4, zc_R5, zc_R6, zc_R7, zc_R8⟩ := (unhide HR).froz9
  go_wp2_with fail
  obtain ⟨W4, hE, NR⟩ := sto9 (unhide HR) (.bool true) (.int .i64 0) (.int .i64 0) (.slice none 0 0) (.slice none 0 0) (.bool false) (.string ⟨#[]⟩) (.int .i64 0) (.bool false)
  rw [hE]
  have NA : Hid (Cls W4 (X.heap.size) 44 _) := hide (by rw [← hE]; exact Cls.oth9 (unhide HA) (by omega))
  have NO : Hid (Cls W4 (X.heap.size + 1) 48 _) := hide (by rw [← hE]; exact Cls.oth9 (unhide HO) (by omega))
  have NU : Hid (Cls W4 (W0.heap.size) 44 _) := hide (by rw [← hE]; exact Cls.oth9 (unhide HU) (by omega))
  have NV : Hid (Cls W4 (W1.heap.size) 82 _) := hide (by rw [← hE]; exact Cls.oth9 (unhide HV) (by omega))
  have NHK0 : Hid (KpF _ X W4) := hide (by rw [← hE]; exact KpF.upd9 (unhide HK0) (.inr (by first | omega | (dsimp only; omega))))
  clear hE HA HO HR HU HV HK0
  have HA := NA
  have HO := NO
  have HR := NR
  have HU := NU
  have HV := NV
  have HK0 := NHK0
  clear NA NO NR NU NV NHK0
  obtain ⟨q0, q1, q2, q3, q4, q5, q6, q7, q8⟩ := (unhide HR).cells9
  refine bodyPost_ret (v := .tuple #[.agg #[.bool true, .int .i64 0, .int .i64 0, .slice none 0 0, .slice none 0 0, .bool false, .string ⟨#[]⟩, .int .i64 0, .bool false], .bool true]) (by simp [results, Try.results15, go_sem, q0, q1, q2, q3, q4, q5, q6, q7, q8]) rfl ?_
  exact ⟨rfl, (unhide HK0).below (Nat.le_refl _) (fun _ e => e.elim)⟩
set_option maxRecDepth 100000 in
set_option maxHeartbeats 4000000 in
theorem step0I_at (X : World) (F : Nat → Prop) (g : Nat) (p : Pa Int) (D : Nat → Prop) (c : Array Value) (hP : PsI X F g p) (hD : IsD X D c p) (hok : OkP p) (hdj : ∀ i, D i → ¬ F i) (k n : Int) (w : ByteArray) (hw : w.size ≤ 281474976710656) (hk : (k == 1) = false ∧ (k == 2) = false ∧ (k == 3) = false ∧ (k == 4) = false ∧ (k == 5) = false ∧ (k == 6) = false) :
    Calls Try.prog 15 #[.pointer (some ⟨g, 0, none⟩), .agg c, .agg #[.int .i64 k, .int .i64 n, .string w], .func (.func 6) #[] #[]] X fun y Y => ∃ c' D' G, y = .returned (.tuple #[.agg c', .bool true]) ∧ IsD Y D' c' p ∧ PsI Y G g p ∧ (∀ i, D' i → ¬ G i) ∧ Gr F X G Y ∧ ∀ i, D' i → D i ∨ X.heap.size ≤ i := by
  have HP := hide hP
  have HD := hide hD
  have HOK := hide hok
  have HDJ := hide hdj
  have HW := hide hw
  have HFL := hide hP.lt
  obtain ⟨bA, bN, bC, aA, aN, aC, oS, w0, f0, d0, rfl⟩ := hD.form
  clear hP hD hok hdj hw
  obtain ⟨t1, t2, t3, t4, t5, t6⟩ := hk
  go_enter Try.func15, Try.ntmps15
  go_upto_region 1 with fail
  obtain ⟨W0, hE, HA, HO, HR, HK0⟩ := new3B (fun _ => False) X #[.bool false, .int .i64 p.s, .int .i64 p.m, .slice bA bN bC, .slice aA aN aC, .bool oS, .string w0, .int .i64 f0, .bool d0] 44 #[.int .i64 k, .int .i64 n, .string w] 48 #[.bool false, .int .i64 0, .int .i64 0, .slice none 0 0, .slice none 0 0, .bool false, .string ⟨#[]⟩, .int .i64 0, .bool false] 44
  rw [hE]
  clear hE
  obtain ⟨c_A0, c_A1, c_A2, c_A3, c_A4, c_A5, c_A6, c_A7, c_A8⟩ := (unhide HA).cells9
  have c_O0 : W0.cell? ⟨X.heap.size + 1, 0, none⟩ = some (.int .i64 k) := ((unhide HO).cell 0).trans rfl
  obtain ⟨c_R0, c_R1, c_R2, c_R3, c_R4, c_R5, c_R6, c_R7, c_R8⟩ := (unhide HR).cells9
  obtain ⟨zc_R0, zc_R1, zc_R2, zc_R3, zc_R4, zc_R5, zc_R6, zc_R7, zc_R8⟩ := (unhide HR).froz9
  go_wp2_with fail
  obtain ⟨W1, hE, NR⟩ := sto9 (unhide HR) (.bool false) (.int .i64 p.s) (.int .i64 p.m) (.slice bA bN bC) (.slice aA aN aC) (.bool oS) (.string w0) (.int .i64 f0) (.bool d0)
  rw [hE]
  have NA : Hid (Cls W1 (X.heap.size) 44 _) := hide (by rw [← hE]; exact Cls.oth9 (unhide HA) (by omega))
  have NO : Hid (Cls W1 (X.heap.size + 1) 48 _) := hide (by rw [← hE]; exact Cls.oth9 (unhide HO) (by omega))
  have NHK0 : Hid (KpF _ X W1) := hide (by rw [← hE]; exact KpF.upd9 (unhide HK0) (.inr (by first | omega | (dsimp only; omega))))
  clear hE HA HO HR HK0
  have HA := NA
  have HO := NO
  have HR := NR
  have HK0 := NHK0
  clear NA NO NR NHK0
  obtain ⟨q0, q1, q2, q3, q4, q5, q6, q7, q8⟩ := (unhide HR).cells9
  refine bodyPost_ret (v := .tuple #[.agg #[.bool false, .int .i64 p.s, .int .i64 p.m, .slice bA bN bC, .slice aA aN aC, .bool oS, .string w0, .int .i64 f0, .bool d0], .bool true]) (by simp [results, Try.results15, go_sem, q0, q1, q2, q3, q4, q5, q6, q7, q8]) rfl ?_
  exact ⟨_, D, F, rfl, (unhide HD).kpf (unhide HK0) (fun _ _ e => e), (unhide HP).kpf (unhide HK0) (fun _ _ e => e), unhide HDJ, ⟨(unhide HK0).mono (fun _ _ e => e.elim), fun _ e => .inl e⟩, fun _ e => .inl e⟩
set_option maxRecDepth 100000 in
set_option maxHeartbeats 4000000 in
theorem step0BI_at (X : World) (k n : Int) (w : ByteArray) (hk : (k == 1) = false ∧ (k == 2) = false ∧ (k == 3) = false ∧ (k == 4) = false ∧ (k == 5) = false ∧ (k == 6) = false) :
    Calls Try.prog 15 #[.pointer none, .agg cBad, .agg #[.int .i64 k, .int .i64 n, .string w], .func (.func 6) #[] #[]] X fun y Y => y = .returned (.tuple #[.agg cBad, .bool true]) ∧ Below X.heap.size X Y := by
  unfold cBad
  obtain ⟨t1, t2, t3, t4, t5, t6⟩ := hk
  go_enter Try.func15, Try.ntmps15
  go_upto_region 1 with fail
  obtain ⟨W0, hE, HA, HO, HR, HK0⟩ := new3B (fun _ => False) X #[.bool true, .int .i64 0, .int .i64 0, .slice none 0 0, .slice none 0 0, .bool false, .string ⟨#[]⟩, .int .i64 0, .bool false] 44 #[.int .i64 k, .int .i64 n, .string w] 48 #[.bool false, .int .i64 0, .int .i64 0, .slice none 0 0, .slice none 0 0, .bool false, .string ⟨#[]⟩, .int .i64 0, .bool false] 44
  rw [hE]
  clear hE
  obtain ⟨c_A0, c_A1, c_A2, c_A3, c_A4, c_A5, c_A6, c_A7, c_A8⟩ := (unhide HA).cells9
  have c_O0 : W0.cell? ⟨X.heap.size + 1, 0, none⟩ = some (.int .i64 k) := ((unhide HO).cell 0).trans rfl
  obtain ⟨c_R0, c_R1, c_R2, c_R3, c_R4, c_R5, c_R6, c_R7, c_R8⟩ := (unhide HR).cells9
  obtain ⟨zc_R0, zc_R1, zc_R2, zc_R3, zc_R4, zc_R5, zc_R6, zc_R7, zc_R8⟩ := (unhide HR).froz9
  go_wp2_with fail
  obtain ⟨W1, hE, NR⟩ := sto9 (unhide HR) (.bool true) (.int .i64 0) (.int .i64 0) (.slice none 0 0) (.slice none 0 0) (.bool false) (.string ⟨#[]⟩) (.int .i64 0) (.bool false)
  rw [hE]
  have NA : Hid (Cls W1 (X.heap.size) 44 _) := hide (by rw [← hE]; exact Cls.oth9 (unhide HA) (by omega))
  have NO : Hid (Cls W1 (X.heap.size + 1) 48 _) := hide (by rw [← hE]; exact Cls.oth9 (unhide HO) (by omega))
  have NHK0 : Hid (KpF _ X W1) := hide (by rw [← hE]; exact KpF.upd9 (unhide HK0) (.inr (by first | omega | (dsimp only; omega))))
  clear hE HA HO HR HK0
  have HA := NA
  have HO := NO
  have HR := NR
  have HK0 := NHK0
  clear NA NO NR NHK0
  obtain ⟨q0, q1, q2, q3, q4, q5, q6, q7, q8⟩ := (unhide HR).cells9
  refine bodyPost_ret (v := .tuple #[.agg #[.bool true, .int .i64 0, .int .i64 0, .slice none 0 0, .slice none 0 0, .bool false, .string ⟨#[]⟩, .int .i64 0, .bool false], .bool true]) (by simp [results, Try.results15, go_sem, q0, q1, q2, q3, q4, q5, q6, q7, q8]) rfl ?_
  exact ⟨rfl, (unhide HK0).below (Nat.le_refl _) (fun _ e => e.elim)⟩
end Go.Proofs.Ytdemfejladepjaa
