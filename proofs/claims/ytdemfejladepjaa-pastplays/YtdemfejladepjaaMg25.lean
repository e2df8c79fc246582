/- Layer 17: galleylaw17.step of a past of states int. Written by wip/tools/pve.py. -/
import Derived.Test.YtdemfejladepjaaMg24

namespace Go.Proofs.Ytdemfejladepjaa
open Go.ChangeShapes Go.WideShapes Go.ChangeAt Go.RowKit
attribute [local go_sem] Oper.semAt_some

theorem stepEndI {X Wc W2 w3 WF : World} {F G D D1 : Nat → Prop} {g : Nat} {c1 : Array Value} {p : Pa Int} (hF : ∀ i, F i → i < X.heap.size) (hD : ∀ i, D i → i < X.heap.size) (dj : ∀ i, D i → ¬ F i) (h2 : KpF (fun _ => False) X W2) (hXc : X.heap.size ≤ Wc.heap.size) (hc2 : Wc.heap.size ≤ W2.heap.size)
    (d1 : IsD W2 D1 c1 p) (n1 : ∀ i, D1 i → D i ∨ Wc.heap.size ≤ i) (g3 : Gr F W2 G w3) (i3 : PsI w3 G g p) (kf : KpF (fun i => X.heap.size ≤ i ∧ i < Wc.heap.size) w3 WF) :
    IsD WF D1 c1 p ∧ PsI WF G g p ∧ (∀ i, D1 i → ¬ G i) ∧ Gr F X G WF ∧ ∀ i, D1 i → D i ∨ X.heap.size ≤ i := by
  have a1 : ∀ i, D1 i → ¬ F i := fun i hi hf => by
    rcases n1 i hi with e | e
    · exact dj i e hf
    · have := hF i hf; omega
  have a2 : ∀ i, D1 i → ¬ G i := fun i hi => g3.out (d1.lt i hi) (a1 i hi)
  have a3 : ∀ i, D1 i → ¬ (X.heap.size ≤ i ∧ i < Wc.heap.size) := fun i hi hl => by
    rcases n1 i hi with e | e
    · have := hD i e; omega
    · omega
  have a4 : ∀ i, G i → ¬ (X.heap.size ≤ i ∧ i < Wc.heap.size) := fun i hi hl => by
    rcases g3.new i hi with e | e
    · have := hF i e; omega
    · omega
  have gX : Gr F X F W2 := ⟨h2.mono (fun _ _ e => e.elim), fun _ e => .inl e⟩
  refine ⟨(d1.kpf g3.kp a1).kpf kf a3, i3.kpf kf a4, a2, ⟨(gX.trans g3).kp.trans kf (fun i hi e => by omega), (gX.trans g3).new⟩, fun i hi => ?_⟩
  rcases n1 i hi with e | e
  · exact .inl e
  · exact .inr (by omega)
set_option maxRecDepth 100000 in
set_option maxHeartbeats 4000000 in
theorem of1_at (n : Int) (X : World) : Calls Try.prog 6 #[.int .i64 n] X fun y Y => y = .returned (.int .i64 n) ∧ Y = X := by
  go_enter Try.func6, Try.ntmps6
  go_wp2_with fail
  exact bodyPost_ret (results_tmp rfl _ _ _) rfl ⟨rfl, rfl⟩
set_option maxRecDepth 100000 in
set_option maxHeartbeats 4000000 in
theorem step1I_at (X : World) (F : Nat → Prop) (g : Nat) (p : Pa Int) (D : Nat → Prop) (c : Array Value) (hP : PsI X F g p) (hD : IsD X D c p) (hok : OkP p) (hdj : ∀ i, D i → ¬ F i) (n : Int) (w : ByteArray) (hw : w.size ≤ 281474976710656) :
    Calls Try.prog 15 #[.pointer (some ⟨g, 0, none⟩), .agg c, .agg #[.int .i64 1, .int .i64 n, .string w], .func (.func 6) #[] #[]] X fun y Y => ∃ c' D' G, y = .returned (.tuple #[.agg c', .bool true]) ∧ IsD Y D' c' (doP p n w) ∧ PsI Y G g (doP p n w) ∧ (∀ i, D' i → ¬ G i) ∧ Gr F X G Y ∧ ∀ i, D' i → D i ∨ X.heap.size ≤ i := by
  have HP := hide hP
  have HD := hide hD
  have HOK := hide hok
  have HDJ := hide hdj
  have HW := hide hw
  have HFL := hide hP.lt
  obtain ⟨bA, bN, bC, aA, aN, aC, oS, w0, f0, d0, rfl⟩ := hD.form
  clear hP hD hok hdj hw
  go_enter Try.func15, Try.ntmps15
  go_upto_region 1 with fail
  obtain ⟨W0, hE, HA, HO, HR, HK0⟩ := new3B (fun _ => False) X #[.bool false, .int .i64 p.s, .int .i64 p.m, .slice bA bN bC, .slice aA aN aC, .bool oS, .string w0, .int .i64 f0, .bool d0] 44 #[.int .i64 1, .int .i64 n, .string w] 48 #[.bool false, .int .i64 0, .int .i64 0, .slice none 0 0, .slice none 0 0, .bool false, .string ⟨#[]⟩, .int .i64 0, .bool false] 44
  rw [hE]
  clear hE
  have hltc : X.heap.size + 1 + 1 < W0.heap.size := (unhide HR).lt
  have HC := hide (RDoA_at W0 D _ p ((unhide HD).kpf (unhide HK0) (fun _ _ e => e)) (unhide HOK) n w)
  obtain ⟨c_A0, c_A1, c_A2, c_A3, c_A4, c_A5, c_A6, c_A7, c_A8⟩ := (unhide HA).cells9
  obtain ⟨c_O0, c_O1, c_O2⟩ := (unhide HO).cells3
  go_wp2_with fail
  refine (unhide HC).mono ?_
  rintro y w1 ⟨c1, D1, rfl, i1, n1, x1⟩
  dsimp only
  obtain ⟨bA1, bN1, bC1, aA1, aN1, aC1, oS1, w01, f01, d01, rfl⟩ := i1.form
  have HI1 := hide i1
  have HN1 := hide n1
  clear HC i1 n1
  clear c_A0 c_A1 c_A2 c_A3 c_A4 c_A5 c_A6 c_A7 c_A8 c_O0 c_O1 c_O2
  have hcw : W0.heap.size ≤ w1.heap.size := x1.size
  have HX1 := hide x1
  have NA := hide ((unhide HA).kpf (KpF.of (F := fun _ => False) (unhide HX1)) (fun e => e))
  have NO := hide ((unhide HO).kpf (KpF.of (F := fun _ => False) (unhide HX1)) (fun e => e))
  have NR := hide ((unhide HR).kpf (KpF.of (F := fun _ => False) (unhide HX1)) (fun e => e))
  have NHK0 := hide ((unhide HK0).bel (unhide HX1))
  clear HA HO HR HK0
  have HA := NA
  have HO := NO
  have HR := NR
  have HK0 := NHK0
  clear NA NO NR NHK0
  clear x1
  have HKI := hide (KpF.refl (fun _ => False) w1)
  have hgeT : X.heap.size + 1 + 1 < w1.heap.size := (unhide HR).lt
  have NA := hide ((unhide HA).alloc (.cells #[.bool false, .int .i64 (doP p n w).s, .int .i64 (doP p n w).m, .slice bA1 bN1 bC1, .slice aA1 aN1 aC1, .bool oS1, .string w01, .int .i64 f01, .bool d01] 44))
  have NO := hide ((unhide HO).alloc (.cells #[.bool false, .int .i64 (doP p n w).s, .int .i64 (doP p n w).m, .slice bA1 bN1 bC1, .slice aA1 aN1 aC1, .bool oS1, .string w01, .int .i64 f01, .bool d01] 44))
  have NR := hide ((unhide HR).alloc (.cells #[.bool false, .int .i64 (doP p n w).s, .int .i64 (doP p n w).m, .slice bA1 bN1 bC1, .slice aA1 aN1 aC1, .bool oS1, .string w01, .int .i64 f01, .bool d01] 44))
  have NT := hide (Cls.new w1 44 #[.bool false, .int .i64 (doP p n w).s, .int .i64 (doP p n w).m, .slice bA1 bN1 bC1, .slice aA1 aN1 aC1, .bool oS1, .string w01, .int .i64 f01, .bool d01])
  have NHK0 := hide ((unhide HK0).al (.cells #[.bool false, .int .i64 (doP p n w).s, .int .i64 (doP p n w).m, .slice bA1 bN1 bC1, .slice aA1 aN1 aC1, .bool oS1, .string w01, .int .i64 f01, .bool d01] 44))
  have NHKI := hide ((unhide HKI).al (.cells #[.bool false, .int .i64 (doP p n w).s, .int .i64 (doP p n w).m, .slice bA1 bN1 bC1, .slice aA1 aN1 aC1, .bool oS1, .string w01, .int .i64 f01, .bool d01] 44))
  clear HA HO HR HK0 HKI
  go_upto_region 4 with fail
  generalize (w1.alloc (.cells #[.bool false, .int .i64 (doP p n w).s, .int .i64 (doP p n w).m, .slice bA1 bN1 bC1, .slice aA1 aN1 aC1, .bool oS1, .string w01, .int .i64 f01, .bool d01] 44)) = W1 at *
  have HA := NA
  have HO := NO
  have HR := NR
  have HT := NT
  have HK0 := NHK0
  have HKI := NHKI
  clear NA NO NR NT NHK0 NHKI
  have NA := hide ((unhide HA).kpf (kpf_drew W1) (fun e => e))
  have NO := hide ((unhide HO).kpf (kpf_drew W1) (fun e => e))
  have NR := hide ((unhide HR).kpf (kpf_drew W1) (fun e => e))
  have NT := hide ((unhide HT).kpf (kpf_drew W1) (fun e => e))
  have NHK0 := hide ((unhide HK0).trans (kpf_drew W1) (fun _ _ e => e.elim))
  have NHKI := hide ((unhide HKI).trans (kpf_drew W1) (fun _ _ e => e.elim))
  clear HA HO HR HT HK0 HKI
  have HA := NA
  have HO := NO
  have HR := NR
  have HT := NT
  have HK0 := NHK0
  have HKI := NHKI
  clear NA NO NR NT NHK0 NHKI
  have HS0 : Hid (S9 W1.drew (w1.heap.size) (.bool false) (.int .i64 (doP p n w).s) (.int .i64 (doP p n w).m) (.slice bA1 bN1 bC1) (.slice aA1 aN1 aC1) (.bool oS1) (.string w01) (.int .i64 f01) (.bool d01) ∧ W1.drew.cell? ⟨X.heap.size + 1, 1, none⟩ = some (.int .i64 n) ∧ W1.drew.cell? ⟨X.heap.size + 1, 2, none⟩ = some (.string w)) := hide ⟨(unhide HT).cells9, ((unhide HO).cell 1).trans rfl, ((unhide HO).cell 2).trans rfl⟩
  refine regionL (S := fun z => S9 z (w1.heap.size) (.bool false) (.int .i64 (doP p n w).s) (.int .i64 (doP p n w).m) (.slice bA1 bN1 bC1) (.slice aA1 aN1 aC1) (.bool oS1) (.string w01) (.int .i64 f01) (.bool d01) ∧ z.cell? ⟨X.heap.size + 1, 1, none⟩ = some (.int .i64 n) ∧ z.cell? ⟨X.heap.size + 1, 2, none⟩ = some (.string w)) (fun _ => false) (by kernel_rfl) ?_
  refine anyL_take (i := 0) (v := ?vq0) rfl (by kernel_rfl) (by kernel_rfl) (by kernel_rfl) (by kernel_rfl) (fun _ _ _ h => h) (Or.inl ⟨by rfl, ?hq0⟩) (unhide HS0) ?_
  case hq0 => (intro w hSw; (try dsimp only at hSw); go_simp) <;> with_reducible rfl
  simp only [Act.put, List.getElem_toArray, List.getElem_cons_zero, List.setIfInBounds_toArray, List.set_cons_zero, List.set_cons_succ]
  refine anyL_take (i := 1) (v := ?vq1) rfl (by kernel_rfl) (by kernel_rfl) (by kernel_rfl) (by kernel_rfl) (fun _ _ _ h => h) (Or.inl ⟨by rfl, ?hq1⟩) (unhide HS0) ?_
  case hq1 => (intro w hSw; (try dsimp only at hSw); go_simp) <;> with_reducible rfl
  simp only [Act.put, List.getElem_toArray, List.getElem_cons_zero, List.getElem_cons_succ, List.setIfInBounds_toArray, List.set_cons_zero, List.set_cons_succ]
  refine anyL_take (i := 2) (v := ?vq2) rfl (by kernel_rfl) (by kernel_rfl) (by kernel_rfl) (by kernel_rfl) (fun _ _ _ h => h) (Or.inl ⟨by rfl, ?hq2⟩) (unhide HS0) ?_
  case hq2 => (intro w hSw; (try dsimp only at hSw); go_simp) <;> with_reducible rfl
  simp only [Act.put, List.getElem_toArray, List.getElem_cons_zero, List.getElem_cons_succ, List.setIfInBounds_toArray, List.set_cons_zero, List.set_cons_succ]
  refine anyL_take (i := 3) (v := ?vq3) rfl (by kernel_rfl) (by kernel_rfl) (by kernel_rfl) (by kernel_rfl) (fun _ _ _ h => h) (Or.inl ⟨by rfl, ?hq3⟩) (unhide HS0) ?_
  case hq3 => (intro w hSw; (try dsimp only at hSw); go_simp) <;> with_reducible rfl
  simp only [Act.put, List.getElem_toArray, List.getElem_cons_zero, List.getElem_cons_succ, List.setIfInBounds_toArray, List.set_cons_zero, List.set_cons_succ]
  refine anyL_take (i := 4) (v := ?vq4) rfl (by kernel_rfl) (by kernel_rfl) (by kernel_rfl) (by kernel_rfl) (fun _ _ _ h => h) (Or.inl ⟨by rfl, ?hq4⟩) (unhide HS0) ?_
  case hq4 => (intro w hSw; (try dsimp only at hSw); go_simp) <;> with_reducible rfl
  simp only [Act.put, List.getElem_toArray, List.getElem_cons_zero, List.getElem_cons_succ, List.setIfInBounds_toArray, List.set_cons_zero, List.set_cons_succ]
  refine anyL_take (i := 6) (v := ?vq5) rfl (by kernel_rfl) (by kernel_rfl) (by kernel_rfl) (by kernel_rfl) (fun _ _ _ h => h) (Or.inl ⟨by rfl, ?hq5⟩) (unhide HS0) ?_
  case hq5 => (intro w hSw; (try dsimp only at hSw); go_simp) <;> with_reducible rfl
  simp only [Act.put, List.getElem_toArray, List.getElem_cons_zero, List.getElem_cons_succ, List.setIfInBounds_toArray, List.set_cons_zero, List.set_cons_succ]
  refine anyL_take (i := 7) (v := ?vq6) rfl (by kernel_rfl) (by kernel_rfl) (by kernel_rfl) (by kernel_rfl) (fun _ _ _ h => h) (Or.inl ⟨by rfl, ?hq6⟩) (unhide HS0) ?_
  case hq6 => (intro w hSw; (try dsimp only at hSw); go_simp) <;> with_reducible rfl
  simp only [Act.put, List.getElem_toArray, List.getElem_cons_zero, List.getElem_cons_succ, List.setIfInBounds_toArray, List.set_cons_zero, List.set_cons_succ]
  refine anyL_take (i := 9) (v := ?vq7) rfl (by kernel_rfl) (by kernel_rfl) (by kernel_rfl) (by kernel_rfl) (fun _ _ _ h => h) (Or.inl ⟨by rfl, ?hq7⟩) (unhide HS0) ?_
  case hq7 => (intro w hSw; (try dsimp only at hSw); go_simp) <;> with_reducible rfl
  simp only [Act.put, List.getElem_toArray, List.getElem_cons_zero, List.getElem_cons_succ, List.setIfInBounds_toArray, List.set_cons_zero, List.set_cons_succ]
  refine anyL_ready (rs := [5]) (by kernel_rfl) (by simp) ?_
  refine AllL.cons rfl (fun K hK => ?_) AllL.nil
  go_simp
  refine (of1_at n _).mono ?_
  rintro y _ ⟨rfl, rfl⟩
  dsimp only
  refine unhide hK _ _ (fun _ => unhide HS0) ?_
  clear hK K
  refine anyL_ready (rs := [8]) (by kernel_rfl) (by simp) ?_
  refine AllL.cons rfl (fun K hK => ?_) AllL.nil
  go_simp
  have HI2 := hide ((unhide HI1).kpf (unhide HKI) (fun _ _ e => e))
  have HPA := hide ((unhide HP).kpf (unhide HK0) (fun _ _ e => e))
  have hc2 : W0.heap.size ≤ W1.drew.heap.size := Nat.le_trans hcw (unhide HKI).size
  refine (DoA_at _ F g p (unhide HPA) (unhide HOK) n w (unhide HW)).mono ?_
  rintro y w3 ⟨rfl, G, i3, g3⟩
  dsimp only
  have HI3 := hide i3
  have HG3 := hide g3
  have HX2 := HK0
  have NA := hide ((unhide HA).kpf g3.kp (fun e => by have := unhide HFL _ e; omega))
  have NO := hide ((unhide HO).kpf g3.kp (fun e => by have := unhide HFL _ e; omega))
  have NR := hide ((unhide HR).kpf g3.kp (fun e => by have := unhide HFL _ e; omega))
  have NT := hide ((unhide HT).kpf g3.kp (fun e => by have := unhide HFL _ e; omega))
  clear HA HO HR HT HK0 HKI
  have HA := NA
  have HO := NO
  have HR := NR
  have HT := NT
  clear NA NO NR NT
  have HK1 := hide (KpF.refl (fun i => X.heap.size ≤ i ∧ i < W0.heap.size) w3)
  clear i3 g3
  have HS3 : Hid (S9 w3 (w1.heap.size) (.bool false) (.int .i64 (doP p n w).s) (.int .i64 (doP p n w).m) (.slice bA1 bN1 bC1) (.slice aA1 aN1 aC1) (.bool oS1) (.string w01) (.int .i64 f01) (.bool d01) ∧ w3.cell? ⟨X.heap.size + 1, 1, none⟩ = some (.int .i64 n) ∧ w3.cell? ⟨X.heap.size + 1, 2, none⟩ = some (.string w)) := hide ⟨(unhide HT).cells9, ((unhide HO).cell 1).trans rfl, ((unhide HO).cell 2).trans rfl⟩
  refine unhide hK _ _ (fun _ => unhide HS3) ?_
  clear hK K
  refine anyL_take (i := 10) (v := ?vq8) rfl (by kernel_rfl) (by kernel_rfl) (by kernel_rfl) (by kernel_rfl) (fun _ _ _ h => h) (Or.inl ⟨by rfl, ?hq8⟩) (unhide HS3) ?_
  case hq8 => (intro w hSw; (try dsimp only at hSw); go_simp) <;> with_reducible rfl
  simp only [Act.put, List.getElem_toArray, List.getElem_cons_zero, List.getElem_cons_succ, List.setIfInBounds_toArray, List.set_cons_zero, List.set_cons_succ]
  refine anyL_ready (rs := [11]) (by kernel_rfl) (by simp) ?_
  refine AllL.cons rfl (fun K hK => ?_) AllL.nil
  obtain ⟨r_R0, r_R1, r_R2, r_R3, r_R4, r_R5, r_R6, r_R7, r_R8⟩ := (unhide HR).cells9
  obtain ⟨zr_R0, zr_R1, zr_R2, zr_R3, zr_R4, zr_R5, zr_R6, zr_R7, zr_R8⟩ := (unhide HR).froz9
  go_simp
  obtain ⟨W2, hE, NR⟩ := sto9 (unhide HR) (.bool false) (.int .i64 (doP p n w).s) (.int .i64 (doP p n w).m) (.slice bA1 bN1 bC1) (.slice aA1 aN1 aC1) (.bool oS1) (.string w01) (.int .i64 f01) (.bool d01)
  rw [hE]
  have NA : Hid (Cls W2 (X.heap.size) 44 _) := hide (by rw [← hE]; exact Cls.oth9 (unhide HA) (by omega))
  have NO : Hid (Cls W2 (X.heap.size + 1) 48 _) := hide (by rw [← hE]; exact Cls.oth9 (unhide HO) (by omega))
  have NT : Hid (Cls W2 (w1.heap.size) 44 _) := hide (by rw [← hE]; exact Cls.oth9 (unhide HT) (by omega))
  have NHK1 : Hid (KpF _ w3 W2) := hide (by rw [← hE]; exact KpF.upd9 (unhide HK1) (.inl ⟨by first | omega | (dsimp only; omega), by first | omega | (dsimp only; omega)⟩))
  clear hE HA HO HR HT HK1
  have HA := NA
  have HO := NO
  have HR := NR
  have HT := NT
  have HK1 := NHK1
  clear NA NO NR NT NHK1
  have HS4 : Hid (S9 W2 (w1.heap.size) (.bool false) (.int .i64 (doP p n w).s) (.int .i64 (doP p n w).m) (.slice bA1 bN1 bC1) (.slice aA1 aN1 aC1) (.bool oS1) (.string w01) (.int .i64 f01) (.bool d01) ∧ W2.cell? ⟨X.heap.size + 1, 1, none⟩ = some (.int .i64 n) ∧ W2.cell? ⟨X.heap.size + 1, 2, none⟩ = some (.string w)) := hide ⟨(unhide HT).cells9, ((unhide HO).cell 1).trans rfl, ((unhide HO).cell 2).trans rfl⟩
  refine unhide hK _ _ (fun _ => unhide HS4) ?_
  clear hK K
  refine anyL_take (i := 12) (v := ?vq9) rfl (by kernel_rfl) (by kernel_rfl) (by kernel_rfl) (by kernel_rfl) (fun _ _ _ h => h) (Or.inl ⟨by rfl, ?hq9⟩) (unhide HS4) ?_
  case hq9 => (intro w hSw; (try dsimp only at hSw); go_simp) <;> with_reducible rfl
  simp only [Act.put, List.getElem_toArray, List.getElem_cons_zero, List.getElem_cons_succ, List.setIfInBounds_toArray, List.set_cons_zero, List.set_cons_succ]
  refine anyL_done (by kernel_rfl) ?_ _
  obtain ⟨q0, q1, q2, q3, q4, q5, q6, q7, q8⟩ := (unhide HR).cells9
  go_wp2_with fail
  refine bodyPost_ret (v := .tuple #[.agg #[.bool false, .int .i64 (doP p n w).s, .int .i64 (doP p n w).m, .slice bA1 bN1 bC1, .slice aA1 aN1 aC1, .bool oS1, .string w01, .int .i64 f01, .bool d01], .bool true]) (by simp [results, Try.results15, go_sem, q0, q1, q2, q3, q4, q5, q6, q7, q8]) rfl ?_
  obtain ⟨z1, z2, z3, z4, z5⟩ := stepEndI (unhide HFL) (unhide HD).lt (unhide HDJ) (unhide HX2) (by omega) hc2 (unhide HI2) (unhide HN1) (unhide HG3) (unhide HI3) (unhide HK1)
  exact ⟨_, D1, G, rfl, z1, z2, z3, z4, z5⟩
set_option maxRecDepth 100000 in
set_option maxHeartbeats 4000000 in
theorem step1BI_at (X : World) (n : Int) (w : ByteArray) :
    Calls Try.prog 15 #[.pointer none, .agg cBad, .agg #[.int .i64 1, .int .i64 n, .string w], .func (.func 6) #[] #[]] X fun y Y => y = .returned (.tuple #[.agg cBad, .bool true]) ∧ Below X.heap.size X Y := by
  unfold cBad
  go_enter Try.func15, Try.ntmps15
  go_upto_region 1 with fail
  obtain ⟨W0, hE, HA, HO, HR, HK0⟩ := new3B (fun _ => False) X #[.bool true, .int .i64 0, .int .i64 0, .slice none 0 0, .slice none 0 0, .bool false, .string ⟨#[]⟩, .int .i64 0, .bool false] 44 #[.int .i64 1, .int .i64 n, .string w] 48 #[.bool false, .int .i64 0, .int .i64 0, .slice none 0 0, .slice none 0 0, .bool false, .string ⟨#[]⟩, .int .i64 0, .bool false] 44
  rw [hE]
  clear hE
  have hltc : X.heap.size + 1 + 1 < W0.heap.size := (unhide HR).lt
  have HC := hide (RDoB_at W0 n w)
  unfold cBad at HC
  obtain ⟨c_A0, c_A1, c_A2, c_A3, c_A4, c_A5, c_A6, c_A7, c_A8⟩ := (unhide HA).cells9
  obtain ⟨c_O0, c_O1, c_O2⟩ := (unhide HO).cells3
  go_wp2_with fail
  refine (unhide HC).mono ?_
  rintro y w1 ⟨rfl, x1⟩
  dsimp only
  clear HC
  clear c_A0 c_A1 c_A2 c_A3 c_A4 c_A5 c_A6 c_A7 c_A8 c_O0 c_O1 c_O2
  have hcw : W0.heap.size ≤ w1.heap.size := x1.size
  have HX1 := hide x1
  have NA := hide ((unhide HA).kpf (KpF.of (F := fun _ => False) (unhide HX1)) (fun e => e))
  have NO := hide ((unhide HO).kpf (KpF.of (F := fun _ => False) (unhide HX1)) (fun e => e))
  have NR := hide ((unhide HR).kpf (KpF.of (F := fun _ => False) (unhide HX1)) (fun e => e))
  have NHK0 := hide ((unhide HK0).bel (unhide HX1))
  clear HA HO HR HK0
  have HA := NA
  have HO := NO
  have HR := NR
  have HK0 := NHK0
  clear NA NO NR NHK0
  clear x1
  have hgeT : X.heap.size + 1 + 1 < w1.heap.size := (unhide HR).lt
  have NA := hide ((unhide HA).alloc (.cells #[.bool true, .int .i64 0, .int .i64 0, .slice none 0 0, .slice none 0 0, .bool false, .string ⟨#[]⟩, .int .i64 0, .bool false] 44))
  have NO := hide ((unhide HO).alloc (.cells #[.bool true, .int .i64 0, .int .i64 0, .slice none 0 0, .slice none 0 0, .bool false, .string ⟨#[]⟩, .int .i64 0, .bool false] 44))
  have NR := hide ((unhide HR).alloc (.cells #[.bool true, .int .i64 0, .int .i64 0, .slice none 0 0, .slice none 0 0, .bool false, .string ⟨#[]⟩, .int .i64 0, .bool false] 44))
  have NT := hide (Cls.new w1 44 #[.bool true, .int .i64 0, .int .i64 0, .slice none 0 0, .slice none 0 0, .bool false, .string ⟨#[]⟩, .int .i64 0, .bool false])
  have NHK0 := hide ((unhide HK0).al (.cells #[.bool true, .int .i64 0, .int .i64 0, .slice none 0 0, .slice none 0 0, .bool false, .string ⟨#[]⟩, .int .i64 0, .bool false] 44))
  clear HA HO HR HK0
  go_upto_region 4 with fail
  generalize (w1.alloc (.cells #[.bool true, .int .i64 0, .int .i64 0, .slice none 0 0, .slice none 0 0, .bool false, .string ⟨#[]⟩, .int .i64 0, .bool false] 44)) = W1 at *
  have HA := NA
  have HO := NO
  have HR := NR
  have HT := NT
  have HK0 := NHK0
  clear NA NO NR NT NHK0
  have NA := hide ((unhide HA).kpf (kpf_drew W1) (fun e => e))
  have NO := hide ((unhide HO).kpf (kpf_drew W1) (fun e => e))
  have NR := hide ((unhide HR).kpf (kpf_drew W1) (fun e => e))
  have NT := hide ((unhide HT).kpf (kpf_drew W1) (fun e => e))
  have NHK0 := hide ((unhide HK0).trans (kpf_drew W1) (fun _ _ e => e.elim))
  clear HA HO HR HT HK0
  have HA := NA
  have HO := NO
  have HR := NR
  have HT := NT
  have HK0 := NHK0
  clear NA NO NR NT NHK0
  have HS0 : Hid (S9 W1.drew (w1.heap.size) (.bool true) (.int .i64 0) (.int .i64 0) (.slice none 0 0) (.slice none 0 0) (.bool false) (.string ⟨#[]⟩) (.int .i64 0) (.bool false) ∧ W1.drew.cell? ⟨X.heap.size + 1, 1, none⟩ = some (.int .i64 n) ∧ W1.drew.cell? ⟨X.heap.size + 1, 2, none⟩ = some (.string w)) := hide ⟨(unhide HT).cells9, ((unhide HO).cell 1).trans rfl, ((unhide HO).cell 2).trans rfl⟩
  refine regionL (S := fun z => S9 z (w1.heap.size) (.bool true) (.int .i64 0) (.int .i64 0) (.slice none 0 0) (.slice none 0 0) (.bool false) (.string ⟨#[]⟩) (.int .i64 0) (.bool false) ∧ z.cell? ⟨X.heap.size + 1, 1, none⟩ = some (.int .i64 n) ∧ z.cell? ⟨X.heap.size + 1, 2, none⟩ = some (.string w)) (fun _ => false) (by kernel_rfl) ?_
  refine anyL_take (i := 0) (v := ?vq10) rfl (by kernel_rfl) (by kernel_rfl) (by kernel_rfl) (by kernel_rfl) (fun _ _ _ h => h) (Or.inl ⟨by rfl, ?hq10⟩) (unhide HS0) ?_
  case hq10 => (intro w hSw; (try dsimp only at hSw); go_simp) <;> with_reducible rfl
  simp only [Act.put, List.getElem_toArray, List.getElem_cons_zero, List.setIfInBounds_toArray, List.set_cons_zero, List.set_cons_succ]
  refine anyL_take (i := 1) (v := ?vq11) rfl (by kernel_rfl) (by kernel_rfl) (by kernel_rfl) (by kernel_rfl) (fun _ _ _ h => h) (Or.inl ⟨by rfl, ?hq11⟩) (unhide HS0) ?_
  case hq11 => (intro w hSw; (try dsimp only at hSw); go_simp) <;> with_reducible rfl
  simp only [Act.put, List.getElem_toArray, List.getElem_cons_zero, List.getElem_cons_succ, List.setIfInBounds_toArray, List.set_cons_zero, List.set_cons_succ]
  refine anyL_take (i := 2) (v := ?vq12) rfl (by kernel_rfl) (by kernel_rfl) (by kernel_rfl) (by kernel_rfl) (fun _ _ _ h => h) (Or.inl ⟨by rfl, ?hq12⟩) (unhide HS0) ?_
  case hq12 => (intro w hSw; (try dsimp only at hSw); go_simp) <;> with_reducible rfl
  simp only [Act.put, List.getElem_toArray, List.getElem_cons_zero, List.getElem_cons_succ, List.setIfInBounds_toArray, List.set_cons_zero, List.set_cons_succ]
  refine anyL_take (i := 3) (v := ?vq13) rfl (by kernel_rfl) (by kernel_rfl) (by kernel_rfl) (by kernel_rfl) (fun _ _ _ h => h) (Or.inl ⟨by rfl, ?hq13⟩) (unhide HS0) ?_
  case hq13 => (intro w hSw; (try dsimp only at hSw); go_simp) <;> with_reducible rfl
  simp only [Act.put, List.getElem_toArray, List.getElem_cons_zero, List.getElem_cons_succ, List.setIfInBounds_toArray, List.set_cons_zero, List.set_cons_succ]
  refine anyL_take (i := 4) (v := ?vq14) rfl (by kernel_rfl) (by kernel_rfl) (by kernel_rfl) (by kernel_rfl) (fun _ _ _ h => h) (Or.inl ⟨by rfl, ?hq14⟩) (unhide HS0) ?_
  case hq14 => (intro w hSw; (try dsimp only at hSw); go_simp) <;> with_reducible rfl
  simp only [Act.put, List.getElem_toArray, List.getElem_cons_zero, List.getElem_cons_succ, List.setIfInBounds_toArray, List.set_cons_zero, List.set_cons_succ]
  refine anyL_take (i := 6) (v := ?vq15) rfl (by kernel_rfl) (by kernel_rfl) (by kernel_rfl) (by kernel_rfl) (fun _ _ _ h => h) (Or.inl ⟨by rfl, ?hq15⟩) (unhide HS0) ?_
  case hq15 => (intro w hSw; (try dsimp only at hSw); go_simp) <;> with_reducible rfl
  simp only [Act.put, List.getElem_toArray, List.getElem_cons_zero, List.getElem_cons_succ, List.setIfInBounds_toArray, List.set_cons_zero, List.set_cons_succ]
  refine anyL_take (i := 7) (v := ?vq16) rfl (by kernel_rfl) (by kernel_rfl) (by kernel_rfl) (by kernel_rfl) (fun _ _ _ h => h) (Or.inl ⟨by rfl, ?hq16⟩) (unhide HS0) ?_
  case hq16 => (intro w hSw; (try dsimp only at hSw); go_simp) <;> with_reducible rfl
  simp only [Act.put, List.getElem_toArray, List.getElem_cons_zero, List.getElem_cons_succ, List.setIfInBounds_toArray, List.set_cons_zero, List.set_cons_succ]
  refine anyL_take (i := 9) (v := ?vq17) rfl (by kernel_rfl) (by kernel_rfl) (by kernel_rfl) (by kernel_rfl) (fun _ _ _ h => h) (Or.inl ⟨by rfl, ?hq17⟩) (unhide HS0) ?_
  case hq17 => (intro w hSw; (try dsimp only at hSw); go_simp) <;> with_reducible rfl
  simp only [Act.put, List.getElem_toArray, List.getElem_cons_zero, List.getElem_cons_succ, List.setIfInBounds_toArray, List.set_cons_zero, List.set_cons_succ]
  refine anyL_ready (rs := [5]) (by kernel_rfl) (by simp) ?_
  refine AllL.cons rfl (fun K hK => ?_) AllL.nil
  go_simp
  refine (of1_at n _).mono ?_
  rintro y _ ⟨rfl, rfl⟩
  dsimp only
  refine unhide hK _ _ (fun _ => unhide HS0) ?_
  clear hK K
  refine anyL_ready (rs := [8]) (by kernel_rfl) (by simp) ?_
  refine AllL.cons rfl (fun K hK => ?_) AllL.nil
  go_simp
  refine (DoNI_at _ n w).mono ?_
  rintro y _ ⟨rfl, rfl⟩
  dsimp only
  generalize W1.drew = w3 at *
  have HS3 : Hid (S9 w3 (w1.heap.size) (.bool true) (.int .i64 0) (.int .i64 0) (.slice none 0 0) (.slice none 0 0) (.bool false) (.string ⟨#[]⟩) (.int .i64 0) (.bool false) ∧ w3.cell? ⟨X.heap.size + 1, 1, none⟩ = some (.int .i64 n) ∧ w3.cell? ⟨X.heap.size + 1, 2, none⟩ = some (.string w)) := hide ⟨(unhide HT).cells9, ((unhide HO).cell 1).trans rfl, ((unhide HO).cell 2).trans rfl⟩
  refine unhide hK _ _ (fun _ => unhide HS3) ?_
  clear hK K
  refine anyL_take (i := 10) (v := ?vq18) rfl (by kernel_rfl) (by kernel_rfl) (by kernel_rfl) (by kernel_rfl) (fun _ _ _ h => h) (Or.inl ⟨by rfl, ?hq18⟩) (unhide HS3) ?_
  case hq18 => (intro w hSw; (try dsimp only at hSw); go_simp) <;> with_reducible rfl
  simp only [Act.put, List.getElem_toArray, List.getElem_cons_zero, List.getElem_cons_succ, List.setIfInBounds_toArray, List.set_cons_zero, List.set_cons_succ]
  refine anyL_ready (rs := [11]) (by kernel_rfl) (by simp) ?_
  refine AllL.cons rfl (fun K hK => ?_) AllL.nil
  obtain ⟨r_R0, r_R1, r_R2, r_R3, r_R4, r_R5, r_R6, r_R7, r_R8⟩ := (unhide HR).cells9
  obtain ⟨zr_R0, zr_R1, zr_R2, zr_R3, zr_R4, zr_R5, zr_R6, zr_R7, zr_R8⟩ := (unhide HR).froz9
  go_simp
  obtain ⟨W2, hE, NR⟩ := sto9 (unhide HR) (.bool true) (.int .i64 0) (.int .i64 0) (.slice none 0 0) (.slice none 0 0) (.bool false) (.string ⟨#[]⟩) (.int .i64 0) (.bool false)
  rw [hE]
  have NA : Hid (Cls W2 (X.heap.size) 44 _) := hide (by rw [← hE]; exact Cls.oth9 (unhide HA) (by omega))
  have NO : Hid (Cls W2 (X.heap.size + 1) 48 _) := hide (by rw [← hE]; exact Cls.oth9 (unhide HO) (by omega))
  have NT : Hid (Cls W2 (w1.heap.size) 44 _) := hide (by rw [← hE]; exact Cls.oth9 (unhide HT) (by omega))
  have NHK0 : Hid (KpF _ X W2) := hide (by rw [← hE]; exact KpF.upd9 (unhide HK0) (.inr (by first | omega | (dsimp only; omega))))
  clear hE HA HO HR HT HK0
  have HA := NA
  have HO := NO
  have HR := NR
  have HT := NT
  have HK0 := NHK0
  clear NA NO NR NT NHK0
  have HS4 : Hid (S9 W2 (w1.heap.size) (.bool true) (.int .i64 0) (.int .i64 0) (.slice none 0 0) (.slice none 0 0) (.bool false) (.string ⟨#[]⟩) (.int .i64 0) (.bool false) ∧ W2.cell? ⟨X.heap.size + 1, 1, none⟩ = some (.int .i64 n) ∧ W2.cell? ⟨X.heap.size + 1, 2, none⟩ = some (.string w)) := hide ⟨(unhide HT).cells9, ((unhide HO).cell 1).trans rfl, ((unhide HO).cell 2).trans rfl⟩
  refine unhide hK _ _ (fun _ => unhide HS4) ?_
  clear hK K
  refine anyL_take (i := 12) (v := ?vq19) rfl (by kernel_rfl) (by kernel_rfl) (by kernel_rfl) (by kernel_rfl) (fun _ _ _ h => h) (Or.inl ⟨by rfl, ?hq19⟩) (unhide HS4) ?_
  case hq19 => (intro w hSw; (try dsimp only at hSw); go_simp) <;> with_reducible rfl
  simp only [Act.put, List.getElem_toArray, List.getElem_cons_zero, List.getElem_cons_succ, List.setIfInBounds_toArray, List.set_cons_zero, List.set_cons_succ]
  refine anyL_done (by kernel_rfl) ?_ _
  obtain ⟨q0, q1, q2, q3, q4, q5, q6, q7, q8⟩ := (unhide HR).cells9
  go_wp2_with fail
  refine bodyPost_ret (v := .tuple #[.agg #[.bool true, .int .i64 0, .int .i64 0, .slice none 0 0, .slice none 0 0, .bool false, .string ⟨#[]⟩, .int .i64 0, .bool false], .bool true]) (by simp [results, Try.results15, go_sem, q0, q1, q2, q3, q4, q5, q6, q7, q8]) rfl ?_
  exact ⟨rfl, (unhide HK0).below (Nat.le_refl _) (fun _ e => e.elim)⟩
set_option maxRecDepth 100000 in
set_option maxHeartbeats 4000000 in
theorem step4I_at (X : World) (F : Nat → Prop) (g : Nat) (p : Pa Int) (D : Nat → Prop) (c : Array Value) (hP : PsI X F g p) (hD : IsD X D c p) (hok : OkP p) (hdj : ∀ i, D i → ¬ F i) (n : Int) (w : ByteArray) (hw : w.size ≤ 281474976710656) :
    Calls Try.prog 15 #[.pointer (some ⟨g, 0, none⟩), .agg c, .agg #[.int .i64 4, .int .i64 n, .string w], .func (.func 6) #[] #[]] X fun y Y => ∃ c' D' G, y = .returned (.tuple #[.agg c', .bool true]) ∧ IsD Y D' c' ((beginP p w).1) ∧ PsI Y G g ((beginP p w).1) ∧ (∀ i, D' i → ¬ G i) ∧ Gr F X G Y ∧ ∀ i, D' i → D i ∨ X.heap.size ≤ i := by
  have HP := hide hP
  have HD := hide hD
  have HOK := hide hok
  have HDJ := hide hdj
  have HW := hide hw
  have HFL := hide hP.lt
  obtain ⟨bA, bN, bC, aA, aN, aC, oS, w0, f0, d0, rfl⟩ := hD.form
  clear hP hD hok hdj hw
  go_enter Try.func15, Try.ntmps15
  go_upto_region 1 with fail
  obtain ⟨W0, hE, HA, HO, HR, HK0⟩ := new3B (fun _ => False) X #[.bool false, .int .i64 p.s, .int .i64 p.m, .slice bA bN bC, .slice aA aN aC, .bool oS, .string w0, .int .i64 f0, .bool d0] 44 #[.int .i64 4, .int .i64 n, .string w] 48 #[.bool false, .int .i64 0, .int .i64 0, .slice none 0 0, .slice none 0 0, .bool false, .string ⟨#[]⟩, .int .i64 0, .bool false] 44
  rw [hE]
  clear hE
  have hltc : X.heap.size + 1 + 1 < W0.heap.size := (unhide HR).lt
  have HC := hide (RBeginA_at W0 D _ p ((unhide HD).kpf (unhide HK0) (fun _ _ e => e)) (unhide HOK) w)
  obtain ⟨c_A0, c_A1, c_A2, c_A3, c_A4, c_A5, c_A6, c_A7, c_A8⟩ := (unhide HA).cells9
  obtain ⟨c_O0, c_O1, c_O2⟩ := (unhide HO).cells3
  go_wp2_with fail
  refine (unhide HC).mono ?_
  rintro y w1 ⟨c1, D1, rfl, i1, n1, x1⟩
  dsimp only
  obtain ⟨bA1, bN1, bC1, aA1, aN1, aC1, oS1, w01, f01, d01, rfl⟩ := i1.form
  have HI1 := hide i1
  have HN1 := hide n1
  clear HC i1 n1
  clear c_A0 c_A1 c_A2 c_A3 c_A4 c_A5 c_A6 c_A7 c_A8 c_O0 c_O1 c_O2
  have hcw : W0.heap.size ≤ w1.heap.size := x1.size
  have HX1 := hide x1
  have NA := hide ((unhide HA).kpf (KpF.of (F := fun _ => False) (unhide HX1)) (fun e => e))
  have NO := hide ((unhide HO).kpf (KpF.of (F := fun _ => False) (unhide HX1)) (fun e => e))
  have NR := hide ((unhide HR).kpf (KpF.of (F := fun _ => False) (unhide HX1)) (fun e => e))
  have NHK0 := hide ((unhide HK0).bel (unhide HX1))
  clear HA HO HR HK0
  have HA := NA
  have HO := NO
  have HR := NR
  have HK0 := NHK0
  clear NA NO NR NHK0
  clear x1
  have HKI := hide (KpF.refl (fun _ => False) w1)
  have hgeT : X.heap.size + 1 + 1 < w1.heap.size := (unhide HR).lt
  have NA := hide ((unhide HA).alloc (.cells #[.bool false, .int .i64 ((beginP p w).1).s, .int .i64 ((beginP p w).1).m, .slice bA1 bN1 bC1, .slice aA1 aN1 aC1, .bool oS1, .string w01, .int .i64 f01, .bool d01] 44))
  have NO := hide ((unhide HO).alloc (.cells #[.bool false, .int .i64 ((beginP p w).1).s, .int .i64 ((beginP p w).1).m, .slice bA1 bN1 bC1, .slice aA1 aN1 aC1, .bool oS1, .string w01, .int .i64 f01, .bool d01] 44))
  have NR := hide ((unhide HR).alloc (.cells #[.bool false, .int .i64 ((beginP p w).1).s, .int .i64 ((beginP p w).1).m, .slice bA1 bN1 bC1, .slice aA1 aN1 aC1, .bool oS1, .string w01, .int .i64 f01, .bool d01] 44))
  have NT := hide (Cls.new w1 44 #[.bool false, .int .i64 ((beginP p w).1).s, .int .i64 ((beginP p w).1).m, .slice bA1 bN1 bC1, .slice aA1 aN1 aC1, .bool oS1, .string w01, .int .i64 f01, .bool d01])
  have NHK0 := hide ((unhide HK0).al (.cells #[.bool false, .int .i64 ((beginP p w).1).s, .int .i64 ((beginP p w).1).m, .slice bA1 bN1 bC1, .slice aA1 aN1 aC1, .bool oS1, .string w01, .int .i64 f01, .bool d01] 44))
  have NHKI := hide ((unhide HKI).al (.cells #[.bool false, .int .i64 ((beginP p w).1).s, .int .i64 ((beginP p w).1).m, .slice bA1 bN1 bC1, .slice aA1 aN1 aC1, .bool oS1, .string w01, .int .i64 f01, .bool d01] 44))
  clear HA HO HR HK0 HKI
  go_upto_region 25 with fail
  generalize (w1.alloc (.cells #[.bool false, .int .i64 ((beginP p w).1).s, .int .i64 ((beginP p w).1).m, .slice bA1 bN1 bC1, .slice aA1 aN1 aC1, .bool oS1, .string w01, .int .i64 f01, .bool d01] 44)) = W1 at *
  have HA := NA
  have HO := NO
  have HR := NR
  have HT := NT
  have HK0 := NHK0
  have HKI := NHKI
  clear NA NO NR NT NHK0 NHKI
  have NA := hide ((unhide HA).kpf (kpf_drew W1) (fun e => e))
  have NO := hide ((unhide HO).kpf (kpf_drew W1) (fun e => e))
  have NR := hide ((unhide HR).kpf (kpf_drew W1) (fun e => e))
  have NT := hide ((unhide HT).kpf (kpf_drew W1) (fun e => e))
  have NHK0 := hide ((unhide HK0).trans (kpf_drew W1) (fun _ _ e => e.elim))
  have NHKI := hide ((unhide HKI).trans (kpf_drew W1) (fun _ _ e => e.elim))
  clear HA HO HR HT HK0 HKI
  have HA := NA
  have HO := NO
  have HR := NR
  have HT := NT
  have HK0 := NHK0
  have HKI := NHKI
  clear NA NO NR NT NHK0 NHKI
  have HS0 : Hid (S9 W1.drew (w1.heap.size) (.bool false) (.int .i64 ((beginP p w).1).s) (.int .i64 ((beginP p w).1).m) (.slice bA1 bN1 bC1) (.slice aA1 aN1 aC1) (.bool oS1) (.string w01) (.int .i64 f01) (.bool d01) ∧ W1.drew.cell? ⟨X.heap.size + 1, 2, none⟩ = some (.string w)) := hide ⟨(unhide HT).cells9, ((unhide HO).cell 2).trans rfl⟩
  refine regionL (S := fun z => S9 z (w1.heap.size) (.bool false) (.int .i64 ((beginP p w).1).s) (.int .i64 ((beginP p w).1).m) (.slice bA1 bN1 bC1) (.slice aA1 aN1 aC1) (.bool oS1) (.string w01) (.int .i64 f01) (.bool d01) ∧ z.cell? ⟨X.heap.size + 1, 2, none⟩ = some (.string w)) (fun _ => false) (by kernel_rfl) ?_
  refine anyL_take (i := 0) (v := ?vq20) rfl (by kernel_rfl) (by kernel_rfl) (by kernel_rfl) (by kernel_rfl) (fun _ _ _ h => h) (Or.inl ⟨by rfl, ?hq20⟩) (unhide HS0) ?_
  case hq20 => (intro w hSw; (try dsimp only at hSw); go_simp) <;> with_reducible rfl
  simp only [Act.put, List.getElem_toArray, List.getElem_cons_zero, List.setIfInBounds_toArray, List.set_cons_zero, List.set_cons_succ]
  refine anyL_take (i := 1) (v := ?vq21) rfl (by kernel_rfl) (by kernel_rfl) (by kernel_rfl) (by kernel_rfl) (fun _ _ _ h => h) (Or.inl ⟨by rfl, ?hq21⟩) (unhide HS0) ?_
  case hq21 => (intro w hSw; (try dsimp only at hSw); go_simp) <;> with_reducible rfl
  simp only [Act.put, List.getElem_toArray, List.getElem_cons_zero, List.getElem_cons_succ, List.setIfInBounds_toArray, List.set_cons_zero, List.set_cons_succ]
  refine anyL_take (i := 2) (v := ?vq22) rfl (by kernel_rfl) (by kernel_rfl) (by kernel_rfl) (by kernel_rfl) (fun _ _ _ h => h) (Or.inl ⟨by rfl, ?hq22⟩) (unhide HS0) ?_
  case hq22 => (intro w hSw; (try dsimp only at hSw); go_simp) <;> with_reducible rfl
  simp only [Act.put, List.getElem_toArray, List.getElem_cons_zero, List.getElem_cons_succ, List.setIfInBounds_toArray, List.set_cons_zero, List.set_cons_succ]
  refine anyL_take (i := 3) (v := ?vq23) rfl (by kernel_rfl) (by kernel_rfl) (by kernel_rfl) (by kernel_rfl) (fun _ _ _ h => h) (Or.inl ⟨by rfl, ?hq23⟩) (unhide HS0) ?_
  case hq23 => (intro w hSw; (try dsimp only at hSw); go_simp) <;> with_reducible rfl
  simp only [Act.put, List.getElem_toArray, List.getElem_cons_zero, List.getElem_cons_succ, List.setIfInBounds_toArray, List.set_cons_zero, List.set_cons_succ]
  refine anyL_take (i := 5) (v := ?vq24) rfl (by kernel_rfl) (by kernel_rfl) (by kernel_rfl) (by kernel_rfl) (fun _ _ _ h => h) (Or.inl ⟨by rfl, ?hq24⟩) (unhide HS0) ?_
  case hq24 => (intro w hSw; (try dsimp only at hSw); go_simp) <;> with_reducible rfl
  simp only [Act.put, List.getElem_toArray, List.getElem_cons_zero, List.getElem_cons_succ, List.setIfInBounds_toArray, List.set_cons_zero, List.set_cons_succ]
  refine anyL_ready (rs := [4]) (by kernel_rfl) (by simp) ?_
  refine AllL.cons rfl (fun K hK => ?_) AllL.nil
  go_simp
  have HI2 := hide ((unhide HI1).kpf (unhide HKI) (fun _ _ e => e))
  have HPA := hide ((unhide HP).kpf (unhide HK0) (fun _ _ e => e))
  have hc2 : W0.heap.size ≤ W1.drew.heap.size := Nat.le_trans hcw (unhide HKI).size
  refine (BeginA_at _ F g p (unhide HPA) w (unhide HW)).mono ?_
  rintro y w3 ⟨rfl, G, i3, g3⟩
  dsimp only
  have HI3 := hide i3
  have HG3 := hide g3
  have HX2 := HK0
  have NA := hide ((unhide HA).kpf g3.kp (fun e => by have := unhide HFL _ e; omega))
  have NO := hide ((unhide HO).kpf g3.kp (fun e => by have := unhide HFL _ e; omega))
  have NR := hide ((unhide HR).kpf g3.kp (fun e => by have := unhide HFL _ e; omega))
  have NT := hide ((unhide HT).kpf g3.kp (fun e => by have := unhide HFL _ e; omega))
  clear HA HO HR HT HK0 HKI
  have HA := NA
  have HO := NO
  have HR := NR
  have HT := NT
  clear NA NO NR NT
  have HK1 := hide (KpF.refl (fun i => X.heap.size ≤ i ∧ i < W0.heap.size) w3)
  clear i3 g3
  have HS3 : Hid (S9 w3 (w1.heap.size) (.bool false) (.int .i64 ((beginP p w).1).s) (.int .i64 ((beginP p w).1).m) (.slice bA1 bN1 bC1) (.slice aA1 aN1 aC1) (.bool oS1) (.string w01) (.int .i64 f01) (.bool d01) ∧ w3.cell? ⟨X.heap.size + 1, 2, none⟩ = some (.string w)) := hide ⟨(unhide HT).cells9, ((unhide HO).cell 2).trans rfl⟩
  refine unhide hK _ _ (fun _ => unhide HS3) ?_
  clear hK K
  refine anyL_take (i := 6) (v := ?vq25) rfl (by kernel_rfl) (by kernel_rfl) (by kernel_rfl) (by kernel_rfl) (fun _ _ _ h => h) (Or.inl ⟨by rfl, ?hq25⟩) (unhide HS3) ?_
  case hq25 => (intro w hSw; (try dsimp only at hSw); go_simp) <;> with_reducible rfl
  simp only [Act.put, List.getElem_toArray, List.getElem_cons_zero, List.getElem_cons_succ, List.setIfInBounds_toArray, List.set_cons_zero, List.set_cons_succ]
  refine anyL_ready (rs := [7]) (by kernel_rfl) (by simp) ?_
  refine AllL.cons rfl (fun K hK => ?_) AllL.nil
  obtain ⟨r_R0, r_R1, r_R2, r_R3, r_R4, r_R5, r_R6, r_R7, r_R8⟩ := (unhide HR).cells9
  obtain ⟨zr_R0, zr_R1, zr_R2, zr_R3, zr_R4, zr_R5, zr_R6, zr_R7, zr_R8⟩ := (unhide HR).froz9
  go_simp
  obtain ⟨W2, hE, NR⟩ := sto9 (unhide HR) (.bool false) (.int .i64 ((beginP p w).1).s) (.int .i64 ((beginP p w).1).m) (.slice bA1 bN1 bC1) (.slice aA1 aN1 aC1) (.bool oS1) (.string w01) (.int .i64 f01) (.bool d01)
  rw [hE]
  have NA : Hid (Cls W2 (X.heap.size) 44 _) := hide (by rw [← hE]; exact Cls.oth9 (unhide HA) (by omega))
  have NO : Hid (Cls W2 (X.heap.size + 1) 48 _) := hide (by rw [← hE]; exact Cls.oth9 (unhide HO) (by omega))
  have NT : Hid (Cls W2 (w1.heap.size) 44 _) := hide (by rw [← hE]; exact Cls.oth9 (unhide HT) (by omega))
  have NHK1 : Hid (KpF _ w3 W2) := hide (by rw [← hE]; exact KpF.upd9 (unhide HK1) (.inl ⟨by first | omega | (dsimp only; omega), by first | omega | (dsimp only; omega)⟩))
  clear hE HA HO HR HT HK1
  have HA := NA
  have HO := NO
  have HR := NR
  have HT := NT
  have HK1 := NHK1
  clear NA NO NR NT NHK1
  have HS4 : Hid (S9 W2 (w1.heap.size) (.bool false) (.int .i64 ((beginP p w).1).s) (.int .i64 ((beginP p w).1).m) (.slice bA1 bN1 bC1) (.slice aA1 aN1 aC1) (.bool oS1) (.string w01) (.int .i64 f01) (.bool d01) ∧ W2.cell? ⟨X.heap.size + 1, 2, none⟩ = some (.string w)) := hide ⟨(unhide HT).cells9, ((unhide HO).cell 2).trans rfl⟩
  refine unhide hK _ _ (fun _ => unhide HS4) ?_
  clear hK K
  refine anyL_take (i := 8) (v := ?vq26) rfl (by kernel_rfl) (by kernel_rfl) (by kernel_rfl) (by kernel_rfl) (fun _ _ _ h => h) (Or.inl ⟨by rfl, ?hq26⟩) (unhide HS4) ?_
  case hq26 => (intro w hSw; (try dsimp only at hSw); go_simp) <;> with_reducible rfl
  simp only [Act.put, List.getElem_toArray, List.getElem_cons_zero, List.getElem_cons_succ, List.setIfInBounds_toArray, List.set_cons_zero, List.set_cons_succ]
  refine anyL_done (by kernel_rfl) ?_ _
  obtain ⟨q0, q1, q2, q3, q4, q5, q6, q7, q8⟩ := (unhide HR).cells9
  go_wp2_with fail
  refine bodyPost_ret (v := .tuple #[.agg #[.bool false, .int .i64 ((beginP p w).1).s, .int .i64 ((beginP p w).1).m, .slice bA1 bN1 bC1, .slice aA1 aN1 aC1, .bool oS1, .string w01, .int .i64 f01, .bool d01], .bool true]) (by simp [results, Try.results15, go_sem, q0, q1, q2, q3, q4, q5, q6, q7, q8]) rfl ?_
  obtain ⟨z1, z2, z3, z4, z5⟩ := stepEndI (unhide HFL) (unhide HD).lt (unhide HDJ) (unhide HX2) (by omega) hc2 (unhide HI2) (unhide HN1) (unhide HG3) (unhide HI3) (unhide HK1)
  exact ⟨_, D1, G, rfl, z1, z2, z3, z4, z5⟩
set_option maxRecDepth 100000 in
set_option maxHeartbeats 4000000 in
theorem step4BI_at (X : World) (n : Int) (w : ByteArray) :
    Calls Try.prog 15 #[.pointer none, .agg cBad, .agg #[.int .i64 4, .int .i64 n, .string w], .func (.func 6) #[] #[]] X fun y Y => y = .returned (.tuple #[.agg cBad, .bool true]) ∧ Below X.heap.size X Y := by
  unfold cBad
  go_enter Try.func15, Try.ntmps15
  go_upto_region 1 with fail
  obtain ⟨W0, hE, HA, HO, HR, HK0⟩ := new3B (fun _ => False) X #[.bool true, .int .i64 0, .int .i64 0, .slice none 0 0, .slice none 0 0, .bool false, .string ⟨#[]⟩, .int .i64 0, .bool false] 44 #[.int .i64 4, .int .i64 n, .string w] 48 #[.bool false, .int .i64 0, .int .i64 0, .slice none 0 0, .slice none 0 0, .bool false, .string ⟨#[]⟩, .int .i64 0, .bool false] 44
  rw [hE]
  clear hE
  have hltc : X.heap.size + 1 + 1 < W0.heap.size := (unhide HR).lt
  have HC := hide (RBeginB_at W0 w)
  unfold cBad at HC
  obtain ⟨c_A0, c_A1, c_A2, c_A3, c_A4, c_A5, c_A6, c_A7, c_A8⟩ := (unhide HA).cells9
  obtain ⟨c_O0, c_O1, c_O2⟩ := (unhide HO).cells3
  go_wp2_with fail
  refine (unhide HC).mono ?_
  rintro y w1 ⟨rfl, x1⟩
  dsimp only
  clear HC
  clear c_A0 c_A1 c_A2 c_A3 c_A4 c_A5 c_A6 c_A7 c_A8 c_O0 c_O1 c_O2
  have hcw : W0.heap.size ≤ w1.heap.size := x1.size
  have HX1 := hide x1
  have NA := hide ((unhide HA).kpf (KpF.of (F := fun _ => False) (unhide HX1)) (fun e => e))
  have NO := hide ((unhide HO).kpf (KpF.of (F := fun _ => False) (unhide HX1)) (fun e => e))
  have NR := hide ((unhide HR).kpf (KpF.of (F := fun _ => False) (unhide HX1)) (fun e => e))
  have NHK0 := hide ((unhide HK0).bel (unhide HX1))
  clear HA HO HR HK0
  have HA := NA
  have HO := NO
  have HR := NR
  have HK0 := NHK0
  clear NA NO NR NHK0
  clear x1
  have hgeT : X.heap.size + 1 + 1 < w1.heap.size := (unhide HR).lt
  have NA := hide ((unhide HA).alloc (.cells #[.bool true, .int .i64 0, .int .i64 0, .slice none 0 0, .slice none 0 0, .bool false, .string ⟨#[]⟩, .int .i64 0, .bool false] 44))
  have NO := hide ((unhide HO).alloc (.cells #[.bool true, .int .i64 0, .int .i64 0, .slice none 0 0, .slice none 0 0, .bool false, .string ⟨#[]⟩, .int .i64 0, .bool false] 44))
  have NR := hide ((unhide HR).alloc (.cells #[.bool true, .int .i64 0, .int .i64 0, .slice none 0 0, .slice none 0 0, .bool false, .string ⟨#[]⟩, .int .i64 0, .bool false] 44))
  have NT := hide (Cls.new w1 44 #[.bool true, .int .i64 0, .int .i64 0, .slice none 0 0, .slice none 0 0, .bool false, .string ⟨#[]⟩, .int .i64 0, .bool false])
  have NHK0 := hide ((unhide HK0).al (.cells #[.bool true, .int .i64 0, .int .i64 0, .slice none 0 0, .slice none 0 0, .bool false, .string ⟨#[]⟩, .int .i64 0, .bool false] 44))
  clear HA HO HR HK0
  go_upto_region 25 with fail
  generalize (w1.alloc (.cells #[.bool true, .int .i64 0, .int .i64 0, .slice none 0 0, .slice none 0 0, .bool false, .string ⟨#[]⟩, .int .i64 0, .bool false] 44)) = W1 at *
  have HA := NA
  have HO := NO
  have HR := NR
  have HT := NT
  have HK0 := NHK0
  clear NA NO NR NT NHK0
  have NA := hide ((unhide HA).kpf (kpf_drew W1) (fun e => e))
  have NO := hide ((unhide HO).kpf (kpf_drew W1) (fun e => e))
  have NR := hide ((unhide HR).kpf (kpf_drew W1) (fun e => e))
  have NT := hide ((unhide HT).kpf (kpf_drew W1) (fun e => e))
  have NHK0 := hide ((unhide HK0).trans (kpf_drew W1) (fun _ _ e => e.elim))
  clear HA HO HR HT HK0
  have HA := NA
  have HO := NO
  have HR := NR
  have HT := NT
  have HK0 := NHK0
  clear NA NO NR NT NHK0
  have HS0 : Hid (S9 W1.drew (w1.heap.size) (.bool true) (.int .i64 0) (.int .i64 0) (.slice none 0 0) (.slice none 0 0) (.bool false) (.string ⟨#[]⟩) (.int .i64 0) (.bool false) ∧ W1.drew.cell? ⟨X.heap.size + 1, 2, none⟩ = some (.string w)) := hide ⟨(unhide HT).cells9, ((unhide HO).cell 2).trans rfl⟩
  refine regionL (S := fun z => S9 z (w1.heap.size) (.bool true) (.int .i64 0) (.int .i64 0) (.slice none 0 0) (.slice none 0 0) (.bool false) (.string ⟨#[]⟩) (.int .i64 0) (.bool false) ∧ z.cell? ⟨X.heap.size + 1, 2, none⟩ = some (.string w)) (fun _ => false) (by kernel_rfl) ?_
  refine anyL_take (i := 0) (v := ?vq27) rfl (by kernel_rfl) (by kernel_rfl) (by kernel_rfl) (by kernel_rfl) (fun _ _ _ h => h) (Or.inl ⟨by rfl, ?hq27⟩) (unhide HS0) ?_
  case hq27 => (intro w hSw; (try dsimp only at hSw); go_simp) <;> with_reducible rfl
  simp only [Act.put, List.getElem_toArray, List.getElem_cons_zero, List.setIfInBounds_toArray, List.set_cons_zero, List.set_cons_succ]
  refine anyL_take (i := 1) (v := ?vq28) rfl (by kernel_rfl) (by kernel_rfl) (by kernel_rfl) (by kernel_rfl) (fun _ _ _ h => h) (Or.inl ⟨by rfl, ?hq28⟩) (unhide HS0) ?_
  case hq28 => (intro w hSw; (try dsimp only at hSw); go_simp) <;> with_reducible rfl
  simp only [Act.put, List.getElem_toArray, List.getElem_cons_zero, List.getElem_cons_succ, List.setIfInBounds_toArray, List.set_cons_zero, List.set_cons_succ]
  refine anyL_take (i := 2) (v := ?vq29) rfl (by kernel_rfl) (by kernel_rfl) (by kernel_rfl) (by kernel_rfl) (fun _ _ _ h => h) (Or.inl ⟨by rfl, ?hq29⟩) (unhide HS0) ?_
  case hq29 => (intro w hSw; (try dsimp only at hSw); go_simp) <;> with_reducible rfl
  simp only [Act.put, List.getElem_toArray, List.getElem_cons_zero, List.getElem_cons_succ, List.setIfInBounds_toArray, List.set_cons_zero, List.set_cons_succ]
  refine anyL_take (i := 3) (v := ?vq30) rfl (by kernel_rfl) (by kernel_rfl) (by kernel_rfl) (by kernel_rfl) (fun _ _ _ h => h) (Or.inl ⟨by rfl, ?hq30⟩) (unhide HS0) ?_
  case hq30 => (intro w hSw; (try dsimp only at hSw); go_simp) <;> with_reducible rfl
  simp only [Act.put, List.getElem_toArray, List.getElem_cons_zero, List.getElem_cons_succ, List.setIfInBounds_toArray, List.set_cons_zero, List.set_cons_succ]
  refine anyL_take (i := 5) (v := ?vq31) rfl (by kernel_rfl) (by kernel_rfl) (by kernel_rfl) (by kernel_rfl) (fun _ _ _ h => h) (Or.inl ⟨by rfl, ?hq31⟩) (unhide HS0) ?_
  case hq31 => (intro w hSw; (try dsimp only at hSw); go_simp) <;> with_reducible rfl
  simp only [Act.put, List.getElem_toArray, List.getElem_cons_zero, List.getElem_cons_succ, List.setIfInBounds_toArray, List.set_cons_zero, List.set_cons_succ]
  refine anyL_ready (rs := [4]) (by kernel_rfl) (by simp) ?_
  refine AllL.cons rfl (fun K hK => ?_) AllL.nil
  go_simp
  refine (BeginNI_at _ w).mono ?_
  rintro y _ ⟨rfl, rfl⟩
  dsimp only
  generalize W1.drew = w3 at *
  have HS3 : Hid (S9 w3 (w1.heap.size) (.bool true) (.int .i64 0) (.int .i64 0) (.slice none 0 0) (.slice none 0 0) (.bool false) (.string ⟨#[]⟩) (.int .i64 0) (.bool false) ∧ w3.cell? ⟨X.heap.size + 1, 2, none⟩ = some (.string w)) := hide ⟨(unhide HT).cells9, ((unhide HO).cell 2).trans rfl⟩
  refine unhide hK _ _ (fun _ => unhide HS3) ?_
  clear hK K
  refine anyL_take (i := 6) (v := ?vq32) rfl (by kernel_rfl) (by kernel_rfl) (by kernel_rfl) (by kernel_rfl) (fun _ _ _ h => h) (Or.inl ⟨by rfl, ?hq32⟩) (unhide HS3) ?_
  case hq32 => (intro w hSw; (try dsimp only at hSw); go_simp) <;> with_reducible rfl
  simp only [Act.put, List.getElem_toArray, List.getElem_cons_zero, List.getElem_cons_succ, List.setIfInBounds_toArray, List.set_cons_zero, List.set_cons_succ]
  refine anyL_ready (rs := [7]) (by kernel_rfl) (by simp) ?_
  refine AllL.cons rfl (fun K hK => ?_) AllL.nil
  obtain ⟨r_R0, r_R1, r_R2, r_R3, r_R4, r_R5, r_R6, r_R7, r_R8⟩ := (unhide HR).cells9
  obtain ⟨zr_R0, zr_R1, zr_R2, zr_R3, zr_R4, zr_R5, zr_R6, zr_R7, zr_R8⟩ := (unhide HR).froz9
  go_simp
  obtain ⟨W2, hE, NR⟩ := sto9 (unhide HR) (.bool true) (.int .i64 0) (.int .i64 0) (.slice none 0 0) (.slice none 0 0) (.bool false) (.string ⟨#[]⟩) (.int .i64 0) (.bool false)
  rw [hE]
  have NA : Hid (Cls W2 (X.heap.size) 44 _) := hide (by rw [← hE]; exact Cls.oth9 (unhide HA) (by omega))
  have NO : Hid (Cls W2 (X.heap.size + 1) 48 _) := hide (by rw [← hE]; exact Cls.oth9 (unhide HO) (by omega))
  have NT : Hid (Cls W2 (w1.heap.size) 44 _) := hide (by rw [← hE]; exact Cls.oth9 (unhide HT) (by omega))
  have NHK0 : Hid (KpF _ X W2) := hide (by rw [← hE]; exact KpF.upd9 (unhide HK0) (.inr (by first | omega | (dsimp only; omega))))
  clear hE HA HO HR HT HK0
  have HA := NA
  have HO := NO
  have HR := NR
  have HT := NT
  have HK0 := NHK0
  clear NA NO NR NT NHK0
  have HS4 : Hid (S9 W2 (w1.heap.size) (.bool true) (.int .i64 0) (.int .i64 0) (.slice none 0 0) (.slice none 0 0) (.bool false) (.string ⟨#[]⟩) (.int .i64 0) (.bool false) ∧ W2.cell? ⟨X.heap.size + 1, 2, none⟩ = some (.string w)) := hide ⟨(unhide HT).cells9, ((unhide HO).cell 2).trans rfl⟩
  refine unhide hK _ _ (fun _ => unhide HS4) ?_
  clear hK K
  refine anyL_take (i := 8) (v := ?vq33) rfl (by kernel_rfl) (by kernel_rfl) (by kernel_rfl) (by kernel_rfl) (fun _ _ _ h => h) (Or.inl ⟨by rfl, ?hq33⟩) (unhide HS4) ?_
  case hq33 => (intro w hSw; (try dsimp only at hSw); go_simp) <;> with_reducible rfl
  simp only [Act.put, List.getElem_toArray, List.getElem_cons_zero, List.getElem_cons_succ, List.setIfInBounds_toArray, List.set_cons_zero, List.set_cons_succ]
  refine anyL_done (by kernel_rfl) ?_ _
  obtain ⟨q0, q1, q2, q3, q4, q5, q6, q7, q8⟩ := (unhide HR).cells9
  go_wp2_with fail
  refine bodyPost_ret (v := .tuple #[.agg #[.bool true, .int .i64 0, .int .i64 0, .slice none 0 0, .slice none 0 0, .bool false, .string ⟨#[]⟩, .int .i64 0, .bool false], .bool true]) (by simp [results, Try.results15, go_sem, q0, q1, q2, q3, q4, q5, q6, q7, q8]) rfl ?_
  exact ⟨rfl, (unhide HK0).below (Nat.le_refl _) (fun _ e => e.elim)⟩
set_option maxRecDepth 100000 in
set_option maxHeartbeats 4000000 in
theorem step5I_at (X : World) (F : Nat → Prop) (g : Nat) (p : Pa Int) (D : Nat → Prop) (c : Array Value) (hP : PsI X F g p) (hD : IsD X D c p) (hok : OkP p) (hdj : ∀ i, D i → ¬ F i) (n : Int) (w : ByteArray) (hw : w.size ≤ 281474976710656) :
    Calls Try.prog 15 #[.pointer (some ⟨g, 0, none⟩), .agg c, .agg #[.int .i64 5, .int .i64 n, .string w], .func (.func 6) #[] #[]] X fun y Y => ∃ c' D' G, y = .returned (.tuple #[.agg c', .bool true]) ∧ IsD Y D' c' ((endP p).1) ∧ PsI Y G g ((endP p).1) ∧ (∀ i, D' i → ¬ G i) ∧ Gr F X G Y ∧ ∀ i, D' i → D i ∨ X.heap.size ≤ i := by
  have HP := hide hP
  have HD := hide hD
  have HOK := hide hok
  have HDJ := hide hdj
  have HW := hide hw
  have HFL := hide hP.lt
  obtain ⟨bA, bN, bC, aA, aN, aC, oS, w0, f0, d0, rfl⟩ := hD.form
  clear hP hD hok hdj hw
  go_enter Try.func15, Try.ntmps15
  go_upto_region 1 with fail
  obtain ⟨W0, hE, HA, HO, HR, HK0⟩ := new3B (fun _ => False) X #[.bool false, .int .i64 p.s, .int .i64 p.m, .slice bA bN bC, .slice aA aN aC, .bool oS, .string w0, .int .i64 f0, .bool d0] 44 #[.int .i64 5, .int .i64 n, .string w] 48 #[.bool false, .int .i64 0, .int .i64 0, .slice none 0 0, .slice none 0 0, .bool false, .string ⟨#[]⟩, .int .i64 0, .bool false] 44
  rw [hE]
  clear hE
  have hltc : X.heap.size + 1 + 1 < W0.heap.size := (unhide HR).lt
  have HC := hide (REndA_at W0 D _ p ((unhide HD).kpf (unhide HK0) (fun _ _ e => e)) (unhide HOK) )
  obtain ⟨c_A0, c_A1, c_A2, c_A3, c_A4, c_A5, c_A6, c_A7, c_A8⟩ := (unhide HA).cells9
  obtain ⟨c_O0, c_O1, c_O2⟩ := (unhide HO).cells3
  go_wp2_with fail
  refine (unhide HC).mono ?_
  rintro y w1 ⟨c1, D1, rfl, i1, n1, x1⟩
  dsimp only
  obtain ⟨bA1, bN1, bC1, aA1, aN1, aC1, oS1, w01, f01, d01, rfl⟩ := i1.form
  have HI1 := hide i1
  have HN1 := hide n1
  clear HC i1 n1
  clear c_A0 c_A1 c_A2 c_A3 c_A4 c_A5 c_A6 c_A7 c_A8 c_O0 c_O1 c_O2
  have hcw : W0.heap.size ≤ w1.heap.size := x1.size
  have HX1 := hide x1
  have NA := hide ((unhide HA).kpf (KpF.of (F := fun _ => False) (unhide HX1)) (fun e => e))
  have NO := hide ((unhide HO).kpf (KpF.of (F := fun _ => False) (unhide HX1)) (fun e => e))
  have NR := hide ((unhide HR).kpf (KpF.of (F := fun _ => False) (unhide HX1)) (fun e => e))
  have NHK0 := hide ((unhide HK0).bel (unhide HX1))
  clear HA HO HR HK0
  have HA := NA
  have HO := NO
  have HR := NR
  have HK0 := NHK0
  clear NA NO NR NHK0
  clear x1
  have HKI := hide (KpF.refl (fun _ => False) w1)
  have hgeT : X.heap.size + 1 + 1 < w1.heap.size := (unhide HR).lt
  have NA := hide ((unhide HA).alloc (.cells #[.bool false, .int .i64 ((endP p).1).s, .int .i64 ((endP p).1).m, .slice bA1 bN1 bC1, .slice aA1 aN1 aC1, .bool oS1, .string w01, .int .i64 f01, .bool d01] 44))
  have NO := hide ((unhide HO).alloc (.cells #[.bool false, .int .i64 ((endP p).1).s, .int .i64 ((endP p).1).m, .slice bA1 bN1 bC1, .slice aA1 aN1 aC1, .bool oS1, .string w01, .int .i64 f01, .bool d01] 44))
  have NR := hide ((unhide HR).alloc (.cells #[.bool false, .int .i64 ((endP p).1).s, .int .i64 ((endP p).1).m, .slice bA1 bN1 bC1, .slice aA1 aN1 aC1, .bool oS1, .string w01, .int .i64 f01, .bool d01] 44))
  have NT := hide (Cls.new w1 44 #[.bool false, .int .i64 ((endP p).1).s, .int .i64 ((endP p).1).m, .slice bA1 bN1 bC1, .slice aA1 aN1 aC1, .bool oS1, .string w01, .int .i64 f01, .bool d01])
  have NHK0 := hide ((unhide HK0).al (.cells #[.bool false, .int .i64 ((endP p).1).s, .int .i64 ((endP p).1).m, .slice bA1 bN1 bC1, .slice aA1 aN1 aC1, .bool oS1, .string w01, .int .i64 f01, .bool d01] 44))
  have NHKI := hide ((unhide HKI).al (.cells #[.bool false, .int .i64 ((endP p).1).s, .int .i64 ((endP p).1).m, .slice bA1 bN1 bC1, .slice aA1 aN1 aC1, .bool oS1, .string w01, .int .i64 f01, .bool d01] 44))
  clear HA HO HR HK0 HKI
  go_upto_region 28 with fail
  generalize (w1.alloc (.cells #[.bool false, .int .i64 ((endP p).1).s, .int .i64 ((endP p).1).m, .slice bA1 bN1 bC1, .slice aA1 aN1 aC1, .bool oS1, .string w01, .int .i64 f01, .bool d01] 44)) = W1 at *
  have HA := NA
  have HO := NO
  have HR := NR
  have HT := NT
  have HK0 := NHK0
  have HKI := NHKI
  clear NA NO NR NT NHK0 NHKI
  have NA := hide ((unhide HA).kpf (kpf_drew W1) (fun e => e))
  have NO := hide ((unhide HO).kpf (kpf_drew W1) (fun e => e))
  have NR := hide ((unhide HR).kpf (kpf_drew W1) (fun e => e))
  have NT := hide ((unhide HT).kpf (kpf_drew W1) (fun e => e))
  have NHK0 := hide ((unhide HK0).trans (kpf_drew W1) (fun _ _ e => e.elim))
  have NHKI := hide ((unhide HKI).trans (kpf_drew W1) (fun _ _ e => e.elim))
  clear HA HO HR HT HK0 HKI
  have HA := NA
  have HO := NO
  have HR := NR
  have HT := NT
  have HK0 := NHK0
  have HKI := NHKI
  clear NA NO NR NT NHK0 NHKI
  have HS0 : Hid (S9 W1.drew (w1.heap.size) (.bool false) (.int .i64 ((endP p).1).s) (.int .i64 ((endP p).1).m) (.slice bA1 bN1 bC1) (.slice aA1 aN1 aC1) (.bool oS1) (.string w01) (.int .i64 f01) (.bool d01)) := hide (unhide HT).cells9
  refine regionL (S := fun z => S9 z (w1.heap.size) (.bool false) (.int .i64 ((endP p).1).s) (.int .i64 ((endP p).1).m) (.slice bA1 bN1 bC1) (.slice aA1 aN1 aC1) (.bool oS1) (.string w01) (.int .i64 f01) (.bool d01)) (fun _ => false) (by kernel_rfl) ?_
  refine anyL_take (i := 0) (v := ?vq34) rfl (by kernel_rfl) (by kernel_rfl) (by kernel_rfl) (by kernel_rfl) (fun _ _ _ h => h) (Or.inl ⟨by rfl, ?hq34⟩) (unhide HS0) ?_
  case hq34 => (intro w hSw; (try dsimp only at hSw); go_simp) <;> with_reducible rfl
  simp only [Act.put, List.getElem_toArray, List.getElem_cons_zero, List.setIfInBounds_toArray, List.set_cons_zero, List.set_cons_succ]
  refine anyL_take (i := 1) (v := ?vq35) rfl (by kernel_rfl) (by kernel_rfl) (by kernel_rfl) (by kernel_rfl) (fun _ _ _ h => h) (Or.inl ⟨by rfl, ?hq35⟩) (unhide HS0) ?_
  case hq35 => (intro w hSw; (try dsimp only at hSw); go_simp) <;> with_reducible rfl
  simp only [Act.put, List.getElem_toArray, List.getElem_cons_zero, List.getElem_cons_succ, List.setIfInBounds_toArray, List.set_cons_zero, List.set_cons_succ]
  refine anyL_take (i := 3) (v := ?vq36) rfl (by kernel_rfl) (by kernel_rfl) (by kernel_rfl) (by kernel_rfl) (fun _ _ _ h => h) (Or.inl ⟨by rfl, ?hq36⟩) (unhide HS0) ?_
  case hq36 => (intro w hSw; (try dsimp only at hSw); go_simp) <;> with_reducible rfl
  simp only [Act.put, List.getElem_toArray, List.getElem_cons_zero, List.getElem_cons_succ, List.setIfInBounds_toArray, List.set_cons_zero, List.set_cons_succ]
  refine anyL_ready (rs := [2]) (by kernel_rfl) (by simp) ?_
  refine AllL.cons rfl (fun K hK => ?_) AllL.nil
  go_simp
  have HI2 := hide ((unhide HI1).kpf (unhide HKI) (fun _ _ e => e))
  have HPA := hide ((unhide HP).kpf (unhide HK0) (fun _ _ e => e))
  have hc2 : W0.heap.size ≤ W1.drew.heap.size := Nat.le_trans hcw (unhide HKI).size
  refine (EndA_at _ F g p (unhide HPA) (unhide HOK)).mono ?_
  rintro y w3 ⟨rfl, G, i3, g3⟩
  dsimp only
  have HI3 := hide i3
  have HG3 := hide g3
  have HX2 := HK0
  have NA := hide ((unhide HA).kpf g3.kp (fun e => by have := unhide HFL _ e; omega))
  have NO := hide ((unhide HO).kpf g3.kp (fun e => by have := unhide HFL _ e; omega))
  have NR := hide ((unhide HR).kpf g3.kp (fun e => by have := unhide HFL _ e; omega))
  have NT := hide ((unhide HT).kpf g3.kp (fun e => by have := unhide HFL _ e; omega))
  clear HA HO HR HT HK0 HKI
  have HA := NA
  have HO := NO
  have HR := NR
  have HT := NT
  clear NA NO NR NT
  have HK1 := hide (KpF.refl (fun i => X.heap.size ≤ i ∧ i < W0.heap.size) w3)
  clear i3 g3
  have HS3 : Hid (S9 w3 (w1.heap.size) (.bool false) (.int .i64 ((endP p).1).s) (.int .i64 ((endP p).1).m) (.slice bA1 bN1 bC1) (.slice aA1 aN1 aC1) (.bool oS1) (.string w01) (.int .i64 f01) (.bool d01)) := hide (unhide HT).cells9
  refine unhide hK _ _ (fun _ => unhide HS3) ?_
  clear hK K
  refine anyL_take (i := 4) (v := ?vq37) rfl (by kernel_rfl) (by kernel_rfl) (by kernel_rfl) (by kernel_rfl) (fun _ _ _ h => h) (Or.inl ⟨by rfl, ?hq37⟩) (unhide HS3) ?_
  case hq37 => (intro w hSw; (try dsimp only at hSw); go_simp) <;> with_reducible rfl
  simp only [Act.put, List.getElem_toArray, List.getElem_cons_zero, List.getElem_cons_succ, List.setIfInBounds_toArray, List.set_cons_zero, List.set_cons_succ]
  refine anyL_ready (rs := [5]) (by kernel_rfl) (by simp) ?_
  refine AllL.cons rfl (fun K hK => ?_) AllL.nil
  obtain ⟨r_R0, r_R1, r_R2, r_R3, r_R4, r_R5, r_R6, r_R7, r_R8⟩ := (unhide HR).cells9
  obtain ⟨zr_R0, zr_R1, zr_R2, zr_R3, zr_R4, zr_R5, zr_R6, zr_R7, zr_R8⟩ := (unhide HR).froz9
  go_simp
  obtain ⟨W2, hE, NR⟩ := sto9 (unhide HR) (.bool false) (.int .i64 ((endP p).1).s) (.int .i64 ((endP p).1).m) (.slice bA1 bN1 bC1) (.slice aA1 aN1 aC1) (.bool oS1) (.string w01) (.int .i64 f01) (.bool d01)
  rw [hE]
  have NA : Hid (Cls W2 (X.heap.size) 44 _) := hide (by rw [← hE]; exact Cls.oth9 (unhide HA) (by omega))
  have NO : Hid (Cls W2 (X.heap.size + 1) 48 _) := hide (by rw [← hE]; exact Cls.oth9 (unhide HO) (by omega))
  have NT : Hid (Cls W2 (w1.heap.size) 44 _) := hide (by rw [← hE]; exact Cls.oth9 (unhide HT) (by omega))
  have NHK1 : Hid (KpF _ w3 W2) := hide (by rw [← hE]; exact KpF.upd9 (unhide HK1) (.inl ⟨by first | omega | (dsimp only; omega), by first | omega | (dsimp only; omega)⟩))
  clear hE HA HO HR HT HK1
  have HA := NA
  have HO := NO
  have HR := NR
  have HT := NT
  have HK1 := NHK1
  clear NA NO NR NT NHK1
  have HS4 : Hid (S9 W2 (w1.heap.size) (.bool false) (.int .i64 ((endP p).1).s) (.int .i64 ((endP p).1).m) (.slice bA1 bN1 bC1) (.slice aA1 aN1 aC1) (.bool oS1) (.string w01) (.int .i64 f01) (.bool d01)) := hide (unhide HT).cells9
  refine unhide hK _ _ (fun _ => unhide HS4) ?_
  clear hK K
  refine anyL_take (i := 6) (v := ?vq38) rfl (by kernel_rfl) (by kernel_rfl) (by kernel_rfl) (by kernel_rfl) (fun _ _ _ h => h) (Or.inl ⟨by rfl, ?hq38⟩) (unhide HS4) ?_
  case hq38 => (intro w hSw; (try dsimp only at hSw); go_simp) <;> with_reducible rfl
  simp only [Act.put, List.getElem_toArray, List.getElem_cons_zero, List.getElem_cons_succ, List.setIfInBounds_toArray, List.set_cons_zero, List.set_cons_succ]
  refine anyL_done (by kernel_rfl) ?_ _
  obtain ⟨q0, q1, q2, q3, q4, q5, q6, q7, q8⟩ := (unhide HR).cells9
  go_wp2_with fail
  refine bodyPost_ret (v := .tuple #[.agg #[.bool false, .int .i64 ((endP p).1).s, .int .i64 ((endP p).1).m, .slice bA1 bN1 bC1, .slice aA1 aN1 aC1, .bool oS1, .string w01, .int .i64 f01, .bool d01], .bool true]) (by simp [results, Try.results15, go_sem, q0, q1, q2, q3, q4, q5, q6, q7, q8]) rfl ?_
  obtain ⟨z1, z2, z3, z4, z5⟩ := stepEndI (unhide HFL) (unhide HD).lt (unhide HDJ) (unhide HX2) (by omega) hc2 (unhide HI2) (unhide HN1) (unhide HG3) (unhide HI3) (unhide HK1)
  exact ⟨_, D1, G, rfl, z1, z2, z3, z4, z5⟩
set_option maxRecDepth 100000 in
set_option maxHeartbeats 4000000 in
theorem step5BI_at (X : World) (n : Int) (w : ByteArray) :
    Calls Try.prog 15 #[.pointer none, .agg cBad, .agg #[.int .i64 5, .int .i64 n, .string w], .func (.func 6) #[] #[]] X fun y Y => y = .returned (.tuple #[.agg cBad, .bool true]) ∧ Below X.heap.size X Y := by
  unfold cBad
  go_enter Try.func15, Try.ntmps15
  go_upto_region 1 with fail
  obtain ⟨W0, hE, HA, HO, HR, HK0⟩ := new3B (fun _ => False) X #[.bool true, .int .i64 0, .int .i64 0, .slice none 0 0, .slice none 0 0, .bool false, .string ⟨#[]⟩, .int .i64 0, .bool false] 44 #[.int .i64 5, .int .i64 n, .string w] 48 #[.bool false, .int .i64 0, .int .i64 0, .slice none 0 0, .slice none 0 0, .bool false, .string ⟨#[]⟩, .int .i64 0, .bool false] 44
  rw [hE]
  clear hE
  have hltc : X.heap.size + 1 + 1 < W0.heap.size := (unhide HR).lt
  have HC := hide (REndB_at W0 )
  unfold cBad at HC
  obtain ⟨c_A0, c_A1, c_A2, c_A3, c_A4, c_A5, c_A6, c_A7, c_A8⟩ := (unhide HA).cells9
  obtain ⟨c_O0, c_O1, c_O2⟩ := (unhide HO).cells3
  go_wp2_with fail
  refine (unhide HC).mono ?_
  rintro y w1 ⟨rfl, x1⟩
  dsimp only
  clear HC
  clear c_A0 c_A1 c_A2 c_A3 c_A4 c_A5 c_A6 c_A7 c_A8 c_O0 c_O1 c_O2
  have hcw : W0.heap.size ≤ w1.heap.size := x1.size
  have HX1 := hide x1
  have NA := hide ((unhide HA).kpf (KpF.of (F := fun _ => False) (unhide HX1)) (fun e => e))
  have NO := hide ((unhide HO).kpf (KpF.of (F := fun _ => False) (unhide HX1)) (fun e => e))
  have NR := hide ((unhide HR).kpf (KpF.of (F := fun _ => False) (unhide HX1)) (fun e => e))
  have NHK0 := hide ((unhide HK0).bel (unhide HX1))
  clear HA HO HR HK0
  have HA := NA
  have HO := NO
  have HR := NR
  have HK0 := NHK0
  clear NA NO NR NHK0
  clear x1
  have hgeT : X.heap.size + 1 + 1 < w1.heap.size := (unhide HR).lt
  have NA := hide ((unhide HA).alloc (.cells #[.bool true, .int .i64 0, .int .i64 0, .slice none 0 0, .slice none 0 0, .bool false, .string ⟨#[]⟩, .int .i64 0, .bool false] 44))
  have NO := hide ((unhide HO).alloc (.cells #[.bool true, .int .i64 0, .int .i64 0, .slice none 0 0, .slice none 0 0, .bool false, .string ⟨#[]⟩, .int .i64 0, .bool false] 44))
  have NR := hide ((unhide HR).alloc (.cells #[.bool true, .int .i64 0, .int .i64 0, .slice none 0 0, .slice none 0 0, .bool false, .string ⟨#[]⟩, .int .i64 0, .bool false] 44))
  have NT := hide (Cls.new w1 44 #[.bool true, .int .i64 0, .int .i64 0, .slice none 0 0, .slice none 0 0, .bool false, .string ⟨#[]⟩, .int .i64 0, .bool false])
  have NHK0 := hide ((unhide HK0).al (.cells #[.bool true, .int .i64 0, .int .i64 0, .slice none 0 0, .slice none 0 0, .bool false, .string ⟨#[]⟩, .int .i64 0, .bool false] 44))
  clear HA HO HR HK0
  go_upto_region 28 with fail
  generalize (w1.alloc (.cells #[.bool true, .int .i64 0, .int .i64 0, .slice none 0 0, .slice none 0 0, .bool false, .string ⟨#[]⟩, .int .i64 0, .bool false] 44)) = W1 at *
  have HA := NA
  have HO := NO
  have HR := NR
  have HT := NT
  have HK0 := NHK0
  clear NA NO NR NT NHK0
  have NA := hide ((unhide HA).kpf (kpf_drew W1) (fun e => e))
  have NO := hide ((unhide HO).kpf (kpf_drew W1) (fun e => e))
  have NR := hide ((unhide HR).kpf (kpf_drew W1) (fun e => e))
  have NT := hide ((unhide HT).kpf (kpf_drew W1) (fun e => e))
  have NHK0 := hide ((unhide HK0).trans (kpf_drew W1) (fun _ _ e => e.elim))
  clear HA HO HR HT HK0
  have HA := NA
  have HO := NO
  have HR := NR
  have HT := NT
  have HK0 := NHK0
  clear NA NO NR NT NHK0
  have HS0 : Hid (S9 W1.drew (w1.heap.size) (.bool true) (.int .i64 0) (.int .i64 0) (.slice none 0 0) (.slice none 0 0) (.bool false) (.string ⟨#[]⟩) (.int .i64 0) (.bool false)) := hide (unhide HT).cells9
  refine regionL (S := fun z => S9 z (w1.heap.size) (.bool true) (.int .i64 0) (.int .i64 0) (.slice none 0 0) (.slice none 0 0) (.bool false) (.string ⟨#[]⟩) (.int .i64 0) (.bool false)) (fun _ => false) (by kernel_rfl) ?_
  refine anyL_take (i := 0) (v := ?vq39) rfl (by kernel_rfl) (by kernel_rfl) (by kernel_rfl) (by kernel_rfl) (fun _ _ _ h => h) (Or.inl ⟨by rfl, ?hq39⟩) (unhide HS0) ?_
  case hq39 => (intro w hSw; (try dsimp only at hSw); go_simp) <;> with_reducible rfl
  simp only [Act.put, List.getElem_toArray, List.getElem_cons_zero, List.setIfInBounds_toArray, List.set_cons_zero, List.set_cons_succ]
  refine anyL_take (i := 1) (v := ?vq40) rfl (by kernel_rfl) (by kernel_rfl) (by kernel_rfl) (by kernel_rfl) (fun _ _ _ h => h) (Or.inl ⟨by rfl, ?hq40⟩) (unhide HS0) ?_
  case hq40 => (intro w hSw; (try dsimp only at hSw); go_simp) <;> with_reducible rfl
  simp only [Act.put, List.getElem_toArray, List.getElem_cons_zero, List.getElem_cons_succ, List.setIfInBounds_toArray, List.set_cons_zero, List.set_cons_succ]
  refine anyL_take (i := 3) (v := ?vq41) rfl (by kernel_rfl) (by kernel_rfl) (by kernel_rfl) (by kernel_rfl) (fun _ _ _ h => h) (Or.inl ⟨by rfl, ?hq41⟩) (unhide HS0) ?_
  case hq41 => (intro w hSw; (try dsimp only at hSw); go_simp) <;> with_reducible rfl
  simp only [Act.put, List.getElem_toArray, List.getElem_cons_zero, List.getElem_cons_succ, List.setIfInBounds_toArray, List.set_cons_zero, List.set_cons_succ]
  refine anyL_ready (rs := [2]) (by kernel_rfl) (by simp) ?_
  refine AllL.cons rfl (fun K hK => ?_) AllL.nil
  go_simp
  refine (EndNI_at _ ).mono ?_
  rintro y _ ⟨rfl, rfl⟩
  dsimp only
  generalize W1.drew = w3 at *
  have HS3 : Hid (S9 w3 (w1.heap.size) (.bool true) (.int .i64 0) (.int .i64 0) (.slice none 0 0) (.slice none 0 0) (.bool false) (.string ⟨#[]⟩) (.int .i64 0) (.bool false)) := hide (unhide HT).cells9
  refine unhide hK _ _ (fun _ => unhide HS3) ?_
  clear hK K
  refine anyL_take (i := 4) (v := ?vq42) rfl (by kernel_rfl) (by kernel_rfl) (by kernel_rfl) (by kernel_rfl) (fun _ _ _ h => h) (Or.inl ⟨by rfl, ?hq42⟩) (unhide HS3) ?_
  case hq42 => (intro w hSw; (try dsimp only at hSw); go_simp) <;> with_reducible rfl
  simp only [Act.put, List.getElem_toArray, List.getElem_cons_zero, List.getElem_cons_succ, List.setIfInBounds_toArray, List.set_cons_zero, List.set_cons_succ]
  refine anyL_ready (rs := [5]) (by kernel_rfl) (by simp) ?_
  refine AllL.cons rfl (fun K hK => ?_) AllL.nil
  obtain ⟨r_R0, r_R1, r_R2, r_R3, r_R4, r_R5, r_R6, r_R7, r_R8⟩ := (unhide HR).cells9
  obtain ⟨zr_R0, zr_R1, zr_R2, zr_R3, zr_R4, zr_R5, zr_R6, zr_R7, zr_R8⟩ := (unhide HR).froz9
  go_simp
  obtain ⟨W2, hE, NR⟩ := sto9 (unhide HR) (.bool true) (.int .i64 0) (.int .i64 0) (.slice none 0 0) (.slice none 0 0) (.bool false) (.string ⟨#[]⟩) (.int .i64 0) (.bool false)
  rw [hE]
  have NA : Hid (Cls W2 (X.heap.size) 44 _) := hide (by rw [← hE]; exact Cls.oth9 (unhide HA) (by omega))
  have NO : Hid (Cls W2 (X.heap.size + 1) 48 _) := hide (by rw [← hE]; exact Cls.oth9 (unhide HO) (by omega))
  have NT : Hid (Cls W2 (w1.heap.size) 44 _) := hide (by rw [← hE]; exact Cls.oth9 (unhide HT) (by omega))
  have NHK0 : Hid (KpF _ X W2) := hide (by rw [← hE]; exact KpF.upd9 (unhide HK0) (.inr (by first | omega | (dsimp only; omega))))
  clear hE HA HO HR HT HK0
  have HA := NA
  have HO := NO
  have HR := NR
  have HT := NT
  have HK0 := NHK0
  clear NA NO NR NT NHK0
  have HS4 : Hid (S9 W2 (w1.heap.size) (.bool true) (.int .i64 0) (.int .i64 0) (.slice none 0 0) (.slice none 0 0) (.bool false) (.string ⟨#[]⟩) (.int .i64 0) (.bool false)) := hide (unhide HT).cells9
  refine unhide hK _ _ (fun _ => unhide HS4) ?_
  clear hK K
  refine anyL_take (i := 6) (v := ?vq43) rfl (by kernel_rfl) (by kernel_rfl) (by kernel_rfl) (by kernel_rfl) (fun _ _ _ h => h) (Or.inl ⟨by rfl, ?hq43⟩) (unhide HS4) ?_
  case hq43 => (intro w hSw; (try dsimp only at hSw); go_simp) <;> with_reducible rfl
  simp only [Act.put, List.getElem_toArray, List.getElem_cons_zero, List.getElem_cons_succ, List.setIfInBounds_toArray, List.set_cons_zero, List.set_cons_succ]
  refine anyL_done (by kernel_rfl) ?_ _
  obtain ⟨q0, q1, q2, q3, q4, q5, q6, q7, q8⟩ := (unhide HR).cells9
  go_wp2_with fail
  refine bodyPost_ret (v := .tuple #[.agg #[.bool true, .int .i64 0, .int .i64 0, .slice none 0 0, .slice none 0 0, .bool false, .string ⟨#[]⟩, .int .i64 0, .bool false], .bool true]) (by simp [results, Try.results15, go_sem, q0, q1, q2, q3, q4, q5, q6, q7, q8]) rfl ?_
  exact ⟨rfl, (unhide HK0).below (Nat.le_refl _) (fun _ e => e.elim)⟩
set_option maxRecDepth 100000 in
set_option maxHeartbeats 4000000 in
theorem step6I_at (X : World) (F : Nat → Prop) (g : Nat) (p : Pa Int) (D : Nat → Prop) (c : Array Value) (hP : PsI X F g p) (hD : IsD X D c p) (hok : OkP p) (hdj : ∀ i, D i → ¬ F i) (n : Int) (w : ByteArray) (hw : w.size ≤ 281474976710656) :
    Calls Try.prog 15 #[.pointer (some ⟨g, 0, none⟩), .agg c, .agg #[.int .i64 6, .int .i64 n, .string w], .func (.func 6) #[] #[]] X fun y Y => ∃ c' D' G, y = .returned (.tuple #[.agg c', .bool true]) ∧ IsD Y D' c' ((forgetP p).1) ∧ PsI Y G g ((forgetP p).1) ∧ (∀ i, D' i → ¬ G i) ∧ Gr F X G Y ∧ ∀ i, D' i → D i ∨ X.heap.size ≤ i := by
  have HP := hide hP
  have HD := hide hD
  have HOK := hide hok
  have HDJ := hide hdj
  have HW := hide hw
  have HFL := hide hP.lt
  obtain ⟨bA, bN, bC, aA, aN, aC, oS, w0, f0, d0, rfl⟩ := hD.form
  clear hP hD hok hdj hw
  go_enter Try.func15, Try.ntmps15
  go_upto_region 1 with fail
  obtain ⟨W0, hE, HA, HO, HR, HK0⟩ := new3B (fun _ => False) X #[.bool false, .int .i64 p.s, .int .i64 p.m, .slice bA bN bC, .slice aA aN aC, .bool oS, .string w0, .int .i64 f0, .bool d0] 44 #[.int .i64 6, .int .i64 n, .string w] 48 #[.bool false, .int .i64 0, .int .i64 0, .slice none 0 0, .slice none 0 0, .bool false, .string ⟨#[]⟩, .int .i64 0, .bool false] 44
  rw [hE]
  clear hE
  have hltc : X.heap.size + 1 + 1 < W0.heap.size := (unhide HR).lt
  have HC := hide (RForgetA_at W0 D _ p ((unhide HD).kpf (unhide HK0) (fun _ _ e => e)) (unhide HOK) )
  obtain ⟨c_A0, c_A1, c_A2, c_A3, c_A4, c_A5, c_A6, c_A7, c_A8⟩ := (unhide HA).cells9
  obtain ⟨c_O0, c_O1, c_O2⟩ := (unhide HO).cells3
  go_wp2_with fail
  refine (unhide HC).mono ?_
  rintro y w1 ⟨c1, D1, rfl, i1, n1, x1⟩
  dsimp only
  obtain ⟨bA1, bN1, bC1, aA1, aN1, aC1, oS1, w01, f01, d01, rfl⟩ := i1.form
  have HI1 := hide i1
  have HN1 := hide n1
  clear HC i1 n1
  clear c_A0 c_A1 c_A2 c_A3 c_A4 c_A5 c_A6 c_A7 c_A8 c_O0 c_O1 c_O2
  have hcw : W0.heap.size ≤ w1.heap.size := x1.size
  have HX1 := hide x1
  have NA := hide ((unhide HA).kpf (KpF.of (F := fun _ => False) (unhide HX1)) (fun e => e))
  have NO := hide ((unhide HO).kpf (KpF.of (F := fun _ => False) (unhide HX1)) (fun e => e))
  have NR := hide ((unhide HR).kpf (KpF.of (F := fun _ => False) (unhide HX1)) (fun e => e))
  have NHK0 := hide ((unhide HK0).bel (unhide HX1))
  clear HA HO HR HK0
  have HA := NA
  have HO := NO
  have HR := NR
  have HK0 := NHK0
  clear NA NO NR NHK0
  clear x1
  have HKI := hide (KpF.refl (fun _ => False) w1)
  have hgeT : X.heap.size + 1 + 1 < w1.heap.size := (unhide HR).lt
  have NA := hide ((unhide HA).alloc (.cells #[.bool false, .int .i64 ((forgetP p).1).s, .int .i64 ((forgetP p).1).m, .slice bA1 bN1 bC1, .slice aA1 aN1 aC1, .bool oS1, .string w01, .int .i64 f01, .bool d01] 44))
  have NO := hide ((unhide HO).alloc (.cells #[.bool false, .int .i64 ((forgetP p).1).s, .int .i64 ((forgetP p).1).m, .slice bA1 bN1 bC1, .slice aA1 aN1 aC1, .bool oS1, .string w01, .int .i64 f01, .bool d01] 44))
  have NR := hide ((unhide HR).alloc (.cells #[.bool false, .int .i64 ((forgetP p).1).s, .int .i64 ((forgetP p).1).m, .slice bA1 bN1 bC1, .slice aA1 aN1 aC1, .bool oS1, .string w01, .int .i64 f01, .bool d01] 44))
  have NT := hide (Cls.new w1 44 #[.bool false, .int .i64 ((forgetP p).1).s, .int .i64 ((forgetP p).1).m, .slice bA1 bN1 bC1, .slice aA1 aN1 aC1, .bool oS1, .string w01, .int .i64 f01, .bool d01])
  have NHK0 := hide ((unhide HK0).al (.cells #[.bool false, .int .i64 ((forgetP p).1).s, .int .i64 ((forgetP p).1).m, .slice bA1 bN1 bC1, .slice aA1 aN1 aC1, .bool oS1, .string w01, .int .i64 f01, .bool d01] 44))
  have NHKI := hide ((unhide HKI).al (.cells #[.bool false, .int .i64 ((forgetP p).1).s, .int .i64 ((forgetP p).1).m, .slice bA1 bN1 bC1, .slice aA1 aN1 aC1, .bool oS1, .string w01, .int .i64 f01, .bool d01] 44))
  clear HA HO HR HK0 HKI
  go_upto_region 31 with fail
  generalize (w1.alloc (.cells #[.bool false, .int .i64 ((forgetP p).1).s, .int .i64 ((forgetP p).1).m, .slice bA1 bN1 bC1, .slice aA1 aN1 aC1, .bool oS1, .string w01, .int .i64 f01, .bool d01] 44)) = W1 at *
  have HA := NA
  have HO := NO
  have HR := NR
  have HT := NT
  have HK0 := NHK0
  have HKI := NHKI
  clear NA NO NR NT NHK0 NHKI
  have NA := hide ((unhide HA).kpf (kpf_drew W1) (fun e => e))
  have NO := hide ((unhide HO).kpf (kpf_drew W1) (fun e => e))
  have NR := hide ((unhide HR).kpf (kpf_drew W1) (fun e => e))
  have NT := hide ((unhide HT).kpf (kpf_drew W1) (fun e => e))
  have NHK0 := hide ((unhide HK0).trans (kpf_drew W1) (fun _ _ e => e.elim))
  have NHKI := hide ((unhide HKI).trans (kpf_drew W1) (fun _ _ e => e.elim))
  clear HA HO HR HT HK0 HKI
  have HA := NA
  have HO := NO
  have HR := NR
  have HT := NT
  have HK0 := NHK0
  have HKI := NHKI
  clear NA NO NR NT NHK0 NHKI
  have HS0 : Hid (S9 W1.drew (w1.heap.size) (.bool false) (.int .i64 ((forgetP p).1).s) (.int .i64 ((forgetP p).1).m) (.slice bA1 bN1 bC1) (.slice aA1 aN1 aC1) (.bool oS1) (.string w01) (.int .i64 f01) (.bool d01)) := hide (unhide HT).cells9
  refine regionL (S := fun z => S9 z (w1.heap.size) (.bool false) (.int .i64 ((forgetP p).1).s) (.int .i64 ((forgetP p).1).m) (.slice bA1 bN1 bC1) (.slice aA1 aN1 aC1) (.bool oS1) (.string w01) (.int .i64 f01) (.bool d01)) (fun _ => false) (by kernel_rfl) ?_
  refine anyL_take (i := 0) (v := ?vq44) rfl (by kernel_rfl) (by kernel_rfl) (by kernel_rfl) (by kernel_rfl) (fun _ _ _ h => h) (Or.inl ⟨by rfl, ?hq44⟩) (unhide HS0) ?_
  case hq44 => (intro w hSw; (try dsimp only at hSw); go_simp) <;> with_reducible rfl
  simp only [Act.put, List.getElem_toArray, List.getElem_cons_zero, List.setIfInBounds_toArray, List.set_cons_zero, List.set_cons_succ]
  refine anyL_take (i := 1) (v := ?vq45) rfl (by kernel_rfl) (by kernel_rfl) (by kernel_rfl) (by kernel_rfl) (fun _ _ _ h => h) (Or.inl ⟨by rfl, ?hq45⟩) (unhide HS0) ?_
  case hq45 => (intro w hSw; (try dsimp only at hSw); go_simp) <;> with_reducible rfl
  simp only [Act.put, List.getElem_toArray, List.getElem_cons_zero, List.getElem_cons_succ, List.setIfInBounds_toArray, List.set_cons_zero, List.set_cons_succ]
  refine anyL_take (i := 3) (v := ?vq46) rfl (by kernel_rfl) (by kernel_rfl) (by kernel_rfl) (by kernel_rfl) (fun _ _ _ h => h) (Or.inl ⟨by rfl, ?hq46⟩) (unhide HS0) ?_
  case hq46 => (intro w hSw; (try dsimp only at hSw); go_simp) <;> with_reducible rfl
  simp only [Act.put, List.getElem_toArray, List.getElem_cons_zero, List.getElem_cons_succ, List.setIfInBounds_toArray, List.set_cons_zero, List.set_cons_succ]
  refine anyL_ready (rs := [2]) (by kernel_rfl) (by simp) ?_
  refine AllL.cons rfl (fun K hK => ?_) AllL.nil
  go_simp
  have HI2 := hide ((unhide HI1).kpf (unhide HKI) (fun _ _ e => e))
  have HPA := hide ((unhide HP).kpf (unhide HK0) (fun _ _ e => e))
  have hc2 : W0.heap.size ≤ W1.drew.heap.size := Nat.le_trans hcw (unhide HKI).size
  refine (ForgetA_at _ F g p (unhide HPA) ).mono ?_
  rintro y w3 ⟨rfl, G, i3, g3⟩
  dsimp only
  have HI3 := hide i3
  have HG3 := hide g3
  have HX2 := HK0
  have NA := hide ((unhide HA).kpf g3.kp (fun e => by have := unhide HFL _ e; omega))
  have NO := hide ((unhide HO).kpf g3.kp (fun e => by have := unhide HFL _ e; omega))
  have NR := hide ((unhide HR).kpf g3.kp (fun e => by have := unhide HFL _ e; omega))
  have NT := hide ((unhide HT).kpf g3.kp (fun e => by have := unhide HFL _ e; omega))
  clear HA HO HR HT HK0 HKI
  have HA := NA
  have HO := NO
  have HR := NR
  have HT := NT
  clear NA NO NR NT
  have HK1 := hide (KpF.refl (fun i => X.heap.size ≤ i ∧ i < W0.heap.size) w3)
  clear i3 g3
  have HS3 : Hid (S9 w3 (w1.heap.size) (.bool false) (.int .i64 ((forgetP p).1).s) (.int .i64 ((forgetP p).1).m) (.slice bA1 bN1 bC1) (.slice aA1 aN1 aC1) (.bool oS1) (.string w01) (.int .i64 f01) (.bool d01)) := hide (unhide HT).cells9
  refine unhide hK _ _ (fun _ => unhide HS3) ?_
  clear hK K
  refine anyL_take (i := 4) (v := ?vq47) rfl (by kernel_rfl) (by kernel_rfl) (by kernel_rfl) (by kernel_rfl) (fun _ _ _ h => h) (Or.inl ⟨by rfl, ?hq47⟩) (unhide HS3) ?_
  case hq47 => (intro w hSw; (try dsimp only at hSw); go_simp) <;> with_reducible rfl
  simp only [Act.put, List.getElem_toArray, List.getElem_cons_zero, List.getElem_cons_succ, List.setIfInBounds_toArray, List.set_cons_zero, List.set_cons_succ]
  refine anyL_ready (rs := [5]) (by kernel_rfl) (by simp) ?_
  refine AllL.cons rfl (fun K hK => ?_) AllL.nil
  obtain ⟨r_R0, r_R1, r_R2, r_R3, r_R4, r_R5, r_R6, r_R7, r_R8⟩ := (unhide HR).cells9
  obtain ⟨zr_R0, zr_R1, zr_R2, zr_R3, zr_R4, zr_R5, zr_R6, zr_R7, zr_R8⟩ := (unhide HR).froz9
  go_simp
  obtain ⟨W2, hE, NR⟩ := sto9 (unhide HR) (.bool false) (.int .i64 ((forgetP p).1).s) (.int .i64 ((forgetP p).1).m) (.slice bA1 bN1 bC1) (.slice aA1 aN1 aC1) (.bool oS1) (.string w01) (.int .i64 f01) (.bool d01)
  rw [hE]
  have NA : Hid (Cls W2 (X.heap.size) 44 _) := hide (by rw [← hE]; exact Cls.oth9 (unhide HA) (by omega))
  have NO : Hid (Cls W2 (X.heap.size + 1) 48 _) := hide (by rw [← hE]; exact Cls.oth9 (unhide HO) (by omega))
  have NT : Hid (Cls W2 (w1.heap.size) 44 _) := hide (by rw [← hE]; exact Cls.oth9 (unhide HT) (by omega))
  have NHK1 : Hid (KpF _ w3 W2) := hide (by rw [← hE]; exact KpF.upd9 (unhide HK1) (.inl ⟨by first | omega | (dsimp only; omega), by first | omega | (dsimp only; omega)⟩))
  clear hE HA HO HR HT HK1
  have HA := NA
  have HO := NO
  have HR := NR
  have HT := NT
  have HK1 := NHK1
  clear NA NO NR NT NHK1
  have HS4 : Hid (S9 W2 (w1.heap.size) (.bool false) (.int .i64 ((forgetP p).1).s) (.int .i64 ((forgetP p).1).m) (.slice bA1 bN1 bC1) (.slice aA1 aN1 aC1) (.bool oS1) (.string w01) (.int .i64 f01) (.bool d01)) := hide (unhide HT).cells9
  refine unhide hK _ _ (fun _ => unhide HS4) ?_
  clear hK K
  refine anyL_take (i := 6) (v := ?vq48) rfl (by kernel_rfl) (by kernel_rfl) (by kernel_rfl) (by kernel_rfl) (fun _ _ _ h => h) (Or.inl ⟨by rfl, ?hq48⟩) (unhide HS4) ?_
  case hq48 => (intro w hSw; (try dsimp only at hSw); go_simp) <;> with_reducible rfl
  simp only [Act.put, List.getElem_toArray, List.getElem_cons_zero, List.getElem_cons_succ, List.setIfInBounds_toArray, List.set_cons_zero, List.set_cons_succ]
  refine anyL_done (by kernel_rfl) ?_ _
  obtain ⟨q0, q1, q2, q3, q4, q5, q6, q7, q8⟩ := (unhide HR).cells9
  go_wp2_with fail
  refine bodyPost_ret (v := .tuple #[.agg #[.bool false, .int .i64 ((forgetP p).1).s, .int .i64 ((forgetP p).1).m, .slice bA1 bN1 bC1, .slice aA1 aN1 aC1, .bool oS1, .string w01, .int .i64 f01, .bool d01], .bool true]) (by simp [results, Try.results15, go_sem, q0, q1, q2, q3, q4, q5, q6, q7, q8]) rfl ?_
  obtain ⟨z1, z2, z3, z4, z5⟩ := stepEndI (unhide HFL) (unhide HD).lt (unhide HDJ) (unhide HX2) (by omega) hc2 (unhide HI2) (unhide HN1) (unhide HG3) (unhide HI3) (unhide HK1)
  exact ⟨_, D1, G, rfl, z1, z2, z3, z4, z5⟩
set_option maxRecDepth 100000 in
set_option maxHeartbeats 4000000 in
theorem step6BI_at (X : World) (n : Int) (w : ByteArray) :
    Calls Try.prog 15 #[.pointer none, .agg cBad, .agg #[.int .i64 6, .int .i64 n, .string w], .func (.func 6) #[] #[]] X fun y Y => y = .returned (.tuple #[.agg cBad, .bool true]) ∧ Below X.heap.size X Y := by
  unfold cBad
  go_enter Try.func15, Try.ntmps15
  go_upto_region 1 with fail
  obtain ⟨W0, hE, HA, HO, HR, HK0⟩ := new3B (fun _ => False) X #[.bool true, .int .i64 0, .int .i64 0, .slice none 0 0, .slice none 0 0, .bool false, .string ⟨#[]⟩, .int .i64 0, .bool false] 44 #[.int .i64 6, .int .i64 n, .string w] 48 #[.bool false, .int .i64 0, .int .i64 0, .slice none 0 0, .slice none 0 0, .bool false, .string ⟨#[]⟩, .int .i64 0, .bool false] 44
  rw [hE]
  clear hE
  have hltc : X.heap.size + 1 + 1 < W0.heap.size := (unhide HR).lt
  have HC := hide (RForgetB_at W0 )
  unfold cBad at HC
  obtain ⟨c_A0, c_A1, c_A2, c_A3, c_A4, c_A5, c_A6, c_A7, c_A8⟩ := (unhide HA).cells9
  obtain ⟨c_O0, c_O1, c_O2⟩ := (unhide HO).cells3
  go_wp2_with fail
  refine (unhide HC).mono ?_
  rintro y w1 ⟨rfl, x1⟩
  dsimp only
  clear HC
  clear c_A0 c_A1 c_A2 c_A3 c_A4 c_A5 c_A6 c_A7 c_A8 c_O0 c_O1 c_O2
  have hcw : W0.heap.size ≤ w1.heap.size := x1.size
  have HX1 := hide x1
  have NA := hide ((unhide HA).kpf (KpF.of (F := fun _ => False) (unhide HX1)) (fun e => e))
  have NO := hide ((unhide HO).kpf (KpF.of (F := fun _ => False) (unhide HX1)) (fun e => e))
  have NR := hide ((unhide HR).kpf (KpF.of (F := fun _ => False) (unhide HX1)) (fun e => e))
  have NHK0 := hide ((unhide HK0).bel (unhide HX1))
  clear HA HO HR HK0
  have HA := NA
  have HO := NO
  have HR := NR
  have HK0 := NHK0
  clear NA NO NR NHK0
  clear x1
  have hgeT : X.heap.size + 1 + 1 < w1.heap.size := (unhide HR).lt
  have NA := hide ((unhide HA).alloc (.cells #[.bool true, .int .i64 0, .int .i64 0, .slice none 0 0, .slice none 0 0, .bool false, .string ⟨#[]⟩, .int .i64 0, .bool false] 44))
  have NO := hide ((unhide HO).alloc (.cells #[.bool true, .int .i64 0, .int .i64 0, .slice none 0 0, .slice none 0 0, .bool false, .string ⟨#[]⟩, .int .i64 0, .bool false] 44))
  have NR := hide ((unhide HR).alloc (.cells #[.bool true, .int .i64 0, .int .i64 0, .slice none 0 0, .slice none 0 0, .bool false, .string ⟨#[]⟩, .int .i64 0, .bool false] 44))
  have NT := hide (Cls.new w1 44 #[.bool true, .int .i64 0, .int .i64 0, .slice none 0 0, .slice none 0 0, .bool false, .string ⟨#[]⟩, .int .i64 0, .bool false])
  have NHK0 := hide ((unhide HK0).al (.cells #[.bool true, .int .i64 0, .int .i64 0, .slice none 0 0, .slice none 0 0, .bool false, .string ⟨#[]⟩, .int .i64 0, .bool false] 44))
  clear HA HO HR HK0
  go_upto_region 31 with fail
  generalize (w1.alloc (.cells #[.bool true, .int .i64 0, .int .i64 0, .slice none 0 0, .slice none 0 0, .bool false, .string ⟨#[]⟩, .int .i64 0, .bool false] 44)) = W1 at *
  have HA := NA
  have HO := NO
  have HR := NR
  have HT := NT
  have HK0 := NHK0
  clear NA NO NR NT NHK0
  have NA := hide ((unhide HA).kpf (kpf_drew W1) (fun e => e))
  have NO := hide ((unhide HO).kpf (kpf_drew W1) (fun e => e))
  have NR := hide ((unhide HR).kpf (kpf_drew W1) (fun e => e))
  have NT := hide ((unhide HT).kpf (kpf_drew W1) (fun e => e))
  have NHK0 := hide ((unhide HK0).trans (kpf_drew W1) (fun _ _ e => e.elim))
  clear HA HO HR HT HK0
  have HA := NA
  have HO := NO
  have HR := NR
  have HT := NT
  have HK0 := NHK0
  clear NA NO NR NT NHK0
  have HS0 : Hid (S9 W1.drew (w1.heap.size) (.bool true) (.int .i64 0) (.int .i64 0) (.slice none 0 0) (.slice none 0 0) (.bool false) (.string ⟨#[]⟩) (.int .i64 0) (.bool false)) := hide (unhide HT).cells9
  refine regionL (S := fun z => S9 z (w1.heap.size) (.bool true) (.int .i64 0) (.int .i64 0) (.slice none 0 0) (.slice none 0 0) (.bool false) (.string ⟨#[]⟩) (.int .i64 0) (.bool false)) (fun _ => false) (by kernel_rfl) ?_
  refine anyL_take (i := 0) (v := ?vq49) rfl (by kernel_rfl) (by kernel_rfl) (by kernel_rfl) (by kernel_rfl) (fun _ _ _ h => h) (Or.inl ⟨by rfl, ?hq49⟩) (unhide HS0) ?_
  case hq49 => (intro w hSw; (try dsimp only at hSw); go_simp) <;> with_reducible rfl
  simp only [Act.put, List.getElem_toArray, List.getElem_cons_zero, List.setIfInBounds_toArray, List.set_cons_zero, List.set_cons_succ]
  refine anyL_take (i := 1) (v := ?vq50) rfl (by kernel_rfl) (by kernel_rfl) (by kernel_rfl) (by kernel_rfl) (fun _ _ _ h => h) (Or.inl ⟨by rfl, ?hq50⟩) (unhide HS0) ?_
  case hq50 => (intro w hSw; (try dsimp only at hSw); go_simp) <;> with_reducible rfl
  simp only [Act.put, List.getElem_toArray, List.getElem_cons_zero, List.getElem_cons_succ, List.setIfInBounds_toArray, List.set_cons_zero, List.set_cons_succ]
  refine anyL_take (i := 3) (v := ?vq51) rfl (by kernel_rfl) (by kernel_rfl) (by kernel_rfl) (by kernel_rfl) (fun _ _ _ h => h) (Or.inl ⟨by rfl, ?hq51⟩) (unhide HS0) ?_
  case hq51 => (intro w hSw; (try dsimp only at hSw); go_simp) <;> with_reducible rfl
  simp only [Act.put, List.getElem_toArray, List.getElem_cons_zero, List.getElem_cons_succ, List.setIfInBounds_toArray, List.set_cons_zero, List.set_cons_succ]
  refine anyL_ready (rs := [2]) (by kernel_rfl) (by simp) ?_
  refine AllL.cons rfl (fun K hK => ?_) AllL.nil
  go_simp
  refine (ForgetNI_at _ ).mono ?_
  rintro y _ ⟨rfl, rfl⟩
  dsimp only
  generalize W1.drew = w3 at *
  have HS3 : Hid (S9 w3 (w1.heap.size) (.bool true) (.int .i64 0) (.int .i64 0) (.slice none 0 0) (.slice none 0 0) (.bool false) (.string ⟨#[]⟩) (.int .i64 0) (.bool false)) := hide (unhide HT).cells9
  refine unhide hK _ _ (fun _ => unhide HS3) ?_
  clear hK K
  refine anyL_take (i := 4) (v := ?vq52) rfl (by kernel_rfl) (by kernel_rfl) (by kernel_rfl) (by kernel_rfl) (fun _ _ _ h => h) (Or.inl ⟨by rfl, ?hq52⟩) (unhide HS3) ?_
  case hq52 => (intro w hSw; (try dsimp only at hSw); go_simp) <;> with_reducible rfl
  simp only [Act.put, List.getElem_toArray, List.getElem_cons_zero, List.getElem_cons_succ, List.setIfInBounds_toArray, List.set_cons_zero, List.set_cons_succ]
  refine anyL_ready (rs := [5]) (by kernel_rfl) (by simp) ?_
  refine AllL.cons rfl (fun K hK => ?_) AllL.nil
  obtain ⟨r_R0, r_R1, r_R2, r_R3, r_R4, r_R5, r_R6, r_R7, r_R8⟩ := (unhide HR).cells9
  obtain ⟨zr_R0, zr_R1, zr_R2, zr_R3, zr_R4, zr_R5, zr_R6, zr_R7, zr_R8⟩ := (unhide HR).froz9
  go_simp
  obtain ⟨W2, hE, NR⟩ := sto9 (unhide HR) (.bool true) (.int .i64 0) (.int .i64 0) (.slice none 0 0) (.slice none 0 0) (.bool false) (.string ⟨#[]⟩) (.int .i64 0) (.bool false)
  rw [hE]
  have NA : Hid (Cls W2 (X.heap.size) 44 _) := hide (by rw [← hE]; exact Cls.oth9 (unhide HA) (by omega))
  have NO : Hid (Cls W2 (X.heap.size + 1) 48 _) := hide (by rw [← hE]; exact Cls.oth9 (unhide HO) (by omega))
  have NT : Hid (Cls W2 (w1.heap.size) 44 _) := hide (by rw [← hE]; exact Cls.oth9 (unhide HT) (by omega))
  have NHK0 : Hid (KpF _ X W2) := hide (by rw [← hE]; exact KpF.upd9 (unhide HK0) (.inr (by first | omega | (dsimp only; omega))))
  clear hE HA HO HR HT HK0
  have HA := NA
  have HO := NO
  have HR := NR
  have HT := NT
  have HK0 := NHK0
  clear NA NO NR NT NHK0
  have HS4 : Hid (S9 W2 (w1.heap.size) (.bool true) (.int .i64 0) (.int .i64 0) (.slice none 0 0) (.slice none 0 0) (.bool false) (.string ⟨#[]⟩) (.int .i64 0) (.bool false)) := hide (unhide HT).cells9
  refine unhide hK _ _ (fun _ => unhide HS4) ?_
  clear hK K
  refine anyL_take (i := 6) (v := ?vq53) rfl (by kernel_rfl) (by kernel_rfl) (by kernel_rfl) (by kernel_rfl) (fun _ _ _ h => h) (Or.inl ⟨by rfl, ?hq53⟩) (unhide HS4) ?_
  case hq53 => (intro w hSw; (try dsimp only at hSw); go_simp) <;> with_reducible rfl
  simp only [Act.put, List.getElem_toArray, List.getElem_cons_zero, List.getElem_cons_succ, List.setIfInBounds_toArray, List.set_cons_zero, List.set_cons_succ]
  refine anyL_done (by kernel_rfl) ?_ _
  obtain ⟨q0, q1, q2, q3, q4, q5, q6, q7, q8⟩ := (unhide HR).cells9
  go_wp2_with fail
  refine bodyPost_ret (v := .tuple #[.agg #[.bool true, .int .i64 0, .int .i64 0, .slice none 0 0, .slice none 0 0, .bool false, .string ⟨#[]⟩, .int .i64 0, .bool false], .bool true]) (by simp [results, Try.results15, go_sem, q0, q1, q2, q3, q4, q5, q6, q7, q8]) rfl ?_
  exact ⟨rfl, (unhide HK0).below (Nat.le_refl _) (fun _ e => e.elim)⟩
end Go.Proofs.Ytdemfejladepjaa
