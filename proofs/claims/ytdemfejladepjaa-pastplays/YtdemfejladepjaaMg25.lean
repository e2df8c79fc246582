/- Layer 17: galleylaw17.step of a past of states galley/galleylaw17.Pair. Written by wip/tools/pve.py. -/
import Derived.Test.YtdemfejladepjaaMg21

namespace Go.Proofs.Ytdemfejladepjaa
open Go.ChangeShapes Go.WideShapes Go.ChangeAt Go.RowKit
attribute [local go_sem] Oper.semAt_some

theorem stepEndQ {X Wc W2 w3 WF : World} {F G D D1 : Nat → Prop} {g : Nat} {c1 : Array Value} {p : Pa Int} (hF : ∀ i, F i → i < X.heap.size) (hD : ∀ i, D i → i < X.heap.size) (dj : ∀ i, D i → ¬ F i) (h2 : KpF (fun _ => False) X W2) (hXc : X.heap.size ≤ Wc.heap.size) (hc2 : Wc.heap.size ≤ W2.heap.size)
    (d1 : IsD W2 D1 c1 p) (n1 : ∀ i, D1 i → D i ∨ Wc.heap.size ≤ i) (g3 : Gr F W2 G w3) (i3 : PsQ w3 G g (mpQ p)) (kf : KpF (fun i => X.heap.size ≤ i ∧ i < Wc.heap.size) w3 WF) :
    IsD WF D1 c1 p ∧ PsQ WF G g (mpQ p) ∧ (∀ i, D1 i → ¬ G i) ∧ Gr F X G WF ∧ ∀ i, D1 i → D i ∨ X.heap.size ≤ i := by
  have a1 : ∀ i, D1 i → ¬ F i := fun i hi hf => by
    rcases n1 i hi with e | e
    · exact dj i e hf
    · have := hF i hf; omega
  have a2 : ∀ i, D1 i → ¬ G i := fun i hi => g3.out (d1.lt i hi) (a1 i hi)
  have a3 : ∀ i, D1 i → ¬ (X.heap.size ≤ i ∧ i < Wc.heap.size) := fun i hi hl => by
    rcases n1 i hi with e | e
    · have := hD i e; omega
    · omega
  have a4 : ∀ i, G i → ¬ (X.heap.size ≤ i ∧ i < Wc.heap.size) := fun i hi hl => by
    rcases g3.new i hi with e | e
    · have := hF i e; omega
    · omega
  have gX : Gr F X F W2 := ⟨h2.mono (fun _ _ e => e.elim), fun _ e => .inl e⟩
  refine ⟨(d1.kpf g3.kp a1).kpf kf a3, i3.kpf kf a4, a2, ⟨(gX.trans g3).kp.trans kf (fun i hi e => by omega), (gX.trans g3).new⟩, fun i hi => ?_⟩
  rcases n1 i hi with e | e
  · exact .inl e
  · exact .inr (by omega)
set_option maxRecDepth 100000 in
set_option maxHeartbeats 4000000 in
theorem of2_at (n : Int) (X : World) : Calls Try.prog 8 #[.int .i64 n] X fun y Y => y = .returned (.agg #[.int .i64 n, .string sS]) ∧ Below X.heap.size X Y := by
  have k1 := Cls.new X 28 #[.int .i64 0, .string ⟨#[]⟩]
  have a0 := k1.cell 0
  have a1 := k1.cell 1
  have f0 := k1.frozen 0
  have f1 := k1.frozen 1
  have k2 := (k1.set 0 (.int .i64 n)).set 1 (.string ⟨#[115]⟩)
  have HB := hide ((((Below.refl X.heap.size X).alloc (Nat.le_refl _) (.cells #[.int .i64 0, .string ⟨#[]⟩] 28)).setCell (p := ⟨X.heap.size, 0, none⟩) (Nat.le_refl _) (.int .i64 n)).setCell (p := ⟨X.heap.size, 1, none⟩) (Nat.le_refl _) (.string ⟨#[115]⟩))
  have q0 := k2.cell 0
  have q1 := k2.cell 1
  simp only [List.getElem?_toArray, List.getElem?_cons_zero, List.getElem?_cons_succ, List.setIfInBounds_toArray, List.set_cons_zero, List.set_cons_succ] at q0 q1 a0 a1
  clear k1 k2
  go_enter Try.func8, Try.ntmps8
  go_upto_region 1 with fail
  generalize X.alloc (.cells #[.int .i64 0, .string ⟨#[]⟩] 28) = X1 at *
  go_wp2_with fail
  generalize ((X1.setCell ⟨X.heap.size, 0, none⟩ (.int .i64 n)).setCell ⟨X.heap.size, 1, none⟩ (.string ⟨#[115]⟩)) = W at *
  exact bodyPost_ret (v := .agg #[.int .i64 n, .string sS]) (by simp [results, Try.results8, go_sem, q0, q1, sS]) rfl ⟨rfl, unhide HB⟩
set_option maxRecDepth 100000 in
set_option maxHeartbeats 4000000 in
theorem step1Q_at (X : World) (F : Nat → Prop) (g : Nat) (p : Pa Int) (D : Nat → Prop) (c : Array Value) (hP : PsQ X F g (mpQ p)) (hD : IsD X D c p) (hok : OkP p) (hdj : ∀ i, D i → ¬ F i) (n : Int) (w : ByteArray) (hw : w.size ≤ 281474976710656) :
    Calls Try.prog 21 #[.pointer (some ⟨g, 0, none⟩), .agg c, .agg #[.int .i64 1, .int .i64 n, .string w], .func (.func 8) #[] #[]] X fun y Y => ∃ c' D' G, y = .returned (.tuple #[.agg c', .bool true]) ∧ IsD Y D' c' (doP p n w) ∧ PsQ Y G g (mpQ (doP p n w)) ∧ (∀ i, D' i → ¬ G i) ∧ Gr F X G Y ∧ ∀ i, D' i → D i ∨ X.heap.size ≤ i := by
  have HP := hide hP
  have HD := hide hD
  have HOK := hide hok
  have HDJ := hide hdj
  have HW := hide hw
  have HFL := hide hP.lt
  obtain ⟨bA, bN, bC, aA, aN, aC, oS, w0, f0, d0, rfl⟩ := hD.form
  clear hP hD hok hdj hw
  have HA : Hid (Cls (((X.alloc (.cells #[.bool false, .int .i64 p.s, .int .i64 p.m, .slice bA bN bC, .slice aA aN aC, .bool oS, .string w0, .int .i64 f0, .bool d0] 44)).alloc (.cells #[.int .i64 1, .int .i64 n, .string w] 48)).alloc (.cells #[.bool false, .int .i64 0, .int .i64 0, .slice none 0 0, .slice none 0 0, .bool false, .string ⟨#[]⟩, .int .i64 0, .bool false] 44)) (X.heap.size) 44 #[.bool false, .int .i64 p.s, .int .i64 p.m, .slice bA bN bC, .slice aA aN aC, .bool oS, .string w0, .int .i64 f0, .bool d0]) := hide (by simpa using ((Cls.new X 44 #[.bool false, .int .i64 p.s, .int .i64 p.m, .slice bA bN bC, .slice aA aN aC, .bool oS, .string w0, .int .i64 f0, .bool d0]).alloc (.cells #[.int .i64 1, .int .i64 n, .string w] 48)).alloc (.cells #[.bool false, .int .i64 0, .int .i64 0, .slice none 0 0, .slice none 0 0, .bool false, .string ⟨#[]⟩, .int .i64 0, .bool false] 44))
  have HO : Hid (Cls (((X.alloc (.cells #[.bool false, .int .i64 p.s, .int .i64 p.m, .slice bA bN bC, .slice aA aN aC, .bool oS, .string w0, .int .i64 f0, .bool d0] 44)).alloc (.cells #[.int .i64 1, .int .i64 n, .string w] 48)).alloc (.cells #[.bool false, .int .i64 0, .int .i64 0, .slice none 0 0, .slice none 0 0, .bool false, .string ⟨#[]⟩, .int .i64 0, .bool false] 44)) (X.heap.size + 1) 48 #[.int .i64 1, .int .i64 n, .string w]) := hide (by simpa using (Cls.new (X.alloc (.cells #[.bool false, .int .i64 p.s, .int .i64 p.m, .slice bA bN bC, .slice aA aN aC, .bool oS, .string w0, .int .i64 f0, .bool d0] 44)) 48 #[.int .i64 1, .int .i64 n, .string w]).alloc (.cells #[.bool false, .int .i64 0, .int .i64 0, .slice none 0 0, .slice none 0 0, .bool false, .string ⟨#[]⟩, .int .i64 0, .bool false] 44))
  have HR : Hid (Cls (((X.alloc (.cells #[.bool false, .int .i64 p.s, .int .i64 p.m, .slice bA bN bC, .slice aA aN aC, .bool oS, .string w0, .int .i64 f0, .bool d0] 44)).alloc (.cells #[.int .i64 1, .int .i64 n, .string w] 48)).alloc (.cells #[.bool false, .int .i64 0, .int .i64 0, .slice none 0 0, .slice none 0 0, .bool false, .string ⟨#[]⟩, .int .i64 0, .bool false] 44)) (X.heap.size + 1 + 1) 44 #[.bool false, .int .i64 0, .int .i64 0, .slice none 0 0, .slice none 0 0, .bool false, .string ⟨#[]⟩, .int .i64 0, .bool false]) := hide (by simpa using Cls.new ((X.alloc (.cells #[.bool false, .int .i64 p.s, .int .i64 p.m, .slice bA bN bC, .slice aA aN aC, .bool oS, .string w0, .int .i64 f0, .bool d0] 44)).alloc (.cells #[.int .i64 1, .int .i64 n, .string w] 48)) 44 #[.bool false, .int .i64 0, .int .i64 0, .slice none 0 0, .slice none 0 0, .bool false, .string ⟨#[]⟩, .int .i64 0, .bool false])
  have HK0 : Hid (KpF (fun _ => False) X (((X.alloc (.cells #[.bool false, .int .i64 p.s, .int .i64 p.m, .slice bA bN bC, .slice aA aN aC, .bool oS, .string w0, .int .i64 f0, .bool d0] 44)).alloc (.cells #[.int .i64 1, .int .i64 n, .string w] 48)).alloc (.cells #[.bool false, .int .i64 0, .int .i64 0, .slice none 0 0, .slice none 0 0, .bool false, .string ⟨#[]⟩, .int .i64 0, .bool false] 44))) := hide ((((KpF.refl (fun _ => False) X).al _).al _).al _)
  go_enter Try.func21, Try.ntmps21
  go_upto_region 1 with fail
  generalize (((X.alloc (.cells #[.bool false, .int .i64 p.s, .int .i64 p.m, .slice bA bN bC, .slice aA aN aC, .bool oS, .string w0, .int .i64 f0, .bool d0] 44)).alloc (.cells #[.int .i64 1, .int .i64 n, .string w] 48)).alloc (.cells #[.bool false, .int .i64 0, .int .i64 0, .slice none 0 0, .slice none 0 0, .bool false, .string ⟨#[]⟩, .int .i64 0, .bool false] 44)) = W0 at *
  have hltc : X.heap.size + 1 + 1 < W0.heap.size := (unhide HR).lt
  have HC := hide (RDoA_at W0 D _ p ((unhide HD).kpf (unhide HK0) (fun _ _ e => e)) (unhide HOK) n w)
  have c_A0 : W0.cell? ⟨X.heap.size, 0, none⟩ = some (.bool false) := ((unhide HA).cell 0).trans rfl
  have c_A1 : W0.cell? ⟨X.heap.size, 1, none⟩ = some (.int .i64 p.s) := ((unhide HA).cell 1).trans rfl
  have c_A2 : W0.cell? ⟨X.heap.size, 2, none⟩ = some (.int .i64 p.m) := ((unhide HA).cell 2).trans rfl
  have c_A3 : W0.cell? ⟨X.heap.size, 3, none⟩ = some (.slice bA bN bC) := ((unhide HA).cell 3).trans rfl
  have c_A4 : W0.cell? ⟨X.heap.size, 4, none⟩ = some (.slice aA aN aC) := ((unhide HA).cell 4).trans rfl
  have c_A5 : W0.cell? ⟨X.heap.size, 5, none⟩ = some (.bool oS) := ((unhide HA).cell 5).trans rfl
  have c_A6 : W0.cell? ⟨X.heap.size, 6, none⟩ = some (.string w0) := ((unhide HA).cell 6).trans rfl
  have c_A7 : W0.cell? ⟨X.heap.size, 7, none⟩ = some (.int .i64 f0) := ((unhide HA).cell 7).trans rfl
  have c_A8 : W0.cell? ⟨X.heap.size, 8, none⟩ = some (.bool d0) := ((unhide HA).cell 8).trans rfl
  have c_O0 : W0.cell? ⟨X.heap.size + 1, 0, none⟩ = some (.int .i64 1) := ((unhide HO).cell 0).trans rfl
  have c_O1 : W0.cell? ⟨X.heap.size + 1, 1, none⟩ = some (.int .i64 n) := ((unhide HO).cell 1).trans rfl
  have c_O2 : W0.cell? ⟨X.heap.size + 1, 2, none⟩ = some (.string w) := ((unhide HO).cell 2).trans rfl
  go_wp2_with fail
  refine (unhide HC).mono ?_
  rintro y w1 ⟨c1, D1, rfl, i1, n1, x1⟩
  dsimp only
  obtain ⟨bA1, bN1, bC1, aA1, aN1, aC1, oS1, w01, f01, d01, rfl⟩ := i1.form
  have HI1 := hide i1
  have HN1 := hide n1
  clear HC i1 n1
  clear c_A0 c_A1 c_A2 c_A3 c_A4 c_A5 c_A6 c_A7 c_A8 c_O0 c_O1 c_O2
  have hcw : W0.heap.size ≤ w1.heap.size := x1.size
  have HX1 := hide x1
  have NA := hide ((unhide HA).kpf (KpF.of (F := fun _ => False) (unhide HX1)) (fun e => e))
  have NO := hide ((unhide HO).kpf (KpF.of (F := fun _ => False) (unhide HX1)) (fun e => e))
  have NR := hide ((unhide HR).kpf (KpF.of (F := fun _ => False) (unhide HX1)) (fun e => e))
  have NHK0 := hide ((unhide HK0).bel (unhide HX1))
  clear HA HO HR HK0
  have HA := NA
  have HO := NO
  have HR := NR
  have HK0 := NHK0
  clear NA NO NR NHK0
  clear x1
  have HKI := hide (KpF.refl (fun _ => False) w1)
  have hgeT : X.heap.size + 1 + 1 < w1.heap.size := (unhide HR).lt
  have NA := hide ((unhide HA).alloc (.cells #[.bool false, .int .i64 (doP p n w).s, .int .i64 (doP p n w).m, .slice bA1 bN1 bC1, .slice aA1 aN1 aC1, .bool oS1, .string w01, .int .i64 f01, .bool d01] 44))
  have NO := hide ((unhide HO).alloc (.cells #[.bool false, .int .i64 (doP p n w).s, .int .i64 (doP p n w).m, .slice bA1 bN1 bC1, .slice aA1 aN1 aC1, .bool oS1, .string w01, .int .i64 f01, .bool d01] 44))
  have NR := hide ((unhide HR).alloc (.cells #[.bool false, .int .i64 (doP p n w).s, .int .i64 (doP p n w).m, .slice bA1 bN1 bC1, .slice aA1 aN1 aC1, .bool oS1, .string w01, .int .i64 f01, .bool d01] 44))
  have NT := hide (Cls.new w1 44 #[.bool false, .int .i64 (doP p n w).s, .int .i64 (doP p n w).m, .slice bA1 bN1 bC1, .slice aA1 aN1 aC1, .bool oS1, .string w01, .int .i64 f01, .bool d01])
  have NHK0 := hide ((unhide HK0).al (.cells #[.bool false, .int .i64 (doP p n w).s, .int .i64 (doP p n w).m, .slice bA1 bN1 bC1, .slice aA1 aN1 aC1, .bool oS1, .string w01, .int .i64 f01, .bool d01] 44))
  have NHKI := hide ((unhide HKI).al (.cells #[.bool false, .int .i64 (doP p n w).s, .int .i64 (doP p n w).m, .slice bA1 bN1 bC1, .slice aA1 aN1 aC1, .bool oS1, .string w01, .int .i64 f01, .bool d01] 44))
  clear HA HO HR HK0 HKI
  go_upto_region 4 with fail
  generalize (w1.alloc (.cells #[.bool false, .int .i64 (doP p n w).s, .int .i64 (doP p n w).m, .slice bA1 bN1 bC1, .slice aA1 aN1 aC1, .bool oS1, .string w01, .int .i64 f01, .bool d01] 44)) = W1 at *
  have HA := NA
  have HO := NO
  have HR := NR
  have HT := NT
  have HK0 := NHK0
  have HKI := NHKI
  clear NA NO NR NT NHK0 NHKI
  have NA := hide ((unhide HA).kpf (kpf_drew W1) (fun e => e))
  have NO := hide ((unhide HO).kpf (kpf_drew W1) (fun e => e))
  have NR := hide ((unhide HR).kpf (kpf_drew W1) (fun e => e))
  have NT := hide ((unhide HT).kpf (kpf_drew W1) (fun e => e))
  have NHK0 := hide ((unhide HK0).trans (kpf_drew W1) (fun _ _ e => e))
  have NHKI := hide ((unhide HKI).trans (kpf_drew W1) (fun _ _ e => e))
  clear HA HO HR HT HK0 HKI
  have HA := NA
  have HO := NO
  have HR := NR
  have HT := NT
  have HK0 := NHK0
  have HKI := NHKI
  clear NA NO NR NT NHK0 NHKI
  have HS0 : Hid (W1.drew.cell? ⟨w1.heap.size, 0, none⟩ = some (.bool false) ∧ W1.drew.cell? ⟨w1.heap.size, 1, none⟩ = some (.int .i64 (doP p n w).s) ∧ W1.drew.cell? ⟨w1.heap.size, 2, none⟩ = some (.int .i64 (doP p n w).m) ∧ W1.drew.cell? ⟨w1.heap.size, 3, none⟩ = some (.slice bA1 bN1 bC1) ∧ W1.drew.cell? ⟨w1.heap.size, 4, none⟩ = some (.slice aA1 aN1 aC1) ∧ W1.drew.cell? ⟨w1.heap.size, 5, none⟩ = some (.bool oS1) ∧ W1.drew.cell? ⟨w1.heap.size, 6, none⟩ = some (.string w01) ∧ W1.drew.cell? ⟨w1.heap.size, 7, none⟩ = some (.int .i64 f01) ∧ W1.drew.cell? ⟨w1.heap.size, 8, none⟩ = some (.bool d01) ∧ W1.drew.cell? ⟨X.heap.size + 1, 1, none⟩ = some (.int .i64 n) ∧ W1.drew.cell? ⟨X.heap.size + 1, 2, none⟩ = some (.string w)) := hide ⟨((unhide HT).cell 0).trans rfl, ((unhide HT).cell 1).trans rfl, ((unhide HT).cell 2).trans rfl, ((unhide HT).cell 3).trans rfl, ((unhide HT).cell 4).trans rfl, ((unhide HT).cell 5).trans rfl, ((unhide HT).cell 6).trans rfl, ((unhide HT).cell 7).trans rfl, ((unhide HT).cell 8).trans rfl, ((unhide HO).cell 1).trans rfl, ((unhide HO).cell 2).trans rfl⟩
  refine regionL (S := fun z => z.cell? ⟨w1.heap.size, 0, none⟩ = some (.bool false) ∧ z.cell? ⟨w1.heap.size, 1, none⟩ = some (.int .i64 (doP p n w).s) ∧ z.cell? ⟨w1.heap.size, 2, none⟩ = some (.int .i64 (doP p n w).m) ∧ z.cell? ⟨w1.heap.size, 3, none⟩ = some (.slice bA1 bN1 bC1) ∧ z.cell? ⟨w1.heap.size, 4, none⟩ = some (.slice aA1 aN1 aC1) ∧ z.cell? ⟨w1.heap.size, 5, none⟩ = some (.bool oS1) ∧ z.cell? ⟨w1.heap.size, 6, none⟩ = some (.string w01) ∧ z.cell? ⟨w1.heap.size, 7, none⟩ = some (.int .i64 f01) ∧ z.cell? ⟨w1.heap.size, 8, none⟩ = some (.bool d01) ∧ z.cell? ⟨X.heap.size + 1, 1, none⟩ = some (.int .i64 n) ∧ z.cell? ⟨X.heap.size + 1, 2, none⟩ = some (.string w)) (fun _ => false) (by kernel_rfl) ?_
  refine anyL_take (i := 0) (v := ?vq0) rfl (by kernel_rfl) (by kernel_rfl) (by kernel_rfl) (by kernel_rfl) (fun _ _ _ h => h) (Or.inl ⟨by rfl, ?hq0⟩) (unhide HS0) ?_
  case hq0 => (intro w hSw; (try dsimp only at hSw); go_simp) <;> with_reducible rfl
  simp only [Act.put, List.getElem_toArray, List.getElem_cons_zero, List.setIfInBounds_toArray, List.set_cons_zero, List.set_cons_succ]
  refine anyL_take (i := 1) (v := ?vq1) rfl (by kernel_rfl) (by kernel_rfl) (by kernel_rfl) (by kernel_rfl) (fun _ _ _ h => h) (Or.inl ⟨by rfl, ?hq1⟩) (unhide HS0) ?_
  case hq1 => (intro w hSw; (try dsimp only at hSw); go_simp) <;> with_reducible rfl
  simp only [Act.put, List.getElem_toArray, List.getElem_cons_zero, List.getElem_cons_succ, List.setIfInBounds_toArray, List.set_cons_zero, List.set_cons_succ]
  refine anyL_take (i := 2) (v := ?vq2) rfl (by kernel_rfl) (by kernel_rfl) (by kernel_rfl) (by kernel_rfl) (fun _ _ _ h => h) (Or.inl ⟨by rfl, ?hq2⟩) (unhide HS0) ?_
  case hq2 => (intro w hSw; (try dsimp only at hSw); go_simp) <;> with_reducible rfl
  simp only [Act.put, List.getElem_toArray, List.getElem_cons_zero, List.getElem_cons_succ, List.setIfInBounds_toArray, List.set_cons_zero, List.set_cons_succ]
  refine anyL_take (i := 3) (v := ?vq3) rfl (by kernel_rfl) (by kernel_rfl) (by kernel_rfl) (by kernel_rfl) (fun _ _ _ h => h) (Or.inl ⟨by rfl, ?hq3⟩) (unhide HS0) ?_
  case hq3 => (intro w hSw; (try dsimp only at hSw); go_simp) <;> with_reducible rfl
  simp only [Act.put, List.getElem_toArray, List.getElem_cons_zero, List.getElem_cons_succ, List.setIfInBounds_toArray, List.set_cons_zero, List.set_cons_succ]
  refine anyL_take (i := 4) (v := ?vq4) rfl (by kernel_rfl) (by kernel_rfl) (by kernel_rfl) (by kernel_rfl) (fun _ _ _ h => h) (Or.inl ⟨by rfl, ?hq4⟩) (unhide HS0) ?_
  case hq4 => (intro w hSw; (try dsimp only at hSw); go_simp) <;> with_reducible rfl
  simp only [Act.put, List.getElem_toArray, List.getElem_cons_zero, List.getElem_cons_succ, List.setIfInBounds_toArray, List.set_cons_zero, List.set_cons_succ]
  refine anyL_take (i := 6) (v := ?vq5) rfl (by kernel_rfl) (by kernel_rfl) (by kernel_rfl) (by kernel_rfl) (fun _ _ _ h => h) (Or.inl ⟨by rfl, ?hq5⟩) (unhide HS0) ?_
  case hq5 => (intro w hSw; (try dsimp only at hSw); go_simp) <;> with_reducible rfl
  simp only [Act.put, List.getElem_toArray, List.getElem_cons_zero, List.getElem_cons_succ, List.setIfInBounds_toArray, List.set_cons_zero, List.set_cons_succ]
  refine anyL_take (i := 7) (v := ?vq6) rfl (by kernel_rfl) (by kernel_rfl) (by kernel_rfl) (by kernel_rfl) (fun _ _ _ h => h) (Or.inl ⟨by rfl, ?hq6⟩) (unhide HS0) ?_
  case hq6 => (intro w hSw; (try dsimp only at hSw); go_simp) <;> with_reducible rfl
  simp only [Act.put, List.getElem_toArray, List.getElem_cons_zero, List.getElem_cons_succ, List.setIfInBounds_toArray, List.set_cons_zero, List.set_cons_succ]
  refine anyL_take (i := 9) (v := ?vq7) rfl (by kernel_rfl) (by kernel_rfl) (by kernel_rfl) (by kernel_rfl) (fun _ _ _ h => h) (Or.inl ⟨by rfl, ?hq7⟩) (unhide HS0) ?_
  case hq7 => (intro w hSw; (try dsimp only at hSw); go_simp) <;> with_reducible rfl
  simp only [Act.put, List.getElem_toArray, List.getElem_cons_zero, List.getElem_cons_succ, List.setIfInBounds_toArray, List.set_cons_zero, List.set_cons_succ]
  refine anyL_ready (rs := [5]) (by kernel_rfl) (by simp) ?_
  refine AllL.cons rfl (fun K hK => ?_) AllL.nil
  go_simp
  refine (of2_at n _).mono ?_
  rintro y wo ⟨rfl, xo⟩
  dsimp only
  have HXO := hide xo
  have NA := hide ((unhide HA).kpf (KpF.of (F := fun _ => False) (unhide HXO)) (fun e => e))
  have NO := hide ((unhide HO).kpf (KpF.of (F := fun _ => False) (unhide HXO)) (fun e => e))
  have NR := hide ((unhide HR).kpf (KpF.of (F := fun _ => False) (unhide HXO)) (fun e => e))
  have NT := hide ((unhide HT).kpf (KpF.of (F := fun _ => False) (unhide HXO)) (fun e => e))
  have NHK0 := hide ((unhide HK0).bel (unhide HXO))
  have NHKI := hide ((unhide HKI).bel (unhide HXO))
  clear HA HO HR HT HK0 HKI
  have HA := NA
  have HO := NO
  have HR := NR
  have HT := NT
  have HK0 := NHK0
  have HKI := NHKI
  clear NA NO NR NT NHK0 NHKI
  clear xo
  have HSO : Hid (wo.cell? ⟨w1.heap.size, 0, none⟩ = some (.bool false) ∧ wo.cell? ⟨w1.heap.size, 1, none⟩ = some (.int .i64 (doP p n w).s) ∧ wo.cell? ⟨w1.heap.size, 2, none⟩ = some (.int .i64 (doP p n w).m) ∧ wo.cell? ⟨w1.heap.size, 3, none⟩ = some (.slice bA1 bN1 bC1) ∧ wo.cell? ⟨w1.heap.size, 4, none⟩ = some (.slice aA1 aN1 aC1) ∧ wo.cell? ⟨w1.heap.size, 5, none⟩ = some (.bool oS1) ∧ wo.cell? ⟨w1.heap.size, 6, none⟩ = some (.string w01) ∧ wo.cell? ⟨w1.heap.size, 7, none⟩ = some (.int .i64 f01) ∧ wo.cell? ⟨w1.heap.size, 8, none⟩ = some (.bool d01) ∧ wo.cell? ⟨X.heap.size + 1, 1, none⟩ = some (.int .i64 n) ∧ wo.cell? ⟨X.heap.size + 1, 2, none⟩ = some (.string w)) := hide ⟨((unhide HT).cell 0).trans rfl, ((unhide HT).cell 1).trans rfl, ((unhide HT).cell 2).trans rfl, ((unhide HT).cell 3).trans rfl, ((unhide HT).cell 4).trans rfl, ((unhide HT).cell 5).trans rfl, ((unhide HT).cell 6).trans rfl, ((unhide HT).cell 7).trans rfl, ((unhide HT).cell 8).trans rfl, ((unhide HO).cell 1).trans rfl, ((unhide HO).cell 2).trans rfl⟩
  refine unhide hK _ _ (fun _ => unhide HSO) ?_
  clear hK K HS0
  refine anyL_ready (rs := [8]) (by kernel_rfl) (by simp) ?_
  refine AllL.cons rfl (fun K hK => ?_) AllL.nil
  go_simp
  have HI2 := hide ((unhide HI1).kpf (unhide HKI) (fun _ _ e => e))
  have HPA := hide ((unhide HP).kpf (unhide HK0) (fun _ _ e => e))
  have hc2 : W0.heap.size ≤ wo.heap.size := Nat.le_trans hcw (unhide HKI).size
  refine (DoQ_at _ F g p (unhide HPA) (unhide HOK) n w (unhide HW)).mono ?_
  rintro y w3 ⟨rfl, G, i3, g3⟩
  dsimp only
  have HI3 := hide i3
  have HG3 := hide g3
  have HX2 := HK0
  have NA := hide ((unhide HA).kpf g3.kp (fun e => by have := unhide HFL _ e; omega))
  have NO := hide ((unhide HO).kpf g3.kp (fun e => by have := unhide HFL _ e; omega))
  have NR := hide ((unhide HR).kpf g3.kp (fun e => by have := unhide HFL _ e; omega))
  have NT := hide ((unhide HT).kpf g3.kp (fun e => by have := unhide HFL _ e; omega))
  clear HA HO HR HT HK0 HKI
  have HA := NA
  have HO := NO
  have HR := NR
  have HT := NT
  clear NA NO NR NT
  have HK1 := hide (KpF.refl (fun i => X.heap.size ≤ i ∧ i < W0.heap.size) w3)
  clear i3 g3
  have HS3 : Hid (w3.cell? ⟨w1.heap.size, 0, none⟩ = some (.bool false) ∧ w3.cell? ⟨w1.heap.size, 1, none⟩ = some (.int .i64 (doP p n w).s) ∧ w3.cell? ⟨w1.heap.size, 2, none⟩ = some (.int .i64 (doP p n w).m) ∧ w3.cell? ⟨w1.heap.size, 3, none⟩ = some (.slice bA1 bN1 bC1) ∧ w3.cell? ⟨w1.heap.size, 4, none⟩ = some (.slice aA1 aN1 aC1) ∧ w3.cell? ⟨w1.heap.size, 5, none⟩ = some (.bool oS1) ∧ w3.cell? ⟨w1.heap.size, 6, none⟩ = some (.string w01) ∧ w3.cell? ⟨w1.heap.size, 7, none⟩ = some (.int .i64 f01) ∧ w3.cell? ⟨w1.heap.size, 8, none⟩ = some (.bool d01) ∧ w3.cell? ⟨X.heap.size + 1, 1, none⟩ = some (.int .i64 n) ∧ w3.cell? ⟨X.heap.size + 1, 2, none⟩ = some (.string w)) := hide ⟨((unhide HT).cell 0).trans rfl, ((unhide HT).cell 1).trans rfl, ((unhide HT).cell 2).trans rfl, ((unhide HT).cell 3).trans rfl, ((unhide HT).cell 4).trans rfl, ((unhide HT).cell 5).trans rfl, ((unhide HT).cell 6).trans rfl, ((unhide HT).cell 7).trans rfl, ((unhide HT).cell 8).trans rfl, ((unhide HO).cell 1).trans rfl, ((unhide HO).cell 2).trans rfl⟩
  refine unhide hK _ _ (fun _ => unhide HS3) ?_
  clear hK K
  refine anyL_take (i := 10) (v := ?vq8) rfl (by kernel_rfl) (by kernel_rfl) (by kernel_rfl) (by kernel_rfl) (fun _ _ _ h => h) (Or.inl ⟨by rfl, ?hq8⟩) (unhide HS3) ?_
  case hq8 => (intro w hSw; (try dsimp only at hSw); go_simp) <;> with_reducible rfl
  simp only [Act.put, List.getElem_toArray, List.getElem_cons_zero, List.getElem_cons_succ, List.setIfInBounds_toArray, List.set_cons_zero, List.set_cons_succ]
  refine anyL_ready (rs := [11]) (by kernel_rfl) (by simp) ?_
  refine AllL.cons rfl (fun K hK => ?_) AllL.nil
  have r_R0 : w3.cell? ⟨X.heap.size + 1 + 1, 0, none⟩ = some (.bool false) := ((unhide HR).cell 0).trans rfl
  have r_R1 : w3.cell? ⟨X.heap.size + 1 + 1, 1, none⟩ = some (.int .i64 0) := ((unhide HR).cell 1).trans rfl
  have r_R2 : w3.cell? ⟨X.heap.size + 1 + 1, 2, none⟩ = some (.int .i64 0) := ((unhide HR).cell 2).trans rfl
  have r_R3 : w3.cell? ⟨X.heap.size + 1 + 1, 3, none⟩ = some (.slice none 0 0) := ((unhide HR).cell 3).trans rfl
  have r_R4 : w3.cell? ⟨X.heap.size + 1 + 1, 4, none⟩ = some (.slice none 0 0) := ((unhide HR).cell 4).trans rfl
  have r_R5 : w3.cell? ⟨X.heap.size + 1 + 1, 5, none⟩ = some (.bool false) := ((unhide HR).cell 5).trans rfl
  have r_R6 : w3.cell? ⟨X.heap.size + 1 + 1, 6, none⟩ = some (.string ⟨#[]⟩) := ((unhide HR).cell 6).trans rfl
  have r_R7 : w3.cell? ⟨X.heap.size + 1 + 1, 7, none⟩ = some (.int .i64 0) := ((unhide HR).cell 7).trans rfl
  have r_R8 : w3.cell? ⟨X.heap.size + 1 + 1, 8, none⟩ = some (.bool false) := ((unhide HR).cell 8).trans rfl
  have zr_R0 : w3.frozen? ⟨X.heap.size + 1 + 1, 0, none⟩ = false := (unhide HR).frozen 0
  have zr_R1 : w3.frozen? ⟨X.heap.size + 1 + 1, 1, none⟩ = false := (unhide HR).frozen 1
  have zr_R2 : w3.frozen? ⟨X.heap.size + 1 + 1, 2, none⟩ = false := (unhide HR).frozen 2
  have zr_R3 : w3.frozen? ⟨X.heap.size + 1 + 1, 3, none⟩ = false := (unhide HR).frozen 3
  have zr_R4 : w3.frozen? ⟨X.heap.size + 1 + 1, 4, none⟩ = false := (unhide HR).frozen 4
  have zr_R5 : w3.frozen? ⟨X.heap.size + 1 + 1, 5, none⟩ = false := (unhide HR).frozen 5
  have zr_R6 : w3.frozen? ⟨X.heap.size + 1 + 1, 6, none⟩ = false := (unhide HR).frozen 6
  have zr_R7 : w3.frozen? ⟨X.heap.size + 1 + 1, 7, none⟩ = false := (unhide HR).frozen 7
  have zr_R8 : w3.frozen? ⟨X.heap.size + 1 + 1, 8, none⟩ = false := (unhide HR).frozen 8
  go_simp
  have NA : Hid (Cls (((((((((w3.setCell ⟨X.heap.size + 1 + 1, 0, none⟩ (.bool false)).setCell ⟨X.heap.size + 1 + 1, 1, none⟩ (.int .i64 (doP p n w).s)).setCell ⟨X.heap.size + 1 + 1, 2, none⟩ (.int .i64 (doP p n w).m)).setCell ⟨X.heap.size + 1 + 1, 3, none⟩ (.slice bA1 bN1 bC1)).setCell ⟨X.heap.size + 1 + 1, 4, none⟩ (.slice aA1 aN1 aC1)).setCell ⟨X.heap.size + 1 + 1, 5, none⟩ (.bool oS1)).setCell ⟨X.heap.size + 1 + 1, 6, none⟩ (.string w01)).setCell ⟨X.heap.size + 1 + 1, 7, none⟩ (.int .i64 f01)).setCell ⟨X.heap.size + 1 + 1, 8, none⟩ (.bool d01)) (X.heap.size) 44 #[.bool false, .int .i64 p.s, .int .i64 p.m, .slice bA bN bC, .slice aA aN aC, .bool oS, .string w0, .int .i64 f0, .bool d0]) := hide (by simpa using (((((((((unhide HA).other ⟨X.heap.size + 1 + 1, 0, none⟩ (.bool false) (by dsimp only; omega)).other ⟨X.heap.size + 1 + 1, 1, none⟩ (.int .i64 (doP p n w).s) (by dsimp only; omega)).other ⟨X.heap.size + 1 + 1, 2, none⟩ (.int .i64 (doP p n w).m) (by dsimp only; omega)).other ⟨X.heap.size + 1 + 1, 3, none⟩ (.slice bA1 bN1 bC1) (by dsimp only; omega)).other ⟨X.heap.size + 1 + 1, 4, none⟩ (.slice aA1 aN1 aC1) (by dsimp only; omega)).other ⟨X.heap.size + 1 + 1, 5, none⟩ (.bool oS1) (by dsimp only; omega)).other ⟨X.heap.size + 1 + 1, 6, none⟩ (.string w01) (by dsimp only; omega)).other ⟨X.heap.size + 1 + 1, 7, none⟩ (.int .i64 f01) (by dsimp only; omega)).other ⟨X.heap.size + 1 + 1, 8, none⟩ (.bool d01) (by dsimp only; omega))
  have NO : Hid (Cls (((((((((w3.setCell ⟨X.heap.size + 1 + 1, 0, none⟩ (.bool false)).setCell ⟨X.heap.size + 1 + 1, 1, none⟩ (.int .i64 (doP p n w).s)).setCell ⟨X.heap.size + 1 + 1, 2, none⟩ (.int .i64 (doP p n w).m)).setCell ⟨X.heap.size + 1 + 1, 3, none⟩ (.slice bA1 bN1 bC1)).setCell ⟨X.heap.size + 1 + 1, 4, none⟩ (.slice aA1 aN1 aC1)).setCell ⟨X.heap.size + 1 + 1, 5, none⟩ (.bool oS1)).setCell ⟨X.heap.size + 1 + 1, 6, none⟩ (.string w01)).setCell ⟨X.heap.size + 1 + 1, 7, none⟩ (.int .i64 f01)).setCell ⟨X.heap.size + 1 + 1, 8, none⟩ (.bool d01)) (X.heap.size + 1) 48 #[.int .i64 1, .int .i64 n, .string w]) := hide (by simpa using (((((((((unhide HO).other ⟨X.heap.size + 1 + 1, 0, none⟩ (.bool false) (by dsimp only; omega)).other ⟨X.heap.size + 1 + 1, 1, none⟩ (.int .i64 (doP p n w).s) (by dsimp only; omega)).other ⟨X.heap.size + 1 + 1, 2, none⟩ (.int .i64 (doP p n w).m) (by dsimp only; omega)).other ⟨X.heap.size + 1 + 1, 3, none⟩ (.slice bA1 bN1 bC1) (by dsimp only; omega)).other ⟨X.heap.size + 1 + 1, 4, none⟩ (.slice aA1 aN1 aC1) (by dsimp only; omega)).other ⟨X.heap.size + 1 + 1, 5, none⟩ (.bool oS1) (by dsimp only; omega)).other ⟨X.heap.size + 1 + 1, 6, none⟩ (.string w01) (by dsimp only; omega)).other ⟨X.heap.size + 1 + 1, 7, none⟩ (.int .i64 f01) (by dsimp only; omega)).other ⟨X.heap.size + 1 + 1, 8, none⟩ (.bool d01) (by dsimp only; omega))
  have NR : Hid (Cls (((((((((w3.setCell ⟨X.heap.size + 1 + 1, 0, none⟩ (.bool false)).setCell ⟨X.heap.size + 1 + 1, 1, none⟩ (.int .i64 (doP p n w).s)).setCell ⟨X.heap.size + 1 + 1, 2, none⟩ (.int .i64 (doP p n w).m)).setCell ⟨X.heap.size + 1 + 1, 3, none⟩ (.slice bA1 bN1 bC1)).setCell ⟨X.heap.size + 1 + 1, 4, none⟩ (.slice aA1 aN1 aC1)).setCell ⟨X.heap.size + 1 + 1, 5, none⟩ (.bool oS1)).setCell ⟨X.heap.size + 1 + 1, 6, none⟩ (.string w01)).setCell ⟨X.heap.size + 1 + 1, 7, none⟩ (.int .i64 f01)).setCell ⟨X.heap.size + 1 + 1, 8, none⟩ (.bool d01)) (X.heap.size + 1 + 1) 44 #[.bool false, .int .i64 (doP p n w).s, .int .i64 (doP p n w).m, .slice bA1 bN1 bC1, .slice aA1 aN1 aC1, .bool oS1, .string w01, .int .i64 f01, .bool d01]) := hide (by simpa using (((((((((unhide HR).set 0 (.bool false)).set 1 (.int .i64 (doP p n w).s)).set 2 (.int .i64 (doP p n w).m)).set 3 (.slice bA1 bN1 bC1)).set 4 (.slice aA1 aN1 aC1)).set 5 (.bool oS1)).set 6 (.string w01)).set 7 (.int .i64 f01)).set 8 (.bool d01))
  have NT : Hid (Cls (((((((((w3.setCell ⟨X.heap.size + 1 + 1, 0, none⟩ (.bool false)).setCell ⟨X.heap.size + 1 + 1, 1, none⟩ (.int .i64 (doP p n w).s)).setCell ⟨X.heap.size + 1 + 1, 2, none⟩ (.int .i64 (doP p n w).m)).setCell ⟨X.heap.size + 1 + 1, 3, none⟩ (.slice bA1 bN1 bC1)).setCell ⟨X.heap.size + 1 + 1, 4, none⟩ (.slice aA1 aN1 aC1)).setCell ⟨X.heap.size + 1 + 1, 5, none⟩ (.bool oS1)).setCell ⟨X.heap.size + 1 + 1, 6, none⟩ (.string w01)).setCell ⟨X.heap.size + 1 + 1, 7, none⟩ (.int .i64 f01)).setCell ⟨X.heap.size + 1 + 1, 8, none⟩ (.bool d01)) (w1.heap.size) 44 #[.bool false, .int .i64 (doP p n w).s, .int .i64 (doP p n w).m, .slice bA1 bN1 bC1, .slice aA1 aN1 aC1, .bool oS1, .string w01, .int .i64 f01, .bool d01]) := hide (by simpa using (((((((((unhide HT).other ⟨X.heap.size + 1 + 1, 0, none⟩ (.bool false) (by dsimp only; omega)).other ⟨X.heap.size + 1 + 1, 1, none⟩ (.int .i64 (doP p n w).s) (by dsimp only; omega)).other ⟨X.heap.size + 1 + 1, 2, none⟩ (.int .i64 (doP p n w).m) (by dsimp only; omega)).other ⟨X.heap.size + 1 + 1, 3, none⟩ (.slice bA1 bN1 bC1) (by dsimp only; omega)).other ⟨X.heap.size + 1 + 1, 4, none⟩ (.slice aA1 aN1 aC1) (by dsimp only; omega)).other ⟨X.heap.size + 1 + 1, 5, none⟩ (.bool oS1) (by dsimp only; omega)).other ⟨X.heap.size + 1 + 1, 6, none⟩ (.string w01) (by dsimp only; omega)).other ⟨X.heap.size + 1 + 1, 7, none⟩ (.int .i64 f01) (by dsimp only; omega)).other ⟨X.heap.size + 1 + 1, 8, none⟩ (.bool d01) (by dsimp only; omega))
  have NHK1 := hide ((((((((((unhide HK1).upd ⟨X.heap.size + 1 + 1, 0, none⟩ (.bool false) (.inl ⟨by dsimp only; omega, by dsimp only; omega⟩)).upd ⟨X.heap.size + 1 + 1, 1, none⟩ (.int .i64 (doP p n w).s) (.inl ⟨by dsimp only; omega, by dsimp only; omega⟩)).upd ⟨X.heap.size + 1 + 1, 2, none⟩ (.int .i64 (doP p n w).m) (.inl ⟨by dsimp only; omega, by dsimp only; omega⟩)).upd ⟨X.heap.size + 1 + 1, 3, none⟩ (.slice bA1 bN1 bC1) (.inl ⟨by dsimp only; omega, by dsimp only; omega⟩)).upd ⟨X.heap.size + 1 + 1, 4, none⟩ (.slice aA1 aN1 aC1) (.inl ⟨by dsimp only; omega, by dsimp only; omega⟩)).upd ⟨X.heap.size + 1 + 1, 5, none⟩ (.bool oS1) (.inl ⟨by dsimp only; omega, by dsimp only; omega⟩)).upd ⟨X.heap.size + 1 + 1, 6, none⟩ (.string w01) (.inl ⟨by dsimp only; omega, by dsimp only; omega⟩)).upd ⟨X.heap.size + 1 + 1, 7, none⟩ (.int .i64 f01) (.inl ⟨by dsimp only; omega, by dsimp only; omega⟩)).upd ⟨X.heap.size + 1 + 1, 8, none⟩ (.bool d01) (.inl ⟨by dsimp only; omega, by dsimp only; omega⟩))
  clear HA HO HR HT HK1
  generalize (((((((((w3.setCell ⟨X.heap.size + 1 + 1, 0, none⟩ (.bool false)).setCell ⟨X.heap.size + 1 + 1, 1, none⟩ (.int .i64 (doP p n w).s)).setCell ⟨X.heap.size + 1 + 1, 2, none⟩ (.int .i64 (doP p n w).m)).setCell ⟨X.heap.size + 1 + 1, 3, none⟩ (.slice bA1 bN1 bC1)).setCell ⟨X.heap.size + 1 + 1, 4, none⟩ (.slice aA1 aN1 aC1)).setCell ⟨X.heap.size + 1 + 1, 5, none⟩ (.bool oS1)).setCell ⟨X.heap.size + 1 + 1, 6, none⟩ (.string w01)).setCell ⟨X.heap.size + 1 + 1, 7, none⟩ (.int .i64 f01)).setCell ⟨X.heap.size + 1 + 1, 8, none⟩ (.bool d01)) = W2 at *
  have HA := NA
  have HO := NO
  have HR := NR
  have HT := NT
  have HK1 := NHK1
  clear NA NO NR NT NHK1
  have HS4 : Hid (W2.cell? ⟨w1.heap.size, 0, none⟩ = some (.bool false) ∧ W2.cell? ⟨w1.heap.size, 1, none⟩ = some (.int .i64 (doP p n w).s) ∧ W2.cell? ⟨w1.heap.size, 2, none⟩ = some (.int .i64 (doP p n w).m) ∧ W2.cell? ⟨w1.heap.size, 3, none⟩ = some (.slice bA1 bN1 bC1) ∧ W2.cell? ⟨w1.heap.size, 4, none⟩ = some (.slice aA1 aN1 aC1) ∧ W2.cell? ⟨w1.heap.size, 5, none⟩ = some (.bool oS1) ∧ W2.cell? ⟨w1.heap.size, 6, none⟩ = some (.string w01) ∧ W2.cell? ⟨w1.heap.size, 7, none⟩ = some (.int .i64 f01) ∧ W2.cell? ⟨w1.heap.size, 8, none⟩ = some (.bool d01) ∧ W2.cell? ⟨X.heap.size + 1, 1, none⟩ = some (.int .i64 n) ∧ W2.cell? ⟨X.heap.size + 1, 2, none⟩ = some (.string w)) := hide ⟨((unhide HT).cell 0).trans rfl, ((unhide HT).cell 1).trans rfl, ((unhide HT).cell 2).trans rfl, ((unhide HT).cell 3).trans rfl, ((unhide HT).cell 4).trans rfl, ((unhide HT).cell 5).trans rfl, ((unhide HT).cell 6).trans rfl, ((unhide HT).cell 7).trans rfl, ((unhide HT).cell 8).trans rfl, ((unhide HO).cell 1).trans rfl, ((unhide HO).cell 2).trans rfl⟩
  refine unhide hK _ _ (fun _ => unhide HS4) ?_
  clear hK K
  refine anyL_take (i := 12) (v := ?vq9) rfl (by kernel_rfl) (by kernel_rfl) (by kernel_rfl) (by kernel_rfl) (fun _ _ _ h => h) (Or.inl ⟨by rfl, ?hq9⟩) (unhide HS4) ?_
  case hq9 => (intro w hSw; (try dsimp only at hSw); go_simp) <;> with_reducible rfl
  simp only [Act.put, List.getElem_toArray, List.getElem_cons_zero, List.getElem_cons_succ, List.setIfInBounds_toArray, List.set_cons_zero, List.set_cons_succ]
  refine anyL_done (by kernel_rfl) ?_ _
  have q0 : W2.cell? ⟨X.heap.size + 1 + 1, 0, none⟩ = some (.bool false) := ((unhide HR).cell 0).trans rfl
  have q1 : W2.cell? ⟨X.heap.size + 1 + 1, 1, none⟩ = some (.int .i64 (doP p n w).s) := ((unhide HR).cell 1).trans rfl
  have q2 : W2.cell? ⟨X.heap.size + 1 + 1, 2, none⟩ = some (.int .i64 (doP p n w).m) := ((unhide HR).cell 2).trans rfl
  have q3 : W2.cell? ⟨X.heap.size + 1 + 1, 3, none⟩ = some (.slice bA1 bN1 bC1) := ((unhide HR).cell 3).trans rfl
  have q4 : W2.cell? ⟨X.heap.size + 1 + 1, 4, none⟩ = some (.slice aA1 aN1 aC1) := ((unhide HR).cell 4).trans rfl
  have q5 : W2.cell? ⟨X.heap.size + 1 + 1, 5, none⟩ = some (.bool oS1) := ((unhide HR).cell 5).trans rfl
  have q6 : W2.cell? ⟨X.heap.size + 1 + 1, 6, none⟩ = some (.string w01) := ((unhide HR).cell 6).trans rfl
  have q7 : W2.cell? ⟨X.heap.size + 1 + 1, 7, none⟩ = some (.int .i64 f01) := ((unhide HR).cell 7).trans rfl
  have q8 : W2.cell? ⟨X.heap.size + 1 + 1, 8, none⟩ = some (.bool d01) := ((unhide HR).cell 8).trans rfl
  go_wp2_with fail
  refine bodyPost_ret (v := .tuple #[.agg #[.bool false, .int .i64 (doP p n w).s, .int .i64 (doP p n w).m, .slice bA1 bN1 bC1, .slice aA1 aN1 aC1, .bool oS1, .string w01, .int .i64 f01, .bool d01], .bool true]) (by simp [results, Try.results21, go_sem, q0, q1, q2, q3, q4, q5, q6, q7, q8]) rfl ?_
  obtain ⟨z1, z2, z3, z4, z5⟩ := stepEndQ (unhide HFL) (unhide HD).lt (unhide HDJ) (unhide HX2) (by omega) hc2 (unhide HI2) (unhide HN1) (unhide HG3) (unhide HI3) (unhide HK1)
  exact ⟨_, D1, G, rfl, z1, z2, z3, z4, z5⟩
set_option maxRecDepth 100000 in
set_option maxHeartbeats 4000000 in
theorem step1BQ_at (X : World) (n : Int) (w : ByteArray) :
    Calls Try.prog 21 #[.pointer none, .agg cBad, .agg #[.int .i64 1, .int .i64 n, .string w], .func (.func 8) #[] #[]] X fun y Y => y = .returned (.tuple #[.agg cBad, .bool true]) ∧ Below X.heap.size X Y := by
  unfold cBad
  have HA : Hid (Cls (((X.alloc (.cells #[.bool true, .int .i64 0, .int .i64 0, .slice none 0 0, .slice none 0 0, .bool false, .string ⟨#[]⟩, .int .i64 0, .bool false] 44)).alloc (.cells #[.int .i64 1, .int .i64 n, .string w] 48)).alloc (.cells #[.bool false, .int .i64 0, .int .i64 0, .slice none 0 0, .slice none 0 0, .bool false, .string ⟨#[]⟩, .int .i64 0, .bool false] 44)) (X.heap.size) 44 #[.bool true, .int .i64 0, .int .i64 0, .slice none 0 0, .slice none 0 0, .bool false, .string ⟨#[]⟩, .int .i64 0, .bool false]) := hide (by simpa using ((Cls.new X 44 #[.bool true, .int .i64 0, .int .i64 0, .slice none 0 0, .slice none 0 0, .bool false, .string ⟨#[]⟩, .int .i64 0, .bool false]).alloc (.cells #[.int .i64 1, .int .i64 n, .string w] 48)).alloc (.cells #[.bool false, .int .i64 0, .int .i64 0, .slice none 0 0, .slice none 0 0, .bool false, .string ⟨#[]⟩, .int .i64 0, .bool false] 44))
  have HO : Hid (Cls (((X.alloc (.cells #[.bool true, .int .i64 0, .int .i64 0, .slice none 0 0, .slice none 0 0, .bool false, .string ⟨#[]⟩, .int .i64 0, .bool false] 44)).alloc (.cells #[.int .i64 1, .int .i64 n, .string w] 48)).alloc (.cells #[.bool false, .int .i64 0, .int .i64 0, .slice none 0 0, .slice none 0 0, .bool false, .string ⟨#[]⟩, .int .i64 0, .bool false] 44)) (X.heap.size + 1) 48 #[.int .i64 1, .int .i64 n, .string w]) := hide (by simpa using (Cls.new (X.alloc (.cells #[.bool true, .int .i64 0, .int .i64 0, .slice none 0 0, .slice none 0 0, .bool false, .string ⟨#[]⟩, .int .i64 0, .bool false] 44)) 48 #[.int .i64 1, .int .i64 n, .string w]).alloc (.cells #[.bool false, .int .i64 0, .int .i64 0, .slice none 0 0, .slice none 0 0, .bool false, .string ⟨#[]⟩, .int .i64 0, .bool false] 44))
  have HR : Hid (Cls (((X.alloc (.cells #[.bool true, .int .i64 0, .int .i64 0, .slice none 0 0, .slice none 0 0, .bool false, .string ⟨#[]⟩, .int .i64 0, .bool false] 44)).alloc (.cells #[.int .i64 1, .int .i64 n, .string w] 48)).alloc (.cells #[.bool false, .int .i64 0, .int .i64 0, .slice none 0 0, .slice none 0 0, .bool false, .string ⟨#[]⟩, .int .i64 0, .bool false] 44)) (X.heap.size + 1 + 1) 44 #[.bool false, .int .i64 0, .int .i64 0, .slice none 0 0, .slice none 0 0, .bool false, .string ⟨#[]⟩, .int .i64 0, .bool false]) := hide (by simpa using Cls.new ((X.alloc (.cells #[.bool true, .int .i64 0, .int .i64 0, .slice none 0 0, .slice none 0 0, .bool false, .string ⟨#[]⟩, .int .i64 0, .bool false] 44)).alloc (.cells #[.int .i64 1, .int .i64 n, .string w] 48)) 44 #[.bool false, .int .i64 0, .int .i64 0, .slice none 0 0, .slice none 0 0, .bool false, .string ⟨#[]⟩, .int .i64 0, .bool false])
  have HK0 : Hid (KpF (fun _ => False) X (((X.alloc (.cells #[.bool true, .int .i64 0, .int .i64 0, .slice none 0 0, .slice none 0 0, .bool false, .string ⟨#[]⟩, .int .i64 0, .bool false] 44)).alloc (.cells #[.int .i64 1, .int .i64 n, .string w] 48)).alloc (.cells #[.bool false, .int .i64 0, .int .i64 0, .slice none 0 0, .slice none 0 0, .bool false, .string ⟨#[]⟩, .int .i64 0, .bool false] 44))) := hide ((((KpF.refl (fun _ => False) X).al _).al _).al _)
  go_enter Try.func21, Try.ntmps21
  go_upto_region 1 with fail
  generalize (((X.alloc (.cells #[.bool true, .int .i64 0, .int .i64 0, .slice none 0 0, .slice none 0 0, .bool false, .string ⟨#[]⟩, .int .i64 0, .bool false] 44)).alloc (.cells #[.int .i64 1, .int .i64 n, .string w] 48)).alloc (.cells #[.bool false, .int .i64 0, .int .i64 0, .slice none 0 0, .slice none 0 0, .bool false, .string ⟨#[]⟩, .int .i64 0, .bool false] 44)) = W0 at *
  have hltc : X.heap.size + 1 + 1 < W0.heap.size := (unhide HR).lt
  have HC := hide (RDoB_at W0 n w)
  unfold cBad at HC
  have c_A0 : W0.cell? ⟨X.heap.size, 0, none⟩ = some (.bool true) := ((unhide HA).cell 0).trans rfl
  have c_A1 : W0.cell? ⟨X.heap.size, 1, none⟩ = some (.int .i64 0) := ((unhide HA).cell 1).trans rfl
  have c_A2 : W0.cell? ⟨X.heap.size, 2, none⟩ = some (.int .i64 0) := ((unhide HA).cell 2).trans rfl
  have c_A3 : W0.cell? ⟨X.heap.size, 3, none⟩ = some (.slice none 0 0) := ((unhide HA).cell 3).trans rfl
  have c_A4 : W0.cell? ⟨X.heap.size, 4, none⟩ = some (.slice none 0 0) := ((unhide HA).cell 4).trans rfl
  have c_A5 : W0.cell? ⟨X.heap.size, 5, none⟩ = some (.bool false) := ((unhide HA).cell 5).trans rfl
  have c_A6 : W0.cell? ⟨X.heap.size, 6, none⟩ = some (.string ⟨#[]⟩) := ((unhide HA).cell 6).trans rfl
  have c_A7 : W0.cell? ⟨X.heap.size, 7, none⟩ = some (.int .i64 0) := ((unhide HA).cell 7).trans rfl
  have c_A8 : W0.cell? ⟨X.heap.size, 8, none⟩ = some (.bool false) := ((unhide HA).cell 8).trans rfl
  have c_O0 : W0.cell? ⟨X.heap.size + 1, 0, none⟩ = some (.int .i64 1) := ((unhide HO).cell 0).trans rfl
  have c_O1 : W0.cell? ⟨X.heap.size + 1, 1, none⟩ = some (.int .i64 n) := ((unhide HO).cell 1).trans rfl
  have c_O2 : W0.cell? ⟨X.heap.size + 1, 2, none⟩ = some (.string w) := ((unhide HO).cell 2).trans rfl
  go_wp2_with fail
  refine (unhide HC).mono ?_
  rintro y w1 ⟨rfl, x1⟩
  dsimp only
  clear HC
  clear c_A0 c_A1 c_A2 c_A3 c_A4 c_A5 c_A6 c_A7 c_A8 c_O0 c_O1 c_O2
  have hcw : W0.heap.size ≤ w1.heap.size := x1.size
  have HX1 := hide x1
  have NA := hide ((unhide HA).kpf (KpF.of (F := fun _ => False) (unhide HX1)) (fun e => e))
  have NO := hide ((unhide HO).kpf (KpF.of (F := fun _ => False) (unhide HX1)) (fun e => e))
  have NR := hide ((unhide HR).kpf (KpF.of (F := fun _ => False) (unhide HX1)) (fun e => e))
  have NHK0 := hide ((unhide HK0).bel (unhide HX1))
  clear HA HO HR HK0
  have HA := NA
  have HO := NO
  have HR := NR
  have HK0 := NHK0
  clear NA NO NR NHK0
  clear x1
  have hgeT : X.heap.size + 1 + 1 < w1.heap.size := (unhide HR).lt
  have NA := hide ((unhide HA).alloc (.cells #[.bool true, .int .i64 0, .int .i64 0, .slice none 0 0, .slice none 0 0, .bool false, .string ⟨#[]⟩, .int .i64 0, .bool false] 44))
  have NO := hide ((unhide HO).alloc (.cells #[.bool true, .int .i64 0, .int .i64 0, .slice none 0 0, .slice none 0 0, .bool false, .string ⟨#[]⟩, .int .i64 0, .bool false] 44))
  have NR := hide ((unhide HR).alloc (.cells #[.bool true, .int .i64 0, .int .i64 0, .slice none 0 0, .slice none 0 0, .bool false, .string ⟨#[]⟩, .int .i64 0, .bool false] 44))
  have NT := hide (Cls.new w1 44 #[.bool true, .int .i64 0, .int .i64 0, .slice none 0 0, .slice none 0 0, .bool false, .string ⟨#[]⟩, .int .i64 0, .bool false])
  have NHK0 := hide ((unhide HK0).al (.cells #[.bool true, .int .i64 0, .int .i64 0, .slice none 0 0, .slice none 0 0, .bool false, .string ⟨#[]⟩, .int .i64 0, .bool false] 44))
  clear HA HO HR HK0
  go_upto_region 4 with fail
  generalize (w1.alloc (.cells #[.bool true, .int .i64 0, .int .i64 0, .slice none 0 0, .slice none 0 0, .bool false, .string ⟨#[]⟩, .int .i64 0, .bool false] 44)) = W1 at *
  have HA := NA
  have HO := NO
  have HR := NR
  have HT := NT
  have HK0 := NHK0
  clear NA NO NR NT NHK0
  have NA := hide ((unhide HA).kpf (kpf_drew W1) (fun e => e))
  have NO := hide ((unhide HO).kpf (kpf_drew W1) (fun e => e))
  have NR := hide ((unhide HR).kpf (kpf_drew W1) (fun e => e))
  have NT := hide ((unhide HT).kpf (kpf_drew W1) (fun e => e))
  have NHK0 := hide ((unhide HK0).trans (kpf_drew W1) (fun _ _ e => e))
  clear HA HO HR HT HK0
  have HA := NA
  have HO := NO
  have HR := NR
  have HT := NT
  have HK0 := NHK0
  clear NA NO NR NT NHK0
  have HS0 : Hid (W1.drew.cell? ⟨w1.heap.size, 0, none⟩ = some (.bool true) ∧ W1.drew.cell? ⟨w1.heap.size, 1, none⟩ = some (.int .i64 0) ∧ W1.drew.cell? ⟨w1.heap.size, 2, none⟩ = some (.int .i64 0) ∧ W1.drew.cell? ⟨w1.heap.size, 3, none⟩ = some (.slice none 0 0) ∧ W1.drew.cell? ⟨w1.heap.size, 4, none⟩ = some (.slice none 0 0) ∧ W1.drew.cell? ⟨w1.heap.size, 5, none⟩ = some (.bool false) ∧ W1.drew.cell? ⟨w1.heap.size, 6, none⟩ = some (.string ⟨#[]⟩) ∧ W1.drew.cell? ⟨w1.heap.size, 7, none⟩ = some (.int .i64 0) ∧ W1.drew.cell? ⟨w1.heap.size, 8, none⟩ = some (.bool false) ∧ W1.drew.cell? ⟨X.heap.size + 1, 1, none⟩ = some (.int .i64 n) ∧ W1.drew.cell? ⟨X.heap.size + 1, 2, none⟩ = some (.string w)) := hide ⟨((unhide HT).cell 0).trans rfl, ((unhide HT).cell 1).trans rfl, ((unhide HT).cell 2).trans rfl, ((unhide HT).cell 3).trans rfl, ((unhide HT).cell 4).trans rfl, ((unhide HT).cell 5).trans rfl, ((unhide HT).cell 6).trans rfl, ((unhide HT).cell 7).trans rfl, ((unhide HT).cell 8).trans rfl, ((unhide HO).cell 1).trans rfl, ((unhide HO).cell 2).trans rfl⟩
  refine regionL (S := fun z => z.cell? ⟨w1.heap.size, 0, none⟩ = some (.bool true) ∧ z.cell? ⟨w1.heap.size, 1, none⟩ = some (.int .i64 0) ∧ z.cell? ⟨w1.heap.size, 2, none⟩ = some (.int .i64 0) ∧ z.cell? ⟨w1.heap.size, 3, none⟩ = some (.slice none 0 0) ∧ z.cell? ⟨w1.heap.size, 4, none⟩ = some (.slice none 0 0) ∧ z.cell? ⟨w1.heap.size, 5, none⟩ = some (.bool false) ∧ z.cell? ⟨w1.heap.size, 6, none⟩ = some (.string ⟨#[]⟩) ∧ z.cell? ⟨w1.heap.size, 7, none⟩ = some (.int .i64 0) ∧ z.cell? ⟨w1.heap.size, 8, none⟩ = some (.bool false) ∧ z.cell? ⟨X.heap.size + 1, 1, none⟩ = some (.int .i64 n) ∧ z.cell? ⟨X.heap.size + 1, 2, none⟩ = some (.string w)) (fun _ => false) (by kernel_rfl) ?_
  refine anyL_take (i := 0) (v := ?vq10) rfl (by kernel_rfl) (by kernel_rfl) (by kernel_rfl) (by kernel_rfl) (fun _ _ _ h => h) (Or.inl ⟨by rfl, ?hq10⟩) (unhide HS0) ?_
  case hq10 => (intro w hSw; (try dsimp only at hSw); go_simp) <;> with_reducible rfl
  simp only [Act.put, List.getElem_toArray, List.getElem_cons_zero, List.setIfInBounds_toArray, List.set_cons_zero, List.set_cons_succ]
  refine anyL_take (i := 1) (v := ?vq11) rfl (by kernel_rfl) (by kernel_rfl) (by kernel_rfl) (by kernel_rfl) (fun _ _ _ h => h) (Or.inl ⟨by rfl, ?hq11⟩) (unhide HS0) ?_
  case hq11 => (intro w hSw; (try dsimp only at hSw); go_simp) <;> with_reducible rfl
  simp only [Act.put, List.getElem_toArray, List.getElem_cons_zero, List.getElem_cons_succ, List.setIfInBounds_toArray, List.set_cons_zero, List.set_cons_succ]
  refine anyL_take (i := 2) (v := ?vq12) rfl (by kernel_rfl) (by kernel_rfl) (by kernel_rfl) (by kernel_rfl) (fun _ _ _ h => h) (Or.inl ⟨by rfl, ?hq12⟩) (unhide HS0) ?_
  case hq12 => (intro w hSw; (try dsimp only at hSw); go_simp) <;> with_reducible rfl
  simp only [Act.put, List.getElem_toArray, List.getElem_cons_zero, List.getElem_cons_succ, List.setIfInBounds_toArray, List.set_cons_zero, List.set_cons_succ]
  refine anyL_take (i := 3) (v := ?vq13) rfl (by kernel_rfl) (by kernel_rfl) (by kernel_rfl) (by kernel_rfl) (fun _ _ _ h => h) (Or.inl ⟨by rfl, ?hq13⟩) (unhide HS0) ?_
  case hq13 => (intro w hSw; (try dsimp only at hSw); go_simp) <;> with_reducible rfl
  simp only [Act.put, List.getElem_toArray, List.getElem_cons_zero, List.getElem_cons_succ, List.setIfInBounds_toArray, List.set_cons_zero, List.set_cons_succ]
  refine anyL_take (i := 4) (v := ?vq14) rfl (by kernel_rfl) (by kernel_rfl) (by kernel_rfl) (by kernel_rfl) (fun _ _ _ h => h) (Or.inl ⟨by rfl, ?hq14⟩) (unhide HS0) ?_
  case hq14 => (intro w hSw; (try dsimp only at hSw); go_simp) <;> with_reducible rfl
  simp only [Act.put, List.getElem_toArray, List.getElem_cons_zero, List.getElem_cons_succ, List.setIfInBounds_toArray, List.set_cons_zero, List.set_cons_succ]
  refine anyL_take (i := 6) (v := ?vq15) rfl (by kernel_rfl) (by kernel_rfl) (by kernel_rfl) (by kernel_rfl) (fun _ _ _ h => h) (Or.inl ⟨by rfl, ?hq15⟩) (unhide HS0) ?_
  case hq15 => (intro w hSw; (try dsimp only at hSw); go_simp) <;> with_reducible rfl
  simp only [Act.put, List.getElem_toArray, List.getElem_cons_zero, List.getElem_cons_succ, List.setIfInBounds_toArray, List.set_cons_zero, List.set_cons_succ]
  refine anyL_take (i := 7) (v := ?vq16) rfl (by kernel_rfl) (by kernel_rfl) (by kernel_rfl) (by kernel_rfl) (fun _ _ _ h => h) (Or.inl ⟨by rfl, ?hq16⟩) (unhide HS0) ?_
  case hq16 => (intro w hSw; (try dsimp only at hSw); go_simp) <;> with_reducible rfl
  simp only [Act.put, List.getElem_toArray, List.getElem_cons_zero, List.getElem_cons_succ, List.setIfInBounds_toArray, List.set_cons_zero, List.set_cons_succ]
  refine anyL_take (i := 9) (v := ?vq17) rfl (by kernel_rfl) (by kernel_rfl) (by kernel_rfl) (by kernel_rfl) (fun _ _ _ h => h) (Or.inl ⟨by rfl, ?hq17⟩) (unhide HS0) ?_
  case hq17 => (intro w hSw; (try dsimp only at hSw); go_simp) <;> with_reducible rfl
  simp only [Act.put, List.getElem_toArray, List.getElem_cons_zero, List.getElem_cons_succ, List.setIfInBounds_toArray, List.set_cons_zero, List.set_cons_succ]
  refine anyL_ready (rs := [5]) (by kernel_rfl) (by simp) ?_
  refine AllL.cons rfl (fun K hK => ?_) AllL.nil
  go_simp
  refine (of2_at n _).mono ?_
  rintro y wo ⟨rfl, xo⟩
  dsimp only
  have HXO := hide xo
  have NA := hide ((unhide HA).kpf (KpF.of (F := fun _ => False) (unhide HXO)) (fun e => e))
  have NO := hide ((unhide HO).kpf (KpF.of (F := fun _ => False) (unhide HXO)) (fun e => e))
  have NR := hide ((unhide HR).kpf (KpF.of (F := fun _ => False) (unhide HXO)) (fun e => e))
  have NT := hide ((unhide HT).kpf (KpF.of (F := fun _ => False) (unhide HXO)) (fun e => e))
  have NHK0 := hide ((unhide HK0).bel (unhide HXO))
  clear HA HO HR HT HK0
  have HA := NA
  have HO := NO
  have HR := NR
  have HT := NT
  have HK0 := NHK0
  clear NA NO NR NT NHK0
  clear xo
  have HSO : Hid (wo.cell? ⟨w1.heap.size, 0, none⟩ = some (.bool true) ∧ wo.cell? ⟨w1.heap.size, 1, none⟩ = some (.int .i64 0) ∧ wo.cell? ⟨w1.heap.size, 2, none⟩ = some (.int .i64 0) ∧ wo.cell? ⟨w1.heap.size, 3, none⟩ = some (.slice none 0 0) ∧ wo.cell? ⟨w1.heap.size, 4, none⟩ = some (.slice none 0 0) ∧ wo.cell? ⟨w1.heap.size, 5, none⟩ = some (.bool false) ∧ wo.cell? ⟨w1.heap.size, 6, none⟩ = some (.string ⟨#[]⟩) ∧ wo.cell? ⟨w1.heap.size, 7, none⟩ = some (.int .i64 0) ∧ wo.cell? ⟨w1.heap.size, 8, none⟩ = some (.bool false) ∧ wo.cell? ⟨X.heap.size + 1, 1, none⟩ = some (.int .i64 n) ∧ wo.cell? ⟨X.heap.size + 1, 2, none⟩ = some (.string w)) := hide ⟨((unhide HT).cell 0).trans rfl, ((unhide HT).cell 1).trans rfl, ((unhide HT).cell 2).trans rfl, ((unhide HT).cell 3).trans rfl, ((unhide HT).cell 4).trans rfl, ((unhide HT).cell 5).trans rfl, ((unhide HT).cell 6).trans rfl, ((unhide HT).cell 7).trans rfl, ((unhide HT).cell 8).trans rfl, ((unhide HO).cell 1).trans rfl, ((unhide HO).cell 2).trans rfl⟩
  refine unhide hK _ _ (fun _ => unhide HSO) ?_
  clear hK K HS0
  refine anyL_ready (rs := [8]) (by kernel_rfl) (by simp) ?_
  refine AllL.cons rfl (fun K hK => ?_) AllL.nil
  go_simp
  refine (DoNQ_at _ (n, sS) w).mono ?_
  rintro y w3 ⟨rfl, xb⟩
  dsimp only
  have HXB := hide xb
  have NA := hide ((unhide HA).kpf (KpF.of (F := fun _ => False) (unhide HXB)) (fun e => e))
  have NO := hide ((unhide HO).kpf (KpF.of (F := fun _ => False) (unhide HXB)) (fun e => e))
  have NR := hide ((unhide HR).kpf (KpF.of (F := fun _ => False) (unhide HXB)) (fun e => e))
  have NT := hide ((unhide HT).kpf (KpF.of (F := fun _ => False) (unhide HXB)) (fun e => e))
  have NHK0 := hide ((unhide HK0).bel (unhide HXB))
  clear HA HO HR HT HK0
  have HA := NA
  have HO := NO
  have HR := NR
  have HT := NT
  have HK0 := NHK0
  clear NA NO NR NT NHK0
  clear xb
  have HS3 : Hid (w3.cell? ⟨w1.heap.size, 0, none⟩ = some (.bool true) ∧ w3.cell? ⟨w1.heap.size, 1, none⟩ = some (.int .i64 0) ∧ w3.cell? ⟨w1.heap.size, 2, none⟩ = some (.int .i64 0) ∧ w3.cell? ⟨w1.heap.size, 3, none⟩ = some (.slice none 0 0) ∧ w3.cell? ⟨w1.heap.size, 4, none⟩ = some (.slice none 0 0) ∧ w3.cell? ⟨w1.heap.size, 5, none⟩ = some (.bool false) ∧ w3.cell? ⟨w1.heap.size, 6, none⟩ = some (.string ⟨#[]⟩) ∧ w3.cell? ⟨w1.heap.size, 7, none⟩ = some (.int .i64 0) ∧ w3.cell? ⟨w1.heap.size, 8, none⟩ = some (.bool false) ∧ w3.cell? ⟨X.heap.size + 1, 1, none⟩ = some (.int .i64 n) ∧ w3.cell? ⟨X.heap.size + 1, 2, none⟩ = some (.string w)) := hide ⟨((unhide HT).cell 0).trans rfl, ((unhide HT).cell 1).trans rfl, ((unhide HT).cell 2).trans rfl, ((unhide HT).cell 3).trans rfl, ((unhide HT).cell 4).trans rfl, ((unhide HT).cell 5).trans rfl, ((unhide HT).cell 6).trans rfl, ((unhide HT).cell 7).trans rfl, ((unhide HT).cell 8).trans rfl, ((unhide HO).cell 1).trans rfl, ((unhide HO).cell 2).trans rfl⟩
  refine unhide hK _ _ (fun _ => unhide HS3) ?_
  clear hK K
  refine anyL_take (i := 10) (v := ?vq18) rfl (by kernel_rfl) (by kernel_rfl) (by kernel_rfl) (by kernel_rfl) (fun _ _ _ h => h) (Or.inl ⟨by rfl, ?hq18⟩) (unhide HS3) ?_
  case hq18 => (intro w hSw; (try dsimp only at hSw); go_simp) <;> with_reducible rfl
  simp only [Act.put, List.getElem_toArray, List.getElem_cons_zero, List.getElem_cons_succ, List.setIfInBounds_toArray, List.set_cons_zero, List.set_cons_succ]
  refine anyL_ready (rs := [11]) (by kernel_rfl) (by simp) ?_
  refine AllL.cons rfl (fun K hK => ?_) AllL.nil
  have r_R0 : w3.cell? ⟨X.heap.size + 1 + 1, 0, none⟩ = some (.bool false) := ((unhide HR).cell 0).trans rfl
  have r_R1 : w3.cell? ⟨X.heap.size + 1 + 1, 1, none⟩ = some (.int .i64 0) := ((unhide HR).cell 1).trans rfl
  have r_R2 : w3.cell? ⟨X.heap.size + 1 + 1, 2, none⟩ = some (.int .i64 0) := ((unhide HR).cell 2).trans rfl
  have r_R3 : w3.cell? ⟨X.heap.size + 1 + 1, 3, none⟩ = some (.slice none 0 0) := ((unhide HR).cell 3).trans rfl
  have r_R4 : w3.cell? ⟨X.heap.size + 1 + 1, 4, none⟩ = some (.slice none 0 0) := ((unhide HR).cell 4).trans rfl
  have r_R5 : w3.cell? ⟨X.heap.size + 1 + 1, 5, none⟩ = some (.bool false) := ((unhide HR).cell 5).trans rfl
  have r_R6 : w3.cell? ⟨X.heap.size + 1 + 1, 6, none⟩ = some (.string ⟨#[]⟩) := ((unhide HR).cell 6).trans rfl
  have r_R7 : w3.cell? ⟨X.heap.size + 1 + 1, 7, none⟩ = some (.int .i64 0) := ((unhide HR).cell 7).trans rfl
  have r_R8 : w3.cell? ⟨X.heap.size + 1 + 1, 8, none⟩ = some (.bool false) := ((unhide HR).cell 8).trans rfl
  have zr_R0 : w3.frozen? ⟨X.heap.size + 1 + 1, 0, none⟩ = false := (unhide HR).frozen 0
  have zr_R1 : w3.frozen? ⟨X.heap.size + 1 + 1, 1, none⟩ = false := (unhide HR).frozen 1
  have zr_R2 : w3.frozen? ⟨X.heap.size + 1 + 1, 2, none⟩ = false := (unhide HR).frozen 2
  have zr_R3 : w3.frozen? ⟨X.heap.size + 1 + 1, 3, none⟩ = false := (unhide HR).frozen 3
  have zr_R4 : w3.frozen? ⟨X.heap.size + 1 + 1, 4, none⟩ = false := (unhide HR).frozen 4
  have zr_R5 : w3.frozen? ⟨X.heap.size + 1 + 1, 5, none⟩ = false := (unhide HR).frozen 5
  have zr_R6 : w3.frozen? ⟨X.heap.size + 1 + 1, 6, none⟩ = false := (unhide HR).frozen 6
  have zr_R7 : w3.frozen? ⟨X.heap.size + 1 + 1, 7, none⟩ = false := (unhide HR).frozen 7
  have zr_R8 : w3.frozen? ⟨X.heap.size + 1 + 1, 8, none⟩ = false := (unhide HR).frozen 8
  go_simp
  have NA : Hid (Cls (((((((((w3.setCell ⟨X.heap.size + 1 + 1, 0, none⟩ (.bool true)).setCell ⟨X.heap.size + 1 + 1, 1, none⟩ (.int .i64 0)).setCell ⟨X.heap.size + 1 + 1, 2, none⟩ (.int .i64 0)).setCell ⟨X.heap.size + 1 + 1, 3, none⟩ (.slice none 0 0)).setCell ⟨X.heap.size + 1 + 1, 4, none⟩ (.slice none 0 0)).setCell ⟨X.heap.size + 1 + 1, 5, none⟩ (.bool false)).setCell ⟨X.heap.size + 1 + 1, 6, none⟩ (.string ⟨#[]⟩)).setCell ⟨X.heap.size + 1 + 1, 7, none⟩ (.int .i64 0)).setCell ⟨X.heap.size + 1 + 1, 8, none⟩ (.bool false)) (X.heap.size) 44 #[.bool true, .int .i64 0, .int .i64 0, .slice none 0 0, .slice none 0 0, .bool false, .string ⟨#[]⟩, .int .i64 0, .bool false]) := hide (by simpa using (((((((((unhide HA).other ⟨X.heap.size + 1 + 1, 0, none⟩ (.bool true) (by dsimp only; omega)).other ⟨X.heap.size + 1 + 1, 1, none⟩ (.int .i64 0) (by dsimp only; omega)).other ⟨X.heap.size + 1 + 1, 2, none⟩ (.int .i64 0) (by dsimp only; omega)).other ⟨X.heap.size + 1 + 1, 3, none⟩ (.slice none 0 0) (by dsimp only; omega)).other ⟨X.heap.size + 1 + 1, 4, none⟩ (.slice none 0 0) (by dsimp only; omega)).other ⟨X.heap.size + 1 + 1, 5, none⟩ (.bool false) (by dsimp only; omega)).other ⟨X.heap.size + 1 + 1, 6, none⟩ (.string ⟨#[]⟩) (by dsimp only; omega)).other ⟨X.heap.size + 1 + 1, 7, none⟩ (.int .i64 0) (by dsimp only; omega)).other ⟨X.heap.size + 1 + 1, 8, none⟩ (.bool false) (by dsimp only; omega))
  have NO : Hid (Cls (((((((((w3.setCell ⟨X.heap.size + 1 + 1, 0, none⟩ (.bool true)).setCell ⟨X.heap.size + 1 + 1, 1, none⟩ (.int .i64 0)).setCell ⟨X.heap.size + 1 + 1, 2, none⟩ (.int .i64 0)).setCell ⟨X.heap.size + 1 + 1, 3, none⟩ (.slice none 0 0)).setCell ⟨X.heap.size + 1 + 1, 4, none⟩ (.slice none 0 0)).setCell ⟨X.heap.size + 1 + 1, 5, none⟩ (.bool false)).setCell ⟨X.heap.size + 1 + 1, 6, none⟩ (.string ⟨#[]⟩)).setCell ⟨X.heap.size + 1 + 1, 7, none⟩ (.int .i64 0)).setCell ⟨X.heap.size + 1 + 1, 8, none⟩ (.bool false)) (X.heap.size + 1) 48 #[.int .i64 1, .int .i64 n, .string w]) := hide (by simpa using (((((((((unhide HO).other ⟨X.heap.size + 1 + 1, 0, none⟩ (.bool true) (by dsimp only; omega)).other ⟨X.heap.size + 1 + 1, 1, none⟩ (.int .i64 0) (by dsimp only; omega)).other ⟨X.heap.size + 1 + 1, 2, none⟩ (.int .i64 0) (by dsimp only; omega)).other ⟨X.heap.size + 1 + 1, 3, none⟩ (.slice none 0 0) (by dsimp only; omega)).other ⟨X.heap.size + 1 + 1, 4, none⟩ (.slice none 0 0) (by dsimp only; omega)).other ⟨X.heap.size + 1 + 1, 5, none⟩ (.bool false) (by dsimp only; omega)).other ⟨X.heap.size + 1 + 1, 6, none⟩ (.string ⟨#[]⟩) (by dsimp only; omega)).other ⟨X.heap.size + 1 + 1, 7, none⟩ (.int .i64 0) (by dsimp only; omega)).other ⟨X.heap.size + 1 + 1, 8, none⟩ (.bool false) (by dsimp only; omega))
  have NR : Hid (Cls (((((((((w3.setCell ⟨X.heap.size + 1 + 1, 0, none⟩ (.bool true)).setCell ⟨X.heap.size + 1 + 1, 1, none⟩ (.int .i64 0)).setCell ⟨X.heap.size + 1 + 1, 2, none⟩ (.int .i64 0)).setCell ⟨X.heap.size + 1 + 1, 3, none⟩ (.slice none 0 0)).setCell ⟨X.heap.size + 1 + 1, 4, none⟩ (.slice none 0 0)).setCell ⟨X.heap.size + 1 + 1, 5, none⟩ (.bool false)).setCell ⟨X.heap.size + 1 + 1, 6, none⟩ (.string ⟨#[]⟩)).setCell ⟨X.heap.size + 1 + 1, 7, none⟩ (.int .i64 0)).setCell ⟨X.heap.size + 1 + 1, 8, none⟩ (.bool false)) (X.heap.size + 1 + 1) 44 #[.bool true, .int .i64 0, .int .i64 0, .slice none 0 0, .slice none 0 0, .bool false, .string ⟨#[]⟩, .int .i64 0, .bool false]) := hide (by simpa using (((((((((unhide HR).set 0 (.bool true)).set 1 (.int .i64 0)).set 2 (.int .i64 0)).set 3 (.slice none 0 0)).set 4 (.slice none 0 0)).set 5 (.bool false)).set 6 (.string ⟨#[]⟩)).set 7 (.int .i64 0)).set 8 (.bool false))
  have NT : Hid (Cls (((((((((w3.setCell ⟨X.heap.size + 1 + 1, 0, none⟩ (.bool true)).setCell ⟨X.heap.size + 1 + 1, 1, none⟩ (.int .i64 0)).setCell ⟨X.heap.size + 1 + 1, 2, none⟩ (.int .i64 0)).setCell ⟨X.heap.size + 1 + 1, 3, none⟩ (.slice none 0 0)).setCell ⟨X.heap.size + 1 + 1, 4, none⟩ (.slice none 0 0)).setCell ⟨X.heap.size + 1 + 1, 5, none⟩ (.bool false)).setCell ⟨X.heap.size + 1 + 1, 6, none⟩ (.string ⟨#[]⟩)).setCell ⟨X.heap.size + 1 + 1, 7, none⟩ (.int .i64 0)).setCell ⟨X.heap.size + 1 + 1, 8, none⟩ (.bool false)) (w1.heap.size) 44 #[.bool true, .int .i64 0, .int .i64 0, .slice none 0 0, .slice none 0 0, .bool false, .string ⟨#[]⟩, .int .i64 0, .bool false]) := hide (by simpa using (((((((((unhide HT).other ⟨X.heap.size + 1 + 1, 0, none⟩ (.bool true) (by dsimp only; omega)).other ⟨X.heap.size + 1 + 1, 1, none⟩ (.int .i64 0) (by dsimp only; omega)).other ⟨X.heap.size + 1 + 1, 2, none⟩ (.int .i64 0) (by dsimp only; omega)).other ⟨X.heap.size + 1 + 1, 3, none⟩ (.slice none 0 0) (by dsimp only; omega)).other ⟨X.heap.size + 1 + 1, 4, none⟩ (.slice none 0 0) (by dsimp only; omega)).other ⟨X.heap.size + 1 + 1, 5, none⟩ (.bool false) (by dsimp only; omega)).other ⟨X.heap.size + 1 + 1, 6, none⟩ (.string ⟨#[]⟩) (by dsimp only; omega)).other ⟨X.heap.size + 1 + 1, 7, none⟩ (.int .i64 0) (by dsimp only; omega)).other ⟨X.heap.size + 1 + 1, 8, none⟩ (.bool false) (by dsimp only; omega))
  have NHK0 := hide ((((((((((unhide HK0).upd ⟨X.heap.size + 1 + 1, 0, none⟩ (.bool true) (.inr (by dsimp only; omega))).upd ⟨X.heap.size + 1 + 1, 1, none⟩ (.int .i64 0) (.inr (by dsimp only; omega))).upd ⟨X.heap.size + 1 + 1, 2, none⟩ (.int .i64 0) (.inr (by dsimp only; omega))).upd ⟨X.heap.size + 1 + 1, 3, none⟩ (.slice none 0 0) (.inr (by dsimp only; omega))).upd ⟨X.heap.size + 1 + 1, 4, none⟩ (.slice none 0 0) (.inr (by dsimp only; omega))).upd ⟨X.heap.size + 1 + 1, 5, none⟩ (.bool false) (.inr (by dsimp only; omega))).upd ⟨X.heap.size + 1 + 1, 6, none⟩ (.string ⟨#[]⟩) (.inr (by dsimp only; omega))).upd ⟨X.heap.size + 1 + 1, 7, none⟩ (.int .i64 0) (.inr (by dsimp only; omega))).upd ⟨X.heap.size + 1 + 1, 8, none⟩ (.bool false) (.inr (by dsimp only; omega)))
  clear HA HO HR HT HK0
  generalize (((((((((w3.setCell ⟨X.heap.size + 1 + 1, 0, none⟩ (.bool true)).setCell ⟨X.heap.size + 1 + 1, 1, none⟩ (.int .i64 0)).setCell ⟨X.heap.size + 1 + 1, 2, none⟩ (.int .i64 0)).setCell ⟨X.heap.size + 1 + 1, 3, none⟩ (.slice none 0 0)).setCell ⟨X.heap.size + 1 + 1, 4, none⟩ (.slice none 0 0)).setCell ⟨X.heap.size + 1 + 1, 5, none⟩ (.bool false)).setCell ⟨X.heap.size + 1 + 1, 6, none⟩ (.string ⟨#[]⟩)).setCell ⟨X.heap.size + 1 + 1, 7, none⟩ (.int .i64 0)).setCell ⟨X.heap.size + 1 + 1, 8, none⟩ (.bool false)) = W2 at *
  have HA := NA
  have HO := NO
  have HR := NR
  have HT := NT
  have HK0 := NHK0
  clear NA NO NR NT NHK0
  have HS4 : Hid (W2.cell? ⟨w1.heap.size, 0, none⟩ = some (.bool true) ∧ W2.cell? ⟨w1.heap.size, 1, none⟩ = some (.int .i64 0) ∧ W2.cell? ⟨w1.heap.size, 2, none⟩ = some (.int .i64 0) ∧ W2.cell? ⟨w1.heap.size, 3, none⟩ = some (.slice none 0 0) ∧ W2.cell? ⟨w1.heap.size, 4, none⟩ = some (.slice none 0 0) ∧ W2.cell? ⟨w1.heap.size, 5, none⟩ = some (.bool false) ∧ W2.cell? ⟨w1.heap.size, 6, none⟩ = some (.string ⟨#[]⟩) ∧ W2.cell? ⟨w1.heap.size, 7, none⟩ = some (.int .i64 0) ∧ W2.cell? ⟨w1.heap.size, 8, none⟩ = some (.bool false) ∧ W2.cell? ⟨X.heap.size + 1, 1, none⟩ = some (.int .i64 n) ∧ W2.cell? ⟨X.heap.size + 1, 2, none⟩ = some (.string w)) := hide ⟨((unhide HT).cell 0).trans rfl, ((unhide HT).cell 1).trans rfl, ((unhide HT).cell 2).trans rfl, ((unhide HT).cell 3).trans rfl, ((unhide HT).cell 4).trans rfl, ((unhide HT).cell 5).trans rfl, ((unhide HT).cell 6).trans rfl, ((unhide HT).cell 7).trans rfl, ((unhide HT).cell 8).trans rfl, ((unhide HO).cell 1).trans rfl, ((unhide HO).cell 2).trans rfl⟩
  refine unhide hK _ _ (fun _ => unhide HS4) ?_
  clear hK K
  refine anyL_take (i := 12) (v := ?vq19) rfl (by kernel_rfl) (by kernel_rfl) (by kernel_rfl) (by kernel_rfl) (fun _ _ _ h => h) (Or.inl ⟨by rfl, ?hq19⟩) (unhide HS4) ?_
  case hq19 => (intro w hSw; (try dsimp only at hSw); go_simp) <;> with_reducible rfl
  simp only [Act.put, List.getElem_toArray, List.getElem_cons_zero, List.getElem_cons_succ, List.setIfInBounds_toArray, List.set_cons_zero, List.set_cons_succ]
  refine anyL_done (by kernel_rfl) ?_ _
  have q0 : W2.cell? ⟨X.heap.size + 1 + 1, 0, none⟩ = some (.bool true) := ((unhide HR).cell 0).trans rfl
  have q1 : W2.cell? ⟨X.heap.size + 1 + 1, 1, none⟩ = some (.int .i64 0) := ((unhide HR).cell 1).trans rfl
  have q2 : W2.cell? ⟨X.heap.size + 1 + 1, 2, none⟩ = some (.int .i64 0) := ((unhide HR).cell 2).trans rfl
  have q3 : W2.cell? ⟨X.heap.size + 1 + 1, 3, none⟩ = some (.slice none 0 0) := ((unhide HR).cell 3).trans rfl
  have q4 : W2.cell? ⟨X.heap.size + 1 + 1, 4, none⟩ = some (.slice none 0 0) := ((unhide HR).cell 4).trans rfl
  have q5 : W2.cell? ⟨X.heap.size + 1 + 1, 5, none⟩ = some (.bool false) := ((unhide HR).cell 5).trans rfl
  have q6 : W2.cell? ⟨X.heap.size + 1 + 1, 6, none⟩ = some (.string ⟨#[]⟩) := ((unhide HR).cell 6).trans rfl
  have q7 : W2.cell? ⟨X.heap.size + 1 + 1, 7, none⟩ = some (.int .i64 0) := ((unhide HR).cell 7).trans rfl
  have q8 : W2.cell? ⟨X.heap.size + 1 + 1, 8, none⟩ = some (.bool false) := ((unhide HR).cell 8).trans rfl
  go_wp2_with fail
  refine bodyPost_ret (v := .tuple #[.agg #[.bool true, .int .i64 0, .int .i64 0, .slice none 0 0, .slice none 0 0, .bool false, .string ⟨#[]⟩, .int .i64 0, .bool false], .bool true]) (by simp [results, Try.results21, go_sem, q0, q1, q2, q3, q4, q5, q6, q7, q8]) rfl ?_
  exact ⟨rfl, (unhide HK0).below (Nat.le_refl _) (fun _ e => e.elim)⟩
set_option maxRecDepth 100000 in
set_option maxHeartbeats 4000000 in
theorem step4Q_at (X : World) (F : Nat → Prop) (g : Nat) (p : Pa Int) (D : Nat → Prop) (c : Array Value) (hP : PsQ X F g (mpQ p)) (hD : IsD X D c p) (hok : OkP p) (hdj : ∀ i, D i → ¬ F i) (n : Int) (w : ByteArray) (hw : w.size ≤ 281474976710656) :
    Calls Try.prog 21 #[.pointer (some ⟨g, 0, none⟩), .agg c, .agg #[.int .i64 4, .int .i64 n, .string w], .func (.func 8) #[] #[]] X fun y Y => ∃ c' D' G, y = .returned (.tuple #[.agg c', .bool true]) ∧ IsD Y D' c' ((beginP p w).1) ∧ PsQ Y G g (mpQ ((beginP p w).1)) ∧ (∀ i, D' i → ¬ G i) ∧ Gr F X G Y ∧ ∀ i, D' i → D i ∨ X.heap.size ≤ i := by
  have HP := hide hP
  have HD := hide hD
  have HOK := hide hok
  have HDJ := hide hdj
  have HW := hide hw
  have HFL := hide hP.lt
  obtain ⟨bA, bN, bC, aA, aN, aC, oS, w0, f0, d0, rfl⟩ := hD.form
  clear hP hD hok hdj hw
  have HA : Hid (Cls (((X.alloc (.cells #[.bool false, .int .i64 p.s, .int .i64 p.m, .slice bA bN bC, .slice aA aN aC, .bool oS, .string w0, .int .i64 f0, .bool d0] 44)).alloc (.cells #[.int .i64 4, .int .i64 n, .string w] 48)).alloc (.cells #[.bool false, .int .i64 0, .int .i64 0, .slice none 0 0, .slice none 0 0, .bool false, .string ⟨#[]⟩, .int .i64 0, .bool false] 44)) (X.heap.size) 44 #[.bool false, .int .i64 p.s, .int .i64 p.m, .slice bA bN bC, .slice aA aN aC, .bool oS, .string w0, .int .i64 f0, .bool d0]) := hide (by simpa using ((Cls.new X 44 #[.bool false, .int .i64 p.s, .int .i64 p.m, .slice bA bN bC, .slice aA aN aC, .bool oS, .string w0, .int .i64 f0, .bool d0]).alloc (.cells #[.int .i64 4, .int .i64 n, .string w] 48)).alloc (.cells #[.bool false, .int .i64 0, .int .i64 0, .slice none 0 0, .slice none 0 0, .bool false, .string ⟨#[]⟩, .int .i64 0, .bool false] 44))
  have HO : Hid (Cls (((X.alloc (.cells #[.bool false, .int .i64 p.s, .int .i64 p.m, .slice bA bN bC, .slice aA aN aC, .bool oS, .string w0, .int .i64 f0, .bool d0] 44)).alloc (.cells #[.int .i64 4, .int .i64 n, .string w] 48)).alloc (.cells #[.bool false, .int .i64 0, .int .i64 0, .slice none 0 0, .slice none 0 0, .bool false, .string ⟨#[]⟩, .int .i64 0, .bool false] 44)) (X.heap.size + 1) 48 #[.int .i64 4, .int .i64 n, .string w]) := hide (by simpa using (Cls.new (X.alloc (.cells #[.bool false, .int .i64 p.s, .int .i64 p.m, .slice bA bN bC, .slice aA aN aC, .bool oS, .string w0, .int .i64 f0, .bool d0] 44)) 48 #[.int .i64 4, .int .i64 n, .string w]).alloc (.cells #[.bool false, .int .i64 0, .int .i64 0, .slice none 0 0, .slice none 0 0, .bool false, .string ⟨#[]⟩, .int .i64 0, .bool false] 44))
  have HR : Hid (Cls (((X.alloc (.cells #[.bool false, .int .i64 p.s, .int .i64 p.m, .slice bA bN bC, .slice aA aN aC, .bool oS, .string w0, .int .i64 f0, .bool d0] 44)).alloc (.cells #[.int .i64 4, .int .i64 n, .string w] 48)).alloc (.cells #[.bool false, .int .i64 0, .int .i64 0, .slice none 0 0, .slice none 0 0, .bool false, .string ⟨#[]⟩, .int .i64 0, .bool false] 44)) (X.heap.size + 1 + 1) 44 #[.bool false, .int .i64 0, .int .i64 0, .slice none 0 0, .slice none 0 0, .bool false, .string ⟨#[]⟩, .int .i64 0, .bool false]) := hide (by simpa using Cls.new ((X.alloc (.cells #[.bool false, .int .i64 p.s, .int .i64 p.m, .slice bA bN bC, .slice aA aN aC, .bool oS, .string w0, .int .i64 f0, .bool d0] 44)).alloc (.cells #[.int .i64 4, .int .i64 n, .string w] 48)) 44 #[.bool false, .int .i64 0, .int .i64 0, .slice none 0 0, .slice none 0 0, .bool false, .string ⟨#[]⟩, .int .i64 0, .bool false])
  have HK0 : Hid (KpF (fun _ => False) X (((X.alloc (.cells #[.bool false, .int .i64 p.s, .int .i64 p.m, .slice bA bN bC, .slice aA aN aC, .bool oS, .string w0, .int .i64 f0, .bool d0] 44)).alloc (.cells #[.int .i64 4, .int .i64 n, .string w] 48)).alloc (.cells #[.bool false, .int .i64 0, .int .i64 0, .slice none 0 0, .slice none 0 0, .bool false, .string ⟨#[]⟩, .int .i64 0, .bool false] 44))) := hide ((((KpF.refl (fun _ => False) X).al _).al _).al _)
  go_enter Try.func21, Try.ntmps21
  go_upto_region 1 with fail
  generalize (((X.alloc (.cells #[.bool false, .int .i64 p.s, .int .i64 p.m, .slice bA bN bC, .slice aA aN aC, .bool oS, .string w0, .int .i64 f0, .bool d0] 44)).alloc (.cells #[.int .i64 4, .int .i64 n, .string w] 48)).alloc (.cells #[.bool false, .int .i64 0, .int .i64 0, .slice none 0 0, .slice none 0 0, .bool false, .string ⟨#[]⟩, .int .i64 0, .bool false] 44)) = W0 at *
  have hltc : X.heap.size + 1 + 1 < W0.heap.size := (unhide HR).lt
  have HC := hide (RBeginA_at W0 D _ p ((unhide HD).kpf (unhide HK0) (fun _ _ e => e)) (unhide HOK) w)
  have c_A0 : W0.cell? ⟨X.heap.size, 0, none⟩ = some (.bool false) := ((unhide HA).cell 0).trans rfl
  have c_A1 : W0.cell? ⟨X.heap.size, 1, none⟩ = some (.int .i64 p.s) := ((unhide HA).cell 1).trans rfl
  have c_A2 : W0.cell? ⟨X.heap.size, 2, none⟩ = some (.int .i64 p.m) := ((unhide HA).cell 2).trans rfl
  have c_A3 : W0.cell? ⟨X.heap.size, 3, none⟩ = some (.slice bA bN bC) := ((unhide HA).cell 3).trans rfl
  have c_A4 : W0.cell? ⟨X.heap.size, 4, none⟩ = some (.slice aA aN aC) := ((unhide HA).cell 4).trans rfl
  have c_A5 : W0.cell? ⟨X.heap.size, 5, none⟩ = some (.bool oS) := ((unhide HA).cell 5).trans rfl
  have c_A6 : W0.cell? ⟨X.heap.size, 6, none⟩ = some (.string w0) := ((unhide HA).cell 6).trans rfl
  have c_A7 : W0.cell? ⟨X.heap.size, 7, none⟩ = some (.int .i64 f0) := ((unhide HA).cell 7).trans rfl
  have c_A8 : W0.cell? ⟨X.heap.size, 8, none⟩ = some (.bool d0) := ((unhide HA).cell 8).trans rfl
  have c_O0 : W0.cell? ⟨X.heap.size + 1, 0, none⟩ = some (.int .i64 4) := ((unhide HO).cell 0).trans rfl
  have c_O1 : W0.cell? ⟨X.heap.size + 1, 1, none⟩ = some (.int .i64 n) := ((unhide HO).cell 1).trans rfl
  have c_O2 : W0.cell? ⟨X.heap.size + 1, 2, none⟩ = some (.string w) := ((unhide HO).cell 2).trans rfl
  go_wp2_with fail
  refine (unhide HC).mono ?_
  rintro y w1 ⟨c1, D1, rfl, i1, n1, x1⟩
  dsimp only
  obtain ⟨bA1, bN1, bC1, aA1, aN1, aC1, oS1, w01, f01, d01, rfl⟩ := i1.form
  have HI1 := hide i1
  have HN1 := hide n1
  clear HC i1 n1
  clear c_A0 c_A1 c_A2 c_A3 c_A4 c_A5 c_A6 c_A7 c_A8 c_O0 c_O1 c_O2
  have hcw : W0.heap.size ≤ w1.heap.size := x1.size
  have HX1 := hide x1
  have NA := hide ((unhide HA).kpf (KpF.of (F := fun _ => False) (unhide HX1)) (fun e => e))
  have NO := hide ((unhide HO).kpf (KpF.of (F := fun _ => False) (unhide HX1)) (fun e => e))
  have NR := hide ((unhide HR).kpf (KpF.of (F := fun _ => False) (unhide HX1)) (fun e => e))
  have NHK0 := hide ((unhide HK0).bel (unhide HX1))
  clear HA HO HR HK0
  have HA := NA
  have HO := NO
  have HR := NR
  have HK0 := NHK0
  clear NA NO NR NHK0
  clear x1
  have HKI := hide (KpF.refl (fun _ => False) w1)
  have hgeT : X.heap.size + 1 + 1 < w1.heap.size := (unhide HR).lt
  have NA := hide ((unhide HA).alloc (.cells #[.bool false, .int .i64 ((beginP p w).1).s, .int .i64 ((beginP p w).1).m, .slice bA1 bN1 bC1, .slice aA1 aN1 aC1, .bool oS1, .string w01, .int .i64 f01, .bool d01] 44))
  have NO := hide ((unhide HO).alloc (.cells #[.bool false, .int .i64 ((beginP p w).1).s, .int .i64 ((beginP p w).1).m, .slice bA1 bN1 bC1, .slice aA1 aN1 aC1, .bool oS1, .string w01, .int .i64 f01, .bool d01] 44))
  have NR := hide ((unhide HR).alloc (.cells #[.bool false, .int .i64 ((beginP p w).1).s, .int .i64 ((beginP p w).1).m, .slice bA1 bN1 bC1, .slice aA1 aN1 aC1, .bool oS1, .string w01, .int .i64 f01, .bool d01] 44))
  have NT := hide (Cls.new w1 44 #[.bool false, .int .i64 ((beginP p w).1).s, .int .i64 ((beginP p w).1).m, .slice bA1 bN1 bC1, .slice aA1 aN1 aC1, .bool oS1, .string w01, .int .i64 f01, .bool d01])
  have NHK0 := hide ((unhide HK0).al (.cells #[.bool false, .int .i64 ((beginP p w).1).s, .int .i64 ((beginP p w).1).m, .slice bA1 bN1 bC1, .slice aA1 aN1 aC1, .bool oS1, .string w01, .int .i64 f01, .bool d01] 44))
  have NHKI := hide ((unhide HKI).al (.cells #[.bool false, .int .i64 ((beginP p w).1).s, .int .i64 ((beginP p w).1).m, .slice bA1 bN1 bC1, .slice aA1 aN1 aC1, .bool oS1, .string w01, .int .i64 f01, .bool d01] 44))
  clear HA HO HR HK0 HKI
  go_upto_region 25 with fail
  generalize (w1.alloc (.cells #[.bool false, .int .i64 ((beginP p w).1).s, .int .i64 ((beginP p w).1).m, .slice bA1 bN1 bC1, .slice aA1 aN1 aC1, .bool oS1, .string w01, .int .i64 f01, .bool d01] 44)) = W1 at *
  have HA := NA
  have HO := NO
  have HR := NR
  have HT := NT
  have HK0 := NHK0
  have HKI := NHKI
  clear NA NO NR NT NHK0 NHKI
  have NA := hide ((unhide HA).kpf (kpf_drew W1) (fun e => e))
  have NO := hide ((unhide HO).kpf (kpf_drew W1) (fun e => e))
  have NR := hide ((unhide HR).kpf (kpf_drew W1) (fun e => e))
  have NT := hide ((unhide HT).kpf (kpf_drew W1) (fun e => e))
  have NHK0 := hide ((unhide HK0).trans (kpf_drew W1) (fun _ _ e => e))
  have NHKI := hide ((unhide HKI).trans (kpf_drew W1) (fun _ _ e => e))
  clear HA HO HR HT HK0 HKI
  have HA := NA
  have HO := NO
  have HR := NR
  have HT := NT
  have HK0 := NHK0
  have HKI := NHKI
  clear NA NO NR NT NHK0 NHKI
  have HS0 : Hid (W1.drew.cell? ⟨w1.heap.size, 0, none⟩ = some (.bool false) ∧ W1.drew.cell? ⟨w1.heap.size, 1, none⟩ = some (.int .i64 ((beginP p w).1).s) ∧ W1.drew.cell? ⟨w1.heap.size, 2, none⟩ = some (.int .i64 ((beginP p w).1).m) ∧ W1.drew.cell? ⟨w1.heap.size, 3, none⟩ = some (.slice bA1 bN1 bC1) ∧ W1.drew.cell? ⟨w1.heap.size, 4, none⟩ = some (.slice aA1 aN1 aC1) ∧ W1.drew.cell? ⟨w1.heap.size, 5, none⟩ = some (.bool oS1) ∧ W1.drew.cell? ⟨w1.heap.size, 6, none⟩ = some (.string w01) ∧ W1.drew.cell? ⟨w1.heap.size, 7, none⟩ = some (.int .i64 f01) ∧ W1.drew.cell? ⟨w1.heap.size, 8, none⟩ = some (.bool d01) ∧ W1.drew.cell? ⟨X.heap.size + 1, 2, none⟩ = some (.string w)) := hide ⟨((unhide HT).cell 0).trans rfl, ((unhide HT).cell 1).trans rfl, ((unhide HT).cell 2).trans rfl, ((unhide HT).cell 3).trans rfl, ((unhide HT).cell 4).trans rfl, ((unhide HT).cell 5).trans rfl, ((unhide HT).cell 6).trans rfl, ((unhide HT).cell 7).trans rfl, ((unhide HT).cell 8).trans rfl, ((unhide HO).cell 2).trans rfl⟩
  refine regionL (S := fun z => z.cell? ⟨w1.heap.size, 0, none⟩ = some (.bool false) ∧ z.cell? ⟨w1.heap.size, 1, none⟩ = some (.int .i64 ((beginP p w).1).s) ∧ z.cell? ⟨w1.heap.size, 2, none⟩ = some (.int .i64 ((beginP p w).1).m) ∧ z.cell? ⟨w1.heap.size, 3, none⟩ = some (.slice bA1 bN1 bC1) ∧ z.cell? ⟨w1.heap.size, 4, none⟩ = some (.slice aA1 aN1 aC1) ∧ z.cell? ⟨w1.heap.size, 5, none⟩ = some (.bool oS1) ∧ z.cell? ⟨w1.heap.size, 6, none⟩ = some (.string w01) ∧ z.cell? ⟨w1.heap.size, 7, none⟩ = some (.int .i64 f01) ∧ z.cell? ⟨w1.heap.size, 8, none⟩ = some (.bool d01) ∧ z.cell? ⟨X.heap.size + 1, 2, none⟩ = some (.string w)) (fun _ => false) (by kernel_rfl) ?_
  refine anyL_take (i := 0) (v := ?vq20) rfl (by kernel_rfl) (by kernel_rfl) (by kernel_rfl) (by kernel_rfl) (fun _ _ _ h => h) (Or.inl ⟨by rfl, ?hq20⟩) (unhide HS0) ?_
  case hq20 => (intro w hSw; (try dsimp only at hSw); go_simp) <;> with_reducible rfl
  simp only [Act.put, List.getElem_toArray, List.getElem_cons_zero, List.setIfInBounds_toArray, List.set_cons_zero, List.set_cons_succ]
  refine anyL_take (i := 1) (v := ?vq21) rfl (by kernel_rfl) (by kernel_rfl) (by kernel_rfl) (by kernel_rfl) (fun _ _ _ h => h) (Or.inl ⟨by rfl, ?hq21⟩) (unhide HS0) ?_
  case hq21 => (intro w hSw; (try dsimp only at hSw); go_simp) <;> with_reducible rfl
  simp only [Act.put, List.getElem_toArray, List.getElem_cons_zero, List.getElem_cons_succ, List.setIfInBounds_toArray, List.set_cons_zero, List.set_cons_succ]
  refine anyL_take (i := 2) (v := ?vq22) rfl (by kernel_rfl) (by kernel_rfl) (by kernel_rfl) (by kernel_rfl) (fun _ _ _ h => h) (Or.inl ⟨by rfl, ?hq22⟩) (unhide HS0) ?_
  case hq22 => (intro w hSw; (try dsimp only at hSw); go_simp) <;> with_reducible rfl
  simp only [Act.put, List.getElem_toArray, List.getElem_cons_zero, List.getElem_cons_succ, List.setIfInBounds_toArray, List.set_cons_zero, List.set_cons_succ]
  refine anyL_take (i := 3) (v := ?vq23) rfl (by kernel_rfl) (by kernel_rfl) (by kernel_rfl) (by kernel_rfl) (fun _ _ _ h => h) (Or.inl ⟨by rfl, ?hq23⟩) (unhide HS0) ?_
  case hq23 => (intro w hSw; (try dsimp only at hSw); go_simp) <;> with_reducible rfl
  simp only [Act.put, List.getElem_toArray, List.getElem_cons_zero, List.getElem_cons_succ, List.setIfInBounds_toArray, List.set_cons_zero, List.set_cons_succ]
  refine anyL_take (i := 5) (v := ?vq24) rfl (by kernel_rfl) (by kernel_rfl) (by kernel_rfl) (by kernel_rfl) (fun _ _ _ h => h) (Or.inl ⟨by rfl, ?hq24⟩) (unhide HS0) ?_
  case hq24 => (intro w hSw; (try dsimp only at hSw); go_simp) <;> with_reducible rfl
  simp only [Act.put, List.getElem_toArray, List.getElem_cons_zero, List.getElem_cons_succ, List.setIfInBounds_toArray, List.set_cons_zero, List.set_cons_succ]
  refine anyL_ready (rs := [4]) (by kernel_rfl) (by simp) ?_
  refine AllL.cons rfl (fun K hK => ?_) AllL.nil
  go_simp
  have HI2 := hide ((unhide HI1).kpf (unhide HKI) (fun _ _ e => e))
  have HPA := hide ((unhide HP).kpf (unhide HK0) (fun _ _ e => e))
  have hc2 : W0.heap.size ≤ W1.drew.heap.size := Nat.le_trans hcw (unhide HKI).size
  refine (BeginQ_at _ F g p (unhide HPA) w (unhide HW)).mono ?_
  rintro y w3 ⟨rfl, G, i3, g3⟩
  dsimp only
  have HI3 := hide i3
  have HG3 := hide g3
  have HX2 := HK0
  have NA := hide ((unhide HA).kpf g3.kp (fun e => by have := unhide HFL _ e; omega))
  have NO := hide ((unhide HO).kpf g3.kp (fun e => by have := unhide HFL _ e; omega))
  have NR := hide ((unhide HR).kpf g3.kp (fun e => by have := unhide HFL _ e; omega))
  have NT := hide ((unhide HT).kpf g3.kp (fun e => by have := unhide HFL _ e; omega))
  clear HA HO HR HT HK0 HKI
  have HA := NA
  have HO := NO
  have HR := NR
  have HT := NT
  clear NA NO NR NT
  have HK1 := hide (KpF.refl (fun i => X.heap.size ≤ i ∧ i < W0.heap.size) w3)
  clear i3 g3
  have HS3 : Hid (w3.cell? ⟨w1.heap.size, 0, none⟩ = some (.bool false) ∧ w3.cell? ⟨w1.heap.size, 1, none⟩ = some (.int .i64 ((beginP p w).1).s) ∧ w3.cell? ⟨w1.heap.size, 2, none⟩ = some (.int .i64 ((beginP p w).1).m) ∧ w3.cell? ⟨w1.heap.size, 3, none⟩ = some (.slice bA1 bN1 bC1) ∧ w3.cell? ⟨w1.heap.size, 4, none⟩ = some (.slice aA1 aN1 aC1) ∧ w3.cell? ⟨w1.heap.size, 5, none⟩ = some (.bool oS1) ∧ w3.cell? ⟨w1.heap.size, 6, none⟩ = some (.string w01) ∧ w3.cell? ⟨w1.heap.size, 7, none⟩ = some (.int .i64 f01) ∧ w3.cell? ⟨w1.heap.size, 8, none⟩ = some (.bool d01) ∧ w3.cell? ⟨X.heap.size + 1, 2, none⟩ = some (.string w)) := hide ⟨((unhide HT).cell 0).trans rfl, ((unhide HT).cell 1).trans rfl, ((unhide HT).cell 2).trans rfl, ((unhide HT).cell 3).trans rfl, ((unhide HT).cell 4).trans rfl, ((unhide HT).cell 5).trans rfl, ((unhide HT).cell 6).trans rfl, ((unhide HT).cell 7).trans rfl, ((unhide HT).cell 8).trans rfl, ((unhide HO).cell 2).trans rfl⟩
  refine unhide hK _ _ (fun _ => unhide HS3) ?_
  clear hK K
  refine anyL_take (i := 6) (v := ?vq25) rfl (by kernel_rfl) (by kernel_rfl) (by kernel_rfl) (by kernel_rfl) (fun _ _ _ h => h) (Or.inl ⟨by rfl, ?hq25⟩) (unhide HS3) ?_
  case hq25 => (intro w hSw; (try dsimp only at hSw); go_simp) <;> with_reducible rfl
  simp only [Act.put, List.getElem_toArray, List.getElem_cons_zero, List.getElem_cons_succ, List.setIfInBounds_toArray, List.set_cons_zero, List.set_cons_succ]
  refine anyL_ready (rs := [7]) (by kernel_rfl) (by simp) ?_
  refine AllL.cons rfl (fun K hK => ?_) AllL.nil
  have r_R0 : w3.cell? ⟨X.heap.size + 1 + 1, 0, none⟩ = some (.bool false) := ((unhide HR).cell 0).trans rfl
  have r_R1 : w3.cell? ⟨X.heap.size + 1 + 1, 1, none⟩ = some (.int .i64 0) := ((unhide HR).cell 1).trans rfl
  have r_R2 : w3.cell? ⟨X.heap.size + 1 + 1, 2, none⟩ = some (.int .i64 0) := ((unhide HR).cell 2).trans rfl
  have r_R3 : w3.cell? ⟨X.heap.size + 1 + 1, 3, none⟩ = some (.slice none 0 0) := ((unhide HR).cell 3).trans rfl
  have r_R4 : w3.cell? ⟨X.heap.size + 1 + 1, 4, none⟩ = some (.slice none 0 0) := ((unhide HR).cell 4).trans rfl
  have r_R5 : w3.cell? ⟨X.heap.size + 1 + 1, 5, none⟩ = some (.bool false) := ((unhide HR).cell 5).trans rfl
  have r_R6 : w3.cell? ⟨X.heap.size + 1 + 1, 6, none⟩ = some (.string ⟨#[]⟩) := ((unhide HR).cell 6).trans rfl
  have r_R7 : w3.cell? ⟨X.heap.size + 1 + 1, 7, none⟩ = some (.int .i64 0) := ((unhide HR).cell 7).trans rfl
  have r_R8 : w3.cell? ⟨X.heap.size + 1 + 1, 8, none⟩ = some (.bool false) := ((unhide HR).cell 8).trans rfl
  have zr_R0 : w3.frozen? ⟨X.heap.size + 1 + 1, 0, none⟩ = false := (unhide HR).frozen 0
  have zr_R1 : w3.frozen? ⟨X.heap.size + 1 + 1, 1, none⟩ = false := (unhide HR).frozen 1
  have zr_R2 : w3.frozen? ⟨X.heap.size + 1 + 1, 2, none⟩ = false := (unhide HR).frozen 2
  have zr_R3 : w3.frozen? ⟨X.heap.size + 1 + 1, 3, none⟩ = false := (unhide HR).frozen 3
  have zr_R4 : w3.frozen? ⟨X.heap.size + 1 + 1, 4, none⟩ = false := (unhide HR).frozen 4
  have zr_R5 : w3.frozen? ⟨X.heap.size + 1 + 1, 5, none⟩ = false := (unhide HR).frozen 5
  have zr_R6 : w3.frozen? ⟨X.heap.size + 1 + 1, 6, none⟩ = false := (unhide HR).frozen 6
  have zr_R7 : w3.frozen? ⟨X.heap.size + 1 + 1, 7, none⟩ = false := (unhide HR).frozen 7
  have zr_R8 : w3.frozen? ⟨X.heap.size + 1 + 1, 8, none⟩ = false := (unhide HR).frozen 8
  go_simp
  have NA : Hid (Cls (((((((((w3.setCell ⟨X.heap.size + 1 + 1, 0, none⟩ (.bool false)).setCell ⟨X.heap.size + 1 + 1, 1, none⟩ (.int .i64 ((beginP p w).1).s)).setCell ⟨X.heap.size + 1 + 1, 2, none⟩ (.int .i64 ((beginP p w).1).m)).setCell ⟨X.heap.size + 1 + 1, 3, none⟩ (.slice bA1 bN1 bC1)).setCell ⟨X.heap.size + 1 + 1, 4, none⟩ (.slice aA1 aN1 aC1)).setCell ⟨X.heap.size + 1 + 1, 5, none⟩ (.bool oS1)).setCell ⟨X.heap.size + 1 + 1, 6, none⟩ (.string w01)).setCell ⟨X.heap.size + 1 + 1, 7, none⟩ (.int .i64 f01)).setCell ⟨X.heap.size + 1 + 1, 8, none⟩ (.bool d01)) (X.heap.size) 44 #[.bool false, .int .i64 p.s, .int .i64 p.m, .slice bA bN bC, .slice aA aN aC, .bool oS, .string w0, .int .i64 f0, .bool d0]) := hide (by simpa using (((((((((unhide HA).other ⟨X.heap.size + 1 + 1, 0, none⟩ (.bool false) (by dsimp only; omega)).other ⟨X.heap.size + 1 + 1, 1, none⟩ (.int .i64 ((beginP p w).1).s) (by dsimp only; omega)).other ⟨X.heap.size + 1 + 1, 2, none⟩ (.int .i64 ((beginP p w).1).m) (by dsimp only; omega)).other ⟨X.heap.size + 1 + 1, 3, none⟩ (.slice bA1 bN1 bC1) (by dsimp only; omega)).other ⟨X.heap.size + 1 + 1, 4, none⟩ (.slice aA1 aN1 aC1) (by dsimp only; omega)).other ⟨X.heap.size + 1 + 1, 5, none⟩ (.bool oS1) (by dsimp only; omega)).other ⟨X.heap.size + 1 + 1, 6, none⟩ (.string w01) (by dsimp only; omega)).other ⟨X.heap.size + 1 + 1, 7, none⟩ (.int .i64 f01) (by dsimp only; omega)).other ⟨X.heap.size + 1 + 1, 8, none⟩ (.bool d01) (by dsimp only; omega))
  have NO : Hid (Cls (((((((((w3.setCell ⟨X.heap.size + 1 + 1, 0, none⟩ (.bool false)).setCell ⟨X.heap.size + 1 + 1, 1, none⟩ (.int .i64 ((beginP p w).1).s)).setCell ⟨X.heap.size + 1 + 1, 2, none⟩ (.int .i64 ((beginP p w).1).m)).setCell ⟨X.heap.size + 1 + 1, 3, none⟩ (.slice bA1 bN1 bC1)).setCell ⟨X.heap.size + 1 + 1, 4, none⟩ (.slice aA1 aN1 aC1)).setCell ⟨X.heap.size + 1 + 1, 5, none⟩ (.bool oS1)).setCell ⟨X.heap.size + 1 + 1, 6, none⟩ (.string w01)).setCell ⟨X.heap.size + 1 + 1, 7, none⟩ (.int .i64 f01)).setCell ⟨X.heap.size + 1 + 1, 8, none⟩ (.bool d01)) (X.heap.size + 1) 48 #[.int .i64 4, .int .i64 n, .string w]) := hide (by simpa using (((((((((unhide HO).other ⟨X.heap.size + 1 + 1, 0, none⟩ (.bool false) (by dsimp only; omega)).other ⟨X.heap.size + 1 + 1, 1, none⟩ (.int .i64 ((beginP p w).1).s) (by dsimp only; omega)).other ⟨X.heap.size + 1 + 1, 2, none⟩ (.int .i64 ((beginP p w).1).m) (by dsimp only; omega)).other ⟨X.heap.size + 1 + 1, 3, none⟩ (.slice bA1 bN1 bC1) (by dsimp only; omega)).other ⟨X.heap.size + 1 + 1, 4, none⟩ (.slice aA1 aN1 aC1) (by dsimp only; omega)).other ⟨X.heap.size + 1 + 1, 5, none⟩ (.bool oS1) (by dsimp only; omega)).other ⟨X.heap.size + 1 + 1, 6, none⟩ (.string w01) (by dsimp only; omega)).other ⟨X.heap.size + 1 + 1, 7, none⟩ (.int .i64 f01) (by dsimp only; omega)).other ⟨X.heap.size + 1 + 1, 8, none⟩ (.bool d01) (by dsimp only; omega))
  have NR : Hid (Cls (((((((((w3.setCell ⟨X.heap.size + 1 + 1, 0, none⟩ (.bool false)).setCell ⟨X.heap.size + 1 + 1, 1, none⟩ (.int .i64 ((beginP p w).1).s)).setCell ⟨X.heap.size + 1 + 1, 2, none⟩ (.int .i64 ((beginP p w).1).m)).setCell ⟨X.heap.size + 1 + 1, 3, none⟩ (.slice bA1 bN1 bC1)).setCell ⟨X.heap.size + 1 + 1, 4, none⟩ (.slice aA1 aN1 aC1)).setCell ⟨X.heap.size + 1 + 1, 5, none⟩ (.bool oS1)).setCell ⟨X.heap.size + 1 + 1, 6, none⟩ (.string w01)).setCell ⟨X.heap.size + 1 + 1, 7, none⟩ (.int .i64 f01)).setCell ⟨X.heap.size + 1 + 1, 8, none⟩ (.bool d01)) (X.heap.size + 1 + 1) 44 #[.bool false, .int .i64 ((beginP p w).1).s, .int .i64 ((beginP p w).1).m, .slice bA1 bN1 bC1, .slice aA1 aN1 aC1, .bool oS1, .string w01, .int .i64 f01, .bool d01]) := hide (by simpa using (((((((((unhide HR).set 0 (.bool false)).set 1 (.int .i64 ((beginP p w).1).s)).set 2 (.int .i64 ((beginP p w).1).m)).set 3 (.slice bA1 bN1 bC1)).set 4 (.slice aA1 aN1 aC1)).set 5 (.bool oS1)).set 6 (.string w01)).set 7 (.int .i64 f01)).set 8 (.bool d01))
  have NT : Hid (Cls (((((((((w3.setCell ⟨X.heap.size + 1 + 1, 0, none⟩ (.bool false)).setCell ⟨X.heap.size + 1 + 1, 1, none⟩ (.int .i64 ((beginP p w).1).s)).setCell ⟨X.heap.size + 1 + 1, 2, none⟩ (.int .i64 ((beginP p w).1).m)).setCell ⟨X.heap.size + 1 + 1, 3, none⟩ (.slice bA1 bN1 bC1)).setCell ⟨X.heap.size + 1 + 1, 4, none⟩ (.slice aA1 aN1 aC1)).setCell ⟨X.heap.size + 1 + 1, 5, none⟩ (.bool oS1)).setCell ⟨X.heap.size + 1 + 1, 6, none⟩ (.string w01)).setCell ⟨X.heap.size + 1 + 1, 7, none⟩ (.int .i64 f01)).setCell ⟨X.heap.size + 1 + 1, 8, none⟩ (.bool d01)) (w1.heap.size) 44 #[.bool false, .int .i64 ((beginP p w).1).s, .int .i64 ((beginP p w).1).m, .slice bA1 bN1 bC1, .slice aA1 aN1 aC1, .bool oS1, .string w01, .int .i64 f01, .bool d01]) := hide (by simpa using (((((((((unhide HT).other ⟨X.heap.size + 1 + 1, 0, none⟩ (.bool false) (by dsimp only; omega)).other ⟨X.heap.size + 1 + 1, 1, none⟩ (.int .i64 ((beginP p w).1).s) (by dsimp only; omega)).other ⟨X.heap.size + 1 + 1, 2, none⟩ (.int .i64 ((beginP p w).1).m) (by dsimp only; omega)).other ⟨X.heap.size + 1 + 1, 3, none⟩ (.slice bA1 bN1 bC1) (by dsimp only; omega)).other ⟨X.heap.size + 1 + 1, 4, none⟩ (.slice aA1 aN1 aC1) (by dsimp only; omega)).other ⟨X.heap.size + 1 + 1, 5, none⟩ (.bool oS1) (by dsimp only; omega)).other ⟨X.heap.size + 1 + 1, 6, none⟩ (.string w01) (by dsimp only; omega)).other ⟨X.heap.size + 1 + 1, 7, none⟩ (.int .i64 f01) (by dsimp only; omega)).other ⟨X.heap.size + 1 + 1, 8, none⟩ (.bool d01) (by dsimp only; omega))
  have NHK1 := hide ((((((((((unhide HK1).upd ⟨X.heap.size + 1 + 1, 0, none⟩ (.bool false) (.inl ⟨by dsimp only; omega, by dsimp only; omega⟩)).upd ⟨X.heap.size + 1 + 1, 1, none⟩ (.int .i64 ((beginP p w).1).s) (.inl ⟨by dsimp only; omega, by dsimp only; omega⟩)).upd ⟨X.heap.size + 1 + 1, 2, none⟩ (.int .i64 ((beginP p w).1).m) (.inl ⟨by dsimp only; omega, by dsimp only; omega⟩)).upd ⟨X.heap.size + 1 + 1, 3, none⟩ (.slice bA1 bN1 bC1) (.inl ⟨by dsimp only; omega, by dsimp only; omega⟩)).upd ⟨X.heap.size + 1 + 1, 4, none⟩ (.slice aA1 aN1 aC1) (.inl ⟨by dsimp only; omega, by dsimp only; omega⟩)).upd ⟨X.heap.size + 1 + 1, 5, none⟩ (.bool oS1) (.inl ⟨by dsimp only; omega, by dsimp only; omega⟩)).upd ⟨X.heap.size + 1 + 1, 6, none⟩ (.string w01) (.inl ⟨by dsimp only; omega, by dsimp only; omega⟩)).upd ⟨X.heap.size + 1 + 1, 7, none⟩ (.int .i64 f01) (.inl ⟨by dsimp only; omega, by dsimp only; omega⟩)).upd ⟨X.heap.size + 1 + 1, 8, none⟩ (.bool d01) (.inl ⟨by dsimp only; omega, by dsimp only; omega⟩))
  clear HA HO HR HT HK1
  generalize (((((((((w3.setCell ⟨X.heap.size + 1 + 1, 0, none⟩ (.bool false)).setCell ⟨X.heap.size + 1 + 1, 1, none⟩ (.int .i64 ((beginP p w).1).s)).setCell ⟨X.heap.size + 1 + 1, 2, none⟩ (.int .i64 ((beginP p w).1).m)).setCell ⟨X.heap.size + 1 + 1, 3, none⟩ (.slice bA1 bN1 bC1)).setCell ⟨X.heap.size + 1 + 1, 4, none⟩ (.slice aA1 aN1 aC1)).setCell ⟨X.heap.size + 1 + 1, 5, none⟩ (.bool oS1)).setCell ⟨X.heap.size + 1 + 1, 6, none⟩ (.string w01)).setCell ⟨X.heap.size + 1 + 1, 7, none⟩ (.int .i64 f01)).setCell ⟨X.heap.size + 1 + 1, 8, none⟩ (.bool d01)) = W2 at *
  have HA := NA
  have HO := NO
  have HR := NR
  have HT := NT
  have HK1 := NHK1
  clear NA NO NR NT NHK1
  have HS4 : Hid (W2.cell? ⟨w1.heap.size, 0, none⟩ = some (.bool false) ∧ W2.cell? ⟨w1.heap.size, 1, none⟩ = some (.int .i64 ((beginP p w).1).s) ∧ W2.cell? ⟨w1.heap.size, 2, none⟩ = some (.int .i64 ((beginP p w).1).m) ∧ W2.cell? ⟨w1.heap.size, 3, none⟩ = some (.slice bA1 bN1 bC1) ∧ W2.cell? ⟨w1.heap.size, 4, none⟩ = some (.slice aA1 aN1 aC1) ∧ W2.cell? ⟨w1.heap.size, 5, none⟩ = some (.bool oS1) ∧ W2.cell? ⟨w1.heap.size, 6, none⟩ = some (.string w01) ∧ W2.cell? ⟨w1.heap.size, 7, none⟩ = some (.int .i64 f01) ∧ W2.cell? ⟨w1.heap.size, 8, none⟩ = some (.bool d01) ∧ W2.cell? ⟨X.heap.size + 1, 2, none⟩ = some (.string w)) := hide ⟨((unhide HT).cell 0).trans rfl, ((unhide HT).cell 1).trans rfl, ((unhide HT).cell 2).trans rfl, ((unhide HT).cell 3).trans rfl, ((unhide HT).cell 4).trans rfl, ((unhide HT).cell 5).trans rfl, ((unhide HT).cell 6).trans rfl, ((unhide HT).cell 7).trans rfl, ((unhide HT).cell 8).trans rfl, ((unhide HO).cell 2).trans rfl⟩
  refine unhide hK _ _ (fun _ => unhide HS4) ?_
  clear hK K
  refine anyL_take (i := 8) (v := ?vq26) rfl (by kernel_rfl) (by kernel_rfl) (by kernel_rfl) (by kernel_rfl) (fun _ _ _ h => h) (Or.inl ⟨by rfl, ?hq26⟩) (unhide HS4) ?_
  case hq26 => (intro w hSw; (try dsimp only at hSw); go_simp) <;> with_reducible rfl
  simp only [Act.put, List.getElem_toArray, List.getElem_cons_zero, List.getElem_cons_succ, List.setIfInBounds_toArray, List.set_cons_zero, List.set_cons_succ]
  refine anyL_done (by kernel_rfl) ?_ _
  have q0 : W2.cell? ⟨X.heap.size + 1 + 1, 0, none⟩ = some (.bool false) := ((unhide HR).cell 0).trans rfl
  have q1 : W2.cell? ⟨X.heap.size + 1 + 1, 1, none⟩ = some (.int .i64 ((beginP p w).1).s) := ((unhide HR).cell 1).trans rfl
  have q2 : W2.cell? ⟨X.heap.size + 1 + 1, 2, none⟩ = some (.int .i64 ((beginP p w).1).m) := ((unhide HR).cell 2).trans rfl
  have q3 : W2.cell? ⟨X.heap.size + 1 + 1, 3, none⟩ = some (.slice bA1 bN1 bC1) := ((unhide HR).cell 3).trans rfl
  have q4 : W2.cell? ⟨X.heap.size + 1 + 1, 4, none⟩ = some (.slice aA1 aN1 aC1) := ((unhide HR).cell 4).trans rfl
  have q5 : W2.cell? ⟨X.heap.size + 1 + 1, 5, none⟩ = some (.bool oS1) := ((unhide HR).cell 5).trans rfl
  have q6 : W2.cell? ⟨X.heap.size + 1 + 1, 6, none⟩ = some (.string w01) := ((unhide HR).cell 6).trans rfl
  have q7 : W2.cell? ⟨X.heap.size + 1 + 1, 7, none⟩ = some (.int .i64 f01) := ((unhide HR).cell 7).trans rfl
  have q8 : W2.cell? ⟨X.heap.size + 1 + 1, 8, none⟩ = some (.bool d01) := ((unhide HR).cell 8).trans rfl
  go_wp2_with fail
  refine bodyPost_ret (v := .tuple #[.agg #[.bool false, .int .i64 ((beginP p w).1).s, .int .i64 ((beginP p w).1).m, .slice bA1 bN1 bC1, .slice aA1 aN1 aC1, .bool oS1, .string w01, .int .i64 f01, .bool d01], .bool true]) (by simp [results, Try.results21, go_sem, q0, q1, q2, q3, q4, q5, q6, q7, q8]) rfl ?_
  obtain ⟨z1, z2, z3, z4, z5⟩ := stepEndQ (unhide HFL) (unhide HD).lt (unhide HDJ) (unhide HX2) (by omega) hc2 (unhide HI2) (unhide HN1) (unhide HG3) (unhide HI3) (unhide HK1)
  exact ⟨_, D1, G, rfl, z1, z2, z3, z4, z5⟩
set_option maxRecDepth 100000 in
set_option maxHeartbeats 4000000 in
theorem step4BQ_at (X : World) (n : Int) (w : ByteArray) :
    Calls Try.prog 21 #[.pointer none, .agg cBad, .agg #[.int .i64 4, .int .i64 n, .string w], .func (.func 8) #[] #[]] X fun y Y => y = .returned (.tuple #[.agg cBad, .bool true]) ∧ Below X.heap.size X Y := by
  unfold cBad
  have HA : Hid (Cls (((X.alloc (.cells #[.bool true, .int .i64 0, .int .i64 0, .slice none 0 0, .slice none 0 0, .bool false, .string ⟨#[]⟩, .int .i64 0, .bool false] 44)).alloc (.cells #[.int .i64 4, .int .i64 n, .string w] 48)).alloc (.cells #[.bool false, .int .i64 0, .int .i64 0, .slice none 0 0, .slice none 0 0, .bool false, .string ⟨#[]⟩, .int .i64 0, .bool false] 44)) (X.heap.size) 44 #[.bool true, .int .i64 0, .int .i64 0, .slice none 0 0, .slice none 0 0, .bool false, .string ⟨#[]⟩, .int .i64 0, .bool false]) := hide (by simpa using ((Cls.new X 44 #[.bool true, .int .i64 0, .int .i64 0, .slice none 0 0, .slice none 0 0, .bool false, .string ⟨#[]⟩, .int .i64 0, .bool false]).alloc (.cells #[.int .i64 4, .int .i64 n, .string w] 48)).alloc (.cells #[.bool false, .int .i64 0, .int .i64 0, .slice none 0 0, .slice none 0 0, .bool false, .string ⟨#[]⟩, .int .i64 0, .bool false] 44))
  have HO : Hid (Cls (((X.alloc (.cells #[.bool true, .int .i64 0, .int .i64 0, .slice none 0 0, .slice none 0 0, .bool false, .string ⟨#[]⟩, .int .i64 0, .bool false] 44)).alloc (.cells #[.int .i64 4, .int .i64 n, .string w] 48)).alloc (.cells #[.bool false, .int .i64 0, .int .i64 0, .slice none 0 0, .slice none 0 0, .bool false, .string ⟨#[]⟩, .int .i64 0, .bool false] 44)) (X.heap.size + 1) 48 #[.int .i64 4, .int .i64 n, .string w]) := hide (by simpa using (Cls.new (X.alloc (.cells #[.bool true, .int .i64 0, .int .i64 0, .slice none 0 0, .slice none 0 0, .bool false, .string ⟨#[]⟩, .int .i64 0, .bool false] 44)) 48 #[.int .i64 4, .int .i64 n, .string w]).alloc (.cells #[.bool false, .int .i64 0, .int .i64 0, .slice none 0 0, .slice none 0 0, .bool false, .string ⟨#[]⟩, .int .i64 0, .bool false] 44))
  have HR : Hid (Cls (((X.alloc (.cells #[.bool true, .int .i64 0, .int .i64 0, .slice none 0 0, .slice none 0 0, .bool false, .string ⟨#[]⟩, .int .i64 0, .bool false] 44)).alloc (.cells #[.int .i64 4, .int .i64 n, .string w] 48)).alloc (.cells #[.bool false, .int .i64 0, .int .i64 0, .slice none 0 0, .slice none 0 0, .bool false, .string ⟨#[]⟩, .int .i64 0, .bool false] 44)) (X.heap.size + 1 + 1) 44 #[.bool false, .int .i64 0, .int .i64 0, .slice none 0 0, .slice none 0 0, .bool false, .string ⟨#[]⟩, .int .i64 0, .bool false]) := hide (by simpa using Cls.new ((X.alloc (.cells #[.bool true, .int .i64 0, .int .i64 0, .slice none 0 0, .slice none 0 0, .bool false, .string ⟨#[]⟩, .int .i64 0, .bool false] 44)).alloc (.cells #[.int .i64 4, .int .i64 n, .string w] 48)) 44 #[.bool false, .int .i64 0, .int .i64 0, .slice none 0 0, .slice none 0 0, .bool false, .string ⟨#[]⟩, .int .i64 0, .bool false])
  have HK0 : Hid (KpF (fun _ => False) X (((X.alloc (.cells #[.bool true, .int .i64 0, .int .i64 0, .slice none 0 0, .slice none 0 0, .bool false, .string ⟨#[]⟩, .int .i64 0, .bool false] 44)).alloc (.cells #[.int .i64 4, .int .i64 n, .string w] 48)).alloc (.cells #[.bool false, .int .i64 0, .int .i64 0, .slice none 0 0, .slice none 0 0, .bool false, .string ⟨#[]⟩, .int .i64 0, .bool false] 44))) := hide ((((KpF.refl (fun _ => False) X).al _).al _).al _)
  go_enter Try.func21, Try.ntmps21
  go_upto_region 1 with fail
  generalize (((X.alloc (.cells #[.bool true, .int .i64 0, .int .i64 0, .slice none 0 0, .slice none 0 0, .bool false, .string ⟨#[]⟩, .int .i64 0, .bool false] 44)).alloc (.cells #[.int .i64 4, .int .i64 n, .string w] 48)).alloc (.cells #[.bool false, .int .i64 0, .int .i64 0, .slice none 0 0, .slice none 0 0, .bool false, .string ⟨#[]⟩, .int .i64 0, .bool false] 44)) = W0 at *
  have hltc : X.heap.size + 1 + 1 < W0.heap.size := (unhide HR).lt
  have HC := hide (RBeginB_at W0 w)
  unfold cBad at HC
  have c_A0 : W0.cell? ⟨X.heap.size, 0, none⟩ = some (.bool true) := ((unhide HA).cell 0).trans rfl
  have c_A1 : W0.cell? ⟨X.heap.size, 1, none⟩ = some (.int .i64 0) := ((unhide HA).cell 1).trans rfl
  have c_A2 : W0.cell? ⟨X.heap.size, 2, none⟩ = some (.int .i64 0) := ((unhide HA).cell 2).trans rfl
  have c_A3 : W0.cell? ⟨X.heap.size, 3, none⟩ = some (.slice none 0 0) := ((unhide HA).cell 3).trans rfl
  have c_A4 : W0.cell? ⟨X.heap.size, 4, none⟩ = some (.slice none 0 0) := ((unhide HA).cell 4).trans rfl
  have c_A5 : W0.cell? ⟨X.heap.size, 5, none⟩ = some (.bool false) := ((unhide HA).cell 5).trans rfl
  have c_A6 : W0.cell? ⟨X.heap.size, 6, none⟩ = some (.string ⟨#[]⟩) := ((unhide HA).cell 6).trans rfl
  have c_A7 : W0.cell? ⟨X.heap.size, 7, none⟩ = some (.int .i64 0) := ((unhide HA).cell 7).trans rfl
  have c_A8 : W0.cell? ⟨X.heap.size, 8, none⟩ = some (.bool false) := ((unhide HA).cell 8).trans rfl
  have c_O0 : W0.cell? ⟨X.heap.size + 1, 0, none⟩ = some (.int .i64 4) := ((unhide HO).cell 0).trans rfl
  have c_O1 : W0.cell? ⟨X.heap.size + 1, 1, none⟩ = some (.int .i64 n) := ((unhide HO).cell 1).trans rfl
  have c_O2 : W0.cell? ⟨X.heap.size + 1, 2, none⟩ = some (.string w) := ((unhide HO).cell 2).trans rfl
  go_wp2_with fail
  refine (unhide HC).mono ?_
  rintro y w1 ⟨rfl, x1⟩
  dsimp only
  clear HC
  clear c_A0 c_A1 c_A2 c_A3 c_A4 c_A5 c_A6 c_A7 c_A8 c_O0 c_O1 c_O2
  have hcw : W0.heap.size ≤ w1.heap.size := x1.size
  have HX1 := hide x1
  have NA := hide ((unhide HA).kpf (KpF.of (F := fun _ => False) (unhide HX1)) (fun e => e))
  have NO := hide ((unhide HO).kpf (KpF.of (F := fun _ => False) (unhide HX1)) (fun e => e))
  have NR := hide ((unhide HR).kpf (KpF.of (F := fun _ => False) (unhide HX1)) (fun e => e))
  have NHK0 := hide ((unhide HK0).bel (unhide HX1))
  clear HA HO HR HK0
  have HA := NA
  have HO := NO
  have HR := NR
  have HK0 := NHK0
  clear NA NO NR NHK0
  clear x1
  have hgeT : X.heap.size + 1 + 1 < w1.heap.size := (unhide HR).lt
  have NA := hide ((unhide HA).alloc (.cells #[.bool true, .int .i64 0, .int .i64 0, .slice none 0 0, .slice none 0 0, .bool false, .string ⟨#[]⟩, .int .i64 0, .bool false] 44))
  have NO := hide ((unhide HO).alloc (.cells #[.bool true, .int .i64 0, .int .i64 0, .slice none 0 0, .slice none 0 0, .bool false, .string ⟨#[]⟩, .int .i64 0, .bool false] 44))
  have NR := hide ((unhide HR).alloc (.cells #[.bool true, .int .i64 0, .int .i64 0, .slice none 0 0, .slice none 0 0, .bool false, .string ⟨#[]⟩, .int .i64 0, .bool false] 44))
  have NT := hide (Cls.new w1 44 #[.bool true, .int .i64 0, .int .i64 0, .slice none 0 0, .slice none 0 0, .bool false, .string ⟨#[]⟩, .int .i64 0, .bool false])
  have NHK0 := hide ((unhide HK0).al (.cells #[.bool true, .int .i64 0, .int .i64 0, .slice none 0 0, .slice none 0 0, .bool false, .string ⟨#[]⟩, .int .i64 0, .bool false] 44))
  clear HA HO HR HK0
  go_upto_region 25 with fail
  generalize (w1.alloc (.cells #[.bool true, .int .i64 0, .int .i64 0, .slice none 0 0, .slice none 0 0, .bool false, .string ⟨#[]⟩, .int .i64 0, .bool false] 44)) = W1 at *
  have HA := NA
  have HO := NO
  have HR := NR
  have HT := NT
  have HK0 := NHK0
  clear NA NO NR NT NHK0
  have NA := hide ((unhide HA).kpf (kpf_drew W1) (fun e => e))
  have NO := hide ((unhide HO).kpf (kpf_drew W1) (fun e => e))
  have NR := hide ((unhide HR).kpf (kpf_drew W1) (fun e => e))
  have NT := hide ((unhide HT).kpf (kpf_drew W1) (fun e => e))
  have NHK0 := hide ((unhide HK0).trans (kpf_drew W1) (fun _ _ e => e))
  clear HA HO HR HT HK0
  have HA := NA
  have HO := NO
  have HR := NR
  have HT := NT
  have HK0 := NHK0
  clear NA NO NR NT NHK0
  have HS0 : Hid (W1.drew.cell? ⟨w1.heap.size, 0, none⟩ = some (.bool true) ∧ W1.drew.cell? ⟨w1.heap.size, 1, none⟩ = some (.int .i64 0) ∧ W1.drew.cell? ⟨w1.heap.size, 2, none⟩ = some (.int .i64 0) ∧ W1.drew.cell? ⟨w1.heap.size, 3, none⟩ = some (.slice none 0 0) ∧ W1.drew.cell? ⟨w1.heap.size, 4, none⟩ = some (.slice none 0 0) ∧ W1.drew.cell? ⟨w1.heap.size, 5, none⟩ = some (.bool false) ∧ W1.drew.cell? ⟨w1.heap.size, 6, none⟩ = some (.string ⟨#[]⟩) ∧ W1.drew.cell? ⟨w1.heap.size, 7, none⟩ = some (.int .i64 0) ∧ W1.drew.cell? ⟨w1.heap.size, 8, none⟩ = some (.bool false) ∧ W1.drew.cell? ⟨X.heap.size + 1, 2, none⟩ = some (.string w)) := hide ⟨((unhide HT).cell 0).trans rfl, ((unhide HT).cell 1).trans rfl, ((unhide HT).cell 2).trans rfl, ((unhide HT).cell 3).trans rfl, ((unhide HT).cell 4).trans rfl, ((unhide HT).cell 5).trans rfl, ((unhide HT).cell 6).trans rfl, ((unhide HT).cell 7).trans rfl, ((unhide HT).cell 8).trans rfl, ((unhide HO).cell 2).trans rfl⟩
  refine regionL (S := fun z => z.cell? ⟨w1.heap.size, 0, none⟩ = some (.bool true) ∧ z.cell? ⟨w1.heap.size, 1, none⟩ = some (.int .i64 0) ∧ z.cell? ⟨w1.heap.size, 2, none⟩ = some (.int .i64 0) ∧ z.cell? ⟨w1.heap.size, 3, none⟩ = some (.slice none 0 0) ∧ z.cell? ⟨w1.heap.size, 4, none⟩ = some (.slice none 0 0) ∧ z.cell? ⟨w1.heap.size, 5, none⟩ = some (.bool false) ∧ z.cell? ⟨w1.heap.size, 6, none⟩ = some (.string ⟨#[]⟩) ∧ z.cell? ⟨w1.heap.size, 7, none⟩ = some (.int .i64 0) ∧ z.cell? ⟨w1.heap.size, 8, none⟩ = some (.bool false) ∧ z.cell? ⟨X.heap.size + 1, 2, none⟩ = some (.string w)) (fun _ => false) (by kernel_rfl) ?_
  refine anyL_take (i := 0) (v := ?vq27) rfl (by kernel_rfl) (by kernel_rfl) (by kernel_rfl) (by kernel_rfl) (fun _ _ _ h => h) (Or.inl ⟨by rfl, ?hq27⟩) (unhide HS0) ?_
  case hq27 => (intro w hSw; (try dsimp only at hSw); go_simp) <;> with_reducible rfl
  simp only [Act.put, List.getElem_toArray, List.getElem_cons_zero, List.setIfInBounds_toArray, List.set_cons_zero, List.set_cons_succ]
  refine anyL_take (i := 1) (v := ?vq28) rfl (by kernel_rfl) (by kernel_rfl) (by kernel_rfl) (by kernel_rfl) (fun _ _ _ h => h) (Or.inl ⟨by rfl, ?hq28⟩) (unhide HS0) ?_
  case hq28 => (intro w hSw; (try dsimp only at hSw); go_simp) <;> with_reducible rfl
  simp only [Act.put, List.getElem_toArray, List.getElem_cons_zero, List.getElem_cons_succ, List.setIfInBounds_toArray, List.set_cons_zero, List.set_cons_succ]
  refine anyL_take (i := 2) (v := ?vq29) rfl (by kernel_rfl) (by kernel_rfl) (by kernel_rfl) (by kernel_rfl) (fun _ _ _ h => h) (Or.inl ⟨by rfl, ?hq29⟩) (unhide HS0) ?_
  case hq29 => (intro w hSw; (try dsimp only at hSw); go_simp) <;> with_reducible rfl
  simp only [Act.put, List.getElem_toArray, List.getElem_cons_zero, List.getElem_cons_succ, List.setIfInBounds_toArray, List.set_cons_zero, List.set_cons_succ]
  refine anyL_take (i := 3) (v := ?vq30) rfl (by kernel_rfl) (by kernel_rfl) (by kernel_rfl) (by kernel_rfl) (fun _ _ _ h => h) (Or.inl ⟨by rfl, ?hq30⟩) (unhide HS0) ?_
  case hq30 => (intro w hSw; (try dsimp only at hSw); go_simp) <;> with_reducible rfl
  simp only [Act.put, List.getElem_toArray, List.getElem_cons_zero, List.getElem_cons_succ, List.setIfInBounds_toArray, List.set_cons_zero, List.set_cons_succ]
  refine anyL_take (i := 5) (v := ?vq31) rfl (by kernel_rfl) (by kernel_rfl) (by kernel_rfl) (by kernel_rfl) (fun _ _ _ h => h) (Or.inl ⟨by rfl, ?hq31⟩) (unhide HS0) ?_
  case hq31 => (intro w hSw; (try dsimp only at hSw); go_simp) <;> with_reducible rfl
  simp only [Act.put, List.getElem_toArray, List.getElem_cons_zero, List.getElem_cons_succ, List.setIfInBounds_toArray, List.set_cons_zero, List.set_cons_succ]
  refine anyL_ready (rs := [4]) (by kernel_rfl) (by simp) ?_
  refine AllL.cons rfl (fun K hK => ?_) AllL.nil
  go_simp
  refine (BeginNQ_at _ w).mono ?_
  rintro y _ ⟨rfl, rfl⟩
  dsimp only
  generalize W1.drew = w3 at *
  have HS3 : Hid (w3.cell? ⟨w1.heap.size, 0, none⟩ = some (.bool true) ∧ w3.cell? ⟨w1.heap.size, 1, none⟩ = some (.int .i64 0) ∧ w3.cell? ⟨w1.heap.size, 2, none⟩ = some (.int .i64 0) ∧ w3.cell? ⟨w1.heap.size, 3, none⟩ = some (.slice none 0 0) ∧ w3.cell? ⟨w1.heap.size, 4, none⟩ = some (.slice none 0 0) ∧ w3.cell? ⟨w1.heap.size, 5, none⟩ = some (.bool false) ∧ w3.cell? ⟨w1.heap.size, 6, none⟩ = some (.string ⟨#[]⟩) ∧ w3.cell? ⟨w1.heap.size, 7, none⟩ = some (.int .i64 0) ∧ w3.cell? ⟨w1.heap.size, 8, none⟩ = some (.bool false) ∧ w3.cell? ⟨X.heap.size + 1, 2, none⟩ = some (.string w)) := hide ⟨((unhide HT).cell 0).trans rfl, ((unhide HT).cell 1).trans rfl, ((unhide HT).cell 2).trans rfl, ((unhide HT).cell 3).trans rfl, ((unhide HT).cell 4).trans rfl, ((unhide HT).cell 5).trans rfl, ((unhide HT).cell 6).trans rfl, ((unhide HT).cell 7).trans rfl, ((unhide HT).cell 8).trans rfl, ((unhide HO).cell 2).trans rfl⟩
  refine unhide hK _ _ (fun _ => unhide HS3) ?_
  clear hK K
  refine anyL_take (i := 6) (v := ?vq32) rfl (by kernel_rfl) (by kernel_rfl) (by kernel_rfl) (by kernel_rfl) (fun _ _ _ h => h) (Or.inl ⟨by rfl, ?hq32⟩) (unhide HS3) ?_
  case hq32 => (intro w hSw; (try dsimp only at hSw); go_simp) <;> with_reducible rfl
  simp only [Act.put, List.getElem_toArray, List.getElem_cons_zero, List.getElem_cons_succ, List.setIfInBounds_toArray, List.set_cons_zero, List.set_cons_succ]
  refine anyL_ready (rs := [7]) (by kernel_rfl) (by simp) ?_
  refine AllL.cons rfl (fun K hK => ?_) AllL.nil
  have r_R0 : w3.cell? ⟨X.heap.size + 1 + 1, 0, none⟩ = some (.bool false) := ((unhide HR).cell 0).trans rfl
  have r_R1 : w3.cell? ⟨X.heap.size + 1 + 1, 1, none⟩ = some (.int .i64 0) := ((unhide HR).cell 1).trans rfl
  have r_R2 : w3.cell? ⟨X.heap.size + 1 + 1, 2, none⟩ = some (.int .i64 0) := ((unhide HR).cell 2).trans rfl
  have r_R3 : w3.cell? ⟨X.heap.size + 1 + 1, 3, none⟩ = some (.slice none 0 0) := ((unhide HR).cell 3).trans rfl
  have r_R4 : w3.cell? ⟨X.heap.size + 1 + 1, 4, none⟩ = some (.slice none 0 0) := ((unhide HR).cell 4).trans rfl
  have r_R5 : w3.cell? ⟨X.heap.size + 1 + 1, 5, none⟩ = some (.bool false) := ((unhide HR).cell 5).trans rfl
  have r_R6 : w3.cell? ⟨X.heap.size + 1 + 1, 6, none⟩ = some (.string ⟨#[]⟩) := ((unhide HR).cell 6).trans rfl
  have r_R7 : w3.cell? ⟨X.heap.size + 1 + 1, 7, none⟩ = some (.int .i64 0) := ((unhide HR).cell 7).trans rfl
  have r_R8 : w3.cell? ⟨X.heap.size + 1 + 1, 8, none⟩ = some (.bool false) := ((unhide HR).cell 8).trans rfl
  have zr_R0 : w3.frozen? ⟨X.heap.size + 1 + 1, 0, none⟩ = false := (unhide HR).frozen 0
  have zr_R1 : w3.frozen? ⟨X.heap.size + 1 + 1, 1, none⟩ = false := (unhide HR).frozen 1
  have zr_R2 : w3.frozen? ⟨X.heap.size + 1 + 1, 2, none⟩ = false := (unhide HR).frozen 2
  have zr_R3 : w3.frozen? ⟨X.heap.size + 1 + 1, 3, none⟩ = false := (unhide HR).frozen 3
  have zr_R4 : w3.frozen? ⟨X.heap.size + 1 + 1, 4, none⟩ = false := (unhide HR).frozen 4
  have zr_R5 : w3.frozen? ⟨X.heap.size + 1 + 1, 5, none⟩ = false := (unhide HR).frozen 5
  have zr_R6 : w3.frozen? ⟨X.heap.size + 1 + 1, 6, none⟩ = false := (unhide HR).frozen 6
  have zr_R7 : w3.frozen? ⟨X.heap.size + 1 + 1, 7, none⟩ = false := (unhide HR).frozen 7
  have zr_R8 : w3.frozen? ⟨X.heap.size + 1 + 1, 8, none⟩ = false := (unhide HR).frozen 8
  go_simp
  have NA : Hid (Cls (((((((((w3.setCell ⟨X.heap.size + 1 + 1, 0, none⟩ (.bool true)).setCell ⟨X.heap.size + 1 + 1, 1, none⟩ (.int .i64 0)).setCell ⟨X.heap.size + 1 + 1, 2, none⟩ (.int .i64 0)).setCell ⟨X.heap.size + 1 + 1, 3, none⟩ (.slice none 0 0)).setCell ⟨X.heap.size + 1 + 1, 4, none⟩ (.slice none 0 0)).setCell ⟨X.heap.size + 1 + 1, 5, none⟩ (.bool false)).setCell ⟨X.heap.size + 1 + 1, 6, none⟩ (.string ⟨#[]⟩)).setCell ⟨X.heap.size + 1 + 1, 7, none⟩ (.int .i64 0)).setCell ⟨X.heap.size + 1 + 1, 8, none⟩ (.bool false)) (X.heap.size) 44 #[.bool true, .int .i64 0, .int .i64 0, .slice none 0 0, .slice none 0 0, .bool false, .string ⟨#[]⟩, .int .i64 0, .bool false]) := hide (by simpa using (((((((((unhide HA).other ⟨X.heap.size + 1 + 1, 0, none⟩ (.bool true) (by dsimp only; omega)).other ⟨X.heap.size + 1 + 1, 1, none⟩ (.int .i64 0) (by dsimp only; omega)).other ⟨X.heap.size + 1 + 1, 2, none⟩ (.int .i64 0) (by dsimp only; omega)).other ⟨X.heap.size + 1 + 1, 3, none⟩ (.slice none 0 0) (by dsimp only; omega)).other ⟨X.heap.size + 1 + 1, 4, none⟩ (.slice none 0 0) (by dsimp only; omega)).other ⟨X.heap.size + 1 + 1, 5, none⟩ (.bool false) (by dsimp only; omega)).other ⟨X.heap.size + 1 + 1, 6, none⟩ (.string ⟨#[]⟩) (by dsimp only; omega)).other ⟨X.heap.size + 1 + 1, 7, none⟩ (.int .i64 0) (by dsimp only; omega)).other ⟨X.heap.size + 1 + 1, 8, none⟩ (.bool false) (by dsimp only; omega))
  have NO : Hid (Cls (((((((((w3.setCell ⟨X.heap.size + 1 + 1, 0, none⟩ (.bool true)).setCell ⟨X.heap.size + 1 + 1, 1, none⟩ (.int .i64 0)).setCell ⟨X.heap.size + 1 + 1, 2, none⟩ (.int .i64 0)).setCell ⟨X.heap.size + 1 + 1, 3, none⟩ (.slice none 0 0)).setCell ⟨X.heap.size + 1 + 1, 4, none⟩ (.slice none 0 0)).setCell ⟨X.heap.size + 1 + 1, 5, none⟩ (.bool false)).setCell ⟨X.heap.size + 1 + 1, 6, none⟩ (.string ⟨#[]⟩)).setCell ⟨X.heap.size + 1 + 1, 7, none⟩ (.int .i64 0)).setCell ⟨X.heap.size + 1 + 1, 8, none⟩ (.bool false)) (X.heap.size + 1) 48 #[.int .i64 4, .int .i64 n, .string w]) := hide (by simpa using (((((((((unhide HO).other ⟨X.heap.size + 1 + 1, 0, none⟩ (.bool true) (by dsimp only; omega)).other ⟨X.heap.size + 1 + 1, 1, none⟩ (.int .i64 0) (by dsimp only; omega)).other ⟨X.heap.size + 1 + 1, 2, none⟩ (.int .i64 0) (by dsimp only; omega)).other ⟨X.heap.size + 1 + 1, 3, none⟩ (.slice none 0 0) (by dsimp only; omega)).other ⟨X.heap.size + 1 + 1, 4, none⟩ (.slice none 0 0) (by dsimp only; omega)).other ⟨X.heap.size + 1 + 1, 5, none⟩ (.bool false) (by dsimp only; omega)).other ⟨X.heap.size + 1 + 1, 6, none⟩ (.string ⟨#[]⟩) (by dsimp only; omega)).other ⟨X.heap.size + 1 + 1, 7, none⟩ (.int .i64 0) (by dsimp only; omega)).other ⟨X.heap.size + 1 + 1, 8, none⟩ (.bool false) (by dsimp only; omega))
  have NR : Hid (Cls (((((((((w3.setCell ⟨X.heap.size + 1 + 1, 0, none⟩ (.bool true)).setCell ⟨X.heap.size + 1 + 1, 1, none⟩ (.int .i64 0)).setCell ⟨X.heap.size + 1 + 1, 2, none⟩ (.int .i64 0)).setCell ⟨X.heap.size + 1 + 1, 3, none⟩ (.slice none 0 0)).setCell ⟨X.heap.size + 1 + 1, 4, none⟩ (.slice none 0 0)).setCell ⟨X.heap.size + 1 + 1, 5, none⟩ (.bool false)).setCell ⟨X.heap.size + 1 + 1, 6, none⟩ (.string ⟨#[]⟩)).setCell ⟨X.heap.size + 1 + 1, 7, none⟩ (.int .i64 0)).setCell ⟨X.heap.size + 1 + 1, 8, none⟩ (.bool false)) (X.heap.size + 1 + 1) 44 #[.bool true, .int .i64 0, .int .i64 0, .slice none 0 0, .slice none 0 0, .bool false, .string ⟨#[]⟩, .int .i64 0, .bool false]) := hide (by simpa using (((((((((unhide HR).set 0 (.bool true)).set 1 (.int .i64 0)).set 2 (.int .i64 0)).set 3 (.slice none 0 0)).set 4 (.slice none 0 0)).set 5 (.bool false)).set 6 (.string ⟨#[]⟩)).set 7 (.int .i64 0)).set 8 (.bool false))
  have NT : Hid (Cls (((((((((w3.setCell ⟨X.heap.size + 1 + 1, 0, none⟩ (.bool true)).setCell ⟨X.heap.size + 1 + 1, 1, none⟩ (.int .i64 0)).setCell ⟨X.heap.size + 1 + 1, 2, none⟩ (.int .i64 0)).setCell ⟨X.heap.size + 1 + 1, 3, none⟩ (.slice none 0 0)).setCell ⟨X.heap.size + 1 + 1, 4, none⟩ (.slice none 0 0)).setCell ⟨X.heap.size + 1 + 1, 5, none⟩ (.bool false)).setCell ⟨X.heap.size + 1 + 1, 6, none⟩ (.string ⟨#[]⟩)).setCell ⟨X.heap.size + 1 + 1, 7, none⟩ (.int .i64 0)).setCell ⟨X.heap.size + 1 + 1, 8, none⟩ (.bool false)) (w1.heap.size) 44 #[.bool true, .int .i64 0, .int .i64 0, .slice none 0 0, .slice none 0 0, .bool false, .string ⟨#[]⟩, .int .i64 0, .bool false]) := hide (by simpa using (((((((((unhide HT).other ⟨X.heap.size + 1 + 1, 0, none⟩ (.bool true) (by dsimp only; omega)).other ⟨X.heap.size + 1 + 1, 1, none⟩ (.int .i64 0) (by dsimp only; omega)).other ⟨X.heap.size + 1 + 1, 2, none⟩ (.int .i64 0) (by dsimp only; omega)).other ⟨X.heap.size + 1 + 1, 3, none⟩ (.slice none 0 0) (by dsimp only; omega)).other ⟨X.heap.size + 1 + 1, 4, none⟩ (.slice none 0 0) (by dsimp only; omega)).other ⟨X.heap.size + 1 + 1, 5, none⟩ (.bool false) (by dsimp only; omega)).other ⟨X.heap.size + 1 + 1, 6, none⟩ (.string ⟨#[]⟩) (by dsimp only; omega)).other ⟨X.heap.size + 1 + 1, 7, none⟩ (.int .i64 0) (by dsimp only; omega)).other ⟨X.heap.size + 1 + 1, 8, none⟩ (.bool false) (by dsimp only; omega))
  have NHK0 := hide ((((((((((unhide HK0).upd ⟨X.heap.size + 1 + 1, 0, none⟩ (.bool true) (.inr (by dsimp only; omega))).upd ⟨X.heap.size + 1 + 1, 1, none⟩ (.int .i64 0) (.inr (by dsimp only; omega))).upd ⟨X.heap.size + 1 + 1, 2, none⟩ (.int .i64 0) (.inr (by dsimp only; omega))).upd ⟨X.heap.size + 1 + 1, 3, none⟩ (.slice none 0 0) (.inr (by dsimp only; omega))).upd ⟨X.heap.size + 1 + 1, 4, none⟩ (.slice none 0 0) (.inr (by dsimp only; omega))).upd ⟨X.heap.size + 1 + 1, 5, none⟩ (.bool false) (.inr (by dsimp only; omega))).upd ⟨X.heap.size + 1 + 1, 6, none⟩ (.string ⟨#[]⟩) (.inr (by dsimp only; omega))).upd ⟨X.heap.size + 1 + 1, 7, none⟩ (.int .i64 0) (.inr (by dsimp only; omega))).upd ⟨X.heap.size + 1 + 1, 8, none⟩ (.bool false) (.inr (by dsimp only; omega)))
  clear HA HO HR HT HK0
  generalize (((((((((w3.setCell ⟨X.heap.size + 1 + 1, 0, none⟩ (.bool true)).setCell ⟨X.heap.size + 1 + 1, 1, none⟩ (.int .i64 0)).setCell ⟨X.heap.size + 1 + 1, 2, none⟩ (.int .i64 0)).setCell ⟨X.heap.size + 1 + 1, 3, none⟩ (.slice none 0 0)).setCell ⟨X.heap.size + 1 + 1, 4, none⟩ (.slice none 0 0)).setCell ⟨X.heap.size + 1 + 1, 5, none⟩ (.bool false)).setCell ⟨X.heap.size + 1 + 1, 6, none⟩ (.string ⟨#[]⟩)).setCell ⟨X.heap.size + 1 + 1, 7, none⟩ (.int .i64 0)).setCell ⟨X.heap.size + 1 + 1, 8, none⟩ (.bool false)) = W2 at *
  have HA := NA
  have HO := NO
  have HR := NR
  have HT := NT
  have HK0 := NHK0
  clear NA NO NR NT NHK0
  have HS4 : Hid (W2.cell? ⟨w1.heap.size, 0, none⟩ = some (.bool true) ∧ W2.cell? ⟨w1.heap.size, 1, none⟩ = some (.int .i64 0) ∧ W2.cell? ⟨w1.heap.size, 2, none⟩ = some (.int .i64 0) ∧ W2.cell? ⟨w1.heap.size, 3, none⟩ = some (.slice none 0 0) ∧ W2.cell? ⟨w1.heap.size, 4, none⟩ = some (.slice none 0 0) ∧ W2.cell? ⟨w1.heap.size, 5, none⟩ = some (.bool false) ∧ W2.cell? ⟨w1.heap.size, 6, none⟩ = some (.string ⟨#[]⟩) ∧ W2.cell? ⟨w1.heap.size, 7, none⟩ = some (.int .i64 0) ∧ W2.cell? ⟨w1.heap.size, 8, none⟩ = some (.bool false) ∧ W2.cell? ⟨X.heap.size + 1, 2, none⟩ = some (.string w)) := hide ⟨((unhide HT).cell 0).trans rfl, ((unhide HT).cell 1).trans rfl, ((unhide HT).cell 2).trans rfl, ((unhide HT).cell 3).trans rfl, ((unhide HT).cell 4).trans rfl, ((unhide HT).cell 5).trans rfl, ((unhide HT).cell 6).trans rfl, ((unhide HT).cell 7).trans rfl, ((unhide HT).cell 8).trans rfl, ((unhide HO).cell 2).trans rfl⟩
  refine unhide hK _ _ (fun _ => unhide HS4) ?_
  clear hK K
  refine anyL_take (i := 8) (v := ?vq33) rfl (by kernel_rfl) (by kernel_rfl) (by kernel_rfl) (by kernel_rfl) (fun _ _ _ h => h) (Or.inl ⟨by rfl, ?hq33⟩) (unhide HS4) ?_
  case hq33 => (intro w hSw; (try dsimp only at hSw); go_simp) <;> with_reducible rfl
  simp only [Act.put, List.getElem_toArray, List.getElem_cons_zero, List.getElem_cons_succ, List.setIfInBounds_toArray, List.set_cons_zero, List.set_cons_succ]
  refine anyL_done (by kernel_rfl) ?_ _
  have q0 : W2.cell? ⟨X.heap.size + 1 + 1, 0, none⟩ = some (.bool true) := ((unhide HR).cell 0).trans rfl
  have q1 : W2.cell? ⟨X.heap.size + 1 + 1, 1, none⟩ = some (.int .i64 0) := ((unhide HR).cell 1).trans rfl
  have q2 : W2.cell? ⟨X.heap.size + 1 + 1, 2, none⟩ = some (.int .i64 0) := ((unhide HR).cell 2).trans rfl
  have q3 : W2.cell? ⟨X.heap.size + 1 + 1, 3, none⟩ = some (.slice none 0 0) := ((unhide HR).cell 3).trans rfl
  have q4 : W2.cell? ⟨X.heap.size + 1 + 1, 4, none⟩ = some (.slice none 0 0) := ((unhide HR).cell 4).trans rfl
  have q5 : W2.cell? ⟨X.heap.size + 1 + 1, 5, none⟩ = some (.bool false) := ((unhide HR).cell 5).trans rfl
  have q6 : W2.cell? ⟨X.heap.size + 1 + 1, 6, none⟩ = some (.string ⟨#[]⟩) := ((unhide HR).cell 6).trans rfl
  have q7 : W2.cell? ⟨X.heap.size + 1 + 1, 7, none⟩ = some (.int .i64 0) := ((unhide HR).cell 7).trans rfl
  have q8 : W2.cell? ⟨X.heap.size + 1 + 1, 8, none⟩ = some (.bool false) := ((unhide HR).cell 8).trans rfl
  go_wp2_with fail
  refine bodyPost_ret (v := .tuple #[.agg #[.bool true, .int .i64 0, .int .i64 0, .slice none 0 0, .slice none 0 0, .bool false, .string ⟨#[]⟩, .int .i64 0, .bool false], .bool true]) (by simp [results, Try.results21, go_sem, q0, q1, q2, q3, q4, q5, q6, q7, q8]) rfl ?_
  exact ⟨rfl, (unhide HK0).below (Nat.le_refl _) (fun _ e => e.elim)⟩
set_option maxRecDepth 100000 in
set_option maxHeartbeats 4000000 in
theorem step5Q_at (X : World) (F : Nat → Prop) (g : Nat) (p : Pa Int) (D : Nat → Prop) (c : Array Value) (hP : PsQ X F g (mpQ p)) (hD : IsD X D c p) (hok : OkP p) (hdj : ∀ i, D i → ¬ F i) (n : Int) (w : ByteArray) (hw : w.size ≤ 281474976710656) :
    Calls Try.prog 21 #[.pointer (some ⟨g, 0, none⟩), .agg c, .agg #[.int .i64 5, .int .i64 n, .string w], .func (.func 8) #[] #[]] X fun y Y => ∃ c' D' G, y = .returned (.tuple #[.agg c', .bool true]) ∧ IsD Y D' c' ((endP p).1) ∧ PsQ Y G g (mpQ ((endP p).1)) ∧ (∀ i, D' i → ¬ G i) ∧ Gr F X G Y ∧ ∀ i, D' i → D i ∨ X.heap.size ≤ i := by
  have HP := hide hP
  have HD := hide hD
  have HOK := hide hok
  have HDJ := hide hdj
  have HW := hide hw
  have HFL := hide hP.lt
  obtain ⟨bA, bN, bC, aA, aN, aC, oS, w0, f0, d0, rfl⟩ := hD.form
  clear hP hD hok hdj hw
  have HA : Hid (Cls (((X.alloc (.cells #[.bool false, .int .i64 p.s, .int .i64 p.m, .slice bA bN bC, .slice aA aN aC, .bool oS, .string w0, .int .i64 f0, .bool d0] 44)).alloc (.cells #[.int .i64 5, .int .i64 n, .string w] 48)).alloc (.cells #[.bool false, .int .i64 0, .int .i64 0, .slice none 0 0, .slice none 0 0, .bool false, .string ⟨#[]⟩, .int .i64 0, .bool false] 44)) (X.heap.size) 44 #[.bool false, .int .i64 p.s, .int .i64 p.m, .slice bA bN bC, .slice aA aN aC, .bool oS, .string w0, .int .i64 f0, .bool d0]) := hide (by simpa using ((Cls.new X 44 #[.bool false, .int .i64 p.s, .int .i64 p.m, .slice bA bN bC, .slice aA aN aC, .bool oS, .string w0, .int .i64 f0, .bool d0]).alloc (.cells #[.int .i64 5, .int .i64 n, .string w] 48)).alloc (.cells #[.bool false, .int .i64 0, .int .i64 0, .slice none 0 0, .slice none 0 0, .bool false, .string ⟨#[]⟩, .int .i64 0, .bool false] 44))
  have HO : Hid (Cls (((X.alloc (.cells #[.bool false, .int .i64 p.s, .int .i64 p.m, .slice bA bN bC, .slice aA aN aC, .bool oS, .string w0, .int .i64 f0, .bool d0] 44)).alloc (.cells #[.int .i64 5, .int .i64 n, .string w] 48)).alloc (.cells #[.bool false, .int .i64 0, .int .i64 0, .slice none 0 0, .slice none 0 0, .bool false, .string ⟨#[]⟩, .int .i64 0, .bool false] 44)) (X.heap.size + 1) 48 #[.int .i64 5, .int .i64 n, .string w]) := hide (by simpa using (Cls.new (X.alloc (.cells #[.bool false, .int .i64 p.s, .int .i64 p.m, .slice bA bN bC, .slice aA aN aC, .bool oS, .string w0, .int .i64 f0, .bool d0] 44)) 48 #[.int .i64 5, .int .i64 n, .string w]).alloc (.cells #[.bool false, .int .i64 0, .int .i64 0, .slice none 0 0, .slice none 0 0, .bool false, .string ⟨#[]⟩, .int .i64 0, .bool false] 44))
  have HR : Hid (Cls (((X.alloc (.cells #[.bool false, .int .i64 p.s, .int .i64 p.m, .slice bA bN bC, .slice aA aN aC, .bool oS, .string w0, .int .i64 f0, .bool d0] 44)).alloc (.cells #[.int .i64 5, .int .i64 n, .string w] 48)).alloc (.cells #[.bool false, .int .i64 0, .int .i64 0, .slice none 0 0, .slice none 0 0, .bool false, .string ⟨#[]⟩, .int .i64 0, .bool false] 44)) (X.heap.size + 1 + 1) 44 #[.bool false, .int .i64 0, .int .i64 0, .slice none 0 0, .slice none 0 0, .bool false, .string ⟨#[]⟩, .int .i64 0, .bool false]) := hide (by simpa using Cls.new ((X.alloc (.cells #[.bool false, .int .i64 p.s, .int .i64 p.m, .slice bA bN bC, .slice aA aN aC, .bool oS, .string w0, .int .i64 f0, .bool d0] 44)).alloc (.cells #[.int .i64 5, .int .i64 n, .string w] 48)) 44 #[.bool false, .int .i64 0, .int .i64 0, .slice none 0 0, .slice none 0 0, .bool false, .string ⟨#[]⟩, .int .i64 0, .bool false])
  have HK0 : Hid (KpF (fun _ => False) X (((X.alloc (.cells #[.bool false, .int .i64 p.s, .int .i64 p.m, .slice bA bN bC, .slice aA aN aC, .bool oS, .string w0, .int .i64 f0, .bool d0] 44)).alloc (.cells #[.int .i64 5, .int .i64 n, .string w] 48)).alloc (.cells #[.bool false, .int .i64 0, .int .i64 0, .slice none 0 0, .slice none 0 0, .bool false, .string ⟨#[]⟩, .int .i64 0, .bool false] 44))) := hide ((((KpF.refl (fun _ => False) X).al _).al _).al _)
  go_enter Try.func21, Try.ntmps21
  go_upto_region 1 with fail
  generalize (((X.alloc (.cells #[.bool false, .int .i64 p.s, .int .i64 p.m, .slice bA bN bC, .slice aA aN aC, .bool oS, .string w0, .int .i64 f0, .bool d0] 44)).alloc (.cells #[.int .i64 5, .int .i64 n, .string w] 48)).alloc (.cells #[.bool false, .int .i64 0, .int .i64 0, .slice none 0 0, .slice none 0 0, .bool false, .string ⟨#[]⟩, .int .i64 0, .bool false] 44)) = W0 at *
  have hltc : X.heap.size + 1 + 1 < W0.heap.size := (unhide HR).lt
  have HC := hide (REndA_at W0 D _ p ((unhide HD).kpf (unhide HK0) (fun _ _ e => e)) (unhide HOK) )
  have c_A0 : W0.cell? ⟨X.heap.size, 0, none⟩ = some (.bool false) := ((unhide HA).cell 0).trans rfl
  have c_A1 : W0.cell? ⟨X.heap.size, 1, none⟩ = some (.int .i64 p.s) := ((unhide HA).cell 1).trans rfl
  have c_A2 : W0.cell? ⟨X.heap.size, 2, none⟩ = some (.int .i64 p.m) := ((unhide HA).cell 2).trans rfl
  have c_A3 : W0.cell? ⟨X.heap.size, 3, none⟩ = some (.slice bA bN bC) := ((unhide HA).cell 3).trans rfl
  have c_A4 : W0.cell? ⟨X.heap.size, 4, none⟩ = some (.slice aA aN aC) := ((unhide HA).cell 4).trans rfl
  have c_A5 : W0.cell? ⟨X.heap.size, 5, none⟩ = some (.bool oS) := ((unhide HA).cell 5).trans rfl
  have c_A6 : W0.cell? ⟨X.heap.size, 6, none⟩ = some (.string w0) := ((unhide HA).cell 6).trans rfl
  have c_A7 : W0.cell? ⟨X.heap.size, 7, none⟩ = some (.int .i64 f0) := ((unhide HA).cell 7).trans rfl
  have c_A8 : W0.cell? ⟨X.heap.size, 8, none⟩ = some (.bool d0) := ((unhide HA).cell 8).trans rfl
  have c_O0 : W0.cell? ⟨X.heap.size + 1, 0, none⟩ = some (.int .i64 5) := ((unhide HO).cell 0).trans rfl
  have c_O1 : W0.cell? ⟨X.heap.size + 1, 1, none⟩ = some (.int .i64 n) := ((unhide HO).cell 1).trans rfl
  have c_O2 : W0.cell? ⟨X.heap.size + 1, 2, none⟩ = some (.string w) := ((unhide HO).cell 2).trans rfl
  go_wp2_with fail
  refine (unhide HC).mono ?_
  rintro y w1 ⟨c1, D1, rfl, i1, n1, x1⟩
  dsimp only
  obtain ⟨bA1, bN1, bC1, aA1, aN1, aC1, oS1, w01, f01, d01, rfl⟩ := i1.form
  have HI1 := hide i1
  have HN1 := hide n1
  clear HC i1 n1
  clear c_A0 c_A1 c_A2 c_A3 c_A4 c_A5 c_A6 c_A7 c_A8 c_O0 c_O1 c_O2
  have hcw : W0.heap.size ≤ w1.heap.size := x1.size
  have HX1 := hide x1
  have NA := hide ((unhide HA).kpf (KpF.of (F := fun _ => False) (unhide HX1)) (fun e => e))
  have NO := hide ((unhide HO).kpf (KpF.of (F := fun _ => False) (unhide HX1)) (fun e => e))
  have NR := hide ((unhide HR).kpf (KpF.of (F := fun _ => False) (unhide HX1)) (fun e => e))
  have NHK0 := hide ((unhide HK0).bel (unhide HX1))
  clear HA HO HR HK0
  have HA := NA
  have HO := NO
  have HR := NR
  have HK0 := NHK0
  clear NA NO NR NHK0
  clear x1
  have HKI := hide (KpF.refl (fun _ => False) w1)
  have hgeT : X.heap.size + 1 + 1 < w1.heap.size := (unhide HR).lt
  have NA := hide ((unhide HA).alloc (.cells #[.bool false, .int .i64 ((endP p).1).s, .int .i64 ((endP p).1).m, .slice bA1 bN1 bC1, .slice aA1 aN1 aC1, .bool oS1, .string w01, .int .i64 f01, .bool d01] 44))
  have NO := hide ((unhide HO).alloc (.cells #[.bool false, .int .i64 ((endP p).1).s, .int .i64 ((endP p).1).m, .slice bA1 bN1 bC1, .slice aA1 aN1 aC1, .bool oS1, .string w01, .int .i64 f01, .bool d01] 44))
  have NR := hide ((unhide HR).alloc (.cells #[.bool false, .int .i64 ((endP p).1).s, .int .i64 ((endP p).1).m, .slice bA1 bN1 bC1, .slice aA1 aN1 aC1, .bool oS1, .string w01, .int .i64 f01, .bool d01] 44))
  have NT := hide (Cls.new w1 44 #[.bool false, .int .i64 ((endP p).1).s, .int .i64 ((endP p).1).m, .slice bA1 bN1 bC1, .slice aA1 aN1 aC1, .bool oS1, .string w01, .int .i64 f01, .bool d01])
  have NHK0 := hide ((unhide HK0).al (.cells #[.bool false, .int .i64 ((endP p).1).s, .int .i64 ((endP p).1).m, .slice bA1 bN1 bC1, .slice aA1 aN1 aC1, .bool oS1, .string w01, .int .i64 f01, .bool d01] 44))
  have NHKI := hide ((unhide HKI).al (.cells #[.bool false, .int .i64 ((endP p).1).s, .int .i64 ((endP p).1).m, .slice bA1 bN1 bC1, .slice aA1 aN1 aC1, .bool oS1, .string w01, .int .i64 f01, .bool d01] 44))
  clear HA HO HR HK0 HKI
  go_upto_region 28 with fail
  generalize (w1.alloc (.cells #[.bool false, .int .i64 ((endP p).1).s, .int .i64 ((endP p).1).m, .slice bA1 bN1 bC1, .slice aA1 aN1 aC1, .bool oS1, .string w01, .int .i64 f01, .bool d01] 44)) = W1 at *
  have HA := NA
  have HO := NO
  have HR := NR
  have HT := NT
  have HK0 := NHK0
  have HKI := NHKI
  clear NA NO NR NT NHK0 NHKI
  have NA := hide ((unhide HA).kpf (kpf_drew W1) (fun e => e))
  have NO := hide ((unhide HO).kpf (kpf_drew W1) (fun e => e))
  have NR := hide ((unhide HR).kpf (kpf_drew W1) (fun e => e))
  have NT := hide ((unhide HT).kpf (kpf_drew W1) (fun e => e))
  have NHK0 := hide ((unhide HK0).trans (kpf_drew W1) (fun _ _ e => e))
  have NHKI := hide ((unhide HKI).trans (kpf_drew W1) (fun _ _ e => e))
  clear HA HO HR HT HK0 HKI
  have HA := NA
  have HO := NO
  have HR := NR
  have HT := NT
  have HK0 := NHK0
  have HKI := NHKI
  clear NA NO NR NT NHK0 NHKI
  have HS0 : Hid (W1.drew.cell? ⟨w1.heap.size, 0, none⟩ = some (.bool false) ∧ W1.drew.cell? ⟨w1.heap.size, 1, none⟩ = some (.int .i64 ((endP p).1).s) ∧ W1.drew.cell? ⟨w1.heap.size, 2, none⟩ = some (.int .i64 ((endP p).1).m) ∧ W1.drew.cell? ⟨w1.heap.size, 3, none⟩ = some (.slice bA1 bN1 bC1) ∧ W1.drew.cell? ⟨w1.heap.size, 4, none⟩ = some (.slice aA1 aN1 aC1) ∧ W1.drew.cell? ⟨w1.heap.size, 5, none⟩ = some (.bool oS1) ∧ W1.drew.cell? ⟨w1.heap.size, 6, none⟩ = some (.string w01) ∧ W1.drew.cell? ⟨w1.heap.size, 7, none⟩ = some (.int .i64 f01) ∧ W1.drew.cell? ⟨w1.heap.size, 8, none⟩ = some (.bool d01)) := hide ⟨((unhide HT).cell 0).trans rfl, ((unhide HT).cell 1).trans rfl, ((unhide HT).cell 2).trans rfl, ((unhide HT).cell 3).trans rfl, ((unhide HT).cell 4).trans rfl, ((unhide HT).cell 5).trans rfl, ((unhide HT).cell 6).trans rfl, ((unhide HT).cell 7).trans rfl, ((unhide HT).cell 8).trans rfl⟩
  refine regionL (S := fun z => z.cell? ⟨w1.heap.size, 0, none⟩ = some (.bool false) ∧ z.cell? ⟨w1.heap.size, 1, none⟩ = some (.int .i64 ((endP p).1).s) ∧ z.cell? ⟨w1.heap.size, 2, none⟩ = some (.int .i64 ((endP p).1).m) ∧ z.cell? ⟨w1.heap.size, 3, none⟩ = some (.slice bA1 bN1 bC1) ∧ z.cell? ⟨w1.heap.size, 4, none⟩ = some (.slice aA1 aN1 aC1) ∧ z.cell? ⟨w1.heap.size, 5, none⟩ = some (.bool oS1) ∧ z.cell? ⟨w1.heap.size, 6, none⟩ = some (.string w01) ∧ z.cell? ⟨w1.heap.size, 7, none⟩ = some (.int .i64 f01) ∧ z.cell? ⟨w1.heap.size, 8, none⟩ = some (.bool d01)) (fun _ => false) (by kernel_rfl) ?_
  refine anyL_take (i := 0) (v := ?vq34) rfl (by kernel_rfl) (by kernel_rfl) (by kernel_rfl) (by kernel_rfl) (fun _ _ _ h => h) (Or.inl ⟨by rfl, ?hq34⟩) (unhide HS0) ?_
  case hq34 => (intro w hSw; (try dsimp only at hSw); go_simp) <;> with_reducible rfl
  simp only [Act.put, List.getElem_toArray, List.getElem_cons_zero, List.setIfInBounds_toArray, List.set_cons_zero, List.set_cons_succ]
  refine anyL_take (i := 1) (v := ?vq35) rfl (by kernel_rfl) (by kernel_rfl) (by kernel_rfl) (by kernel_rfl) (fun _ _ _ h => h) (Or.inl ⟨by rfl, ?hq35⟩) (unhide HS0) ?_
  case hq35 => (intro w hSw; (try dsimp only at hSw); go_simp) <;> with_reducible rfl
  simp only [Act.put, List.getElem_toArray, List.getElem_cons_zero, List.getElem_cons_succ, List.setIfInBounds_toArray, List.set_cons_zero, List.set_cons_succ]
  refine anyL_take (i := 3) (v := ?vq36) rfl (by kernel_rfl) (by kernel_rfl) (by kernel_rfl) (by kernel_rfl) (fun _ _ _ h => h) (Or.inl ⟨by rfl, ?hq36⟩) (unhide HS0) ?_
  case hq36 => (intro w hSw; (try dsimp only at hSw); go_simp) <;> with_reducible rfl
  simp only [Act.put, List.getElem_toArray, List.getElem_cons_zero, List.getElem_cons_succ, List.setIfInBounds_toArray, List.set_cons_zero, List.set_cons_succ]
  refine anyL_ready (rs := [2]) (by kernel_rfl) (by simp) ?_
  refine AllL.cons rfl (fun K hK => ?_) AllL.nil
  go_simp
  have HI2 := hide ((unhide HI1).kpf (unhide HKI) (fun _ _ e => e))
  have HPA := hide ((unhide HP).kpf (unhide HK0) (fun _ _ e => e))
  have hc2 : W0.heap.size ≤ W1.drew.heap.size := Nat.le_trans hcw (unhide HKI).size
  refine (EndQ_at _ F g p (unhide HPA) (unhide HOK)).mono ?_
  rintro y w3 ⟨rfl, G, i3, g3⟩
  dsimp only
  have HI3 := hide i3
  have HG3 := hide g3
  have HX2 := HK0
  have NA := hide ((unhide HA).kpf g3.kp (fun e => by have := unhide HFL _ e; omega))
  have NO := hide ((unhide HO).kpf g3.kp (fun e => by have := unhide HFL _ e; omega))
  have NR := hide ((unhide HR).kpf g3.kp (fun e => by have := unhide HFL _ e; omega))
  have NT := hide ((unhide HT).kpf g3.kp (fun e => by have := unhide HFL _ e; omega))
  clear HA HO HR HT HK0 HKI
  have HA := NA
  have HO := NO
  have HR := NR
  have HT := NT
  clear NA NO NR NT
  have HK1 := hide (KpF.refl (fun i => X.heap.size ≤ i ∧ i < W0.heap.size) w3)
  clear i3 g3
  have HS3 : Hid (w3.cell? ⟨w1.heap.size, 0, none⟩ = some (.bool false) ∧ w3.cell? ⟨w1.heap.size, 1, none⟩ = some (.int .i64 ((endP p).1).s) ∧ w3.cell? ⟨w1.heap.size, 2, none⟩ = some (.int .i64 ((endP p).1).m) ∧ w3.cell? ⟨w1.heap.size, 3, none⟩ = some (.slice bA1 bN1 bC1) ∧ w3.cell? ⟨w1.heap.size, 4, none⟩ = some (.slice aA1 aN1 aC1) ∧ w3.cell? ⟨w1.heap.size, 5, none⟩ = some (.bool oS1) ∧ w3.cell? ⟨w1.heap.size, 6, none⟩ = some (.string w01) ∧ w3.cell? ⟨w1.heap.size, 7, none⟩ = some (.int .i64 f01) ∧ w3.cell? ⟨w1.heap.size, 8, none⟩ = some (.bool d01)) := hide ⟨((unhide HT).cell 0).trans rfl, ((unhide HT).cell 1).trans rfl, ((unhide HT).cell 2).trans rfl, ((unhide HT).cell 3).trans rfl, ((unhide HT).cell 4).trans rfl, ((unhide HT).cell 5).trans rfl, ((unhide HT).cell 6).trans rfl, ((unhide HT).cell 7).trans rfl, ((unhide HT).cell 8).trans rfl⟩
  refine unhide hK _ _ (fun _ => unhide HS3) ?_
  clear hK K
  refine anyL_take (i := 4) (v := ?vq37) rfl (by kernel_rfl) (by kernel_rfl) (by kernel_rfl) (by kernel_rfl) (fun _ _ _ h => h) (Or.inl ⟨by rfl, ?hq37⟩) (unhide HS3) ?_
  case hq37 => (intro w hSw; (try dsimp only at hSw); go_simp) <;> with_reducible rfl
  simp only [Act.put, List.getElem_toArray, List.getElem_cons_zero, List.getElem_cons_succ, List.setIfInBounds_toArray, List.set_cons_zero, List.set_cons_succ]
  refine anyL_ready (rs := [5]) (by kernel_rfl) (by simp) ?_
  refine AllL.cons rfl (fun K hK => ?_) AllL.nil
  have r_R0 : w3.cell? ⟨X.heap.size + 1 + 1, 0, none⟩ = some (.bool false) := ((unhide HR).cell 0).trans rfl
  have r_R1 : w3.cell? ⟨X.heap.size + 1 + 1, 1, none⟩ = some (.int .i64 0) := ((unhide HR).cell 1).trans rfl
  have r_R2 : w3.cell? ⟨X.heap.size + 1 + 1, 2, none⟩ = some (.int .i64 0) := ((unhide HR).cell 2).trans rfl
  have r_R3 : w3.cell? ⟨X.heap.size + 1 + 1, 3, none⟩ = some (.slice none 0 0) := ((unhide HR).cell 3).trans rfl
  have r_R4 : w3.cell? ⟨X.heap.size + 1 + 1, 4, none⟩ = some (.slice none 0 0) := ((unhide HR).cell 4).trans rfl
  have r_R5 : w3.cell? ⟨X.heap.size + 1 + 1, 5, none⟩ = some (.bool false) := ((unhide HR).cell 5).trans rfl
  have r_R6 : w3.cell? ⟨X.heap.size + 1 + 1, 6, none⟩ = some (.string ⟨#[]⟩) := ((unhide HR).cell 6).trans rfl
  have r_R7 : w3.cell? ⟨X.heap.size + 1 + 1, 7, none⟩ = some (.int .i64 0) := ((unhide HR).cell 7).trans rfl
  have r_R8 : w3.cell? ⟨X.heap.size + 1 + 1, 8, none⟩ = some (.bool false) := ((unhide HR).cell 8).trans rfl
  have zr_R0 : w3.frozen? ⟨X.heap.size + 1 + 1, 0, none⟩ = false := (unhide HR).frozen 0
  have zr_R1 : w3.frozen? ⟨X.heap.size + 1 + 1, 1, none⟩ = false := (unhide HR).frozen 1
  have zr_R2 : w3.frozen? ⟨X.heap.size + 1 + 1, 2, none⟩ = false := (unhide HR).frozen 2
  have zr_R3 : w3.frozen? ⟨X.heap.size + 1 + 1, 3, none⟩ = false := (unhide HR).frozen 3
  have zr_R4 : w3.frozen? ⟨X.heap.size + 1 + 1, 4, none⟩ = false := (unhide HR).frozen 4
  have zr_R5 : w3.frozen? ⟨X.heap.size + 1 + 1, 5, none⟩ = false := (unhide HR).frozen 5
  have zr_R6 : w3.frozen? ⟨X.heap.size + 1 + 1, 6, none⟩ = false := (unhide HR).frozen 6
  have zr_R7 : w3.frozen? ⟨X.heap.size + 1 + 1, 7, none⟩ = false := (unhide HR).frozen 7
  have zr_R8 : w3.frozen? ⟨X.heap.size + 1 + 1, 8, none⟩ = false := (unhide HR).frozen 8
  go_simp
  have NA : Hid (Cls (((((((((w3.setCell ⟨X.heap.size + 1 + 1, 0, none⟩ (.bool false)).setCell ⟨X.heap.size + 1 + 1, 1, none⟩ (.int .i64 ((endP p).1).s)).setCell ⟨X.heap.size + 1 + 1, 2, none⟩ (.int .i64 ((endP p).1).m)).setCell ⟨X.heap.size + 1 + 1, 3, none⟩ (.slice bA1 bN1 bC1)).setCell ⟨X.heap.size + 1 + 1, 4, none⟩ (.slice aA1 aN1 aC1)).setCell ⟨X.heap.size + 1 + 1, 5, none⟩ (.bool oS1)).setCell ⟨X.heap.size + 1 + 1, 6, none⟩ (.string w01)).setCell ⟨X.heap.size + 1 + 1, 7, none⟩ (.int .i64 f01)).setCell ⟨X.heap.size + 1 + 1, 8, none⟩ (.bool d01)) (X.heap.size) 44 #[.bool false, .int .i64 p.s, .int .i64 p.m, .slice bA bN bC, .slice aA aN aC, .bool oS, .string w0, .int .i64 f0, .bool d0]) := hide (by simpa using (((((((((unhide HA).other ⟨X.heap.size + 1 + 1, 0, none⟩ (.bool false) (by dsimp only; omega)).other ⟨X.heap.size + 1 + 1, 1, none⟩ (.int .i64 ((endP p).1).s) (by dsimp only; omega)).other ⟨X.heap.size + 1 + 1, 2, none⟩ (.int .i64 ((endP p).1).m) (by dsimp only; omega)).other ⟨X.heap.size + 1 + 1, 3, none⟩ (.slice bA1 bN1 bC1) (by dsimp only; omega)).other ⟨X.heap.size + 1 + 1, 4, none⟩ (.slice aA1 aN1 aC1) (by dsimp only; omega)).other ⟨X.heap.size + 1 + 1, 5, none⟩ (.bool oS1) (by dsimp only; omega)).other ⟨X.heap.size + 1 + 1, 6, none⟩ (.string w01) (by dsimp only; omega)).other ⟨X.heap.size + 1 + 1, 7, none⟩ (.int .i64 f01) (by dsimp only; omega)).other ⟨X.heap.size + 1 + 1, 8, none⟩ (.bool d01) (by dsimp only; omega))
  have NO : Hid (Cls (((((((((w3.setCell ⟨X.heap.size + 1 + 1, 0, none⟩ (.bool false)).setCell ⟨X.heap.size + 1 + 1, 1, none⟩ (.int .i64 ((endP p).1).s)).setCell ⟨X.heap.size + 1 + 1, 2, none⟩ (.int .i64 ((endP p).1).m)).setCell ⟨X.heap.size + 1 + 1, 3, none⟩ (.slice bA1 bN1 bC1)).setCell ⟨X.heap.size + 1 + 1, 4, none⟩ (.slice aA1 aN1 aC1)).setCell ⟨X.heap.size + 1 + 1, 5, none⟩ (.bool oS1)).setCell ⟨X.heap.size + 1 + 1, 6, none⟩ (.string w01)).setCell ⟨X.heap.size + 1 + 1, 7, none⟩ (.int .i64 f01)).setCell ⟨X.heap.size + 1 + 1, 8, none⟩ (.bool d01)) (X.heap.size + 1) 48 #[.int .i64 5, .int .i64 n, .string w]) := hide (by simpa using (((((((((unhide HO).other ⟨X.heap.size + 1 + 1, 0, none⟩ (.bool false) (by dsimp only; omega)).other ⟨X.heap.size + 1 + 1, 1, none⟩ (.int .i64 ((endP p).1).s) (by dsimp only; omega)).other ⟨X.heap.size + 1 + 1, 2, none⟩ (.int .i64 ((endP p).1).m) (by dsimp only; omega)).other ⟨X.heap.size + 1 + 1, 3, none⟩ (.slice bA1 bN1 bC1) (by dsimp only; omega)).other ⟨X.heap.size + 1 + 1, 4, none⟩ (.slice aA1 aN1 aC1) (by dsimp only; omega)).other ⟨X.heap.size + 1 + 1, 5, none⟩ (.bool oS1) (by dsimp only; omega)).other ⟨X.heap.size + 1 + 1, 6, none⟩ (.string w01) (by dsimp only; omega)).other ⟨X.heap.size + 1 + 1, 7, none⟩ (.int .i64 f01) (by dsimp only; omega)).other ⟨X.heap.size + 1 + 1, 8, none⟩ (.bool d01) (by dsimp only; omega))
  have NR : Hid (Cls (((((((((w3.setCell ⟨X.heap.size + 1 + 1, 0, none⟩ (.bool false)).setCell ⟨X.heap.size + 1 + 1, 1, none⟩ (.int .i64 ((endP p).1).s)).setCell ⟨X.heap.size + 1 + 1, 2, none⟩ (.int .i64 ((endP p).1).m)).setCell ⟨X.heap.size + 1 + 1, 3, none⟩ (.slice bA1 bN1 bC1)).setCell ⟨X.heap.size + 1 + 1, 4, none⟩ (.slice aA1 aN1 aC1)).setCell ⟨X.heap.size + 1 + 1, 5, none⟩ (.bool oS1)).setCell ⟨X.heap.size + 1 + 1, 6, none⟩ (.string w01)).setCell ⟨X.heap.size + 1 + 1, 7, none⟩ (.int .i64 f01)).setCell ⟨X.heap.size + 1 + 1, 8, none⟩ (.bool d01)) (X.heap.size + 1 + 1) 44 #[.bool false, .int .i64 ((endP p).1).s, .int .i64 ((endP p).1).m, .slice bA1 bN1 bC1, .slice aA1 aN1 aC1, .bool oS1, .string w01, .int .i64 f01, .bool d01]) := hide (by simpa using (((((((((unhide HR).set 0 (.bool false)).set 1 (.int .i64 ((endP p).1).s)).set 2 (.int .i64 ((endP p).1).m)).set 3 (.slice bA1 bN1 bC1)).set 4 (.slice aA1 aN1 aC1)).set 5 (.bool oS1)).set 6 (.string w01)).set 7 (.int .i64 f01)).set 8 (.bool d01))
  have NT : Hid (Cls (((((((((w3.setCell ⟨X.heap.size + 1 + 1, 0, none⟩ (.bool false)).setCell ⟨X.heap.size + 1 + 1, 1, none⟩ (.int .i64 ((endP p).1).s)).setCell ⟨X.heap.size + 1 + 1, 2, none⟩ (.int .i64 ((endP p).1).m)).setCell ⟨X.heap.size + 1 + 1, 3, none⟩ (.slice bA1 bN1 bC1)).setCell ⟨X.heap.size + 1 + 1, 4, none⟩ (.slice aA1 aN1 aC1)).setCell ⟨X.heap.size + 1 + 1, 5, none⟩ (.bool oS1)).setCell ⟨X.heap.size + 1 + 1, 6, none⟩ (.string w01)).setCell ⟨X.heap.size + 1 + 1, 7, none⟩ (.int .i64 f01)).setCell ⟨X.heap.size + 1 + 1, 8, none⟩ (.bool d01)) (w1.heap.size) 44 #[.bool false, .int .i64 ((endP p).1).s, .int .i64 ((endP p).1).m, .slice bA1 bN1 bC1, .slice aA1 aN1 aC1, .bool oS1, .string w01, .int .i64 f01, .bool d01]) := hide (by simpa using (((((((((unhide HT).other ⟨X.heap.size + 1 + 1, 0, none⟩ (.bool false) (by dsimp only; omega)).other ⟨X.heap.size + 1 + 1, 1, none⟩ (.int .i64 ((endP p).1).s) (by dsimp only; omega)).other ⟨X.heap.size + 1 + 1, 2, none⟩ (.int .i64 ((endP p).1).m) (by dsimp only; omega)).other ⟨X.heap.size + 1 + 1, 3, none⟩ (.slice bA1 bN1 bC1) (by dsimp only; omega)).other ⟨X.heap.size + 1 + 1, 4, none⟩ (.slice aA1 aN1 aC1) (by dsimp only; omega)).other ⟨X.heap.size + 1 + 1, 5, none⟩ (.bool oS1) (by dsimp only; omega)).other ⟨X.heap.size + 1 + 1, 6, none⟩ (.string w01) (by dsimp only; omega)).other ⟨X.heap.size + 1 + 1, 7, none⟩ (.int .i64 f01) (by dsimp only; omega)).other ⟨X.heap.size + 1 + 1, 8, none⟩ (.bool d01) (by dsimp only; omega))
  have NHK1 := hide ((((((((((unhide HK1).upd ⟨X.heap.size + 1 + 1, 0, none⟩ (.bool false) (.inl ⟨by dsimp only; omega, by dsimp only; omega⟩)).upd ⟨X.heap.size + 1 + 1, 1, none⟩ (.int .i64 ((endP p).1).s) (.inl ⟨by dsimp only; omega, by dsimp only; omega⟩)).upd ⟨X.heap.size + 1 + 1, 2, none⟩ (.int .i64 ((endP p).1).m) (.inl ⟨by dsimp only; omega, by dsimp only; omega⟩)).upd ⟨X.heap.size + 1 + 1, 3, none⟩ (.slice bA1 bN1 bC1) (.inl ⟨by dsimp only; omega, by dsimp only; omega⟩)).upd ⟨X.heap.size + 1 + 1, 4, none⟩ (.slice aA1 aN1 aC1) (.inl ⟨by dsimp only; omega, by dsimp only; omega⟩)).upd ⟨X.heap.size + 1 + 1, 5, none⟩ (.bool oS1) (.inl ⟨by dsimp only; omega, by dsimp only; omega⟩)).upd ⟨X.heap.size + 1 + 1, 6, none⟩ (.string w01) (.inl ⟨by dsimp only; omega, by dsimp only; omega⟩)).upd ⟨X.heap.size + 1 + 1, 7, none⟩ (.int .i64 f01) (.inl ⟨by dsimp only; omega, by dsimp only; omega⟩)).upd ⟨X.heap.size + 1 + 1, 8, none⟩ (.bool d01) (.inl ⟨by dsimp only; omega, by dsimp only; omega⟩))
  clear HA HO HR HT HK1
  generalize (((((((((w3.setCell ⟨X.heap.size + 1 + 1, 0, none⟩ (.bool false)).setCell ⟨X.heap.size + 1 + 1, 1, none⟩ (.int .i64 ((endP p).1).s)).setCell ⟨X.heap.size + 1 + 1, 2, none⟩ (.int .i64 ((endP p).1).m)).setCell ⟨X.heap.size + 1 + 1, 3, none⟩ (.slice bA1 bN1 bC1)).setCell ⟨X.heap.size + 1 + 1, 4, none⟩ (.slice aA1 aN1 aC1)).setCell ⟨X.heap.size + 1 + 1, 5, none⟩ (.bool oS1)).setCell ⟨X.heap.size + 1 + 1, 6, none⟩ (.string w01)).setCell ⟨X.heap.size + 1 + 1, 7, none⟩ (.int .i64 f01)).setCell ⟨X.heap.size + 1 + 1, 8, none⟩ (.bool d01)) = W2 at *
  have HA := NA
  have HO := NO
  have HR := NR
  have HT := NT
  have HK1 := NHK1
  clear NA NO NR NT NHK1
  have HS4 : Hid (W2.cell? ⟨w1.heap.size, 0, none⟩ = some (.bool false) ∧ W2.cell? ⟨w1.heap.size, 1, none⟩ = some (.int .i64 ((endP p).1).s) ∧ W2.cell? ⟨w1.heap.size, 2, none⟩ = some (.int .i64 ((endP p).1).m) ∧ W2.cell? ⟨w1.heap.size, 3, none⟩ = some (.slice bA1 bN1 bC1) ∧ W2.cell? ⟨w1.heap.size, 4, none⟩ = some (.slice aA1 aN1 aC1) ∧ W2.cell? ⟨w1.heap.size, 5, none⟩ = some (.bool oS1) ∧ W2.cell? ⟨w1.heap.size, 6, none⟩ = some (.string w01) ∧ W2.cell? ⟨w1.heap.size, 7, none⟩ = some (.int .i64 f01) ∧ W2.cell? ⟨w1.heap.size, 8, none⟩ = some (.bool d01)) := hide ⟨((unhide HT).cell 0).trans rfl, ((unhide HT).cell 1).trans rfl, ((unhide HT).cell 2).trans rfl, ((unhide HT).cell 3).trans rfl, ((unhide HT).cell 4).trans rfl, ((unhide HT).cell 5).trans rfl, ((unhide HT).cell 6).trans rfl, ((unhide HT).cell 7).trans rfl, ((unhide HT).cell 8).trans rfl⟩
  refine unhide hK _ _ (fun _ => unhide HS4) ?_
  clear hK K
  refine anyL_take (i := 6) (v := ?vq38) rfl (by kernel_rfl) (by kernel_rfl) (by kernel_rfl) (by kernel_rfl) (fun _ _ _ h => h) (Or.inl ⟨by rfl, ?hq38⟩) (unhide HS4) ?_
  case hq38 => (intro w hSw; (try dsimp only at hSw); go_simp) <;> with_reducible rfl
  simp only [Act.put, List.getElem_toArray, List.getElem_cons_zero, List.getElem_cons_succ, List.setIfInBounds_toArray, List.set_cons_zero, List.set_cons_succ]
  refine anyL_done (by kernel_rfl) ?_ _
  have q0 : W2.cell? ⟨X.heap.size + 1 + 1, 0, none⟩ = some (.bool false) := ((unhide HR).cell 0).trans rfl
  have q1 : W2.cell? ⟨X.heap.size + 1 + 1, 1, none⟩ = some (.int .i64 ((endP p).1).s) := ((unhide HR).cell 1).trans rfl
  have q2 : W2.cell? ⟨X.heap.size + 1 + 1, 2, none⟩ = some (.int .i64 ((endP p).1).m) := ((unhide HR).cell 2).trans rfl
  have q3 : W2.cell? ⟨X.heap.size + 1 + 1, 3, none⟩ = some (.slice bA1 bN1 bC1) := ((unhide HR).cell 3).trans rfl
  have q4 : W2.cell? ⟨X.heap.size + 1 + 1, 4, none⟩ = some (.slice aA1 aN1 aC1) := ((unhide HR).cell 4).trans rfl
  have q5 : W2.cell? ⟨X.heap.size + 1 + 1, 5, none⟩ = some (.bool oS1) := ((unhide HR).cell 5).trans rfl
  have q6 : W2.cell? ⟨X.heap.size + 1 + 1, 6, none⟩ = some (.string w01) := ((unhide HR).cell 6).trans rfl
  have q7 : W2.cell? ⟨X.heap.size + 1 + 1, 7, none⟩ = some (.int .i64 f01) := ((unhide HR).cell 7).trans rfl
  have q8 : W2.cell? ⟨X.heap.size + 1 + 1, 8, none⟩ = some (.bool d01) := ((unhide HR).cell 8).trans rfl
  go_wp2_with fail
  refine bodyPost_ret (v := .tuple #[.agg #[.bool false, .int .i64 ((endP p).1).s, .int .i64 ((endP p).1).m, .slice bA1 bN1 bC1, .slice aA1 aN1 aC1, .bool oS1, .string w01, .int .i64 f01, .bool d01], .bool true]) (by simp [results, Try.results21, go_sem, q0, q1, q2, q3, q4, q5, q6, q7, q8]) rfl ?_
  obtain ⟨z1, z2, z3, z4, z5⟩ := stepEndQ (unhide HFL) (unhide HD).lt (unhide HDJ) (unhide HX2) (by omega) hc2 (unhide HI2) (unhide HN1) (unhide HG3) (unhide HI3) (unhide HK1)
  exact ⟨_, D1, G, rfl, z1, z2, z3, z4, z5⟩
set_option maxRecDepth 100000 in
set_option maxHeartbeats 4000000 in
theorem step5BQ_at (X : World) (n : Int) (w : ByteArray) :
    Calls Try.prog 21 #[.pointer none, .agg cBad, .agg #[.int .i64 5, .int .i64 n, .string w], .func (.func 8) #[] #[]] X fun y Y => y = .returned (.tuple #[.agg cBad, .bool true]) ∧ Below X.heap.size X Y := by
  unfold cBad
  have HA : Hid (Cls (((X.alloc (.cells #[.bool true, .int .i64 0, .int .i64 0, .slice none 0 0, .slice none 0 0, .bool false, .string ⟨#[]⟩, .int .i64 0, .bool false] 44)).alloc (.cells #[.int .i64 5, .int .i64 n, .string w] 48)).alloc (.cells #[.bool false, .int .i64 0, .int .i64 0, .slice none 0 0, .slice none 0 0, .bool false, .string ⟨#[]⟩, .int .i64 0, .bool false] 44)) (X.heap.size) 44 #[.bool true, .int .i64 0, .int .i64 0, .slice none 0 0, .slice none 0 0, .bool false, .string ⟨#[]⟩, .int .i64 0, .bool false]) := hide (by simpa using ((Cls.new X 44 #[.bool true, .int .i64 0, .int .i64 0, .slice none 0 0, .slice none 0 0, .bool false, .string ⟨#[]⟩, .int .i64 0, .bool false]).alloc (.cells #[.int .i64 5, .int .i64 n, .string w] 48)).alloc (.cells #[.bool false, .int .i64 0, .int .i64 0, .slice none 0 0, .slice none 0 0, .bool false, .string ⟨#[]⟩, .int .i64 0, .bool false] 44))
  have HO : Hid (Cls (((X.alloc (.cells #[.bool true, .int .i64 0, .int .i64 0, .slice none 0 0, .slice none 0 0, .bool false, .string ⟨#[]⟩, .int .i64 0, .bool false] 44)).alloc (.cells #[.int .i64 5, .int .i64 n, .string w] 48)).alloc (.cells #[.bool false, .int .i64 0, .int .i64 0, .slice none 0 0, .slice none 0 0, .bool false, .string ⟨#[]⟩, .int .i64 0, .bool false] 44)) (X.heap.size + 1) 48 #[.int .i64 5, .int .i64 n, .string w]) := hide (by simpa using (Cls.new (X.alloc (.cells #[.bool true, .int .i64 0, .int .i64 0, .slice none 0 0, .slice none 0 0, .bool false, .string ⟨#[]⟩, .int .i64 0, .bool false] 44)) 48 #[.int .i64 5, .int .i64 n, .string w]).alloc (.cells #[.bool false, .int .i64 0, .int .i64 0, .slice none 0 0, .slice none 0 0, .bool false, .string ⟨#[]⟩, .int .i64 0, .bool false] 44))
  have HR : Hid (Cls (((X.alloc (.cells #[.bool true, .int .i64 0, .int .i64 0, .slice none 0 0, .slice none 0 0, .bool false, .string ⟨#[]⟩, .int .i64 0, .bool false] 44)).alloc (.cells #[.int .i64 5, .int .i64 n, .string w] 48)).alloc (.cells #[.bool false, .int .i64 0, .int .i64 0, .slice none 0 0, .slice none 0 0, .bool false, .string ⟨#[]⟩, .int .i64 0, .bool false] 44)) (X.heap.size + 1 + 1) 44 #[.bool false, .int .i64 0, .int .i64 0, .slice none 0 0, .slice none 0 0, .bool false, .string ⟨#[]⟩, .int .i64 0, .bool false]) := hide (by simpa using Cls.new ((X.alloc (.cells #[.bool true, .int .i64 0, .int .i64 0, .slice none 0 0, .slice none 0 0, .bool false, .string ⟨#[]⟩, .int .i64 0, .bool false] 44)).alloc (.cells #[.int .i64 5, .int .i64 n, .string w] 48)) 44 #[.bool false, .int .i64 0, .int .i64 0, .slice none 0 0, .slice none 0 0, .bool false, .string ⟨#[]⟩, .int .i64 0, .bool false])
  have HK0 : Hid (KpF (fun _ => False) X (((X.alloc (.cells #[.bool true, .int .i64 0, .int .i64 0, .slice none 0 0, .slice none 0 0, .bool false, .string ⟨#[]⟩, .int .i64 0, .bool false] 44)).alloc (.cells #[.int .i64 5, .int .i64 n, .string w] 48)).alloc (.cells #[.bool false, .int .i64 0, .int .i64 0, .slice none 0 0, .slice none 0 0, .bool false, .string ⟨#[]⟩, .int .i64 0, .bool false] 44))) := hide ((((KpF.refl (fun _ => False) X).al _).al _).al _)
  go_enter Try.func21, Try.ntmps21
  go_upto_region 1 with fail
  generalize (((X.alloc (.cells #[.bool true, .int .i64 0, .int .i64 0, .slice none 0 0, .slice none 0 0, .bool false, .string ⟨#[]⟩, .int .i64 0, .bool false] 44)).alloc (.cells #[.int .i64 5, .int .i64 n, .string w] 48)).alloc (.cells #[.bool false, .int .i64 0, .int .i64 0, .slice none 0 0, .slice none 0 0, .bool false, .string ⟨#[]⟩, .int .i64 0, .bool false] 44)) = W0 at *
  have hltc : X.heap.size + 1 + 1 < W0.heap.size := (unhide HR).lt
  have HC := hide (REndB_at W0 )
  unfold cBad at HC
  have c_A0 : W0.cell? ⟨X.heap.size, 0, none⟩ = some (.bool true) := ((unhide HA).cell 0).trans rfl
  have c_A1 : W0.cell? ⟨X.heap.size, 1, none⟩ = some (.int .i64 0) := ((unhide HA).cell 1).trans rfl
  have c_A2 : W0.cell? ⟨X.heap.size, 2, none⟩ = some (.int .i64 0) := ((unhide HA).cell 2).trans rfl
  have c_A3 : W0.cell? ⟨X.heap.size, 3, none⟩ = some (.slice none 0 0) := ((unhide HA).cell 3).trans rfl
  have c_A4 : W0.cell? ⟨X.heap.size, 4, none⟩ = some (.slice none 0 0) := ((unhide HA).cell 4).trans rfl
  have c_A5 : W0.cell? ⟨X.heap.size, 5, none⟩ = some (.bool false) := ((unhide HA).cell 5).trans rfl
  have c_A6 : W0.cell? ⟨X.heap.size, 6, none⟩ = some (.string ⟨#[]⟩) := ((unhide HA).cell 6).trans rfl
  have c_A7 : W0.cell? ⟨X.heap.size, 7, none⟩ = some (.int .i64 0) := ((unhide HA).cell 7).trans rfl
  have c_A8 : W0.cell? ⟨X.heap.size, 8, none⟩ = some (.bool false) := ((unhide HA).cell 8).trans rfl
  have c_O0 : W0.cell? ⟨X.heap.size + 1, 0, none⟩ = some (.int .i64 5) := ((unhide HO).cell 0).trans rfl
  have c_O1 : W0.cell? ⟨X.heap.size + 1, 1, none⟩ = some (.int .i64 n) := ((unhide HO).cell 1).trans rfl
  have c_O2 : W0.cell? ⟨X.heap.size + 1, 2, none⟩ = some (.string w) := ((unhide HO).cell 2).trans rfl
  go_wp2_with fail
  refine (unhide HC).mono ?_
  rintro y w1 ⟨rfl, x1⟩
  dsimp only
  clear HC
  clear c_A0 c_A1 c_A2 c_A3 c_A4 c_A5 c_A6 c_A7 c_A8 c_O0 c_O1 c_O2
  have hcw : W0.heap.size ≤ w1.heap.size := x1.size
  have HX1 := hide x1
  have NA := hide ((unhide HA).kpf (KpF.of (F := fun _ => False) (unhide HX1)) (fun e => e))
  have NO := hide ((unhide HO).kpf (KpF.of (F := fun _ => False) (unhide HX1)) (fun e => e))
  have NR := hide ((unhide HR).kpf (KpF.of (F := fun _ => False) (unhide HX1)) (fun e => e))
  have NHK0 := hide ((unhide HK0).bel (unhide HX1))
  clear HA HO HR HK0
  have HA := NA
  have HO := NO
  have HR := NR
  have HK0 := NHK0
  clear NA NO NR NHK0
  clear x1
  have hgeT : X.heap.size + 1 + 1 < w1.heap.size := (unhide HR).lt
  have NA := hide ((unhide HA).alloc (.cells #[.bool true, .int .i64 0, .int .i64 0, .slice none 0 0, .slice none 0 0, .bool false, .string ⟨#[]⟩, .int .i64 0, .bool false] 44))
  have NO := hide ((unhide HO).alloc (.cells #[.bool true, .int .i64 0, .int .i64 0, .slice none 0 0, .slice none 0 0, .bool false, .string ⟨#[]⟩, .int .i64 0, .bool false] 44))
  have NR := hide ((unhide HR).alloc (.cells #[.bool true, .int .i64 0, .int .i64 0, .slice none 0 0, .slice none 0 0, .bool false, .string ⟨#[]⟩, .int .i64 0, .bool false] 44))
  have NT := hide (Cls.new w1 44 #[.bool true, .int .i64 0, .int .i64 0, .slice none 0 0, .slice none 0 0, .bool false, .string ⟨#[]⟩, .int .i64 0, .bool false])
  have NHK0 := hide ((unhide HK0).al (.cells #[.bool true, .int .i64 0, .int .i64 0, .slice none 0 0, .slice none 0 0, .bool false, .string ⟨#[]⟩, .int .i64 0, .bool false] 44))
  clear HA HO HR HK0
  go_upto_region 28 with fail
  generalize (w1.alloc (.cells #[.bool true, .int .i64 0, .int .i64 0, .slice none 0 0, .slice none 0 0, .bool false, .string ⟨#[]⟩, .int .i64 0, .bool false] 44)) = W1 at *
  have HA := NA
  have HO := NO
  have HR := NR
  have HT := NT
  have HK0 := NHK0
  clear NA NO NR NT NHK0
  have NA := hide ((unhide HA).kpf (kpf_drew W1) (fun e => e))
  have NO := hide ((unhide HO).kpf (kpf_drew W1) (fun e => e))
  have NR := hide ((unhide HR).kpf (kpf_drew W1) (fun e => e))
  have NT := hide ((unhide HT).kpf (kpf_drew W1) (fun e => e))
  have NHK0 := hide ((unhide HK0).trans (kpf_drew W1) (fun _ _ e => e))
  clear HA HO HR HT HK0
  have HA := NA
  have HO := NO
  have HR := NR
  have HT := NT
  have HK0 := NHK0
  clear NA NO NR NT NHK0
  have HS0 : Hid (W1.drew.cell? ⟨w1.heap.size, 0, none⟩ = some (.bool true) ∧ W1.drew.cell? ⟨w1.heap.size, 1, none⟩ = some (.int .i64 0) ∧ W1.drew.cell? ⟨w1.heap.size, 2, none⟩ = some (.int .i64 0) ∧ W1.drew.cell? ⟨w1.heap.size, 3, none⟩ = some (.slice none 0 0) ∧ W1.drew.cell? ⟨w1.heap.size, 4, none⟩ = some (.slice none 0 0) ∧ W1.drew.cell? ⟨w1.heap.size, 5, none⟩ = some (.bool false) ∧ W1.drew.cell? ⟨w1.heap.size, 6, none⟩ = some (.string ⟨#[]⟩) ∧ W1.drew.cell? ⟨w1.heap.size, 7, none⟩ = some (.int .i64 0) ∧ W1.drew.cell? ⟨w1.heap.size, 8, none⟩ = some (.bool false)) := hide ⟨((unhide HT).cell 0).trans rfl, ((unhide HT).cell 1).trans rfl, ((unhide HT).cell 2).trans rfl, ((unhide HT).cell 3).trans rfl, ((unhide HT).cell 4).trans rfl, ((unhide HT).cell 5).trans rfl, ((unhide HT).cell 6).trans rfl, ((unhide HT).cell 7).trans rfl, ((unhide HT).cell 8).trans rfl⟩
  refine regionL (S := fun z => z.cell? ⟨w1.heap.size, 0, none⟩ = some (.bool true) ∧ z.cell? ⟨w1.heap.size, 1, none⟩ = some (.int .i64 0) ∧ z.cell? ⟨w1.heap.size, 2, none⟩ = some (.int .i64 0) ∧ z.cell? ⟨w1.heap.size, 3, none⟩ = some (.slice none 0 0) ∧ z.cell? ⟨w1.heap.size, 4, none⟩ = some (.slice none 0 0) ∧ z.cell? ⟨w1.heap.size, 5, none⟩ = some (.bool false) ∧ z.cell? ⟨w1.heap.size, 6, none⟩ = some (.string ⟨#[]⟩) ∧ z.cell? ⟨w1.heap.size, 7, none⟩ = some (.int .i64 0) ∧ z.cell? ⟨w1.heap.size, 8, none⟩ = some (.bool false)) (fun _ => false) (by kernel_rfl) ?_
  refine anyL_take (i := 0) (v := ?vq39) rfl (by kernel_rfl) (by kernel_rfl) (by kernel_rfl) (by kernel_rfl) (fun _ _ _ h => h) (Or.inl ⟨by rfl, ?hq39⟩) (unhide HS0) ?_
  case hq39 => (intro w hSw; (try dsimp only at hSw); go_simp) <;> with_reducible rfl
  simp only [Act.put, List.getElem_toArray, List.getElem_cons_zero, List.setIfInBounds_toArray, List.set_cons_zero, List.set_cons_succ]
  refine anyL_take (i := 1) (v := ?vq40) rfl (by kernel_rfl) (by kernel_rfl) (by kernel_rfl) (by kernel_rfl) (fun _ _ _ h => h) (Or.inl ⟨by rfl, ?hq40⟩) (unhide HS0) ?_
  case hq40 => (intro w hSw; (try dsimp only at hSw); go_simp) <;> with_reducible rfl
  simp only [Act.put, List.getElem_toArray, List.getElem_cons_zero, List.getElem_cons_succ, List.setIfInBounds_toArray, List.set_cons_zero, List.set_cons_succ]
  refine anyL_take (i := 3) (v := ?vq41) rfl (by kernel_rfl) (by kernel_rfl) (by kernel_rfl) (by kernel_rfl) (fun _ _ _ h => h) (Or.inl ⟨by rfl, ?hq41⟩) (unhide HS0) ?_
  case hq41 => (intro w hSw; (try dsimp only at hSw); go_simp) <;> with_reducible rfl
  simp only [Act.put, List.getElem_toArray, List.getElem_cons_zero, List.getElem_cons_succ, List.setIfInBounds_toArray, List.set_cons_zero, List.set_cons_succ]
  refine anyL_ready (rs := [2]) (by kernel_rfl) (by simp) ?_
  refine AllL.cons rfl (fun K hK => ?_) AllL.nil
  go_simp
  refine (EndNQ_at _ ).mono ?_
  rintro y _ ⟨rfl, rfl⟩
  dsimp only
  generalize W1.drew = w3 at *
  have HS3 : Hid (w3.cell? ⟨w1.heap.size, 0, none⟩ = some (.bool true) ∧ w3.cell? ⟨w1.heap.size, 1, none⟩ = some (.int .i64 0) ∧ w3.cell? ⟨w1.heap.size, 2, none⟩ = some (.int .i64 0) ∧ w3.cell? ⟨w1.heap.size, 3, none⟩ = some (.slice none 0 0) ∧ w3.cell? ⟨w1.heap.size, 4, none⟩ = some (.slice none 0 0) ∧ w3.cell? ⟨w1.heap.size, 5, none⟩ = some (.bool false) ∧ w3.cell? ⟨w1.heap.size, 6, none⟩ = some (.string ⟨#[]⟩) ∧ w3.cell? ⟨w1.heap.size, 7, none⟩ = some (.int .i64 0) ∧ w3.cell? ⟨w1.heap.size, 8, none⟩ = some (.bool false)) := hide ⟨((unhide HT).cell 0).trans rfl, ((unhide HT).cell 1).trans rfl, ((unhide HT).cell 2).trans rfl, ((unhide HT).cell 3).trans rfl, ((unhide HT).cell 4).trans rfl, ((unhide HT).cell 5).trans rfl, ((unhide HT).cell 6).trans rfl, ((unhide HT).cell 7).trans rfl, ((unhide HT).cell 8).trans rfl⟩
  refine unhide hK _ _ (fun _ => unhide HS3) ?_
  clear hK K
  refine anyL_take (i := 4) (v := ?vq42) rfl (by kernel_rfl) (by kernel_rfl) (by kernel_rfl) (by kernel_rfl) (fun _ _ _ h => h) (Or.inl ⟨by rfl, ?hq42⟩) (unhide HS3) ?_
  case hq42 => (intro w hSw; (try dsimp only at hSw); go_simp) <;> with_reducible rfl
  simp only [Act.put, List.getElem_toArray, List.getElem_cons_zero, List.getElem_cons_succ, List.setIfInBounds_toArray, List.set_cons_zero, List.set_cons_succ]
  refine anyL_ready (rs := [5]) (by kernel_rfl) (by simp) ?_
  refine AllL.cons rfl (fun K hK => ?_) AllL.nil
  have r_R0 : w3.cell? ⟨X.heap.size + 1 + 1, 0, none⟩ = some (.bool false) := ((unhide HR).cell 0).trans rfl
  have r_R1 : w3.cell? ⟨X.heap.size + 1 + 1, 1, none⟩ = some (.int .i64 0) := ((unhide HR).cell 1).trans rfl
  have r_R2 : w3.cell? ⟨X.heap.size + 1 + 1, 2, none⟩ = some (.int .i64 0) := ((unhide HR).cell 2).trans rfl
  have r_R3 : w3.cell? ⟨X.heap.size + 1 + 1, 3, none⟩ = some (.slice none 0 0) := ((unhide HR).cell 3).trans rfl
  have r_R4 : w3.cell? ⟨X.heap.size + 1 + 1, 4, none⟩ = some (.slice none 0 0) := ((unhide HR).cell 4).trans rfl
  have r_R5 : w3.cell? ⟨X.heap.size + 1 + 1, 5, none⟩ = some (.bool false) := ((unhide HR).cell 5).trans rfl
  have r_R6 : w3.cell? ⟨X.heap.size + 1 + 1, 6, none⟩ = some (.string ⟨#[]⟩) := ((unhide HR).cell 6).trans rfl
  have r_R7 : w3.cell? ⟨X.heap.size + 1 + 1, 7, none⟩ = some (.int .i64 0) := ((unhide HR).cell 7).trans rfl
  have r_R8 : w3.cell? ⟨X.heap.size + 1 + 1, 8, none⟩ = some (.bool false) := ((unhide HR).cell 8).trans rfl
  have zr_R0 : w3.frozen? ⟨X.heap.size + 1 + 1, 0, none⟩ = false := (unhide HR).frozen 0
  have zr_R1 : w3.frozen? ⟨X.heap.size + 1 + 1, 1, none⟩ = false := (unhide HR).frozen 1
  have zr_R2 : w3.frozen? ⟨X.heap.size + 1 + 1, 2, none⟩ = false := (unhide HR).frozen 2
  have zr_R3 : w3.frozen? ⟨X.heap.size + 1 + 1, 3, none⟩ = false := (unhide HR).frozen 3
  have zr_R4 : w3.frozen? ⟨X.heap.size + 1 + 1, 4, none⟩ = false := (unhide HR).frozen 4
  have zr_R5 : w3.frozen? ⟨X.heap.size + 1 + 1, 5, none⟩ = false := (unhide HR).frozen 5
  have zr_R6 : w3.frozen? ⟨X.heap.size + 1 + 1, 6, none⟩ = false := (unhide HR).frozen 6
  have zr_R7 : w3.frozen? ⟨X.heap.size + 1 + 1, 7, none⟩ = false := (unhide HR).frozen 7
  have zr_R8 : w3.frozen? ⟨X.heap.size + 1 + 1, 8, none⟩ = false := (unhide HR).frozen 8
  go_simp
  have NA : Hid (Cls (((((((((w3.setCell ⟨X.heap.size + 1 + 1, 0, none⟩ (.bool true)).setCell ⟨X.heap.size + 1 + 1, 1, none⟩ (.int .i64 0)).setCell ⟨X.heap.size + 1 + 1, 2, none⟩ (.int .i64 0)).setCell ⟨X.heap.size + 1 + 1, 3, none⟩ (.slice none 0 0)).setCell ⟨X.heap.size + 1 + 1, 4, none⟩ (.slice none 0 0)).setCell ⟨X.heap.size + 1 + 1, 5, none⟩ (.bool false)).setCell ⟨X.heap.size + 1 + 1, 6, none⟩ (.string ⟨#[]⟩)).setCell ⟨X.heap.size + 1 + 1, 7, none⟩ (.int .i64 0)).setCell ⟨X.heap.size + 1 + 1, 8, none⟩ (.bool false)) (X.heap.size) 44 #[.bool true, .int .i64 0, .int .i64 0, .slice none 0 0, .slice none 0 0, .bool false, .string ⟨#[]⟩, .int .i64 0, .bool false]) := hide (by simpa using (((((((((unhide HA).other ⟨X.heap.size + 1 + 1, 0, none⟩ (.bool true) (by dsimp only; omega)).other ⟨X.heap.size + 1 + 1, 1, none⟩ (.int .i64 0) (by dsimp only; omega)).other ⟨X.heap.size + 1 + 1, 2, none⟩ (.int .i64 0) (by dsimp only; omega)).other ⟨X.heap.size + 1 + 1, 3, none⟩ (.slice none 0 0) (by dsimp only; omega)).other ⟨X.heap.size + 1 + 1, 4, none⟩ (.slice none 0 0) (by dsimp only; omega)).other ⟨X.heap.size + 1 + 1, 5, none⟩ (.bool false) (by dsimp only; omega)).other ⟨X.heap.size + 1 + 1, 6, none⟩ (.string ⟨#[]⟩) (by dsimp only; omega)).other ⟨X.heap.size + 1 + 1, 7, none⟩ (.int .i64 0) (by dsimp only; omega)).other ⟨X.heap.size + 1 + 1, 8, none⟩ (.bool false) (by dsimp only; omega))
  have NO : Hid (Cls (((((((((w3.setCell ⟨X.heap.size + 1 + 1, 0, none⟩ (.bool true)).setCell ⟨X.heap.size + 1 + 1, 1, none⟩ (.int .i64 0)).setCell ⟨X.heap.size + 1 + 1, 2, none⟩ (.int .i64 0)).setCell ⟨X.heap.size + 1 + 1, 3, none⟩ (.slice none 0 0)).setCell ⟨X.heap.size + 1 + 1, 4, none⟩ (.slice none 0 0)).setCell ⟨X.heap.size + 1 + 1, 5, none⟩ (.bool false)).setCell ⟨X.heap.size + 1 + 1, 6, none⟩ (.string ⟨#[]⟩)).setCell ⟨X.heap.size + 1 + 1, 7, none⟩ (.int .i64 0)).setCell ⟨X.heap.size + 1 + 1, 8, none⟩ (.bool false)) (X.heap.size + 1) 48 #[.int .i64 5, .int .i64 n, .string w]) := hide (by simpa using (((((((((unhide HO).other ⟨X.heap.size + 1 + 1, 0, none⟩ (.bool true) (by dsimp only; omega)).other ⟨X.heap.size + 1 + 1, 1, none⟩ (.int .i64 0) (by dsimp only; omega)).other ⟨X.heap.size + 1 + 1, 2, none⟩ (.int .i64 0) (by dsimp only; omega)).other ⟨X.heap.size + 1 + 1, 3, none⟩ (.slice none 0 0) (by dsimp only; omega)).other ⟨X.heap.size + 1 + 1, 4, none⟩ (.slice none 0 0) (by dsimp only; omega)).other ⟨X.heap.size + 1 + 1, 5, none⟩ (.bool false) (by dsimp only; omega)).other ⟨X.heap.size + 1 + 1, 6, none⟩ (.string ⟨#[]⟩) (by dsimp only; omega)).other ⟨X.heap.size + 1 + 1, 7, none⟩ (.int .i64 0) (by dsimp only; omega)).other ⟨X.heap.size + 1 + 1, 8, none⟩ (.bool false) (by dsimp only; omega))
  have NR : Hid (Cls (((((((((w3.setCell ⟨X.heap.size + 1 + 1, 0, none⟩ (.bool true)).setCell ⟨X.heap.size + 1 + 1, 1, none⟩ (.int .i64 0)).setCell ⟨X.heap.size + 1 + 1, 2, none⟩ (.int .i64 0)).setCell ⟨X.heap.size + 1 + 1, 3, none⟩ (.slice none 0 0)).setCell ⟨X.heap.size + 1 + 1, 4, none⟩ (.slice none 0 0)).setCell ⟨X.heap.size + 1 + 1, 5, none⟩ (.bool false)).setCell ⟨X.heap.size + 1 + 1, 6, none⟩ (.string ⟨#[]⟩)).setCell ⟨X.heap.size + 1 + 1, 7, none⟩ (.int .i64 0)).setCell ⟨X.heap.size + 1 + 1, 8, none⟩ (.bool false)) (X.heap.size + 1 + 1) 44 #[.bool true, .int .i64 0, .int .i64 0, .slice none 0 0, .slice none 0 0, .bool false, .string ⟨#[]⟩, .int .i64 0, .bool false]) := hide (by simpa using (((((((((unhide HR).set 0 (.bool true)).set 1 (.int .i64 0)).set 2 (.int .i64 0)).set 3 (.slice none 0 0)).set 4 (.slice none 0 0)).set 5 (.bool false)).set 6 (.string ⟨#[]⟩)).set 7 (.int .i64 0)).set 8 (.bool false))
  have NT : Hid (Cls (((((((((w3.setCell ⟨X.heap.size + 1 + 1, 0, none⟩ (.bool true)).setCell ⟨X.heap.size + 1 + 1, 1, none⟩ (.int .i64 0)).setCell ⟨X.heap.size + 1 + 1, 2, none⟩ (.int .i64 0)).setCell ⟨X.heap.size + 1 + 1, 3, none⟩ (.slice none 0 0)).setCell ⟨X.heap.size + 1 + 1, 4, none⟩ (.slice none 0 0)).setCell ⟨X.heap.size + 1 + 1, 5, none⟩ (.bool false)).setCell ⟨X.heap.size + 1 + 1, 6, none⟩ (.string ⟨#[]⟩)).setCell ⟨X.heap.size + 1 + 1, 7, none⟩ (.int .i64 0)).setCell ⟨X.heap.size + 1 + 1, 8, none⟩ (.bool false)) (w1.heap.size) 44 #[.bool true, .int .i64 0, .int .i64 0, .slice none 0 0, .slice none 0 0, .bool false, .string ⟨#[]⟩, .int .i64 0, .bool false]) := hide (by simpa using (((((((((unhide HT).other ⟨X.heap.size + 1 + 1, 0, none⟩ (.bool true) (by dsimp only; omega)).other ⟨X.heap.size + 1 + 1, 1, none⟩ (.int .i64 0) (by dsimp only; omega)).other ⟨X.heap.size + 1 + 1, 2, none⟩ (.int .i64 0) (by dsimp only; omega)).other ⟨X.heap.size + 1 + 1, 3, none⟩ (.slice none 0 0) (by dsimp only; omega)).other ⟨X.heap.size + 1 + 1, 4, none⟩ (.slice none 0 0) (by dsimp only; omega)).other ⟨X.heap.size + 1 + 1, 5, none⟩ (.bool false) (by dsimp only; omega)).other ⟨X.heap.size + 1 + 1, 6, none⟩ (.string ⟨#[]⟩) (by dsimp only; omega)).other ⟨X.heap.size + 1 + 1, 7, none⟩ (.int .i64 0) (by dsimp only; omega)).other ⟨X.heap.size + 1 + 1, 8, none⟩ (.bool false) (by dsimp only; omega))
  have NHK0 := hide ((((((((((unhide HK0).upd ⟨X.heap.size + 1 + 1, 0, none⟩ (.bool true) (.inr (by dsimp only; omega))).upd ⟨X.heap.size + 1 + 1, 1, none⟩ (.int .i64 0) (.inr (by dsimp only; omega))).upd ⟨X.heap.size + 1 + 1, 2, none⟩ (.int .i64 0) (.inr (by dsimp only; omega))).upd ⟨X.heap.size + 1 + 1, 3, none⟩ (.slice none 0 0) (.inr (by dsimp only; omega))).upd ⟨X.heap.size + 1 + 1, 4, none⟩ (.slice none 0 0) (.inr (by dsimp only; omega))).upd ⟨X.heap.size + 1 + 1, 5, none⟩ (.bool false) (.inr (by dsimp only; omega))).upd ⟨X.heap.size + 1 + 1, 6, none⟩ (.string ⟨#[]⟩) (.inr (by dsimp only; omega))).upd ⟨X.heap.size + 1 + 1, 7, none⟩ (.int .i64 0) (.inr (by dsimp only; omega))).upd ⟨X.heap.size + 1 + 1, 8, none⟩ (.bool false) (.inr (by dsimp only; omega)))
  clear HA HO HR HT HK0
  generalize (((((((((w3.setCell ⟨X.heap.size + 1 + 1, 0, none⟩ (.bool true)).setCell ⟨X.heap.size + 1 + 1, 1, none⟩ (.int .i64 0)).setCell ⟨X.heap.size + 1 + 1, 2, none⟩ (.int .i64 0)).setCell ⟨X.heap.size + 1 + 1, 3, none⟩ (.slice none 0 0)).setCell ⟨X.heap.size + 1 + 1, 4, none⟩ (.slice none 0 0)).setCell ⟨X.heap.size + 1 + 1, 5, none⟩ (.bool false)).setCell ⟨X.heap.size + 1 + 1, 6, none⟩ (.string ⟨#[]⟩)).setCell ⟨X.heap.size + 1 + 1, 7, none⟩ (.int .i64 0)).setCell ⟨X.heap.size + 1 + 1, 8, none⟩ (.bool false)) = W2 at *
  have HA := NA
  have HO := NO
  have HR := NR
  have HT := NT
  have HK0 := NHK0
  clear NA NO NR NT NHK0
  have HS4 : Hid (W2.cell? ⟨w1.heap.size, 0, none⟩ = some (.bool true) ∧ W2.cell? ⟨w1.heap.size, 1, none⟩ = some (.int .i64 0) ∧ W2.cell? ⟨w1.heap.size, 2, none⟩ = some (.int .i64 0) ∧ W2.cell? ⟨w1.heap.size, 3, none⟩ = some (.slice none 0 0) ∧ W2.cell? ⟨w1.heap.size, 4, none⟩ = some (.slice none 0 0) ∧ W2.cell? ⟨w1.heap.size, 5, none⟩ = some (.bool false) ∧ W2.cell? ⟨w1.heap.size, 6, none⟩ = some (.string ⟨#[]⟩) ∧ W2.cell? ⟨w1.heap.size, 7, none⟩ = some (.int .i64 0) ∧ W2.cell? ⟨w1.heap.size, 8, none⟩ = some (.bool false)) := hide ⟨((unhide HT).cell 0).trans rfl, ((unhide HT).cell 1).trans rfl, ((unhide HT).cell 2).trans rfl, ((unhide HT).cell 3).trans rfl, ((unhide HT).cell 4).trans rfl, ((unhide HT).cell 5).trans rfl, ((unhide HT).cell 6).trans rfl, ((unhide HT).cell 7).trans rfl, ((unhide HT).cell 8).trans rfl⟩
  refine unhide hK _ _ (fun _ => unhide HS4) ?_
  clear hK K
  refine anyL_take (i := 6) (v := ?vq43) rfl (by kernel_rfl) (by kernel_rfl) (by kernel_rfl) (by kernel_rfl) (fun _ _ _ h => h) (Or.inl ⟨by rfl, ?hq43⟩) (unhide HS4) ?_
  case hq43 => (intro w hSw; (try dsimp only at hSw); go_simp) <;> with_reducible rfl
  simp only [Act.put, List.getElem_toArray, List.getElem_cons_zero, List.getElem_cons_succ, List.setIfInBounds_toArray, List.set_cons_zero, List.set_cons_succ]
  refine anyL_done (by kernel_rfl) ?_ _
  have q0 : W2.cell? ⟨X.heap.size + 1 + 1, 0, none⟩ = some (.bool true) := ((unhide HR).cell 0).trans rfl
  have q1 : W2.cell? ⟨X.heap.size + 1 + 1, 1, none⟩ = some (.int .i64 0) := ((unhide HR).cell 1).trans rfl
  have q2 : W2.cell? ⟨X.heap.size + 1 + 1, 2, none⟩ = some (.int .i64 0) := ((unhide HR).cell 2).trans rfl
  have q3 : W2.cell? ⟨X.heap.size + 1 + 1, 3, none⟩ = some (.slice none 0 0) := ((unhide HR).cell 3).trans rfl
  have q4 : W2.cell? ⟨X.heap.size + 1 + 1, 4, none⟩ = some (.slice none 0 0) := ((unhide HR).cell 4).trans rfl
  have q5 : W2.cell? ⟨X.heap.size + 1 + 1, 5, none⟩ = some (.bool false) := ((unhide HR).cell 5).trans rfl
  have q6 : W2.cell? ⟨X.heap.size + 1 + 1, 6, none⟩ = some (.string ⟨#[]⟩) := ((unhide HR).cell 6).trans rfl
  have q7 : W2.cell? ⟨X.heap.size + 1 + 1, 7, none⟩ = some (.int .i64 0) := ((unhide HR).cell 7).trans rfl
  have q8 : W2.cell? ⟨X.heap.size + 1 + 1, 8, none⟩ = some (.bool false) := ((unhide HR).cell 8).trans rfl
  go_wp2_with fail
  refine bodyPost_ret (v := .tuple #[.agg #[.bool true, .int .i64 0, .int .i64 0, .slice none 0 0, .slice none 0 0, .bool false, .string ⟨#[]⟩, .int .i64 0, .bool false], .bool true]) (by simp [results, Try.results21, go_sem, q0, q1, q2, q3, q4, q5, q6, q7, q8]) rfl ?_
  exact ⟨rfl, (unhide HK0).below (Nat.le_refl _) (fun _ e => e.elim)⟩
set_option maxRecDepth 100000 in
set_option maxHeartbeats 4000000 in
theorem step6Q_at (X : World) (F : Nat → Prop) (g : Nat) (p : Pa Int) (D : Nat → Prop) (c : Array Value) (hP : PsQ X F g (mpQ p)) (hD : IsD X D c p) (hok : OkP p) (hdj : ∀ i, D i → ¬ F i) (n : Int) (w : ByteArray) (hw : w.size ≤ 281474976710656) :
    Calls Try.prog 21 #[.pointer (some ⟨g, 0, none⟩), .agg c, .agg #[.int .i64 6, .int .i64 n, .string w], .func (.func 8) #[] #[]] X fun y Y => ∃ c' D' G, y = .returned (.tuple #[.agg c', .bool true]) ∧ IsD Y D' c' ((forgetP p).1) ∧ PsQ Y G g (mpQ ((forgetP p).1)) ∧ (∀ i, D' i → ¬ G i) ∧ Gr F X G Y ∧ ∀ i, D' i → D i ∨ X.heap.size ≤ i := by
  have HP := hide hP
  have HD := hide hD
  have HOK := hide hok
  have HDJ := hide hdj
  have HW := hide hw
  have HFL := hide hP.lt
  obtain ⟨bA, bN, bC, aA, aN, aC, oS, w0, f0, d0, rfl⟩ := hD.form
  clear hP hD hok hdj hw
  have HA : Hid (Cls (((X.alloc (.cells #[.bool false, .int .i64 p.s, .int .i64 p.m, .slice bA bN bC, .slice aA aN aC, .bool oS, .string w0, .int .i64 f0, .bool d0] 44)).alloc (.cells #[.int .i64 6, .int .i64 n, .string w] 48)).alloc (.cells #[.bool false, .int .i64 0, .int .i64 0, .slice none 0 0, .slice none 0 0, .bool false, .string ⟨#[]⟩, .int .i64 0, .bool false] 44)) (X.heap.size) 44 #[.bool false, .int .i64 p.s, .int .i64 p.m, .slice bA bN bC, .slice aA aN aC, .bool oS, .string w0, .int .i64 f0, .bool d0]) := hide (by simpa using ((Cls.new X 44 #[.bool false, .int .i64 p.s, .int .i64 p.m, .slice bA bN bC, .slice aA aN aC, .bool oS, .string w0, .int .i64 f0, .bool d0]).alloc (.cells #[.int .i64 6, .int .i64 n, .string w] 48)).alloc (.cells #[.bool false, .int .i64 0, .int .i64 0, .slice none 0 0, .slice none 0 0, .bool false, .string ⟨#[]⟩, .int .i64 0, .bool false] 44))
  have HO : Hid (Cls (((X.alloc (.cells #[.bool false, .int .i64 p.s, .int .i64 p.m, .slice bA bN bC, .slice aA aN aC, .bool oS, .string w0, .int .i64 f0, .bool d0] 44)).alloc (.cells #[.int .i64 6, .int .i64 n, .string w] 48)).alloc (.cells #[.bool false, .int .i64 0, .int .i64 0, .slice none 0 0, .slice none 0 0, .bool false, .string ⟨#[]⟩, .int .i64 0, .bool false] 44)) (X.heap.size + 1) 48 #[.int .i64 6, .int .i64 n, .string w]) := hide (by simpa using (Cls.new (X.alloc (.cells #[.bool false, .int .i64 p.s, .int .i64 p.m, .slice bA bN bC, .slice aA aN aC, .bool oS, .string w0, .int .i64 f0, .bool d0] 44)) 48 #[.int .i64 6, .int .i64 n, .string w]).alloc (.cells #[.bool false, .int .i64 0, .int .i64 0, .slice none 0 0, .slice none 0 0, .bool false, .string ⟨#[]⟩, .int .i64 0, .bool false] 44))
  have HR : Hid (Cls (((X.alloc (.cells #[.bool false, .int .i64 p.s, .int .i64 p.m, .slice bA bN bC, .slice aA aN aC, .bool oS, .string w0, .int .i64 f0, .bool d0] 44)).alloc (.cells #[.int .i64 6, .int .i64 n, .string w] 48)).alloc (.cells #[.bool false, .int .i64 0, .int .i64 0, .slice none 0 0, .slice none 0 0, .bool false, .string ⟨#[]⟩, .int .i64 0, .bool false] 44)) (X.heap.size + 1 + 1) 44 #[.bool false, .int .i64 0, .int .i64 0, .slice none 0 0, .slice none 0 0, .bool false, .string ⟨#[]⟩, .int .i64 0, .bool false]) := hide (by simpa using Cls.new ((X.alloc (.cells #[.bool false, .int .i64 p.s, .int .i64 p.m, .slice bA bN bC, .slice aA aN aC, .bool oS, .string w0, .int .i64 f0, .bool d0] 44)).alloc (.cells #[.int .i64 6, .int .i64 n, .string w] 48)) 44 #[.bool false, .int .i64 0, .int .i64 0, .slice none 0 0, .slice none 0 0, .bool false, .string ⟨#[]⟩, .int .i64 0, .bool false])
  have HK0 : Hid (KpF (fun _ => False) X (((X.alloc (.cells #[.bool false, .int .i64 p.s, .int .i64 p.m, .slice bA bN bC, .slice aA aN aC, .bool oS, .string w0, .int .i64 f0, .bool d0] 44)).alloc (.cells #[.int .i64 6, .int .i64 n, .string w] 48)).alloc (.cells #[.bool false, .int .i64 0, .int .i64 0, .slice none 0 0, .slice none 0 0, .bool false, .string ⟨#[]⟩, .int .i64 0, .bool false] 44))) := hide ((((KpF.refl (fun _ => False) X).al _).al _).al _)
  go_enter Try.func21, Try.ntmps21
  go_upto_region 1 with fail
  generalize (((X.alloc (.cells #[.bool false, .int .i64 p.s, .int .i64 p.m, .slice bA bN bC, .slice aA aN aC, .bool oS, .string w0, .int .i64 f0, .bool d0] 44)).alloc (.cells #[.int .i64 6, .int .i64 n, .string w] 48)).alloc (.cells #[.bool false, .int .i64 0, .int .i64 0, .slice none 0 0, .slice none 0 0, .bool false, .string ⟨#[]⟩, .int .i64 0, .bool false] 44)) = W0 at *
  have hltc : X.heap.size + 1 + 1 < W0.heap.size := (unhide HR).lt
  have HC := hide (RForgetA_at W0 D _ p ((unhide HD).kpf (unhide HK0) (fun _ _ e => e)) (unhide HOK) )
  have c_A0 : W0.cell? ⟨X.heap.size, 0, none⟩ = some (.bool false) := ((unhide HA).cell 0).trans rfl
  have c_A1 : W0.cell? ⟨X.heap.size, 1, none⟩ = some (.int .i64 p.s) := ((unhide HA).cell 1).trans rfl
  have c_A2 : W0.cell? ⟨X.heap.size, 2, none⟩ = some (.int .i64 p.m) := ((unhide HA).cell 2).trans rfl
  have c_A3 : W0.cell? ⟨X.heap.size, 3, none⟩ = some (.slice bA bN bC) := ((unhide HA).cell 3).trans rfl
  have c_A4 : W0.cell? ⟨X.heap.size, 4, none⟩ = some (.slice aA aN aC) := ((unhide HA).cell 4).trans rfl
  have c_A5 : W0.cell? ⟨X.heap.size, 5, none⟩ = some (.bool oS) := ((unhide HA).cell 5).trans rfl
  have c_A6 : W0.cell? ⟨X.heap.size, 6, none⟩ = some (.string w0) := ((unhide HA).cell 6).trans rfl
  have c_A7 : W0.cell? ⟨X.heap.size, 7, none⟩ = some (.int .i64 f0) := ((unhide HA).cell 7).trans rfl
  have c_A8 : W0.cell? ⟨X.heap.size, 8, none⟩ = some (.bool d0) := ((unhide HA).cell 8).trans rfl
  have c_O0 : W0.cell? ⟨X.heap.size + 1, 0, none⟩ = some (.int .i64 6) := ((unhide HO).cell 0).trans rfl
  have c_O1 : W0.cell? ⟨X.heap.size + 1, 1, none⟩ = some (.int .i64 n) := ((unhide HO).cell 1).trans rfl
  have c_O2 : W0.cell? ⟨X.heap.size + 1, 2, none⟩ = some (.string w) := ((unhide HO).cell 2).trans rfl
  go_wp2_with fail
  refine (unhide HC).mono ?_
  rintro y w1 ⟨c1, D1, rfl, i1, n1, x1⟩
  dsimp only
  obtain ⟨bA1, bN1, bC1, aA1, aN1, aC1, oS1, w01, f01, d01, rfl⟩ := i1.form
  have HI1 := hide i1
  have HN1 := hide n1
  clear HC i1 n1
  clear c_A0 c_A1 c_A2 c_A3 c_A4 c_A5 c_A6 c_A7 c_A8 c_O0 c_O1 c_O2
  have hcw : W0.heap.size ≤ w1.heap.size := x1.size
  have HX1 := hide x1
  have NA := hide ((unhide HA).kpf (KpF.of (F := fun _ => False) (unhide HX1)) (fun e => e))
  have NO := hide ((unhide HO).kpf (KpF.of (F := fun _ => False) (unhide HX1)) (fun e => e))
  have NR := hide ((unhide HR).kpf (KpF.of (F := fun _ => False) (unhide HX1)) (fun e => e))
  have NHK0 := hide ((unhide HK0).bel (unhide HX1))
  clear HA HO HR HK0
  have HA := NA
  have HO := NO
  have HR := NR
  have HK0 := NHK0
  clear NA NO NR NHK0
  clear x1
  have HKI := hide (KpF.refl (fun _ => False) w1)
  have hgeT : X.heap.size + 1 + 1 < w1.heap.size := (unhide HR).lt
  have NA := hide ((unhide HA).alloc (.cells #[.bool false, .int .i64 ((forgetP p).1).s, .int .i64 ((forgetP p).1).m, .slice bA1 bN1 bC1, .slice aA1 aN1 aC1, .bool oS1, .string w01, .int .i64 f01, .bool d01] 44))
  have NO := hide ((unhide HO).alloc (.cells #[.bool false, .int .i64 ((forgetP p).1).s, .int .i64 ((forgetP p).1).m, .slice bA1 bN1 bC1, .slice aA1 aN1 aC1, .bool oS1, .string w01, .int .i64 f01, .bool d01] 44))
  have NR := hide ((unhide HR).alloc (.cells #[.bool false, .int .i64 ((forgetP p).1).s, .int .i64 ((forgetP p).1).m, .slice bA1 bN1 bC1, .slice aA1 aN1 aC1, .bool oS1, .string w01, .int .i64 f01, .bool d01] 44))
  have NT := hide (Cls.new w1 44 #[.bool false, .int .i64 ((forgetP p).1).s, .int .i64 ((forgetP p).1).m, .slice bA1 bN1 bC1, .slice aA1 aN1 aC1, .bool oS1, .string w01, .int .i64 f01, .bool d01])
  have NHK0 := hide ((unhide HK0).al (.cells #[.bool false, .int .i64 ((forgetP p).1).s, .int .i64 ((forgetP p).1).m, .slice bA1 bN1 bC1, .slice aA1 aN1 aC1, .bool oS1, .string w01, .int .i64 f01, .bool d01] 44))
  have NHKI := hide ((unhide HKI).al (.cells #[.bool false, .int .i64 ((forgetP p).1).s, .int .i64 ((forgetP p).1).m, .slice bA1 bN1 bC1, .slice aA1 aN1 aC1, .bool oS1, .string w01, .int .i64 f01, .bool d01] 44))
  clear HA HO HR HK0 HKI
  go_upto_region 31 with fail
  generalize (w1.alloc (.cells #[.bool false, .int .i64 ((forgetP p).1).s, .int .i64 ((forgetP p).1).m, .slice bA1 bN1 bC1, .slice aA1 aN1 aC1, .bool oS1, .string w01, .int .i64 f01, .bool d01] 44)) = W1 at *
  have HA := NA
  have HO := NO
  have HR := NR
  have HT := NT
  have HK0 := NHK0
  have HKI := NHKI
  clear NA NO NR NT NHK0 NHKI
  have NA := hide ((unhide HA).kpf (kpf_drew W1) (fun e => e))
  have NO := hide ((unhide HO).kpf (kpf_drew W1) (fun e => e))
  have NR := hide ((unhide HR).kpf (kpf_drew W1) (fun e => e))
  have NT := hide ((unhide HT).kpf (kpf_drew W1) (fun e => e))
  have NHK0 := hide ((unhide HK0).trans (kpf_drew W1) (fun _ _ e => e))
  have NHKI := hide ((unhide HKI).trans (kpf_drew W1) (fun _ _ e => e))
  clear HA HO HR HT HK0 HKI
  have HA := NA
  have HO := NO
  have HR := NR
  have HT := NT
  have HK0 := NHK0
  have HKI := NHKI
  clear NA NO NR NT NHK0 NHKI
  have HS0 : Hid (W1.drew.cell? ⟨w1.heap.size, 0, none⟩ = some (.bool false) ∧ W1.drew.cell? ⟨w1.heap.size, 1, none⟩ = some (.int .i64 ((forgetP p).1).s) ∧ W1.drew.cell? ⟨w1.heap.size, 2, none⟩ = some (.int .i64 ((forgetP p).1).m) ∧ W1.drew.cell? ⟨w1.heap.size, 3, none⟩ = some (.slice bA1 bN1 bC1) ∧ W1.drew.cell? ⟨w1.heap.size, 4, none⟩ = some (.slice aA1 aN1 aC1) ∧ W1.drew.cell? ⟨w1.heap.size, 5, none⟩ = some (.bool oS1) ∧ W1.drew.cell? ⟨w1.heap.size, 6, none⟩ = some (.string w01) ∧ W1.drew.cell? ⟨w1.heap.size, 7, none⟩ = some (.int .i64 f01) ∧ W1.drew.cell? ⟨w1.heap.size, 8, none⟩ = some (.bool d01)) := hide ⟨((unhide HT).cell 0).trans rfl, ((unhide HT).cell 1).trans rfl, ((unhide HT).cell 2).trans rfl, ((unhide HT).cell 3).trans rfl, ((unhide HT).cell 4).trans rfl, ((unhide HT).cell 5).trans rfl, ((unhide HT).cell 6).trans rfl, ((unhide HT).cell 7).trans rfl, ((unhide HT).cell 8).trans rfl⟩
  refine regionL (S := fun z => z.cell? ⟨w1.heap.size, 0, none⟩ = some (.bool false) ∧ z.cell? ⟨w1.heap.size, 1, none⟩ = some (.int .i64 ((forgetP p).1).s) ∧ z.cell? ⟨w1.heap.size, 2, none⟩ = some (.int .i64 ((forgetP p).1).m) ∧ z.cell? ⟨w1.heap.size, 3, none⟩ = some (.slice bA1 bN1 bC1) ∧ z.cell? ⟨w1.heap.size, 4, none⟩ = some (.slice aA1 aN1 aC1) ∧ z.cell? ⟨w1.heap.size, 5, none⟩ = some (.bool oS1) ∧ z.cell? ⟨w1.heap.size, 6, none⟩ = some (.string w01) ∧ z.cell? ⟨w1.heap.size, 7, none⟩ = some (.int .i64 f01) ∧ z.cell? ⟨w1.heap.size, 8, none⟩ = some (.bool d01)) (fun _ => false) (by kernel_rfl) ?_
  refine anyL_take (i := 0) (v := ?vq44) rfl (by kernel_rfl) (by kernel_rfl) (by kernel_rfl) (by kernel_rfl) (fun _ _ _ h => h) (Or.inl ⟨by rfl, ?hq44⟩) (unhide HS0) ?_
  case hq44 => (intro w hSw; (try dsimp only at hSw); go_simp) <;> with_reducible rfl
  simp only [Act.put, List.getElem_toArray, List.getElem_cons_zero, List.setIfInBounds_toArray, List.set_cons_zero, List.set_cons_succ]
  refine anyL_take (i := 1) (v := ?vq45) rfl (by kernel_rfl) (by kernel_rfl) (by kernel_rfl) (by kernel_rfl) (fun _ _ _ h => h) (Or.inl ⟨by rfl, ?hq45⟩) (unhide HS0) ?_
  case hq45 => (intro w hSw; (try dsimp only at hSw); go_simp) <;> with_reducible rfl
  simp only [Act.put, List.getElem_toArray, List.getElem_cons_zero, List.getElem_cons_succ, List.setIfInBounds_toArray, List.set_cons_zero, List.set_cons_succ]
  refine anyL_take (i := 3) (v := ?vq46) rfl (by kernel_rfl) (by kernel_rfl) (by kernel_rfl) (by kernel_rfl) (fun _ _ _ h => h) (Or.inl ⟨by rfl, ?hq46⟩) (unhide HS0) ?_
  case hq46 => (intro w hSw; (try dsimp only at hSw); go_simp) <;> with_reducible rfl
  simp only [Act.put, List.getElem_toArray, List.getElem_cons_zero, List.getElem_cons_succ, List.setIfInBounds_toArray, List.set_cons_zero, List.set_cons_succ]
  refine anyL_ready (rs := [2]) (by kernel_rfl) (by simp) ?_
  refine AllL.cons rfl (fun K hK => ?_) AllL.nil
  go_simp
  have HI2 := hide ((unhide HI1).kpf (unhide HKI) (fun _ _ e => e))
  have HPA := hide ((unhide HP).kpf (unhide HK0) (fun _ _ e => e))
  have hc2 : W0.heap.size ≤ W1.drew.heap.size := Nat.le_trans hcw (unhide HKI).size
  refine (ForgetQ_at _ F g p (unhide HPA) ).mono ?_
  rintro y w3 ⟨rfl, G, i3, g3⟩
  dsimp only
  have HI3 := hide i3
  have HG3 := hide g3
  have HX2 := HK0
  have NA := hide ((unhide HA).kpf g3.kp (fun e => by have := unhide HFL _ e; omega))
  have NO := hide ((unhide HO).kpf g3.kp (fun e => by have := unhide HFL _ e; omega))
  have NR := hide ((unhide HR).kpf g3.kp (fun e => by have := unhide HFL _ e; omega))
  have NT := hide ((unhide HT).kpf g3.kp (fun e => by have := unhide HFL _ e; omega))
  clear HA HO HR HT HK0 HKI
  have HA := NA
  have HO := NO
  have HR := NR
  have HT := NT
  clear NA NO NR NT
  have HK1 := hide (KpF.refl (fun i => X.heap.size ≤ i ∧ i < W0.heap.size) w3)
  clear i3 g3
  have HS3 : Hid (w3.cell? ⟨w1.heap.size, 0, none⟩ = some (.bool false) ∧ w3.cell? ⟨w1.heap.size, 1, none⟩ = some (.int .i64 ((forgetP p).1).s) ∧ w3.cell? ⟨w1.heap.size, 2, none⟩ = some (.int .i64 ((forgetP p).1).m) ∧ w3.cell? ⟨w1.heap.size, 3, none⟩ = some (.slice bA1 bN1 bC1) ∧ w3.cell? ⟨w1.heap.size, 4, none⟩ = some (.slice aA1 aN1 aC1) ∧ w3.cell? ⟨w1.heap.size, 5, none⟩ = some (.bool oS1) ∧ w3.cell? ⟨w1.heap.size, 6, none⟩ = some (.string w01) ∧ w3.cell? ⟨w1.heap.size, 7, none⟩ = some (.int .i64 f01) ∧ w3.cell? ⟨w1.heap.size, 8, none⟩ = some (.bool d01)) := hide ⟨((unhide HT).cell 0).trans rfl, ((unhide HT).cell 1).trans rfl, ((unhide HT).cell 2).trans rfl, ((unhide HT).cell 3).trans rfl, ((unhide HT).cell 4).trans rfl, ((unhide HT).cell 5).trans rfl, ((unhide HT).cell 6).trans rfl, ((unhide HT).cell 7).trans rfl, ((unhide HT).cell 8).trans rfl⟩
  refine unhide hK _ _ (fun _ => unhide HS3) ?_
  clear hK K
  refine anyL_take (i := 4) (v := ?vq47) rfl (by kernel_rfl) (by kernel_rfl) (by kernel_rfl) (by kernel_rfl) (fun _ _ _ h => h) (Or.inl ⟨by rfl, ?hq47⟩) (unhide HS3) ?_
  case hq47 => (intro w hSw; (try dsimp only at hSw); go_simp) <;> with_reducible rfl
  simp only [Act.put, List.getElem_toArray, List.getElem_cons_zero, List.getElem_cons_succ, List.setIfInBounds_toArray, List.set_cons_zero, List.set_cons_succ]
  refine anyL_ready (rs := [5]) (by kernel_rfl) (by simp) ?_
  refine AllL.cons rfl (fun K hK => ?_) AllL.nil
  have r_R0 : w3.cell? ⟨X.heap.size + 1 + 1, 0, none⟩ = some (.bool false) := ((unhide HR).cell 0).trans rfl
  have r_R1 : w3.cell? ⟨X.heap.size + 1 + 1, 1, none⟩ = some (.int .i64 0) := ((unhide HR).cell 1).trans rfl
  have r_R2 : w3.cell? ⟨X.heap.size + 1 + 1, 2, none⟩ = some (.int .i64 0) := ((unhide HR).cell 2).trans rfl
  have r_R3 : w3.cell? ⟨X.heap.size + 1 + 1, 3, none⟩ = some (.slice none 0 0) := ((unhide HR).cell 3).trans rfl
  have r_R4 : w3.cell? ⟨X.heap.size + 1 + 1, 4, none⟩ = some (.slice none 0 0) := ((unhide HR).cell 4).trans rfl
  have r_R5 : w3.cell? ⟨X.heap.size + 1 + 1, 5, none⟩ = some (.bool false) := ((unhide HR).cell 5).trans rfl
  have r_R6 : w3.cell? ⟨X.heap.size + 1 + 1, 6, none⟩ = some (.string ⟨#[]⟩) := ((unhide HR).cell 6).trans rfl
  have r_R7 : w3.cell? ⟨X.heap.size + 1 + 1, 7, none⟩ = some (.int .i64 0) := ((unhide HR).cell 7).trans rfl
  have r_R8 : w3.cell? ⟨X.heap.size + 1 + 1, 8, none⟩ = some (.bool false) := ((unhide HR).cell 8).trans rfl
  have zr_R0 : w3.frozen? ⟨X.heap.size + 1 + 1, 0, none⟩ = false := (unhide HR).frozen 0
  have zr_R1 : w3.frozen? ⟨X.heap.size + 1 + 1, 1, none⟩ = false := (unhide HR).frozen 1
  have zr_R2 : w3.frozen? ⟨X.heap.size + 1 + 1, 2, none⟩ = false := (unhide HR).frozen 2
  have zr_R3 : w3.frozen? ⟨X.heap.size + 1 + 1, 3, none⟩ = false := (unhide HR).frozen 3
  have zr_R4 : w3.frozen? ⟨X.heap.size + 1 + 1, 4, none⟩ = false := (unhide HR).frozen 4
  have zr_R5 : w3.frozen? ⟨X.heap.size + 1 + 1, 5, none⟩ = false := (unhide HR).frozen 5
  have zr_R6 : w3.frozen? ⟨X.heap.size + 1 + 1, 6, none⟩ = false := (unhide HR).frozen 6
  have zr_R7 : w3.frozen? ⟨X.heap.size + 1 + 1, 7, none⟩ = false := (unhide HR).frozen 7
  have zr_R8 : w3.frozen? ⟨X.heap.size + 1 + 1, 8, none⟩ = false := (unhide HR).frozen 8
  go_simp
  have NA : Hid (Cls (((((((((w3.setCell ⟨X.heap.size + 1 + 1, 0, none⟩ (.bool false)).setCell ⟨X.heap.size + 1 + 1, 1, none⟩ (.int .i64 ((forgetP p).1).s)).setCell ⟨X.heap.size + 1 + 1, 2, none⟩ (.int .i64 ((forgetP p).1).m)).setCell ⟨X.heap.size + 1 + 1, 3, none⟩ (.slice bA1 bN1 bC1)).setCell ⟨X.heap.size + 1 + 1, 4, none⟩ (.slice aA1 aN1 aC1)).setCell ⟨X.heap.size + 1 + 1, 5, none⟩ (.bool oS1)).setCell ⟨X.heap.size + 1 + 1, 6, none⟩ (.string w01)).setCell ⟨X.heap.size + 1 + 1, 7, none⟩ (.int .i64 f01)).setCell ⟨X.heap.size + 1 + 1, 8, none⟩ (.bool d01)) (X.heap.size) 44 #[.bool false, .int .i64 p.s, .int .i64 p.m, .slice bA bN bC, .slice aA aN aC, .bool oS, .string w0, .int .i64 f0, .bool d0]) := hide (by simpa using (((((((((unhide HA).other ⟨X.heap.size + 1 + 1, 0, none⟩ (.bool false) (by dsimp only; omega)).other ⟨X.heap.size + 1 + 1, 1, none⟩ (.int .i64 ((forgetP p).1).s) (by dsimp only; omega)).other ⟨X.heap.size + 1 + 1, 2, none⟩ (.int .i64 ((forgetP p).1).m) (by dsimp only; omega)).other ⟨X.heap.size + 1 + 1, 3, none⟩ (.slice bA1 bN1 bC1) (by dsimp only; omega)).other ⟨X.heap.size + 1 + 1, 4, none⟩ (.slice aA1 aN1 aC1) (by dsimp only; omega)).other ⟨X.heap.size + 1 + 1, 5, none⟩ (.bool oS1) (by dsimp only; omega)).other ⟨X.heap.size + 1 + 1, 6, none⟩ (.string w01) (by dsimp only; omega)).other ⟨X.heap.size + 1 + 1, 7, none⟩ (.int .i64 f01) (by dsimp only; omega)).other ⟨X.heap.size + 1 + 1, 8, none⟩ (.bool d01) (by dsimp only; omega))
  have NO : Hid (Cls (((((((((w3.setCell ⟨X.heap.size + 1 + 1, 0, none⟩ (.bool false)).setCell ⟨X.heap.size + 1 + 1, 1, none⟩ (.int .i64 ((forgetP p).1).s)).setCell ⟨X.heap.size + 1 + 1, 2, none⟩ (.int .i64 ((forgetP p).1).m)).setCell ⟨X.heap.size + 1 + 1, 3, none⟩ (.slice bA1 bN1 bC1)).setCell ⟨X.heap.size + 1 + 1, 4, none⟩ (.slice aA1 aN1 aC1)).setCell ⟨X.heap.size + 1 + 1, 5, none⟩ (.bool oS1)).setCell ⟨X.heap.size + 1 + 1, 6, none⟩ (.string w01)).setCell ⟨X.heap.size + 1 + 1, 7, none⟩ (.int .i64 f01)).setCell ⟨X.heap.size + 1 + 1, 8, none⟩ (.bool d01)) (X.heap.size + 1) 48 #[.int .i64 6, .int .i64 n, .string w]) := hide (by simpa using (((((((((unhide HO).other ⟨X.heap.size + 1 + 1, 0, none⟩ (.bool false) (by dsimp only; omega)).other ⟨X.heap.size + 1 + 1, 1, none⟩ (.int .i64 ((forgetP p).1).s) (by dsimp only; omega)).other ⟨X.heap.size + 1 + 1, 2, none⟩ (.int .i64 ((forgetP p).1).m) (by dsimp only; omega)).other ⟨X.heap.size + 1 + 1, 3, none⟩ (.slice bA1 bN1 bC1) (by dsimp only; omega)).other ⟨X.heap.size + 1 + 1, 4, none⟩ (.slice aA1 aN1 aC1) (by dsimp only; omega)).other ⟨X.heap.size + 1 + 1, 5, none⟩ (.bool oS1) (by dsimp only; omega)).other ⟨X.heap.size + 1 + 1, 6, none⟩ (.string w01) (by dsimp only; omega)).other ⟨X.heap.size + 1 + 1, 7, none⟩ (.int .i64 f01) (by dsimp only; omega)).other ⟨X.heap.size + 1 + 1, 8, none⟩ (.bool d01) (by dsimp only; omega))
  have NR : Hid (Cls (((((((((w3.setCell ⟨X.heap.size + 1 + 1, 0, none⟩ (.bool false)).setCell ⟨X.heap.size + 1 + 1, 1, none⟩ (.int .i64 ((forgetP p).1).s)).setCell ⟨X.heap.size + 1 + 1, 2, none⟩ (.int .i64 ((forgetP p).1).m)).setCell ⟨X.heap.size + 1 + 1, 3, none⟩ (.slice bA1 bN1 bC1)).setCell ⟨X.heap.size + 1 + 1, 4, none⟩ (.slice aA1 aN1 aC1)).setCell ⟨X.heap.size + 1 + 1, 5, none⟩ (.bool oS1)).setCell ⟨X.heap.size + 1 + 1, 6, none⟩ (.string w01)).setCell ⟨X.heap.size + 1 + 1, 7, none⟩ (.int .i64 f01)).setCell ⟨X.heap.size + 1 + 1, 8, none⟩ (.bool d01)) (X.heap.size + 1 + 1) 44 #[.bool false, .int .i64 ((forgetP p).1).s, .int .i64 ((forgetP p).1).m, .slice bA1 bN1 bC1, .slice aA1 aN1 aC1, .bool oS1, .string w01, .int .i64 f01, .bool d01]) := hide (by simpa using (((((((((unhide HR).set 0 (.bool false)).set 1 (.int .i64 ((forgetP p).1).s)).set 2 (.int .i64 ((forgetP p).1).m)).set 3 (.slice bA1 bN1 bC1)).set 4 (.slice aA1 aN1 aC1)).set 5 (.bool oS1)).set 6 (.string w01)).set 7 (.int .i64 f01)).set 8 (.bool d01))
  have NT : Hid (Cls (((((((((w3.setCell ⟨X.heap.size + 1 + 1, 0, none⟩ (.bool false)).setCell ⟨X.heap.size + 1 + 1, 1, none⟩ (.int .i64 ((forgetP p).1).s)).setCell ⟨X.heap.size + 1 + 1, 2, none⟩ (.int .i64 ((forgetP p).1).m)).setCell ⟨X.heap.size + 1 + 1, 3, none⟩ (.slice bA1 bN1 bC1)).setCell ⟨X.heap.size + 1 + 1, 4, none⟩ (.slice aA1 aN1 aC1)).setCell ⟨X.heap.size + 1 + 1, 5, none⟩ (.bool oS1)).setCell ⟨X.heap.size + 1 + 1, 6, none⟩ (.string w01)).setCell ⟨X.heap.size + 1 + 1, 7, none⟩ (.int .i64 f01)).setCell ⟨X.heap.size + 1 + 1, 8, none⟩ (.bool d01)) (w1.heap.size) 44 #[.bool false, .int .i64 ((forgetP p).1).s, .int .i64 ((forgetP p).1).m, .slice bA1 bN1 bC1, .slice aA1 aN1 aC1, .bool oS1, .string w01, .int .i64 f01, .bool d01]) := hide (by simpa using (((((((((unhide HT).other ⟨X.heap.size + 1 + 1, 0, none⟩ (.bool false) (by dsimp only; omega)).other ⟨X.heap.size + 1 + 1, 1, none⟩ (.int .i64 ((forgetP p).1).s) (by dsimp only; omega)).other ⟨X.heap.size + 1 + 1, 2, none⟩ (.int .i64 ((forgetP p).1).m) (by dsimp only; omega)).other ⟨X.heap.size + 1 + 1, 3, none⟩ (.slice bA1 bN1 bC1) (by dsimp only; omega)).other ⟨X.heap.size + 1 + 1, 4, none⟩ (.slice aA1 aN1 aC1) (by dsimp only; omega)).other ⟨X.heap.size + 1 + 1, 5, none⟩ (.bool oS1) (by dsimp only; omega)).other ⟨X.heap.size + 1 + 1, 6, none⟩ (.string w01) (by dsimp only; omega)).other ⟨X.heap.size + 1 + 1, 7, none⟩ (.int .i64 f01) (by dsimp only; omega)).other ⟨X.heap.size + 1 + 1, 8, none⟩ (.bool d01) (by dsimp only; omega))
  have NHK1 := hide ((((((((((unhide HK1).upd ⟨X.heap.size + 1 + 1, 0, none⟩ (.bool false) (.inl ⟨by dsimp only; omega, by dsimp only; omega⟩)).upd ⟨X.heap.size + 1 + 1, 1, none⟩ (.int .i64 ((forgetP p).1).s) (.inl ⟨by dsimp only; omega, by dsimp only; omega⟩)).upd ⟨X.heap.size + 1 + 1, 2, none⟩ (.int .i64 ((forgetP p).1).m) (.inl ⟨by dsimp only; omega, by dsimp only; omega⟩)).upd ⟨X.heap.size + 1 + 1, 3, none⟩ (.slice bA1 bN1 bC1) (.inl ⟨by dsimp only; omega, by dsimp only; omega⟩)).upd ⟨X.heap.size + 1 + 1, 4, none⟩ (.slice aA1 aN1 aC1) (.inl ⟨by dsimp only; omega, by dsimp only; omega⟩)).upd ⟨X.heap.size + 1 + 1, 5, none⟩ (.bool oS1) (.inl ⟨by dsimp only; omega, by dsimp only; omega⟩)).upd ⟨X.heap.size + 1 + 1, 6, none⟩ (.string w01) (.inl ⟨by dsimp only; omega, by dsimp only; omega⟩)).upd ⟨X.heap.size + 1 + 1, 7, none⟩ (.int .i64 f01) (.inl ⟨by dsimp only; omega, by dsimp only; omega⟩)).upd ⟨X.heap.size + 1 + 1, 8, none⟩ (.bool d01) (.inl ⟨by dsimp only; omega, by dsimp only; omega⟩))
  clear HA HO HR HT HK1
  generalize (((((((((w3.setCell ⟨X.heap.size + 1 + 1, 0, none⟩ (.bool false)).setCell ⟨X.heap.size + 1 + 1, 1, none⟩ (.int .i64 ((forgetP p).1).s)).setCell ⟨X.heap.size + 1 + 1, 2, none⟩ (.int .i64 ((forgetP p).1).m)).setCell ⟨X.heap.size + 1 + 1, 3, none⟩ (.slice bA1 bN1 bC1)).setCell ⟨X.heap.size + 1 + 1, 4, none⟩ (.slice aA1 aN1 aC1)).setCell ⟨X.heap.size + 1 + 1, 5, none⟩ (.bool oS1)).setCell ⟨X.heap.size + 1 + 1, 6, none⟩ (.string w01)).setCell ⟨X.heap.size + 1 + 1, 7, none⟩ (.int .i64 f01)).setCell ⟨X.heap.size + 1 + 1, 8, none⟩ (.bool d01)) = W2 at *
  have HA := NA
  have HO := NO
  have HR := NR
  have HT := NT
  have HK1 := NHK1
  clear NA NO NR NT NHK1
  have HS4 : Hid (W2.cell? ⟨w1.heap.size, 0, none⟩ = some (.bool false) ∧ W2.cell? ⟨w1.heap.size, 1, none⟩ = some (.int .i64 ((forgetP p).1).s) ∧ W2.cell? ⟨w1.heap.size, 2, none⟩ = some (.int .i64 ((forgetP p).1).m) ∧ W2.cell? ⟨w1.heap.size, 3, none⟩ = some (.slice bA1 bN1 bC1) ∧ W2.cell? ⟨w1.heap.size, 4, none⟩ = some (.slice aA1 aN1 aC1) ∧ W2.cell? ⟨w1.heap.size, 5, none⟩ = some (.bool oS1) ∧ W2.cell? ⟨w1.heap.size, 6, none⟩ = some (.string w01) ∧ W2.cell? ⟨w1.heap.size, 7, none⟩ = some (.int .i64 f01) ∧ W2.cell? ⟨w1.heap.size, 8, none⟩ = some (.bool d01)) := hide ⟨((unhide HT).cell 0).trans rfl, ((unhide HT).cell 1).trans rfl, ((unhide HT).cell 2).trans rfl, ((unhide HT).cell 3).trans rfl, ((unhide HT).cell 4).trans rfl, ((unhide HT).cell 5).trans rfl, ((unhide HT).cell 6).trans rfl, ((unhide HT).cell 7).trans rfl, ((unhide HT).cell 8).trans rfl⟩
  refine unhide hK _ _ (fun _ => unhide HS4) ?_
  clear hK K
  refine anyL_take (i := 6) (v := ?vq48) rfl (by kernel_rfl) (by kernel_rfl) (by kernel_rfl) (by kernel_rfl) (fun _ _ _ h => h) (Or.inl ⟨by rfl, ?hq48⟩) (unhide HS4) ?_
  case hq48 => (intro w hSw; (try dsimp only at hSw); go_simp) <;> with_reducible rfl
  simp only [Act.put, List.getElem_toArray, List.getElem_cons_zero, List.getElem_cons_succ, List.setIfInBounds_toArray, List.set_cons_zero, List.set_cons_succ]
  refine anyL_done (by kernel_rfl) ?_ _
  have q0 : W2.cell? ⟨X.heap.size + 1 + 1, 0, none⟩ = some (.bool false) := ((unhide HR).cell 0).trans rfl
  have q1 : W2.cell? ⟨X.heap.size + 1 + 1, 1, none⟩ = some (.int .i64 ((forgetP p).1).s) := ((unhide HR).cell 1).trans rfl
  have q2 : W2.cell? ⟨X.heap.size + 1 + 1, 2, none⟩ = some (.int .i64 ((forgetP p).1).m) := ((unhide HR).cell 2).trans rfl
  have q3 : W2.cell? ⟨X.heap.size + 1 + 1, 3, none⟩ = some (.slice bA1 bN1 bC1) := ((unhide HR).cell 3).trans rfl
  have q4 : W2.cell? ⟨X.heap.size + 1 + 1, 4, none⟩ = some (.slice aA1 aN1 aC1) := ((unhide HR).cell 4).trans rfl
  have q5 : W2.cell? ⟨X.heap.size + 1 + 1, 5, none⟩ = some (.bool oS1) := ((unhide HR).cell 5).trans rfl
  have q6 : W2.cell? ⟨X.heap.size + 1 + 1, 6, none⟩ = some (.string w01) := ((unhide HR).cell 6).trans rfl
  have q7 : W2.cell? ⟨X.heap.size + 1 + 1, 7, none⟩ = some (.int .i64 f01) := ((unhide HR).cell 7).trans rfl
  have q8 : W2.cell? ⟨X.heap.size + 1 + 1, 8, none⟩ = some (.bool d01) := ((unhide HR).cell 8).trans rfl
  go_wp2_with fail
  refine bodyPost_ret (v := .tuple #[.agg #[.bool false, .int .i64 ((forgetP p).1).s, .int .i64 ((forgetP p).1).m, .slice bA1 bN1 bC1, .slice aA1 aN1 aC1, .bool oS1, .string w01, .int .i64 f01, .bool d01], .bool true]) (by simp [results, Try.results21, go_sem, q0, q1, q2, q3, q4, q5, q6, q7, q8]) rfl ?_
  obtain ⟨z1, z2, z3, z4, z5⟩ := stepEndQ (unhide HFL) (unhide HD).lt (unhide HDJ) (unhide HX2) (by omega) hc2 (unhide HI2) (unhide HN1) (unhide HG3) (unhide HI3) (unhide HK1)
  exact ⟨_, D1, G, rfl, z1, z2, z3, z4, z5⟩
set_option maxRecDepth 100000 in
set_option maxHeartbeats 4000000 in
theorem step6BQ_at (X : World) (n : Int) (w : ByteArray) :
    Calls Try.prog 21 #[.pointer none, .agg cBad, .agg #[.int .i64 6, .int .i64 n, .string w], .func (.func 8) #[] #[]] X fun y Y => y = .returned (.tuple #[.agg cBad, .bool true]) ∧ Below X.heap.size X Y := by
  unfold cBad
  have HA : Hid (Cls (((X.alloc (.cells #[.bool true, .int .i64 0, .int .i64 0, .slice none 0 0, .slice none 0 0, .bool false, .string ⟨#[]⟩, .int .i64 0, .bool false] 44)).alloc (.cells #[.int .i64 6, .int .i64 n, .string w] 48)).alloc (.cells #[.bool false, .int .i64 0, .int .i64 0, .slice none 0 0, .slice none 0 0, .bool false, .string ⟨#[]⟩, .int .i64 0, .bool false] 44)) (X.heap.size) 44 #[.bool true, .int .i64 0, .int .i64 0, .slice none 0 0, .slice none 0 0, .bool false, .string ⟨#[]⟩, .int .i64 0, .bool false]) := hide (by simpa using ((Cls.new X 44 #[.bool true, .int .i64 0, .int .i64 0, .slice none 0 0, .slice none 0 0, .bool false, .string ⟨#[]⟩, .int .i64 0, .bool false]).alloc (.cells #[.int .i64 6, .int .i64 n, .string w] 48)).alloc (.cells #[.bool false, .int .i64 0, .int .i64 0, .slice none 0 0, .slice none 0 0, .bool false, .string ⟨#[]⟩, .int .i64 0, .bool false] 44))
  have HO : Hid (Cls (((X.alloc (.cells #[.bool true, .int .i64 0, .int .i64 0, .slice none 0 0, .slice none 0 0, .bool false, .string ⟨#[]⟩, .int .i64 0, .bool false] 44)).alloc (.cells #[.int .i64 6, .int .i64 n, .string w] 48)).alloc (.cells #[.bool false, .int .i64 0, .int .i64 0, .slice none 0 0, .slice none 0 0, .bool false, .string ⟨#[]⟩, .int .i64 0, .bool false] 44)) (X.heap.size + 1) 48 #[.int .i64 6, .int .i64 n, .string w]) := hide (by simpa using (Cls.new (X.alloc (.cells #[.bool true, .int .i64 0, .int .i64 0, .slice none 0 0, .slice none 0 0, .bool false, .string ⟨#[]⟩, .int .i64 0, .bool false] 44)) 48 #[.int .i64 6, .int .i64 n, .string w]).alloc (.cells #[.bool false, .int .i64 0, .int .i64 0, .slice none 0 0, .slice none 0 0, .bool false, .string ⟨#[]⟩, .int .i64 0, .bool false] 44))
  have HR : Hid (Cls (((X.alloc (.cells #[.bool true, .int .i64 0, .int .i64 0, .slice none 0 0, .slice none 0 0, .bool false, .string ⟨#[]⟩, .int .i64 0, .bool false] 44)).alloc (.cells #[.int .i64 6, .int .i64 n, .string w] 48)).alloc (.cells #[.bool false, .int .i64 0, .int .i64 0, .slice none 0 0, .slice none 0 0, .bool false, .string ⟨#[]⟩, .int .i64 0, .bool false] 44)) (X.heap.size + 1 + 1) 44 #[.bool false, .int .i64 0, .int .i64 0, .slice none 0 0, .slice none 0 0, .bool false, .string ⟨#[]⟩, .int .i64 0, .bool false]) := hide (by simpa using Cls.new ((X.alloc (.cells #[.bool true, .int .i64 0, .int .i64 0, .slice none 0 0, .slice none 0 0, .bool false, .string ⟨#[]⟩, .int .i64 0, .bool false] 44)).alloc (.cells #[.int .i64 6, .int .i64 n, .string w] 48)) 44 #[.bool false, .int .i64 0, .int .i64 0, .slice none 0 0, .slice none 0 0, .bool false, .string ⟨#[]⟩, .int .i64 0, .bool false])
  have HK0 : Hid (KpF (fun _ => False) X (((X.alloc (.cells #[.bool true, .int .i64 0, .int .i64 0, .slice none 0 0, .slice none 0 0, .bool false, .string ⟨#[]⟩, .int .i64 0, .bool false] 44)).alloc (.cells #[.int .i64 6, .int .i64 n, .string w] 48)).alloc (.cells #[.bool false, .int .i64 0, .int .i64 0, .slice none 0 0, .slice none 0 0, .bool false, .string ⟨#[]⟩, .int .i64 0, .bool false] 44))) := hide ((((KpF.refl (fun _ => False) X).al _).al _).al _)
  go_enter Try.func21, Try.ntmps21
  go_upto_region 1 with fail
  generalize (((X.alloc (.cells #[.bool true, .int .i64 0, .int .i64 0, .slice none 0 0, .slice none 0 0, .bool false, .string ⟨#[]⟩, .int .i64 0, .bool false] 44)).alloc (.cells #[.int .i64 6, .int .i64 n, .string w] 48)).alloc (.cells #[.bool false, .int .i64 0, .int .i64 0, .slice none 0 0, .slice none 0 0, .bool false, .string ⟨#[]⟩, .int .i64 0, .bool false] 44)) = W0 at *
  have hltc : X.heap.size + 1 + 1 < W0.heap.size := (unhide HR).lt
  have HC := hide (RForgetB_at W0 )
  unfold cBad at HC
  have c_A0 : W0.cell? ⟨X.heap.size, 0, none⟩ = some (.bool true) := ((unhide HA).cell 0).trans rfl
  have c_A1 : W0.cell? ⟨X.heap.size, 1, none⟩ = some (.int .i64 0) := ((unhide HA).cell 1).trans rfl
  have c_A2 : W0.cell? ⟨X.heap.size, 2, none⟩ = some (.int .i64 0) := ((unhide HA).cell 2).trans rfl
  have c_A3 : W0.cell? ⟨X.heap.size, 3, none⟩ = some (.slice none 0 0) := ((unhide HA).cell 3).trans rfl
  have c_A4 : W0.cell? ⟨X.heap.size, 4, none⟩ = some (.slice none 0 0) := ((unhide HA).cell 4).trans rfl
  have c_A5 : W0.cell? ⟨X.heap.size, 5, none⟩ = some (.bool false) := ((unhide HA).cell 5).trans rfl
  have c_A6 : W0.cell? ⟨X.heap.size, 6, none⟩ = some (.string ⟨#[]⟩) := ((unhide HA).cell 6).trans rfl
  have c_A7 : W0.cell? ⟨X.heap.size, 7, none⟩ = some (.int .i64 0) := ((unhide HA).cell 7).trans rfl
  have c_A8 : W0.cell? ⟨X.heap.size, 8, none⟩ = some (.bool false) := ((unhide HA).cell 8).trans rfl
  have c_O0 : W0.cell? ⟨X.heap.size + 1, 0, none⟩ = some (.int .i64 6) := ((unhide HO).cell 0).trans rfl
  have c_O1 : W0.cell? ⟨X.heap.size + 1, 1, none⟩ = some (.int .i64 n) := ((unhide HO).cell 1).trans rfl
  have c_O2 : W0.cell? ⟨X.heap.size + 1, 2, none⟩ = some (.string w) := ((unhide HO).cell 2).trans rfl
  go_wp2_with fail
  refine (unhide HC).mono ?_
  rintro y w1 ⟨rfl, x1⟩
  dsimp only
  clear HC
  clear c_A0 c_A1 c_A2 c_A3 c_A4 c_A5 c_A6 c_A7 c_A8 c_O0 c_O1 c_O2
  have hcw : W0.heap.size ≤ w1.heap.size := x1.size
  have HX1 := hide x1
  have NA := hide ((unhide HA).kpf (KpF.of (F := fun _ => False) (unhide HX1)) (fun e => e))
  have NO := hide ((unhide HO).kpf (KpF.of (F := fun _ => False) (unhide HX1)) (fun e => e))
  have NR := hide ((unhide HR).kpf (KpF.of (F := fun _ => False) (unhide HX1)) (fun e => e))
  have NHK0 := hide ((unhide HK0).bel (unhide HX1))
  clear HA HO HR HK0
  have HA := NA
  have HO := NO
  have HR := NR
  have HK0 := NHK0
  clear NA NO NR NHK0
  clear x1
  have hgeT : X.heap.size + 1 + 1 < w1.heap.size := (unhide HR).lt
  have NA := hide ((unhide HA).alloc (.cells #[.bool true, .int .i64 0, .int .i64 0, .slice none 0 0, .slice none 0 0, .bool false, .string ⟨#[]⟩, .int .i64 0, .bool false] 44))
  have NO := hide ((unhide HO).alloc (.cells #[.bool true, .int .i64 0, .int .i64 0, .slice none 0 0, .slice none 0 0, .bool false, .string ⟨#[]⟩, .int .i64 0, .bool false] 44))
  have NR := hide ((unhide HR).alloc (.cells #[.bool true, .int .i64 0, .int .i64 0, .slice none 0 0, .slice none 0 0, .bool false, .string ⟨#[]⟩, .int .i64 0, .bool false] 44))
  have NT := hide (Cls.new w1 44 #[.bool true, .int .i64 0, .int .i64 0, .slice none 0 0, .slice none 0 0, .bool false, .string ⟨#[]⟩, .int .i64 0, .bool false])
  have NHK0 := hide ((unhide HK0).al (.cells #[.bool true, .int .i64 0, .int .i64 0, .slice none 0 0, .slice none 0 0, .bool false, .string ⟨#[]⟩, .int .i64 0, .bool false] 44))
  clear HA HO HR HK0
  go_upto_region 31 with fail
  generalize (w1.alloc (.cells #[.bool true, .int .i64 0, .int .i64 0, .slice none 0 0, .slice none 0 0, .bool false, .string ⟨#[]⟩, .int .i64 0, .bool false] 44)) = W1 at *
  have HA := NA
  have HO := NO
  have HR := NR
  have HT := NT
  have HK0 := NHK0
  clear NA NO NR NT NHK0
  have NA := hide ((unhide HA).kpf (kpf_drew W1) (fun e => e))
  have NO := hide ((unhide HO).kpf (kpf_drew W1) (fun e => e))
  have NR := hide ((unhide HR).kpf (kpf_drew W1) (fun e => e))
  have NT := hide ((unhide HT).kpf (kpf_drew W1) (fun e => e))
  have NHK0 := hide ((unhide HK0).trans (kpf_drew W1) (fun _ _ e => e))
  clear HA HO HR HT HK0
  have HA := NA
  have HO := NO
  have HR := NR
  have HT := NT
  have HK0 := NHK0
  clear NA NO NR NT NHK0
  have HS0 : Hid (W1.drew.cell? ⟨w1.heap.size, 0, none⟩ = some (.bool true) ∧ W1.drew.cell? ⟨w1.heap.size, 1, none⟩ = some (.int .i64 0) ∧ W1.drew.cell? ⟨w1.heap.size, 2, none⟩ = some (.int .i64 0) ∧ W1.drew.cell? ⟨w1.heap.size, 3, none⟩ = some (.slice none 0 0) ∧ W1.drew.cell? ⟨w1.heap.size, 4, none⟩ = some (.slice none 0 0) ∧ W1.drew.cell? ⟨w1.heap.size, 5, none⟩ = some (.bool false) ∧ W1.drew.cell? ⟨w1.heap.size, 6, none⟩ = some (.string ⟨#[]⟩) ∧ W1.drew.cell? ⟨w1.heap.size, 7, none⟩ = some (.int .i64 0) ∧ W1.drew.cell? ⟨w1.heap.size, 8, none⟩ = some (.bool false)) := hide ⟨((unhide HT).cell 0).trans rfl, ((unhide HT).cell 1).trans rfl, ((unhide HT).cell 2).trans rfl, ((unhide HT).cell 3).trans rfl, ((unhide HT).cell 4).trans rfl, ((unhide HT).cell 5).trans rfl, ((unhide HT).cell 6).trans rfl, ((unhide HT).cell 7).trans rfl, ((unhide HT).cell 8).trans rfl⟩
  refine regionL (S := fun z => z.cell? ⟨w1.heap.size, 0, none⟩ = some (.bool true) ∧ z.cell? ⟨w1.heap.size, 1, none⟩ = some (.int .i64 0) ∧ z.cell? ⟨w1.heap.size, 2, none⟩ = some (.int .i64 0) ∧ z.cell? ⟨w1.heap.size, 3, none⟩ = some (.slice none 0 0) ∧ z.cell? ⟨w1.heap.size, 4, none⟩ = some (.slice none 0 0) ∧ z.cell? ⟨w1.heap.size, 5, none⟩ = some (.bool false) ∧ z.cell? ⟨w1.heap.size, 6, none⟩ = some (.string ⟨#[]⟩) ∧ z.cell? ⟨w1.heap.size, 7, none⟩ = some (.int .i64 0) ∧ z.cell? ⟨w1.heap.size, 8, none⟩ = some (.bool false)) (fun _ => false) (by kernel_rfl) ?_
  refine anyL_take (i := 0) (v := ?vq49) rfl (by kernel_rfl) (by kernel_rfl) (by kernel_rfl) (by kernel_rfl) (fun _ _ _ h => h) (Or.inl ⟨by rfl, ?hq49⟩) (unhide HS0) ?_
  case hq49 => (intro w hSw; (try dsimp only at hSw); go_simp) <;> with_reducible rfl
  simp only [Act.put, List.getElem_toArray, List.getElem_cons_zero, List.setIfInBounds_toArray, List.set_cons_zero, List.set_cons_succ]
  refine anyL_take (i := 1) (v := ?vq50) rfl (by kernel_rfl) (by kernel_rfl) (by kernel_rfl) (by kernel_rfl) (fun _ _ _ h => h) (Or.inl ⟨by rfl, ?hq50⟩) (unhide HS0) ?_
  case hq50 => (intro w hSw; (try dsimp only at hSw); go_simp) <;> with_reducible rfl
  simp only [Act.put, List.getElem_toArray, List.getElem_cons_zero, List.getElem_cons_succ, List.setIfInBounds_toArray, List.set_cons_zero, List.set_cons_succ]
  refine anyL_take (i := 3) (v := ?vq51) rfl (by kernel_rfl) (by kernel_rfl) (by kernel_rfl) (by kernel_rfl) (fun _ _ _ h => h) (Or.inl ⟨by rfl, ?hq51⟩) (unhide HS0) ?_
  case hq51 => (intro w hSw; (try dsimp only at hSw); go_simp) <;> with_reducible rfl
  simp only [Act.put, List.getElem_toArray, List.getElem_cons_zero, List.getElem_cons_succ, List.setIfInBounds_toArray, List.set_cons_zero, List.set_cons_succ]
  refine anyL_ready (rs := [2]) (by kernel_rfl) (by simp) ?_
  refine AllL.cons rfl (fun K hK => ?_) AllL.nil
  go_simp
  refine (ForgetNQ_at _ ).mono ?_
  rintro y _ ⟨rfl, rfl⟩
  dsimp only
  generalize W1.drew = w3 at *
  have HS3 : Hid (w3.cell? ⟨w1.heap.size, 0, none⟩ = some (.bool true) ∧ w3.cell? ⟨w1.heap.size, 1, none⟩ = some (.int .i64 0) ∧ w3.cell? ⟨w1.heap.size, 2, none⟩ = some (.int .i64 0) ∧ w3.cell? ⟨w1.heap.size, 3, none⟩ = some (.slice none 0 0) ∧ w3.cell? ⟨w1.heap.size, 4, none⟩ = some (.slice none 0 0) ∧ w3.cell? ⟨w1.heap.size, 5, none⟩ = some (.bool false) ∧ w3.cell? ⟨w1.heap.size, 6, none⟩ = some (.string ⟨#[]⟩) ∧ w3.cell? ⟨w1.heap.size, 7, none⟩ = some (.int .i64 0) ∧ w3.cell? ⟨w1.heap.size, 8, none⟩ = some (.bool false)) := hide ⟨((unhide HT).cell 0).trans rfl, ((unhide HT).cell 1).trans rfl, ((unhide HT).cell 2).trans rfl, ((unhide HT).cell 3).trans rfl, ((unhide HT).cell 4).trans rfl, ((unhide HT).cell 5).trans rfl, ((unhide HT).cell 6).trans rfl, ((unhide HT).cell 7).trans rfl, ((unhide HT).cell 8).trans rfl⟩
  refine unhide hK _ _ (fun _ => unhide HS3) ?_
  clear hK K
  refine anyL_take (i := 4) (v := ?vq52) rfl (by kernel_rfl) (by kernel_rfl) (by kernel_rfl) (by kernel_rfl) (fun _ _ _ h => h) (Or.inl ⟨by rfl, ?hq52⟩) (unhide HS3) ?_
  case hq52 => (intro w hSw; (try dsimp only at hSw); go_simp) <;> with_reducible rfl
  simp only [Act.put, List.getElem_toArray, List.getElem_cons_zero, List.getElem_cons_succ, List.setIfInBounds_toArray, List.set_cons_zero, List.set_cons_succ]
  refine anyL_ready (rs := [5]) (by kernel_rfl) (by simp) ?_
  refine AllL.cons rfl (fun K hK => ?_) AllL.nil
  have r_R0 : w3.cell? ⟨X.heap.size + 1 + 1, 0, none⟩ = some (.bool false) := ((unhide HR).cell 0).trans rfl
  have r_R1 : w3.cell? ⟨X.heap.size + 1 + 1, 1, none⟩ = some (.int .i64 0) := ((unhide HR).cell 1).trans rfl
  have r_R2 : w3.cell? ⟨X.heap.size + 1 + 1, 2, none⟩ = some (.int .i64 0) := ((unhide HR).cell 2).trans rfl
  have r_R3 : w3.cell? ⟨X.heap.size + 1 + 1, 3, none⟩ = some (.slice none 0 0) := ((unhide HR).cell 3).trans rfl
  have r_R4 : w3.cell? ⟨X.heap.size + 1 + 1, 4, none⟩ = some (.slice none 0 0) := ((unhide HR).cell 4).trans rfl
  have r_R5 : w3.cell? ⟨X.heap.size + 1 + 1, 5, none⟩ = some (.bool false) := ((unhide HR).cell 5).trans rfl
  have r_R6 : w3.cell? ⟨X.heap.size + 1 + 1, 6, none⟩ = some (.string ⟨#[]⟩) := ((unhide HR).cell 6).trans rfl
  have r_R7 : w3.cell? ⟨X.heap.size + 1 + 1, 7, none⟩ = some (.int .i64 0) := ((unhide HR).cell 7).trans rfl
  have r_R8 : w3.cell? ⟨X.heap.size + 1 + 1, 8, none⟩ = some (.bool false) := ((unhide HR).cell 8).trans rfl
  have zr_R0 : w3.frozen? ⟨X.heap.size + 1 + 1, 0, none⟩ = false := (unhide HR).frozen 0
  have zr_R1 : w3.frozen? ⟨X.heap.size + 1 + 1, 1, none⟩ = false := (unhide HR).frozen 1
  have zr_R2 : w3.frozen? ⟨X.heap.size + 1 + 1, 2, none⟩ = false := (unhide HR).frozen 2
  have zr_R3 : w3.frozen? ⟨X.heap.size + 1 + 1, 3, none⟩ = false := (unhide HR).frozen 3
  have zr_R4 : w3.frozen? ⟨X.heap.size + 1 + 1, 4, none⟩ = false := (unhide HR).frozen 4
  have zr_R5 : w3.frozen? ⟨X.heap.size + 1 + 1, 5, none⟩ = false := (unhide HR).frozen 5
  have zr_R6 : w3.frozen? ⟨X.heap.size + 1 + 1, 6, none⟩ = false := (unhide HR).frozen 6
  have zr_R7 : w3.frozen? ⟨X.heap.size + 1 + 1, 7, none⟩ = false := (unhide HR).frozen 7
  have zr_R8 : w3.frozen? ⟨X.heap.size + 1 + 1, 8, none⟩ = false := (unhide HR).frozen 8
  go_simp
  have NA : Hid (Cls (((((((((w3.setCell ⟨X.heap.size + 1 + 1, 0, none⟩ (.bool true)).setCell ⟨X.heap.size + 1 + 1, 1, none⟩ (.int .i64 0)).setCell ⟨X.heap.size + 1 + 1, 2, none⟩ (.int .i64 0)).setCell ⟨X.heap.size + 1 + 1, 3, none⟩ (.slice none 0 0)).setCell ⟨X.heap.size + 1 + 1, 4, none⟩ (.slice none 0 0)).setCell ⟨X.heap.size + 1 + 1, 5, none⟩ (.bool false)).setCell ⟨X.heap.size + 1 + 1, 6, none⟩ (.string ⟨#[]⟩)).setCell ⟨X.heap.size + 1 + 1, 7, none⟩ (.int .i64 0)).setCell ⟨X.heap.size + 1 + 1, 8, none⟩ (.bool false)) (X.heap.size) 44 #[.bool true, .int .i64 0, .int .i64 0, .slice none 0 0, .slice none 0 0, .bool false, .string ⟨#[]⟩, .int .i64 0, .bool false]) := hide (by simpa using (((((((((unhide HA).other ⟨X.heap.size + 1 + 1, 0, none⟩ (.bool true) (by dsimp only; omega)).other ⟨X.heap.size + 1 + 1, 1, none⟩ (.int .i64 0) (by dsimp only; omega)).other ⟨X.heap.size + 1 + 1, 2, none⟩ (.int .i64 0) (by dsimp only; omega)).other ⟨X.heap.size + 1 + 1, 3, none⟩ (.slice none 0 0) (by dsimp only; omega)).other ⟨X.heap.size + 1 + 1, 4, none⟩ (.slice none 0 0) (by dsimp only; omega)).other ⟨X.heap.size + 1 + 1, 5, none⟩ (.bool false) (by dsimp only; omega)).other ⟨X.heap.size + 1 + 1, 6, none⟩ (.string ⟨#[]⟩) (by dsimp only; omega)).other ⟨X.heap.size + 1 + 1, 7, none⟩ (.int .i64 0) (by dsimp only; omega)).other ⟨X.heap.size + 1 + 1, 8, none⟩ (.bool false) (by dsimp only; omega))
  have NO : Hid (Cls (((((((((w3.setCell ⟨X.heap.size + 1 + 1, 0, none⟩ (.bool true)).setCell ⟨X.heap.size + 1 + 1, 1, none⟩ (.int .i64 0)).setCell ⟨X.heap.size + 1 + 1, 2, none⟩ (.int .i64 0)).setCell ⟨X.heap.size + 1 + 1, 3, none⟩ (.slice none 0 0)).setCell ⟨X.heap.size + 1 + 1, 4, none⟩ (.slice none 0 0)).setCell ⟨X.heap.size + 1 + 1, 5, none⟩ (.bool false)).setCell ⟨X.heap.size + 1 + 1, 6, none⟩ (.string ⟨#[]⟩)).setCell ⟨X.heap.size + 1 + 1, 7, none⟩ (.int .i64 0)).setCell ⟨X.heap.size + 1 + 1, 8, none⟩ (.bool false)) (X.heap.size + 1) 48 #[.int .i64 6, .int .i64 n, .string w]) := hide (by simpa using (((((((((unhide HO).other ⟨X.heap.size + 1 + 1, 0, none⟩ (.bool true) (by dsimp only; omega)).other ⟨X.heap.size + 1 + 1, 1, none⟩ (.int .i64 0) (by dsimp only; omega)).other ⟨X.heap.size + 1 + 1, 2, none⟩ (.int .i64 0) (by dsimp only; omega)).other ⟨X.heap.size + 1 + 1, 3, none⟩ (.slice none 0 0) (by dsimp only; omega)).other ⟨X.heap.size + 1 + 1, 4, none⟩ (.slice none 0 0) (by dsimp only; omega)).other ⟨X.heap.size + 1 + 1, 5, none⟩ (.bool false) (by dsimp only; omega)).other ⟨X.heap.size + 1 + 1, 6, none⟩ (.string ⟨#[]⟩) (by dsimp only; omega)).other ⟨X.heap.size + 1 + 1, 7, none⟩ (.int .i64 0) (by dsimp only; omega)).other ⟨X.heap.size + 1 + 1, 8, none⟩ (.bool false) (by dsimp only; omega))
  have NR : Hid (Cls (((((((((w3.setCell ⟨X.heap.size + 1 + 1, 0, none⟩ (.bool true)).setCell ⟨X.heap.size + 1 + 1, 1, none⟩ (.int .i64 0)).setCell ⟨X.heap.size + 1 + 1, 2, none⟩ (.int .i64 0)).setCell ⟨X.heap.size + 1 + 1, 3, none⟩ (.slice none 0 0)).setCell ⟨X.heap.size + 1 + 1, 4, none⟩ (.slice none 0 0)).setCell ⟨X.heap.size + 1 + 1, 5, none⟩ (.bool false)).setCell ⟨X.heap.size + 1 + 1, 6, none⟩ (.string ⟨#[]⟩)).setCell ⟨X.heap.size + 1 + 1, 7, none⟩ (.int .i64 0)).setCell ⟨X.heap.size + 1 + 1, 8, none⟩ (.bool false)) (X.heap.size + 1 + 1) 44 #[.bool true, .int .i64 0, .int .i64 0, .slice none 0 0, .slice none 0 0, .bool false, .string ⟨#[]⟩, .int .i64 0, .bool false]) := hide (by simpa using (((((((((unhide HR).set 0 (.bool true)).set 1 (.int .i64 0)).set 2 (.int .i64 0)).set 3 (.slice none 0 0)).set 4 (.slice none 0 0)).set 5 (.bool false)).set 6 (.string ⟨#[]⟩)).set 7 (.int .i64 0)).set 8 (.bool false))
  have NT : Hid (Cls (((((((((w3.setCell ⟨X.heap.size + 1 + 1, 0, none⟩ (.bool true)).setCell ⟨X.heap.size + 1 + 1, 1, none⟩ (.int .i64 0)).setCell ⟨X.heap.size + 1 + 1, 2, none⟩ (.int .i64 0)).setCell ⟨X.heap.size + 1 + 1, 3, none⟩ (.slice none 0 0)).setCell ⟨X.heap.size + 1 + 1, 4, none⟩ (.slice none 0 0)).setCell ⟨X.heap.size + 1 + 1, 5, none⟩ (.bool false)).setCell ⟨X.heap.size + 1 + 1, 6, none⟩ (.string ⟨#[]⟩)).setCell ⟨X.heap.size + 1 + 1, 7, none⟩ (.int .i64 0)).setCell ⟨X.heap.size + 1 + 1, 8, none⟩ (.bool false)) (w1.heap.size) 44 #[.bool true, .int .i64 0, .int .i64 0, .slice none 0 0, .slice none 0 0, .bool false, .string ⟨#[]⟩, .int .i64 0, .bool false]) := hide (by simpa using (((((((((unhide HT).other ⟨X.heap.size + 1 + 1, 0, none⟩ (.bool true) (by dsimp only; omega)).other ⟨X.heap.size + 1 + 1, 1, none⟩ (.int .i64 0) (by dsimp only; omega)).other ⟨X.heap.size + 1 + 1, 2, none⟩ (.int .i64 0) (by dsimp only; omega)).other ⟨X.heap.size + 1 + 1, 3, none⟩ (.slice none 0 0) (by dsimp only; omega)).other ⟨X.heap.size + 1 + 1, 4, none⟩ (.slice none 0 0) (by dsimp only; omega)).other ⟨X.heap.size + 1 + 1, 5, none⟩ (.bool false) (by dsimp only; omega)).other ⟨X.heap.size + 1 + 1, 6, none⟩ (.string ⟨#[]⟩) (by dsimp only; omega)).other ⟨X.heap.size + 1 + 1, 7, none⟩ (.int .i64 0) (by dsimp only; omega)).other ⟨X.heap.size + 1 + 1, 8, none⟩ (.bool false) (by dsimp only; omega))
  have NHK0 := hide ((((((((((unhide HK0).upd ⟨X.heap.size + 1 + 1, 0, none⟩ (.bool true) (.inr (by dsimp only; omega))).upd ⟨X.heap.size + 1 + 1, 1, none⟩ (.int .i64 0) (.inr (by dsimp only; omega))).upd ⟨X.heap.size + 1 + 1, 2, none⟩ (.int .i64 0) (.inr (by dsimp only; omega))).upd ⟨X.heap.size + 1 + 1, 3, none⟩ (.slice none 0 0) (.inr (by dsimp only; omega))).upd ⟨X.heap.size + 1 + 1, 4, none⟩ (.slice none 0 0) (.inr (by dsimp only; omega))).upd ⟨X.heap.size + 1 + 1, 5, none⟩ (.bool false) (.inr (by dsimp only; omega))).upd ⟨X.heap.size + 1 + 1, 6, none⟩ (.string ⟨#[]⟩) (.inr (by dsimp only; omega))).upd ⟨X.heap.size + 1 + 1, 7, none⟩ (.int .i64 0) (.inr (by dsimp only; omega))).upd ⟨X.heap.size + 1 + 1, 8, none⟩ (.bool false) (.inr (by dsimp only; omega)))
  clear HA HO HR HT HK0
  generalize (((((((((w3.setCell ⟨X.heap.size + 1 + 1, 0, none⟩ (.bool true)).setCell ⟨X.heap.size + 1 + 1, 1, none⟩ (.int .i64 0)).setCell ⟨X.heap.size + 1 + 1, 2, none⟩ (.int .i64 0)).setCell ⟨X.heap.size + 1 + 1, 3, none⟩ (.slice none 0 0)).setCell ⟨X.heap.size + 1 + 1, 4, none⟩ (.slice none 0 0)).setCell ⟨X.heap.size + 1 + 1, 5, none⟩ (.bool false)).setCell ⟨X.heap.size + 1 + 1, 6, none⟩ (.string ⟨#[]⟩)).setCell ⟨X.heap.size + 1 + 1, 7, none⟩ (.int .i64 0)).setCell ⟨X.heap.size + 1 + 1, 8, none⟩ (.bool false)) = W2 at *
  have HA := NA
  have HO := NO
  have HR := NR
  have HT := NT
  have HK0 := NHK0
  clear NA NO NR NT NHK0
  have HS4 : Hid (W2.cell? ⟨w1.heap.size, 0, none⟩ = some (.bool true) ∧ W2.cell? ⟨w1.heap.size, 1, none⟩ = some (.int .i64 0) ∧ W2.cell? ⟨w1.heap.size, 2, none⟩ = some (.int .i64 0) ∧ W2.cell? ⟨w1.heap.size, 3, none⟩ = some (.slice none 0 0) ∧ W2.cell? ⟨w1.heap.size, 4, none⟩ = some (.slice none 0 0) ∧ W2.cell? ⟨w1.heap.size, 5, none⟩ = some (.bool false) ∧ W2.cell? ⟨w1.heap.size, 6, none⟩ = some (.string ⟨#[]⟩) ∧ W2.cell? ⟨w1.heap.size, 7, none⟩ = some (.int .i64 0) ∧ W2.cell? ⟨w1.heap.size, 8, none⟩ = some (.bool false)) := hide ⟨((unhide HT).cell 0).trans rfl, ((unhide HT).cell 1).trans rfl, ((unhide HT).cell 2).trans rfl, ((unhide HT).cell 3).trans rfl, ((unhide HT).cell 4).trans rfl, ((unhide HT).cell 5).trans rfl, ((unhide HT).cell 6).trans rfl, ((unhide HT).cell 7).trans rfl, ((unhide HT).cell 8).trans rfl⟩
  refine unhide hK _ _ (fun _ => unhide HS4) ?_
  clear hK K
  refine anyL_take (i := 6) (v := ?vq53) rfl (by kernel_rfl) (by kernel_rfl) (by kernel_rfl) (by kernel_rfl) (fun _ _ _ h => h) (Or.inl ⟨by rfl, ?hq53⟩) (unhide HS4) ?_
  case hq53 => (intro w hSw; (try dsimp only at hSw); go_simp) <;> with_reducible rfl
  simp only [Act.put, List.getElem_toArray, List.getElem_cons_zero, List.getElem_cons_succ, List.setIfInBounds_toArray, List.set_cons_zero, List.set_cons_succ]
  refine anyL_done (by kernel_rfl) ?_ _
  have q0 : W2.cell? ⟨X.heap.size + 1 + 1, 0, none⟩ = some (.bool true) := ((unhide HR).cell 0).trans rfl
  have q1 : W2.cell? ⟨X.heap.size + 1 + 1, 1, none⟩ = some (.int .i64 0) := ((unhide HR).cell 1).trans rfl
  have q2 : W2.cell? ⟨X.heap.size + 1 + 1, 2, none⟩ = some (.int .i64 0) := ((unhide HR).cell 2).trans rfl
  have q3 : W2.cell? ⟨X.heap.size + 1 + 1, 3, none⟩ = some (.slice none 0 0) := ((unhide HR).cell 3).trans rfl
  have q4 : W2.cell? ⟨X.heap.size + 1 + 1, 4, none⟩ = some (.slice none 0 0) := ((unhide HR).cell 4).trans rfl
  have q5 : W2.cell? ⟨X.heap.size + 1 + 1, 5, none⟩ = some (.bool false) := ((unhide HR).cell 5).trans rfl
  have q6 : W2.cell? ⟨X.heap.size + 1 + 1, 6, none⟩ = some (.string ⟨#[]⟩) := ((unhide HR).cell 6).trans rfl
  have q7 : W2.cell? ⟨X.heap.size + 1 + 1, 7, none⟩ = some (.int .i64 0) := ((unhide HR).cell 7).trans rfl
  have q8 : W2.cell? ⟨X.heap.size + 1 + 1, 8, none⟩ = some (.bool false) := ((unhide HR).cell 8).trans rfl
  go_wp2_with fail
  refine bodyPost_ret (v := .tuple #[.agg #[.bool true, .int .i64 0, .int .i64 0, .slice none 0 0, .slice none 0 0, .bool false, .string ⟨#[]⟩, .int .i64 0, .bool false], .bool true]) (by simp [results, Try.results21, go_sem, q0, q1, q2, q3, q4, q5, q6, q7, q8]) rfl ?_
  exact ⟨rfl, (unhide HK0).below (Nat.le_refl _) (fun _ e => e.elim)⟩
end Go.Proofs.Ytdemfejladepjaa
