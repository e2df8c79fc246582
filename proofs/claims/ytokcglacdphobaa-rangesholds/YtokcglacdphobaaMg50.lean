/- Layer 16: RangesHolds where something is refused (written by wip/tools/rxh.py). -/
import Derived.Test.YtokcglacdphobaaMg46
import Derived.Test.YtokcglacdphobaaMg49
import Derived.Test.YtokcglacdphobaaMg10

namespace Go.Proofs.Ytokcglacdphobaa
open Go.ChangeShapes Go.WideShapes Go.ChangeAt Go.RowKit
attribute [local go_sem] Oper.semAt_some

set_option maxRecDepth 100000 in
set_option maxHeartbeats 4000000 in
theorem RHolds1 (n : Int) (m : Rg) (a : Option Addr) (c : Nat) (d : List Dop) (w : World) (ho : IsO w a d) (hz : d = [] ∨ ∃ q, a = some q) (hb : d.length * 32 ≤ 140737488355328) (h : ¬ (0 ≤ n ∧ n ≤ 268435456)) :
    Calls Try.prog 6 #[.int .i64 n, rgV m, .slice a d.length c] w fun y w' => y = .returned (.bool true) ∧ Below w.heap.size w w' := by
  obtain ⟨xn, xl, xh, xs, xe⟩ := m
  have HCP := hide fun (Y : World) (hY : Below w.heap.size w Y) => RCopy_at a c d Y (ho.below hY (Nat.le_refl _)) hz hb
  have hl : d.length ≤ 4611686018427387904 := by omega
  have HPL := hide fun (Y : World) (a' : Option Addr) (c' : Nat) (p g : Int) (h : IsO Y a' d) => Place_at a' c' d p g Y h hl
  have HLN := hide fun (Y : World) (a' : Option Addr) (c' : Nat) (h : IsO Y a' d) => Lens_at a' c' d Y h hl
  have HX0 := hide ((Below.refl w.heap.size w).alloc (Nat.le_refl _) (.cells #[.string xn, .int .i64 xl, .int .i64 xh, .int .i64 xs, .int .i64 xe] 37))
  have HK0 := hide (Cls.new w 37 #[.string xn, .int .i64 xl, .int .i64 xh, .int .i64 xs, .int .i64 xe])
  have HAw := hide (awake16_at (w.alloc (.cells #[.string xn, .int .i64 xl, .int .i64 xh, .int .i64 xs, .int .i64 xe] 37)))
  unfold rgV
  dsimp only
  have HN := hide fun (Y : World) => GNewE_at n Y h
  clear ho hz hb hl HCP HPL HLN h
  go_enter Try.func6, Try.ntmps6
  have HC1 := hide (unhide HAw)
  go_wp2_with fail
  refine (unhide HC1).mono ?_
  rintro y w1 ⟨rfl, x1⟩
  dsimp only
  have HX1 := hide ((unhide HX0).trans (x1.mono (unhide HX0).size))
  have HK1 := hide ((unhide HK0).below x1 (unhide HK0).lt)
  clear HC1 HX0 HK0 x1  HAw
  have HC2 := hide (unhide HN w1)
  go_wp2_with fail
  refine (unhide HC2).mono ?_
  rintro y w2 ⟨rfl, x2⟩
  dsimp only
  have HX2 := hide ((unhide HX1).trans (x2.mono (unhide HX1).size))
  have HK2 := hide ((unhide HK1).below x2 (unhide HK1).lt)
  clear HC2 HX1 HK1 x2  HN
  go_wp2_with fail
  refine bodyPost_ret (results_tmp rfl _ _ _) rfl ⟨rfl, unhide HX2⟩
set_option maxRecDepth 100000 in
set_option maxHeartbeats 4000000 in
theorem RHolds2 (n : Int) (m : Rg) (a : Option Addr) (c : Nat) (d : List Dop) (w : World) (ho : IsO w a d) (hz : d = [] ∨ ∃ q, a = some q) (hb : d.length * 32 ≤ 140737488355328) (h : 0 ≤ n ∧ n ≤ 268435456) (hr : refG n [] m ≠ 0) :
    Calls Try.prog 6 #[.int .i64 n, rgV m, .slice a d.length c] w fun y w' => y = .returned (.bool true) ∧ Below w.heap.size w w' := by
  obtain ⟨xn, xl, xh, xs, xe⟩ := m
  have HSt := hide fun (Y : World) (g : Nat) (hs : IsRs Y g n []) => GSetE_at g n [] ⟨xn, xl, xh, xs, xe⟩ Y hs hr
  unfold rgV at HSt
  dsimp only at HSt
  generalize refG n [] ⟨xn, xl, xh, xs, xe⟩ = RF at *
  have t1 : (RF != 0) = true := by simpa using hr
  have t1' : (RF == 0) = false := by simpa using hr
  have HCP := hide fun (Y : World) (hY : Below w.heap.size w Y) => RCopy_at a c d Y (ho.below hY (Nat.le_refl _)) hz hb
  have hl : d.length ≤ 4611686018427387904 := by omega
  have HPL := hide fun (Y : World) (a' : Option Addr) (c' : Nat) (p g : Int) (h : IsO Y a' d) => Place_at a' c' d p g Y h hl
  have HLN := hide fun (Y : World) (a' : Option Addr) (c' : Nat) (h : IsO Y a' d) => Lens_at a' c' d Y h hl
  have HX0 := hide ((Below.refl w.heap.size w).alloc (Nat.le_refl _) (.cells #[.string xn, .int .i64 xl, .int .i64 xh, .int .i64 xs, .int .i64 xe] 37))
  have HK0 := hide (Cls.new w 37 #[.string xn, .int .i64 xl, .int .i64 xh, .int .i64 xs, .int .i64 xe])
  have HAw := hide (awake16_at (w.alloc (.cells #[.string xn, .int .i64 xl, .int .i64 xh, .int .i64 xs, .int .i64 xe] 37)))
  unfold rgV
  dsimp only
  have HN := hide fun (Y : World) => GNew_at n Y h
  clear ho hz hb hl HCP HPL HLN h hr
  go_enter Try.func6, Try.ntmps6
  have HC1 := hide (unhide HAw)
  go_wp2_with fail
  refine (unhide HC1).mono ?_
  rintro y w1 ⟨rfl, x1⟩
  dsimp only
  have HX1 := hide ((unhide HX0).trans (x1.mono (unhide HX0).size))
  have HK1 := hide ((unhide HK0).below x1 (unhide HK0).lt)
  clear HC1 HX0 HK0 x1  HAw
  have HC2 := hide (unhide HN w1)
  go_wp2_with fail
  refine (unhide HC2).mono ?_
  rintro y w2 ⟨g2, rfl, _, s2, x2⟩
  dsimp only
  have HX2 := hide ((unhide HX1).trans (x2.mono (unhide HX1).size))
  have HK2 := hide ((unhide HK1).below x2 (unhide HK1).lt)
  have HC3 := hide (unhide HSt w2 g2 s2)
  clear HC2 HX1 HK1 x2 s2 HN HSt
  have d0 := (unhide HK2).cell 0
  have d1 := (unhide HK2).cell 1
  have d2 := (unhide HK2).cell 2
  have d3 := (unhide HK2).cell 3
  have d4 := (unhide HK2).cell 4
  simp only [List.getElem?_toArray, List.getElem?_cons_zero, List.getElem?_cons_succ] at d0 d1 d2 d3 d4
  go_wp2_with fail
  refine (unhide HC3).mono ?_
  rintro y w3 ⟨rfl, x3⟩
  dsimp only
  have HX3 := hide ((unhide HX2).trans (x3.mono (unhide HX2).size))
  have HK3 := hide ((unhide HK2).below x3 (unhide HK2).lt)
  clear HC3 HX2 HK2 x3 d0 d1 d2 d3 d4
  go_wp2_with fail
  refine bodyPost_ret (results_tmp rfl _ _ _) rfl ⟨rfl, unhide HX3⟩
set_option maxRecDepth 100000 in
set_option maxHeartbeats 4000000 in
theorem RHolds3 (n : Int) (m : Rg) (a : Option Addr) (c : Nat) (d : List Dop) (w : World) (ho : IsO w a d) (hz : d = [] ∨ ∃ q, a = some q) (hb : d.length * 32 ≤ 140737488355328) (h : 0 ≤ n ∧ n ≤ 268435456) (hr : refG n [] m = 0) (hv : valB d = false) :
    Calls Try.prog 6 #[.int .i64 n, rgV m, .slice a d.length c] w fun y w' => y = .returned (.bool true) ∧ Below w.heap.size w w' := by
  obtain ⟨xn, xl, xh, xs, xe⟩ := m
  have HCP := hide fun (Y : World) (hY : Below w.heap.size w Y) => RCopy_at a c d Y (ho.below hY (Nat.le_refl _)) hz hb
  have hl : d.length ≤ 4611686018427387904 := by omega
  have HPL := hide fun (Y : World) (a' : Option Addr) (c' : Nat) (p g : Int) (h : IsO Y a' d) => Place_at a' c' d p g Y h hl
  have HLN := hide fun (Y : World) (a' : Option Addr) (c' : Nat) (h : IsO Y a' d) => Lens_at a' c' d Y h hl
  have HX0 := hide ((Below.refl w.heap.size w).alloc (Nat.le_refl _) (.cells #[.string xn, .int .i64 xl, .int .i64 xh, .int .i64 xs, .int .i64 xe] 37))
  have HK0 := hide (Cls.new w 37 #[.string xn, .int .i64 xl, .int .i64 xh, .int .i64 xs, .int .i64 xe])
  have HAw := hide (awake16_at (w.alloc (.cells #[.string xn, .int .i64 xl, .int .i64 xh, .int .i64 xs, .int .i64 xe] 37)))
  unfold rgV
  dsimp only
  have HN := hide fun (Y : World) => GNew_at n Y h
  have HSt := hide fun (Y : World) (g : Nat) (hs : IsRs Y g n []) => GSet_at g n [] ⟨xn, xl, xh, xs, xe⟩ Y hs hr
  unfold rgV at HSt
  dsimp only at HSt
  rw [show putG (⟨xn, xl, xh, xs, xe⟩ : Rg) [] = [⟨xn, xl, xh, xs, xe⟩] from rfl] at HSt
  have HBe := hide fun (Y : World) (g : Nat) (a' : Option Addr) (c' : Nat) (_ : IsRs Y g n [⟨xn, xl, xh, xs, xe⟩]) (hO : IsO Y a' d) => GBehV_at g a' c' d Y hO hl hv
  unfold lensV at HLN
  rw [hv] at HLN
  simp only [Bool.false_eq_true, if_false] at HLN
  clear ho hz hb hl h hr hv
  go_enter Try.func6, Try.ntmps6
  have HC1 := hide (unhide HAw)
  go_wp2_with fail
  refine (unhide HC1).mono ?_
  rintro y w1 ⟨rfl, x1⟩
  dsimp only
  have HX1 := hide ((unhide HX0).trans (x1.mono (unhide HX0).size))
  have HK1 := hide ((unhide HK0).below x1 (unhide HK0).lt)
  clear HC1 HX0 HK0 x1  HAw
  have HC2 := hide (unhide HN w1)
  go_wp2_with fail
  refine (unhide HC2).mono ?_
  rintro y w2 ⟨g2, rfl, _, s2, x2⟩
  dsimp only
  have HX2 := hide ((unhide HX1).trans (x2.mono (unhide HX1).size))
  have HK2 := hide ((unhide HK1).below x2 (unhide HK1).lt)
  have HC3 := hide (unhide HSt w2 g2 s2)
  clear HC2 HX1 HK1 x2 s2 HN HSt
  have d0 := (unhide HK2).cell 0
  have d1 := (unhide HK2).cell 1
  have d2 := (unhide HK2).cell 2
  have d3 := (unhide HK2).cell 3
  have d4 := (unhide HK2).cell 4
  simp only [List.getElem?_toArray, List.getElem?_cons_zero, List.getElem?_cons_succ] at d0 d1 d2 d3 d4
  go_wp2_with fail
  refine (unhide HC3).mono ?_
  rintro y w3 ⟨g3, rfl, s3, x3⟩
  dsimp only
  have HX3 := hide ((unhide HX2).trans (x3.mono (unhide HX2).size))
  have HK3 := hide ((unhide HK2).below x3 (unhide HK2).lt)
  have HS3 := hide s3
  clear HC3 HX2 HK2 x3 s3 d0 d1 d2 d3 d4
  have HC4 := hide (unhide HCP w3 (unhide HX3))
  go_wp2_with fail
  refine (unhide HC4).mono ?_
  rintro y w4 ⟨v4, rfl, o4, x4⟩
  dsimp only
  obtain ⟨a4, c4, rfl, i4, _⟩ := own_isO o4
  have HX4 := hide ((unhide HX3).trans (x4.mono (unhide HX3).size))
  have HK4 := hide ((unhide HK3).below x4 (unhide HK3).lt)
  have HC5 := hide (unhide HBe w4 g3 a4 c4 ((unhide HS3).below x4 (Nat.le_refl _)) i4)
  clear HC4 HX3 HK3 HS3 x4 o4 i4 HBe
  go_wp2_with fail
  refine (unhide HC5).mono ?_
  rintro y w5 ⟨rfl, x5⟩
  dsimp only
  have HX5 := hide ((unhide HX4).trans (x5.mono (unhide HX4).size))
  have HK5 := hide ((unhide HK4).below x5 (unhide HK4).lt)
  clear HC5 HX4 HK4 x5
  have d1 := (unhide HK5).cell 1
  have d3 := (unhide HK5).cell 3
  simp only [List.getElem?_toArray, List.getElem?_cons_zero, List.getElem?_cons_succ] at d1 d3
  have HS0 : Hid (w5.drew.cell? ⟨w.heap.size, 1, none⟩ = some (.int .i64 xl) ∧ w5.drew.cell? ⟨w.heap.size, 3, none⟩ = some (.int .i64 xs)) := hide ⟨d1, d3⟩
  have HXd := hide ((unhide HX5).drew)
  have HKd := hide ((unhide HK5).below ((Below.refl w5.heap.size w5).drew) (unhide HK5).lt)
  have HC6 := hide (unhide HCP w5.drew (unhide HXd))
  clear d1 d3 HX5 HK5
  go_wp2_with fail
  refine regionL (S := fun w' => w'.cell? ⟨w.heap.size, 1, none⟩ = some (.int .i64 xl) ∧ w'.cell? ⟨w.heap.size, 3, none⟩ = some (.int .i64 xs)) (fun _ => false) (by kernel_rfl) ?_
  generalize w5.drew = wd6 at *
  refine anyL_take (i := 0) (v := ?vrp100) rfl (by kernel_rfl) (by kernel_rfl) (by kernel_rfl) (by kernel_rfl) (fun _ _ _ h => h) (Or.inl ⟨by rfl, ?hrp100⟩) (unhide HS0) ?_
  case hrp100 => (intro w hSw; (try dsimp only at hSw); go_simp) <;> with_reducible rfl
  simp only [Act.put, List.getElem_toArray, List.getElem_cons_zero, List.setIfInBounds_toArray, List.set_cons_zero, List.set_cons_succ]
  refine anyL_take (i := 2) (v := ?vrp101) rfl (by kernel_rfl) (by kernel_rfl) (by kernel_rfl) (by kernel_rfl) (fun _ _ _ h => h) (Or.inl ⟨by rfl, ?hrp101⟩) (unhide HS0) ?_
  case hrp101 => (intro w hSw; (try dsimp only at hSw); go_simp) <;> with_reducible rfl
  simp only [Act.put, List.getElem_toArray, List.getElem_cons_zero, List.getElem_cons_succ, List.setIfInBounds_toArray, List.set_cons_zero, List.set_cons_succ]
  refine anyL_take (i := 3) (v := ?vrp102) rfl (by kernel_rfl) (by kernel_rfl) (by kernel_rfl) (by kernel_rfl) (fun _ _ _ h => h) (Or.inl ⟨by rfl, ?hrp102⟩) (unhide HS0) ?_
  case hrp102 => (intro w hSw; (try dsimp only at hSw); go_simp) <;> with_reducible rfl
  simp only [Act.put, List.getElem_toArray, List.getElem_cons_zero, List.getElem_cons_succ, List.setIfInBounds_toArray, List.set_cons_zero, List.set_cons_succ]
  refine anyL_take (i := 4) (v := ?vrp103) rfl (by kernel_rfl) (by kernel_rfl) (by kernel_rfl) (by kernel_rfl) (fun _ _ _ h => h) (Or.inl ⟨by rfl, ?hrp103⟩) (unhide HS0) ?_
  case hrp103 => (intro w hSw; (try dsimp only at hSw); go_simp) <;> with_reducible rfl
  simp only [Act.put, List.getElem_toArray, List.getElem_cons_zero, List.getElem_cons_succ, List.setIfInBounds_toArray, List.set_cons_zero, List.set_cons_succ]
  refine anyL_take (i := 5) (v := ?vrp104) rfl (by kernel_rfl) (by kernel_rfl) (by kernel_rfl) (by kernel_rfl) (fun _ _ _ h => h) (Or.inl ⟨by rfl, ?hrp104⟩) (unhide HS0) ?_
  case hrp104 => (intro w hSw; (try dsimp only at hSw); go_simp) <;> with_reducible rfl
  simp only [Act.put, List.getElem_toArray, List.getElem_cons_zero, List.getElem_cons_succ, List.setIfInBounds_toArray, List.set_cons_zero, List.set_cons_succ]
  refine anyL_ready (rs := [1]) (by kernel_rfl) (by simp) ?_
  refine AllL.cons rfl (fun K hK => ?_) AllL.nil
  go_simp
  refine (unhide HC6).mono ?_
  rintro y w6 ⟨v6, rfl, o6, x6⟩
  dsimp only
  obtain ⟨a6, c6, rfl, i6, _⟩ := own_isO o6
  have HX6 := hide ((unhide HXd).trans (x6.mono (unhide HXd).size))
  have HK6 := hide ((unhide HKd).below x6 (unhide HKd).lt)
  have HS6 := hide (And.intro ((x6.cell (p := ⟨w.heap.size, 1, none⟩) (unhide HKd).lt).trans (unhide HS0).1) ((x6.cell (p := ⟨w.heap.size, 3, none⟩) (unhide HKd).lt).trans (unhide HS0).2))
  have HC7 := hide (unhide HPL w6 a6 c6 xl xs i6)
  clear HC6 x6 o6 i6 HXd HKd HS0
  refine unhide hK _ _ (fun _ => unhide HS6) ?_
  clear hK K
  refine anyL_ready (rs := [6]) (by kernel_rfl) (by simp) ?_
  refine AllL.cons rfl (fun K hK => ?_) AllL.nil
  go_simp
  refine (unhide HC7).mono ?_
  rintro y w7 ⟨rfl, x7⟩
  dsimp only
  have HX7 := hide ((unhide HX6).trans (x7.mono (unhide HX6).size))
  have HS7 := hide (And.intro ((x7.cell (p := ⟨w.heap.size, 1, none⟩) (unhide HK6).lt).trans (unhide HS6).1) ((x7.cell (p := ⟨w.heap.size, 3, none⟩) (unhide HK6).lt).trans (unhide HS6).2))
  have HK7 := hide ((unhide HK6).below x7 (unhide HK6).lt)
  clear HC7 x7 HX6 HK6 HS6
  refine unhide hK _ _ (fun _ => unhide HS7) ?_
  clear hK K
  refine anyL_take (i := 7) (v := ?vrp105) rfl (by kernel_rfl) (by kernel_rfl) (by kernel_rfl) (by kernel_rfl) (fun _ _ _ h => h) (Or.inl ⟨by rfl, ?hrp105⟩) (unhide HS7) ?_
  case hrp105 => (intro w hSw; (try dsimp only at hSw); go_simp) <;> with_reducible rfl
  simp only [Act.put, List.getElem_toArray, List.getElem_cons_zero, List.getElem_cons_succ, List.setIfInBounds_toArray, List.set_cons_zero, List.set_cons_succ]
  refine anyL_take (i := 8) (v := ?vrp106) rfl (by kernel_rfl) (by kernel_rfl) (by kernel_rfl) (by kernel_rfl) (fun _ _ _ h => h) (Or.inl ⟨by rfl, ?hrp106⟩) (unhide HS7) ?_
  case hrp106 => (intro w hSw; (try dsimp only at hSw); go_simp) <;> with_reducible rfl
  simp only [Act.put, List.getElem_toArray, List.getElem_cons_zero, List.getElem_cons_succ, List.setIfInBounds_toArray, List.set_cons_zero, List.set_cons_succ]
  refine anyL_take (i := 9) (v := ?vrp107) rfl (by kernel_rfl) (by kernel_rfl) (by kernel_rfl) (by kernel_rfl) (fun _ _ _ h => h) (Or.inl ⟨by rfl, ?hrp107⟩) (unhide HS7) ?_
  case hrp107 => (intro w hSw; (try dsimp only at hSw); go_simp) <;> with_reducible rfl
  simp only [Act.put, List.getElem_toArray, List.getElem_cons_zero, List.getElem_cons_succ, List.setIfInBounds_toArray, List.set_cons_zero, List.set_cons_succ]
  refine anyL_take (i := 10) (v := ?vrp108) rfl (by kernel_rfl) (by kernel_rfl) (by kernel_rfl) (by kernel_rfl) (fun _ _ _ h => h) (Or.inl ⟨by rfl, ?hrp108⟩) (unhide HS7) ?_
  case hrp108 => (intro w hSw; (try dsimp only at hSw); go_simp) <;> with_reducible rfl
  simp only [Act.put, List.getElem_toArray, List.getElem_cons_zero, List.getElem_cons_succ, List.setIfInBounds_toArray, List.set_cons_zero, List.set_cons_succ]
  refine anyL_take (i := 11) (v := ?vrp109) rfl (by kernel_rfl) (by kernel_rfl) (by kernel_rfl) (by kernel_rfl) (fun _ _ _ h => h) (Or.inl ⟨by rfl, ?hrp109⟩) (unhide HS7) ?_
  case hrp109 => (intro w hSw; (try dsimp only at hSw); go_simp) <;> with_reducible rfl
  simp only [Act.put, List.getElem_toArray, List.getElem_cons_zero, List.getElem_cons_succ, List.setIfInBounds_toArray, List.set_cons_zero, List.set_cons_succ]
  refine anyL_done (by kernel_rfl) ?_ _
  clear HS7
  generalize hVV1 : plV d xl xs = V1 at *
  generalize hEV1 : plE d xl xs = E1 at *
  have d2 := (unhide HK7).cell 2
  have d4 := (unhide HK7).cell 4
  simp only [List.getElem?_toArray, List.getElem?_cons_zero, List.getElem?_cons_succ] at d2 d4
  have HS0 : Hid (w7.drew.cell? ⟨w.heap.size, 2, none⟩ = some (.int .i64 xh) ∧ w7.drew.cell? ⟨w.heap.size, 4, none⟩ = some (.int .i64 xe)) := hide ⟨d2, d4⟩
  have HXd := hide ((unhide HX7).drew)
  have HKd := hide ((unhide HK7).below ((Below.refl w7.heap.size w7).drew) (unhide HK7).lt)
  have HC8 := hide (unhide HCP w7.drew (unhide HXd))
  clear d2 d4 HX7 HK7
  go_wp2_with fail
  refine regionL (S := fun w' => w'.cell? ⟨w.heap.size, 2, none⟩ = some (.int .i64 xh) ∧ w'.cell? ⟨w.heap.size, 4, none⟩ = some (.int .i64 xe)) (fun _ => false) (by kernel_rfl) ?_
  generalize w7.drew = wd8 at *
  refine anyL_take (i := 0) (v := ?vrp1110) rfl (by kernel_rfl) (by kernel_rfl) (by kernel_rfl) (by kernel_rfl) (fun _ _ _ h => h) (Or.inl ⟨by rfl, ?hrp1110⟩) (unhide HS0) ?_
  case hrp1110 => (intro w hSw; (try dsimp only at hSw); go_simp) <;> with_reducible rfl
  simp only [Act.put, List.getElem_toArray, List.getElem_cons_zero, List.setIfInBounds_toArray, List.set_cons_zero, List.set_cons_succ]
  refine anyL_take (i := 2) (v := ?vrp1111) rfl (by kernel_rfl) (by kernel_rfl) (by kernel_rfl) (by kernel_rfl) (fun _ _ _ h => h) (Or.inl ⟨by rfl, ?hrp1111⟩) (unhide HS0) ?_
  case hrp1111 => (intro w hSw; (try dsimp only at hSw); go_simp) <;> with_reducible rfl
  simp only [Act.put, List.getElem_toArray, List.getElem_cons_zero, List.getElem_cons_succ, List.setIfInBounds_toArray, List.set_cons_zero, List.set_cons_succ]
  refine anyL_take (i := 3) (v := ?vrp1112) rfl (by kernel_rfl) (by kernel_rfl) (by kernel_rfl) (by kernel_rfl) (fun _ _ _ h => h) (Or.inl ⟨by rfl, ?hrp1112⟩) (unhide HS0) ?_
  case hrp1112 => (intro w hSw; (try dsimp only at hSw); go_simp) <;> with_reducible rfl
  simp only [Act.put, List.getElem_toArray, List.getElem_cons_zero, List.getElem_cons_succ, List.setIfInBounds_toArray, List.set_cons_zero, List.set_cons_succ]
  refine anyL_take (i := 4) (v := ?vrp1113) rfl (by kernel_rfl) (by kernel_rfl) (by kernel_rfl) (by kernel_rfl) (fun _ _ _ h => h) (Or.inl ⟨by rfl, ?hrp1113⟩) (unhide HS0) ?_
  case hrp1113 => (intro w hSw; (try dsimp only at hSw); go_simp) <;> with_reducible rfl
  simp only [Act.put, List.getElem_toArray, List.getElem_cons_zero, List.getElem_cons_succ, List.setIfInBounds_toArray, List.set_cons_zero, List.set_cons_succ]
  refine anyL_take (i := 5) (v := ?vrp1114) rfl (by kernel_rfl) (by kernel_rfl) (by kernel_rfl) (by kernel_rfl) (fun _ _ _ h => h) (Or.inl ⟨by rfl, ?hrp1114⟩) (unhide HS0) ?_
  case hrp1114 => (intro w hSw; (try dsimp only at hSw); go_simp) <;> with_reducible rfl
  simp only [Act.put, List.getElem_toArray, List.getElem_cons_zero, List.getElem_cons_succ, List.setIfInBounds_toArray, List.set_cons_zero, List.set_cons_succ]
  refine anyL_ready (rs := [1]) (by kernel_rfl) (by simp) ?_
  refine AllL.cons rfl (fun K hK => ?_) AllL.nil
  go_simp
  refine (unhide HC8).mono ?_
  rintro y w8 ⟨v8, rfl, o8, x8⟩
  dsimp only
  obtain ⟨a8, c8, rfl, i8, _⟩ := own_isO o8
  have HX8 := hide ((unhide HXd).trans (x8.mono (unhide HXd).size))
  have HK8 := hide ((unhide HKd).below x8 (unhide HKd).lt)
  have HS8 := hide (And.intro ((x8.cell (p := ⟨w.heap.size, 2, none⟩) (unhide HKd).lt).trans (unhide HS0).1) ((x8.cell (p := ⟨w.heap.size, 4, none⟩) (unhide HKd).lt).trans (unhide HS0).2))
  have HC9 := hide (unhide HPL w8 a8 c8 xh xe i8)
  clear HC8 x8 o8 i8 HXd HKd HS0
  refine unhide hK _ _ (fun _ => unhide HS8) ?_
  clear hK K
  refine anyL_ready (rs := [6]) (by kernel_rfl) (by simp) ?_
  refine AllL.cons rfl (fun K hK => ?_) AllL.nil
  go_simp
  refine (unhide HC9).mono ?_
  rintro y w9 ⟨rfl, x9⟩
  dsimp only
  have HX9 := hide ((unhide HX8).trans (x9.mono (unhide HX8).size))
  have HS9 := hide (And.intro ((x9.cell (p := ⟨w.heap.size, 2, none⟩) (unhide HK8).lt).trans (unhide HS8).1) ((x9.cell (p := ⟨w.heap.size, 4, none⟩) (unhide HK8).lt).trans (unhide HS8).2))
  have HK9 := hide ((unhide HK8).below x9 (unhide HK8).lt)
  clear HC9 x9 HX8 HK8 HS8
  refine unhide hK _ _ (fun _ => unhide HS9) ?_
  clear hK K
  refine anyL_take (i := 7) (v := ?vrp1115) rfl (by kernel_rfl) (by kernel_rfl) (by kernel_rfl) (by kernel_rfl) (fun _ _ _ h => h) (Or.inl ⟨by rfl, ?hrp1115⟩) (unhide HS9) ?_
  case hrp1115 => (intro w hSw; (try dsimp only at hSw); go_simp) <;> with_reducible rfl
  simp only [Act.put, List.getElem_toArray, List.getElem_cons_zero, List.getElem_cons_succ, List.setIfInBounds_toArray, List.set_cons_zero, List.set_cons_succ]
  refine anyL_take (i := 8) (v := ?vrp1116) rfl (by kernel_rfl) (by kernel_rfl) (by kernel_rfl) (by kernel_rfl) (fun _ _ _ h => h) (Or.inl ⟨by rfl, ?hrp1116⟩) (unhide HS9) ?_
  case hrp1116 => (intro w hSw; (try dsimp only at hSw); go_simp) <;> with_reducible rfl
  simp only [Act.put, List.getElem_toArray, List.getElem_cons_zero, List.getElem_cons_succ, List.setIfInBounds_toArray, List.set_cons_zero, List.set_cons_succ]
  refine anyL_take (i := 9) (v := ?vrp1117) rfl (by kernel_rfl) (by kernel_rfl) (by kernel_rfl) (by kernel_rfl) (fun _ _ _ h => h) (Or.inl ⟨by rfl, ?hrp1117⟩) (unhide HS9) ?_
  case hrp1117 => (intro w hSw; (try dsimp only at hSw); go_simp) <;> with_reducible rfl
  simp only [Act.put, List.getElem_toArray, List.getElem_cons_zero, List.getElem_cons_succ, List.setIfInBounds_toArray, List.set_cons_zero, List.set_cons_succ]
  refine anyL_take (i := 10) (v := ?vrp1118) rfl (by kernel_rfl) (by kernel_rfl) (by kernel_rfl) (by kernel_rfl) (fun _ _ _ h => h) (Or.inl ⟨by rfl, ?hrp1118⟩) (unhide HS9) ?_
  case hrp1118 => (intro w hSw; (try dsimp only at hSw); go_simp) <;> with_reducible rfl
  simp only [Act.put, List.getElem_toArray, List.getElem_cons_zero, List.getElem_cons_succ, List.setIfInBounds_toArray, List.set_cons_zero, List.set_cons_succ]
  refine anyL_take (i := 11) (v := ?vrp1119) rfl (by kernel_rfl) (by kernel_rfl) (by kernel_rfl) (by kernel_rfl) (fun _ _ _ h => h) (Or.inl ⟨by rfl, ?hrp1119⟩) (unhide HS9) ?_
  case hrp1119 => (intro w hSw; (try dsimp only at hSw); go_simp) <;> with_reducible rfl
  simp only [Act.put, List.getElem_toArray, List.getElem_cons_zero, List.getElem_cons_succ, List.setIfInBounds_toArray, List.set_cons_zero, List.set_cons_succ]
  refine anyL_done (by kernel_rfl) ?_ _
  clear HS9
  generalize hVV2 : plV d xh xe = V2 at *
  generalize hEV2 : plE d xh xe = E2 at *
  have HC10 := hide (unhide HCP w9 (unhide HX9))
  go_wp2_with fail
  refine (unhide HC10).mono ?_
  rintro y w10 ⟨v10, rfl, o10, x10⟩
  dsimp only
  obtain ⟨a10, c10, rfl, i10, _⟩ := own_isO o10
  have HX10 := hide ((unhide HX9).trans (x10.mono (unhide HX9).size))
  have HK10 := hide ((unhide HK9).below x10 (unhide HK9).lt)
  have HC11 := hide (unhide HLN w10 a10 c10 i10)
  clear HC10 HX9 HK9 x10 o10 i10
  go_wp2_with fail
  refine (unhide HC11).mono ?_
  rintro y w11 ⟨rfl, x11⟩
  dsimp only
  have HX11 := hide ((unhide HX10).trans (x11.mono (unhide HX10).size))
  have HK11 := hide ((unhide HK10).below x11 (unhide HK10).lt)
  clear HC11 HX10 HK10 x11
  go_wp2_with fail
  refine bodyPost_ret (results_tmp rfl _ _ _) rfl ⟨rfl, unhide HX11⟩
set_option maxRecDepth 100000 in
set_option maxHeartbeats 4000000 in
theorem RHolds4 (n : Int) (m : Rg) (a : Option Addr) (c : Nat) (d : List Dop) (w : World) (ho : IsO w a d) (hz : d = [] ∨ ∃ q, a = some q) (hb : d.length * 32 ≤ 140737488355328) (h : 0 ≤ n ∧ n ≤ 268435456) (hr : refG n [] m = 0) (hv : valB d = true) (hf : (frD d : Int) ≠ n) :
    Calls Try.prog 6 #[.int .i64 n, rgV m, .slice a d.length c] w fun y w' => y = .returned (.bool true) ∧ Below w.heap.size w w' := by
  obtain ⟨xn, xl, xh, xs, xe⟩ := m
  have HCP := hide fun (Y : World) (hY : Below w.heap.size w Y) => RCopy_at a c d Y (ho.below hY (Nat.le_refl _)) hz hb
  have hl : d.length ≤ 4611686018427387904 := by omega
  have HPL := hide fun (Y : World) (a' : Option Addr) (c' : Nat) (p g : Int) (h : IsO Y a' d) => Place_at a' c' d p g Y h hl
  have HLN := hide fun (Y : World) (a' : Option Addr) (c' : Nat) (h : IsO Y a' d) => Lens_at a' c' d Y h hl
  have HX0 := hide ((Below.refl w.heap.size w).alloc (Nat.le_refl _) (.cells #[.string xn, .int .i64 xl, .int .i64 xh, .int .i64 xs, .int .i64 xe] 37))
  have HK0 := hide (Cls.new w 37 #[.string xn, .int .i64 xl, .int .i64 xh, .int .i64 xs, .int .i64 xe])
  have HAw := hide (awake16_at (w.alloc (.cells #[.string xn, .int .i64 xl, .int .i64 xh, .int .i64 xs, .int .i64 xe] 37)))
  unfold rgV
  dsimp only
  have HN := hide fun (Y : World) => GNew_at n Y h
  have HSt := hide fun (Y : World) (g : Nat) (hs : IsRs Y g n []) => GSet_at g n [] ⟨xn, xl, xh, xs, xe⟩ Y hs hr
  unfold rgV at HSt
  dsimp only at HSt
  rw [show putG (⟨xn, xl, xh, xs, xe⟩ : Rg) [] = [⟨xn, xl, xh, xs, xe⟩] from rfl] at HSt
  have HBe := hide fun (Y : World) (g : Nat) (a' : Option Addr) (c' : Nat) (hs : IsRs Y g n [⟨xn, xl, xh, xs, xe⟩]) (hO : IsO Y a' d) => GBehF_at g n [⟨xn, xl, xh, xs, xe⟩] a' c' d Y hs hO hl hv hf
  unfold lensV at HLN
  rw [hv] at HLN
  simp only [if_true] at HLN
  have t1 : ((frD d : Int) != n) = true := by simpa using hf
  have t1' : ((frD d : Int) == n) = false := by simpa using hf
  generalize (frD d : Int) = FD at *
  generalize (toD d : Int) = TD at *
  clear ho hz hb hl h hr hv hf
  go_enter Try.func6, Try.ntmps6
  have HC1 := hide (unhide HAw)
  go_wp2_with fail
  refine (unhide HC1).mono ?_
  rintro y w1 ⟨rfl, x1⟩
  dsimp only
  have HX1 := hide ((unhide HX0).trans (x1.mono (unhide HX0).size))
  have HK1 := hide ((unhide HK0).below x1 (unhide HK0).lt)
  clear HC1 HX0 HK0 x1  HAw
  have HC2 := hide (unhide HN w1)
  go_wp2_with fail
  refine (unhide HC2).mono ?_
  rintro y w2 ⟨g2, rfl, _, s2, x2⟩
  dsimp only
  have HX2 := hide ((unhide HX1).trans (x2.mono (unhide HX1).size))
  have HK2 := hide ((unhide HK1).below x2 (unhide HK1).lt)
  have HC3 := hide (unhide HSt w2 g2 s2)
  clear HC2 HX1 HK1 x2 s2 HN HSt
  have d0 := (unhide HK2).cell 0
  have d1 := (unhide HK2).cell 1
  have d2 := (unhide HK2).cell 2
  have d3 := (unhide HK2).cell 3
  have d4 := (unhide HK2).cell 4
  simp only [List.getElem?_toArray, List.getElem?_cons_zero, List.getElem?_cons_succ] at d0 d1 d2 d3 d4
  go_wp2_with fail
  refine (unhide HC3).mono ?_
  rintro y w3 ⟨g3, rfl, s3, x3⟩
  dsimp only
  have HX3 := hide ((unhide HX2).trans (x3.mono (unhide HX2).size))
  have HK3 := hide ((unhide HK2).below x3 (unhide HK2).lt)
  have HS3 := hide s3
  clear HC3 HX2 HK2 x3 s3 d0 d1 d2 d3 d4
  have HC4 := hide (unhide HCP w3 (unhide HX3))
  go_wp2_with fail
  refine (unhide HC4).mono ?_
  rintro y w4 ⟨v4, rfl, o4, x4⟩
  dsimp only
  obtain ⟨a4, c4, rfl, i4, _⟩ := own_isO o4
  have HX4 := hide ((unhide HX3).trans (x4.mono (unhide HX3).size))
  have HK4 := hide ((unhide HK3).below x4 (unhide HK3).lt)
  have HC5 := hide (unhide HBe w4 g3 a4 c4 ((unhide HS3).below x4 (Nat.le_refl _)) i4)
  clear HC4 HX3 HK3 HS3 x4 o4 i4 HBe
  go_wp2_with fail
  refine (unhide HC5).mono ?_
  rintro y w5 ⟨rfl, x5⟩
  dsimp only
  have HX5 := hide ((unhide HX4).trans (x5.mono (unhide HX4).size))
  have HK5 := hide ((unhide HK4).below x5 (unhide HK4).lt)
  clear HC5 HX4 HK4 x5
  have d1 := (unhide HK5).cell 1
  have d3 := (unhide HK5).cell 3
  simp only [List.getElem?_toArray, List.getElem?_cons_zero, List.getElem?_cons_succ] at d1 d3
  have HS0 : Hid (w5.drew.cell? ⟨w.heap.size, 1, none⟩ = some (.int .i64 xl) ∧ w5.drew.cell? ⟨w.heap.size, 3, none⟩ = some (.int .i64 xs)) := hide ⟨d1, d3⟩
  have HXd := hide ((unhide HX5).drew)
  have HKd := hide ((unhide HK5).below ((Below.refl w5.heap.size w5).drew) (unhide HK5).lt)
  have HC6 := hide (unhide HCP w5.drew (unhide HXd))
  clear d1 d3 HX5 HK5
  go_wp2_with fail
  refine regionL (S := fun w' => w'.cell? ⟨w.heap.size, 1, none⟩ = some (.int .i64 xl) ∧ w'.cell? ⟨w.heap.size, 3, none⟩ = some (.int .i64 xs)) (fun _ => false) (by kernel_rfl) ?_
  generalize w5.drew = wd6 at *
  refine anyL_take (i := 0) (v := ?vrp100) rfl (by kernel_rfl) (by kernel_rfl) (by kernel_rfl) (by kernel_rfl) (fun _ _ _ h => h) (Or.inl ⟨by rfl, ?hrp100⟩) (unhide HS0) ?_
  case hrp100 => (intro w hSw; (try dsimp only at hSw); go_simp) <;> with_reducible rfl
  simp only [Act.put, List.getElem_toArray, List.getElem_cons_zero, List.setIfInBounds_toArray, List.set_cons_zero, List.set_cons_succ]
  refine anyL_take (i := 2) (v := ?vrp101) rfl (by kernel_rfl) (by kernel_rfl) (by kernel_rfl) (by kernel_rfl) (fun _ _ _ h => h) (Or.inl ⟨by rfl, ?hrp101⟩) (unhide HS0) ?_
  case hrp101 => (intro w hSw; (try dsimp only at hSw); go_simp) <;> with_reducible rfl
  simp only [Act.put, List.getElem_toArray, List.getElem_cons_zero, List.getElem_cons_succ, List.setIfInBounds_toArray, List.set_cons_zero, List.set_cons_succ]
  refine anyL_take (i := 3) (v := ?vrp102) rfl (by kernel_rfl) (by kernel_rfl) (by kernel_rfl) (by kernel_rfl) (fun _ _ _ h => h) (Or.inl ⟨by rfl, ?hrp102⟩) (unhide HS0) ?_
  case hrp102 => (intro w hSw; (try dsimp only at hSw); go_simp) <;> with_reducible rfl
  simp only [Act.put, List.getElem_toArray, List.getElem_cons_zero, List.getElem_cons_succ, List.setIfInBounds_toArray, List.set_cons_zero, List.set_cons_succ]
  refine anyL_take (i := 4) (v := ?vrp103) rfl (by kernel_rfl) (by kernel_rfl) (by kernel_rfl) (by kernel_rfl) (fun _ _ _ h => h) (Or.inl ⟨by rfl, ?hrp103⟩) (unhide HS0) ?_
  case hrp103 => (intro w hSw; (try dsimp only at hSw); go_simp) <;> with_reducible rfl
  simp only [Act.put, List.getElem_toArray, List.getElem_cons_zero, List.getElem_cons_succ, List.setIfInBounds_toArray, List.set_cons_zero, List.set_cons_succ]
  refine anyL_take (i := 5) (v := ?vrp104) rfl (by kernel_rfl) (by kernel_rfl) (by kernel_rfl) (by kernel_rfl) (fun _ _ _ h => h) (Or.inl ⟨by rfl, ?hrp104⟩) (unhide HS0) ?_
  case hrp104 => (intro w hSw; (try dsimp only at hSw); go_simp) <;> with_reducible rfl
  simp only [Act.put, List.getElem_toArray, List.getElem_cons_zero, List.getElem_cons_succ, List.setIfInBounds_toArray, List.set_cons_zero, List.set_cons_succ]
  refine anyL_ready (rs := [1]) (by kernel_rfl) (by simp) ?_
  refine AllL.cons rfl (fun K hK => ?_) AllL.nil
  go_simp
  refine (unhide HC6).mono ?_
  rintro y w6 ⟨v6, rfl, o6, x6⟩
  dsimp only
  obtain ⟨a6, c6, rfl, i6, _⟩ := own_isO o6
  have HX6 := hide ((unhide HXd).trans (x6.mono (unhide HXd).size))
  have HK6 := hide ((unhide HKd).below x6 (unhide HKd).lt)
  have HS6 := hide (And.intro ((x6.cell (p := ⟨w.heap.size, 1, none⟩) (unhide HKd).lt).trans (unhide HS0).1) ((x6.cell (p := ⟨w.heap.size, 3, none⟩) (unhide HKd).lt).trans (unhide HS0).2))
  have HC7 := hide (unhide HPL w6 a6 c6 xl xs i6)
  clear HC6 x6 o6 i6 HXd HKd HS0
  refine unhide hK _ _ (fun _ => unhide HS6) ?_
  clear hK K
  refine anyL_ready (rs := [6]) (by kernel_rfl) (by simp) ?_
  refine AllL.cons rfl (fun K hK => ?_) AllL.nil
  go_simp
  refine (unhide HC7).mono ?_
  rintro y w7 ⟨rfl, x7⟩
  dsimp only
  have HX7 := hide ((unhide HX6).trans (x7.mono (unhide HX6).size))
  have HS7 := hide (And.intro ((x7.cell (p := ⟨w.heap.size, 1, none⟩) (unhide HK6).lt).trans (unhide HS6).1) ((x7.cell (p := ⟨w.heap.size, 3, none⟩) (unhide HK6).lt).trans (unhide HS6).2))
  have HK7 := hide ((unhide HK6).below x7 (unhide HK6).lt)
  clear HC7 x7 HX6 HK6 HS6
  refine unhide hK _ _ (fun _ => unhide HS7) ?_
  clear hK K
  refine anyL_take (i := 7) (v := ?vrp105) rfl (by kernel_rfl) (by kernel_rfl) (by kernel_rfl) (by kernel_rfl) (fun _ _ _ h => h) (Or.inl ⟨by rfl, ?hrp105⟩) (unhide HS7) ?_
  case hrp105 => (intro w hSw; (try dsimp only at hSw); go_simp) <;> with_reducible rfl
  simp only [Act.put, List.getElem_toArray, List.getElem_cons_zero, List.getElem_cons_succ, List.setIfInBounds_toArray, List.set_cons_zero, List.set_cons_succ]
  refine anyL_take (i := 8) (v := ?vrp106) rfl (by kernel_rfl) (by kernel_rfl) (by kernel_rfl) (by kernel_rfl) (fun _ _ _ h => h) (Or.inl ⟨by rfl, ?hrp106⟩) (unhide HS7) ?_
  case hrp106 => (intro w hSw; (try dsimp only at hSw); go_simp) <;> with_reducible rfl
  simp only [Act.put, List.getElem_toArray, List.getElem_cons_zero, List.getElem_cons_succ, List.setIfInBounds_toArray, List.set_cons_zero, List.set_cons_succ]
  refine anyL_take (i := 9) (v := ?vrp107) rfl (by kernel_rfl) (by kernel_rfl) (by kernel_rfl) (by kernel_rfl) (fun _ _ _ h => h) (Or.inl ⟨by rfl, ?hrp107⟩) (unhide HS7) ?_
  case hrp107 => (intro w hSw; (try dsimp only at hSw); go_simp) <;> with_reducible rfl
  simp only [Act.put, List.getElem_toArray, List.getElem_cons_zero, List.getElem_cons_succ, List.setIfInBounds_toArray, List.set_cons_zero, List.set_cons_succ]
  refine anyL_take (i := 10) (v := ?vrp108) rfl (by kernel_rfl) (by kernel_rfl) (by kernel_rfl) (by kernel_rfl) (fun _ _ _ h => h) (Or.inl ⟨by rfl, ?hrp108⟩) (unhide HS7) ?_
  case hrp108 => (intro w hSw; (try dsimp only at hSw); go_simp) <;> with_reducible rfl
  simp only [Act.put, List.getElem_toArray, List.getElem_cons_zero, List.getElem_cons_succ, List.setIfInBounds_toArray, List.set_cons_zero, List.set_cons_succ]
  refine anyL_take (i := 11) (v := ?vrp109) rfl (by kernel_rfl) (by kernel_rfl) (by kernel_rfl) (by kernel_rfl) (fun _ _ _ h => h) (Or.inl ⟨by rfl, ?hrp109⟩) (unhide HS7) ?_
  case hrp109 => (intro w hSw; (try dsimp only at hSw); go_simp) <;> with_reducible rfl
  simp only [Act.put, List.getElem_toArray, List.getElem_cons_zero, List.getElem_cons_succ, List.setIfInBounds_toArray, List.set_cons_zero, List.set_cons_succ]
  refine anyL_done (by kernel_rfl) ?_ _
  clear HS7
  generalize hVV1 : plV d xl xs = V1 at *
  generalize hEV1 : plE d xl xs = E1 at *
  have d2 := (unhide HK7).cell 2
  have d4 := (unhide HK7).cell 4
  simp only [List.getElem?_toArray, List.getElem?_cons_zero, List.getElem?_cons_succ] at d2 d4
  have HS0 : Hid (w7.drew.cell? ⟨w.heap.size, 2, none⟩ = some (.int .i64 xh) ∧ w7.drew.cell? ⟨w.heap.size, 4, none⟩ = some (.int .i64 xe)) := hide ⟨d2, d4⟩
  have HXd := hide ((unhide HX7).drew)
  have HKd := hide ((unhide HK7).below ((Below.refl w7.heap.size w7).drew) (unhide HK7).lt)
  have HC8 := hide (unhide HCP w7.drew (unhide HXd))
  clear d2 d4 HX7 HK7
  go_wp2_with fail
  refine regionL (S := fun w' => w'.cell? ⟨w.heap.size, 2, none⟩ = some (.int .i64 xh) ∧ w'.cell? ⟨w.heap.size, 4, none⟩ = some (.int .i64 xe)) (fun _ => false) (by kernel_rfl) ?_
  generalize w7.drew = wd8 at *
  refine anyL_take (i := 0) (v := ?vrp1110) rfl (by kernel_rfl) (by kernel_rfl) (by kernel_rfl) (by kernel_rfl) (fun _ _ _ h => h) (Or.inl ⟨by rfl, ?hrp1110⟩) (unhide HS0) ?_
  case hrp1110 => (intro w hSw; (try dsimp only at hSw); go_simp) <;> with_reducible rfl
  simp only [Act.put, List.getElem_toArray, List.getElem_cons_zero, List.setIfInBounds_toArray, List.set_cons_zero, List.set_cons_succ]
  refine anyL_take (i := 2) (v := ?vrp1111) rfl (by kernel_rfl) (by kernel_rfl) (by kernel_rfl) (by kernel_rfl) (fun _ _ _ h => h) (Or.inl ⟨by rfl, ?hrp1111⟩) (unhide HS0) ?_
  case hrp1111 => (intro w hSw; (try dsimp only at hSw); go_simp) <;> with_reducible rfl
  simp only [Act.put, List.getElem_toArray, List.getElem_cons_zero, List.getElem_cons_succ, List.setIfInBounds_toArray, List.set_cons_zero, List.set_cons_succ]
  refine anyL_take (i := 3) (v := ?vrp1112) rfl (by kernel_rfl) (by kernel_rfl) (by kernel_rfl) (by kernel_rfl) (fun _ _ _ h => h) (Or.inl ⟨by rfl, ?hrp1112⟩) (unhide HS0) ?_
  case hrp1112 => (intro w hSw; (try dsimp only at hSw); go_simp) <;> with_reducible rfl
  simp only [Act.put, List.getElem_toArray, List.getElem_cons_zero, List.getElem_cons_succ, List.setIfInBounds_toArray, List.set_cons_zero, List.set_cons_succ]
  refine anyL_take (i := 4) (v := ?vrp1113) rfl (by kernel_rfl) (by kernel_rfl) (by kernel_rfl) (by kernel_rfl) (fun _ _ _ h => h) (Or.inl ⟨by rfl, ?hrp1113⟩) (unhide HS0) ?_
  case hrp1113 => (intro w hSw; (try dsimp only at hSw); go_simp) <;> with_reducible rfl
  simp only [Act.put, List.getElem_toArray, List.getElem_cons_zero, List.getElem_cons_succ, List.setIfInBounds_toArray, List.set_cons_zero, List.set_cons_succ]
  refine anyL_take (i := 5) (v := ?vrp1114) rfl (by kernel_rfl) (by kernel_rfl) (by kernel_rfl) (by kernel_rfl) (fun _ _ _ h => h) (Or.inl ⟨by rfl, ?hrp1114⟩) (unhide HS0) ?_
  case hrp1114 => (intro w hSw; (try dsimp only at hSw); go_simp) <;> with_reducible rfl
  simp only [Act.put, List.getElem_toArray, List.getElem_cons_zero, List.getElem_cons_succ, List.setIfInBounds_toArray, List.set_cons_zero, List.set_cons_succ]
  refine anyL_ready (rs := [1]) (by kernel_rfl) (by simp) ?_
  refine AllL.cons rfl (fun K hK => ?_) AllL.nil
  go_simp
  refine (unhide HC8).mono ?_
  rintro y w8 ⟨v8, rfl, o8, x8⟩
  dsimp only
  obtain ⟨a8, c8, rfl, i8, _⟩ := own_isO o8
  have HX8 := hide ((unhide HXd).trans (x8.mono (unhide HXd).size))
  have HK8 := hide ((unhide HKd).below x8 (unhide HKd).lt)
  have HS8 := hide (And.intro ((x8.cell (p := ⟨w.heap.size, 2, none⟩) (unhide HKd).lt).trans (unhide HS0).1) ((x8.cell (p := ⟨w.heap.size, 4, none⟩) (unhide HKd).lt).trans (unhide HS0).2))
  have HC9 := hide (unhide HPL w8 a8 c8 xh xe i8)
  clear HC8 x8 o8 i8 HXd HKd HS0
  refine unhide hK _ _ (fun _ => unhide HS8) ?_
  clear hK K
  refine anyL_ready (rs := [6]) (by kernel_rfl) (by simp) ?_
  refine AllL.cons rfl (fun K hK => ?_) AllL.nil
  go_simp
  refine (unhide HC9).mono ?_
  rintro y w9 ⟨rfl, x9⟩
  dsimp only
  have HX9 := hide ((unhide HX8).trans (x9.mono (unhide HX8).size))
  have HS9 := hide (And.intro ((x9.cell (p := ⟨w.heap.size, 2, none⟩) (unhide HK8).lt).trans (unhide HS8).1) ((x9.cell (p := ⟨w.heap.size, 4, none⟩) (unhide HK8).lt).trans (unhide HS8).2))
  have HK9 := hide ((unhide HK8).below x9 (unhide HK8).lt)
  clear HC9 x9 HX8 HK8 HS8
  refine unhide hK _ _ (fun _ => unhide HS9) ?_
  clear hK K
  refine anyL_take (i := 7) (v := ?vrp1115) rfl (by kernel_rfl) (by kernel_rfl) (by kernel_rfl) (by kernel_rfl) (fun _ _ _ h => h) (Or.inl ⟨by rfl, ?hrp1115⟩) (unhide HS9) ?_
  case hrp1115 => (intro w hSw; (try dsimp only at hSw); go_simp) <;> with_reducible rfl
  simp only [Act.put, List.getElem_toArray, List.getElem_cons_zero, List.getElem_cons_succ, List.setIfInBounds_toArray, List.set_cons_zero, List.set_cons_succ]
  refine anyL_take (i := 8) (v := ?vrp1116) rfl (by kernel_rfl) (by kernel_rfl) (by kernel_rfl) (by kernel_rfl) (fun _ _ _ h => h) (Or.inl ⟨by rfl, ?hrp1116⟩) (unhide HS9) ?_
  case hrp1116 => (intro w hSw; (try dsimp only at hSw); go_simp) <;> with_reducible rfl
  simp only [Act.put, List.getElem_toArray, List.getElem_cons_zero, List.getElem_cons_succ, List.setIfInBounds_toArray, List.set_cons_zero, List.set_cons_succ]
  refine anyL_take (i := 9) (v := ?vrp1117) rfl (by kernel_rfl) (by kernel_rfl) (by kernel_rfl) (by kernel_rfl) (fun _ _ _ h => h) (Or.inl ⟨by rfl, ?hrp1117⟩) (unhide HS9) ?_
  case hrp1117 => (intro w hSw; (try dsimp only at hSw); go_simp) <;> with_reducible rfl
  simp only [Act.put, List.getElem_toArray, List.getElem_cons_zero, List.getElem_cons_succ, List.setIfInBounds_toArray, List.set_cons_zero, List.set_cons_succ]
  refine anyL_take (i := 10) (v := ?vrp1118) rfl (by kernel_rfl) (by kernel_rfl) (by kernel_rfl) (by kernel_rfl) (fun _ _ _ h => h) (Or.inl ⟨by rfl, ?hrp1118⟩) (unhide HS9) ?_
  case hrp1118 => (intro w hSw; (try dsimp only at hSw); go_simp) <;> with_reducible rfl
  simp only [Act.put, List.getElem_toArray, List.getElem_cons_zero, List.getElem_cons_succ, List.setIfInBounds_toArray, List.set_cons_zero, List.set_cons_succ]
  refine anyL_take (i := 11) (v := ?vrp1119) rfl (by kernel_rfl) (by kernel_rfl) (by kernel_rfl) (by kernel_rfl) (fun _ _ _ h => h) (Or.inl ⟨by rfl, ?hrp1119⟩) (unhide HS9) ?_
  case hrp1119 => (intro w hSw; (try dsimp only at hSw); go_simp) <;> with_reducible rfl
  simp only [Act.put, List.getElem_toArray, List.getElem_cons_zero, List.getElem_cons_succ, List.setIfInBounds_toArray, List.set_cons_zero, List.set_cons_succ]
  refine anyL_done (by kernel_rfl) ?_ _
  clear HS9
  generalize hVV2 : plV d xh xe = V2 at *
  generalize hEV2 : plE d xh xe = E2 at *
  have HC10 := hide (unhide HCP w9 (unhide HX9))
  go_wp2_with fail
  refine (unhide HC10).mono ?_
  rintro y w10 ⟨v10, rfl, o10, x10⟩
  dsimp only
  obtain ⟨a10, c10, rfl, i10, _⟩ := own_isO o10
  have HX10 := hide ((unhide HX9).trans (x10.mono (unhide HX9).size))
  have HK10 := hide ((unhide HK9).below x10 (unhide HK9).lt)
  have HC11 := hide (unhide HLN w10 a10 c10 i10)
  clear HC10 HX9 HK9 x10 o10 i10
  go_wp2_with fail
  refine (unhide HC11).mono ?_
  rintro y w11 ⟨rfl, x11⟩
  dsimp only
  have HX11 := hide ((unhide HX10).trans (x11.mono (unhide HX10).size))
  have HK11 := hide ((unhide HK10).below x11 (unhide HK10).lt)
  clear HC11 HX10 HK10 x11
  go_wp2_with fail
  refine bodyPost_ret (results_tmp rfl _ _ _) rfl ⟨rfl, unhide HX11⟩
end Go.Proofs.Ytokcglacdphobaa
