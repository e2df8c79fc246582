/- Layer 16: RangesHolds where nothing is refused (written by wip/tools/rxq.py). -/
import Derived.Test.YtokcglacdphobaaMg50
import Derived.Test.YtokcglacdphobaaMg51

namespace Go.Proofs.Ytokcglacdphobaa
open Go.ChangeShapes Go.WideShapes Go.ChangeAt Go.RowKit
attribute [local go_sem] Oper.semAt_some

theorem ref0 {n : Int} {m : Rg} (h : refG n [] m = 0) : 0 ≤ m.lo ∧ m.lo < m.hi ∧ m.hi ≤ n ∧ (m.st = 1 ∨ m.st = 2) ∧ (m.en = 1 ∨ m.en = 2) := by
  unfold refG at h
  split at h
  · cases h
  split at h
  · cases h
  rename_i _ h2
  have b : ∀ g, ¬ holdB g = false → g = 1 ∨ g = 2 := fun g hg => by
    have : holdB g = true := by simpa using hg
    exact of_decide_eq_true this
  refine ⟨by omega, by omega, by omega, b _ fun e => h2 (.inr (.inr (.inr (.inl e)))), b _ fun e => h2 (.inr (.inr (.inr (.inr e))))⟩
theorem kp_one (d : List Dop) (m : Rg) : (kpG d [m] = if (mvG d m).lo < (mvG d m).hi then [mvG d m] else []) ∧ goG d [m] = if (mvG d m).lo < (mvG d m).hi then [] else [m.n] := ⟨kp_snoc d [] m, go_snoc d [] m⟩
theorem kpA_le : ∀ (u : List Atm) (l h : Nat), kpA u l h ≤ h
  | [], _, _ => by simp [kpA]
  | .p _ :: u, l, h => by simp only [kpA]; exact kpA_le u l h
  | .d :: u, l, h => by simp only [kpA]; have := kpA_le u (l - 1) (h - 1); omega
  | .k :: u, l, h => by
    simp only [kpA]
    have := kpA_le u (l - 1) (h - 1)
    split <;> omega
theorem frD_dropN (d : List Dop) {k : Nat} (hk : k < d.length) : frD (d.drop k) = frN (d.getD k opZ) + frD (d.drop (k + 1)) := by rw [drop_at hk, frD_cons]
theorem get_one (m : Rg) : getG m.n [m] = some m := by
  unfold getG atG
  rw [show (m.n == m.n) = true from (MapKept.bytes_beq _ _).2 rfl]
  rfl
set_option maxRecDepth 100000 in
set_option maxHeartbeats 4000000 in
theorem RHolds5 (n : Int) (m : Rg) (a : Option Addr) (c : Nat) (d : List Dop) (w : World) (ho : IsO w a d) (hz : d = [] ∨ ∃ q, a = some q) (hb : d.length * 32 ≤ 140737488355328) (h : 0 ≤ n ∧ n ≤ 268435456) (hr : refG n [] m = 0) (hv : valB d = true) (hf : (frD d : Int) = n) (hk : (mvG d m).lo < (mvG d m).hi) :
    Calls Try.prog 6 #[.int .i64 n, rgV m, .slice a d.length c] w fun y w' => y = .returned (.bool true) ∧ Below w.heap.size w w' := by
  obtain ⟨xn, xl, xh, xs, xe⟩ := m
  have HCP := hide fun (Y : World) (hY : Below w.heap.size w Y) => RCopy_at a c d Y (ho.below hY (Nat.le_refl _)) hz hb
  have hl : d.length ≤ 4611686018427387904 := by omega
  have HPL := hide fun (Y : World) (a' : Option Addr) (c' : Nat) (p g : Int) (h : IsO Y a' d) => Place_at a' c' d p g Y h hl
  have HLN := hide fun (Y : World) (a' : Option Addr) (c' : Nat) (h : IsO Y a' d) => Lens_at a' c' d Y h hl
  have HX0 := hide ((Below.refl w.heap.size w).alloc (Nat.le_refl _) (.cells #[.string xn, .int .i64 xl, .int .i64 xh, .int .i64 xs, .int .i64 xe] 37))
  have HK0 := hide (Cls.new w 37 #[.string xn, .int .i64 xl, .int .i64 xh, .int .i64 xs, .int .i64 xe])
  have HAw := hide (awake16_at (w.alloc (.cells #[.string xn, .int .i64 xl, .int .i64 xh, .int .i64 xs, .int .i64 xe] 37)))
  unfold rgV
  dsimp only
  have HN := hide fun (Y : World) => GNew_at n Y h
  have HSt := hide fun (Y : World) (g : Nat) (hs : IsRs Y g n []) => GSet_at g n [] ⟨xn, xl, xh, xs, xe⟩ Y hs hr
  unfold rgV at HSt
  dsimp only at HSt
  rw [show putG (⟨xn, xl, xh, xs, xe⟩ : Rg) [] = [⟨xn, xl, xh, xs, xe⟩] from rfl] at HSt
  obtain ⟨r1, r2, r3, r4, r5⟩ := ref0 hr
  obtain ⟨q1, q2⟩ := kp_one d ⟨xn, xl, xh, xs, xe⟩
  rw [if_pos hk] at q1 q2
  dsimp only at r1 r2 r3 r4 r5 q2
  unfold mvG at hk
  dsimp only at hk
  unfold mvG at q1
  dsimp only at q1
  have HBe := hide fun (Y : World) (g : Nat) (a' : Option Addr) (c' : Nat) (hs : IsRs Y g n [⟨xn, xl, xh, xs, xe⟩]) (hO : IsO Y a' d) => (GBeh_at g n [⟨xn, xl, xh, xs, xe⟩] a' c' d Y hs hO hl hv hf (by simp) (by simp)).mono (R' := fun y X' => ∃ g' ag cg, y = .returned (.tuple #[.pointer (some ⟨g', 0, none⟩), .slice ag 0 cg, .int .i64 0]) ∧ IsRs X' g' (toD d) [⟨xn, plV d xl xs, plV d xh xe, xs, xe⟩] ∧ Below Y.heap.size Y X') (fun y X' ⟨g', S, ag, cg, e1, e2, e3, e4⟩ => by
    obtain rfl : S = [⟨xn, xl, xh, xs, xe⟩] := List.perm_singleton.1 e2
    rw [q1] at e3
    rw [q2] at e1
    exact ⟨g', ag, cg, e1, e3, e4⟩)
  have z1 := (pl_zero (p := xl) (g := xs) hv ⟨r1, by omega⟩ r4).1
  have z2 := (pl_zero (p := xh) (g := xe) hv ⟨by omega, by omega⟩ r5).1
  have HSM := hide (And.intro (pl_small (p := xl) (g := xs) hv ⟨r1, by omega⟩ r4) (pl_small (p := xh) (g := xe) hv ⟨by omega, by omega⟩ r5))
  have HGt := hide fun (Y : World) (g : Nat) (hs : IsRs Y g (toD d) [⟨xn, plV d xl xs, plV d xh xe, xs, xe⟩]) => GGet_at g (toD d) [⟨xn, plV d xl xs, plV d xh xe, xs, xe⟩] xn Y hs
  rw [show getG xn [(⟨xn, plV d xl xs, plV d xh xe, xs, xe⟩ : Rg)] = some ⟨xn, plV d xl xs, plV d xh xe, xs, xe⟩ from get_one ⟨xn, plV d xl xs, plV d xh xe, xs, xe⟩] at HGt
  simp only [Option.map_some, Option.getD_some, Option.isSome_some, rgV] at HGt
  have HHE := hide (hold_ends (d := d) (l := xl.toNat) (h := xh.toNat) hv (by omega) (by omega))
  rw [show ((xh.toNat : Nat) : Int) = xh by omega, show ((xl.toNat : Nat) : Int) = xl by omega] at HHE
  have HFA := hide (And.intro hv (And.intro hf (And.intro r1 (And.intro r2 r3))))
  have HOO := hide fun (Y : World) (hY : Below w.heap.size w Y) => ho.below hY (Nat.le_refl _)
  unfold lensV at HLN
  rw [hv] at HLN
  simp only [if_true] at HLN
  rw [hf] at HLN
  have t2 : decide (plV d xl xs < plV d xh xe) = true := decide_eq_true hk
  have HDL : Hid (d.length ≤ 4398046511104) := hide (by omega)
  clear ho hz hb hl h hr hv hf r1 r2 r3 r4 r5 q1 q2
  go_enter Try.func6, Try.ntmps6
  have HC1 := hide (unhide HAw)
  go_wp2_with fail
  refine (unhide HC1).mono ?_
  rintro y w1 ⟨rfl, x1⟩
  dsimp only
  have HX1 := hide ((unhide HX0).trans (x1.mono (unhide HX0).size))
  have HK1 := hide ((unhide HK0).below x1 (unhide HK0).lt)
  clear HC1 HX0 HK0 x1  HAw
  have HC2 := hide (unhide HN w1)
  go_wp2_with fail
  refine (unhide HC2).mono ?_
  rintro y w2 ⟨g2, rfl, _, s2, x2⟩
  dsimp only
  have HX2 := hide ((unhide HX1).trans (x2.mono (unhide HX1).size))
  have HK2 := hide ((unhide HK1).below x2 (unhide HK1).lt)
  have HC3 := hide (unhide HSt w2 g2 s2)
  clear HC2 HX1 HK1 x2 s2 HN HSt
  have d0 := (unhide HK2).cell 0
  have d1 := (unhide HK2).cell 1
  have d2 := (unhide HK2).cell 2
  have d3 := (unhide HK2).cell 3
  have d4 := (unhide HK2).cell 4
  simp only [List.getElem?_toArray, List.getElem?_cons_zero, List.getElem?_cons_succ] at d0 d1 d2 d3 d4
  go_wp2_with fail
  refine (unhide HC3).mono ?_
  rintro y w3 ⟨g3, rfl, s3, x3⟩
  dsimp only
  have HX3 := hide ((unhide HX2).trans (x3.mono (unhide HX2).size))
  have HK3 := hide ((unhide HK2).below x3 (unhide HK2).lt)
  have HS3 := hide s3
  clear HC3 HX2 HK2 x3 s3 d0 d1 d2 d3 d4
  have HC4 := hide (unhide HCP w3 (unhide HX3))
  go_wp2_with fail
  refine (unhide HC4).mono ?_
  rintro y w4 ⟨v4, rfl, o4, x4⟩
  dsimp only
  obtain ⟨a4, c4, rfl, i4, _⟩ := own_isO o4
  have HX4 := hide ((unhide HX3).trans (x4.mono (unhide HX3).size))
  have HK4 := hide ((unhide HK3).below x4 (unhide HK3).lt)
  have HC5 := hide (unhide HBe w4 g3 a4 c4 ((unhide HS3).below x4 (Nat.le_refl _)) i4)
  clear HC4 HX3 HK3 HS3 x4 o4 i4 HBe
  go_wp2_with fail
  refine (unhide HC5).mono ?_
  rintro y w5 ⟨g5, ag, cg, rfl, s5, x5⟩
  dsimp only
  have HX5 := hide ((unhide HX4).trans (x5.mono (unhide HX4).size))
  have HK5 := hide ((unhide HK4).below x5 (unhide HK4).lt)
  have HS5 := hide s5
  clear HC5 HX4 HK4 x5 s5
  have HS5' := HS5
  clear HS5
  have d1 := (unhide HK5).cell 1
  have d3 := (unhide HK5).cell 3
  simp only [List.getElem?_toArray, List.getElem?_cons_zero, List.getElem?_cons_succ] at d1 d3
  have HS0 : Hid (w5.drew.cell? ⟨w.heap.size, 1, none⟩ = some (.int .i64 xl) ∧ w5.drew.cell? ⟨w.heap.size, 3, none⟩ = some (.int .i64 xs)) := hide ⟨d1, d3⟩
  have HSd := hide ((unhide HS5').below ((Below.refl w5.heap.size w5).drew) (Nat.le_refl _))
  have HXd := hide ((unhide HX5).drew)
  have HKd := hide ((unhide HK5).below ((Below.refl w5.heap.size w5).drew) (unhide HK5).lt)
  have HC6 := hide (unhide HCP w5.drew (unhide HXd))
  clear d1 d3 HX5 HK5
  go_wp2_with fail
  refine regionL (S := fun w' => w'.cell? ⟨w.heap.size, 1, none⟩ = some (.int .i64 xl) ∧ w'.cell? ⟨w.heap.size, 3, none⟩ = some (.int .i64 xs)) (fun _ => false) (by kernel_rfl) ?_
  generalize w5.drew = wd6 at *
  refine anyL_take (i := 0) (v := ?vrp1040) rfl (by kernel_rfl) (by kernel_rfl) (by kernel_rfl) (by kernel_rfl) (fun _ _ _ h => h) (Or.inl ⟨by rfl, ?hrp1040⟩) (unhide HS0) ?_
  case hrp1040 => (intro w hSw; (try dsimp only at hSw); go_simp) <;> with_reducible rfl
  simp only [Act.put, List.getElem_toArray, List.getElem_cons_zero, List.setIfInBounds_toArray, List.set_cons_zero, List.set_cons_succ]
  refine anyL_take (i := 2) (v := ?vrp1041) rfl (by kernel_rfl) (by kernel_rfl) (by kernel_rfl) (by kernel_rfl) (fun _ _ _ h => h) (Or.inl ⟨by rfl, ?hrp1041⟩) (unhide HS0) ?_
  case hrp1041 => (intro w hSw; (try dsimp only at hSw); go_simp) <;> with_reducible rfl
  simp only [Act.put, List.getElem_toArray, List.getElem_cons_zero, List.getElem_cons_succ, List.setIfInBounds_toArray, List.set_cons_zero, List.set_cons_succ]
  refine anyL_take (i := 3) (v := ?vrp1042) rfl (by kernel_rfl) (by kernel_rfl) (by kernel_rfl) (by kernel_rfl) (fun _ _ _ h => h) (Or.inl ⟨by rfl, ?hrp1042⟩) (unhide HS0) ?_
  case hrp1042 => (intro w hSw; (try dsimp only at hSw); go_simp) <;> with_reducible rfl
  simp only [Act.put, List.getElem_toArray, List.getElem_cons_zero, List.getElem_cons_succ, List.setIfInBounds_toArray, List.set_cons_zero, List.set_cons_succ]
  refine anyL_take (i := 4) (v := ?vrp1043) rfl (by kernel_rfl) (by kernel_rfl) (by kernel_rfl) (by kernel_rfl) (fun _ _ _ h => h) (Or.inl ⟨by rfl, ?hrp1043⟩) (unhide HS0) ?_
  case hrp1043 => (intro w hSw; (try dsimp only at hSw); go_simp) <;> with_reducible rfl
  simp only [Act.put, List.getElem_toArray, List.getElem_cons_zero, List.getElem_cons_succ, List.setIfInBounds_toArray, List.set_cons_zero, List.set_cons_succ]
  refine anyL_take (i := 5) (v := ?vrp1044) rfl (by kernel_rfl) (by kernel_rfl) (by kernel_rfl) (by kernel_rfl) (fun _ _ _ h => h) (Or.inl ⟨by rfl, ?hrp1044⟩) (unhide HS0) ?_
  case hrp1044 => (intro w hSw; (try dsimp only at hSw); go_simp) <;> with_reducible rfl
  simp only [Act.put, List.getElem_toArray, List.getElem_cons_zero, List.getElem_cons_succ, List.setIfInBounds_toArray, List.set_cons_zero, List.set_cons_succ]
  refine anyL_ready (rs := [1]) (by kernel_rfl) (by simp) ?_
  refine AllL.cons rfl (fun K hK => ?_) AllL.nil
  go_simp
  refine (unhide HC6).mono ?_
  rintro y w6 ⟨v6, rfl, o6, x6⟩
  dsimp only
  obtain ⟨a6, c6, rfl, i6, _⟩ := own_isO o6
  have HX6 := hide ((unhide HXd).trans (x6.mono (unhide HXd).size))
  have HK6 := hide ((unhide HKd).below x6 (unhide HKd).lt)
  have HS6 := hide (And.intro ((x6.cell (p := ⟨w.heap.size, 1, none⟩) (unhide HKd).lt).trans (unhide HS0).1) ((x6.cell (p := ⟨w.heap.size, 3, none⟩) (unhide HKd).lt).trans (unhide HS0).2))
  have HC7 := hide (unhide HPL w6 a6 c6 xl xs i6)
  have HS6' := hide ((unhide HSd).below x6 (Nat.le_refl _))
  clear HC6 x6 o6 i6 HXd HKd HS0 HSd HS5'
  refine unhide hK _ _ (fun _ => unhide HS6) ?_
  clear hK K
  refine anyL_ready (rs := [6]) (by kernel_rfl) (by simp) ?_
  refine AllL.cons rfl (fun K hK => ?_) AllL.nil
  go_simp
  refine (unhide HC7).mono ?_
  rintro y w7 ⟨rfl, x7⟩
  dsimp only
  have HX7 := hide ((unhide HX6).trans (x7.mono (unhide HX6).size))
  have HS7 := hide (And.intro ((x7.cell (p := ⟨w.heap.size, 1, none⟩) (unhide HK6).lt).trans (unhide HS6).1) ((x7.cell (p := ⟨w.heap.size, 3, none⟩) (unhide HK6).lt).trans (unhide HS6).2))
  have HK7 := hide ((unhide HK6).below x7 (unhide HK6).lt)
  have HS7' := hide ((unhide HS6').below x7 (Nat.le_refl _))
  clear HC7 x7 HX6 HK6 HS6 HS6'
  refine unhide hK _ _ (fun _ => unhide HS7) ?_
  clear hK K
  refine anyL_take (i := 7) (v := ?vrp1045) rfl (by kernel_rfl) (by kernel_rfl) (by kernel_rfl) (by kernel_rfl) (fun _ _ _ h => h) (Or.inl ⟨by rfl, ?hrp1045⟩) (unhide HS7) ?_
  case hrp1045 => (intro w hSw; (try dsimp only at hSw); go_simp) <;> with_reducible rfl
  simp only [Act.put, List.getElem_toArray, List.getElem_cons_zero, List.getElem_cons_succ, List.setIfInBounds_toArray, List.set_cons_zero, List.set_cons_succ]
  refine anyL_take (i := 8) (v := ?vrp1046) rfl (by kernel_rfl) (by kernel_rfl) (by kernel_rfl) (by kernel_rfl) (fun _ _ _ h => h) (Or.inl ⟨by rfl, ?hrp1046⟩) (unhide HS7) ?_
  case hrp1046 => (intro w hSw; (try dsimp only at hSw); go_simp) <;> with_reducible rfl
  simp only [Act.put, List.getElem_toArray, List.getElem_cons_zero, List.getElem_cons_succ, List.setIfInBounds_toArray, List.set_cons_zero, List.set_cons_succ]
  refine anyL_take (i := 9) (v := ?vrp1047) rfl (by kernel_rfl) (by kernel_rfl) (by kernel_rfl) (by kernel_rfl) (fun _ _ _ h => h) (Or.inl ⟨by rfl, ?hrp1047⟩) (unhide HS7) ?_
  case hrp1047 => (intro w hSw; (try dsimp only at hSw); go_simp) <;> with_reducible rfl
  simp only [Act.put, List.getElem_toArray, List.getElem_cons_zero, List.getElem_cons_succ, List.setIfInBounds_toArray, List.set_cons_zero, List.set_cons_succ]
  refine anyL_take (i := 10) (v := ?vrp1048) rfl (by kernel_rfl) (by kernel_rfl) (by kernel_rfl) (by kernel_rfl) (fun _ _ _ h => h) (Or.inl ⟨by rfl, ?hrp1048⟩) (unhide HS7) ?_
  case hrp1048 => (intro w hSw; (try dsimp only at hSw); go_simp) <;> with_reducible rfl
  simp only [Act.put, List.getElem_toArray, List.getElem_cons_zero, List.getElem_cons_succ, List.setIfInBounds_toArray, List.set_cons_zero, List.set_cons_succ]
  refine anyL_take (i := 11) (v := ?vrp1049) rfl (by kernel_rfl) (by kernel_rfl) (by kernel_rfl) (by kernel_rfl) (fun _ _ _ h => h) (Or.inl ⟨by rfl, ?hrp1049⟩) (unhide HS7) ?_
  case hrp1049 => (intro w hSw; (try dsimp only at hSw); go_simp) <;> with_reducible rfl
  simp only [Act.put, List.getElem_toArray, List.getElem_cons_zero, List.getElem_cons_succ, List.setIfInBounds_toArray, List.set_cons_zero, List.set_cons_succ]
  refine anyL_done (by kernel_rfl) ?_ _
  clear HS7
  rw [z1]
  have d2 := (unhide HK7).cell 2
  have d4 := (unhide HK7).cell 4
  simp only [List.getElem?_toArray, List.getElem?_cons_zero, List.getElem?_cons_succ] at d2 d4
  have HS0 : Hid (w7.drew.cell? ⟨w.heap.size, 2, none⟩ = some (.int .i64 xh) ∧ w7.drew.cell? ⟨w.heap.size, 4, none⟩ = some (.int .i64 xe)) := hide ⟨d2, d4⟩
  have HSd := hide ((unhide HS7').below ((Below.refl w7.heap.size w7).drew) (Nat.le_refl _))
  have HXd := hide ((unhide HX7).drew)
  have HKd := hide ((unhide HK7).below ((Below.refl w7.heap.size w7).drew) (unhide HK7).lt)
  have HC8 := hide (unhide HCP w7.drew (unhide HXd))
  clear d2 d4 HX7 HK7
  go_wp2_with fail
  refine regionL (S := fun w' => w'.cell? ⟨w.heap.size, 2, none⟩ = some (.int .i64 xh) ∧ w'.cell? ⟨w.heap.size, 4, none⟩ = some (.int .i64 xe)) (fun _ => false) (by kernel_rfl) ?_
  generalize w7.drew = wd8 at *
  refine anyL_take (i := 0) (v := ?vrp1150) rfl (by kernel_rfl) (by kernel_rfl) (by kernel_rfl) (by kernel_rfl) (fun _ _ _ h => h) (Or.inl ⟨by rfl, ?hrp1150⟩) (unhide HS0) ?_
  case hrp1150 => (intro w hSw; (try dsimp only at hSw); go_simp) <;> with_reducible rfl
  simp only [Act.put, List.getElem_toArray, List.getElem_cons_zero, List.setIfInBounds_toArray, List.set_cons_zero, List.set_cons_succ]
  refine anyL_take (i := 2) (v := ?vrp1151) rfl (by kernel_rfl) (by kernel_rfl) (by kernel_rfl) (by kernel_rfl) (fun _ _ _ h => h) (Or.inl ⟨by rfl, ?hrp1151⟩) (unhide HS0) ?_
  case hrp1151 => (intro w hSw; (try dsimp only at hSw); go_simp) <;> with_reducible rfl
  simp only [Act.put, List.getElem_toArray, List.getElem_cons_zero, List.getElem_cons_succ, List.setIfInBounds_toArray, List.set_cons_zero, List.set_cons_succ]
  refine anyL_take (i := 3) (v := ?vrp1152) rfl (by kernel_rfl) (by kernel_rfl) (by kernel_rfl) (by kernel_rfl) (fun _ _ _ h => h) (Or.inl ⟨by rfl, ?hrp1152⟩) (unhide HS0) ?_
  case hrp1152 => (intro w hSw; (try dsimp only at hSw); go_simp) <;> with_reducible rfl
  simp only [Act.put, List.getElem_toArray, List.getElem_cons_zero, List.getElem_cons_succ, List.setIfInBounds_toArray, List.set_cons_zero, List.set_cons_succ]
  refine anyL_take (i := 4) (v := ?vrp1153) rfl (by kernel_rfl) (by kernel_rfl) (by kernel_rfl) (by kernel_rfl) (fun _ _ _ h => h) (Or.inl ⟨by rfl, ?hrp1153⟩) (unhide HS0) ?_
  case hrp1153 => (intro w hSw; (try dsimp only at hSw); go_simp) <;> with_reducible rfl
  simp only [Act.put, List.getElem_toArray, List.getElem_cons_zero, List.getElem_cons_succ, List.setIfInBounds_toArray, List.set_cons_zero, List.set_cons_succ]
  refine anyL_take (i := 5) (v := ?vrp1154) rfl (by kernel_rfl) (by kernel_rfl) (by kernel_rfl) (by kernel_rfl) (fun _ _ _ h => h) (Or.inl ⟨by rfl, ?hrp1154⟩) (unhide HS0) ?_
  case hrp1154 => (intro w hSw; (try dsimp only at hSw); go_simp) <;> with_reducible rfl
  simp only [Act.put, List.getElem_toArray, List.getElem_cons_zero, List.getElem_cons_succ, List.setIfInBounds_toArray, List.set_cons_zero, List.set_cons_succ]
  refine anyL_ready (rs := [1]) (by kernel_rfl) (by simp) ?_
  refine AllL.cons rfl (fun K hK => ?_) AllL.nil
  go_simp
  refine (unhide HC8).mono ?_
  rintro y w8 ⟨v8, rfl, o8, x8⟩
  dsimp only
  obtain ⟨a8, c8, rfl, i8, _⟩ := own_isO o8
  have HX8 := hide ((unhide HXd).trans (x8.mono (unhide HXd).size))
  have HK8 := hide ((unhide HKd).below x8 (unhide HKd).lt)
  have HS8 := hide (And.intro ((x8.cell (p := ⟨w.heap.size, 2, none⟩) (unhide HKd).lt).trans (unhide HS0).1) ((x8.cell (p := ⟨w.heap.size, 4, none⟩) (unhide HKd).lt).trans (unhide HS0).2))
  have HC9 := hide (unhide HPL w8 a8 c8 xh xe i8)
  have HS8' := hide ((unhide HSd).below x8 (Nat.le_refl _))
  clear HC8 x8 o8 i8 HXd HKd HS0 HSd HS7'
  refine unhide hK _ _ (fun _ => unhide HS8) ?_
  clear hK K
  refine anyL_ready (rs := [6]) (by kernel_rfl) (by simp) ?_
  refine AllL.cons rfl (fun K hK => ?_) AllL.nil
  go_simp
  refine (unhide HC9).mono ?_
  rintro y w9 ⟨rfl, x9⟩
  dsimp only
  have HX9 := hide ((unhide HX8).trans (x9.mono (unhide HX8).size))
  have HS9 := hide (And.intro ((x9.cell (p := ⟨w.heap.size, 2, none⟩) (unhide HK8).lt).trans (unhide HS8).1) ((x9.cell (p := ⟨w.heap.size, 4, none⟩) (unhide HK8).lt).trans (unhide HS8).2))
  have HK9 := hide ((unhide HK8).below x9 (unhide HK8).lt)
  have HS9' := hide ((unhide HS8').below x9 (Nat.le_refl _))
  clear HC9 x9 HX8 HK8 HS8 HS8'
  refine unhide hK _ _ (fun _ => unhide HS9) ?_
  clear hK K
  refine anyL_take (i := 7) (v := ?vrp1155) rfl (by kernel_rfl) (by kernel_rfl) (by kernel_rfl) (by kernel_rfl) (fun _ _ _ h => h) (Or.inl ⟨by rfl, ?hrp1155⟩) (unhide HS9) ?_
  case hrp1155 => (intro w hSw; (try dsimp only at hSw); go_simp) <;> with_reducible rfl
  simp only [Act.put, List.getElem_toArray, List.getElem_cons_zero, List.getElem_cons_succ, List.setIfInBounds_toArray, List.set_cons_zero, List.set_cons_succ]
  refine anyL_take (i := 8) (v := ?vrp1156) rfl (by kernel_rfl) (by kernel_rfl) (by kernel_rfl) (by kernel_rfl) (fun _ _ _ h => h) (Or.inl ⟨by rfl, ?hrp1156⟩) (unhide HS9) ?_
  case hrp1156 => (intro w hSw; (try dsimp only at hSw); go_simp) <;> with_reducible rfl
  simp only [Act.put, List.getElem_toArray, List.getElem_cons_zero, List.getElem_cons_succ, List.setIfInBounds_toArray, List.set_cons_zero, List.set_cons_succ]
  refine anyL_take (i := 9) (v := ?vrp1157) rfl (by kernel_rfl) (by kernel_rfl) (by kernel_rfl) (by kernel_rfl) (fun _ _ _ h => h) (Or.inl ⟨by rfl, ?hrp1157⟩) (unhide HS9) ?_
  case hrp1157 => (intro w hSw; (try dsimp only at hSw); go_simp) <;> with_reducible rfl
  simp only [Act.put, List.getElem_toArray, List.getElem_cons_zero, List.getElem_cons_succ, List.setIfInBounds_toArray, List.set_cons_zero, List.set_cons_succ]
  refine anyL_take (i := 10) (v := ?vrp1158) rfl (by kernel_rfl) (by kernel_rfl) (by kernel_rfl) (by kernel_rfl) (fun _ _ _ h => h) (Or.inl ⟨by rfl, ?hrp1158⟩) (unhide HS9) ?_
  case hrp1158 => (intro w hSw; (try dsimp only at hSw); go_simp) <;> with_reducible rfl
  simp only [Act.put, List.getElem_toArray, List.getElem_cons_zero, List.getElem_cons_succ, List.setIfInBounds_toArray, List.set_cons_zero, List.set_cons_succ]
  refine anyL_take (i := 11) (v := ?vrp1159) rfl (by kernel_rfl) (by kernel_rfl) (by kernel_rfl) (by kernel_rfl) (fun _ _ _ h => h) (Or.inl ⟨by rfl, ?hrp1159⟩) (unhide HS9) ?_
  case hrp1159 => (intro w hSw; (try dsimp only at hSw); go_simp) <;> with_reducible rfl
  simp only [Act.put, List.getElem_toArray, List.getElem_cons_zero, List.getElem_cons_succ, List.setIfInBounds_toArray, List.set_cons_zero, List.set_cons_succ]
  refine anyL_done (by kernel_rfl) ?_ _
  clear HS9
  rw [z2]
  have HC10 := hide (unhide HCP w9 (unhide HX9))
  go_wp2_with fail
  refine (unhide HC10).mono ?_
  rintro y w10 ⟨v10, rfl, o10, x10⟩
  dsimp only
  obtain ⟨a10, c10, rfl, i10, _⟩ := own_isO o10
  have HX10 := hide ((unhide HX9).trans (x10.mono (unhide HX9).size))
  have HK10 := hide ((unhide HK9).below x10 (unhide HK9).lt)
  have HC11 := hide (unhide HLN w10 a10 c10 i10)
  have HS10' := hide ((unhide HS9').below x10 (Nat.le_refl _))
  clear HC10 HX9 HK9 x10 o10 i10 HS9'
  go_wp2_with fail
  refine (unhide HC11).mono ?_
  rintro y w11 ⟨rfl, x11⟩
  dsimp only
  have HX11 := hide ((unhide HX10).trans (x11.mono (unhide HX10).size))
  have HK11 := hide ((unhide HK10).below x11 (unhide HK10).lt)
  have HS11' := hide ((unhide HS10').below x11 (Nat.le_refl _))
  clear HC11 HX10 HK10 x11 HS10' HCP HPL HLN
  generalize hV1 : plV d xl xs = V1 at *
  generalize hV2 : plV d xh xe = V2 at *
  have HV := hide (And.intro hV1 hV2)
  clear hV1 hV2 z1 z2
  generalize (toD d : Int) = TD at *
  have HC12 := hide (unhide HGt w11 g5 (unhide HS11'))
  have d0 := (unhide HK11).cell 0
  simp only [List.getElem?_toArray, List.getElem?_cons_zero] at d0
  go_wp2_with fail
  refine (unhide HC12).mono ?_
  rintro y w12 ⟨rfl, x12⟩
  dsimp only
  have HX12 := hide ((unhide HX11).trans (x12.mono (unhide HX11).size))
  have HK12 := hide ((unhide HK11).below x12 (unhide HK11).lt)
  have b13 := (Below.refl w12.heap.size w12).alloc (Nat.le_refl _) (.cells #[.string xn, .int .i64 V1, .int .i64 V2, .int .i64 xs, .int .i64 xe] 37)
  have kY := Cls.new w12 37 #[.string xn, .int .i64 V1, .int .i64 V2, .int .i64 xs, .int .i64 xe]
  have e1 := kY.cell 1
  have e2 := kY.cell 2
  have e3 := kY.cell 3
  have e4 := kY.cell 4
  have kB := (unhide HK12).below b13 (unhide HK12).lt
  have b1 := kB.cell 1
  have b2 := kB.cell 2
  have b3 := kB.cell 3
  have b4 := kB.cell 4
  simp only [List.getElem?_toArray, List.getElem?_cons_zero, List.getElem?_cons_succ] at e1 e2 e3 e4 b1 b2 b3 b4
  have HX13 := hide ((unhide HX12).trans (b13.mono (unhide HX12).size))
  have HKY := hide kY
  have HKB := hide kB
  clear HC12 HX11 HK11 HX12 HK12 x12 b13 kY kB d0 HS11' HGt
  by_cases hse : xs = 2 ∧ xe = 1
  · obtain ⟨rfl, rfl⟩ := hse
    obtain ⟨hV1, hV2⟩ := unhide HV
    rw [hV1, hV2] at HHE
    clear hV1 hV2 HV
    go_wp2_with fail
    clear e1 e2 e3 e4 b1 b2 b3 b4
    generalize w12.alloc (.cells #[.string xn, .int .i64 V1, .int .i64 V2, .int .i64 2, .int .i64 1] 37) = W at *
    generalize w12.heap.size = gy at *
    go_loopw [20, 21, 22, 24, 25, 26, 179] (fun v20 v21 v22 v24 v25 v26 v179 wx => ((∃ z, v24 = z) ∧ (∃ z, v25 = z) ∧ (∃ z, v26 = z)) ∧ (∃ (k : Nat) (K T F : Int), v179 = .int .i64 (k : Int) ∧ v20 = .int .i64 K ∧ v21 = .int .i64 T ∧ v22 = .int .i64 F ∧ k ≤ d.length ∧ Hid (KpI d xl.toNat xh.toNat k K T F)) ∧ Hid (Below W.heap.size W wx)) (fun _ _ _ _ _ _ v179 _ => d.length - (intOf v179).toNat)
    case atStart => exact ⟨⟨⟨_, rfl⟩, ⟨_, rfl⟩, ⟨_, rfl⟩⟩, ⟨0, 0, 0, -1, rfl, rfl, rfl, rfl, Nat.zero_le _, hide (KpI.start d _ _)⟩, hide (Below.refl _ _)⟩
    case round =>
      obtain ⟨⟨⟨z1, rfl⟩, ⟨z2, rfl⟩, ⟨z3, rfl⟩⟩, ⟨k, K, T, F, rfl, rfl, rfl, rfl, hk', HI⟩, HB⟩ := hrel
      by_cases hlt : k < d.length
      · skip
        have hdl := unhide HDL
        have t1 : decide ((k : Int) < (d.length : Int)) = true := decide_eq_true (by omega)
        obtain ⟨ga, off, rfl, hga, c0, c1, c2⟩ := (unhide HOO wr ((unhide HX13).trans ((unhide HB).mono (unhide HX13).size))).three hlt
        obtain ⟨hv, hfn, r1, r2, r3⟩ := unhide HFA
        have hx := valB_op hv (getD_memD hlt)
        have hz2 := (valB_nn hv).2
        have hIt := (unhide HI).t
        have hTd : T ≤ frD d := by omega
        have hI0 := (unhide HI).t0
        have hIk := (unhide HI).k0
        have hIe := (unhide HI).e
        have hKm := kpA_le (dA d) xl.toNat xh.toNat
        have HIP := hide fun ho => (unhide HI).put hlt ho
        have HID := hide fun ho hn => (unhide HI).del hlt ho hn
        have HIK := hide fun ho hn => (unhide HI).keep hlt ho hn (by omega)
        have hfr := frD_dropN d hlt
        have bA := (Below.refl wr.heap.size wr).alloc (Nat.le_refl _) (.cells #[.int .i64 (d.getD k opZ).k, .int .i64 (d.getD k opZ).n, .string (strOfNums (d.getD k opZ).t)] 61)
        have kA := Cls.new wr 61 #[.int .i64 (d.getD k opZ).k, .int .i64 (d.getD k opZ).n, .string (strOfNums (d.getD k opZ).t)]
        have HBA := hide ((unhide HB).trans (bA.mono (unhide HB).size))
        have kM := (unhide HKB).below (unhide HBA) (unhide HKB).lt
        have m1 := kM.cell 1
        have m2 := kM.cell 2
        have a0 := kA.cell 0
        have a1 := kA.cell 1
        simp only [List.getElem?_toArray, List.getElem?_cons_zero, List.getElem?_cons_succ] at m1 m2 a0 a1
        rw [show ((xl.toNat : Nat) : Int) = xl by omega, show ((xh.toNat : Nat) : Int) = xh by omega] at HIK
        generalize d.getD k opZ = x at *
        obtain ⟨yk, yn, yt⟩ := x
        dsimp only at c0 c1 c2 hx a0 a1 HIP HID HIK HBA m1 m2 hfr
        clear kA kM bA HI HB HKY HHE HFA HOO hk'
        have hKb : K ≤ 268435456 := by omega
        clear hIe hKm
        rcases hx with ⟨hx, hn1, rfl⟩ | ⟨rfl, rfl, hne⟩
        · have hTn : T + yn ≤ 268435456 := by
            have e : (frN ⟨yk, yn, []⟩ : Nat) = yn.toNat := by rcases hx with rfl | rfl <;> simp [frN]
            rw [e] at hfr
            omega
          obtain ⟨A, hA⟩ : ∃ A, max T xl = A := ⟨_, rfl⟩
          obtain ⟨Bm, hBm⟩ : ∃ Bm, min (T + yn) xh = Bm := ⟨_, rfl⟩
          have hAb : 0 ≤ A ∧ A ≤ 268435456 := by omega
          have hBb : 0 ≤ Bm ∧ Bm ≤ 268435456 := by omega
          clear hfr hfn hv hga HX13 hz2 hIt
          rcases hx with rfl | rfl
          · go_upto_region 27 with fail
            generalize wr.alloc (.cells #[.int .i64 1, .int .i64 yn, .string (strOfNums [])] 61) = wa at *
            have HBD := hide ((unhide HBA).trans ((Below.refl W.heap.size wa).drew))
            have hK := (unhide HIK) rfl hn1
            rw [hA, hBm] at hK
            clear HIK HID HIP HBA c0 c1 c2
            go_region
            by_cases hab : A < Bm
            · have u1 : decide (A < Bm) = true := decide_eq_true hab
              have hN := hK.1 hab
              clear hK
              by_cases hF : F < 0
              · have u2 : decide (F < 0) = true := decide_eq_true hF
                rw [if_pos hF] at hN
                have HN := hide hN
                clear hN hF
                go_wp2_with fail
                go_roundw
                case rel => exact ⟨⟨⟨_, rfl⟩, ⟨_, rfl⟩, ⟨_, rfl⟩⟩, ⟨k + 1, _, _, _, rfl, rfl, rfl, rfl, hlt, HN⟩, HBD⟩
                case measure => simp [intOf]; omega
              · have u2 : decide (F < 0) = false := decide_eq_false hF
                rw [if_neg hF] at hN
                have HN := hide hN
                clear hN
                go_wp2_with fail
                go_roundw
                case rel => exact ⟨⟨⟨_, rfl⟩, ⟨_, rfl⟩, ⟨_, rfl⟩⟩, ⟨k + 1, _, _, _, rfl, rfl, rfl, rfl, hlt, HN⟩, HBD⟩
                case measure => simp [intOf]; omega
            · have u1 : decide (A < Bm) = false := decide_eq_false hab
              have HN := hide (hK.2 hab)
              clear hK
              go_wp2_with fail
              go_roundw
              case rel => exact ⟨⟨⟨_, rfl⟩, ⟨_, rfl⟩, ⟨_, rfl⟩⟩, ⟨k + 1, _, _, _, rfl, rfl, rfl, rfl, hlt, HN⟩, HBD⟩
              case measure => simp [intOf]; omega
          · go_upto_region 27 with fail
            generalize wr.alloc (.cells #[.int .i64 3, .int .i64 yn, .string (strOfNums [])] 61) = wa at *
            have HBD := hide ((unhide HBA).trans ((Below.refl W.heap.size wa).drew))
            have HN := hide ((unhide HID) rfl hn1)
            clear HIK HID HIP HBA c0 c1 c2
            go_region
            go_wp2_with fail
            go_roundw
            case rel => exact ⟨⟨⟨_, rfl⟩, ⟨_, rfl⟩, ⟨_, rfl⟩⟩, ⟨k + 1, _, _, _, rfl, rfl, rfl, rfl, hlt, HN⟩, HBD⟩
            case measure => simp [intOf]; omega
        · have HN := hide ((unhide HIP) rfl)
          clear HIK HID HIP
          go_wp2_with fail
          go_roundw
          case rel => exact ⟨⟨⟨_, rfl⟩, ⟨_, rfl⟩, ⟨_, rfl⟩⟩, ⟨k + 1, _, _, _, rfl, rfl, rfl, rfl, hlt, HN⟩, HBA⟩
          case measure => simp [intOf]; omega
      · have t1 : decide ((k : Int) < (d.length : Int)) = false := decide_eq_false (by omega)
        obtain rfl : k = d.length := by omega
        have hK := (unhide HI).done
        have hF := (unhide HI).f
        have hH := unhide HHE
        rw [← hK] at hH
        have kY := (unhide HKY).below (unhide HB) (unhide HKY).lt
        have e1 := kY.cell 1
        have e2 := kY.cell 2
        simp only [List.getElem?_toArray, List.getElem?_cons_zero, List.getElem?_cons_succ] at e1 e2
        have HXE := hide ((unhide HX13).trans ((unhide HB).mono (unhide HX13).size))
        have hp : 0 < K := by
          rcases hF with h0 | h0
          · have := hH.1 (by omega)
            omega
          · exact h0.2
        have q1 : (K == 0) = false := by simpa using (by omega : K ≠ 0)
        have hF0 : 0 ≤ F := by rcases hF with h0 | h0 <;> omega
        have q2 : decide (K ≤ V2 - V1) = true := decide_eq_true (by have := hH.2 (by omega); omega)
        have q3 : decide (0 ≤ F) = true := decide_eq_true hF0
        clear kY HI HB HKY HKB HX13 HHE HOO HFA HDL hlt hk' hK hH
        obtain ⟨hs1, hs2⟩ := unhide HSM
        clear HSM
        go_wp2_with fail
        refine bodyPost_ret (results_tmp rfl _ _ _) rfl ⟨rfl, unhide HXE⟩
  · have t3 : (xs != 2 || xe != 1) = true := by
      by_cases h1 : xs = 2
      · have h2 : xe ≠ 1 := fun h => hse ⟨h1, h⟩
        simp [h2]
      · simp [h1]
    clear HHE HFA HOO HV
    by_cases h1 : xs = 2
    · subst h1
      have t4 : (xe != 1) = true := by simpa using t3
      have t4' : (xe == 1) = false := by simpa using t4
      clear t3 hse
      go_wp2_with fail
      refine bodyPost_ret (results_tmp rfl _ _ _) rfl ⟨rfl, unhide HX13⟩
    · have t4 : (xs != 2) = true := by simpa using h1
      have t4' : (xs == 2) = false := by simpa using h1
      clear t3 hse h1
      go_wp2_with fail
      refine bodyPost_ret (results_tmp rfl _ _ _) rfl ⟨rfl, unhide HX13⟩
set_option maxRecDepth 100000 in
set_option maxHeartbeats 4000000 in
theorem RHolds6 (n : Int) (m : Rg) (a : Option Addr) (c : Nat) (d : List Dop) (w : World) (ho : IsO w a d) (hz : d = [] ∨ ∃ q, a = some q) (hb : d.length * 32 ≤ 140737488355328) (h : 0 ≤ n ∧ n ≤ 268435456) (hr : refG n [] m = 0) (hv : valB d = true) (hf : (frD d : Int) = n) (hk : ¬ (mvG d m).lo < (mvG d m).hi) :
    Calls Try.prog 6 #[.int .i64 n, rgV m, .slice a d.length c] w fun y w' => y = .returned (.bool true) ∧ Below w.heap.size w w' := by
  obtain ⟨xn, xl, xh, xs, xe⟩ := m
  have HCP := hide fun (Y : World) (hY : Below w.heap.size w Y) => RCopy_at a c d Y (ho.below hY (Nat.le_refl _)) hz hb
  have hl : d.length ≤ 4611686018427387904 := by omega
  have HPL := hide fun (Y : World) (a' : Option Addr) (c' : Nat) (p g : Int) (h : IsO Y a' d) => Place_at a' c' d p g Y h hl
  have HLN := hide fun (Y : World) (a' : Option Addr) (c' : Nat) (h : IsO Y a' d) => Lens_at a' c' d Y h hl
  have HX0 := hide ((Below.refl w.heap.size w).alloc (Nat.le_refl _) (.cells #[.string xn, .int .i64 xl, .int .i64 xh, .int .i64 xs, .int .i64 xe] 37))
  have HK0 := hide (Cls.new w 37 #[.string xn, .int .i64 xl, .int .i64 xh, .int .i64 xs, .int .i64 xe])
  have HAw := hide (awake16_at (w.alloc (.cells #[.string xn, .int .i64 xl, .int .i64 xh, .int .i64 xs, .int .i64 xe] 37)))
  unfold rgV
  dsimp only
  have HN := hide fun (Y : World) => GNew_at n Y h
  have HSt := hide fun (Y : World) (g : Nat) (hs : IsRs Y g n []) => GSet_at g n [] ⟨xn, xl, xh, xs, xe⟩ Y hs hr
  unfold rgV at HSt
  dsimp only at HSt
  rw [show putG (⟨xn, xl, xh, xs, xe⟩ : Rg) [] = [⟨xn, xl, xh, xs, xe⟩] from rfl] at HSt
  obtain ⟨r1, r2, r3, r4, r5⟩ := ref0 hr
  obtain ⟨q1, q2⟩ := kp_one d ⟨xn, xl, xh, xs, xe⟩
  rw [if_neg hk] at q1 q2
  dsimp only at r1 r2 r3 r4 r5 q2
  unfold mvG at hk
  dsimp only at hk
  have HBe := hide fun (Y : World) (g : Nat) (a' : Option Addr) (c' : Nat) (hs : IsRs Y g n [⟨xn, xl, xh, xs, xe⟩]) (hO : IsO Y a' d) => (GBeh_at g n [⟨xn, xl, xh, xs, xe⟩] a' c' d Y hs hO hl hv hf (by simp) (by simp)).mono (R' := fun y X' => ∃ g' ag cg, y = .returned (.tuple #[.pointer (some ⟨g', 0, none⟩), .slice ag 1 cg, .int .i64 0]) ∧ IsRs X' g' (toD d) [] ∧ Below Y.heap.size Y X') (fun y X' ⟨g', S, ag, cg, e1, e2, e3, e4⟩ => by
    obtain rfl : S = [⟨xn, xl, xh, xs, xe⟩] := List.perm_singleton.1 e2
    rw [q1] at e3
    rw [q2] at e1
    exact ⟨g', ag, cg, e1, e3, e4⟩)
  have z1 := (pl_zero (p := xl) (g := xs) hv ⟨r1, by omega⟩ r4).1
  have z2 := (pl_zero (p := xh) (g := xe) hv ⟨by omega, by omega⟩ r5).1
  have HSM := hide (And.intro (pl_small (p := xl) (g := xs) hv ⟨r1, by omega⟩ r4) (pl_small (p := xh) (g := xe) hv ⟨by omega, by omega⟩ r5))
  have HGt := hide fun (Y : World) (g : Nat) (hs : IsRs Y g (toD d) []) => GGet_at g (toD d) [] xn Y hs
  rw [show getG xn ([] : List Rg) = none from rfl] at HGt
  simp only [Option.map_none, Option.getD_none, Option.isSome_none] at HGt
  have HHE := hide (hold_ends (d := d) (l := xl.toNat) (h := xh.toNat) hv (by omega) (by omega))
  rw [show ((xh.toNat : Nat) : Int) = xh by omega, show ((xl.toNat : Nat) : Int) = xl by omega] at HHE
  have HFA := hide (And.intro hv (And.intro hf (And.intro r1 (And.intro r2 r3))))
  have HOO := hide fun (Y : World) (hY : Below w.heap.size w Y) => ho.below hY (Nat.le_refl _)
  unfold lensV at HLN
  rw [hv] at HLN
  simp only [if_true] at HLN
  rw [hf] at HLN
  have t2 : decide (plV d xl xs < plV d xh xe) = false := decide_eq_false hk
  have HDL : Hid (d.length ≤ 4398046511104) := hide (by omega)
  clear ho hz hb hl h hr hv hf r1 r2 r3 r4 r5 q1 q2
  go_enter Try.func6, Try.ntmps6
  have HC1 := hide (unhide HAw)
  go_wp2_with fail
  refine (unhide HC1).mono ?_
  rintro y w1 ⟨rfl, x1⟩
  dsimp only
  have HX1 := hide ((unhide HX0).trans (x1.mono (unhide HX0).size))
  have HK1 := hide ((unhide HK0).below x1 (unhide HK0).lt)
  clear HC1 HX0 HK0 x1  HAw
  have HC2 := hide (unhide HN w1)
  go_wp2_with fail
  refine (unhide HC2).mono ?_
  rintro y w2 ⟨g2, rfl, _, s2, x2⟩
  dsimp only
  have HX2 := hide ((unhide HX1).trans (x2.mono (unhide HX1).size))
  have HK2 := hide ((unhide HK1).below x2 (unhide HK1).lt)
  have HC3 := hide (unhide HSt w2 g2 s2)
  clear HC2 HX1 HK1 x2 s2 HN HSt
  have d0 := (unhide HK2).cell 0
  have d1 := (unhide HK2).cell 1
  have d2 := (unhide HK2).cell 2
  have d3 := (unhide HK2).cell 3
  have d4 := (unhide HK2).cell 4
  simp only [List.getElem?_toArray, List.getElem?_cons_zero, List.getElem?_cons_succ] at d0 d1 d2 d3 d4
  go_wp2_with fail
  refine (unhide HC3).mono ?_
  rintro y w3 ⟨g3, rfl, s3, x3⟩
  dsimp only
  have HX3 := hide ((unhide HX2).trans (x3.mono (unhide HX2).size))
  have HK3 := hide ((unhide HK2).below x3 (unhide HK2).lt)
  have HS3 := hide s3
  clear HC3 HX2 HK2 x3 s3 d0 d1 d2 d3 d4
  have HC4 := hide (unhide HCP w3 (unhide HX3))
  go_wp2_with fail
  refine (unhide HC4).mono ?_
  rintro y w4 ⟨v4, rfl, o4, x4⟩
  dsimp only
  obtain ⟨a4, c4, rfl, i4, _⟩ := own_isO o4
  have HX4 := hide ((unhide HX3).trans (x4.mono (unhide HX3).size))
  have HK4 := hide ((unhide HK3).below x4 (unhide HK3).lt)
  have HC5 := hide (unhide HBe w4 g3 a4 c4 ((unhide HS3).below x4 (Nat.le_refl _)) i4)
  clear HC4 HX3 HK3 HS3 x4 o4 i4 HBe
  go_wp2_with fail
  refine (unhide HC5).mono ?_
  rintro y w5 ⟨g5, ag, cg, rfl, s5, x5⟩
  dsimp only
  have HX5 := hide ((unhide HX4).trans (x5.mono (unhide HX4).size))
  have HK5 := hide ((unhide HK4).below x5 (unhide HK4).lt)
  have HS5 := hide s5
  clear HC5 HX4 HK4 x5 s5
  have HS5' := HS5
  clear HS5
  have d1 := (unhide HK5).cell 1
  have d3 := (unhide HK5).cell 3
  simp only [List.getElem?_toArray, List.getElem?_cons_zero, List.getElem?_cons_succ] at d1 d3
  have HS0 : Hid (w5.drew.cell? ⟨w.heap.size, 1, none⟩ = some (.int .i64 xl) ∧ w5.drew.cell? ⟨w.heap.size, 3, none⟩ = some (.int .i64 xs)) := hide ⟨d1, d3⟩
  have HSd := hide ((unhide HS5').below ((Below.refl w5.heap.size w5).drew) (Nat.le_refl _))
  have HXd := hide ((unhide HX5).drew)
  have HKd := hide ((unhide HK5).below ((Below.refl w5.heap.size w5).drew) (unhide HK5).lt)
  have HC6 := hide (unhide HCP w5.drew (unhide HXd))
  clear d1 d3 HX5 HK5
  go_wp2_with fail
  refine regionL (S := fun w' => w'.cell? ⟨w.heap.size, 1, none⟩ = some (.int .i64 xl) ∧ w'.cell? ⟨w.heap.size, 3, none⟩ = some (.int .i64 xs)) (fun _ => false) (by kernel_rfl) ?_
  generalize w5.drew = wd6 at *
  refine anyL_take (i := 0) (v := ?vrp1080) rfl (by kernel_rfl) (by kernel_rfl) (by kernel_rfl) (by kernel_rfl) (fun _ _ _ h => h) (Or.inl ⟨by rfl, ?hrp1080⟩) (unhide HS0) ?_
  case hrp1080 => (intro w hSw; (try dsimp only at hSw); go_simp) <;> with_reducible rfl
  simp only [Act.put, List.getElem_toArray, List.getElem_cons_zero, List.setIfInBounds_toArray, List.set_cons_zero, List.set_cons_succ]
  refine anyL_take (i := 2) (v := ?vrp1081) rfl (by kernel_rfl) (by kernel_rfl) (by kernel_rfl) (by kernel_rfl) (fun _ _ _ h => h) (Or.inl ⟨by rfl, ?hrp1081⟩) (unhide HS0) ?_
  case hrp1081 => (intro w hSw; (try dsimp only at hSw); go_simp) <;> with_reducible rfl
  simp only [Act.put, List.getElem_toArray, List.getElem_cons_zero, List.getElem_cons_succ, List.setIfInBounds_toArray, List.set_cons_zero, List.set_cons_succ]
  refine anyL_take (i := 3) (v := ?vrp1082) rfl (by kernel_rfl) (by kernel_rfl) (by kernel_rfl) (by kernel_rfl) (fun _ _ _ h => h) (Or.inl ⟨by rfl, ?hrp1082⟩) (unhide HS0) ?_
  case hrp1082 => (intro w hSw; (try dsimp only at hSw); go_simp) <;> with_reducible rfl
  simp only [Act.put, List.getElem_toArray, List.getElem_cons_zero, List.getElem_cons_succ, List.setIfInBounds_toArray, List.set_cons_zero, List.set_cons_succ]
  refine anyL_take (i := 4) (v := ?vrp1083) rfl (by kernel_rfl) (by kernel_rfl) (by kernel_rfl) (by kernel_rfl) (fun _ _ _ h => h) (Or.inl ⟨by rfl, ?hrp1083⟩) (unhide HS0) ?_
  case hrp1083 => (intro w hSw; (try dsimp only at hSw); go_simp) <;> with_reducible rfl
  simp only [Act.put, List.getElem_toArray, List.getElem_cons_zero, List.getElem_cons_succ, List.setIfInBounds_toArray, List.set_cons_zero, List.set_cons_succ]
  refine anyL_take (i := 5) (v := ?vrp1084) rfl (by kernel_rfl) (by kernel_rfl) (by kernel_rfl) (by kernel_rfl) (fun _ _ _ h => h) (Or.inl ⟨by rfl, ?hrp1084⟩) (unhide HS0) ?_
  case hrp1084 => (intro w hSw; (try dsimp only at hSw); go_simp) <;> with_reducible rfl
  simp only [Act.put, List.getElem_toArray, List.getElem_cons_zero, List.getElem_cons_succ, List.setIfInBounds_toArray, List.set_cons_zero, List.set_cons_succ]
  refine anyL_ready (rs := [1]) (by kernel_rfl) (by simp) ?_
  refine AllL.cons rfl (fun K hK => ?_) AllL.nil
  go_simp
  refine (unhide HC6).mono ?_
  rintro y w6 ⟨v6, rfl, o6, x6⟩
  dsimp only
  obtain ⟨a6, c6, rfl, i6, _⟩ := own_isO o6
  have HX6 := hide ((unhide HXd).trans (x6.mono (unhide HXd).size))
  have HK6 := hide ((unhide HKd).below x6 (unhide HKd).lt)
  have HS6 := hide (And.intro ((x6.cell (p := ⟨w.heap.size, 1, none⟩) (unhide HKd).lt).trans (unhide HS0).1) ((x6.cell (p := ⟨w.heap.size, 3, none⟩) (unhide HKd).lt).trans (unhide HS0).2))
  have HC7 := hide (unhide HPL w6 a6 c6 xl xs i6)
  have HS6' := hide ((unhide HSd).below x6 (Nat.le_refl _))
  clear HC6 x6 o6 i6 HXd HKd HS0 HSd HS5'
  refine unhide hK _ _ (fun _ => unhide HS6) ?_
  clear hK K
  refine anyL_ready (rs := [6]) (by kernel_rfl) (by simp) ?_
  refine AllL.cons rfl (fun K hK => ?_) AllL.nil
  go_simp
  refine (unhide HC7).mono ?_
  rintro y w7 ⟨rfl, x7⟩
  dsimp only
  have HX7 := hide ((unhide HX6).trans (x7.mono (unhide HX6).size))
  have HS7 := hide (And.intro ((x7.cell (p := ⟨w.heap.size, 1, none⟩) (unhide HK6).lt).trans (unhide HS6).1) ((x7.cell (p := ⟨w.heap.size, 3, none⟩) (unhide HK6).lt).trans (unhide HS6).2))
  have HK7 := hide ((unhide HK6).below x7 (unhide HK6).lt)
  have HS7' := hide ((unhide HS6').below x7 (Nat.le_refl _))
  clear HC7 x7 HX6 HK6 HS6 HS6'
  refine unhide hK _ _ (fun _ => unhide HS7) ?_
  clear hK K
  refine anyL_take (i := 7) (v := ?vrp1085) rfl (by kernel_rfl) (by kernel_rfl) (by kernel_rfl) (by kernel_rfl) (fun _ _ _ h => h) (Or.inl ⟨by rfl, ?hrp1085⟩) (unhide HS7) ?_
  case hrp1085 => (intro w hSw; (try dsimp only at hSw); go_simp) <;> with_reducible rfl
  simp only [Act.put, List.getElem_toArray, List.getElem_cons_zero, List.getElem_cons_succ, List.setIfInBounds_toArray, List.set_cons_zero, List.set_cons_succ]
  refine anyL_take (i := 8) (v := ?vrp1086) rfl (by kernel_rfl) (by kernel_rfl) (by kernel_rfl) (by kernel_rfl) (fun _ _ _ h => h) (Or.inl ⟨by rfl, ?hrp1086⟩) (unhide HS7) ?_
  case hrp1086 => (intro w hSw; (try dsimp only at hSw); go_simp) <;> with_reducible rfl
  simp only [Act.put, List.getElem_toArray, List.getElem_cons_zero, List.getElem_cons_succ, List.setIfInBounds_toArray, List.set_cons_zero, List.set_cons_succ]
  refine anyL_take (i := 9) (v := ?vrp1087) rfl (by kernel_rfl) (by kernel_rfl) (by kernel_rfl) (by kernel_rfl) (fun _ _ _ h => h) (Or.inl ⟨by rfl, ?hrp1087⟩) (unhide HS7) ?_
  case hrp1087 => (intro w hSw; (try dsimp only at hSw); go_simp) <;> with_reducible rfl
  simp only [Act.put, List.getElem_toArray, List.getElem_cons_zero, List.getElem_cons_succ, List.setIfInBounds_toArray, List.set_cons_zero, List.set_cons_succ]
  refine anyL_take (i := 10) (v := ?vrp1088) rfl (by kernel_rfl) (by kernel_rfl) (by kernel_rfl) (by kernel_rfl) (fun _ _ _ h => h) (Or.inl ⟨by rfl, ?hrp1088⟩) (unhide HS7) ?_
  case hrp1088 => (intro w hSw; (try dsimp only at hSw); go_simp) <;> with_reducible rfl
  simp only [Act.put, List.getElem_toArray, List.getElem_cons_zero, List.getElem_cons_succ, List.setIfInBounds_toArray, List.set_cons_zero, List.set_cons_succ]
  refine anyL_take (i := 11) (v := ?vrp1089) rfl (by kernel_rfl) (by kernel_rfl) (by kernel_rfl) (by kernel_rfl) (fun _ _ _ h => h) (Or.inl ⟨by rfl, ?hrp1089⟩) (unhide HS7) ?_
  case hrp1089 => (intro w hSw; (try dsimp only at hSw); go_simp) <;> with_reducible rfl
  simp only [Act.put, List.getElem_toArray, List.getElem_cons_zero, List.getElem_cons_succ, List.setIfInBounds_toArray, List.set_cons_zero, List.set_cons_succ]
  refine anyL_done (by kernel_rfl) ?_ _
  clear HS7
  rw [z1]
  have d2 := (unhide HK7).cell 2
  have d4 := (unhide HK7).cell 4
  simp only [List.getElem?_toArray, List.getElem?_cons_zero, List.getElem?_cons_succ] at d2 d4
  have HS0 : Hid (w7.drew.cell? ⟨w.heap.size, 2, none⟩ = some (.int .i64 xh) ∧ w7.drew.cell? ⟨w.heap.size, 4, none⟩ = some (.int .i64 xe)) := hide ⟨d2, d4⟩
  have HSd := hide ((unhide HS7').below ((Below.refl w7.heap.size w7).drew) (Nat.le_refl _))
  have HXd := hide ((unhide HX7).drew)
  have HKd := hide ((unhide HK7).below ((Below.refl w7.heap.size w7).drew) (unhide HK7).lt)
  have HC8 := hide (unhide HCP w7.drew (unhide HXd))
  clear d2 d4 HX7 HK7
  go_wp2_with fail
  refine regionL (S := fun w' => w'.cell? ⟨w.heap.size, 2, none⟩ = some (.int .i64 xh) ∧ w'.cell? ⟨w.heap.size, 4, none⟩ = some (.int .i64 xe)) (fun _ => false) (by kernel_rfl) ?_
  generalize w7.drew = wd8 at *
  refine anyL_take (i := 0) (v := ?vrp1190) rfl (by kernel_rfl) (by kernel_rfl) (by kernel_rfl) (by kernel_rfl) (fun _ _ _ h => h) (Or.inl ⟨by rfl, ?hrp1190⟩) (unhide HS0) ?_
  case hrp1190 => (intro w hSw; (try dsimp only at hSw); go_simp) <;> with_reducible rfl
  simp only [Act.put, List.getElem_toArray, List.getElem_cons_zero, List.setIfInBounds_toArray, List.set_cons_zero, List.set_cons_succ]
  refine anyL_take (i := 2) (v := ?vrp1191) rfl (by kernel_rfl) (by kernel_rfl) (by kernel_rfl) (by kernel_rfl) (fun _ _ _ h => h) (Or.inl ⟨by rfl, ?hrp1191⟩) (unhide HS0) ?_
  case hrp1191 => (intro w hSw; (try dsimp only at hSw); go_simp) <;> with_reducible rfl
  simp only [Act.put, List.getElem_toArray, List.getElem_cons_zero, List.getElem_cons_succ, List.setIfInBounds_toArray, List.set_cons_zero, List.set_cons_succ]
  refine anyL_take (i := 3) (v := ?vrp1192) rfl (by kernel_rfl) (by kernel_rfl) (by kernel_rfl) (by kernel_rfl) (fun _ _ _ h => h) (Or.inl ⟨by rfl, ?hrp1192⟩) (unhide HS0) ?_
  case hrp1192 => (intro w hSw; (try dsimp only at hSw); go_simp) <;> with_reducible rfl
  simp only [Act.put, List.getElem_toArray, List.getElem_cons_zero, List.getElem_cons_succ, List.setIfInBounds_toArray, List.set_cons_zero, List.set_cons_succ]
  refine anyL_take (i := 4) (v := ?vrp1193) rfl (by kernel_rfl) (by kernel_rfl) (by kernel_rfl) (by kernel_rfl) (fun _ _ _ h => h) (Or.inl ⟨by rfl, ?hrp1193⟩) (unhide HS0) ?_
  case hrp1193 => (intro w hSw; (try dsimp only at hSw); go_simp) <;> with_reducible rfl
  simp only [Act.put, List.getElem_toArray, List.getElem_cons_zero, List.getElem_cons_succ, List.setIfInBounds_toArray, List.set_cons_zero, List.set_cons_succ]
  refine anyL_take (i := 5) (v := ?vrp1194) rfl (by kernel_rfl) (by kernel_rfl) (by kernel_rfl) (by kernel_rfl) (fun _ _ _ h => h) (Or.inl ⟨by rfl, ?hrp1194⟩) (unhide HS0) ?_
  case hrp1194 => (intro w hSw; (try dsimp only at hSw); go_simp) <;> with_reducible rfl
  simp only [Act.put, List.getElem_toArray, List.getElem_cons_zero, List.getElem_cons_succ, List.setIfInBounds_toArray, List.set_cons_zero, List.set_cons_succ]
  refine anyL_ready (rs := [1]) (by kernel_rfl) (by simp) ?_
  refine AllL.cons rfl (fun K hK => ?_) AllL.nil
  go_simp
  refine (unhide HC8).mono ?_
  rintro y w8 ⟨v8, rfl, o8, x8⟩
  dsimp only
  obtain ⟨a8, c8, rfl, i8, _⟩ := own_isO o8
  have HX8 := hide ((unhide HXd).trans (x8.mono (unhide HXd).size))
  have HK8 := hide ((unhide HKd).below x8 (unhide HKd).lt)
  have HS8 := hide (And.intro ((x8.cell (p := ⟨w.heap.size, 2, none⟩) (unhide HKd).lt).trans (unhide HS0).1) ((x8.cell (p := ⟨w.heap.size, 4, none⟩) (unhide HKd).lt).trans (unhide HS0).2))
  have HC9 := hide (unhide HPL w8 a8 c8 xh xe i8)
  have HS8' := hide ((unhide HSd).below x8 (Nat.le_refl _))
  clear HC8 x8 o8 i8 HXd HKd HS0 HSd HS7'
  refine unhide hK _ _ (fun _ => unhide HS8) ?_
  clear hK K
  refine anyL_ready (rs := [6]) (by kernel_rfl) (by simp) ?_
  refine AllL.cons rfl (fun K hK => ?_) AllL.nil
  go_simp
  refine (unhide HC9).mono ?_
  rintro y w9 ⟨rfl, x9⟩
  dsimp only
  have HX9 := hide ((unhide HX8).trans (x9.mono (unhide HX8).size))
  have HS9 := hide (And.intro ((x9.cell (p := ⟨w.heap.size, 2, none⟩) (unhide HK8).lt).trans (unhide HS8).1) ((x9.cell (p := ⟨w.heap.size, 4, none⟩) (unhide HK8).lt).trans (unhide HS8).2))
  have HK9 := hide ((unhide HK8).below x9 (unhide HK8).lt)
  have HS9' := hide ((unhide HS8').below x9 (Nat.le_refl _))
  clear HC9 x9 HX8 HK8 HS8 HS8'
  refine unhide hK _ _ (fun _ => unhide HS9) ?_
  clear hK K
  refine anyL_take (i := 7) (v := ?vrp1195) rfl (by kernel_rfl) (by kernel_rfl) (by kernel_rfl) (by kernel_rfl) (fun _ _ _ h => h) (Or.inl ⟨by rfl, ?hrp1195⟩) (unhide HS9) ?_
  case hrp1195 => (intro w hSw; (try dsimp only at hSw); go_simp) <;> with_reducible rfl
  simp only [Act.put, List.getElem_toArray, List.getElem_cons_zero, List.getElem_cons_succ, List.setIfInBounds_toArray, List.set_cons_zero, List.set_cons_succ]
  refine anyL_take (i := 8) (v := ?vrp1196) rfl (by kernel_rfl) (by kernel_rfl) (by kernel_rfl) (by kernel_rfl) (fun _ _ _ h => h) (Or.inl ⟨by rfl, ?hrp1196⟩) (unhide HS9) ?_
  case hrp1196 => (intro w hSw; (try dsimp only at hSw); go_simp) <;> with_reducible rfl
  simp only [Act.put, List.getElem_toArray, List.getElem_cons_zero, List.getElem_cons_succ, List.setIfInBounds_toArray, List.set_cons_zero, List.set_cons_succ]
  refine anyL_take (i := 9) (v := ?vrp1197) rfl (by kernel_rfl) (by kernel_rfl) (by kernel_rfl) (by kernel_rfl) (fun _ _ _ h => h) (Or.inl ⟨by rfl, ?hrp1197⟩) (unhide HS9) ?_
  case hrp1197 => (intro w hSw; (try dsimp only at hSw); go_simp) <;> with_reducible rfl
  simp only [Act.put, List.getElem_toArray, List.getElem_cons_zero, List.getElem_cons_succ, List.setIfInBounds_toArray, List.set_cons_zero, List.set_cons_succ]
  refine anyL_take (i := 10) (v := ?vrp1198) rfl (by kernel_rfl) (by kernel_rfl) (by kernel_rfl) (by kernel_rfl) (fun _ _ _ h => h) (Or.inl ⟨by rfl, ?hrp1198⟩) (unhide HS9) ?_
  case hrp1198 => (intro w hSw; (try dsimp only at hSw); go_simp) <;> with_reducible rfl
  simp only [Act.put, List.getElem_toArray, List.getElem_cons_zero, List.getElem_cons_succ, List.setIfInBounds_toArray, List.set_cons_zero, List.set_cons_succ]
  refine anyL_take (i := 11) (v := ?vrp1199) rfl (by kernel_rfl) (by kernel_rfl) (by kernel_rfl) (by kernel_rfl) (fun _ _ _ h => h) (Or.inl ⟨by rfl, ?hrp1199⟩) (unhide HS9) ?_
  case hrp1199 => (intro w hSw; (try dsimp only at hSw); go_simp) <;> with_reducible rfl
  simp only [Act.put, List.getElem_toArray, List.getElem_cons_zero, List.getElem_cons_succ, List.setIfInBounds_toArray, List.set_cons_zero, List.set_cons_succ]
  refine anyL_done (by kernel_rfl) ?_ _
  clear HS9
  rw [z2]
  have HC10 := hide (unhide HCP w9 (unhide HX9))
  go_wp2_with fail
  refine (unhide HC10).mono ?_
  rintro y w10 ⟨v10, rfl, o10, x10⟩
  dsimp only
  obtain ⟨a10, c10, rfl, i10, _⟩ := own_isO o10
  have HX10 := hide ((unhide HX9).trans (x10.mono (unhide HX9).size))
  have HK10 := hide ((unhide HK9).below x10 (unhide HK9).lt)
  have HC11 := hide (unhide HLN w10 a10 c10 i10)
  have HS10' := hide ((unhide HS9').below x10 (Nat.le_refl _))
  clear HC10 HX9 HK9 x10 o10 i10 HS9'
  go_wp2_with fail
  refine (unhide HC11).mono ?_
  rintro y w11 ⟨rfl, x11⟩
  dsimp only
  have HX11 := hide ((unhide HX10).trans (x11.mono (unhide HX10).size))
  have HK11 := hide ((unhide HK10).below x11 (unhide HK10).lt)
  have HS11' := hide ((unhide HS10').below x11 (Nat.le_refl _))
  clear HC11 HX10 HK10 x11 HS10' HCP HPL HLN
  generalize hV1 : plV d xl xs = V1 at *
  generalize hV2 : plV d xh xe = V2 at *
  have HV := hide (And.intro hV1 hV2)
  clear hV1 hV2 z1 z2
  generalize (toD d : Int) = TD at *
  have HC12 := hide (unhide HGt w11 g5 (unhide HS11'))
  have d0 := (unhide HK11).cell 0
  simp only [List.getElem?_toArray, List.getElem?_cons_zero] at d0
  go_wp2_with fail
  refine (unhide HC12).mono ?_
  rintro y w12 ⟨rfl, x12⟩
  dsimp only
  have HX12 := hide ((unhide HX11).trans (x12.mono (unhide HX11).size))
  have HK12 := hide ((unhide HK11).below x12 (unhide HK11).lt)
  have b13 := (Below.refl w12.heap.size w12).alloc (Nat.le_refl _) (.cells #[.string ⟨#[]⟩, .int .i64 0, .int .i64 0, .int .i64 0, .int .i64 0] 37)
  have kY := Cls.new w12 37 #[.string ⟨#[]⟩, .int .i64 0, .int .i64 0, .int .i64 0, .int .i64 0]
  have e1 := kY.cell 1
  have e2 := kY.cell 2
  have e3 := kY.cell 3
  have e4 := kY.cell 4
  have kB := (unhide HK12).below b13 (unhide HK12).lt
  have b1 := kB.cell 1
  have b2 := kB.cell 2
  have b3 := kB.cell 3
  have b4 := kB.cell 4
  simp only [List.getElem?_toArray, List.getElem?_cons_zero, List.getElem?_cons_succ] at e1 e2 e3 e4 b1 b2 b3 b4
  have HX13 := hide ((unhide HX12).trans (b13.mono (unhide HX12).size))
  have HKY := hide kY
  have HKB := hide kB
  clear HC12 HX11 HK11 HX12 HK12 x12 b13 kY kB d0 HS11' HGt
  by_cases hse : xs = 2 ∧ xe = 1
  · obtain ⟨rfl, rfl⟩ := hse
    obtain ⟨hV1, hV2⟩ := unhide HV
    rw [hV1, hV2] at HHE
    clear hV1 hV2 HV
    go_wp2_with fail
    clear e1 e2 e3 e4 b1 b2 b3 b4
    generalize w12.alloc (.cells #[.string ⟨#[]⟩, .int .i64 0, .int .i64 0, .int .i64 0, .int .i64 0] 37) = W at *
    generalize w12.heap.size = gy at *
    go_loopw [20, 21, 22, 24, 25, 26, 179] (fun v20 v21 v22 v24 v25 v26 v179 wx => ((∃ z, v24 = z) ∧ (∃ z, v25 = z) ∧ (∃ z, v26 = z)) ∧ (∃ (k : Nat) (K T F : Int), v179 = .int .i64 (k : Int) ∧ v20 = .int .i64 K ∧ v21 = .int .i64 T ∧ v22 = .int .i64 F ∧ k ≤ d.length ∧ Hid (KpI d xl.toNat xh.toNat k K T F)) ∧ Hid (Below W.heap.size W wx)) (fun _ _ _ _ _ _ v179 _ => d.length - (intOf v179).toNat)
    case atStart => exact ⟨⟨⟨_, rfl⟩, ⟨_, rfl⟩, ⟨_, rfl⟩⟩, ⟨0, 0, 0, -1, rfl, rfl, rfl, rfl, Nat.zero_le _, hide (KpI.start d _ _)⟩, hide (Below.refl _ _)⟩
    case round =>
      obtain ⟨⟨⟨z1, rfl⟩, ⟨z2, rfl⟩, ⟨z3, rfl⟩⟩, ⟨k, K, T, F, rfl, rfl, rfl, rfl, hk', HI⟩, HB⟩ := hrel
      by_cases hlt : k < d.length
      · skip
        have hdl := unhide HDL
        have t1 : decide ((k : Int) < (d.length : Int)) = true := decide_eq_true (by omega)
        obtain ⟨ga, off, rfl, hga, c0, c1, c2⟩ := (unhide HOO wr ((unhide HX13).trans ((unhide HB).mono (unhide HX13).size))).three hlt
        obtain ⟨hv, hfn, r1, r2, r3⟩ := unhide HFA
        have hx := valB_op hv (getD_memD hlt)
        have hz2 := (valB_nn hv).2
        have hIt := (unhide HI).t
        have hTd : T ≤ frD d := by omega
        have hI0 := (unhide HI).t0
        have hIk := (unhide HI).k0
        have hIe := (unhide HI).e
        have hKm := kpA_le (dA d) xl.toNat xh.toNat
        have HIP := hide fun ho => (unhide HI).put hlt ho
        have HID := hide fun ho hn => (unhide HI).del hlt ho hn
        have HIK := hide fun ho hn => (unhide HI).keep hlt ho hn (by omega)
        have hfr := frD_dropN d hlt
        have bA := (Below.refl wr.heap.size wr).alloc (Nat.le_refl _) (.cells #[.int .i64 (d.getD k opZ).k, .int .i64 (d.getD k opZ).n, .string (strOfNums (d.getD k opZ).t)] 61)
        have kA := Cls.new wr 61 #[.int .i64 (d.getD k opZ).k, .int .i64 (d.getD k opZ).n, .string (strOfNums (d.getD k opZ).t)]
        have HBA := hide ((unhide HB).trans (bA.mono (unhide HB).size))
        have kM := (unhide HKB).below (unhide HBA) (unhide HKB).lt
        have m1 := kM.cell 1
        have m2 := kM.cell 2
        have a0 := kA.cell 0
        have a1 := kA.cell 1
        simp only [List.getElem?_toArray, List.getElem?_cons_zero, List.getElem?_cons_succ] at m1 m2 a0 a1
        rw [show ((xl.toNat : Nat) : Int) = xl by omega, show ((xh.toNat : Nat) : Int) = xh by omega] at HIK
        generalize d.getD k opZ = x at *
        obtain ⟨yk, yn, yt⟩ := x
        dsimp only at c0 c1 c2 hx a0 a1 HIP HID HIK HBA m1 m2 hfr
        clear kA kM bA HI HB HKY HHE HFA HOO hk'
        have hKb : K ≤ 268435456 := by omega
        clear hIe hKm
        rcases hx with ⟨hx, hn1, rfl⟩ | ⟨rfl, rfl, hne⟩
        · have hTn : T + yn ≤ 268435456 := by
            have e : (frN ⟨yk, yn, []⟩ : Nat) = yn.toNat := by rcases hx with rfl | rfl <;> simp [frN]
            rw [e] at hfr
            omega
          obtain ⟨A, hA⟩ : ∃ A, max T xl = A := ⟨_, rfl⟩
          obtain ⟨Bm, hBm⟩ : ∃ Bm, min (T + yn) xh = Bm := ⟨_, rfl⟩
          have hAb : 0 ≤ A ∧ A ≤ 268435456 := by omega
          have hBb : 0 ≤ Bm ∧ Bm ≤ 268435456 := by omega
          clear hfr hfn hv hga HX13 hz2 hIt
          rcases hx with rfl | rfl
          · go_upto_region 27 with fail
            generalize wr.alloc (.cells #[.int .i64 1, .int .i64 yn, .string (strOfNums [])] 61) = wa at *
            have HBD := hide ((unhide HBA).trans ((Below.refl W.heap.size wa).drew))
            have hK := (unhide HIK) rfl hn1
            rw [hA, hBm] at hK
            clear HIK HID HIP HBA c0 c1 c2
            go_region
            by_cases hab : A < Bm
            · have u1 : decide (A < Bm) = true := decide_eq_true hab
              have hN := hK.1 hab
              clear hK
              by_cases hF : F < 0
              · have u2 : decide (F < 0) = true := decide_eq_true hF
                rw [if_pos hF] at hN
                have HN := hide hN
                clear hN hF
                go_wp2_with fail
                go_roundw
                case rel => exact ⟨⟨⟨_, rfl⟩, ⟨_, rfl⟩, ⟨_, rfl⟩⟩, ⟨k + 1, _, _, _, rfl, rfl, rfl, rfl, hlt, HN⟩, HBD⟩
                case measure => simp [intOf]; omega
              · have u2 : decide (F < 0) = false := decide_eq_false hF
                rw [if_neg hF] at hN
                have HN := hide hN
                clear hN
                go_wp2_with fail
                go_roundw
                case rel => exact ⟨⟨⟨_, rfl⟩, ⟨_, rfl⟩, ⟨_, rfl⟩⟩, ⟨k + 1, _, _, _, rfl, rfl, rfl, rfl, hlt, HN⟩, HBD⟩
                case measure => simp [intOf]; omega
            · have u1 : decide (A < Bm) = false := decide_eq_false hab
              have HN := hide (hK.2 hab)
              clear hK
              go_wp2_with fail
              go_roundw
              case rel => exact ⟨⟨⟨_, rfl⟩, ⟨_, rfl⟩, ⟨_, rfl⟩⟩, ⟨k + 1, _, _, _, rfl, rfl, rfl, rfl, hlt, HN⟩, HBD⟩
              case measure => simp [intOf]; omega
          · go_upto_region 27 with fail
            generalize wr.alloc (.cells #[.int .i64 3, .int .i64 yn, .string (strOfNums [])] 61) = wa at *
            have HBD := hide ((unhide HBA).trans ((Below.refl W.heap.size wa).drew))
            have HN := hide ((unhide HID) rfl hn1)
            clear HIK HID HIP HBA c0 c1 c2
            go_region
            go_wp2_with fail
            go_roundw
            case rel => exact ⟨⟨⟨_, rfl⟩, ⟨_, rfl⟩, ⟨_, rfl⟩⟩, ⟨k + 1, _, _, _, rfl, rfl, rfl, rfl, hlt, HN⟩, HBD⟩
            case measure => simp [intOf]; omega
        · have HN := hide ((unhide HIP) rfl)
          clear HIK HID HIP
          go_wp2_with fail
          go_roundw
          case rel => exact ⟨⟨⟨_, rfl⟩, ⟨_, rfl⟩, ⟨_, rfl⟩⟩, ⟨k + 1, _, _, _, rfl, rfl, rfl, rfl, hlt, HN⟩, HBA⟩
          case measure => simp [intOf]; omega
      · have t1 : decide ((k : Int) < (d.length : Int)) = false := decide_eq_false (by omega)
        obtain rfl : k = d.length := by omega
        have hK := (unhide HI).done
        have hF := (unhide HI).f
        have hH := unhide HHE
        rw [← hK] at hH
        have kY := (unhide HKY).below (unhide HB) (unhide HKY).lt
        have e1 := kY.cell 1
        have e2 := kY.cell 2
        simp only [List.getElem?_toArray, List.getElem?_cons_zero, List.getElem?_cons_succ] at e1 e2
        have HXE := hide ((unhide HX13).trans ((unhide HB).mono (unhide HX13).size))
        have hp : K = 0 := by
          rcases hF with h0 | h0
          · exact h0.2
          · have := hH.2 (by omega)
            omega
        subst hp
        clear kY HI HB HKY HKB HX13 HHE HOO HFA HDL hlt hk' hK hH
        obtain ⟨hs1, hs2⟩ := unhide HSM
        clear HSM
        go_wp2_with fail
        refine bodyPost_ret (results_tmp rfl _ _ _) rfl ⟨rfl, unhide HXE⟩
  · have t3 : (xs != 2 || xe != 1) = true := by
      by_cases h1 : xs = 2
      · have h2 : xe ≠ 1 := fun h => hse ⟨h1, h⟩
        simp [h2]
      · simp [h1]
    clear HHE HFA HOO HV
    by_cases h1 : xs = 2
    · subst h1
      have t4 : (xe != 1) = true := by simpa using t3
      have t4' : (xe == 1) = false := by simpa using t4
      clear t3 hse
      go_wp2_with fail
      refine bodyPost_ret (results_tmp rfl _ _ _) rfl ⟨rfl, unhide HX13⟩
    · have t4 : (xs != 2) = true := by simpa using h1
      have t4' : (xs == 2) = false := by simpa using h1
      clear t3 hse h1
      go_wp2_with fail
      refine bodyPost_ret (results_tmp rfl _ _ _) rfl ⟨rfl, unhide HX13⟩
end Go.Proofs.Ytokcglacdphobaa
