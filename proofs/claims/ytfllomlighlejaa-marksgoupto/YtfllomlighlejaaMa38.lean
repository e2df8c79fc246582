/- Layer 15: a nil *Marks; the law's fixed facts. · Layer 15, the document's: before, put, Find, without. -/
import Derived.Test.YtfllomlighlejaaMa37
import Derived.Test.YtfllomlighlejaaMa13
import Derived.Deep.QuietTactic
import Derived.BigQuiet
import Derived.WalkSmall

section
namespace Go.Proofs.Ytfllomlighlejaa
open Go.ChangeShapes Go.WideShapes Go.ChangeAt Go.RowKit
attribute [local go_sem] Oper.semAt_some

set_option maxRecDepth 100000 in
set_option maxHeartbeats 1000000 in
theorem MLenN_at (X : World) : Calls Try.prog 10 #[.pointer none] X fun y X' => y = .returned (.int .i64 0) ∧ Below X.heap.size X X' := by
  go_enter Try.func10, Try.ntmps10
  go_wp2_with fail
  refine bodyPost_ret (results_tmp rfl _ _ _) rfl ⟨rfl, Below.refl _ _⟩
set_option maxRecDepth 100000 in
set_option maxHeartbeats 1000000 in
theorem MDropN_at (s : ByteArray) (X : World) : Calls Try.prog 17 #[.pointer none, .string s] X fun y X' => y = .returned (.tuple #[.pointer none, .int .i64 1]) ∧ Below X.heap.size X X' := by
  go_enter Try.func17, Try.ntmps17
  go_wp2_with fail
  refine bodyPost_ret (results_tmp2 rfl _ _ _) rfl ⟨rfl, Below.refl _ _⟩
set_option maxRecDepth 100000 in
set_option maxHeartbeats 1000000 in
theorem MBetweenN_at (a b : Int) (X : World) : Calls Try.prog 14 #[.pointer none, .int .i64 a, .int .i64 b] X fun y X' => y = .returned (.slice none 0 0) ∧ Below X.heap.size X X' := by
  go_enter Try.func14, Try.ntmps14
  go_wp2_with fail
  refine bodyPost_ret (results_tmp rfl _ _ _) rfl ⟨rfl, Below.refl _ _⟩
set_option maxRecDepth 100000 in
set_option maxHeartbeats 1000000 in
theorem MBehN_at (v : Value) (X : World) : Calls Try.prog 7 #[.pointer none, v] X fun y X' => y = .returned (.tuple #[.pointer none, .int .i64 1]) ∧ Below X.heap.size X X' := by
  go_enter Try.func7, Try.ntmps7
  go_wp2_with fail
  refine bodyPost_ret (results_tmp2 rfl _ _ _) rfl ⟨rfl, Below.refl _ _⟩
set_option maxRecDepth 100000 in
set_option maxHeartbeats 1000000 in
theorem MGetN_at (s : ByteArray) (X : World) : Calls Try.prog 12 #[.pointer none, .string s] X fun y X' => y = .returned (.tuple #[.agg #[.string ⟨#[]⟩, .int .i64 0, .int .i64 0], .bool false]) ∧ Below X.heap.size X X' := by
  have b0 := (Below.refl X.heap.size X).alloc (Nat.le_refl _) (.cells #[.string ⟨#[]⟩, .int .i64 0, .int .i64 0] 42)
  have k0 := Cls.new X 42 #[.string ⟨#[]⟩, .int .i64 0, .int .i64 0]
  have HB := hide b0
  have f0 := k0.frozen 0
  have f1 := k0.frozen 1
  have f2 := k0.frozen 2
  have e0 := k0.cell 0
  have e1 := k0.cell 1
  have e2 := k0.cell 2
  simp only [List.getElem?_toArray, List.getElem?_cons_zero, List.getElem?_cons_succ] at e0 e1 e2
  clear b0 k0
  go_enter Try.func12, Try.ntmps12
  go_wp2_with fail
  refine bodyPost_ret (v := .tuple #[.agg #[.string ⟨#[]⟩, .int .i64 0, .int .i64 0], .bool false]) (by simp [results, Try.results12, go_sem, e0, e1, e2]) rfl ⟨rfl, unhide HB⟩
set_option maxRecDepth 100000 in
set_option maxHeartbeats 1000000 in
theorem MListN_at (X : World) : Calls Try.prog 11 #[.pointer none] X fun y X' => y = .returned (.slice none 0 0) ∧ Below X.heap.size X X' := by
  have H1 := hide (MLenN_at X)
  have H2 := hide fun (Y : World) (a b : Int) => MBetweenN_at a b Y
  go_enter Try.func11, Try.ntmps11
  go_wp2_with fail
  refine (unhide H1).mono ?_
  rintro y w1 ⟨rfl, x1⟩
  dsimp only
  have HX1 := hide x1
  have HC := hide (unhide H2 w1 0 0)
  clear H1 H2 x1
  go_wp2_with fail
  refine (unhide HC).mono ?_
  rintro y w2 ⟨rfl, x2⟩
  dsimp only
  have HX2 := hide ((unhide HX1).trans (x2.mono (unhide HX1).size))
  clear HC HX1 x2
  go_wp2_with fail
  refine bodyPost_ret (results_tmp rfl _ _ _) rfl ⟨rfl, unhide HX2⟩
set_option maxRecDepth 100000 in
set_option maxHeartbeats 1000000 in
theorem MSetN_at (x : Mk) (X : World) : Calls Try.prog 16 #[.pointer none, mkV x] X fun y X' => y = .returned (.tuple #[.pointer none, .int .i64 1]) ∧ Below X.heap.size X X' := by
  obtain ⟨xn, xp, xg⟩ := x
  unfold mkV
  dsimp only
  have HR : Hid (∀ Y : World, Calls Try.prog 29 #[.pointer none, .agg #[.string xn, .int .i64 xp, .int .i64 xg]] Y fun y X' => y = .returned (.int .i64 1) ∧ Below Y.heap.size Y X') := hide fun Y => by
    have HB := hide ((Below.refl Y.heap.size Y).alloc (Nat.le_refl _) (.cells #[.string xn, .int .i64 xp, .int .i64 xg] 42))
    go_enter Try.func29, Try.ntmps29
    go_wp2_with fail
    refine bodyPost_ret (results_tmp rfl _ _ _) rfl ⟨rfl, unhide HB⟩
  have b1 := (Below.refl X.heap.size X).alloc (Nat.le_refl _) (.cells #[.string xn, .int .i64 xp, .int .i64 xg] 42)
  have k1 := Cls.new X 42 #[.string xn, .int .i64 xp, .int .i64 xg]
  have d0 := k1.cell 0
  have d1 := k1.cell 1
  have d2 := k1.cell 2
  simp only [List.getElem?_toArray, List.getElem?_cons_zero, List.getElem?_cons_succ] at d0 d1 d2
  have HB := hide b1
  have HC := hide (unhide HR (X.alloc (.cells #[.string xn, .int .i64 xp, .int .i64 xg] 42)))
  clear b1 k1 HR
  go_enter Try.func16, Try.ntmps16
  go_wp2_with fail
  refine (unhide HC).mono ?_
  rintro y w1 ⟨rfl, x1⟩
  dsimp only
  have HX := hide ((unhide HB).trans (x1.mono (unhide HB).size))
  clear HC HB x1 d0 d1 d2
  go_wp2_with fail
  refine bodyPost_ret (results_tmp2 rfl _ _ _) rfl ⟨rfl, unhide HX⟩

def exL : Mk := ⟨⟨#[108]⟩, 2, 1⟩
def exRm : Mk := ⟨⟨#[114]⟩, 2, 2⟩
def exD15 : List Dop := [⟨1, 2, []⟩, ⟨2, 0, [120, 121]⟩, ⟨1, 3, []⟩]
theorem ex15_v : valB exD15 = true ∧ frD exD15 = 5 ∧ toD exD15 = 7 := by decide
theorem ex15_p : plV exD15 2 2 = 4 := by decide
theorem ex15_r : refM 5 [] exL = 0 ∧ refM 5 [exL] exRm = 0 := by decide
theorem ex15_u : Unl [exL, exRm] := by unfold Unl; decide
theorem ex15_put : putM exL [] = [exL] ∧ putM exRm [exL] = [exL, exRm] := ⟨rfl, rfl⟩
theorem ex15_f : [exL, exRm].filter (inM 0 5) = [exL, exRm] ∧ [exL].filter (inM 0 5) = [exL] ∧ [exL, exRm].filter (inM 2 2) = [exL, exRm] ∧ [exRm].filter (inM 0 5) = [exRm] := ⟨rfl, rfl, rfl, rfl⟩
theorem ex15_g {S : List Mk} (h : S.Perm [exL, exRm]) : ((getM ⟨#[114]⟩ (S.map (mvM exD15))).map mkV).getD (.agg #[.string ⟨#[]⟩, .int .i64 0, .int .i64 0]) = .agg #[.string ⟨#[114]⟩, .int .i64 4, .int .i64 2] ∧ (getM ⟨#[114]⟩ (S.map (mvM exD15))).isSome = true := by
  have hu : Unl (S.map (mvM exD15)) := by
    unfold Unl
    have e : (S.map (mvM exD15)).map (·.n) = S.map (·.n) := by simp [List.map_map, Function.comp_def, mvM_n]
    rw [e]
    exact (ex15_u.perm h.symm)
  have hm : mvM exD15 exRm ∈ S.map (mvM exD15) := List.mem_map.2 ⟨exRm, h.mem_iff.2 (by simp), rfl⟩
  rw [getM_is (s := ⟨#[114]⟩) hu hm rfl]
  refine ⟨?_, rfl⟩
  show mkV (mvM exD15 exRm) = _
  unfold mvM mkV exRm
  dsimp only
  rw [ex15_p]
theorem lit_isOM (X : World) (ds : List Dop) (cs : Array Value) (h : cs.toList = opsV ds) : IsO (X.alloc (.cells cs 50)) (some ⟨X.heap.size, 0, none⟩) ds := by
  refine Or.inr ⟨_, _, rfl, by simp, fun k hk => ?_⟩
  have f : ∀ j, (X.alloc (.cells cs 50)).cell? ⟨X.heap.size, j, none⟩ = cs[j]? := fun j => World.cell?_alloc_mark X _ _ (0, 0) j
  have g : ∀ j, j < 3 → cs[k * 3 + j]? = (opL (ds.getD k opZ))[j]? := fun j hj => by
    rw [← opsV_get ds k j hk hj, ← h, Array.getElem?_toList]
  refine ⟨?_, ?_, ?_⟩
  · rw [Nat.zero_add, f]; exact g 0 (by decide)
  · rw [Nat.zero_add, f]; exact g 1 (by decide)
  · rw [Nat.zero_add, f]; exact g 2 (by decide)
theorem len2 {E K : List Mk} {n : Nat} (h : E.Perm K) (hk : K.length = n) : E.length = n := h.length_eq.trans hk
set_option maxRecDepth 100000 in
set_option maxHeartbeats 4000000 in
theorem awake15_at (w : World) : Calls Try.prog 5 #[] w fun y w' => y = .returned (.bool true) ∧ Below w.heap.size w w' := by
  have HX0 := hide (Below.refl w.heap.size w)
  have HNew := hide fun (Y : World) (_ : Below w.heap.size w Y) => MNew_at 5 Y (by decide)
  have HLen := hide fun (Y : World) (_ : Below w.heap.size w Y) (g : Nat) (n : Int) (L : List Mk) (h : IsMs Y g n L) => MLen_at g n L Y h
  have HS1 := hide fun (Y : World) (_ : Below w.heap.size w Y) (g : Nat) (h : IsMs Y g 5 []) => MSet_at g 5 [] exL Y h ex15_r.1
  have HS2 := hide fun (Y : World) (_ : Below w.heap.size w Y) (g : Nat) (h : IsMs Y g 5 [exL]) => MSet_at g 5 [exL] exRm Y h ex15_r.2
  have HLi := hide fun (Y : World) (_ : Below w.heap.size w Y) (g : Nat) (n : Int) (L : List Mk) (hL : L.length ≤ 1048576) (h : IsMs Y g n L) => MList_at g n L Y h hL
  have HBt := hide fun (Y : World) (_ : Below w.heap.size w Y) (g : Nat) (h : IsMs Y g 5 [exL, exRm]) => MBtw_at g 5 [exL, exRm] 2 2 Y h (by simp)
  have HBe := hide fun (Y : World) (_ : Below w.heap.size w Y) (g : Nat) (h : IsMs Y g 5 [exL, exRm]) => MBeh_at g 5 [exL, exRm] (some ⟨Y.heap.size, 0, none⟩) 3 exD15 (Y.alloc (.cells #[.int .i64 1, .int .i64 2, .string ⟨#[]⟩, .int .i64 2, .int .i64 0, .string ⟨#[120, 121]⟩, .int .i64 1, .int .i64 3, .string ⟨#[]⟩] 50)) (h.below ((Below.refl _ _).alloc (Nat.le_refl _) _) (Nat.le_refl _)) (lit_isOM Y exD15 _ (by kernel_rfl)) (by decide) ex15_v.1 (by rw [ex15_v.2.1]; rfl) ex15_u
  have HDr := hide fun (Y : World) (_ : Below w.heap.size w Y) (g : Nat) (h : IsMs Y g 5 [exL, exRm]) => MDrop_at g 5 [exL, exRm] ⟨#[108]⟩ Y h exL rfl
  have HGe := hide fun (Y : World) (_ : Below w.heap.size w Y) (g : Nat) (S : List Mk) (hp : S.Perm [exL, exRm]) (h : IsMs Y g 7 (S.map (mvM exD15))) => ((MGet_at g 7 (S.map (mvM exD15)) ⟨#[114]⟩ Y h).mono fun y w' hh => (by rw [(ex15_g hp).1, (ex15_g hp).2] at hh; exact hh : y = .returned (.tuple #[.agg #[.string ⟨#[114]⟩, .int .i64 4, .int .i64 2], .bool true]) ∧ Below Y.heap.size Y w'))
  rw [show mkV exL = .agg #[.string ⟨#[108]⟩, .int .i64 2, .int .i64 1] from rfl, ex15_put.1] at HS1
  rw [show mkV exRm = .agg #[.string ⟨#[114]⟩, .int .i64 2, .int .i64 2] from rfl, ex15_put.2] at HS2
  rw [show exD15.length = 3 from rfl, ex15_v.2.2] at HBe
  rw [show delM ⟨#[108]⟩ [exL, exRm] = [exRm] from rfl] at HDr
  go_enter Try.func5, Try.ntmps5
  have HC1 := hide (unhide HNew w (unhide HX0))
  go_wp2_with fail
  refine (unhide HC1).mono ?_
  rintro y w1 ⟨g1, rfl, _, s1, x1⟩
  dsimp only
  have HX1 := hide ((unhide HX0).trans (x1.mono (unhide HX0).size))
  have S1_1 := hide (s1)
  clear HC1 HX0 x1  s1 HNew
  have HC2 := hide (unhide HLen w1 (unhide HX1) g1 5 [] (unhide S1_1))
  go_wp2_with fail
  refine (unhide HC2).mono ?_
  rintro y w2 ⟨rfl, x2⟩
  dsimp only
  have HX2 := hide ((unhide HX1).trans (x2.mono (unhide HX1).size))
  have S1_2 := hide ((unhide S1_1).below x2 (Nat.le_refl _))
  clear HC2 HX1 x2 S1_1 
  have HC3 := hide (unhide HS1 w2 (unhide HX2) g1 (unhide S1_2))
  go_wp2_with fail
  refine (unhide HC3).mono ?_
  rintro y w3 ⟨g2, rfl, s2, x3⟩
  dsimp only
  have HX3 := hide ((unhide HX2).trans (x3.mono (unhide HX2).size))
  have S1_3 := hide ((unhide S1_2).below x3 (Nat.le_refl _))
  have S2_3 := hide (s2)
  clear HC3 HX2 x3 S1_2 s2 HS1
  have HC4 := hide (unhide HS2 w3 (unhide HX3) g2 (unhide S2_3))
  go_wp2_with fail
  refine (unhide HC4).mono ?_
  rintro y w4 ⟨g3, rfl, s3, x4⟩
  dsimp only
  have HX4 := hide ((unhide HX3).trans (x4.mono (unhide HX3).size))
  have S1_4 := hide ((unhide S1_3).below x4 (Nat.le_refl _))
  have S2_4 := hide ((unhide S2_3).below x4 (Nat.le_refl _))
  have S3_4 := hide (s3)
  clear HC4 HX3 x4 S1_3 S2_3 s3 HS2
  have HC5 := hide (unhide HLi w4 (unhide HX4) g3 5 [exL, exRm] (by simp) (unhide S3_4))
  go_wp2_with fail
  refine (unhide HC5).mono ?_
  rintro y w5 ⟨a5, c5, E5, rfl, p5, _, _, x5⟩
  dsimp only
  have HX5 := hide ((unhide HX4).trans (x5.mono (unhide HX4).size))
  have S1_5 := hide ((unhide S1_4).below x5 (Nat.le_refl _))
  have S2_5 := hide ((unhide S2_4).below x5 (Nat.le_refl _))
  have S3_5 := hide ((unhide S3_4).below x5 (Nat.le_refl _))
  clear HC5 HX4 x5 S1_4 S2_4 S3_4 
  have z5 : E5.length = 2 := len2 p5 rfl
  clear p5
  rw [z5]
  have HC6 := hide (unhide HLi w5 (unhide HX5) g2 5 [exL] (by simp) (unhide S2_5))
  go_wp2_with fail
  refine (unhide HC6).mono ?_
  rintro y w6 ⟨a6, c6, E6, rfl, p6, _, _, x6⟩
  dsimp only
  have HX6 := hide ((unhide HX5).trans (x6.mono (unhide HX5).size))
  have S1_6 := hide ((unhide S1_5).below x6 (Nat.le_refl _))
  have S2_6 := hide ((unhide S2_5).below x6 (Nat.le_refl _))
  have S3_6 := hide ((unhide S3_5).below x6 (Nat.le_refl _))
  clear HC6 HX5 x6 S1_5 S2_5 S3_5 
  have z6 : E6.length = 1 := len2 p6 rfl
  clear p6 z5
  rw [z6]
  have HC7 := hide (unhide HBt w6 (unhide HX6) g3 (unhide S3_6))
  go_wp2_with fail
  refine (unhide HC7).mono ?_
  rintro y w7 ⟨a7, c7, E7, rfl, p7, _, _, x7⟩
  dsimp only
  have HX7 := hide ((unhide HX6).trans (x7.mono (unhide HX6).size))
  have S1_7 := hide ((unhide S1_6).below x7 (Nat.le_refl _))
  have S2_7 := hide ((unhide S2_6).below x7 (Nat.le_refl _))
  have S3_7 := hide ((unhide S3_6).below x7 (Nat.le_refl _))
  clear HC7 HX6 x7 S1_6 S2_6 S3_6 HBt
  have z7 : E7.length = 2 := len2 p7 rfl
  clear p7 z6
  rw [z7]
  clear z7
  have HC8 := hide (unhide HBe w7 (unhide HX7) g3 (unhide S3_7))
  go_wp2_with fail
  refine (unhide HC8).mono ?_
  rintro y w8 ⟨g8, S, rfl, hp, s8, x8⟩
  dsimp only
  have b8 := (Below.refl w7.heap.size w7).alloc (Nat.le_refl _) (.cells #[.int .i64 1, .int .i64 2, .string ⟨#[]⟩, .int .i64 2, .int .i64 0, .string ⟨#[120, 121]⟩, .int .i64 1, .int .i64 3, .string ⟨#[]⟩] 50)
  have y8 := b8.trans (x8.mono b8.size)
  have HX8 := hide ((unhide HX7).trans (y8.mono (unhide HX7).size))
  have S3_8 := hide ((unhide S3_7).below y8 (Nat.le_refl _))
  have S8_8 := hide s8
  have HP8 := hide hp
  clear HC8 HX7 x8 y8 b8 S1_7 S2_7 S3_7 s8 hp HBe
  have HC9 := hide (unhide HDr w8 (unhide HX8) g3 (unhide S3_8))
  go_wp2_with fail
  refine (unhide HC9).mono ?_
  rintro y w9 ⟨g9, rfl, s9, x9⟩
  dsimp only
  have HX9 := hide ((unhide HX8).trans (x9.mono (unhide HX8).size))
  have S3_9 := hide ((unhide S3_8).below x9 (Nat.le_refl _))
  have S8_9 := hide ((unhide S8_8).below x9 (Nat.le_refl _))
  have S9_9 := hide (s9)
  clear HC9 HX8 x9 S3_8 S8_8 s9 HDr
  have HC10 := hide (unhide HLi w9 (unhide HX9) g9 5 [exRm] (by simp) (unhide S9_9))
  go_wp2_with fail
  refine (unhide HC10).mono ?_
  rintro y w10 ⟨a10, c10, E10, rfl, p10, _, _, x10⟩
  dsimp only
  have HX10 := hide ((unhide HX9).trans (x10.mono (unhide HX9).size))
  have S3_10 := hide ((unhide S3_9).below x10 (Nat.le_refl _))
  have S8_10 := hide ((unhide S8_9).below x10 (Nat.le_refl _))
  have S9_10 := hide ((unhide S9_9).below x10 (Nat.le_refl _))
  clear HC10 HX9 x10 S3_9 S8_9 S9_9 
  have z10 : E10.length = 1 := len2 p10 rfl
  clear p10
  rw [z10]
  clear z10
  have HC11 := hide (unhide HLen w10 (unhide HX10) g8 7 _ (unhide S8_10))
  go_wp2_with fail
  refine (unhide HC11).mono ?_
  rintro y w11 ⟨rfl, x11⟩
  dsimp only
  have HX11 := hide ((unhide HX10).trans (x11.mono (unhide HX10).size))
  have S3_11 := hide ((unhide S3_10).below x11 (Nat.le_refl _))
  have S8_11 := hide ((unhide S8_10).below x11 (Nat.le_refl _))
  have S9_11 := hide ((unhide S9_10).below x11 (Nat.le_refl _))
  clear HC11 HX10 x11 S3_10 S8_10 S9_10 HLen HLi
  have HC12 := hide (unhide HGe w11 (unhide HX11) g8 S (unhide HP8) (unhide S8_11))
  go_wp2_with fail
  refine (unhide HC12).mono ?_
  rintro y w12 ⟨rfl, x12⟩
  dsimp only
  have HX12 := hide ((unhide HX11).trans (x12.mono (unhide HX11).size))
  have S3_12 := hide ((unhide S3_11).below x12 (Nat.le_refl _))
  have S8_12 := hide ((unhide S8_11).below x12 (Nat.le_refl _))
  have S9_12 := hide ((unhide S9_11).below x12 (Nat.le_refl _))
  clear HC12 HX11 x12 S3_11 S8_11 S9_11 HGe HP8
  have hx := unhide HX12
  have k5 := Cls.new w12 42 #[.string ⟨#[114]⟩, .int .i64 4, .int .i64 2]
  have c0 := k5.cell 0
  have c1 := k5.cell 1
  have c2 := k5.cell 2
  simp only [List.getElem?_toArray, List.getElem?_cons_zero, List.getElem?_cons_succ] at c0 c1 c2
  have HB := hide (hx.alloc hx.size (.cells #[.string ⟨#[114]⟩, .int .i64 4, .int .i64 2] 42))
  clear hx k5 HX12
  go_wp2_with fail
  refine bodyPost_ret (results_tmp rfl _ _ _) rfl ⟨rfl, unhide HB⟩
end Go.Proofs.Ytfllomlighlejaa
end

section
namespace Go.Proofs.Ytfllomlighlejaa
open Go.ChangeShapes Go.WideShapes Go.ChangeAt Go.RowKit
attribute [local go_sem] Oper.semAt_some

set_option maxRecDepth 100000 in
set_option maxHeartbeats 1000000 in
theorem RBefore_at (x y : Mk) (W : World) :
    Calls Try.prog 49 #[mkV x, mkV y] W fun e W' => e = .returned (.bool (ltM x y)) ∧ Below W.heap.size W W' := by
  obtain ⟨xn, xp, xg⟩ := x
  obtain ⟨yn, yp, yg⟩ := y
  unfold mkV ltM
  dsimp only
  have b1 := (Below.refl W.heap.size W).alloc (Nat.le_refl _) (.cells #[.string xn, .int .i64 xp, .int .i64 xg] 42)
  have HB := hide (b1.alloc b1.size (.cells #[.string yn, .int .i64 yp, .int .i64 yg] 42))
  generalize hbl : Op.bytesLess xn.toList yn.toList = bl
  by_cases h1 : xp < yp
  · have t1 : decide (xp < yp) = true := decide_eq_true h1
    rw [t1, Bool.true_or]
    clear h1 b1
    go_enter Try.func49, Try.ntmps49
    go_wp2_with fail
    refine bodyPost_ret (results_tmp rfl _ _ _) rfl ⟨rfl, unhide HB⟩
  · have t1 : decide (xp < yp) = false := decide_eq_false h1
    by_cases h2 : xp = yp
    · subst h2
      have t2 : decide (xp = xp) = true := decide_eq_true rfl
      rw [t1, t2, Bool.false_or, Bool.true_and]
      clear h1 b1 t2
      go_enter Try.func49, Try.ntmps49
      go_wp2_with fail
      refine bodyPost_ret (results_tmp rfl _ _ _) rfl ⟨rfl, unhide HB⟩
    · have t2 : decide (xp = yp) = false := decide_eq_false h2
      have t2' : (xp == yp) = false := by simpa using h2
      rw [t1, t2, Bool.false_or, Bool.false_and]
      clear h1 h2 b1 t2
      go_enter Try.func49, Try.ntmps49
      go_wp2_with fail
      refine bodyPost_ret (results_tmp rfl _ _ _) rfl ⟨rfl, unhide HB⟩
end Go.Proofs.Ytfllomlighlejaa
end
