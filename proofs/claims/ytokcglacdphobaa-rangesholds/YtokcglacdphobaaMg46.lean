/- Layer 16: a nil *Ranges; what Behind refuses. · Layer 16: the law's fixed fact; RangesNil. · Layer 16: what Behind refuses. -/
import Derived.Test.YtokcglacdphobaaMg45
import Derived.Test.YtokcglacdphobaaMg22

section
namespace Go.Proofs.Ytokcglacdphobaa
open Go.ChangeShapes Go.WideShapes Go.ChangeAt Go.RowKit
attribute [local go_sem] Oper.semAt_some

set_option maxRecDepth 100000 in
set_option maxHeartbeats 1000000 in
theorem GLenN_at (X : World) : Calls Try.prog 25 #[.pointer none] X fun y X' => y = .returned (.int .i64 0) ∧ Below X.heap.size X X' := by
  go_enter Try.func25, Try.ntmps25
  go_wp2_with fail
  refine bodyPost_ret (results_tmp rfl _ _ _) rfl ⟨rfl, Below.refl _ _⟩
set_option maxRecDepth 100000 in
set_option maxHeartbeats 1000000 in
theorem GDropN_at (s : ByteArray) (X : World) : Calls Try.prog 24 #[.pointer none, .string s] X fun y X' => y = .returned (.tuple #[.pointer none, .int .i64 1]) ∧ Below X.heap.size X X' := by
  go_enter Try.func24, Try.ntmps24
  go_wp2_with fail
  refine bodyPost_ret (results_tmp2 rfl _ _ _) rfl ⟨rfl, Below.refl _ _⟩
set_option maxRecDepth 100000 in
set_option maxHeartbeats 1000000 in
theorem GOverN_at (a b : Int) (X : World) : Calls Try.prog 23 #[.pointer none, .int .i64 a, .int .i64 b] X fun y X' => y = .returned (.slice none 0 0) ∧ Below X.heap.size X X' := by
  go_enter Try.func23, Try.ntmps23
  go_wp2_with fail
  refine bodyPost_ret (results_tmp rfl _ _ _) rfl ⟨rfl, Below.refl _ _⟩
set_option maxRecDepth 100000 in
set_option maxHeartbeats 1000000 in
theorem GBehN_at (v : Value) (X : World) : Calls Try.prog 16 #[.pointer none, v] X fun y X' => y = .returned (.tuple #[.pointer none, .slice none 0 0, .int .i64 1]) ∧ Below X.heap.size X X' := by
  go_enter Try.func16, Try.ntmps16
  go_wp2_with fail
  refine bodyPost_ret (results_tmp3 rfl _ _) rfl ⟨rfl, Below.refl _ _⟩
set_option maxRecDepth 100000 in
set_option maxHeartbeats 1000000 in
theorem GGetN_at (s : ByteArray) (X : World) : Calls Try.prog 20 #[.pointer none, .string s] X fun y X' => y = .returned (.tuple #[.agg #[.string ⟨#[]⟩, .int .i64 0, .int .i64 0, .int .i64 0, .int .i64 0], .bool false]) ∧ Below X.heap.size X X' := by
  have b0 := (Below.refl X.heap.size X).alloc (Nat.le_refl _) (.cells #[.string ⟨#[]⟩, .int .i64 0, .int .i64 0, .int .i64 0, .int .i64 0] 37)
  have k0 := Cls.new X 37 #[.string ⟨#[]⟩, .int .i64 0, .int .i64 0, .int .i64 0, .int .i64 0]
  have HB := hide b0
  have f0 := k0.frozen 0
  have f1 := k0.frozen 1
  have f2 := k0.frozen 2
  have f3 := k0.frozen 3
  have f4 := k0.frozen 4
  have e0 := k0.cell 0
  have e1 := k0.cell 1
  have e2 := k0.cell 2
  have e3 := k0.cell 3
  have e4 := k0.cell 4
  simp only [List.getElem?_toArray, List.getElem?_cons_zero, List.getElem?_cons_succ] at e0 e1 e2 e3 e4
  clear b0 k0
  go_enter Try.func20, Try.ntmps20
  go_wp2_with fail
  refine bodyPost_ret (v := .tuple #[.agg #[.string ⟨#[]⟩, .int .i64 0, .int .i64 0, .int .i64 0, .int .i64 0], .bool false]) (by simp [results, Try.results20, go_sem, e0, e1, e2, e3, e4]) rfl ⟨rfl, unhide HB⟩
set_option maxRecDepth 100000 in
set_option maxHeartbeats 1000000 in
theorem GListN_at (X : World) : Calls Try.prog 14 #[.pointer none] X fun y X' => y = .returned (.slice none 0 0) ∧ Below X.heap.size X X' := by
  have H1 := hide (GLenN_at X)
  have H2 := hide fun (Y : World) (a b : Int) => GOverN_at a b Y
  go_enter Try.func14, Try.ntmps14
  go_wp2_with fail
  refine (unhide H1).mono ?_
  rintro y w1 ⟨rfl, x1⟩
  dsimp only
  have HX1 := hide x1
  have HC := hide (unhide H2 w1 0 0)
  clear H1 H2 x1
  go_wp2_with fail
  refine (unhide HC).mono ?_
  rintro y w2 ⟨rfl, x2⟩
  dsimp only
  have HX2 := hide ((unhide HX1).trans (x2.mono (unhide HX1).size))
  clear HC HX1 x2
  go_wp2_with fail
  refine bodyPost_ret (results_tmp rfl _ _ _) rfl ⟨rfl, unhide HX2⟩
set_option maxRecDepth 100000 in
set_option maxHeartbeats 1000000 in
theorem GCovN_at (X : World) : Calls Try.prog 22 #[.pointer none] X fun y X' => y = .returned (.slice none 0 0) ∧ Below X.heap.size X X' := by
  have H1 := hide (GListN_at X)
  go_enter Try.func22, Try.ntmps22
  go_wp2_with fail
  refine (unhide H1).mono ?_
  rintro y w1 ⟨rfl, x1⟩
  dsimp only
  have HX1 := hide x1
  clear H1 x1
  go_wp2_with fail
  go_loopw [3, 5, 6, 10] (fun v3 v5 v6 v10 wx => ((∃ z, v5 = z) ∧ (∃ z, v6 = z)) ∧ v3 = .slice none 0 0 ∧ v10 = .int .i64 0 ∧ Hid (Below X.heap.size X wx)) (fun _ _ _ _ _ => 0)
  case atStart => exact ⟨⟨⟨_, rfl⟩, ⟨_, rfl⟩⟩, rfl, rfl, HX1⟩
  case round =>
    obtain ⟨⟨⟨z1, rfl⟩, ⟨z2, rfl⟩⟩, rfl, rfl, HX⟩ := hrel
    clear HX1
    go_wp2_with fail
    refine bodyPost_ret (results_tmp rfl _ _ _) rfl ⟨rfl, unhide HX⟩
set_option maxRecDepth 100000 in
set_option maxHeartbeats 1000000 in
theorem GSetN_at (x : Rg) (X : World) : Calls Try.prog 13 #[.pointer none, rgV x] X fun y X' => y = .returned (.tuple #[.pointer none, .int .i64 1]) ∧ Below X.heap.size X X' := by
  obtain ⟨xn, xl, xh, xs, xe⟩ := x
  unfold rgV
  dsimp only
  have HR : Hid (∀ Y : World, Calls Try.prog 32 #[.pointer none, .agg #[.string xn, .int .i64 xl, .int .i64 xh, .int .i64 xs, .int .i64 xe]] Y fun y X' => y = .returned (.int .i64 1) ∧ Below Y.heap.size Y X') := hide fun Y => by
    have HB := hide ((Below.refl Y.heap.size Y).alloc (Nat.le_refl _) (.cells #[.string xn, .int .i64 xl, .int .i64 xh, .int .i64 xs, .int .i64 xe] 37))
    go_enter Try.func32, Try.ntmps32
    go_wp2_with fail
    refine bodyPost_ret (results_tmp rfl _ _ _) rfl ⟨rfl, unhide HB⟩
  have b1 := (Below.refl X.heap.size X).alloc (Nat.le_refl _) (.cells #[.string xn, .int .i64 xl, .int .i64 xh, .int .i64 xs, .int .i64 xe] 37)
  have k1 := Cls.new X 37 #[.string xn, .int .i64 xl, .int .i64 xh, .int .i64 xs, .int .i64 xe]
  have d0 := k1.cell 0
  have d1 := k1.cell 1
  have d2 := k1.cell 2
  have d3 := k1.cell 3
  have d4 := k1.cell 4
  simp only [List.getElem?_toArray, List.getElem?_cons_zero, List.getElem?_cons_succ] at d0 d1 d2 d3 d4
  have HB := hide b1
  have HC := hide (unhide HR (X.alloc (.cells #[.string xn, .int .i64 xl, .int .i64 xh, .int .i64 xs, .int .i64 xe] 37)))
  clear b1 k1 HR
  go_enter Try.func13, Try.ntmps13
  go_wp2_with fail
  refine (unhide HC).mono ?_
  rintro y w1 ⟨rfl, x1⟩
  dsimp only
  have HX := hide ((unhide HB).trans (x1.mono (unhide HB).size))
  clear HC HB x1 d0 d1 d2 d3 d4
  go_wp2_with fail
  refine bodyPost_ret (results_tmp2 rfl _ _ _) rfl ⟨rfl, unhide HX⟩
end Go.Proofs.Ytokcglacdphobaa
end

section
namespace Go.Proofs.Ytokcglacdphobaa
open Go.ChangeShapes Go.WideShapes Go.ChangeAt Go.RowKit
attribute [local go_sem] Oper.semAt_some

def exR : Rg := ⟨⟨#[97]⟩, 2, 5, 2, 1⟩
def exD16 : List Dop := [⟨1, 2, []⟩, ⟨2, 0, [120, 121]⟩, ⟨1, 8, []⟩]
theorem ex16_v : valB exD16 = true ∧ frD exD16 = 10 ∧ toD exD16 = 12 := by decide
theorem ex16_p : plV exD16 2 2 = 4 ∧ plV exD16 5 1 = 7 := by decide
theorem ex16_r : refG 10 [] exR = 0 := by decide
theorem ex16_k : kpG exD16 [exR] = [⟨⟨#[97]⟩, 4, 7, 2, 1⟩] ∧ goG exD16 [exR] = [] := by
  have e : mvG exD16 exR = ⟨⟨#[97]⟩, 4, 7, 2, 1⟩ := by
    unfold mvG exR
    dsimp only
    rw [ex16_p.1, ex16_p.2]
  unfold kpG goG
  rw [List.map_singleton, e]
  exact ⟨rfl, rfl⟩
theorem lit_isOR (X : World) (ds : List Dop) (cs : Array Value) (h : cs.toList = opsV ds) : IsO (X.alloc (.cells cs 61)) (some ⟨X.heap.size, 0, none⟩) ds := by
  refine Or.inr ⟨_, _, rfl, by simp, fun k hk => ?_⟩
  have f : ∀ j, (X.alloc (.cells cs 61)).cell? ⟨X.heap.size, j, none⟩ = cs[j]? := fun j => World.cell?_alloc_mark X _ _ (0, 0) j
  have g : ∀ j, j < 3 → cs[k * 3 + j]? = (opL (ds.getD k opZ))[j]? := fun j hj => by
    rw [← opsV_get ds k j hk hj, ← h, Array.getElem?_toList]
  refine ⟨?_, ?_, ?_⟩
  · rw [Nat.zero_add, f]; exact g 0 (by decide)
  · rw [Nat.zero_add, f]; exact g 1 (by decide)
  · rw [Nat.zero_add, f]; exact g 2 (by decide)
set_option maxRecDepth 100000 in
set_option maxHeartbeats 2000000 in
theorem awake16_at (X : World) : Calls Try.prog 9 #[] X fun y X' => y = .returned (.bool true) ∧ Below X.heap.size X X' := by
  have H1 := hide (GNew_at 10 X (by decide))
  have H2 := hide fun (Y : World) (g : Nat) (h : IsRs Y g 10 []) => GSet_at g 10 [] exR Y h ex16_r
  have H3 := hide fun (Y : World) (g : Nat) (h : IsRs Y g 10 [exR]) => GBeh_at g 10 [exR] (some ⟨Y.heap.size, 0, none⟩) 3 exD16 (Y.alloc (.cells #[.int .i64 1, .int .i64 2, .string ⟨#[]⟩, .int .i64 2, .int .i64 0, .string ⟨#[120, 121]⟩, .int .i64 1, .int .i64 8, .string ⟨#[]⟩] 61)) (h.below ((Below.refl _ _).alloc (Nat.le_refl _) _) (Nat.le_refl _)) (lit_isOR Y exD16 _ (by kernel_rfl)) (by decide) ex16_v.1 (by rw [ex16_v.2.1]; rfl) (by simp) (by simp)
  have H4 := hide fun (Y : World) (g : Nat) (h : IsRs Y g 12 [⟨⟨#[97]⟩, 4, 7, 2, 1⟩]) => GGet_at g 12 [⟨⟨#[97]⟩, 4, 7, 2, 1⟩] ⟨#[97]⟩ Y h
  rw [show ((getG ⟨#[97]⟩ [(⟨⟨#[97]⟩, 4, 7, 2, 1⟩ : Rg)]).map rgV).getD (.agg #[.string ⟨#[]⟩, .int .i64 0, .int .i64 0, .int .i64 0, .int .i64 0]) = .agg #[.string ⟨#[97]⟩, .int .i64 4, .int .i64 7, .int .i64 2, .int .i64 1] from rfl, show (getG ⟨#[97]⟩ [(⟨⟨#[97]⟩, 4, 7, 2, 1⟩ : Rg)]).isSome = true from rfl] at H4
  rw [show rgV exR = .agg #[.string ⟨#[97]⟩, .int .i64 2, .int .i64 5, .int .i64 2, .int .i64 1] from rfl, show putG exR [] = [exR] from rfl] at H2
  rw [show exD16.length = 3 from rfl, ex16_v.2.2] at H3
  go_enter Try.func9, Try.ntmps9
  go_wp2_with fail
  refine (unhide H1).mono ?_
  rintro y w1 ⟨g1, rfl, _, s1, x1⟩
  dsimp only
  have HX1 := hide x1
  have HC2 := hide (unhide H2 w1 g1 s1)
  clear H1 H2 s1 x1
  go_wp2_with fail
  refine (unhide HC2).mono ?_
  rintro y w2 ⟨g2, rfl, s2, x2⟩
  dsimp only
  have HX2 := hide ((unhide HX1).trans (x2.mono (unhide HX1).size))
  have HC3 := hide (unhide H3 w2 g2 s2)
  clear HC2 HX1 H3 s2 x2
  go_wp2_with fail
  refine (unhide HC3).mono ?_
  rintro y w3 ⟨g3, S, ag, cg, rfl, hp, s3, x3⟩
  dsimp only
  obtain rfl : S = [exR] := List.perm_singleton.1 hp
  rw [ex16_k.1] at s3
  rw [ex16_k.2]
  have b3 := (Below.refl w2.heap.size w2).alloc (Nat.le_refl _) (.cells #[.int .i64 1, .int .i64 2, .string ⟨#[]⟩, .int .i64 2, .int .i64 0, .string ⟨#[120, 121]⟩, .int .i64 1, .int .i64 8, .string ⟨#[]⟩] 61)
  have HX3 := hide ((unhide HX2).trans ((b3.trans (x3.mono b3.size)).mono (unhide HX2).size))
  have HC4 := hide (unhide H4 w3 g3 s3)
  clear HC3 HX2 H4 hp s3 x3 b3
  go_wp2_with fail
  refine (unhide HC4).mono ?_
  rintro y w4 ⟨rfl, x4⟩
  dsimp only
  have hx4 := (unhide HX3).trans (x4.mono (unhide HX3).size)
  have k5 := Cls.new w4 37 #[.string ⟨#[97]⟩, .int .i64 4, .int .i64 7, .int .i64 2, .int .i64 1]
  have c1 := k5.cell 1
  have c2 := k5.cell 2
  simp only [List.getElem?_toArray, List.getElem?_cons_zero, List.getElem?_cons_succ] at c1 c2
  have HB := hide (hx4.alloc hx4.size (.cells #[.string ⟨#[97]⟩, .int .i64 4, .int .i64 7, .int .i64 2, .int .i64 1] 37))
  clear HC4 HX3 x4 hx4 k5
  go_wp2_with fail
  refine bodyPost_ret (results_tmp rfl _ _ _) rfl ⟨rfl, unhide HB⟩
end Go.Proofs.Ytokcglacdphobaa
end

section
namespace Go.Proofs.Ytokcglacdphobaa
open Go.ChangeShapes Go.WideShapes Go.ChangeAt Go.RowKit
attribute [local go_sem] Oper.semAt_some

set_option maxRecDepth 100000 in
set_option maxHeartbeats 2000000 in
theorem GBehV_at (g : Nat) (a : Option Addr) (c : Nat) (d : List Dop) (X : World) (ho : IsO X a d) (hl : d.length ≤ 4611686018427387904) (hv : valB d = false) :
    Calls Try.prog 16 #[.pointer (some ⟨g, 0, none⟩), .slice a d.length c] X fun y X' => y = .returned (.tuple #[.pointer none, .slice none 0 0, .int .i64 130]) ∧ Below X.heap.size X X' := by
  have HLN := hide (Lens_at a c d X ho hl)
  unfold lensV at HLN
  rw [hv] at HLN
  simp only [Bool.false_eq_true, if_false] at HLN
  clear ho hl hv
  go_enter Try.func16, Try.ntmps16
  go_wp2_with fail
  refine (unhide HLN).mono ?_
  rintro y w1 ⟨rfl, x1⟩
  dsimp only
  have HX := hide x1
  clear HLN x1
  go_wp2_with fail
  refine bodyPost_ret (results_tmp3 rfl _ _) rfl ⟨rfl, unhide HX⟩
set_option maxRecDepth 100000 in
set_option maxHeartbeats 2000000 in
theorem GBehF_at (g : Nat) (n : Int) (L : List Rg) (a : Option Addr) (c : Nat) (d : List Dop) (X : World) (h : IsRs X g n L) (ho : IsO X a d) (hl : d.length ≤ 4611686018427387904) (hv : valB d = true) (hf : (frD d : Int) ≠ n) :
    Calls Try.prog 16 #[.pointer (some ⟨g, 0, none⟩), .slice a d.length c] X fun y X' => y = .returned (.tuple #[.pointer none, .slice none 0 0, .int .i64 131]) ∧ Below X.heap.size X X' := by
  have HLN := hide (Lens_at a c d X ho hl)
  unfold lensV at HLN
  rw [hv] at HLN
  simp only [if_true] at HLN
  have HS := hide h
  have t1 : ((frD d : Int) != n) = true := by simpa using hf
  have t1' : ((frD d : Int) == n) = false := by simpa using hf
  clear ho hl hv h hf
  generalize (frD d : Int) = FD at *
  generalize (toD d : Int) = TD at *
  go_enter Try.func16, Try.ntmps16
  go_wp2_with fail
  refine (unhide HLN).mono ?_
  rintro y w1 ⟨rfl, x1⟩
  dsimp only
  obtain ⟨r, kg, _⟩ := ((unhide HS).below x1 (Nat.le_refl _)).c
  have c0 := kg.cell 0
  simp only [List.getElem?_toArray, List.getElem?_cons_zero] at c0
  have HX := hide x1
  clear HLN x1 HS kg
  go_wp2_with fail
  refine bodyPost_ret (results_tmp3 rfl _ _) rfl ⟨rfl, unhide HX⟩
end Go.Proofs.Ytokcglacdphobaa
end
