/- Layer 19: the table of lengths: squares in one block; the closure that reads it. · Layer 19: the table of lengths is made. -/
import Derived.Test.YtkdnanlgkedjgabDoorDn24
import Derived.Laws.OwnMore

section
namespace Go.Proofs.YtkdnanlgkedjgabDoor
open Go.ChangeShapes Go.WideShapes Go.ChangeAt Go.RowKit
attribute [local go_sem] Oper.semAt_some

/-- a block of cells of sixteen bits -/
def TbB (X : World) (g M : Nat) (f : Nat → Nat) : Prop := ∃ cur : Array Value, X.heap[g]? = some (.cells cur 105 (0, 0)) ∧ cur.size = M ∧ ∀ k, k < M → cur[k]? = some (.int .u16 (f k : Int))
theorem TbB.cell {X : World} {g M : Nat} {f : Nat → Nat} (h : TbB X g M f) {k : Nat} (hk : k < M) : X.cell? ⟨g, k, none⟩ = some (.int .u16 (f k : Int)) := by
  obtain ⟨cur, h1, _, h3⟩ := h
  unfold World.cell?
  simp only [h1]
  exact h3 k hk
theorem TbB.lt {X : World} {g M : Nat} {f : Nat → Nat} (h : TbB X g M f) : g < X.heap.size := by
  obtain ⟨cur, h1, _⟩ := h
  exact (Array.getElem?_eq_some_iff.1 h1).1
theorem TbB.same {X Y : World} {g M : Nat} {f : Nat → Nat} (h : TbB X g M f) (hb : Y.heap[g]? = X.heap[g]?) : TbB Y g M f := by
  obtain ⟨cur, h1, h2⟩ := h
  exact ⟨cur, hb.trans h1, h2⟩
/-- where a number stands -/
def posT (ac i j : Nat) : Nat := (i / 32 * ac + j / 32) * 1024 + i % 32 * 32 + j % 32
set_option maxRecDepth 100000 in
theorem z_sq (w : World) : (sizeOf 105).run Tryd.prog w = .ok 1024 w := by rfl
set_option maxRecDepth 100000 in
theorem z_ar (w : World) : (sizeOf 103).run Tryd.prog w = .ok 32 w := by rfl
set_option maxRecDepth 100000 in
theorem z_u16 (w : World) : (sizeOf 102).run Tryd.prog w = .ok 1 w := by rfl
attribute [local go_sem] z_sq z_ar z_u16
theorem w64N (P : Nat) (h : P ≤ 4611686018427387904) : wrap64 (P : Int) = (P : Int) := by unfold wrap64; omega
theorem w64M {a b P : Nat} (hP : P = a * b) (h : P ≤ 4611686018427387904) : wrap64 ((a : Int) * (b : Int)) = (P : Int) := by rw [← Int.natCast_mul, ← hP]; exact w64N _ h
theorem w64A {a b P : Nat} (hP : P = a + b) (h : P ≤ 4611686018427387904) : wrap64 ((a : Int) + (b : Int)) = (P : Int) := by rw [← Int.natCast_add, ← hP]; exact w64N _ h
theorem pos_lt {A Q I2 J2 : Nat} (h : A < Q) (h2 : I2 < 32) (h3 : J2 < 32) : A * 1024 + I2 * 32 + J2 < Q * 1024 := by omega
theorem div_i (i : Nat) : (i : Int) / 32 = ((i / 32 : Nat) : Int) ∧ (i : Int) % 32 = ((i % 32 : Nat) : Int) ∧ i / 32 ≤ i ∧ i % 32 < 32 ∧ ((i % 32 : Nat) : Int) < 32 ∧ (0 : Int) ≤ ((i % 32 : Nat) : Int) := by omega
theorem lt_i {a b : Nat} (h : a < b) : (a : Int) < (b : Int) ∧ (0 : Int) ≤ (a : Int) := by omega
set_option maxRecDepth 100000 in
set_option maxHeartbeats 2000000 in
theorem len1_at (gS gA g Q ac i j : Nat) (f : Nat → Nat) (X : World) (hS : X.cell? ⟨gS, 0, none⟩ = some (.slice (some ⟨g, 0, none⟩) Q Q)) (hA : X.cell? ⟨gA, 0, none⟩ = some (.int .i64 (ac : Int))) (hT : TbB X g (Q * 1024) f)
    (hi : i ≤ 1048576) (hj : j ≤ 1048576) (hq : i / 32 * ac + j / 32 < Q) (hQ : Q ≤ 1073741824) (hf : f (posT ac i j) ≤ 65535) :
    Calls Tryd.prog 59 #[.int .i64 (i : Int), .int .i64 (j : Int), .pointer (some ⟨gS, 0, none⟩), .pointer (some ⟨gA, 0, none⟩)] X fun e w' => e = .returned (.int .i64 (f (posT ac i j) : Int)) ∧ w' = X := by
  obtain ⟨e1, e3, u1, u2, f3, f4⟩ := div_i i
  obtain ⟨e2, e4, v1, v2, f5, f6⟩ := div_i j
  have hc := hT.cell (k := posT ac i j) (pos_lt hq u2 v2)
  unfold posT at hc hf ⊢
  clear hT
  generalize i / 32 = I at *
  generalize i % 32 = I2 at *
  generalize j / 32 = J at *
  generalize j % 32 = J2 at *
  obtain ⟨P, hP⟩ : ∃ P, P = I * ac := ⟨_, rfl⟩
  obtain ⟨R, hR⟩ : ∃ R, R = P + J := ⟨_, rfl⟩
  rw [← hP] at hc hf hq ⊢
  rw [← hR] at hc hf hq ⊢
  have b1 : I ≤ 4611686018427387904 := by omega
  have b2 : J ≤ 4611686018427387904 := by omega
  have b3 : P ≤ 4611686018427387904 := by omega
  have b4 : R ≤ 4611686018427387904 := by omega
  have e0 : wrap64 (I : Int) = (I : Int) := w64N _ b1
  have e0' : wrap64 (J : Int) = (J : Int) := w64N _ b2
  have e5 : wrap64 ((I : Int) * (ac : Int)) = (P : Int) := w64M hP b3
  have e6 : wrap64 ((P : Int) + (J : Int)) = (R : Int) := w64A hR b4
  clear b1 b2 b3 b4
  obtain ⟨f1, f2⟩ := lt_i hq
  clear hP hR hq hQ hi hj u1 u2 v1 v2
  generalize f (R * 1024 + I2 * 32 + J2) = F at *
  go_enter Tryd.func59, Tryd.ntmps59
  go_wp2_with fail
  go_ret
  exact ⟨rfl, rfl⟩
end Go.Proofs.YtkdnanlgkedjgabDoor
end

section
namespace Go.Proofs.YtkdnanlgkedjgabDoor
open Go.ChangeShapes Go.WideShapes Go.ChangeAt Go.RowKit
attribute [local go_sem] Oper.semAt_some
attribute [local go_sem] z_sq z_ar z_u16

theorem TbB.set {X : World} {g M : Nat} {f : Nat → Nat} (h : TbB X g M f) {k : Nat} (hk : k < M) (v : Nat) : TbB (X.setCell ⟨g, k, none⟩ (.int .u16 (v : Int))) g M (fun m => if m = k then v else f m) := by
  obtain ⟨cur, h1, h2, h3⟩ := h
  refine ⟨cur.setIfInBounds k (.int .u16 (v : Int)), ?_, by simp [h2], fun m hm => ?_⟩
  · show (X.heap.modify g _)[g]? = _
    rw [Array.getElem?_modify]
    simp [h1]
  · by_cases e : m = k
    · subst e; simp [h2, hk]
    · simp [e, h3 m hm, show ¬ k = m from fun g => e g.symm]
theorem TbB.frozen {X : World} {g M : Nat} {f : Nat → Nat} (h : TbB X g M f) (k : Nat) : X.frozen? ⟨g, k, none⟩ = false := by
  obtain ⟨cur, h1, h2, h3⟩ := h
  unfold World.frozen?
  simp only [h1]
  simp
set_option maxRecDepth 100000 in
theorem info_sq : ∃ i z, Tryd.prog.info? 105 = some i ∧ i.zero = some z ∧ i.size = 1024 ∧ i.bytes = 2048 ∧ z.cells = Array.replicate 1024 (.int .u16 0) := by
  refine ⟨_, _, rfl, rfl, rfl, rfl, ?_⟩
  rfl
theorem make_sq (w : World) (Q : Nat) (hQ : Q ≤ 16384) : ∃ C : Array Value, (Instr.makeSlice 101 (.int .i64 (Q : Int)) (.int .i64 (Q : Int))).run Tryd.prog w = .ok (.slice (some ⟨w.heap.size, 0, none⟩) Q Q) (w.alloc (.cells C 105)) ∧
    C.size = Q * 1024 ∧ ∀ k, k < Q * 1024 → C[k]? = some (.int .u16 0) := by
  obtain ⟨i, z, hi, hz, hs, hb, hc⟩ := info_sq
  have hr := run_make (P := Tryd.prog) w 101 105 i z Tryd.underlying101 hi hz .i64 .i64 Q Q (by omega) (Int.le_refl _) (by rw [hb]; omega) (by omega)
  simp only [Int.toNat_natCast] at hr
  refine ⟨_, hr, by rw [size_madeCells, hs], fun k hk => ?_⟩
  rw [hs, hc]
  unfold madeCells
  have : k % 1024 < 1024 := Nat.mod_lt _ (by decide)
  simp [hk, this]
theorem TbB.new (w : World) (C : Array Value) (M : Nat) (h1 : C.size = M) (h2 : ∀ k, k < M → C[k]? = some (.int .u16 0)) : TbB (w.alloc (.cells C 105)) w.heap.size M (fun _ => 0) :=
  ⟨C, heap_alloc_new w _, h1, fun k hk => by rw [h2 k hk]; rfl⟩
theorem pos_div {ac a b a' b' : Nat} (hb : b < ac) (hb' : b' < ac) (h : a * ac + b = a' * ac + b') : a = a' ∧ b = b' := by
  have e : a = a' := by
    rcases Nat.lt_trichotomy a a' with g | g | g
    · have := Nat.mul_le_mul_right ac (show a + 1 ≤ a' from g)
      rw [Nat.add_mul] at this; omega
    · exact g
    · have := Nat.mul_le_mul_right ac (show a' + 1 ≤ a from g)
      rw [Nat.add_mul] at this; omega
  subst e
  exact ⟨rfl, by omega⟩
theorem pos_inj {ac i j i' j' : Nat} (hj : j / 32 < ac) (hj' : j' / 32 < ac) (h : posT ac i j = posT ac i' j') : i = i' ∧ j = j' := by
  unfold posT at h
  generalize hA : i / 32 * ac + j / 32 = A at h
  generalize hB : i' / 32 * ac + j' / 32 = B at h
  have h1 : A = B ∧ i % 32 = i' % 32 ∧ j % 32 = j' % 32 := by omega
  have h2 := pos_div hj hj' (by rw [hA, hB, h1.1])
  omega
/-- what has been filled in -/
def Fil (x y : List Nat) (ac I J : Nat) (f : Nat → Nat) : Prop := ∀ i j, i ≤ x.length → j ≤ y.length → (I ≤ i ∨ (i + 1 = I ∧ J ≤ j) ∨ j = y.length) → f (posT ac i j) = lcs (x.drop i) (y.drop j)
theorem fil_start (x y : List Nat) (ac : Nat) : Fil x y ac x.length y.length (fun _ => 0) := fun i j hi hj h => by
  rcases h with h | ⟨_, h⟩ | h
  · rw [List.drop_eq_nil_of_le h]; simp [lcs]
  · rw [show y.drop j = [] from List.drop_eq_nil_of_le h, lcs_nil]
  · rw [show y.drop j = [] from List.drop_eq_nil_of_le (by omega), lcs_nil]
theorem fil_row {x y : List Nat} {ac I : Nat} {f : Nat → Nat} (h : Fil x y ac (I + 1) 0 f) : Fil x y ac I y.length f := fun i j hi hj g => h i j hi hj (by
  rcases g with g | g | g
  · by_cases e : i = I
    · exact .inr (.inl ⟨by omega, Nat.zero_le _⟩)
    · exact .inl (by omega)
  · exact .inr (.inr (by omega))
  · exact .inr (.inr g))
theorem drop_at (x : List Nat) {i : Nat} (h : i < x.length) : x.drop i = x.getD i 0 :: x.drop (i + 1) := by
  rw [List.drop_eq_getElem_cons h]
  simp [List.getD, List.getElem?_eq_getElem h]
theorem fil_put {x y : List Nat} {ac I J : Nat} {f : Nat → Nat} (h : Fil x y ac (I + 1) (J + 1) f) (hI : I < x.length) (hJ : J < y.length) (hac : ac = y.length / 32 + 1) (v : Nat)
    (hv : v = if x.getD I 0 = y.getD J 0 then lcs (x.drop (I + 1)) (y.drop (J + 1)) + 1 else max (lcs (x.drop (I + 1)) (y.drop J)) (lcs (x.drop I) (y.drop (J + 1)))) :
    Fil x y ac (I + 1) J (fun m => if m = posT ac I J then v else f m) := fun i j hi hj g => by
  by_cases e : i = I ∧ j = J
  · obtain ⟨rfl, rfl⟩ := e
    simp only [if_true]
    rw [hv, drop_at x hI, drop_at y hJ]
    split
    · rename_i e; rw [e, lcs_same]
    · rename_i e; rw [lcs_ne e]
  · have : ¬ posT ac i j = posT ac I J := fun g => e (pos_inj (by omega) (by omega) g)
    simp only [this, if_false]
    refine h i j hi hj ?_
    rcases g with g | ⟨g1, g2⟩ | g
    · exact .inl g
    · refine .inr (.inl ⟨g1, ?_⟩)
      have : ¬ j = J := fun k => e ⟨by omega, k⟩
      omega
    · exact .inr (.inr g)
/-- the closure's memory: two boxes and the table -/
structure LnT (w X : World) (gS gA g Q ac : Nat) (x y : List Nat) (I J : Nat) : Prop where
  s : X.cell? ⟨gS, 0, none⟩ = some (.slice (some ⟨g, 0, none⟩) Q Q)
  a : X.cell? ⟨gA, 0, none⟩ = some (.int .i64 (ac : Int))
  t : ∃ f, TbB X g (Q * 1024) f ∧ Fil x y ac I J f
  b : Below w.heap.size w X
  n : w.heap.size ≤ gS ∧ w.heap.size ≤ gA ∧ w.heap.size ≤ g ∧ gS ≠ g ∧ gA ≠ g ∧ gS < X.heap.size ∧ gA < X.heap.size
theorem sq_lt {x y : List Nat} {ac Q i j : Nat} (hac : ac = y.length / 32 + 1) (hQ : Q = (x.length / 32 + 1) * ac) (hi : i ≤ x.length) (hj : j ≤ y.length) : i / 32 * ac + j / 32 < Q := by
  have h1 : i / 32 ≤ x.length / 32 := Nat.div_le_div_right hi
  have h2 : j / 32 < ac := by omega
  have h3 := Nat.mul_le_mul_right ac h1
  rw [hQ, Nat.add_mul]
  omega
theorem LnT.ask {w X : World} {gS gA g Q ac : Nat} {x y : List Nat} {I J : Nat} (h : LnT w X gS gA g Q ac x y I J) (hac : ac = y.length / 32 + 1) (hQ : Q = (x.length / 32 + 1) * ac) (hx : x.length ≤ 2048) (hy : y.length ≤ 2048) {i j : Nat} (hi : i ≤ x.length) (hj : j ≤ y.length) (hd : I ≤ i ∨ (i + 1 = I ∧ J ≤ j) ∨ j = y.length) :
    Calls Tryd.prog 59 #[.int .i64 (i : Int), .int .i64 (j : Int), .pointer (some ⟨gS, 0, none⟩), .pointer (some ⟨gA, 0, none⟩)] X fun e w' => e = .returned (.int .i64 (lcs (x.drop i) (y.drop j) : Int)) ∧ w' = X := by
  obtain ⟨f, h1, h2⟩ := h.t
  have e := h2 i j hi hj hd
  have hl := (lcs_len (x.drop i) (y.drop j)).1
  rw [List.length_drop] at hl
  have hQ2 : Q ≤ 1073741824 := by
    rw [hQ]
    exact Nat.le_trans (Nat.mul_le_mul (show x.length / 32 + 1 ≤ 65 by omega) (show ac ≤ 65 by omega)) (by decide)
  have := len1_at gS gA g Q ac i j f X h.s h.a h1 (by omega) (by omega) (sq_lt hac hQ hi hj) hQ2 (by rw [e]; omega)
  rw [e] at this
  exact this
end Go.Proofs.YtkdnanlgkedjgabDoor
end
