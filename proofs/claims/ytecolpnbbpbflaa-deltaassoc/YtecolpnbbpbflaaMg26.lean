/- Layer 13: DeltaAssoc's walk (written by wip/tools/dsk.py). -/
import Derived.Test.YtecolpnbbpbflaaMg25

namespace Go.Proofs.Ytecolpnbbpbflaa
open Go.ChangeShapes Go.WideShapes Go.ChangeAt Go.RowKit
attribute [local go_sem] Oper.semAt_some

theorem cmp_all_left : ∀ (u : List Atm) (n : Nat), frA u = n → cmpA (List.replicate n .k) u = u
  | [], n, h => by simp only [frA] at h; subst h; rfl
  | .p x :: u, 0, h => by
    have ih := cmp_all_left u 0 (by simpa [frA] using h)
    simp only [List.replicate_zero, cmpA] at ih ⊢
    simp only [putsA, ih]
  | .p x :: u, n + 1, h => by
    have ih := cmp_all_left u (n + 1) (by simpa [frA] using h)
    rw [List.replicate_succ] at ih ⊢
    simp only [cmpA] at ih ⊢
    simp only [thrA, ih]
  | .k :: u, n, h => by
    obtain ⟨m, rfl⟩ : ∃ m, n = m + 1 := ⟨n - 1, by simp [frA] at h; omega⟩
    have ih := cmp_all_left u m (by simp [frA] at h; omega)
    rw [List.replicate_succ]
    simp only [cmpA, thrA, ih]
  | .d :: u, n, h => by
    obtain ⟨m, rfl⟩ : ∃ m, n = m + 1 := ⟨n - 1, by simp [frA] at h; omega⟩
    have ih := cmp_all_left u m (by simp [frA] at h; omega)
    rw [List.replicate_succ]
    simp only [cmpA, thrA, ih]
theorem cmp_all_right : ∀ (u : List Atm) (n : Nat), toA u = n → cmpA u (List.replicate n .k) = u
  | [], n, h => by simp only [toA] at h; subst h; rfl
  | .d :: u, n, h => by
    have ih := cmp_all_right u n (by simpa [toA] using h)
    simp only [cmpA, ih]
  | .k :: u, n, h => by
    obtain ⟨m, rfl⟩ : ∃ m, n = m + 1 := ⟨n - 1, by simp [toA] at h; omega⟩
    have ih := cmp_all_right u m (by simp [toA] at h; omega)
    rw [List.replicate_succ]
    simp only [cmpA, thrA, ih]
  | .p x :: u, n, h => by
    obtain ⟨m, rfl⟩ : ∃ m, n = m + 1 := ⟨n - 1, by simp [toA] at h; omega⟩
    have ih := cmp_all_right u m (by simp [toA] at h; omega)
    rw [List.replicate_succ]
    simp only [cmpA, thrA, ih]
/-- the delta that keeps n bytes -/
def allD (n : Nat) : List Dop := if n = 0 then [] else [⟨1, (n : Int), []⟩]
theorem allD_is (n : Nat) (h : n ≤ 268435456) : dA (allD n) = List.replicate n .k ∧ valB (allD n) = true ∧ frD (allD n) = n ∧ toD (allD n) = n ∧ (allD n).length ≤ 1 := by
  have hA : dA (allD n) = List.replicate n .k := by
    unfold allD
    split
    · rename_i h0; subst h0; rfl
    · simp [dA, opA]
  have hc : Can (allD n) := by
    unfold allD
    split
    · exact ⟨by simp, trivial⟩
    · refine ⟨fun o ho => ?_, trivial⟩
      simp at ho; subst ho
      exact .inl ⟨.inl rfl, by dsimp only; omega, rfl⟩
  have hs := frA_dA (can_kinds hc)
  rw [hA, (fr_rep_k n).1, (fr_rep_k n).2] at hs
  exact ⟨hA, can_val hc (by omega) (by omega), hs.1.symm, hs.2.symm, by unfold allD; split <;> simp⟩
set_option maxRecDepth 100000 in
theorem all_at (n : Nat) (w : World) : Calls Try.prog 32 #[.int .i64 (n : Int)] w fun y w' => ∃ a' c', y = .returned (.slice a' (allD n).length c') ∧ (IsO w' a' (allD n) ∧ (allD n).length ≤ c') ∧ Below w.heap.size w w' := by
  by_cases h0 : n = 0
  · subst h0
    go_enter Try.func32, Try.ntmps32
    go_wp2_with fail
    refine bodyPost_ret (results_tmp rfl _ _ _) rfl ⟨none, 0, rfl, ⟨Or.inl rfl, Nat.le_refl _⟩, Below.refl _ _⟩
  · have t1 : ((n : Int) == 0) = false := by simpa using h0
    have t2 : (n == 0) = false := by simpa using h0
    have e : allD n = [⟨1, (n : Int), []⟩] := by unfold allD; rw [if_neg h0]
    rw [e]
    have HI : Hid (IsO (w.alloc (.cells #[.int .i64 1, .int .i64 (n : Int), .string ⟨#[]⟩] 64)) (some ⟨w.heap.size, 0, none⟩) [⟨1, (n : Int), []⟩]) := hide (by
      obtain ⟨c0, c1, c2⟩ := three_nwD w (.int .i64 1) (.int .i64 (n : Int)) (.string ⟨#[]⟩) (t := 64)
      refine Or.inr ⟨_, _, rfl, by rw [World.size_alloc]; omega, fun k hk => ?_⟩
      obtain rfl : k = 0 := by simp at hk; omega
      exact ⟨c0, c1, c2⟩)
    have HB := hide ((Below.refl w.heap.size w).alloc (Nat.le_refl _) (.cells #[.int .i64 1, .int .i64 (n : Int), .string ⟨#[]⟩] 64))
    clear e h0
    go_enter Try.func32, Try.ntmps32
    go_wp2_with fail
    refine bodyPost_ret (results_tmp rfl _ _ _) rfl ⟨_, 1, rfl, ⟨unhide HI, Nat.le_refl _⟩, unhide HB⟩
theorem two_left {P : List Dop} (hv : valB P = true) (hc : canA (dA P) = P) : cmD (allD (frD P)) P = P := by
  have h5 := (valB_nn hv).2
  obtain ⟨a1, a2, a3, a4, _⟩ := allD_is (frD P) h5.1
  have t := two_ok a2 hv a4
  rw [t.d, a1, cmp_all_left _ _ (frA_dA (valB_k hv)).1, hc]
theorem two_right {P : List Dop} (hv : valB P = true) (hc : canA (dA P) = P) : cmD P (allD (toD P)) = P := by
  have h5 := (valB_nn hv).2
  obtain ⟨a1, a2, a3, a4, _⟩ := allD_is (toD P) h5.2
  have t := two_ok hv a2 a3.symm
  rw [t.d, a1, cmp_all_right _ _ (frA_dA (valB_k hv)).2, hc]
theorem two_assoc {P Q R : List Dop} (hP : valB P = true) (hQ : valB Q = true) (hR : valB R = true) (h1 : toD P = frD Q) (h2 : toD Q = frD R) : cmD (cmD P Q) R = cmD P (cmD Q R) := by
  have t1 := two_ok hP hQ h1
  have t2 := two_ok hQ hR h2
  have t3 := two_ok t1.v hR (by rw [t1.t]; exact h2)
  have t4 := two_ok hP t2.v (by rw [t2.f]; exact h1)
  rw [t3.d, t4.d]
  refine canA_congr ?_
  rw [t1.a, t2.a]
  have e1 : nfA (cmpA (nfA (cmpA (dA P) (dA Q))) (dA R)) = nfA (cmpA (cmpA (dA P) (dA Q)) (dA R)) := cmp_nf_left _ _
  have e2 : nfA (cmpA (dA P) (nfA (cmpA (dA Q) (dA R)))) = nfA (cmpA (dA P) (cmpA (dA Q) (dA R))) := cmp_nf_right _ _
  rw [e1, e2, cmp_assoc _ _ _ _ (Nat.le_refl _) t1.q t2.q]
/-- three lists in a box -/
def Bx (W : World) (g : Nat) (cs : Array Value) : Prop := Cls W g 59 cs
theorem Bx.below {W W' : World} {B g : Nat} {cs : Array Value} (h : Bx W g cs) (hb : Below B W W') (hB : W.heap.size ≤ B) : Bx W' g cs := Cls.below h hb (Nat.lt_of_lt_of_le (Cls.lt h) hB)
set_option maxRecDepth 100000 in
set_option maxHeartbeats 4000000 in
theorem DeltaAssoc_any (a0 : Option Addr) (c0 : Nat) (b : List Int) (a1 : Option Addr) (c1 : Nat) (x : List Dop) (a2 : Option Addr) (c2 : Nat) (y : List Dop) (a3 : Option Addr) (c3 : Nat) (z : List Dop) (w : World) (_hb : IsB w a0 c0 b) (h3 : (IsO w a1 x ∧ ∀ o ∈ x, TbD o ∧ o.t.length ≤ 140737488355328) ∧ (IsO w a2 y ∧ ∀ o ∈ y, TbD o ∧ o.t.length ≤ 140737488355328) ∧ (IsO w a3 z ∧ ∀ o ∈ z, TbD o ∧ o.t.length ≤ 140737488355328)) :
    Calls Try.prog 8 #[.slice a0 b.length c0, .agg #[.slice a1 x.length c1, .slice a2 y.length c2, .slice a3 z.length c3]] w fun y w' => y = .returned (.bool true) ∧ Below w.heap.size w w' := by
  obtain ⟨⟨hx, htx⟩, ⟨hy, hty⟩, ⟨hz, htz⟩⟩ := h3
  have HAw := hide fun (X : World) (_ : Below w.heap.size w X) => awake13_at X
  have HSh := hide fun (X : World) (hX : Below w.heap.size w X) => short_at a0 b.length c0 X.heap.size 3 [⟨a1, c1, x⟩, ⟨a2, c2, y⟩, ⟨a3, c3, z⟩] w (X.alloc (.cells #[.slice a1 x.length c1, .slice a2 y.length c2, .slice a3 z.length c3] 23)) (by
    have kN := Cls.new X 23 #[.slice a1 x.length c1, .slice a2 y.length c2, .slice a3 z.length c3]
    refine ⟨fun i hi => ?_, fun i hi => ?_, kN.lt⟩
    · match i with
      | 0 => exact kN.cell 0
      | 1 => exact kN.cell 1
      | 2 => exact kN.cell 2
      | i + 3 => simp at hi; omega
    · match i with
      | 0 => exact ⟨hx, fun o ho => (htx o ho).2⟩
      | 1 => exact ⟨hy, fun o ho => (hty o ho).2⟩
      | 2 => exact ⟨hz, fun o ho => (htz o ho).2⟩
      | i + 3 => simp at hi; omega) (hX.alloc hX.size _) (by simp)
  have HALL : Hid (b.length ≤ 5000 → ShD x → ShD y → ShD z → ∃ P Q R PQ QR LE : List Dop, ∃ n m f2 : Nat, ((∀ X, Below w.heap.size w X → Calls Try.prog 31 #[.slice a1 x.length c1, .int .i64 (b.length : Int)] X fun y X' => ∃ a' c', y = .returned (.slice a' P.length c') ∧ IsO X' a' P ∧ Below X.heap.size X X') ∧
      (∀ X, Below w.heap.size w X → Calls Try.prog 31 #[.slice a2 y.length c2, .int .i64 (n : Int)] X fun y X' => ∃ a' c', y = .returned (.slice a' Q.length c') ∧ IsO X' a' Q ∧ Below X.heap.size X X') ∧
      (∀ X, Below w.heap.size w X → Calls Try.prog 31 #[.slice a3 z.length c3, .int .i64 (m : Int)] X fun y X' => ∃ a' c', y = .returned (.slice a' R.length c') ∧ IsO X' a' R ∧ Below X.heap.size X X') ∧
      (∀ X a4 c4, IsO X a4 P → Calls Try.prog 16 #[.slice a4 P.length c4] X fun y X' => y = .returned (.tuple #[.int .i64 (b.length : Int), .int .i64 (n : Int), .int .i64 0]) ∧ Below X.heap.size X X') ∧
      (∀ X a4 c4, IsO X a4 Q → Calls Try.prog 16 #[.slice a4 Q.length c4] X fun y X' => y = .returned (.tuple #[.int .i64 (f2 : Int), .int .i64 (m : Int), .int .i64 0]) ∧ Below X.heap.size X X') ∧
      (∀ X a4 c4 a5 c5, (IsO X a4 P ∧ P.length ≤ c4) → (IsO X a5 Q ∧ Q.length ≤ c5) → Calls Try.prog 28 #[.slice a4 P.length c4, .slice a5 Q.length c5] X fun y X' => ∃ a' c', y = .returned (.tuple #[.slice a' PQ.length c', .int .i64 0]) ∧ IsO X' a' PQ ∧ Below X.heap.size X X') ∧
      (∀ X a4 c4 a5 c5, (IsO X a4 Q ∧ Q.length ≤ c4) → (IsO X a5 R ∧ R.length ≤ c5) → Calls Try.prog 28 #[.slice a4 Q.length c4, .slice a5 R.length c5] X fun y X' => ∃ a' c', y = .returned (.tuple #[.slice a' QR.length c', .int .i64 0]) ∧ IsO X' a' QR ∧ Below X.heap.size X X') ∧
      (∀ X a4 c4 a5 c5, (IsO X a4 PQ ∧ PQ.length ≤ c4) → (IsO X a5 R ∧ R.length ≤ c5) → Calls Try.prog 28 #[.slice a4 PQ.length c4, .slice a5 R.length c5] X fun y X' => ∃ a' c', y = .returned (.tuple #[.slice a' LE.length c', .int .i64 0]) ∧ IsO X' a' LE ∧ Below X.heap.size X X') ∧
      (∀ X a4 c4 a5 c5, (IsO X a4 P ∧ P.length ≤ c4) → (IsO X a5 QR ∧ QR.length ≤ c5) → Calls Try.prog 28 #[.slice a4 P.length c4, .slice a5 QR.length c5] X fun y X' => ∃ a' c', y = .returned (.tuple #[.slice a' LE.length c', .int .i64 0]) ∧ IsO X' a' LE ∧ Below X.heap.size X X') ∧
      (∀ X a4 c4 a5 c5, (IsO X a4 (allD b.length) ∧ (allD b.length).length ≤ c4) → (IsO X a5 P ∧ P.length ≤ c5) → Calls Try.prog 28 #[.slice a4 (allD b.length).length c4, .slice a5 P.length c5] X fun y X' => ∃ a' c', y = .returned (.tuple #[.slice a' P.length c', .int .i64 0]) ∧ IsO X' a' P ∧ Below X.heap.size X X') ∧
      (∀ X a4 c4 a5 c5, (IsO X a4 P ∧ P.length ≤ c4) → (IsO X a5 (allD n) ∧ (allD n).length ≤ c5) → Calls Try.prog 28 #[.slice a4 P.length c4, .slice a5 (allD n).length c5] X fun y X' => ∃ a' c', y = .returned (.tuple #[.slice a' P.length c', .int .i64 0]) ∧ IsO X' a' P ∧ Below X.heap.size X X') ∧
      (∀ X a4 c4 a5 c5, IsO X a4 LE → IsO X a5 LE → Calls Try.prog 15 #[.slice a4 LE.length c4, .slice a5 LE.length c5] X fun y X' => y = .returned (.bool true) ∧ Below X.heap.size X X') ∧
      (∀ X a4 c4 a5 c5, IsO X a4 P → IsO X a5 P → Calls Try.prog 15 #[.slice a4 P.length c4, .slice a5 P.length c5] X fun y X' => y = .returned (.bool true) ∧ Below X.heap.size X X') ∧
      P.length * 32 ≤ 140737488355328 ∧ Q.length * 32 ≤ 140737488355328 ∧ R.length * 32 ≤ 140737488355328 ∧ PQ.length * 32 ≤ 140737488355328 ∧ QR.length * 32 ≤ 140737488355328)) := hide fun hbl sx sy sz => by
    have kx : ∀ o ∈ x, (o.k = 1 ∨ o.k = 2 ∨ o.k = 3) ∧ TbD o ∧ o.t.length ≤ 140737488355328 := fun o ho => ⟨sx.2.1 o ho, htx o ho⟩
    have ky : ∀ o ∈ y, (o.k = 1 ∨ o.k = 2 ∨ o.k = 3) ∧ TbD o ∧ o.t.length ≤ 140737488355328 := fun o ho => ⟨sy.2.1 o ho, hty o ho⟩
    have kz : ∀ o ∈ z, (o.k = 1 ∨ o.k = 2 ∨ o.k = 3) ∧ TbD o ∧ o.t.length ≤ 140737488355328 := fun o ho => ⟨sz.2.1 o ho, htz o ho⟩
    have hsx := sx.2.2
    have hsy := sy.2.2
    have hsz := sz.2.2
    have hlx := sx.1
    have hly := sy.1
    have hlz := sz.1
    obtain ⟨vP, fP, tP, bP⟩ := fitD_ok (n := b.length) kx (by omega)
    obtain ⟨vQ, fQ, tQ, bQ⟩ := fitD_ok (d := y) (n := toD (fitD x b.length)) ky (by omega)
    obtain ⟨vR, fR, tR, bR⟩ := fitD_ok (d := z) (n := toD (fitD y (toD (fitD x b.length)))) kz (by omega)
    have cP : canA (dA (fitD x b.length)) = fitD x b.length := canA_id (canA_can _)
    generalize hP : fitD x b.length = P at *
    generalize hQ : fitD y (toD P) = Q at *
    generalize hR : fitD z (toD Q) = R at *
    have t1 := two_ok vP vQ fQ.symm
    have t2 := two_ok vQ vR fR.symm
    have t3 := two_ok t1.v vR (by rw [t1.t]; exact fR.symm)
    have hass := two_assoc vP vQ vR fQ.symm fR.symm
    have bL := two_tb (two_tb bP bQ) bR
    have t4 := two_ok vP t2.v (by rw [t2.f]; exact fQ.symm)
    have l1 := two_left vP cP
    have l2 := two_right vP cP
    rw [fP] at l1
    obtain ⟨_, v5, f5, g5, n5⟩ := allD_is b.length (by omega)
    obtain ⟨_, v6, f6, g6, n6⟩ := allD_is (toD P) (valB_nn vP).2.2
    have t5 := two_ok v5 vP (by rw [g5, fP])
    have t6 := two_ok vP v6 f6.symm
    have lens : ∀ (D : List Dop) (X : World) (a4 : Option Addr) (c4 : Nat), valB D = true → IsO X a4 D → Calls Try.prog 16 #[.slice a4 D.length c4] X fun y X' => y = .returned (.tuple #[.int .i64 (frD D : Int), .int .i64 (toD D : Int), .int .i64 0]) ∧ Below X.heap.size X X' := fun D X a4 c4 hv h => by
      have := Lens_at a4 c4 D X h (val_small hv).1
      unfold lensV at this
      simp only [hv, if_true] at this
      exact this
    refine ⟨P, Q, R, cmD P Q, cmD Q R, cmD (cmD P Q) R, toD P, toD Q, frD Q, ⟨?_, ?_, ?_, ?_, ?_, ?_, ?_, ?_, ?_, ?_, ?_, ?_, ?_, (val_small vP).2, (val_small vQ).2, (val_small vR).2, (val_small t1.v).2, (val_small t2.v).2⟩⟩
    · exact fun X hX => (fit_at a1 c1 x b.length X (hx.below hX (Nat.le_refl _)) (by omega) (by omega) kx).mono fun y X' ⟨a', c', e, h1, _, h2⟩ => by rw [hP] at e h1; exact ⟨a', c', e, h1, h2⟩
    · exact fun X hX => (fit_at a2 c2 y (toD P) X (hy.below hX (Nat.le_refl _)) (by omega) (by omega) ky).mono fun y X' ⟨a', c', e, h1, _, h2⟩ => by rw [hQ] at e h1; exact ⟨a', c', e, h1, h2⟩
    · exact fun X hX => (fit_at a3 c3 z (toD Q) X (hz.below hX (Nat.le_refl _)) (by omega) (by omega) kz).mono fun y X' ⟨a', c', e, h1, _, h2⟩ => by rw [hR] at e h1; exact ⟨a', c', e, h1, h2⟩
    · exact fun X a4 c4 h => by have := lens P X a4 c4 vP h; rw [fP] at this; exact this
    · exact fun X a4 c4 h => lens Q X a4 c4 vQ h
    · intro X a4 c4 a5 c5 h1 h2
      have := ComposeO_at a4 c4 _ a5 c5 _ X h1 h2 (val_small vP).1 (val_small vQ).1
      rw [t1.e] at this
      exact this
    · intro X a4 c4 a5 c5 h1 h2
      have := ComposeO_at a4 c4 _ a5 c5 _ X h1 h2 (val_small vQ).1 (val_small vR).1
      rw [t2.e] at this
      exact this
    · intro X a4 c4 a5 c5 h1 h2
      have := ComposeO_at a4 c4 _ a5 c5 _ X h1 h2 (val_small t1.v).1 (val_small vR).1
      rw [t3.e] at this
      exact this
    · intro X a4 c4 a5 c5 h1 h2
      have := ComposeO_at a4 c4 _ a5 c5 _ X h1 h2 (val_small vP).1 (val_small t2.v).1
      rw [t4.e, ← hass] at this
      exact this
    · intro X a4 c4 a5 c5 h1 h2
      have := ComposeO_at a4 c4 _ a5 c5 _ X h1 h2 (by omega) (val_small vP).1
      rw [t5.e, l1] at this
      exact this
    · intro X a4 c4 a5 c5 h1 h2
      have := ComposeO_at a4 c4 _ a5 c5 _ X h1 h2 (val_small vP).1 (by omega)
      rw [t6.e, l2] at this
      exact this
    · intro X a4 c4 a5 c5 h1 h2
      have := same13_at a4 c4 _ a5 c5 _ X h1 h2 (val_small t3.v).1 (val_small t3.v).1 bL bL
      simpa using this
    · intro X a4 c4 a5 c5 h1 h2
      have := same13_at a4 c4 _ a5 c5 _ X h1 h2 (val_small vP).1 (val_small vP).1 bP bP
      simpa using this
  have HB0 := hide (Cls.new w 59 #[.slice a1 x.length c1, .slice a2 y.length c2, .slice a3 z.length c3])
  have HX0 := hide ((Below.refl w.heap.size w).alloc (Nat.le_refl _) (.cells #[.slice a1 x.length c1, .slice a2 y.length c2, .slice a3 z.length c3] 59))
  clear hx hy hz htx hty htz _hb
  go_enter Try.func8, Try.ntmps8
  go_upto_region 1 with fail
  have bx_0 : Hid (Bx (w.alloc (.cells #[.slice a1 x.length c1, .slice a2 y.length c2, .slice a3 z.length c3] 59)) w.heap.size #[.slice a1 x.length c1, .slice a2 y.length c2, .slice a3 z.length c3]) := hide (unhide HB0)
  clear HB0
  generalize w.alloc (.cells #[.slice a1 x.length c1, .slice a2 y.length c2, .slice a3 z.length c3] 59) = w0 at *
  generalize hgX : w.heap.size = gX at bx_0 ⊢
  have HC1 := hide (unhide HAw w0 (unhide HX0))
  go_wp2_with fail
  refine (unhide HC1).mono ?_
  rintro y w1 ⟨rfl, x1⟩
  dsimp only
  have HX1 := hide ((unhide HX0).trans (x1.mono (unhide HX0).size))
  have bx_1 := hide ((unhide bx_0).below x1 (Nat.le_refl _))
  clear HC1 HX0 x1 bx_0 HAw
  have HS1 := hide (unhide HSh w1 (unhide HX1))
  simp only [List.length_cons, List.length_nil] at HS1
  have HXa := hide ((unhide HX1).alloc (unhide HX1).size (.cells #[.slice a1 x.length c1, .slice a2 y.length c2, .slice a3 z.length c3] 23))
  have bx_a := hide ((unhide bx_1).below ((Below.refl w1.heap.size w1).alloc (Nat.le_refl _) (.cells #[.slice a1 x.length c1, .slice a2 y.length c2, .slice a3 z.length c3] 23)) (Nat.le_refl _))
  have q0 : w1.cell? ⟨gX, 0, none⟩ = some (.slice a1 x.length c1) := Cls.cell (unhide bx_1) 0
  have q1 : w1.cell? ⟨gX, 1, none⟩ = some (.slice a2 y.length c2) := Cls.cell (unhide bx_1) 1
  have q2 : w1.cell? ⟨gX, 2, none⟩ = some (.slice a3 z.length c3) := Cls.cell (unhide bx_1) 2
  clear HSh HX1 bx_1
  go_upto_region 3 with fail
  generalize hv1 : w1.alloc (.cells #[.slice a1 x.length c1, .slice a2 y.length c2, .slice a3 z.length c3] 23) = v1 at HS1 HXa bx_a
  go_wp2_with fail
  clear hv1 q0 q1 q2
  refine (unhide HS1).mono ?_
  rintro yy w2 ⟨r, rfl, hr, x2⟩
  dsimp only
  have HX2 := hide ((unhide HXa).trans (x2.mono (unhide HXa).size))
  have bx_2 := hide ((unhide bx_a).below x2 (Nat.le_refl _))
  have HR := hide hr
  clear HS1 HXa x2 hr bx_a
  cases r with
  | false =>
    clear HR HALL
    go_wp2_with fail
    refine bodyPost_ret (results_tmp rfl _ _ _) rfl ⟨rfl, unhide HX2⟩
  | true =>
    obtain ⟨hbl, hsh⟩ := unhide HR rfl
    have sx : ShD x := hsh 0 (by simp)
    have sy : ShD y := hsh 1 (by simp)
    have sz : ShD z := hsh 2 (by simp)
    obtain ⟨P, Q, R, PQ, QR, LE, n, m, f2, e1, e2, e3, e4, e5, m1, m2, m3, m4, m5, m6, s1, s2, lP, lQ, lR, lPQ, lQR⟩ := unhide HALL hbl sx sy sz
    have HF1 := hide e1
    have HF2 := hide e2
    have HF3 := hide e3
    have HL1 := hide fun (X : World) (_ : Below w.heap.size w X) => e4 X
    have HL2 := hide fun (X : World) (_ : Below w.heap.size w X) => e5 X
    have HM1 := hide fun (X : World) (_ : Below w.heap.size w X) => m1 X
    have HM2 := hide fun (X : World) (_ : Below w.heap.size w X) => m2 X
    have HM3 := hide fun (X : World) (_ : Below w.heap.size w X) => m3 X
    have HM4 := hide fun (X : World) (_ : Below w.heap.size w X) => m4 X
    have HM5 := hide fun (X : World) (_ : Below w.heap.size w X) => m5 X
    have HM6 := hide fun (X : World) (_ : Below w.heap.size w X) => m6 X
    have HS1 := hide fun (X : World) (_ : Below w.heap.size w X) => s1 X
    have HS2 := hide fun (X : World) (_ : Below w.heap.size w X) => s2 X
    have HOP := hide fun (X : World) (_ : Below w.heap.size w X) (a4 : Option Addr) (c4 : Nat) (h4 : IsO X a4 P) => own13H a4 c4 P X h4 lP
    have HOQ := hide fun (X : World) (_ : Below w.heap.size w X) (a4 : Option Addr) (c4 : Nat) (h4 : IsO X a4 Q) => own13H a4 c4 Q X h4 lQ
    have HOR := hide fun (X : World) (_ : Below w.heap.size w X) (a4 : Option Addr) (c4 : Nat) (h4 : IsO X a4 R) => own13H a4 c4 R X h4 lR
    have HOPQ := hide fun (X : World) (_ : Below w.heap.size w X) (a4 : Option Addr) (c4 : Nat) (h4 : IsO X a4 PQ) => own13H a4 c4 PQ X h4 lPQ
    have HOQR := hide fun (X : World) (_ : Below w.heap.size w X) (a4 : Option Addr) (c4 : Nat) (h4 : IsO X a4 QR) => own13H a4 c4 QR X h4 lQR
    have HAB := hide fun (X : World) (_ : Below w.heap.size w X) => all_at b.length X
    have HAN := hide fun (X : World) (_ : Below w.heap.size w X) => all_at n X
    clear HR HALL hbl hsh sx sy sz e1 e2 e3 e4 e5 m1 m2 m3 m4 m5 m6 s1 s2 lP lQ lR lPQ lQR
    have q0 : w2.cell? ⟨gX, 0, none⟩ = some (.slice a1 x.length c1) := Cls.cell (unhide bx_2) 0
    have HC3 := hide (unhide HF1 w2 (unhide HX2))
    go_wp2_with fail
    refine (unhide HC3).mono ?_
    rintro y w3 ⟨a3', c3', rfl, i3, x3⟩
    dsimp only
    have HX3 := hide ((unhide HX2).trans (x3.mono (unhide HX2).size))
    have bx_3 := hide ((unhide bx_2).below x3 (Nat.le_refl _))
    have P__3 := hide (i3)
    clear HC3 HX2 x3 bx_2 i3 HF1 q0
    have HC4 := hide (unhide HOP w3 (unhide HX3) a3' c3' (unhide P__3))
    go_wp2_with fail
    refine (unhide HC4).mono ?_
    rintro y w4 ⟨a4', c4', rfl, ⟨i4, l4⟩, x4⟩
    dsimp only
    have HX4 := hide ((unhide HX3).trans (x4.mono (unhide HX3).size))
    have bx_4 := hide ((unhide bx_3).below x4 (Nat.le_refl _))
    have P__4 := hide ((unhide P__3).below x4 (Nat.le_refl _))
    have o_4 := hide (i4)
    clear HC4 HX3 x4 bx_3 P__3 i4
    have HC5 := hide (unhide HL1 w4 (unhide HX4) a4' c4' (unhide o_4))
    go_wp2_with fail
    refine (unhide HC5).mono ?_
    rintro y w5 ⟨rfl, x5⟩
    dsimp only
    have HX5 := hide ((unhide HX4).trans (x5.mono (unhide HX4).size))
    have bx_5 := hide ((unhide bx_4).below x5 (Nat.le_refl _))
    have P__5 := hide ((unhide P__4).below x5 (Nat.le_refl _))
    have o_5 := hide ((unhide o_4).below x5 (Nat.le_refl _))
    clear HC5 HX4 x5 bx_4 P__4 o_4 HL1
    clear o_5
    have q1 : w5.cell? ⟨gX, 1, none⟩ = some (.slice a2 y.length c2) := Cls.cell (unhide bx_5) 1
    have HC6 := hide (unhide HF2 w5 (unhide HX5))
    go_wp2_with fail
    refine (unhide HC6).mono ?_
    rintro y w6 ⟨a6', c6', rfl, i6, x6⟩
    dsimp only
    have HX6 := hide ((unhide HX5).trans (x6.mono (unhide HX5).size))
    have bx_6 := hide ((unhide bx_5).below x6 (Nat.le_refl _))
    have P__6 := hide ((unhide P__5).below x6 (Nat.le_refl _))
    have Q__6 := hide (i6)
    clear HC6 HX5 x6 bx_5 P__5 i6 HF2 q1
    have HC7 := hide (unhide HOQ w6 (unhide HX6) a6' c6' (unhide Q__6))
    go_wp2_with fail
    refine (unhide HC7).mono ?_
    rintro y w7 ⟨a7', c7', rfl, ⟨i7, l7⟩, x7⟩
    dsimp only
    have HX7 := hide ((unhide HX6).trans (x7.mono (unhide HX6).size))
    have bx_7 := hide ((unhide bx_6).below x7 (Nat.le_refl _))
    have P__7 := hide ((unhide P__6).below x7 (Nat.le_refl _))
    have Q__7 := hide ((unhide Q__6).below x7 (Nat.le_refl _))
    have o_7 := hide (i7)
    clear HC7 HX6 x7 bx_6 P__6 Q__6 i7
    have HC8 := hide (unhide HL2 w7 (unhide HX7) a7' c7' (unhide o_7))
    go_wp2_with fail
    refine (unhide HC8).mono ?_
    rintro y w8 ⟨rfl, x8⟩
    dsimp only
    have HX8 := hide ((unhide HX7).trans (x8.mono (unhide HX7).size))
    have bx_8 := hide ((unhide bx_7).below x8 (Nat.le_refl _))
    have P__8 := hide ((unhide P__7).below x8 (Nat.le_refl _))
    have Q__8 := hide ((unhide Q__7).below x8 (Nat.le_refl _))
    have o_8 := hide ((unhide o_7).below x8 (Nat.le_refl _))
    clear HC8 HX7 x8 bx_7 P__7 Q__7 o_7 HL2
    clear o_8
    have q2 : w8.cell? ⟨gX, 2, none⟩ = some (.slice a3 z.length c3) := Cls.cell (unhide bx_8) 2
    have HC9 := hide (unhide HF3 w8 (unhide HX8))
    go_wp2_with fail
    refine (unhide HC9).mono ?_
    rintro y w9 ⟨a9', c9', rfl, i9, x9⟩
    dsimp only
    have HX9 := hide ((unhide HX8).trans (x9.mono (unhide HX8).size))
    have bx_9 := hide ((unhide bx_8).below x9 (Nat.le_refl _))
    have P__9 := hide ((unhide P__8).below x9 (Nat.le_refl _))
    have Q__9 := hide ((unhide Q__8).below x9 (Nat.le_refl _))
    have R__9 := hide (i9)
    clear HC9 HX8 x9 bx_8 P__8 Q__8 i9 HF3 q2
    clear bx_9
    have HC10 := hide (unhide HOP w9 (unhide HX9) a3' c3' (unhide P__9))
    go_wp2_with fail
    refine (unhide HC10).mono ?_
    rintro y w10 ⟨a10', c10', rfl, ⟨i10, l10⟩, x10⟩
    dsimp only
    have HX10 := hide ((unhide HX9).trans (x10.mono (unhide HX9).size))
    have P__10 := hide ((unhide P__9).below x10 (Nat.le_refl _))
    have Q__10 := hide ((unhide Q__9).below x10 (Nat.le_refl _))
    have R__10 := hide ((unhide R__9).below x10 (Nat.le_refl _))
    have o_10 := hide (i10)
    clear HC10 HX9 x10 P__9 Q__9 R__9 i10
    have HC11 := hide (unhide HOQ w10 (unhide HX10) a6' c6' (unhide Q__10))
    go_wp2_with fail
    refine (unhide HC11).mono ?_
    rintro y w11 ⟨a11', c11', rfl, ⟨i11, l11⟩, x11⟩
    dsimp only
    have HX11 := hide ((unhide HX10).trans (x11.mono (unhide HX10).size))
    have P__11 := hide ((unhide P__10).below x11 (Nat.le_refl _))
    have Q__11 := hide ((unhide Q__10).below x11 (Nat.le_refl _))
    have R__11 := hide ((unhide R__10).below x11 (Nat.le_refl _))
    have o_11 := hide ((unhide o_10).below x11 (Nat.le_refl _))
    have p_11 := hide (i11)
    clear HC11 HX10 x11 P__10 Q__10 R__10 o_10 i11
    have HC12 := hide (unhide HM1 w11 (unhide HX11) a10' c10' a11' c11' ⟨unhide o_11, l10⟩ ⟨unhide p_11, l11⟩)
    go_wp2_with fail
    refine (unhide HC12).mono ?_
    rintro y w12 ⟨a12', c12', rfl, i12, x12⟩
    dsimp only
    have HX12 := hide ((unhide HX11).trans (x12.mono (unhide HX11).size))
    have P__12 := hide ((unhide P__11).below x12 (Nat.le_refl _))
    have Q__12 := hide ((unhide Q__11).below x12 (Nat.le_refl _))
    have R__12 := hide ((unhide R__11).below x12 (Nat.le_refl _))
    have o_12 := hide ((unhide o_11).below x12 (Nat.le_refl _))
    have p_12 := hide ((unhide p_11).below x12 (Nat.le_refl _))
    have PQ__12 := hide (i12)
    clear HC12 HX11 x12 P__11 Q__11 R__11 o_11 p_11 i12 HM1
    clear o_12
    clear p_12
    have HC13 := hide (unhide HOQ w12 (unhide HX12) a6' c6' (unhide Q__12))
    go_wp2_with fail
    refine (unhide HC13).mono ?_
    rintro y w13 ⟨a13', c13', rfl, ⟨i13, l13⟩, x13⟩
    dsimp only
    have HX13 := hide ((unhide HX12).trans (x13.mono (unhide HX12).size))
    have P__13 := hide ((unhide P__12).below x13 (Nat.le_refl _))
    have Q__13 := hide ((unhide Q__12).below x13 (Nat.le_refl _))
    have R__13 := hide ((unhide R__12).below x13 (Nat.le_refl _))
    have PQ__13 := hide ((unhide PQ__12).below x13 (Nat.le_refl _))
    have o_13 := hide (i13)
    clear HC13 HX12 x13 P__12 Q__12 R__12 PQ__12 i13
    have HC14 := hide (unhide HOR w13 (unhide HX13) a9' c9' (unhide R__13))
    go_wp2_with fail
    refine (unhide HC14).mono ?_
    rintro y w14 ⟨a14', c14', rfl, ⟨i14, l14⟩, x14⟩
    dsimp only
    have HX14 := hide ((unhide HX13).trans (x14.mono (unhide HX13).size))
    have P__14 := hide ((unhide P__13).below x14 (Nat.le_refl _))
    have Q__14 := hide ((unhide Q__13).below x14 (Nat.le_refl _))
    have R__14 := hide ((unhide R__13).below x14 (Nat.le_refl _))
    have PQ__14 := hide ((unhide PQ__13).below x14 (Nat.le_refl _))
    have o_14 := hide ((unhide o_13).below x14 (Nat.le_refl _))
    have p_14 := hide (i14)
    clear HC14 HX13 x14 P__13 Q__13 R__13 PQ__13 o_13 i14
    have HC15 := hide (unhide HM2 w14 (unhide HX14) a13' c13' a14' c14' ⟨unhide o_14, l13⟩ ⟨unhide p_14, l14⟩)
    go_wp2_with fail
    refine (unhide HC15).mono ?_
    rintro y w15 ⟨a15', c15', rfl, i15, x15⟩
    dsimp only
    have HX15 := hide ((unhide HX14).trans (x15.mono (unhide HX14).size))
    have P__15 := hide ((unhide P__14).below x15 (Nat.le_refl _))
    have Q__15 := hide ((unhide Q__14).below x15 (Nat.le_refl _))
    have R__15 := hide ((unhide R__14).below x15 (Nat.le_refl _))
    have PQ__15 := hide ((unhide PQ__14).below x15 (Nat.le_refl _))
    have o_15 := hide ((unhide o_14).below x15 (Nat.le_refl _))
    have p_15 := hide ((unhide p_14).below x15 (Nat.le_refl _))
    have QR__15 := hide (i15)
    clear HC15 HX14 x15 P__14 Q__14 R__14 PQ__14 o_14 p_14 i15 HM2
    clear o_15
    clear p_15
    have HC16 := hide (unhide HOPQ w15 (unhide HX15) a12' c12' (unhide PQ__15))
    go_wp2_with fail
    refine (unhide HC16).mono ?_
    rintro y w16 ⟨a16', c16', rfl, ⟨i16, l16⟩, x16⟩
    dsimp only
    have HX16 := hide ((unhide HX15).trans (x16.mono (unhide HX15).size))
    have P__16 := hide ((unhide P__15).below x16 (Nat.le_refl _))
    have Q__16 := hide ((unhide Q__15).below x16 (Nat.le_refl _))
    have R__16 := hide ((unhide R__15).below x16 (Nat.le_refl _))
    have PQ__16 := hide ((unhide PQ__15).below x16 (Nat.le_refl _))
    have QR__16 := hide ((unhide QR__15).below x16 (Nat.le_refl _))
    have o_16 := hide (i16)
    clear HC16 HX15 x16 P__15 Q__15 R__15 PQ__15 QR__15 i16
    have HC17 := hide (unhide HOR w16 (unhide HX16) a9' c9' (unhide R__16))
    go_wp2_with fail
    refine (unhide HC17).mono ?_
    rintro y w17 ⟨a17', c17', rfl, ⟨i17, l17⟩, x17⟩
    dsimp only
    have HX17 := hide ((unhide HX16).trans (x17.mono (unhide HX16).size))
    have P__17 := hide ((unhide P__16).below x17 (Nat.le_refl _))
    have Q__17 := hide ((unhide Q__16).below x17 (Nat.le_refl _))
    have R__17 := hide ((unhide R__16).below x17 (Nat.le_refl _))
    have PQ__17 := hide ((unhide PQ__16).below x17 (Nat.le_refl _))
    have QR__17 := hide ((unhide QR__16).below x17 (Nat.le_refl _))
    have o_17 := hide ((unhide o_16).below x17 (Nat.le_refl _))
    have p_17 := hide (i17)
    clear HC17 HX16 x17 P__16 Q__16 R__16 PQ__16 QR__16 o_16 i17
    have HC18 := hide (unhide HM3 w17 (unhide HX17) a16' c16' a17' c17' ⟨unhide o_17, l16⟩ ⟨unhide p_17, l17⟩)
    go_wp2_with fail
    refine (unhide HC18).mono ?_
    rintro y w18 ⟨a18', c18', rfl, i18, x18⟩
    dsimp only
    have HX18 := hide ((unhide HX17).trans (x18.mono (unhide HX17).size))
    have P__18 := hide ((unhide P__17).below x18 (Nat.le_refl _))
    have Q__18 := hide ((unhide Q__17).below x18 (Nat.le_refl _))
    have R__18 := hide ((unhide R__17).below x18 (Nat.le_refl _))
    have PQ__18 := hide ((unhide PQ__17).below x18 (Nat.le_refl _))
    have QR__18 := hide ((unhide QR__17).below x18 (Nat.le_refl _))
    have o_18 := hide ((unhide o_17).below x18 (Nat.le_refl _))
    have p_18 := hide ((unhide p_17).below x18 (Nat.le_refl _))
    have L1__18 := hide (i18)
    clear HC18 HX17 x18 P__17 Q__17 R__17 PQ__17 QR__17 o_17 p_17 i18 HM3
    clear o_18
    clear p_18
    have HC19 := hide (unhide HOP w18 (unhide HX18) a3' c3' (unhide P__18))
    go_wp2_with fail
    refine (unhide HC19).mono ?_
    rintro y w19 ⟨a19', c19', rfl, ⟨i19, l19⟩, x19⟩
    dsimp only
    have HX19 := hide ((unhide HX18).trans (x19.mono (unhide HX18).size))
    have P__19 := hide ((unhide P__18).below x19 (Nat.le_refl _))
    have Q__19 := hide ((unhide Q__18).below x19 (Nat.le_refl _))
    have R__19 := hide ((unhide R__18).below x19 (Nat.le_refl _))
    have PQ__19 := hide ((unhide PQ__18).below x19 (Nat.le_refl _))
    have QR__19 := hide ((unhide QR__18).below x19 (Nat.le_refl _))
    have L1__19 := hide ((unhide L1__18).below x19 (Nat.le_refl _))
    have o_19 := hide (i19)
    clear HC19 HX18 x19 P__18 Q__18 R__18 PQ__18 QR__18 L1__18 i19
    have HC20 := hide (unhide HOQR w19 (unhide HX19) a15' c15' (unhide QR__19))
    go_wp2_with fail
    refine (unhide HC20).mono ?_
    rintro y w20 ⟨a20', c20', rfl, ⟨i20, l20⟩, x20⟩
    dsimp only
    have HX20 := hide ((unhide HX19).trans (x20.mono (unhide HX19).size))
    have P__20 := hide ((unhide P__19).below x20 (Nat.le_refl _))
    have Q__20 := hide ((unhide Q__19).below x20 (Nat.le_refl _))
    have R__20 := hide ((unhide R__19).below x20 (Nat.le_refl _))
    have PQ__20 := hide ((unhide PQ__19).below x20 (Nat.le_refl _))
    have QR__20 := hide ((unhide QR__19).below x20 (Nat.le_refl _))
    have L1__20 := hide ((unhide L1__19).below x20 (Nat.le_refl _))
    have o_20 := hide ((unhide o_19).below x20 (Nat.le_refl _))
    have p_20 := hide (i20)
    clear HC20 HX19 x20 P__19 Q__19 R__19 PQ__19 QR__19 L1__19 o_19 i20
    have HC21 := hide (unhide HM4 w20 (unhide HX20) a19' c19' a20' c20' ⟨unhide o_20, l19⟩ ⟨unhide p_20, l20⟩)
    go_wp2_with fail
    refine (unhide HC21).mono ?_
    rintro y w21 ⟨a21', c21', rfl, i21, x21⟩
    dsimp only
    have HX21 := hide ((unhide HX20).trans (x21.mono (unhide HX20).size))
    have P__21 := hide ((unhide P__20).below x21 (Nat.le_refl _))
    have Q__21 := hide ((unhide Q__20).below x21 (Nat.le_refl _))
    have R__21 := hide ((unhide R__20).below x21 (Nat.le_refl _))
    have PQ__21 := hide ((unhide PQ__20).below x21 (Nat.le_refl _))
    have QR__21 := hide ((unhide QR__20).below x21 (Nat.le_refl _))
    have L1__21 := hide ((unhide L1__20).below x21 (Nat.le_refl _))
    have o_21 := hide ((unhide o_20).below x21 (Nat.le_refl _))
    have p_21 := hide ((unhide p_20).below x21 (Nat.le_refl _))
    have L2__21 := hide (i21)
    clear HC21 HX20 x21 P__20 Q__20 R__20 PQ__20 QR__20 L1__20 o_20 p_20 i21 HM4
    clear o_21
    clear p_21
    have HC22 := hide (unhide HS1 w21 (unhide HX21) a18' c18' a21' c21' (unhide L1__21) (unhide L2__21))
    go_wp2_with fail
    refine (unhide HC22).mono ?_
    rintro y w22 ⟨rfl, x22⟩
    dsimp only
    have HX22 := hide ((unhide HX21).trans (x22.mono (unhide HX21).size))
    have P__22 := hide ((unhide P__21).below x22 (Nat.le_refl _))
    have Q__22 := hide ((unhide Q__21).below x22 (Nat.le_refl _))
    have R__22 := hide ((unhide R__21).below x22 (Nat.le_refl _))
    have PQ__22 := hide ((unhide PQ__21).below x22 (Nat.le_refl _))
    have QR__22 := hide ((unhide QR__21).below x22 (Nat.le_refl _))
    have L1__22 := hide ((unhide L1__21).below x22 (Nat.le_refl _))
    have L2__22 := hide ((unhide L2__21).below x22 (Nat.le_refl _))
    clear HC22 HX21 x22 P__21 Q__21 R__21 PQ__21 QR__21 L1__21 L2__21 HS1
    clear L1__22
    clear L2__22
    clear PQ__22
    clear QR__22
    clear Q__22
    clear R__22
    have HC23 := hide (unhide HAB w22 (unhide HX22))
    go_wp2_with fail
    refine (unhide HC23).mono ?_
    rintro y w23 ⟨a23', c23', rfl, ⟨i23, l23⟩, x23⟩
    dsimp only
    have HX23 := hide ((unhide HX22).trans (x23.mono (unhide HX22).size))
    have P__23 := hide ((unhide P__22).below x23 (Nat.le_refl _))
    have al_23 := hide (i23)
    clear HC23 HX22 x23 P__22 HAB i23
    have HC24 := hide (unhide HOP w23 (unhide HX23) a3' c3' (unhide P__23))
    go_wp2_with fail
    refine (unhide HC24).mono ?_
    rintro y w24 ⟨a24', c24', rfl, ⟨i24, l24⟩, x24⟩
    dsimp only
    have HX24 := hide ((unhide HX23).trans (x24.mono (unhide HX23).size))
    have P__24 := hide ((unhide P__23).below x24 (Nat.le_refl _))
    have al_24 := hide ((unhide al_23).below x24 (Nat.le_refl _))
    have p_24 := hide (i24)
    clear HC24 HX23 x24 P__23 al_23 i24
    have HC25 := hide (unhide HM5 w24 (unhide HX24) a23' c23' a24' c24' ⟨unhide al_24, l23⟩ ⟨unhide p_24, l24⟩)
    go_wp2_with fail
    refine (unhide HC25).mono ?_
    rintro y w25 ⟨a25', c25', rfl, i25, x25⟩
    dsimp only
    have HX25 := hide ((unhide HX24).trans (x25.mono (unhide HX24).size))
    have P__25 := hide ((unhide P__24).below x25 (Nat.le_refl _))
    have al_25 := hide ((unhide al_24).below x25 (Nat.le_refl _))
    have p_25 := hide ((unhide p_24).below x25 (Nat.le_refl _))
    have Z1__25 := hide (i25)
    clear HC25 HX24 x25 P__24 al_24 p_24 i25 HM5
    clear al_25
    clear p_25
    have HC26 := hide (unhide HOP w25 (unhide HX25) a3' c3' (unhide P__25))
    go_wp2_with fail
    refine (unhide HC26).mono ?_
    rintro y w26 ⟨a26', c26', rfl, ⟨i26, l26⟩, x26⟩
    dsimp only
    have HX26 := hide ((unhide HX25).trans (x26.mono (unhide HX25).size))
    have P__26 := hide ((unhide P__25).below x26 (Nat.le_refl _))
    have Z1__26 := hide ((unhide Z1__25).below x26 (Nat.le_refl _))
    have p_26 := hide (i26)
    clear HC26 HX25 x26 P__25 Z1__25 i26
    have HC27 := hide (unhide HAN w26 (unhide HX26))
    go_wp2_with fail
    refine (unhide HC27).mono ?_
    rintro y w27 ⟨a27', c27', rfl, ⟨i27, l27⟩, x27⟩
    dsimp only
    have HX27 := hide ((unhide HX26).trans (x27.mono (unhide HX26).size))
    have P__27 := hide ((unhide P__26).below x27 (Nat.le_refl _))
    have Z1__27 := hide ((unhide Z1__26).below x27 (Nat.le_refl _))
    have p_27 := hide ((unhide p_26).below x27 (Nat.le_refl _))
    have al_27 := hide (i27)
    clear HC27 HX26 x27 P__26 Z1__26 p_26 HAN i27
    have HC28 := hide (unhide HM6 w27 (unhide HX27) a26' c26' a27' c27' ⟨unhide p_27, l26⟩ ⟨unhide al_27, l27⟩)
    go_wp2_with fail
    refine (unhide HC28).mono ?_
    rintro y w28 ⟨a28', c28', rfl, i28, x28⟩
    dsimp only
    have HX28 := hide ((unhide HX27).trans (x28.mono (unhide HX27).size))
    have P__28 := hide ((unhide P__27).below x28 (Nat.le_refl _))
    have Z1__28 := hide ((unhide Z1__27).below x28 (Nat.le_refl _))
    have p_28 := hide ((unhide p_27).below x28 (Nat.le_refl _))
    have al_28 := hide ((unhide al_27).below x28 (Nat.le_refl _))
    have Z2__28 := hide (i28)
    clear HC28 HX27 x28 P__27 Z1__27 p_27 al_27 i28 HM6
    clear al_28
    clear p_28
    have HC29 := hide (unhide HS2 w28 (unhide HX28) a25' c25' a3' c3' (unhide Z1__28) (unhide P__28))
    go_wp2_with fail
    refine (unhide HC29).mono ?_
    rintro y w29 ⟨rfl, x29⟩
    dsimp only
    have HX29 := hide ((unhide HX28).trans (x29.mono (unhide HX28).size))
    have P__29 := hide ((unhide P__28).below x29 (Nat.le_refl _))
    have Z1__29 := hide ((unhide Z1__28).below x29 (Nat.le_refl _))
    have Z2__29 := hide ((unhide Z2__28).below x29 (Nat.le_refl _))
    clear HC29 HX28 x29 P__28 Z1__28 Z2__28 
    have HC30 := hide (unhide HS2 w29 (unhide HX29) a28' c28' a3' c3' (unhide Z2__29) (unhide P__29))
    go_wp2_with fail
    refine (unhide HC30).mono ?_
    rintro y w30 ⟨rfl, x30⟩
    dsimp only
    have HX30 := hide ((unhide HX29).trans (x30.mono (unhide HX29).size))
    have P__30 := hide ((unhide P__29).below x30 (Nat.le_refl _))
    have Z1__30 := hide ((unhide Z1__29).below x30 (Nat.le_refl _))
    have Z2__30 := hide ((unhide Z2__29).below x30 (Nat.le_refl _))
    clear HC30 HX29 x30 P__29 Z1__29 Z2__29 HS2
    go_wp2_with fail
    refine bodyPost_ret (results_tmp rfl _ _ _) rfl ⟨rfl, unhide HX30⟩

end Go.Proofs.Ytecolpnbbpbflaa
