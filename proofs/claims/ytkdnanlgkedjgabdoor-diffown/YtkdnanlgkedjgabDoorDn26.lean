/- Layer 19: lengths: the closure that tells how long the longest list is that stands in both ends. -/
import Derived.Test.YtkdnanlgkedjgabDoorDn25

namespace Go.Proofs.YtkdnanlgkedjgabDoor
open Go.ChangeShapes Go.WideShapes Go.ChangeAt Go.RowKit
attribute [local go_sem] Oper.semAt_some
attribute [local go_sem] z_sq z_ar z_u16

theorem wrap_dec {n : Nat} (h : n ≤ 1048576) : wrap64 ((n : Int) - 1) = (n : Int) - 1 := by unfold wrap64; omega
/-- a counter that runs down to -1 -/
def DnI (I : Nat) (v : Value) : Prop := (I = 0 ∧ v = .int .i64 (-1)) ∨ ∃ i : Nat, I = i + 1 ∧ v = .int .i64 (i : Int)
theorem dn_of (n : Nat) : DnI n (.int .i64 ((n : Int) - 1)) := by
  cases n with
  | zero => exact .inl ⟨rfl, rfl⟩
  | succ i => exact .inr ⟨i, rfl, by rw [show ((i + 1 : Nat) : Int) - 1 = (i : Int) by omega]⟩
theorem dn_m {I : Nat} {v : Value} (h : DnI I v) : (intOf v + 1).toNat = I := by
  rcases h with ⟨rfl, rfl⟩ | ⟨i, rfl, rfl⟩
  · rfl
  · simp [intOf]
theorem mod_b (i : Nat) : (0 : Int) ≤ (i : Int) % 32 ∧ (i : Int) % 32 < 32 := by omega
theorem quo_facts {ac i j Q : Nat} (hq : i / 32 * ac + j / 32 < Q) (hQ : Q ≤ 16384) (hi : i ≤ 2048) (hj : j ≤ 2048) : ∃ I J P R : Nat, posT ac i j = R * 1024 + i % 32 * 32 + j % 32 ∧ (i : Int) / 32 = (I : Int) ∧ (j : Int) / 32 = (J : Int) ∧
    (R : Int) < (Q : Int) ∧ (0 : Int) ≤ (R : Int) ∧ wrap64 (I : Int) = (I : Int) ∧ wrap64 (J : Int) = (J : Int) ∧ wrap64 ((I : Int) * (ac : Int)) = (P : Int) ∧ wrap64 ((P : Int) + (J : Int)) = (R : Int) := by
  obtain ⟨e1, e3, u1, u2, f3, f4⟩ := div_i i
  obtain ⟨e2, e4, v1, v2, f5, f6⟩ := div_i j
  refine ⟨i / 32, j / 32, i / 32 * ac, i / 32 * ac + j / 32, rfl, e1, e2, ?_, ?_, ?_, ?_, ?_, ?_⟩
  · exact (lt_i hq).1
  · exact (lt_i hq).2
  · exact w64N _ (by omega)
  · exact w64N _ (by omega)
  · exact w64M rfl (by omega)
  · exact w64A rfl (by omega)
theorem LnT.dN {w X : World} {gS gA g Q ac : Nat} {x y : List Nat} {I J : Nat} (h : LnT w X gS gA g Q ac x y I J) : ∀ n, LnT w (X.drewN n) gS gA g Q ac x y I J
  | 0 => h
  | n + 1 => by
    have i := h.dN n
    obtain ⟨f, h1, h2⟩ := i.t
    exact ⟨i.s, i.a, ⟨f, h1.same rfl, h2⟩, i.b.drew, i.n⟩
theorem LnT.put {w X : World} {gS gA g Q ac : Nat} {x y : List Nat} {I J : Nat} (h : LnT w X gS gA g Q ac x y (I + 1) (J + 1)) (hac : ac = y.length / 32 + 1) (hQ : Q = (x.length / 32 + 1) * ac) (hI : I < x.length) (hJ : J < y.length) (v : Nat)
    (hv : v = if x.getD I 0 = y.getD J 0 then lcs (x.drop (I + 1)) (y.drop (J + 1)) + 1 else max (lcs (x.drop (I + 1)) (y.drop J)) (lcs (x.drop I) (y.drop (J + 1)))) :
    LnT w (X.setCell ⟨g, posT ac I J, none⟩ (.int .u16 (v : Int))) gS gA g Q ac x y (I + 1) J := by
  obtain ⟨f, h1, h2⟩ := h.t
  have hk : posT ac I J < Q * 1024 := pos_lt (sq_lt hac hQ (by omega) (by omega)) (Nat.mod_lt _ (by decide)) (Nat.mod_lt _ (by decide))
  obtain ⟨n1, n2, n3, n4, n5, n6, n7⟩ := h.n
  refine ⟨?_, ?_, ⟨_, h1.set hk v, fil_put h2 hI hJ hac v hv⟩, h.b.setCell n3 _, n1, n2, n3, n4, n5, by simpa [World.setCell] using n6, by simpa [World.setCell] using n7⟩
  · rw [World.cell?_of_block (Below.heap_setCell X _ _ gS n4)]; exact h.s
  · rw [World.cell?_of_block (Below.heap_setCell X _ _ gA n5)]; exact h.a
theorem LnT.row {w X : World} {gS gA g Q ac : Nat} {x y : List Nat} {I : Nat} (h : LnT w X gS gA g Q ac x y (I + 1) 0) : LnT w X gS gA g Q ac x y I y.length := by
  obtain ⟨f, h1, h2⟩ := h.t
  exact ⟨h.s, h.a, ⟨f, h1, fil_row h2⟩, h.b, h.n⟩
theorem LnT.at {w X : World} {gS gA g Q ac : Nat} {x y : List Nat} {I J : Nat} (h : LnT w X gS gA g Q ac x y I J) (hac : ac = y.length / 32 + 1) (hQ : Q = (x.length / 32 + 1) * ac) {i j : Nat} (hi : i ≤ x.length) (hj : j ≤ y.length) :
    (∃ F : Nat, X.cell? ⟨g, posT ac i j, none⟩ = some (.int .u16 (F : Int))) ∧ X.frozen? ⟨g, posT ac i j, none⟩ = false := by
  obtain ⟨f, h1, h2⟩ := h.t
  exact ⟨⟨_, h1.cell (pos_lt (sq_lt hac hQ hi hj) (Nat.mod_lt _ (by decide)) (Nat.mod_lt _ (by decide)))⟩, h1.frozen _⟩
theorem wrap_u16 {n : Nat} (h : n ≤ 4096) : IntKind.u16.wrap (n : Int) = (n : Int) := by
  show (n : Int) % 65536 = (n : Int)
  omega
theorem ge_zero (i : Nat) : decide ((i : Int) ≥ 0) = true ∧ decide ((0 : Int) ≤ (i : Int)) = true ∧ (0 : Int) ≤ (i : Int) := ⟨decide_eq_true (by omega), decide_eq_true (by omega), by omega⟩
/-- a value that tells how long the longest list is that stands in both ends -/
def LnV (w X : World) (v : Value) (x y : List Nat) : Prop := ∃ gS gA g Q ac, v = .func (.func 59) #[] #[.pointer (some ⟨gS, 0, none⟩), .pointer (some ⟨gA, 0, none⟩)] ∧ ac = y.length / 32 + 1 ∧ Q = (x.length / 32 + 1) * ac ∧ LnT w X gS gA g Q ac x y 0 0
set_option maxRecDepth 100000 in
set_option maxHeartbeats 8000000 in
theorem lengths_at (a : Option Addr) (c : Nat) (x : List Nat) (a' : Option Addr) (c' : Nat) (y : List Nat) (w : World) (h : IsI w a x) (h' : IsI w a' y) (hx : x.length ≤ 2048) (hy : y.length ≤ 2048) :
    Calls Tryd.prog 45 #[.slice a x.length c, .slice a' y.length c'] w fun e w' => ∃ v, e = .returned v ∧ LnV w w' v x y ∧ Below w.heap.size w w' := by
  have ek : ∀ (args : Array Value) (X : World), (callFunc 59 args).run Tryd.prog X = .ok (.enter 59 args) X := enters_of Tryd.func59 (by kernel_rfl) rfl
  have hmf : ∀ (fn : Fn) (first cap : Array Value) (w : World), (Instr.makeFunc fn first cap).run Tryd.prog w = .ok (.func fn first cap) w := fun _ _ _ _ => rfl
  have HX := hide fun (X : World) (hx : Below w.heap.size w X) => h.below hx (Nat.le_refl _)
  have HY := hide fun (X : World) (hx : Below w.heap.size w X) => h'.below hx (Nat.le_refl _)
  clear h h'
  obtain ⟨ac, hac⟩ : ∃ ac, ac = y.length / 32 + 1 := ⟨_, rfl⟩
  obtain ⟨Q, hQ⟩ : ∃ Q, Q = (x.length / 32 + 1) * ac := ⟨_, rfl⟩
  have hQ2 : Q ≤ 16384 := by
    rw [hQ]
    exact Nat.le_trans (Nat.mul_le_mul (show x.length / 32 + 1 ≤ 65 by omega) (show ac ≤ 65 by omega)) (by decide)
  have d1 := (div_i y.length).1
  have d2 := (div_i x.length).1
  have p1 : wrap64 ((y.length / 32 : Nat) : Int) = ((y.length / 32 : Nat) : Int) := w64N _ (by omega)
  have p2 : wrap64 ((x.length / 32 : Nat) : Int) = ((x.length / 32 : Nat) : Int) := w64N _ (by clear p1; omega)
  have p3 : wrap64 (((y.length / 32 : Nat) : Int) + 1) = (ac : Int) := w64A (b := 1) hac (by clear p1 p2; omega)
  obtain ⟨m1, hm1⟩ : ∃ m1, m1 = x.length / 32 + 1 := ⟨_, rfl⟩
  have p4 : wrap64 (((x.length / 32 : Nat) : Int) + 1) = (m1 : Int) := w64A (b := 1) hm1 (by clear p1 p2 p3; omega)
  have p5 : wrap64 ((m1 : Int) * (ac : Int)) = (Q : Int) := w64M (by rw [hQ, hm1]) (by clear p1 p2 p3 p4; omega)
  have p6 : wrap64 ((x.length : Int) - 1) = (x.length : Int) - 1 := wrap_dec (by clear p1 p2 p3 p4 p5; omega)
  obtain ⟨C, mk, mk2, mk3⟩ := make_sq (w.alloc (.cells #[.int .i64 (ac : Int)] 3)) Q hQ2
  rw [World.size_alloc] at mk
  have K0 : LnT w (((w.alloc (.cells #[.int .i64 (ac : Int)] 3)).alloc (.cells C 105)).alloc (.cells #[.slice (some ⟨w.heap.size + 1, 0, none⟩) Q Q] 101)) (w.heap.size + 1 + 1) w.heap.size (w.heap.size + 1) Q ac x y x.length y.length := by
    have t1 := TbB.new (w.alloc (.cells #[.int .i64 (ac : Int)] 3)) C (Q * 1024) mk2 mk3
    have a1 := Cls.new w 3 #[.int .i64 (ac : Int)]
    have a2 := (a1.alloc (o := .cells C 105)).alloc (o := .cells #[.slice (some ⟨w.heap.size + 1, 0, none⟩) Q Q] 101)
    have s1 := Cls.new ((w.alloc (.cells #[.int .i64 (ac : Int)] 3)).alloc (.cells C 105)) 101 #[.slice (some ⟨w.heap.size + 1, 0, none⟩) Q Q]
    simp only [World.size_alloc] at t1 s1
    have b1 := (((Below.refl w.heap.size w).alloc (Nat.le_refl _) (.cells #[.int .i64 (ac : Int)] 3)).alloc (by simp) (.cells C 105)).alloc (by simp; omega) (.cells #[.slice (some ⟨w.heap.size + 1, 0, none⟩) Q Q] 101)
    refine ⟨(s1.cell 0).trans rfl, (a2.cell 0).trans rfl, ⟨_, t1.same (heap_alloc_old _ _ t1.lt), fil_start x y ac⟩, b1, by omega, by omega, by omega, by omega, by omega, by simp, by simp; omega⟩
  have H0 := hide K0
  have HAC := hide (And.intro hac hQ)
  obtain ⟨N1, hN1⟩ : ∃ N1, N1 = y.length / 32 := ⟨_, rfl⟩
  obtain ⟨N2, hN2⟩ : ∃ N2, N2 = x.length / 32 := ⟨_, rfl⟩
  rw [← hN1] at d1 p1 p3
  rw [← hN2] at d2 p2 p4
  have HC := hide (And.intro mk2 mk3)
  clear hac hQ mk2 mk3 K0
  have HXY := hide (And.intro hx hy)
  clear hN1 hN2 hx hy hm1
  go_enter Tryd.func45, Tryd.ntmps45
  go_wp2_with fail
  clear mk d1 d2 p1 p2 p3 p4 p5
  generalize ((w.alloc (.cells #[.int .i64 (ac : Int)] 3)).alloc (.cells C 105)).alloc (.cells #[.slice (some ⟨w.heap.size + 1, 0, none⟩) Q Q] 101) = w3 at *
  obtain ⟨gA, hgA⟩ : ∃ gA, gA = w.heap.size := ⟨_, rfl⟩
  rw [← hgA] at H0 ⊢
  generalize gA + 1 + 1 = gS at *
  generalize gA + 1 = g at *
  clear hgA
  have DN := dn_of x.length
  rw [← p6] at DN
  clear p6
  obtain ⟨hx, hy⟩ := unhide HXY
  clear HXY
  go_loopw [8, 9, 10] (fun v8 v9 v10 wx => (∃ z, v9 = z) ∧ (∃ z, v10 = z) ∧ ∃ I : Nat, DnI I v8 ∧ I ≤ x.length ∧ Hid (LnT w wx gS gA g Q ac x y I y.length)) (fun v8 _ _ _ => (intOf v8 + 1).toNat)
  case atStart => exact ⟨⟨_, rfl⟩, ⟨_, rfl⟩, x.length, DN, Nat.le_refl _, H0⟩
  case round =>
    clear H0 DN
    obtain ⟨⟨z1, rfl⟩, ⟨z2, rfl⟩, I, hv, hI, HT⟩ := hrel
    rcases hv with ⟨rfl, rfl⟩ | ⟨i, rfl, rfl⟩
    · go_wp2_with fail
      refine bodyPost_ret (results_tmp rfl _ _ _) rfl ⟨_, rfl, ⟨gS, gA, g, Q, ac, rfl, (unhide HAC).1, (unhide HAC).2, ?_⟩, (unhide HT).b⟩
      obtain ⟨f, h1, h2⟩ := (unhide HT).t
      exact ⟨(unhide HT).s, (unhide HT).a, ⟨f, h1, fun i j hi hj _ => h2 i j hi hj (.inl (Nat.zero_le _))⟩, (unhide HT).b, (unhide HT).n⟩
    · have r1 := ge_zero i
      have q6 := wrap_dec (n := y.length) (by omega)
      have DN := dn_of y.length
      go_wp2_with fail
      go_loopw [9, 10] (fun v9 v10 wx => (∃ z, v10 = z) ∧ ∃ J : Nat, DnI J v9 ∧ J ≤ y.length ∧ Hid (LnT w wx gS gA g Q ac x y (i + 1) J)) (fun v9 _ _ => (intOf v9 + 1).toNat)
      case atStart => exact ⟨⟨_, rfl⟩, y.length, DN, Nat.le_refl _, HT⟩
      case round =>
        clear HT DN q6
        obtain ⟨⟨z2, rfl⟩, J, hv, hJ, HT⟩ := hrel
        rcases hv with ⟨rfl, rfl⟩ | ⟨j, rfl, rfl⟩
        · have HR := hide (unhide HT).row
          have q7 := wrap_dec (n := i) (by omega)
          have DN := dn_of i
          have hm := dn_m DN
          clear HT
          go_wp2_with fail
          go_roundw
          case rel => exact ⟨⟨_, rfl⟩, ⟨_, rfl⟩, i, DN, by omega, HR⟩
          case measure => simp [intOf]
        · have r2 := ge_zero j
          have hac := (unhide HAC).1
          have hQ := (unhide HAC).2
          have C1 : Calls Tryd.prog 59 #[.int .i64 ((i : Int) + 1), .int .i64 (j : Int), .pointer (some ⟨gS, 0, none⟩), .pointer (some ⟨gA, 0, none⟩)] wr _ := (unhide HT).ask hac hQ hx hy (i := i + 1) (j := j) (by omega) (by omega) (.inl (Nat.le_refl _))
          have C2 : Calls Tryd.prog 59 #[.int .i64 (i : Int), .int .i64 ((j : Int) + 1), .pointer (some ⟨gS, 0, none⟩), .pointer (some ⟨gA, 0, none⟩)] wr _ := (unhide HT).ask hac hQ hx hy (i := i) (j := j + 1) (by omega) (by omega) (.inr (.inl ⟨rfl, Nat.le_refl _⟩))
          have HC1 := hide C1
          have HC2 := hide C2
          have C3 : ∀ n : Nat, Calls Tryd.prog 59 #[.int .i64 ((i : Int) + 1), .int .i64 ((j : Int) + 1), .pointer (some ⟨gS, 0, none⟩), .pointer (some ⟨gA, 0, none⟩)] (wr.drewN n) _ := fun n => ((unhide HT).dN n).ask hac hQ hx hy (i := i + 1) (j := j + 1) (by omega) (by omega) (.inl (Nat.le_refl _))
          have HC3 := hide C3
          have HL := hide (unhide HT).dN
          have HP := hide fun (n : Nat) (v : Nat) => ((unhide HT).dN n).put hac hQ (show i < x.length by omega) (show j < y.length by omega) v
          have HAt := hide fun (n : Nat) => ((unhide HT).dN n).at hac hQ (show i ≤ x.length by omega) (show j ≤ y.length by omega)
          have HQF := hide (quo_facts (sq_lt hac hQ (show i ≤ x.length by omega) (show j ≤ y.length by omega)) hQ2 (by omega) (by omega))
          have hl1 := lcs_len (x.drop (i + 1)) (y.drop j)
          have hl2 := lcs_len (x.drop i) (y.drop (j + 1))
          have hl3 := lcs_len (x.drop (i + 1)) (y.drop (j + 1))
          clear C1 C2 C3 hac hQ
          simp only [List.length_drop] at hl1 hl2 hl3
          obtain ⟨gx, off, ha, hgx, cx⟩ := (unhide HX wr (unhide HT).b).at (k := i) (by omega)
          obtain ⟨gy, off', ha', hgy, cy⟩ := (unhide HY wr (unhide HT).b).at (k := j) (by omega)
          have c1 := cx i (by omega)
          have c2 := cy j (by omega)
          subst ha ha'
          clear cx cy
          generalize lcs (x.drop (i + 1)) (y.drop j) = p at *
          generalize lcs (x.drop i) (y.drop (j + 1)) = q at *
          generalize lcs (x.drop (i + 1)) (y.drop (j + 1)) = r at *
          generalize x.getD i 0 = X1 at *
          generalize y.getD j 0 = Y1 at *
          clear HT
          go_wp2_with fail
          refine (unhide HC1).mono ?_
          rintro e1 v1 ⟨rfl, rfl⟩
          dsimp only
          go_wp2_with fail
          refine (unhide HC2).mono ?_
          rintro e2 v2 ⟨rfl, rfl⟩
          dsimp only
          clear HC1 HC2
          have t1 : decide ((i : Int) < (x.length : Int)) = true := decide_eq_true (by omega)
          have t2 : decide ((j : Int) < (y.length : Int)) = true := decide_eq_true (by omega)
          have f1 : (i : Int) < (x.length : Int) := by omega
          have f2 : (j : Int) < (y.length : Int) := by omega
          have HW := hide fun (n : Nat) (h : n ≤ 4096) => wrap_u16 h
          go_wp2_with fail
          · by_cases e : X1 = Y1
            · have t3 : ((X1 : Int) == (Y1 : Int)) = true := by simp [e]
              go_quiet (fail)
              go_wp2_with fail
              refine (unhide HC3 _).mono ?_
              rintro e3 v3 ⟨rfl, rfl⟩
              dsimp only
              have HPn := hide (unhide HP nq (r + 1) (by rw [if_pos e]))
              have w1 : IntKind.u16.wrap ((r : Int) + 1) = ((r : Int) + 1) := by have := unhide HW (r + 1) (by omega); exact this
              have w2 : wrap64 ((r : Int) + 1) = (r : Int) + 1 := w64A (a := r) (b := 1) (P := r + 1) rfl (by omega)
              obtain ⟨m1', m2'⟩ := mod_b i
              obtain ⟨m3', m4'⟩ := mod_b j
              have HQ7 := hide (wrap_dec (n := j) (by clear w2; omega))
              have HD := hide (dn_of j)
              have HJ := hide (show j ≤ y.length by clear w2; omega)
              obtain ⟨⟨F, hF⟩, hfz⟩ := unhide HAt nq
              have s1 := (unhide HL nq).s
              have s2 := (unhide HL nq).a
              clear HP HAt HL HC3 HW c1 c2 hl1 hl2 hl3 hgx hgy t1 t2 t3 f1 f2 h hI hJ hx hy r1 r2
              generalize v2.drewN nq = v3 at *
              obtain ⟨I, J, P, R, u0, u1, u2, u9, u10, k1, k2, k3, k4⟩ := unhide HQF
              rw [u0] at hF hfz HPn
              have HQ2 := hide hQ2
              clear HQF u0 hQ2
              set_option maxHeartbeats 1000 in go_upto_region 9 with fail
              clear k1 k2 k3 k4 m1' m2' m3' m4' w1 u1 u2 u9 u10 hF hfz s1 s2 w2
              have q7 := unhide HQ7
              clear HQ7
              go_wp2_with fail
              go_roundw
              case rel => exact ⟨⟨_, rfl⟩, j, by first | exact unhide HD | (rw [q7]; exact unhide HD), unhide HJ, HPn⟩
              case measure => simp [intOf, q7]
            · have t3 : ((X1 : Int) == (Y1 : Int)) = false := by simp; omega
              go_quiet (fail)
              have HPn := hide (unhide HP nq (q) (by rw [if_neg e]; omega))
              have w1 : IntKind.u16.wrap ((q : Int)) = ((q : Int)) := by have := unhide HW (q) (by omega); exact this
              obtain ⟨m1', m2'⟩ := mod_b i
              obtain ⟨m3', m4'⟩ := mod_b j
              have HQ7 := hide (wrap_dec (n := j) (by omega))
              have HD := hide (dn_of j)
              have HJ := hide (show j ≤ y.length by omega)
              obtain ⟨⟨F, hF⟩, hfz⟩ := unhide HAt nq
              have s1 := (unhide HL nq).s
              have s2 := (unhide HL nq).a
              clear HP HAt HL HC3 HW c1 c2 hl1 hl2 hl3 hgx hgy t1 t2 t3 f1 f2 h hI hJ hx hy r1 r2
              generalize v2.drewN nq = v3 at *
              obtain ⟨I, J, P, R, u0, u1, u2, u9, u10, k1, k2, k3, k4⟩ := unhide HQF
              rw [u0] at hF hfz HPn
              have HQ2 := hide hQ2
              clear HQF u0 hQ2
              set_option maxHeartbeats 1000 in go_upto_region 9 with fail
              clear k1 k2 k3 k4 m1' m2' m3' m4' w1 u1 u2 u9 u10 hF hfz s1 s2
              have q7 := unhide HQ7
              clear HQ7
              go_wp2_with fail
              go_roundw
              case rel => exact ⟨⟨_, rfl⟩, j, by first | exact unhide HD | (rw [q7]; exact unhide HD), unhide HJ, HPn⟩
              case measure => simp [intOf, q7]
          · by_cases e : X1 = Y1
            · have t3 : ((X1 : Int) == (Y1 : Int)) = true := by simp [e]
              go_quiet (fail)
              go_wp2_with fail
              refine (unhide HC3 _).mono ?_
              rintro e3 v3 ⟨rfl, rfl⟩
              dsimp only
              have HPn := hide (unhide HP nq (r + 1) (by rw [if_pos e]))
              have w1 : IntKind.u16.wrap ((r : Int) + 1) = ((r : Int) + 1) := by have := unhide HW (r + 1) (by omega); exact this
              have w2 : wrap64 ((r : Int) + 1) = (r : Int) + 1 := w64A (a := r) (b := 1) (P := r + 1) rfl (by omega)
              obtain ⟨m1', m2'⟩ := mod_b i
              obtain ⟨m3', m4'⟩ := mod_b j
              have HQ7 := hide (wrap_dec (n := j) (by clear w2; omega))
              have HD := hide (dn_of j)
              have HJ := hide (show j ≤ y.length by clear w2; omega)
              obtain ⟨⟨F, hF⟩, hfz⟩ := unhide HAt nq
              have s1 := (unhide HL nq).s
              have s2 := (unhide HL nq).a
              clear HP HAt HL HC3 HW c1 c2 hl1 hl2 hl3 hgx hgy t1 t2 t3 f1 f2 h hI hJ hx hy r1 r2
              generalize v2.drewN nq = v3 at *
              obtain ⟨I, J, P, R, u0, u1, u2, u9, u10, k1, k2, k3, k4⟩ := unhide HQF
              rw [u0] at hF hfz HPn
              have HQ2 := hide hQ2
              clear HQF u0 hQ2
              set_option maxHeartbeats 1000 in go_upto_region 9 with fail
              clear k1 k2 k3 k4 m1' m2' m3' m4' w1 u1 u2 u9 u10 hF hfz s1 s2 w2
              have q7 := unhide HQ7
              clear HQ7
              go_wp2_with fail
              go_roundw
              case rel => exact ⟨⟨_, rfl⟩, j, by first | exact unhide HD | (rw [q7]; exact unhide HD), unhide HJ, HPn⟩
              case measure => simp [intOf, q7]
            · have t3 : ((X1 : Int) == (Y1 : Int)) = false := by simp; omega
              go_quiet (fail)
              have HPn := hide (unhide HP nq (p) (by rw [if_neg e]; omega))
              have w1 : IntKind.u16.wrap ((p : Int)) = ((p : Int)) := by have := unhide HW (p) (by omega); exact this
              obtain ⟨m1', m2'⟩ := mod_b i
              obtain ⟨m3', m4'⟩ := mod_b j
              have HQ7 := hide (wrap_dec (n := j) (by omega))
              have HD := hide (dn_of j)
              have HJ := hide (show j ≤ y.length by omega)
              obtain ⟨⟨F, hF⟩, hfz⟩ := unhide HAt nq
              have s1 := (unhide HL nq).s
              have s2 := (unhide HL nq).a
              clear HP HAt HL HC3 HW c1 c2 hl1 hl2 hl3 hgx hgy t1 t2 t3 f1 f2 h hI hJ hx hy r1 r2
              generalize v2.drewN nq = v3 at *
              obtain ⟨I, J, P, R, u0, u1, u2, u9, u10, k1, k2, k3, k4⟩ := unhide HQF
              rw [u0] at hF hfz HPn
              have HQ2 := hide hQ2
              clear HQF u0 hQ2
              set_option maxHeartbeats 1000 in go_upto_region 9 with fail
              clear k1 k2 k3 k4 m1' m2' m3' m4' w1 u1 u2 u9 u10 hF hfz s1 s2
              have q7 := unhide HQ7
              clear HQ7
              go_wp2_with fail
              go_roundw
              case rel => exact ⟨⟨_, rfl⟩, j, by first | exact unhide HD | (rw [q7]; exact unhide HD), unhide HJ, HPn⟩
              case measure => simp [intOf, q7]
end Go.Proofs.YtkdnanlgkedjgabDoor
