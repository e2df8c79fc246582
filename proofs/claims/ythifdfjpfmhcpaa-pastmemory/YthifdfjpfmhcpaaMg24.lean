/- Layer 17: PastMemory's walk. Written by wip/tools/pum.py. -/
import Derived.Test.YthifdfjpfmhcpaaMg23

namespace Go.Proofs.Ythifdfjpfmhcpaa
open Go.ChangeShapes Go.WideShapes Go.ChangeAt Go.RowKit
attribute [local go_sem] Oper.semAt_some

theorem wpList_conv {P : Program} {ops : Array Oper} {rest : List Oper} {o : Oper} {a : Act} {Q : Exit → Act → World → Prop} {w : World} (hw : Region.wanted o (yielded ops a.tmps) = true) (s d : TypeId) (x : Operand)
    (ho : o.op = .convert s d x) (u v' : Value) (hx : a.eval x = u) (hr : (convert s d u).run P w = .ok v' w) (h : wpList P ops Q rest (a.put o.dst v') w) : wpList P ops Q (o :: rest) a w := by
  unfold wpList
  rw [if_pos hw]
  left
  unfold Oper.wp execOp
  simp only [ho]
  go_simp
  subst hx
  have e := hr
  unfold Act.eval at e
  simp only [Array.getD_eq_getD_getElem?] at e
  rw [e]
  exact h
set_option maxRecDepth 100000 in
theorem cv_rune (r : Int) (X : World) : (convert 21 9 (.int .i32 r)).run Try.prog X = .ok (.string (Utf8.encode r)) X := by
  rfl
set_option maxRecDepth 100000 in
theorem cv_int (r : Int) (X : World) (h0 : 0 ≤ r) (h1 : r ≤ 2147483647) : (convert 3 21 (.int .i64 r)).run Try.prog X = .ok (.int .i32 r) X := by
  have e : IntKind.wrap .i32 r = r := by
    have b : IntKind.i32.bits = 32 := rfl
    unfold IntKind.wrap
    simp [b]
    omega
  have : (convert 3 21 (.int .i64 r)).run Try.prog X = .ok (.int .i32 (IntKind.wrap .i32 r)) X := rfl
  rw [this, e]
theorem le45 : 4096 ≤ 5000 := by omega
theorem wrI (k : Nat) (h : k < 20) : IntKind.wrap .i32 (65 + (k : Int)) = 65 + (k : Int) := by
  have b : IntKind.i32.bits = 32 := rfl
  unfold IntKind.wrap
  simp [b]
  omega
theorem wr2 (k : Nat) (h : k < 20) : wrap32 (65 + (k : Int)) = 65 + (k : Int) := by unfold wrap32; omega
theorem stepA (k : Nat) (h : k < 20) : wrap64 (65 + (k : Int)) = 65 + (k : Int) := by unfold wrap64; omega
theorem stepJ (j N : Nat) (h : j < N) (hN : N ≤ 5000) : wrap64 ((j : Int) + 1) = ((j + 1 : Nat) : Int) := by unfold wrap64; omega
def chW (k : Nat) : ByteArray := Utf8.encode (65 + (k : Int))
set_option maxRecDepth 100000 in
set_option maxHeartbeats 8000000 in
theorem PastMemoryN (m : Int) (a : Option Addr) (c : Nat) (d : List Oq)  (w : World) (h : ¬ (0 ≤ m ∧ m ≤ 4096)) :
    Calls Try.prog 8 #[.int .i64 m, .slice a d.length c] w fun y Y => y = .returned (.bool true) ∧ Below w.heap.size w Y := by
  have HF := hide (fixed17_at w)
  have HP := hide fun (X : World) => playE_at 0 m (.slice a d.length c) X h
  by_cases h1 : m < 0
  · have t1 : decide (m < 0) = true := decide_eq_true h1
    clear h h1
    go_enter Try.func8, Try.ntmps8
    go_wp2_with fail
    refine (unhide HF).mono ?_
    rintro y w1 ⟨rfl, x1⟩
    dsimp only
    have HX1 := hide x1
    have HC := hide (unhide HP w1)
    clear HF HP x1
    go_wp2_with fail
    refine (unhide HC).mono ?_
    rintro y w2 ⟨rfl, rfl⟩
    dsimp only
    clear HC
    go_wp2_with fail
    exact bodyPost_ret (results_tmp rfl _ _ _) rfl ⟨rfl, unhide HX1⟩
  · have t1 : decide (m < 0) = false := decide_eq_false h1
    have t2 : decide (m > 4096) = true := decide_eq_true (by omega)
    have t2' : decide (4096 < m) = true := decide_eq_true (by omega)
    clear h h1
    go_enter Try.func8, Try.ntmps8
    go_wp2_with fail
    refine (unhide HF).mono ?_
    rintro y w1 ⟨rfl, x1⟩
    dsimp only
    have HX1 := hide x1
    have HC := hide (unhide HP w1)
    clear HF HP x1
    go_wp2_with fail
    refine (unhide HC).mono ?_
    rintro y w2 ⟨rfl, rfl⟩
    dsimp only
    clear HC
    go_wp2_with fail
    exact bodyPost_ret (results_tmp rfl _ _ _) rfl ⟨rfl, unhide HX1⟩
set_option maxRecDepth 100000 in
set_option maxHeartbeats 8000000 in
theorem PastMemoryS (m : Int) (a : Option Addr) (c : Nat) (d : List Oq)  (w : World) (h : 0 ≤ m ∧ m ≤ 4096) (ho : IsQ w a d) (hl : d.length ≤ 140737488355328) (hw : ∀ o ∈ d, o.w.size ≤ 281474976710656) :
    Calls Try.prog 8 #[.int .i64 m, .slice a d.length c] w fun y Y => y = .returned (.bool true) ∧ Below w.heap.size w Y := by
  have HF := hide (fixed17_at w)
  have HP := hide fun (X : World) (hx : Below w.heap.size w X) => play_at 0 m a c d X h (ho.below hx (Nat.le_refl _)) hl hw
  obtain ⟨P, hP, hok, hPm⟩ : ∃ P : Pa Int, P = plP 0 m d ∧ OkP P ∧ P.m = m := ⟨_, rfl, plP_ok 0 m h.1 h.2 d, plP_m _ _ _⟩
  simp only [← hP] at HP
  have h0 := h.1
  have h1 := h.2
  clear ho hw hl h hP
  go_enter Try.func8, Try.ntmps8
  go_wp2_with fail
  refine (unhide HF).mono ?_
  rintro y w1 ⟨rfl, x1⟩
  dsimp only
  have HC := hide (unhide HP w1 x1)
  have HX1 := hide x1
  clear HF HP x1
  go_wp2_with fail
  refine (unhide HC).mono ?_
  rintro y w2 ⟨g, F2, rfl, i2, l2, x2⟩
  dsimp only
  have HI2 := hide i2
  have HB2 : Hid (Below w.heap.size w w2 ∧ ∀ i, F2 i → w.heap.size ≤ i) := hide ⟨(unhide HX1).trans (x2.mono (unhide HX1).size), fun i e => Nat.le_trans (unhide HX1).size (l2 i e)⟩
  clear HC HX1 i2 l2 x2
  have HC := hide (WordsI_at w2 F2 g P (unhide HI2) hok.bl hok.al)
  obtain ⟨LB, hLB⟩ : ∃ LB, LB = P.b.reverse.map (·.2) := ⟨_, rfl⟩
  obtain ⟨LA, hLA⟩ : ∃ LA, LA = P.a.reverse.map (·.2) := ⟨_, rfl⟩
  have hlB : LB.length ≤ 4096 := by rw [hLB]; simpa using hok.bl
  have hlA : LA.length ≤ 4096 := by rw [hLA]; simpa using hok.al
  have HWD : Hid (∀ X, PsI X F2 g P → Calls Try.prog 17 #[.pointer (some ⟨g, 0, none⟩)] X fun y Y => ∃ v1 v2 k1 k2, y = .returned (.tuple #[v1, v2]) ∧ RS Y v1 LB k1 ∧ RS Y v2 LA k2 ∧ (∀ i, k1 = some i → X.heap.size ≤ i) ∧ (∀ i, k2 = some i → X.heap.size ≤ i) ∧ (∀ i, k1 = some i → k2 ≠ some i) ∧ PsI Y F2 g P ∧ Below X.heap.size X Y) := hide fun X hX => by
    rw [hLB, hLA]
    exact WordsI_at X F2 g P hX hok.bl hok.al
  rw [← hLB, ← hLA] at HC
  clear hLB hLA hok
  go_wp2_with fail
  refine (unhide HC).mono ?_
  rintro y w3 ⟨v1, v2, k1, k2, rfl, r1, r2, l1, l2, hne, i3, x3⟩
  dsimp only
  obtain ⟨av1, cv1, rfl⟩ := r1.val
  obtain ⟨av2, cv2, rfl⟩ := r2.val
  have hltF := (unhide HI2).lt
  -- the kept words
  have hnil : ∀ X : World, RS (X.alloc (.cells #[] 9)) (.slice (some ⟨X.heap.size, 0, none⟩) 0 0) [] (some X.heap.size) := fun X => ⟨rfl, .inr ⟨_, 0, 0, rfl, rfl, by simp, Nat.le_refl _, fun j hj => by simp at hj, fun j hj => by simp at hj⟩⟩
  have bA := (Below.refl w3.heap.size w3).alloc (Nat.le_refl _) (.cells #[] 9)
  obtain ⟨vB, Y1, kB, hr1, rB, p1, e1⟩ := appW (hnil w3) (r1.below bA) (fun e => by cases e) (by simp; omega)
  have b1 : Below w3.heap.size w3 Y1 := bA.trans (p1.below (by simp) (fun i e => by injection e; omega))
  have s1 : w3.heap.size < Y1.heap.size := Nat.lt_of_lt_of_le (by simp) p1.size
  have hkB : ∀ i, kB = some i → w3.heap.size ≤ i := fun i e => by
    rcases e1 with ⟨e2, _⟩ | e2
    · rw [e2] at e; injection e; omega
    · rw [e2] at e; injection e with e; rw [World.size_alloc] at e; omega
  have bA2 := (Below.refl Y1.heap.size Y1).alloc (Nat.le_refl _) (.cells #[] 9)
  obtain ⟨vA, Y2, kA, hr2, rA, p2, e2⟩ := appW (hnil Y1) ((r2.below b1).below bA2) (fun e => by cases e) (by simp; omega)
  have b2 : Below Y1.heap.size Y1 Y2 := bA2.trans (p2.below (by simp) (fun i e => by injection e; omega))
  have hkA : ∀ i, kA = some i → Y1.heap.size ≤ i := fun i e => by
    rcases e2 with ⟨e3, _⟩ | e3
    · rw [e3] at e; injection e; omega
    · rw [e3] at e; injection e with e; rw [World.size_alloc] at e; omega
  rw [List.nil_append] at rB rA
  have R1 := hide hr1
  have R2 := hide hr2
  have hk1lt : ∀ i, k1 = some i → i < w3.heap.size := fun i e => RA.lt r1 i e
  have hk2lt : ∀ i, k2 = some i → i < w3.heap.size := fun i e => RA.lt r2 i e
  have x3' : Below w.heap.size w w3 := (unhide HB2).1.trans (x3.mono (unhide HB2).1.size)
  have hM0 : MeI w F2 g P vB vA LB LA kB kA Y2 0 (.slice none 0 0) none (DL 0) (fun i => if i = 18 then .slice av1 LB.length cv1 else .slice av2 LA.length cv2) (fun i => if i = 18 then k1 else k2) (cP LB LA) := by
    have key : ∀ i, DL 0 i → i = 18 ∨ i = 19 := fun i hi => by rcases hi with h | h | h <;> omega
    refine ⟨(i3.below b1).below b2, (x3'.trans (b1.mono x3'.size)).trans (b2.mono (Nat.le_trans x3'.size b1.size)), rB.below b2, rA, RA.nil _ _, fun i hi => ?_, fun i j hi hj hij q a1 a2 => ?_, fun i hi q e => ?_, fun _ e => (nomatch e)⟩
    · rcases key i hi with rfl | rfl
      · exact (r1.below b1).below b2
      · exact (r2.below b1).below b2
    · rcases key i hi with rfl | rfl <;> rcases key j hj with rfl | rfl
      · omega
      · exact hne q a1 a2
      · exact hne q a2 a1
      · omega
    · have hq : w2.heap.size ≤ q ∧ q < w3.heap.size := by
        rcases key i hi with rfl | rfl
        · exact ⟨l1 q e, hk1lt q e⟩
        · exact ⟨l2 q e, hk2lt q e⟩
      refine ⟨fun e1 => by have := hltF q e1; omega, by simp, fun e1 => by have := hkB q e1; omega, fun e1 => by have := hkA q e1; omega, Nat.le_trans (unhide HB2).1.size hq.1⟩
  have HM0 := hide hM0
  clear HC r1 r2 l1 l2 hne i3 x3 hltF hnil bA hr1 rB p1 e1 b1 s1 hkB bA2 hr2 rA p2 e2 b2 hkA hk1lt hk2lt x3' hM0 HI2 HB2
  go_wp2_with (at_builtin; first | (refine wpList_append_known rfl _ _ 37 37 rfl _ _ rfl rfl _ _ (unhide R1) ?_; clear R1) | (refine wpList_append_known rfl _ _ 37 37 rfl _ _ rfl rfl _ _ (unhide R2) ?_; clear R2))
  go_loopw [10, 11, 12, 13] (fun v10 v11 v12 v13 wx => ((∃ z, v12 = z) ∧ (∃ z, v13 = z)) ∧ (∃ k : Nat, v11 = .int .i64 (k : Int) ∧ k ≤ 9 ∧ ∃ va, v10 = va ∧ Hid (∃ kAll V K, MeI w F2 g P vB vA LB LA kB kA wx (2 * k) va kAll (DL k) V K (cP LB LA) ∧ V 18 = .slice av1 LB.length cv1 ∧ V 19 = .slice av2 LA.length cv2))) (fun _ v11 _ _ _ => 9 - (intOf v11).toNat)
  case atStart => exact ⟨⟨⟨_, rfl⟩, ⟨_, rfl⟩⟩, ⟨0, rfl, Nat.zero_le _, _, rfl, hide ⟨_, _, _, unhide HM0, rfl, rfl⟩⟩⟩
  case round =>
    obtain ⟨⟨⟨z1, rfl⟩, ⟨z2, rfl⟩⟩, ⟨k, rfl, hk, va, rfl, HM⟩⟩ := hrel
    clear HM0
    obtain ⟨kAll, V, K, hM, hV1, hV2⟩ := unhide HM
    by_cases hlt : k < 9
    · have u1 : decide ((k : Int) < 9) = true := decide_eq_true (by omega)
      have wk : wrap64 ((k : Int) + 1) = ((k + 1 : Nat) : Int) := by unfold wrap64; omega
      have HC := hide (unhide HWD wr hM.p)
      have HM1 := hide (And.intro hM (And.intro hV1 hV2))
      clear HM hM hV1 hV2 HWD
      go_wp2_with fail
      refine (unhide HC).mono ?_
      rintro y wa ⟨x1, x2, q1, q2, rfl, rx1, rx2, lx1, lx2, hnx, _, xa⟩
      dsimp only
      obtain ⟨ax1, cx1, rfl⟩ := rx1.val
      obtain ⟨ax2, cx2, rfl⟩ := rx2.val
      obtain ⟨hM, hV1, hV2⟩ := unhide HM1
      have hA := hM.add xa rx1 rx2 lx1 lx2 hnx (2 * k) (Nat.le_refl _) (by rintro (h | h | h) <;> omega) (by rintro (h | h | h) <;> omega)
      have hA2 := hA.congr (D' := DL (k + 1)) (C' := cP LB LA) (fun i hi => by
          rcases hi with h | h | h
          · by_cases h1 : i < 2 * k
            · exact .inl (.inl h1)
            · exact .inr (by omega)
          · exact .inl (.inr (.inl h))
          · exact .inl (.inr (.inr h))) (fun i _ => by
          by_cases e1 : i = 2 * k
          · subst e1; simp [cP]
          · by_cases e2 : i = 2 * k + 1
            · subst e2; simp [cP]
            · simp [e1, e2])
      have hV1' : (fun i : Nat => if i = 2 * k then Value.slice ax1 LB.length cx1 else if i = 2 * k + 1 then .slice ax2 LA.length cx2 else V i) 18 = .slice av1 LB.length cv1 := by
        show (if 18 = 2 * k then .slice ax1 LB.length cx1 else if 18 = 2 * k + 1 then .slice ax2 LA.length cx2 else V 18) = .slice av1 LB.length cv1
        rw [if_neg (by omega), if_neg (by omega), hV1]
      have hV2' : (fun i : Nat => if i = 2 * k then Value.slice ax1 LB.length cx1 else if i = 2 * k + 1 then .slice ax2 LA.length cx2 else V i) 19 = .slice av2 LA.length cv2 := by
        show (if 19 = 2 * k then .slice ax1 LB.length cx1 else if 19 = 2 * k + 1 then .slice ax2 LA.length cx2 else V 19) = .slice av2 LA.length cv2
        rw [if_neg (by omega), if_neg (by omega), hV2]
      have hX1 : (fun i : Nat => if i = 2 * k then Value.slice ax1 LB.length cx1 else if i = 2 * k + 1 then .slice ax2 LA.length cx2 else V i) (2 * k) = .slice ax1 LB.length cx1 := by simp
      have hX2 : (fun i : Nat => if i = 2 * k then Value.slice ax1 LB.length cx1 else if i = 2 * k + 1 then .slice ax2 LA.length cx2 else V i) (2 * k + 1) = .slice ax2 LA.length cx2 := by simp
      generalize (fun i : Nat => if i = 2 * k then Value.slice ax1 LB.length cx1 else if i = 2 * k + 1 then .slice ax2 LA.length cx2 else V i) = V9 at *
      generalize (fun i => if i = 2 * k then q1 else if i = 2 * k + 1 then q2 else K i) = K9 at *
      have HC2 := hide (wordsL_at wa _ _ _ _ _ _ rx1 hA2.fB (by omega))
      rw [decide_eq_true rfl] at HC2
      have HM2 := hide (And.intro hA2 (And.intro hV1' (And.intro hV2' (And.intro hX1 hX2))))
      have HRX := hide rx2
      clear HC HM1 hM hV1 hV2 hA hA2 hV1' hV2' hX1 hX2 rx1 rx2 lx1 lx2 hnx xa
      go_wp2_with fail
      refine (unhide HC2).mono ?_
      rintro y wb ⟨rfl, xb⟩
      dsimp only
      have HC3 := hide (wordsL_at wb _ _ _ _ _ _ ((unhide HRX).below xb) ((unhide HM2).1.below xb).fA (by omega))
      rw [decide_eq_true rfl] at HC3
      have HM3 := hide (And.intro ((unhide HM2).1.below xb) (unhide HM2).2)
      clear HC2 HM2 HRX xb
      go_wp2_with fail
      refine (unhide HC3).mono ?_
      rintro y wc ⟨rfl, xc⟩
      dsimp only
      obtain ⟨hM3, hV1, hV2, hX1, hX2⟩ := unhide HM3
      obtain ⟨vn, Y, kn, hr, hM4⟩ := (hM3.below xc).app (by omega) (.inl (by omega)) (.inl (by omega))
      rw [hX1, hX2] at hr
      have R1 := hide hr
      have HN : Hid (∃ kAll V K, MeI w F2 g P vB vA LB LA kB kA Y (2 * (k + 1)) vn kAll (DL (k + 1)) V K (cP LB LA) ∧ V 18 = .slice av1 LB.length cv1 ∧ V 19 = .slice av2 LA.length cv2) := hide ⟨kn, V9, K9, hM4, hV1, hV2⟩
      clear HC3 HM3 xc hM3 hV1 hV2 hX1 hX2 hr hM4
      go_wp2_with (at_builtin; refine wpList_append_known rfl _ _ 49 49 rfl _ _ rfl rfl _ _ (unhide R1) ?_; clear R1)
      go_roundw
      case rel => exact ⟨⟨⟨_, rfl⟩, ⟨_, rfl⟩⟩, ⟨k + 1, by first | rfl | rw [wk], hlt, _, rfl, HN⟩⟩
      case measure => simp [intOf]; omega
    · obtain rfl : k = 9 := by omega
      obtain ⟨vn, Y, kn, hr, hM4⟩ := hM.app (by omega) (.inr (.inl rfl)) (.inr (.inr rfl))
      rw [show 2 * 9 = 18 from rfl, hV1, hV2] at hr
      have hM5 := hM4.congr (D' := fun i => i < 20) (C' := cP LB LA) (fun i hi => by by_cases h : i < 18; exact .inl (by omega); exact .inr (by omega)) (fun _ _ => rfl)
      rw [show 2 * 9 + 2 = 20 from rfl] at hM5
      obtain ⟨gn, ofn, cn, rfl, _⟩ := hM5.row.form (by omega)
      have R1 := hide hr
      have HM5 := hide hM5
      clear hM HM hr hM4 hM5 hV1 hV2 hlt hk
      have e9 : ((9 : Nat) : Int) = 9 := rfl
      rw [e9]
      go_wp2_with (at_builtin; refine wpList_append_known rfl _ _ 49 49 rfl _ _ rfl rfl _ _ (unhide R1) ?_; clear R1)
      have HM6 : Hid (MeI w F2 g P vB vA LB LA kB kA Y 20 (.slice (some ⟨gn, ofn, none⟩) 20 cn) kn (fun i => i < 20) V K (cQ LB LA chW 0)) := hide ((unhide HM5).congr (fun _ h => h) (fun i _ => by unfold cQ; rw [if_neg (by omega)]))
      clear HM5
      go_loopw [14, 15, 16, 17, 78, 85] (fun v14 v15 v16 v17 v78 v85 wx => ((∃ z, v14 = z) ∧ (∃ z, v15 = z) ∧ (∃ z, v16 = z) ∧ (∃ z, v17 = z) ∧ (∃ z, v85 = z)) ∧ (∃ k : Nat, v78 = .int .i64 (k : Int) ∧ k ≤ 20 ∧ Hid (MeI w F2 g P vB vA LB LA kB kA wx 20 (.slice (some ⟨gn, ofn, none⟩) 20 cn) kn (fun i => i < 20) V K (cQ LB LA chW k)))) (fun _ _ _ _ v78 _ _ => 20 - (intOf v78).toNat)
      case atStart => exact ⟨⟨⟨_, rfl⟩, ⟨_, rfl⟩, ⟨_, rfl⟩, ⟨_, rfl⟩, ⟨_, rfl⟩⟩, ⟨0, rfl, Nat.zero_le _, HM6⟩⟩
      case round =>
        obtain ⟨⟨⟨z1, rfl⟩, ⟨z2, rfl⟩, ⟨z3, rfl⟩, ⟨z4, rfl⟩, ⟨z5, rfl⟩⟩, ⟨k, rfl, hk, HM⟩⟩ := hrel
        clear HM6
        by_cases hlt : k < 20
        · have u1 : decide ((k : Int) < 20) = true := decide_eq_true (by omega)
          have HWK := hide (stepJ k 20 hlt (by omega))
          have hk20 : (k : Int) < 20 := by omega
          obtain ⟨_, _, _, ee, hcell⟩ := (unhide HM).entry hlt
          cases ee
          obtain ⟨al, cl, hVk⟩ := ((unhide HM).el k hlt).val
          rw [cQ_self] at hVk
          rw [hVk] at hcell
          have hlen := cP_len hlB hlA k
          have HJ0 : Hid (MeI w F2 g P vB vA LB LA kB kA wr 20 (.slice (some ⟨gn, ofn, none⟩) 20 cn) kn (fun i => i < 20) V K (cJ LB LA chW k 0)) := hide ((unhide HM).congr (fun _ h => h) (fun i _ => cJ_zero LB LA chW k i))
          have HVK := hide hVk
          clear HM HWD hVk
          generalize hNN : (cP LB LA k).length = NN at *
          have HNN := hide hNN
          clear hNN
          go_wp2_with fail
          go_loopw [16, 85] (fun v16 v85 wx => (∃ z, v16 = z) ∧ (∃ j : Nat, v85 = .int .i64 (j : Int) ∧ j ≤ NN ∧ Hid (MeI w F2 g P vB vA LB LA kB kA wx 20 (.slice (some ⟨gn, ofn, none⟩) 20 cn) kn (fun i => i < 20) V K (cJ LB LA chW k j)))) (fun _ v85 _ => NN - (intOf v85).toNat)
          case atStart => exact ⟨⟨_, rfl⟩, ⟨0, rfl, Nat.zero_le _, HJ0⟩⟩
          case round =>
            obtain ⟨⟨z6, rfl⟩, ⟨j, rfl, hj, HJ⟩⟩ := hrel
            clear HJ0
            by_cases hjl : j < NN
            · have u2 : decide ((j : Int) < (NN : Int)) = true := decide_eq_true (by omega)
              have hjj : (j : Int) < (NN : Int) := Int.ofNat_lt.2 hjl
              obtain ⟨gi, oi, uc, e1, q1, q2, hN⟩ := (unhide HJ).writeJ hlt (by rw [unhide HNN]; exact unhide HVK) (by rw [unhide HNN]; exact hjl)
              subst e1
              have HN := hide hN
              have CV1 := hide (cv_int (65 + (k : Int)) wr (by omega) (by omega))
              have CV2 : Hid ((convert 21 9 (.int .i32 (65 + (k : Int)))).run Try.prog wr = .ok (.string (chW k)) wr) := hide (cv_rune _ _)
              clear HJ hN
              generalize chW k = sk at *
              go_upto_region 24 with (first | (refine wpList_conv rfl 3 21 _ rfl _ _ rfl (unhide CV1) ?_; clear CV1) | (refine wpList_conv rfl 21 9 _ rfl _ _ rfl (unhide CV2) ?_; clear CV2))
              go_wp2_with fail
              go_roundw
              case rel => exact ⟨⟨_, rfl⟩, ⟨j + 1, rfl, hjl, HN⟩⟩
              case measure => simp [intOf]; omega
            · obtain rfl : j = NN := by omega
              have u2 : decide ((j : Int) < (j : Int)) = false := decide_eq_false (by omega)
              have hQ : MeI w F2 g P vB vA LB LA kB kA wr 20 (.slice (some ⟨gn, ofn, none⟩) 20 cn) kn (fun i => i < 20) V K (cQ LB LA chW (k + 1)) := (unhide HJ).congr (fun _ h => h) (fun i _ => by rw [← unhide HNN]; exact cJ_last LB LA chW k i)
              have hG := hQ.grl (k := k) hlt
              rw [unhide HVK] at hG
              have HL0 := hide (And.intro hQ hG)
              have HCL : Hid ((cQ LB LA chW (k + 1) k).length = j) := hide (by rw [cQ_len]; exact unhide HNN)
              clear HJ hQ hG hjl
              go_wp2_with fail
              go_loopw [15, 17] (fun v15 v17 wx => ∃ t : Nat, v17 = .int .i64 (t : Int) ∧ t ≤ 8 ∧ Hid (MeI w F2 g P vB vA LB LA kB kA wx 20 (.slice (some ⟨gn, ofn, none⟩) 20 cn) kn (fun i => i < 20) V K (cQ LB LA chW (k + 1)) ∧ GrL w F2 kB kA wx kn (fun i => i < 20) V K (cQ LB LA chW (k + 1)) k t v15)) (fun _ v17 _ => 8 - (intOf v17).toNat)
              case atStart => exact ⟨0, rfl, Nat.zero_le _, HL0⟩
              case round =>
                obtain ⟨t, rfl, ht, HL⟩ := hrel
                clear HL0
                by_cases ht8 : t < 8
                · have u3 : decide ((t : Int) < 8) = true := decide_eq_true (by omega)
                  obtain ⟨v', Y', hr, hM', hG'⟩ := (unhide HL).1.grow (k := k) hlt (unhide HL).2 ⟨#[103, 114, 111, 119, 110]⟩ (by rw [unhide HCL]; omega)
                  have R1 := hide hr
                  have HN := hide (And.intro hM' hG')
                  clear HL hr hM' hG'
                  go_wp2_with (at_builtin; refine wpList_append_known rfl _ _ 37 37 rfl _ _ rfl rfl _ _ (unhide R1) ?_; clear R1)
                  go_roundw
                  case rel => exact ⟨t + 1, rfl, ht8, HN⟩
                  case measure => simp [intOf]; omega
                · obtain rfl : t = 8 := by omega
                  have e8 : ((8 : Nat) : Int) = 8 := rfl
                  rw [e8]
                  have HMN := hide (unhide HL).1
                  clear HL HCL HVK HNN HWK
                  go_wp2_with fail
                  go_roundw
                  case rel => exact ⟨⟨⟨_, rfl⟩, ⟨_, rfl⟩, ⟨_, rfl⟩, ⟨_, rfl⟩, ⟨_, rfl⟩⟩, ⟨k + 1, by first | rfl | omega, hlt, HMN⟩⟩
                  case measure => simp [intOf]; omega
        · obtain rfl : k = 20 := by omega
          have e20 : ((20 : Nat) : Int) = 20 := rfl
          rw [e20]
          clear hlt hk
          go_wp2_with fail
          go_loopw [18, 19, 20, 106, 113] (fun v18 v19 v20 v106 v113 wx => ((∃ z, v18 = z) ∧ (∃ z, v19 = z) ∧ (∃ z, v20 = z) ∧ (∃ z, v113 = z)) ∧ (∃ k : Nat, v106 = .int .i64 (k : Int) ∧ k ≤ 20 ∧ Hid (MeI w F2 g P vB vA LB LA kB kA wx 20 (.slice (some ⟨gn, ofn, none⟩) 20 cn) kn (fun i => i < 20) V K (cQ LB LA chW 20)))) (fun _ _ _ v106 _ _ => 20 - (intOf v106).toNat)
          case atStart => exact ⟨⟨⟨_, rfl⟩, ⟨_, rfl⟩, ⟨_, rfl⟩, ⟨_, rfl⟩⟩, ⟨0, rfl, Nat.zero_le _, HM⟩⟩
          case round =>
            clear HM
            obtain ⟨⟨⟨z1, rfl⟩, ⟨z2, rfl⟩, ⟨z3, rfl⟩, ⟨z4, rfl⟩⟩, ⟨k, rfl, hk, HM⟩⟩ := hrel
            by_cases hlt : k < 20
            · have u1 : decide ((k : Int) < 20) = true := decide_eq_true (by omega)
              have HWK := hide (stepJ k 20 hlt (by omega))
              have hk20 : (k : Int) < 20 := by omega
              obtain ⟨_, _, _, ee, hcell⟩ := (unhide HM).entry hlt
              cases ee
              obtain ⟨al, cl, hVk⟩ := ((unhide HM).el k hlt).val
              rw [hVk] at hcell
              have hlen := cP_len hlB hlA k
              rw [← cQ_len LB LA chW 20 k] at hlen
              have HEL : Hid (∀ X, MeI w F2 g P vB vA LB LA kB kA X 20 (.slice (some ⟨gn, ofn, none⟩) 20 cn) kn (fun i => i < 20) V K (cQ LB LA chW 20) → ∀ j, j < (cQ LB LA chW 20 k).length → ∃ gi oi, al = some ⟨gi, oi, none⟩ ∧ X.cell? ⟨gi, oi + j, none⟩ = some (.string (chW k))) := hide fun X hX j hj => by
                obtain ⟨gi, oi, ci, e, _, _, hc⟩ := (hX.el k hlt).get hj
                rw [hVk] at e
                injection e with e _ _
                refine ⟨gi, oi, e, ?_⟩
                have hch : (cQ LB LA chW 20 k)[j] = chW k := by
                  have e9 : cQ LB LA chW 20 k = List.replicate (cP LB LA k).length (chW k) := if_pos hlt
                  simp only [e9, List.getElem_replicate]
                rw [hch] at hc
                exact hc
              generalize hNN : (cQ LB LA chW 20 k).length = NN at *
              have HWR := HWD
              clear HWD hVk hNN
              have HJ0 := HM
              clear HM
              go_wp2_with fail
              go_loopw [20, 113] (fun v20 v113 wx => (∃ z, v20 = z) ∧ (∃ j : Nat, v113 = .int .i64 (j : Int) ∧ j ≤ NN ∧ Hid (MeI w F2 g P vB vA LB LA kB kA wx 20 (.slice (some ⟨gn, ofn, none⟩) 20 cn) kn (fun i => i < 20) V K (cQ LB LA chW 20)))) (fun _ v113 _ => NN - (intOf v113).toNat)
              case atStart => exact ⟨⟨_, rfl⟩, ⟨0, rfl, Nat.zero_le _, HJ0⟩⟩
              case round =>
                obtain ⟨⟨z6, rfl⟩, ⟨j, rfl, hj, HJ⟩⟩ := hrel
                clear HJ0
                by_cases hjl : j < NN
                · have u2 : decide ((j : Int) < (NN : Int)) = true := decide_eq_true (Int.ofNat_lt.2 hjl)
                  have hjj : (j : Int) < (NN : Int) := Int.ofNat_lt.2 hjl
                  obtain ⟨gi, oi, e1, q1⟩ := unhide HEL wr (unhide HJ) j hjl
                  subst e1
                  have CV1 := hide (cv_int (65 + (k : Int)) wr (by omega) (by omega))
                  have CV2 : Hid ((convert 21 9 (.int .i32 (65 + (k : Int)))).run Try.prog wr = .ok (.string (chW k)) wr) := hide (cv_rune _ _)
                  generalize chW k = sk at *
                  have bw : (sk.toList == sk.toList) = true := by rw [baL]; simp
                  have bw2 : (sk.toList != sk.toList) = false := by rw [bne, bw]; rfl
                  go_upto_region 38 with (first | (refine wpList_conv rfl 3 21 _ rfl _ _ rfl (unhide CV1) ?_; clear CV1) | (refine wpList_conv rfl 21 9 _ rfl _ _ rfl (unhide CV2) ?_; clear CV2))
                  go_wp2_with fail
                  go_roundw
                  case rel => exact ⟨⟨_, rfl⟩, ⟨j + 1, rfl, hjl, HJ⟩⟩
                  case measure => simp [intOf]; omega
                · obtain rfl : j = NN := by omega
                  have u2 : decide ((j : Int) < (j : Int)) = false := decide_eq_false (by omega)
                  clear HWK HEL HWR
                  go_wp2_with fail
                  go_roundw
                  case rel => exact ⟨⟨⟨_, rfl⟩, ⟨_, rfl⟩, ⟨_, rfl⟩, ⟨_, rfl⟩⟩, ⟨k + 1, by first | rfl | omega, hlt, HJ⟩⟩
                  case measure => simp [intOf]; omega
            · obtain rfl : k = 20 := by omega
              have e21 : ((20 : Nat) : Int) = 20 := rfl
              rw [e21]
              have HC := hide (unhide HWD wr (unhide HM).p)
              clear HWD hlt hk
              go_wp2_with fail
              refine (unhide HC).mono ?_
              rintro y wa ⟨x1, x2, q1, q2, rfl, rx1, rx2, _, _, _, _, xa⟩
              dsimp only
              have hMa := (unhide HM).below xa
              have HC2 := hide (wordsL_at wa _ _ _ _ _ _ rx1 hMa.fB (by omega))
              rw [decide_eq_true rfl] at HC2
              have HMa := hide hMa
              have HRX := hide rx2
              clear HC HM rx1 rx2 xa hMa
              go_wp2_with fail
              refine (unhide HC2).mono ?_
              rintro y wb ⟨rfl, xb⟩
              dsimp only
              have HC3 := hide (wordsL_at wb _ _ _ _ _ _ ((unhide HRX).below xb) ((unhide HMa).below xb).fA (by omega))
              rw [decide_eq_true rfl] at HC3
              have HX := hide ((unhide HMa).below xb).b
              clear HC2 HMa HRX xb
              go_wp2_with fail
              refine (unhide HC3).mono ?_
              rintro y wc ⟨rfl, xc⟩
              dsimp only
              have HXE := hide ((unhide HX).trans (xc.mono (unhide HX).size))
              clear HC3 HX xc
              go_wp2_with fail
              exact bodyPost_ret (results_tmp rfl _ _ _) rfl ⟨rfl, unhide HXE⟩
theorem PastMemory_any {A : Prop} (m : Int) (a : Option Addr) (c : Nat) (d : List Oq) (w : World) (_ : A) (ho : IsQ w a d) (_ : d = [] ∨ ∃ p, a = some p) (hl : d.length * 32 ≤ 140737488355328) (hw : ∀ o ∈ d, o.w.size ≤ 281474976710656) :
    Calls Try.prog 8 #[.int .i64 m, .slice a d.length c] w fun y Y => y = .returned (.bool true) ∧ Below w.heap.size w Y := by
  by_cases h : 0 ≤ m ∧ m ≤ 4096
  · exact PastMemoryS m a c d w h ho (by omega) hw
  · exact PastMemoryN m a c d w h
end Go.Proofs.Ythifdfjpfmhcpaa
