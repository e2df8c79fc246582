/- Layer 17: PastGroups' walk. Written by wip/tools/pug.py. -/
import Derived.Test.YthifdfjpfmhcpaaMg22

namespace Go.Proofs.Ythifdfjpfmhcpaa
open Go.ChangeShapes Go.WideShapes Go.ChangeAt Go.RowKit
attribute [local go_sem] Oper.semAt_some

/-- a group in which so many Dos were done -/
def grP (P : Pa Int) (L : List Int) : Nat → Pa Int
  | 0 => { P with o := some ((P.s, ⟨#[103, 114, 111, 117, 112]⟩), false) }
  | i + 1 => { P with s := L.getD i 0, a := [], o := some ((P.s, ⟨#[103, 114, 111, 117, 112]⟩), true) }
theorem grP_do (P : Pa Int) (L : List Int) (i : Nat) (w : ByteArray) : doP (grP P L i) (L.getD i 0) w = grP P L (i + 1) := by
  cases i <;> rfl
theorem grP_ok {P : Pa Int} (h : OkP P) (L : List Int) : ∀ i, OkP (grP P L i)
  | 0 => ⟨h.m0, h.m1, h.l, fun _ e => by cases e⟩
  | _ + 1 => ⟨h.m0, h.m1, by have := h.l; simp [grP]; omega, fun _ _ => rfl⟩
theorem grP_some (P : Pa Int) (L : List Int) (i : Nat) : (grP P L i).o.isSome = true := by cases i <;> rfl
theorem grP_s (P : Pa Int) (L : List Int) (i : Nat) : (grP P L (i + 1)).s = L.getD i 0 := rfl
theorem grP_e0 {P : Pa Int} (h : P.o = none) (L : List Int) : endP (grP P L 0) = (P, 0) := by
  unfold endP grP
  simp only [Bool.false_eq_true, if_false]
  rw [← h]
theorem grP_e1 (P : Pa Int) (L : List Int) (i : Nat) : endP (grP P L (i + 1)) = (⟨L.getD i 0, P.m, keepP P.m P.b (P.s, ⟨#[103, 114, 111, 117, 112]⟩), [], none⟩, 0) := rfl
set_option maxRecDepth 100000 in
set_option maxHeartbeats 8000000 in
theorem PastGroupsN (m : Int) (a : Option Addr) (c : Nat) (d : List Oq) (al : Option Addr) (cl : Nat) (L : List Int) (w : World) (h : ¬ (0 ≤ m ∧ m ≤ 4096)) :
    Calls Try.prog 7 #[.int .i64 m, .slice a d.length c, .slice al L.length cl] w fun y Y => y = .returned (.bool true) ∧ Below w.heap.size w Y := by
  have HF := hide (fixed17_at w)
  have HP := hide fun (X : World) => playE_at 0 m (.slice a d.length c) X h
  by_cases h1 : m < 0
  · have t1 : decide (m < 0) = true := decide_eq_true h1
    clear h h1
    go_enter Try.func7, Try.ntmps7
    go_wp2_with fail
    refine (unhide HF).mono ?_
    rintro y w1 ⟨rfl, x1⟩
    dsimp only
    have HX1 := hide x1
    have HC := hide (unhide HP w1)
    clear HF HP x1
    go_wp2_with fail
    refine (unhide HC).mono ?_
    rintro y w2 ⟨rfl, rfl⟩
    dsimp only
    clear HC
    go_wp2_with fail
    exact bodyPost_ret (results_tmp rfl _ _ _) rfl ⟨rfl, unhide HX1⟩
  · have t1 : decide (m < 0) = false := decide_eq_false h1
    have t2 : decide (m > 4096) = true := decide_eq_true (by omega)
    have t2' : decide (4096 < m) = true := decide_eq_true (by omega)
    clear h h1
    go_enter Try.func7, Try.ntmps7
    go_wp2_with fail
    refine (unhide HF).mono ?_
    rintro y w1 ⟨rfl, x1⟩
    dsimp only
    have HX1 := hide x1
    have HC := hide (unhide HP w1)
    clear HF HP x1
    go_wp2_with fail
    refine (unhide HC).mono ?_
    rintro y w2 ⟨rfl, rfl⟩
    dsimp only
    clear HC
    go_wp2_with fail
    exact bodyPost_ret (results_tmp rfl _ _ _) rfl ⟨rfl, unhide HX1⟩
set_option maxRecDepth 100000 in
set_option maxHeartbeats 8000000 in
theorem PastGroupsS (m : Int) (a : Option Addr) (c : Nat) (d : List Oq) (al : Option Addr) (cl : Nat) (L : List Int) (w : World) (h : 0 ≤ m ∧ m ≤ 4096) (ho : IsQ w a d) (hl : d.length ≤ 140737488355328) (hw : ∀ o ∈ d, o.w.size ≤ 281474976710656) (hL : IsLi w al L) (hLl : L.length ≤ 140737488355328) :
    Calls Try.prog 7 #[.int .i64 m, .slice a d.length c, .slice al L.length cl] w fun y Y => y = .returned (.bool true) ∧ Below w.heap.size w Y := by
  have HF := hide (fixed17_at w)
  have HP := hide fun (X : World) (hx : Below w.heap.size w X) => play_at 0 m a c d X h (ho.below hx (Nat.le_refl _)) hl hw
  obtain ⟨P, hP, hok, hon, hPm⟩ := begP m h.1 h.2 d
  have HE := hide fun (X : World) (G : Nat → Prop) (g : Nat) (i : PsI X G g (plP 0 m d)) => EndA_at X G g _ i (plP_ok 0 m h.1 h.2 d)
  simp only [← hP] at HE
  have h0 := h.1
  have h1 := h.2
  have HLI := hide fun (X : World) (hx : Below w.heap.size w X) => hL.below hx (Nat.le_refl _)
  clear ho hw hl h hP hL
  go_enter Try.func7, Try.ntmps7
  go_wp2_with fail
  refine (unhide HF).mono ?_
  rintro y w1 ⟨rfl, x1⟩
  dsimp only
  have HC := hide (unhide HP w1 x1)
  have HX1 := hide x1
  clear HF HP x1
  go_wp2_with fail
  refine (unhide HC).mono ?_
  rintro y w2 ⟨g, F2, rfl, i2, l2, x2⟩
  dsimp only
  have HI2 := hide i2
  have HB2 : Hid (Below w.heap.size w w2 ∧ ∀ i, F2 i → w.heap.size ≤ i) := hide ⟨(unhide HX1).trans (x2.mono (unhide HX1).size), fun i e => Nat.le_trans (unhide HX1).size (l2 i e)⟩
  clear HC HX1 i2 l2 x2
  have HC := hide (unhide HE w2 F2 g (unhide HI2))
  go_wp2_with fail
  refine (unhide HC).mono ?_
  rintro y w3 ⟨rfl, F3, i3, g3⟩
  dsimp only
  have HI3 := hide i3
  have HB3 := hide (gr_on (Nat.le_refl _) (unhide HB2).1 (unhide HB2).2 g3)
  clear HC HE i3 g3 HI2 HB2
  have hbl : (P.b.length : Int) + P.a.length ≤ m := hPm ▸ hok.l
  have HC := hide (WordsI_at w3 F3 g P (unhide HI3) hok.bl hok.al)
  go_wp2_with fail
  refine (unhide HC).mono ?_
  rintro y w4 ⟨v1, v2, k1, k2, rfl, r1, r2, l1, l2, hne, i4, x4⟩
  dsimp only
  have hlt3 := (unhide HI3).lt
  have hk1 : ∀ i, k1 = some i → ¬ F3 i := fun i e hF => by have := hlt3 i hF; have := l1 i e; omega
  have hk2 : ∀ i, k2 = some i → ¬ F3 i := fun i e hF => by have := hlt3 i hF; have := l2 i e; omega
  have HI4 := hide i4
  have HB4 : Hid (Below w.heap.size w w4 ∧ ∀ i, F3 i → w.heap.size ≤ i) := hide ⟨(unhide HB3).1.trans (x4.mono (unhide HB3).1.size), (unhide HB3).2⟩
  have HR4 : Hid ((RS w4 v1 (P.b.reverse.map (·.2)) k1 ∧ ∀ i, k1 = some i → ¬ F3 i) ∧ (RS w4 v2 (P.a.reverse.map (·.2)) k2 ∧ ∀ i, k2 = some i → ¬ F3 i)) := hide ⟨⟨r1, hk1⟩, ⟨r2, hk2⟩⟩
  obtain ⟨a1, c1, rfl⟩ := r1.val
  obtain ⟨a2, c2, rfl⟩ := r2.val
  have hz1 : (P.b.reverse.map (·.2)).length = P.b.length := by simp
  have hz2 : (P.a.reverse.map (·.2)).length = P.a.length := by simp
  clear HC r1 r2 l1 l2 hne i4 x4 hlt3 hk1 hk2 HI3 HB3
  rw [hz1, hz2]
  rw [hz1, hz2] at HR4
  have HC := hide (NowI_at w4 F3 g P (unhide HI4))
  go_wp2_with fail
  refine (unhide HC).mono ?_
  rintro y w5 ⟨rfl, rfl⟩
  dsimp only
  clear HC
  have hbg : (beginP P ⟨#[103, 114, 111, 117, 112]⟩) = (grP P L 0, 0) := by unfold beginP; rw [hon]; rfl
  have HC := hide (BeginA_at w5 F3 g P (unhide HI4) ⟨#[103, 114, 111, 117, 112]⟩ (by decide))
  rw [hbg] at HC
  go_wp2_with fail
  refine (unhide HC).mono ?_
  rintro y w6 ⟨rfl, F6, i6, g6⟩
  dsimp only
  have HI6 := hide i6
  have HB6 := hide (gr_on (Nat.le_refl _) (unhide HB4).1 (unhide HB4).2 g6)
  have HR6 := hide (And.intro ((unhide HR4).1.1.on (unhide HR4).1.2 g6) ((unhide HR4).2.1.on (unhide HR4).2.2 g6))
  clear HC HI4 HB4 HR4 i6 g6 hbg
  have HC := hide (Begin2I_at w6 F6 g _ (unhide HI6) (grP_some P L 0) ⟨#[111, 116, 104, 101, 114]⟩)
  go_wp2_with fail
  refine (unhide HC).mono ?_
  rintro y w7 ⟨rfl, rfl⟩
  dsimp only
  clear HC
  have HC := hide (Forget2I_at w7 F6 g _ (unhide HI6) (grP_some P L 0))
  go_wp2_with fail
  refine (unhide HC).mono ?_
  rintro y w8 ⟨rfl, rfl⟩
  dsimp only
  clear HC
  go_wp2_with fail
  go_loopw [11, 12, 13, 14, 15, 59] (fun v11 v12 v13 v14 v15 v59 wx => ((∃ z, v11 = z) ∧ (∃ z, v12 = z) ∧ (∃ z, v13 = z) ∧ (∃ z, v14 = z) ∧ (∃ z, v15 = z)) ∧ (∃ i : Nat, v59 = .int .i64 (i : Int) ∧ i ≤ L.length ∧ ∃ G, Hid (PsI wx G g (grP P L i)) ∧ Hid (Below w.heap.size w wx ∧ ∀ i, G i → w.heap.size ≤ i) ∧
      Hid ((RS wx (.slice a1 P.b.length c1) (P.b.reverse.map (·.2)) k1 ∧ ∀ i, k1 = some i → ¬ G i) ∧ (RS wx (.slice a2 P.a.length c2) (P.a.reverse.map (·.2)) k2 ∧ ∀ i, k2 = some i → ¬ G i)))) (fun _ _ _ _ _ v59 _ => L.length - (intOf v59).toNat)
  case atStart => exact ⟨⟨⟨_, rfl⟩, ⟨_, rfl⟩, ⟨_, rfl⟩, ⟨_, rfl⟩, ⟨_, rfl⟩⟩, ⟨0, rfl, Nat.zero_le _, _, HI6, HB6, HR6⟩⟩
  case round =>
    obtain ⟨⟨⟨z1, rfl⟩, ⟨z2, rfl⟩, ⟨z3, rfl⟩, ⟨z4, rfl⟩, ⟨z5, rfl⟩⟩, ⟨i, rfl, hi, G, HI, HB, HR⟩⟩ := hrel
    clear HI6 HB6 HR6
    by_cases hlt : i < L.length
    · have u1 : decide ((i : Int) < (L.length : Int)) = true := decide_eq_true (by omega)
      have wi : wrap64 ((i : Int) + 1) = ((i + 1 : Nat) : Int) := by unfold wrap64; omega
      have hii : (i : Int) < (L.length : Int) := by omega
      obtain ⟨gl, ol, rfl, hc⟩ := (unhide HLI wr (unhide HB).1).one hlt
      have hdo := grP_do P L i ⟨#[105, 110, 115, 105, 100, 101]⟩
      have HC := hide (DoA_at wr G g _ (unhide HI) (grP_ok hok L i) (L.getD i 0) ⟨#[105, 110, 115, 105, 100, 101]⟩ (by decide))
      rw [hdo] at HC
      have hgs := grP_s P L i
      have hso := grP_some P L (i + 1)
      have hok' := grP_ok hok L (i + 1)
      generalize hP2 : grP P L (i + 1) = P2 at *
      have HP2 := hide hP2
      clear hP2
      generalize L.getD i 0 = x at *
      clear hdo HLI
      go_wp2_with fail
      refine (unhide HC).mono ?_
      rintro y wd ⟨rfl, G2, i2, g2⟩
      dsimp only
      have HI2 := hide i2
      have HB2 := hide (gr_on (Nat.le_refl _) (unhide HB).1 (unhide HB).2 g2)
      have HR2 := hide (And.intro ((unhide HR).1.1.on (unhide HR).1.2 g2) ((unhide HR).2.1.on (unhide HR).2.2 g2))
      clear HC HI HB HR i2 g2 hc
      have HC := hide (NowI_at wd G2 g P2 (unhide HI2))
      rw [hgs] at HC
      go_wp2_with fail
      refine (unhide HC).mono ?_
      rintro y we ⟨rfl, rfl⟩
      dsimp only
      clear HC hgs
      have HC := hide (Undo2I_at we G2 g P2 (unhide HI2) hso)
      go_wp2_with fail
      refine (unhide HC).mono ?_
      rintro y wf ⟨rfl, rfl⟩
      dsimp only
      clear HC
      by_cases h2 : (i : Int) > 200
      · have t2 : decide ((i : Int) > 200) = true := decide_eq_true h2
        have t2' : decide (200 < (i : Int)) = true := decide_eq_true h2
        go_wp2_with fail
        exact bodyPost_ret (results_tmp rfl _ _ _) rfl ⟨rfl, (unhide HB2).1⟩
      · have t2 : decide ((i : Int) > 200) = false := decide_eq_false h2
        have t2' : decide (200 < (i : Int)) = false := decide_eq_false h2
        clear h2
        go_wp2_with fail
        go_roundw
        case rel => exact ⟨⟨⟨_, rfl⟩, ⟨_, rfl⟩, ⟨_, rfl⟩, ⟨_, rfl⟩, ⟨_, rfl⟩⟩, ⟨i + 1, by first | rfl | rw [wi], hlt, G2, hide (by rw [unhide HP2]; exact unhide HI2), HB2, HR2⟩⟩
        case measure => simp [intOf]; omega
    · obtain rfl : i = L.length := by omega
      have u1 : decide ((L.length : Int) < (L.length : Int)) = false := decide_eq_false (by omega)
      clear HLI hi hlt
      rcases L with _ | ⟨l0, L'⟩
      · dsimp only [List.length_nil] at HI u1 ⊢
        have HC := hide (EndA_at wr G g _ (unhide HI) (grP_ok hok [] 0))
        rw [grP_e0 hon] at HC
        go_wp2_with fail
        refine (unhide HC).mono ?_
        rintro y we ⟨rfl, G2, i2, g2⟩
        dsimp only
        have HI2 := hide i2
        have HB2 := hide (gr_on (Nat.le_refl _) (unhide HB).1 (unhide HB).2 g2)
        have HR2 := hide (And.intro ((unhide HR).1.1.on (unhide HR).1.2 g2) ((unhide HR).2.1.on (unhide HR).2.2 g2))
        clear HC HI HB HR i2 g2
        have HC := hide (End2I_at we G2 g P (unhide HI2) hon)
        go_wp2_with fail
        refine (unhide HC).mono ?_
        rintro y wf ⟨rfl, rfl⟩
        dsimp only
        clear HC
        have HC := hide (WordsI_at wf G2 g P (unhide HI2) hok.bl hok.al)
        go_wp2_with fail
        refine (unhide HC).mono ?_
        rintro y wg ⟨v5, v6, k5, k6, rfl, r5, r6, _, _, _, i8, x8⟩
        dsimp only
        have HX8 := hide ((unhide HB2).1.trans (x8.mono (unhide HB2).1.size))
        have hbl2 := hok.bl
        have hal2 := hok.al
        have HC2 := hide (wordsL_at wg _ _ _ _ _ _ r5 ((unhide HR2).1.1.below x8) (by simp; omega))
        rw [decide_eq_true rfl] at HC2
        have HR6 := hide (And.intro r6 ((unhide HR2).2.1.below x8))
        have HI8 := hide i8
        clear HC r5 r6 i8 x8 HR2 HI2 HB2
        go_wp2_with fail
        refine (unhide HC2).mono ?_
        rintro y wh ⟨rfl, x9⟩
        dsimp only
        have HC3 := hide (wordsL_at wh _ _ _ _ _ _ ((unhide HR6).1.below x9) ((unhide HR6).2.below x9) (by simp; omega))
        rw [decide_eq_true rfl] at HC3
        have HX9 := hide ((unhide HX8).trans (x9.mono (unhide HX8).size))
        have HI9 := hide ((unhide HI8).below x9)
        clear HC2 HR6 HX8 HI8 x9
        go_wp2_with fail
        refine (unhide HC3).mono ?_
        rintro y wj ⟨rfl, x10⟩
        dsimp only
        have HC4 := hide (NowI_at wj G2 g P ((unhide HI9).below x10))
        have HX10 := hide ((unhide HX9).trans (x10.mono (unhide HX9).size))
        clear HC3 HX9 HI9 x10
        go_wp2_with fail
        refine (unhide HC4).mono ?_
        rintro y wk ⟨rfl, rfl⟩
        dsimp only
        clear HC4
        go_wp2_with fail
        exact bodyPost_ret (results_tmp rfl _ _ _) rfl ⟨rfl, unhide HX10⟩
      · have hlj : (l0 :: L').length = L'.length + 1 := rfl
        rw [hlj] at HI
        have HC := hide (EndA_at wr G g _ (unhide HI) (grP_ok hok _ _))
        rw [grP_e1, hPm] at HC
        generalize hxx : (l0 :: L').getD L'.length 0 = x at *
        clear hxx HI
        have tz : ((((L'.length + 1 : Nat)) : Int) == 0) = false := by simp; omega
        have tz' : (((L'.length : Int) + 1) == 0) = false := by simp; omega
        simp only [List.length_cons] at u1 ⊢
        go_wp2_with fail
        refine (unhide HC).mono ?_
        rintro y we ⟨rfl, F6, i6, g6⟩
        dsimp only
        have HI6 := hide i6
        have HB6 := hide (gr_on (Nat.le_refl _) (unhide HB).1 (unhide HB).2 g6)
        have HR6 := hide ((unhide HR).1.1.on (unhide HR).1.2 g6)
        clear HC HB HR i6 g6
        have HC := hide (End2I_at we F6 g _ (unhide HI6) rfl)
        go_wp2_with fail
        refine (unhide HC).mono ?_
        rintro y w6 ⟨rfl, rfl⟩
        dsimp only
        clear HC
        have hkl : ((keepP m P.b (P.s, ⟨#[103, 114, 111, 117, 112]⟩)).length : Int) ≤ m := keepP_len m P.b _ (by omega)
        have hkw := keep_words h0 P.b (P.s, ⟨#[103, 114, 111, 117, 112]⟩) (by omega)
        have HC := hide (WordsI_at w6 F6 g _ (unhide HI6) (by dsimp only; omega) (by simp))
        dsimp only at HC hkw
        rw [hkw] at HC
        go_wp2_with fail
        refine (unhide HC).mono ?_
        rintro y w7 ⟨v3, v4, k3, k4, rfl, r3, r4, l3, l4, hne, i7, x7⟩
        dsimp only
        obtain ⟨a4, c4, rfl⟩ := r4.val
        have hR7 := (unhide HR6).1.below x7
        have hlt := (unhide HI6).lt
        have HK3 : Hid (∀ i, k3 = some i → ¬ F6 i) := hide fun i e hF => by have := hlt i hF; have := l3 i e; omega
        have hk31 : ∀ i, k3 = some i → k1 ≠ some i := fun i e e1 => by have := (unhide HR6).1; have := RA.lt this i e1; have := l3 i e; omega
        have HI7 := hide i7
        have HB7 : Hid (Below w.heap.size w w7 ∧ ∀ i, F6 i → w.heap.size ≤ i) := hide ⟨(unhide HB6).1.trans (x7.mono (unhide HB6).1.size), (unhide HB6).2⟩
        have HR7 := hide (And.intro hR7 r3)
        clear HC r3 r4 l3 l4 hne i7 x7 hlt hR7 HR6 HI6 HB6 hkw
        -- want
        have hnew : RS (w7.alloc (.cells #[.string ⟨#[103, 114, 111, 117, 112]⟩] 9)) (.slice (some ⟨w7.heap.size, 0, none⟩) 1 1) [⟨#[103, 114, 111, 117, 112]⟩] (some w7.heap.size) := by
          refine ⟨rfl, .inr ⟨_, 0, 1, rfl, rfl, by simp, Nat.le_refl _, fun j hj => ?_, fun j hj => ?_⟩⟩
          · obtain rfl : j = 0 := by omega
            exact ⟨by rw [(Cls.new w7 9 #[.string ⟨#[103, 114, 111, 117, 112]⟩]).cell 0]; rfl, (Cls.new w7 9 #[.string ⟨#[103, 114, 111, 117, 112]⟩]).frozen 0⟩
          · obtain rfl : j = 0 := by simpa using hj
            exact ((Cls.new w7 9 #[.string ⟨#[103, 114, 111, 117, 112]⟩]).cell 0).trans rfl
        have bA := (Below.refl w7.heap.size w7).alloc (Nat.le_refl _) (.cells #[.string ⟨#[103, 114, 111, 117, 112]⟩] 9)
        obtain ⟨v5, Y, k5, hr5, r5, p5, e5⟩ := appW hnew ((unhide HR7).1.below bA) (by simp) (by simp; omega)
        have R1 := hr5
        obtain ⟨g5, o5, c5, e9, _⟩ := RA.form r5 (by simp)
        subst e9
        have bY : Below w7.heap.size w7 Y := bA.trans (p5.below (by simp) (fun i e => by injection e; omega))
        have hlen5 : (([⟨#[103, 114, 111, 117, 112]⟩] : List ByteArray) ++ P.b.reverse.map (·.2)).length = P.b.length + 1 := by simp
        have HIY := hide ((unhide HI7).below bY)
        have HBY : Hid (Below w.heap.size w Y ∧ ∀ i, F6 i → w.heap.size ≤ i) := hide ⟨(unhide HB7).1.trans (bY.mono (unhide HB7).1.size), (unhide HB7).2⟩
        have HR5 : Hid (RS Y (.slice (some ⟨g5, o5, none⟩) (P.b.length + 1) c5) (⟨#[103, 114, 111, 117, 112]⟩ :: P.b.reverse.map (·.2)) k5) := hide (by rw [hlen5] at r5; exact r5)
        have HR3 := hide ((unhide HR7).2.below bY)
        rw [hlen5] at R1
        have hcap : P.b.length + 1 ≤ c5 := by
          rcases RA.val (unhide HR5) with ⟨e, _⟩ | ⟨_, _, _, e, _, _, hc, _⟩
          · cases e
          · injection e with _ _ e3
            rw [e3]; simpa using hc
        clear hr5 r5 p5 e5 bA bY hnew HR7 HI7 HB7
        obtain ⟨M, hM⟩ : ∃ M : Nat, m = (M : Int) := ⟨m.toNat, by omega⟩
        subst hM
        have hMm : ((M : Int)).toNat = M := by omega
        rw [hMm] at HR3
        obtain ⟨q, hq⟩ : ∃ q : Nat, q = min (P.b.length + 1) M := ⟨_, rfl⟩
        have hqi : min ((P.b.length : Int) + 1) (M : Int) = (q : Int) := by omega
        have hqc : q ≤ c5 := by omega
        have hqc' : (q : Int) ≤ (c5 : Int) := by omega
        have hqn : (0 : Int) ≤ (q : Int) := by omega
        rw [← hq] at HR3
        have HR5q := hide ((unhide HR5).cut (m := q) (by simp) (by simp; omega))
        have HC := hide (wordsL_at Y _ _ _ _ _ _ (unhide HR3) (unhide HR5q) (by simp; omega))
        rw [decide_eq_true rfl] at HC
        go_wp2_with (at_builtin; refine wpList_append_known rfl _ _ 37 37 rfl _ _ rfl rfl _ _ R1 ?_; clear R1)
        rw [← hq]
        refine (unhide HC).mono ?_
        rintro y w8 ⟨rfl, x8⟩
        dsimp only
        have HI8 := hide ((unhide HIY).below x8)
        have HB8 : Hid (Below w.heap.size w w8 ∧ ∀ i, F6 i → w.heap.size ≤ i) := hide ⟨(unhide HBY).1.trans (x8.mono (unhide HBY).1.size), (unhide HBY).2⟩
        clear HC HIY HBY x8 HR3 HR5 HR5q hq hqi hqc hqc' hqn hcap
        have hbM : (P.b.length : Int) ≤ (M : Int) := by omega
        by_cases hM0 : M = 0
        · subst hM0
          have hk0 : keepP ((0 : Nat) : Int) P.b (P.s, ⟨#[103, 114, 111, 117, 112]⟩) = [] := keep_zero P.b _ hbM
          rw [hk0] at HI8
          have HC := hide (Undo0I_at w8 F6 g _ (unhide HI8) rfl rfl)
          go_wp2_with fail
          refine (unhide HC).mono ?_
          rintro y w10 ⟨rfl, F10, i10, g10⟩
          dsimp only
          have HB10 := hide (gr_on (Nat.le_refl _) (unhide HB8).1 (unhide HB8).2 g10)
          clear HC i10 g10 HI8 HB8
          go_wp2_with fail
          exact bodyPost_ret (results_tmp rfl _ _ _) rfl ⟨rfl, (unhide HB10).1⟩
        · have hMi : ((M : Int) == 0) = false := by simp; omega
          obtain ⟨Q, hQ, hQl⟩ := keep_last (m := (M : Int)) (by omega) P.b (P.s, ⟨#[103, 114, 111, 117, 112]⟩) hbM
          rw [hQ] at HI8
          have HC := hide (Undo1I_at w8 F6 g _ (unhide HI8) rfl Q P.s ⟨#[103, 114, 111, 117, 112]⟩ rfl (by simp) (by omega))
          dsimp only at HC
          go_wp2_with fail
          refine (unhide HC).mono ?_
          rintro y w10 ⟨rfl, F10, i10, g10⟩
          dsimp only
          have HB10 := hide (gr_on (Nat.le_refl _) (unhide HB8).1 (unhide HB8).2 g10)
          clear HC i10 g10 HI8 HB8
          go_wp2_with fail
          exact bodyPost_ret (results_tmp rfl _ _ _) rfl ⟨rfl, (unhide HB10).1⟩
theorem PastGroups_any {A : Prop} (m : Int) (a : Option Addr) (c : Nat) (d : List Oq) (al : Option Addr) (cl : Nat) (L : List Int) (w : World) (_ : A) (ho : IsQ w a d) (_ : d = [] ∨ ∃ p, a = some p) (hl : d.length * 32 ≤ 140737488355328) (hw : ∀ o ∈ d, o.w.size ≤ 281474976710656) (hL : IsLi w al L) (hLl : L.length ≤ 140737488355328) :
    Calls Try.prog 7 #[.int .i64 m, .slice a d.length c, .slice al L.length cl] w fun y Y => y = .returned (.bool true) ∧ Below w.heap.size w Y := by
  by_cases h : 0 ≤ m ∧ m ≤ 4096
  · exact PastGroupsS m a c d al cl L w h ho (by omega) hw hL hLl
  · exact PastGroupsN m a c d al cl L w h
end Go.Proofs.Ythifdfjpfmhcpaa
