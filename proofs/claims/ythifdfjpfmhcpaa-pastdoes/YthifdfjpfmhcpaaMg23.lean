/- Layer 17: PastDoes' walk. Written by wip/tools/pud.py. -/
import Derived.Test.YthifdfjpfmhcpaaMg22

namespace Go.Proofs.Ythifdfjpfmhcpaa
open Go.ChangeShapes Go.WideShapes Go.ChangeAt Go.RowKit
attribute [local go_sem] Oper.semAt_some

set_option maxRecDepth 100000 in
set_option maxHeartbeats 8000000 in
theorem PastDoesN (m : Int) (a : Option Addr) (c : Nat) (d : List Oq) (x : Int) (w : World) (h : ¬ (0 ≤ m ∧ m ≤ 4096)) :
    Calls Try.prog 6 #[.int .i64 m, .slice a d.length c, .int .i64 x] w fun y Y => y = .returned (.bool true) ∧ Below w.heap.size w Y := by
  have HF := hide (fixed17_at w)
  have HP := hide fun (X : World) => playE_at 0 m (.slice a d.length c) X h
  by_cases h1 : m < 0
  · have t1 : decide (m < 0) = true := decide_eq_true h1
    clear h h1
    go_enter Try.func6, Try.ntmps6
    go_wp2_with fail
    refine (unhide HF).mono ?_
    rintro y w1 ⟨rfl, x1⟩
    dsimp only
    have HX1 := hide x1
    have HC := hide (unhide HP w1)
    clear HF HP x1
    go_wp2_with fail
    refine (unhide HC).mono ?_
    rintro y w2 ⟨rfl, rfl⟩
    dsimp only
    clear HC
    go_wp2_with fail
    exact bodyPost_ret (results_tmp rfl _ _ _) rfl ⟨rfl, unhide HX1⟩
  · have t1 : decide (m < 0) = false := decide_eq_false h1
    have t2 : decide (m > 4096) = true := decide_eq_true (by omega)
    have t2' : decide (4096 < m) = true := decide_eq_true (by omega)
    clear h h1
    go_enter Try.func6, Try.ntmps6
    go_wp2_with fail
    refine (unhide HF).mono ?_
    rintro y w1 ⟨rfl, x1⟩
    dsimp only
    have HX1 := hide x1
    have HC := hide (unhide HP w1)
    clear HF HP x1
    go_wp2_with fail
    refine (unhide HC).mono ?_
    rintro y w2 ⟨rfl, rfl⟩
    dsimp only
    clear HC
    go_wp2_with fail
    exact bodyPost_ret (results_tmp rfl _ _ _) rfl ⟨rfl, unhide HX1⟩
set_option maxRecDepth 100000 in
set_option maxHeartbeats 8000000 in
theorem PastDoesS (m : Int) (a : Option Addr) (c : Nat) (d : List Oq) (x : Int) (w : World) (h : 0 ≤ m ∧ m ≤ 4096) (ho : IsQ w a d) (hl : d.length ≤ 140737488355328) (hw : ∀ o ∈ d, o.w.size ≤ 281474976710656) :
    Calls Try.prog 6 #[.int .i64 m, .slice a d.length c, .int .i64 x] w fun y Y => y = .returned (.bool true) ∧ Below w.heap.size w Y := by
  have HF := hide (fixed17_at w)
  have HP := hide fun (X : World) (hx : Below w.heap.size w X) => play_at 0 m a c d X h (ho.below hx (Nat.le_refl _)) hl hw
  obtain ⟨P, hP, hok, hon, hPm⟩ := begP m h.1 h.2 d
  have HE := hide fun (X : World) (G : Nat → Prop) (g : Nat) (i : PsI X G g (plP 0 m d)) => EndA_at X G g _ i (plP_ok 0 m h.1 h.2 d)
  simp only [← hP] at HE
  have h0 := h.1
  have h1 := h.2
  clear ho hw hl h hP
  go_enter Try.func6, Try.ntmps6
  go_wp2_with fail
  refine (unhide HF).mono ?_
  rintro y w1 ⟨rfl, x1⟩
  dsimp only
  have HC := hide (unhide HP w1 x1)
  have HX1 := hide x1
  clear HF HP x1
  go_wp2_with fail
  refine (unhide HC).mono ?_
  rintro y w2 ⟨g, F2, rfl, i2, l2, x2⟩
  dsimp only
  have HI2 := hide i2
  have HB2 : Hid (Below w.heap.size w w2 ∧ ∀ i, F2 i → w.heap.size ≤ i) := hide ⟨(unhide HX1).trans (x2.mono (unhide HX1).size), fun i e => Nat.le_trans (unhide HX1).size (l2 i e)⟩
  clear HC HX1 i2 l2 x2
  have HC := hide (unhide HE w2 F2 g (unhide HI2))
  go_wp2_with fail
  refine (unhide HC).mono ?_
  rintro y w3 ⟨rfl, F3, i3, g3⟩
  dsimp only
  have HI3 := hide i3
  have HB3 := hide (gr_on (Nat.le_refl _) (unhide HB2).1 (unhide HB2).2 g3)
  clear HC HE i3 g3 HI2 HB2
  have hbl : (P.b.length : Int) + P.a.length ≤ m := hPm ▸ hok.l
  have HC := hide (WordsI_at w3 F3 g P (unhide HI3) hok.bl hok.al)
  go_wp2_with fail
  refine (unhide HC).mono ?_
  rintro y w4 ⟨v1, v2, k1, k2, rfl, r1, r2, l1, l2, hne, i4, x4⟩
  dsimp only
  have hlt3 := (unhide HI3).lt
  have hk1 : ∀ i, k1 = some i → ¬ F3 i := fun i e hF => by have := hlt3 i hF; have := l1 i e; omega
  obtain ⟨a1, c1, rfl⟩ := r1.val
  obtain ⟨a2, c2, rfl⟩ := r2.val
  have hz1 : (P.b.reverse.map (·.2)).length = P.b.length := by simp
  have hz2 : (P.a.reverse.map (·.2)).length = P.a.length := by simp
  have HI4 := hide i4
  have HB4 : Hid (Below w.heap.size w w4 ∧ ∀ i, F3 i → w.heap.size ≤ i) := hide ⟨(unhide HB3).1.trans (x4.mono (unhide HB3).1.size), (unhide HB3).2⟩
  have HR1 := hide (And.intro r1 hk1)
  clear HC r1 r2 l1 l2 hne i4 x4 hlt3 hk1 HI3 HB3
  rw [hz1, hz2]
  have wl : wrap64 ((P.b.length : Int) + (P.a.length : Int)) = (P.b.length : Int) + (P.a.length : Int) := by unfold wrap64; omega
  have tl : decide ((P.b.length : Int) + (P.a.length : Int) > m) = false := decide_eq_false (by omega)
  have tl' : decide (m < (P.b.length : Int) + (P.a.length : Int)) = false := decide_eq_false (by omega)
  have HC := hide (NowI_at w4 F3 g P (unhide HI4))
  go_wp2_with fail
  refine (unhide HC).mono ?_
  rintro y w5 ⟨rfl, rfl⟩
  dsimp only
  clear HC wl tl tl'
  have hdo : doP P x ⟨#[110, 101, 119]⟩ = ⟨x, m, keepP m P.b (P.s, ⟨#[110, 101, 119]⟩), [], none⟩ := by unfold doP; rw [hon, hPm]
  have HC := hide (DoA_at w5 F3 g P (unhide HI4) hok x ⟨#[110, 101, 119]⟩ (by decide))
  rw [hdo] at HC
  go_wp2_with fail
  refine (unhide HC).mono ?_
  rintro y w6 ⟨rfl, F6, i6, g6⟩
  dsimp only
  have HR6 := hide ((unhide HR1).1.on (unhide HR1).2 g6)
  have HI6 := hide i6
  have HB6 := hide (gr_on (Nat.le_refl _) (unhide HB4).1 (unhide HB4).2 g6)
  clear HC HR1 HI4 HB4 i6 g6
  have hkl : ((keepP m P.b (P.s, ⟨#[110, 101, 119]⟩)).length : Int) ≤ m := keepP_len m P.b _ (by omega)
  have hkw := keep_words h0 P.b (P.s, ⟨#[110, 101, 119]⟩) (by omega)
  have HC := hide (WordsI_at w6 F6 g _ (unhide HI6) (by dsimp only; omega) (by simp))
  dsimp only at HC hkw
  rw [hkw] at HC
  go_wp2_with fail
  refine (unhide HC).mono ?_
  rintro y w7 ⟨v3, v4, k3, k4, rfl, r3, r4, l3, l4, hne, i7, x7⟩
  dsimp only
  obtain ⟨a4, c4, rfl⟩ := r4.val
  have hR7 := (unhide HR6).1.below x7
  have hlt := (unhide HI6).lt
  have HK3 : Hid (∀ i, k3 = some i → ¬ F6 i) := hide fun i e hF => by have := hlt i hF; have := l3 i e; omega
  have hk31 : ∀ i, k3 = some i → k1 ≠ some i := fun i e e1 => by have := (unhide HR6).1; have := RA.lt this i e1; have := l3 i e; omega
  have HI7 := hide i7
  have HB7 : Hid (Below w.heap.size w w7 ∧ ∀ i, F6 i → w.heap.size ≤ i) := hide ⟨(unhide HB6).1.trans (x7.mono (unhide HB6).1.size), (unhide HB6).2⟩
  have HR7 := hide (And.intro hR7 r3)
  clear HC r3 r4 l3 l4 hne i7 x7 hlt hR7 HR6 HI6 HB6 hkw
  -- want
  have hnew : RS (w7.alloc (.cells #[.string ⟨#[110, 101, 119]⟩] 9)) (.slice (some ⟨w7.heap.size, 0, none⟩) 1 1) [⟨#[110, 101, 119]⟩] (some w7.heap.size) := by
    refine ⟨rfl, .inr ⟨_, 0, 1, rfl, rfl, by simp, Nat.le_refl _, fun j hj => ?_, fun j hj => ?_⟩⟩
    · obtain rfl : j = 0 := by omega
      exact ⟨by rw [(Cls.new w7 9 #[.string ⟨#[110, 101, 119]⟩]).cell 0]; rfl, (Cls.new w7 9 #[.string ⟨#[110, 101, 119]⟩]).frozen 0⟩
    · obtain rfl : j = 0 := by simpa using hj
      exact ((Cls.new w7 9 #[.string ⟨#[110, 101, 119]⟩]).cell 0).trans rfl
  have bA := (Below.refl w7.heap.size w7).alloc (Nat.le_refl _) (.cells #[.string ⟨#[110, 101, 119]⟩] 9)
  obtain ⟨v5, Y, k5, hr5, r5, p5, e5⟩ := appW hnew ((unhide HR7).1.below bA) (by simp) (by simp; omega)
  have R1 := hr5
  obtain ⟨g5, o5, c5, e9, _⟩ := RA.form r5 (by simp)
  subst e9
  have bY : Below w7.heap.size w7 Y := bA.trans (p5.below (by simp) (fun i e => by injection e; omega))
  have hlen5 : (([⟨#[110, 101, 119]⟩] : List ByteArray) ++ P.b.reverse.map (·.2)).length = P.b.length + 1 := by simp
  have HIY := hide ((unhide HI7).below bY)
  have HBY : Hid (Below w.heap.size w Y ∧ ∀ i, F6 i → w.heap.size ≤ i) := hide ⟨(unhide HB7).1.trans (bY.mono (unhide HB7).1.size), (unhide HB7).2⟩
  have HR5 : Hid (RS Y (.slice (some ⟨g5, o5, none⟩) (P.b.length + 1) c5) (⟨#[110, 101, 119]⟩ :: P.b.reverse.map (·.2)) k5) := hide (by rw [hlen5] at r5; exact r5)
  have HR3 := hide ((unhide HR7).2.below bY)
  rw [hlen5] at R1
  rw [hz1] at R1
  have hcap : P.b.length + 1 ≤ c5 := by
    rcases RA.val (unhide HR5) with ⟨e, _⟩ | ⟨_, _, _, e, _, _, hc, _⟩
    · cases e
    · injection e with _ _ e3
      rw [e3]; simpa using hc
  clear hr5 r5 p5 e5 bA bY hnew HR7 HI7 HB7
  obtain ⟨M, hM⟩ : ∃ M : Nat, m = (M : Int) := ⟨m.toNat, by omega⟩
  subst hM
  have hMm : ((M : Int)).toNat = M := by omega
  rw [hMm] at HR3
  obtain ⟨q, hq⟩ : ∃ q : Nat, q = min (P.b.length + 1) M := ⟨_, rfl⟩
  have hqi : min ((P.b.length : Int) + 1) (M : Int) = (q : Int) := by omega
  have hqc : q ≤ c5 := by omega
  have hqc' : (q : Int) ≤ (c5 : Int) := by omega
  have hqn : (0 : Int) ≤ (q : Int) := by omega
  rw [← hq] at HR3
  have HR5q := hide ((unhide HR5).cut (m := q) (by simp) (by simp; omega))
  have HC := hide (wordsL_at Y _ _ _ _ _ _ (unhide HR3) (unhide HR5q) (by simp; omega))
  rw [decide_eq_true rfl] at HC
  go_wp2_with (at_builtin; refine wpList_append_known rfl _ _ 37 37 rfl _ _ rfl rfl _ _ R1 ?_; clear R1)
  rw [← hq]
  refine (unhide HC).mono ?_
  rintro y w8 ⟨rfl, x8⟩
  dsimp only
  have HI8 := hide ((unhide HIY).below x8)
  have HB8 : Hid (Below w.heap.size w w8 ∧ ∀ i, F6 i → w.heap.size ≤ i) := hide ⟨(unhide HBY).1.trans (x8.mono (unhide HBY).1.size), (unhide HBY).2⟩
  clear HC HIY HBY x8 HR3 HR5 HR5q hq hqi hqc hqc' hqn hcap
  have HC := hide (NowI_at w8 F6 g _ (unhide HI8))
  dsimp only at HC
  go_wp2_with fail
  refine (unhide HC).mono ?_
  rintro y w9 ⟨rfl, rfl⟩
  dsimp only
  clear HC
  have hbM : (P.b.length : Int) ≤ (M : Int) := by omega
  by_cases hM0 : M = 0
  · subst hM0
    have hk0 : keepP ((0 : Nat) : Int) P.b (P.s, ⟨#[110, 101, 119]⟩) = [] := keep_zero P.b _ hbM
    rw [hk0] at HI8
    have HC := hide (Undo0I_at w9 F6 g _ (unhide HI8) rfl rfl)
    go_wp2_with fail
    refine (unhide HC).mono ?_
    rintro y w10 ⟨rfl, F10, i10, g10⟩
    dsimp only
    have HB10 := hide (gr_on (Nat.le_refl _) (unhide HB8).1 (unhide HB8).2 g10)
    clear HC i10 g10 HI8 HB8
    go_wp2_with fail
    exact bodyPost_ret (results_tmp rfl _ _ _) rfl ⟨rfl, (unhide HB10).1⟩
  · have hMi : ((M : Int) == 0) = false := by simp; omega
    obtain ⟨Q, hQ, hQl⟩ := keep_last (m := (M : Int)) (by omega) P.b (P.s, ⟨#[110, 101, 119]⟩) hbM
    rw [hQ] at HI8
    have HC := hide (Undo1I_at w9 F6 g _ (unhide HI8) rfl Q P.s ⟨#[110, 101, 119]⟩ rfl (by simp) (by omega))
    dsimp only at HC
    go_wp2_with fail
    refine (unhide HC).mono ?_
    rintro y w10 ⟨rfl, F10, i10, g10⟩
    dsimp only
    have HI10 := hide i10
    have HB10 := hide (gr_on (Nat.le_refl _) (unhide HB8).1 (unhide HB8).2 g10)
    clear HC i10 g10 HI8 HB8
    have HC := hide (Redo1I_at w10 F10 g _ (unhide HI10) rfl [] x ⟨#[110, 101, 119]⟩ rfl (by dsimp only; omega) (by simp))
    dsimp only at HC
    go_wp2_with fail
    refine (unhide HC).mono ?_
    rintro y w11 ⟨rfl, F11, i11, g11⟩
    dsimp only
    have HB11 := hide (gr_on (Nat.le_refl _) (unhide HB10).1 (unhide HB10).2 g11)
    clear HC i11 g11 HI10 HB10
    go_wp2_with fail
    exact bodyPost_ret (results_tmp rfl _ _ _) rfl ⟨rfl, (unhide HB11).1⟩
theorem PastDoes_any {A B : Prop} (m : Int) (a : Option Addr) (c : Nat) (d : List Oq) (x : Int) (w : World) (_ : A) (ho : IsQ w a d) (_ : d = [] ∨ ∃ p, a = some p) (hl : d.length * 32 ≤ 140737488355328) (hw : ∀ o ∈ d, o.w.size ≤ 281474976710656) (_ : B) :
    Calls Try.prog 6 #[.int .i64 m, .slice a d.length c, .int .i64 x] w fun y Y => y = .returned (.bool true) ∧ Below w.heap.size w Y := by
  by_cases h : 0 ≤ m ∧ m ≤ 4096
  · exact PastDoesS m a c d x w h ho (by omega) hw
  · exact PastDoesN m a c d x w h
end Go.Proofs.Ythifdfjpfmhcpaa
