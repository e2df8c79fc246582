/- Layer 17: the law's fixed facts, its comparison of words. Written by wip/tools/pua.py. -/
import Derived.Test.YthifdfjpfmhcpaaMg15
import Derived.Test.YthifdfjpfmhcpaaMg19

namespace Go.Proofs.Ythifdfjpfmhcpaa
open Go.ChangeShapes Go.WideShapes Go.ChangeAt Go.RowKit
attribute [local go_sem] Oper.semAt_some

theorem gr_on {B : Nat} {w X Y : World} {F G : Nat → Prop} (hB : B ≤ w.heap.size) (hx : Below B w X) (hF : ∀ i, F i → B ≤ i) (h : Gr F X G Y) : Below B w Y ∧ ∀ i, G i → B ≤ i :=
  ⟨hx.trans (h.kp.below (Nat.le_trans hB hx.size) hF), h.lo (Nat.le_trans hB hx.size) hF⟩
theorem Below.drewB {B : Nat} (w : World) : Below B w w.drew := (Below.refl B w).drew
theorem baL (x y : ByteArray) : (x.toList == y.toList) = decide (x = y) := by
  rw [ByteArray.toList_eq, ByteArray.toList_eq]
  by_cases h : x = y
  · subst h; simp
  · rw [decide_eq_false h, beq_eq_false_iff_ne]
    intro e
    refine h ?_
    cases x; cases y
    simpa using e
theorem fx1 : doP (⟨⟨#[97]⟩, 2, [], [], none⟩ : Pa ByteArray) ⟨#[98]⟩ ⟨#[111, 110, 101]⟩ = (⟨⟨#[98]⟩, 2, [(⟨#[97]⟩, ⟨#[111, 110, 101]⟩)], [], none⟩ : Pa ByteArray) := by simp [doP, keepP]
theorem fx2 : doP (⟨⟨#[98]⟩, 2, [(⟨#[97]⟩, ⟨#[111, 110, 101]⟩)], [], none⟩ : Pa ByteArray) ⟨#[99]⟩ ⟨#[116, 119, 111]⟩ = (⟨⟨#[99]⟩, 2, [(⟨#[97]⟩, ⟨#[111, 110, 101]⟩), (⟨#[98]⟩, ⟨#[116, 119, 111]⟩)], [], none⟩ : Pa ByteArray) := by simp [doP, keepP]
theorem fx3 : doP (⟨⟨#[99]⟩, 2, [(⟨#[97]⟩, ⟨#[111, 110, 101]⟩), (⟨#[98]⟩, ⟨#[116, 119, 111]⟩)], [], none⟩ : Pa ByteArray) ⟨#[100]⟩ ⟨#[116, 104, 114, 101, 101]⟩ = (⟨⟨#[100]⟩, 2, [(⟨#[98]⟩, ⟨#[116, 119, 111]⟩), (⟨#[99]⟩, ⟨#[116, 104, 114, 101, 101]⟩)], [], none⟩ : Pa ByteArray) := by simp [doP, keepP]
set_option maxRecDepth 100000 in
set_option maxHeartbeats 4000000 in
theorem fixed17_at (w : World) : Calls Try.prog 10 #[] w fun y Y => y = .returned (.bool true) ∧ Below w.heap.size w Y := by
  have HC := hide (NewS_at ⟨#[97]⟩ 2 w (by omega))
  go_enter Try.func10, Try.ntmps10
  go_wp2_with fail
  refine (unhide HC).mono ?_
  rintro y w0 ⟨g, F0, rfl, i0, l0, x0⟩
  dsimp only
  have HI0 := hide i0
  have HB0 := hide (And.intro x0 l0)
  clear HC i0 x0 l0
  have HC := hide (Do0S_at w0 F0 g (⟨⟨#[97]⟩, 2, [], [], none⟩ : Pa ByteArray) (unhide HI0) ⟨#[98]⟩ ⟨#[111, 110, 101]⟩ rfl (by decide) (by simp))
  rw [fx1] at HC
  go_wp2_with fail
  refine (unhide HC).mono ?_
  rintro y w1 ⟨rfl, F1, i1, g1⟩
  dsimp only
  have HI1 := hide i1
  have HB1 := hide (gr_on (Nat.le_refl _) (unhide HB0).1 (unhide HB0).2 g1)
  clear HC i1 g1 HI0 HB0
  have HC := hide (Do0S_at w1 F1 g (⟨⟨#[98]⟩, 2, [(⟨#[97]⟩, ⟨#[111, 110, 101]⟩)], [], none⟩ : Pa ByteArray) (unhide HI1) ⟨#[99]⟩ ⟨#[116, 119, 111]⟩ rfl (by decide) (by simp))
  rw [fx2] at HC
  go_wp2_with fail
  refine (unhide HC).mono ?_
  rintro y w2 ⟨rfl, F2, i2, g2⟩
  dsimp only
  have HI2 := hide i2
  have HB2 := hide (gr_on (Nat.le_refl _) (unhide HB1).1 (unhide HB1).2 g2)
  clear HC i2 g2 HI1 HB1
  have HC := hide (Do0S_at w2 F2 g (⟨⟨#[99]⟩, 2, [(⟨#[97]⟩, ⟨#[111, 110, 101]⟩), (⟨#[98]⟩, ⟨#[116, 119, 111]⟩)], [], none⟩ : Pa ByteArray) (unhide HI2) ⟨#[100]⟩ ⟨#[116, 104, 114, 101, 101]⟩ rfl (by decide) (by simp))
  rw [fx3] at HC
  go_wp2_with fail
  refine (unhide HC).mono ?_
  rintro y w3 ⟨rfl, F3, i3, g3⟩
  dsimp only
  have HI3 := hide i3
  have HB3 := hide (gr_on (Nat.le_refl _) (unhide HB2).1 (unhide HB2).2 g3)
  clear HC i3 g3 HI2 HB2
  have HC := hide (Undo1S_at w3 F3 g (⟨⟨#[100]⟩, 2, [(⟨#[98]⟩, ⟨#[116, 119, 111]⟩), (⟨#[99]⟩, ⟨#[116, 104, 114, 101, 101]⟩)], [], none⟩ : Pa ByteArray) (unhide HI3) rfl [(⟨#[98]⟩, ⟨#[116, 119, 111]⟩)] ⟨#[99]⟩ ⟨#[116, 104, 114, 101, 101]⟩ rfl (by simp) (by simp))
  go_wp2_with fail
  refine (unhide HC).mono ?_
  rintro y w4 ⟨rfl, F4, i4, g4⟩
  dsimp only
  have HI4 := hide i4
  have HB4 := hide (gr_on (Nat.le_refl _) (unhide HB3).1 (unhide HB3).2 g4)
  clear HC i4 g4 HI3 HB3
  have HC := hide (NowS_at w4 F4 g _ (unhide HI4))
  dsimp only at HC
  go_wp2_with fail
  refine (unhide HC).mono ?_
  rintro y w5 ⟨rfl, rfl⟩
  dsimp only
  clear HC
  go_wp2_with fail
  exact bodyPost_ret (results_tmp rfl _ _ _) rfl ⟨rfl, (unhide HB4).1⟩
set_option maxRecDepth 100000 in
set_option maxHeartbeats 4000000 in
theorem wordsL_at (X : World) (v1 v2 : Value) (l1 l2 : List ByteArray) (k1 k2 : Option Nat) (h1 : RS X v1 l1 k1) (h2 : RS X v2 l2 k2) (hl : l1.length ≤ 1000000) :
    Calls Try.prog 21 #[v1, v2] X fun y Y => y = .returned (.bool (decide (l1 = l2))) ∧ Below X.heap.size X Y := by
  obtain ⟨a1, c1, rfl⟩ := h1.val
  obtain ⟨a2, c2, rfl⟩ := h2.val
  by_cases hn : l1.length = l2.length
  · have HX1 := hide fun (Z : World) (hZ : Below X.heap.size X Z) => h1.below hZ
    have HX2 := hide fun (Z : World) (hZ : Below X.heap.size X Z) => h2.below hZ
    obtain ⟨R, hR⟩ : ∃ R, R = decide (l1 = l2) := ⟨_, rfl⟩
    rw [← hR]
    have HR := hide hR
    have t1 : ((l1.length : Int) != (l2.length : Int)) = false := by simp [hn]
    clear h1 h2 hR
    go_enter Try.func21, Try.ntmps21
    go_wp2_with fail
    go_loopw [5, 13] (fun v5 v13 wx => (∃ z, v5 = z) ∧ (∃ k : Nat, v13 = .int .i64 (k : Int) ∧ k ≤ l1.length ∧ Hid (l1.take k = l2.take k)) ∧ Hid (Below X.heap.size X wx)) (fun _ v13 _ => l1.length - (intOf v13).toNat)
    case atStart => exact ⟨⟨_, rfl⟩, ⟨0, rfl, Nat.zero_le _, hide rfl⟩, hide (Below.refl _ _)⟩
    case round =>
      obtain ⟨⟨z1, rfl⟩, ⟨k, rfl, hk, HT⟩, HB⟩ := hrel
      by_cases hlt : k < l1.length
      · have u1 : decide ((k : Int) < (l1.length : Int)) = true := decide_eq_true (by omega)
        have hlt2 : k < l2.length := by omega
        obtain ⟨g1, o1, c1', e1, _, _, d1⟩ := (unhide HX1 wr (unhide HB)).get hlt
        obtain ⟨g2, o2, c2', e2, _, _, d2⟩ := (unhide HX2 wr (unhide HB)).get hlt2
        cases e1
        cases e2
        have i1 : (k : Int) < (l1.length : Int) := by omega
        have i2 : (k : Int) < (l2.length : Int) := by omega
        have wk : wrap64 ((k : Int) + 1) = ((k + 1 : Nat) : Int) := by unfold wrap64; omega
        have HE : Hid (l1[k] = l2[k] → l1.take (k + 1) = l2.take (k + 1)) := hide fun e => by
          rw [List.take_succ_eq_append_getElem hlt, List.take_succ_eq_append_getElem hlt2, unhide HT, e]
        have HNE : Hid (l1[k] ≠ l2[k] → R = false) := hide fun e => by
          rw [unhide HR]
          refine decide_eq_false (fun h => e ?_)
          subst h; rfl
        generalize l1[k] = x1 at *
        generalize l2[k] = x2 at *
        clear HR HX1 HX2 HT
        by_cases hx : x1 = x2
        · have b1 : (x1.toList == x2.toList) = false.not := by rw [baL]; exact decide_eq_true hx
          have b2 : (x1.toList != x2.toList) = false := by rw [bne, b1]; rfl
          have HN := hide (unhide HE hx)
          have HBD := hide ((unhide HB).trans (Below.drewB wr))
          clear HE HNE hx
          go_upto_region 6 with fail
          go_region
          go_wp2_with fail
          go_roundw
          case rel => exact ⟨⟨_, rfl⟩, ⟨k + 1, by first | rfl | rw [wk], hlt, HN⟩, HBD⟩
          case measure => simp [intOf]; omega
        · have b1 : (x1.toList == x2.toList) = false := by rw [baL]; exact decide_eq_false hx
          have b2 : (x1.toList != x2.toList) = true := by rw [bne, b1]; rfl
          have hRF := unhide HNE hx
          subst hRF
          have HBD := hide ((unhide HB).trans (Below.drewB wr))
          clear HE HNE hx
          go_upto_region 6 with fail
          go_region
          go_wp2_with fail
          exact bodyPost_ret (results_tmp rfl _ _ _) rfl ⟨rfl, unhide HBD⟩
      · obtain rfl : k = l1.length := by omega
        have u1 : decide ((l1.length : Int) < (l1.length : Int)) = false := decide_eq_false (by omega)
        have hRT : R = true := by
          rw [unhide HR]
          refine decide_eq_true ?_
          have := unhide HT
          rw [List.take_length, hn, List.take_length] at this
          exact this
        subst hRT
        clear HR HX1 HX2 HT
        go_wp2_with fail
        exact bodyPost_ret (results_tmp rfl _ _ _) rfl ⟨rfl, unhide HB⟩
  · have t1 : ((l1.length : Int) != (l2.length : Int)) = true := by simp; omega
    have hd : decide (l1 = l2) = false := decide_eq_false (fun e => hn (by rw [e]))
    rw [hd]
    clear h1 h2 hd
    go_enter Try.func21, Try.ntmps21
    go_wp2_with fail
    exact bodyPost_ret (results_tmp rfl _ _ _) rfl ⟨rfl, Below.refl _ _⟩
end Go.Proofs.Ythifdfjpfmhcpaa
