/- The walk of UnitsOnly, for arguments under the bound. -/
import Derived.Test.YtlfcplipnmclhaaDoorUli
namespace Go.Proofs.YtlfcplipnmclhaaDoor
open Go.ChangeShapes Go.WideShapes Go.ChangeAt Go.RowKit

theorem rd_len {it : Nat → Item} {n : Nat} (hit : ∀ p bs m, it p = .ok bs m → bs.length ≤ 4) : ∀ (m p : Nat) (acc : List Int), n - p ≤ m → (rd it n p acc).1.length ≤ acc.length + 4 * (n - p)
  | 0, p, acc, h => by rw [rd_end (by omega)]; simp
  | m + 1, p, acc, h => by
    by_cases hp : p < n
    · cases hi : it p with
      | bad e => rw [rd_bad hp hi]; simp
      | ok bs k =>
        have hb := hit p bs k hi
        have hm : n - (p + (k + 1)) ≤ m := by omega
        have := rd_len hit m (p + (k + 1)) (acc ++ bs) hm
        rw [rd_ok hp hi]
        rw [List.length_append] at this
        omega
    · rw [rd_end hp]; simp
theorem itX_len (u : List Int) : ∀ p bs m, itX u p = .ok bs m → bs.length ≤ 4 := by
  intro p bs m h
  unfold itX at h
  split at h
  · split at h
    · split at h
      · cases h
      · cases h; simp
    · cases h
  · cases h; exact (enc_len _).1
theorem exactL_len (u : List Int) : (exactL u).1.length ≤ 4 * u.length := by
  have := rd_len (n := u.length) (itX_len u) u.length 0 [] (by omega)
  simpa [exactL] using this
/-- what the two answers of one list have to do with one another -/
theorem both {u : List Int} (hu : ∀ x ∈ u, 0 ≤ x ∧ x ≤ 65535) :
    ((exactL u).2.2 = 0 → exL (exactL u).1 = u) ∧ ((exactL u).2.2 ≠ 0 → (exactL u).1 = [] ∧ (exactL u).2.1 < u.length) ∧
    ((fromL u).2.2 = 0 → toL (fromL u).1 = u ∧ exactL u = fromL u) ∧ ((fromL u).2.2 ≠ 0 → (fromL u).1 = [] ∧ (fromL u).2.1 < u.length) ∧
    ((fromL u).2.2 ≠ 0 → (exactL u).2.2 ≠ 0 → (fromL u).2.1 ≤ (exactL u).2.1) := by
  refine ⟨fun h => ?_, fun h => ?_, fun h => ?_, fun h => ?_, fun h1 h2 => ?_⟩
  · obtain ⟨t, t1, t2, _⟩ := exact_inv hu u.length 0 [] (by omega) (Nat.zero_le _) h
    rw [List.nil_append] at t1
    rw [exactL, t1, t2, List.drop_zero]
  · rcases rd_shape (n := u.length) (itX_bad u) u.length 0 [] (by omega) with h1 | ⟨_, h2, _, h4⟩
    · exact absurd h1 h
    · exact ⟨h2, h4⟩
  · obtain ⟨⟨t, t1, t2⟩, t3⟩ := from_inv hu u.length 0 [] (by omega) (Nat.zero_le _) h
    rw [List.nil_append] at t1
    exact ⟨by rw [fromL, t1, t2, List.drop_zero], t3⟩
  · rcases rd_shape (n := u.length) (itF_bad u) u.length 0 [] (by omega) with h1 | ⟨_, h2, _, h4⟩
    · exact absurd h1 h
    · exact ⟨h2, h4⟩
  · exact places_order u u.length 0 [] (by omega) h1 h2

set_option maxHeartbeats 1000000 in
theorem UnitsOnly_any (a0 : Option Addr) (cap : Nat) (u : List Int) (w : World) (hU : IsU w a0 cap u) (qb : cap ≤ 1048576) (hT : Tab w) :
    Calls Tryd.prog 8 #[.slice a0 u.length cap] w fun e w' => e = .returned (.bool true) ∧ Below w.heap.size w w' := by
  have lB : u.length ≤ 1048576 := Nat.le_trans hU.1 qb
  have L := Nat.le_refl w.heap.size
  have hlen := exactL_len u
  have HB := hide (both hU.2.2)
  have hml : u.length ≤ maxLen := by unfold maxLen; omega
  go_enter Tryd.func8, Tryd.ntmps8
  go_wp2_with fail
  refine (wakes_any w hT).mono ?_
  rintro e w1 ⟨rfl, x1⟩
  have hU1 := hU.below x1 (Nat.le_refl _)
  have hT1 := hT.below x1 hT.size
  go_wp2_with fail
  refine (copied_at a0 cap u w1 hU1 (by omega)).mono ?_
  rintro e w2 ⟨a2, c2, rfl, u2, x2⟩
  have hU2 := hU1.below x2 (Nat.le_refl _)
  have hT2 := hT1.below x2 hT1.size
  go_wp2_with fail
  refine (FromExact_at a2 c2 u w2 u2 (by omega) hT2).mono ?_
  rintro e w3 ⟨⟨a3, c3, rfl, i3⟩, x3⟩
  have hU3 := hU2.below x3 (Nat.le_refl _)
  have hT3 := hT2.below x3 hT2.size
  go_wp2_with fail
  refine (copied_at a0 cap u w3 hU3 (by omega)).mono ?_
  rintro e w4 ⟨a4, c4, rfl, u4, x4⟩
  have hU4 := hU3.below x4 (Nat.le_refl _)
  have hT4 := hT3.below x4 hT3.size
  have i34 := i3.below x4 (Nat.le_refl _)
  have HF := hide (From_at a4 c4 u w4 u4 (by omega))
  generalize exactL u = tx at *
  generalize fromL u = tf at *
  obtain ⟨bs, at1, e1⟩ := tx
  obtain ⟨cs, pl, f1⟩ := tf
  go_wp2_with fail
  refine (unhide HF).mono ?_
  rintro e w5 ⟨⟨a5, c5, rfl, i5⟩, x5⟩
  have hU5 := hU4.below x5 (Nat.le_refl _)
  have hT5 := hT4.below x5 hT4.size
  have i35 := i34.below x5 (Nat.le_refl _)
  have y5 : Below w.heap.size w w5 := bchain L (bchain L (bchain L (bchain L x1 x2) x3) x4) x5
  simp only at *
  clear hU hT hU1 hT1 u2 hU2 hT2 i3 hU3 hT3 u4 hU4 hT4 i34 HF x1 x2 x3 x4 x5
  obtain ⟨p1, p2, p3, p4, p5⟩ := unhide HB
  clear HB
  by_cases hf : f1 = 0
  · obtain ⟨t1, t2⟩ := p3 hf
    simp only [Prod.mk.injEq] at t2
    obtain ⟨rfl, rfl, rfl⟩ := t2
    subst hf
    have HX := hide (p1 rfl)
    have HT := hide t1
    clear p1 p2 p3 p4 p5 t1
    obtain ⟨a6, c6, w6, r6, i6, x6⟩ := run_copyB w5 a3 c3 bs 30 i35
    have R6 := hide r6
    have hT6 := hT5.below x6 hT5.size
    have i56 := i5.below x6 (Nat.le_refl _)
    have i36 := i35.below x6 (Nat.le_refl _)
    have hU6 := hU5.below x6 (Nat.le_refl _)
    clear r6
    have HC := hide (ToExact_at a6 c6 bs w6 i6 (by omega) hT6)
    rw [unhide HX] at HC
    generalize hbn : bs.length = nb at *
    have HBN := hide hbn
    clear hbn
    go_wp2_with (at_builtin; refine wpList_append_known rfl _ _ 30 30 rfl _ _ rfl rfl _ _ (unhide R6) ?_)
    refine (unhide HC).mono ?_
    rintro e w7 ⟨v7, rfl, o7, x7⟩
    have hU7 := hU6.below x7 (Nat.le_refl _)
    obtain ⟨a7, c7, rfl, u7⟩ := o7.isU hU7.2.2
    clear HC R6
    go_wp2_with fail
    refine (SameU_at a7 a0 c7 cap u w7 u7 hU7 hml).mono ?_
    rintro e w8 ⟨rfl, x8⟩
    have y8 := bchain (Nat.le_refl _) x7 x8
    have i58 := i56.below y8 (Nat.le_refl _)
    have i38 := i36.below y8 (Nat.le_refl _)
    have hU8 := hU6.below y8 (Nat.le_refl _)
    obtain ⟨a9, c9, w9, r9, i9, x9⟩ := run_copyB w8 a5 c5 bs 30 i58
    rw [unhide HBN] at r9
    have R9 := hide r9
    clear r9 u7 o7
    have hU9 := hU8.below x9 (Nat.le_refl _)
    have HC := hide (To_at a9 c9 bs w9 i9 (by rw [unhide HBN]; omega))
    rw [unhide HT, unhide HBN] at HC
    go_wp2_with (at_builtin; refine wpList_append_known rfl _ _ 30 30 rfl _ _ rfl rfl _ _ (unhide R9) ?_)
    refine (unhide HC).mono ?_
    rintro e w10 ⟨v10, rfl, o10, x10⟩
    have hU10 := hU9.below x10 (Nat.le_refl _)
    obtain ⟨a10, c10, rfl, u10⟩ := o10.isU hU10.2.2
    clear HC R9
    go_wp2_with fail
    refine (SameU_at a10 a0 c10 cap u w10 u10 hU10 hml).mono ?_
    rintro e w11 ⟨rfl, x11⟩
    have y11 := bchain (Nat.le_refl _) (bchain (Nat.le_refl _) x9 x10) x11
    have k3 := str_bs w11 a3 c3 bs (i38.below y11 (Nat.le_refl _)).2.2.1
    have k5 := str_bs w11 a5 c5 bs (i58.below y11 (Nat.le_refl _)).2.2.1
    rw [unhide HBN] at k3 k5
    go_wp2_with fail
    go_ret
    exact ⟨ret_bool (by simp), bchain L (bchain L (bchain L y5 x6) y8) y11⟩
  · obtain ⟨t1, t2⟩ := p4 hf
    obtain rfl : cs = [] := t1
    have f0 : (f1 == 0) = false := by rw [beq_eq_false_iff_ne]; exact hf
    have hpl : (pl : Int) < (u.length : Int) := by omega
    have hpl' : decide ((pl : Int) < (u.length : Int)) = true := decide_eq_true hpl
    by_cases he : e1 = 0
    · subst he
      have HX := hide (p1 rfl)
      clear p1 p2 p3 p4 p5 hf
      obtain ⟨a6, c6, w6, r6, i6, x6⟩ := run_copyB w5 a3 c3 bs 30 i35
      have R6 := hide r6
      have hT6 := hT5.below x6 hT5.size
      have hU6 := hU5.below x6 (Nat.le_refl _)
      clear r6
      have HC := hide (ToExact_at a6 c6 bs w6 i6 (by omega) hT6)
      rw [unhide HX] at HC
      generalize bs.length = nb at *
      go_wp2_with (at_builtin; refine wpList_append_known rfl _ _ 30 30 rfl _ _ rfl rfl _ _ (unhide R6) ?_)
      refine (unhide HC).mono ?_
      rintro e w7 ⟨v7, rfl, o7, x7⟩
      have hU7 := hU6.below x7 (Nat.le_refl _)
      obtain ⟨a7, c7, rfl, u7⟩ := o7.isU hU7.2.2
      clear HC R6
      go_wp2_with fail
      refine (SameU_at a7 a0 c7 cap u w7 u7 hU7 hml).mono ?_
      rintro e w8 ⟨rfl, x8⟩
      go_wp2_with fail
      all_goals go_ret
      all_goals exact ⟨ret_bool (by simp), bchain L (bchain L (bchain L y5 x6) x7) x8⟩
    · obtain ⟨s1, s2⟩ := p2 he
      obtain rfl : bs = [] := s1
      have hord := p5 hf he
      have e0 : (e1 == 0) = false := by rw [beq_eq_false_iff_ne]; exact he
      have e2 : (e1 != 0) = true := by rw [bne_iff_ne]; exact he
      have hat : ¬ (u.length : Int) ≤ (at1 : Int) := by omega
      have hat' : decide ((at1 : Int) ≥ (u.length : Int)) = false := decide_eq_false (by omega)
      have hor' : decide ((pl : Int) ≤ (at1 : Int)) = true := decide_eq_true (by omega)
      clear p1 p2 p3 p4 p5 hf he
      go_wp2_with fail
      all_goals go_ret
      all_goals exact ⟨ret_bool (by simp), y5⟩

end Go.Proofs.YtlfcplipnmclhaaDoor
