/- The walk of UnitsTo, for arguments under the bound. -/
import Derived.Test.YtlfcplipnmclhaaDoorRf3X
namespace Go.Proofs.YtlfcplipnmclhaaDoor
open Go.ChangeShapes Go.WideShapes Go.ChangeAt Go.RowKit

/-- append([]byte{}, b...) -/
theorem run_copyB (w : World) (a0 : Option Addr) (cap : Nat) (l : List Int) (ty : TypeId) (hB : IsB w a0 cap l) :
    ∃ a' cap' w', (Builtin.append_ #[30, 30] ty #[.slice (some ⟨w.heap.size, 0, none⟩) 0 0, .slice a0 l.length cap]).run Tryd.prog (w.alloc (.cells #[] 5)) = .ok (.slice a' l.length cap') w' ∧ IsB w' a' cap' l ∧ Below w.heap.size w w' := by
  obtain ⟨a', cap', w', h1, h2, h3, h4⟩ := run_copy w a0 cap l ty hB
  exact ⟨a', cap', w', h1, ⟨h2, hB.2.1, h3, hB.2.2.2⟩, h4⟩
theorem exL_len (l : List Int) : (exL l).length ≤ 2 * l.length := by have h1 := exP_len l (spots l 0); have h2 := spots_le l; unfold exL; omega

set_option maxHeartbeats 1000000 in
theorem UnitsTo_any (a0 : Option Addr) (cap : Nat) (l : List Int) (w : World) (hB : IsB w a0 cap l) (qb : cap ≤ 1048576) (hT : Tab w) :
    Calls Tryd.prog 4 #[.slice a0 l.length cap] w fun e w' => e = .returned (.bool true) ∧ Below w.heap.size w w' := by
  have lB : l.length ≤ 1048576 := Nat.le_trans hB.1 qb
  have HLB := hide hB.2.2.2
  have L := Nat.le_refl w.heap.size
  have htl := toL_len l
  have hel := exL_len l
  go_enter Tryd.func4, Tryd.ntmps4
  go_wp2_with fail
  refine (wakes_any w hT).mono ?_
  rintro e w1 ⟨rfl, x1⟩
  have hB1 := hB.below x1 (Nat.le_refl _)
  have hT1 := hT.below x1 hT.size
  obtain ⟨a2, c2, w2, r2, i2, x2⟩ := run_copyB w1 a0 cap l 30 hB1
  have R2 := hide r2
  clear r2
  go_wp2_with (at_builtin; refine wpList_append_known rfl _ _ 30 30 rfl _ _ rfl rfl _ _ (unhide R2) ?_)
  refine (To_at a2 c2 l w2 i2 (by omega)).mono ?_
  rintro e w3 ⟨v3, rfl, o3, x3⟩
  have y3 := bchain (Nat.le_refl _) x2 x3
  have hB3 := hB1.below y3 (Nat.le_refl _)
  have hT3 := hT1.below y3 hT1.size
  obtain ⟨a4, c4, w4, r4, i4, x4⟩ := run_copyB w3 a0 cap l 30 hB3
  have R4 := hide r4
  clear r4 R2
  have hT4 := hT3.below x4 hT3.size
  go_wp2_with (at_builtin; refine wpList_append_known rfl _ _ 30 30 rfl _ _ rfl rfl _ _ (unhide R4) ?_)
  refine (ToExact_at a4 c4 l w4 i4 (by omega) hT4).mono ?_
  rintro e w5 ⟨v5, rfl, o5, x5⟩
  have y5 := bchain (Nat.le_refl _) x4 x5
  have hB5 := hB3.below y5 (Nat.le_refl _)
  have o35 := o3.below y5
  clear R4
  go_wp2_with fail
  refine (RTo_at a0 cap l w5 hB5 lB).mono ?_
  rintro e w6 ⟨v6, rfl, o6, x6⟩
  have hB6 := hB5.below x6 (Nat.le_refl _)
  obtain ⟨a3, c3, rfl, u3⟩ := (o35.below x6).isU (toL_in (unhide HLB))
  obtain ⟨a6, c6, rfl, u6⟩ := o6.isU (toL_in (unhide HLB))
  have o56 := o5.below x6
  have hm : (toL l).length ≤ maxLen := by unfold maxLen; omega
  have HS := hide (SameU_at a3 a6 c3 c6 (toL l) w6 u3 u6 hm)
  clear o35 o3 o6 o5 hm
  go_wp2_with fail
  refine (unhide HS).mono ?_
  rintro e w7 ⟨rfl, x7⟩
  have hB7 := hB6.below x7 (Nat.le_refl _)
  have o57 := o56.below x7
  clear HS
  go_wp2_with fail
  refine (RToExact_at a0 cap l w7 hB7 lB).mono ?_
  rintro e w8 ⟨v8, rfl, o8, x8⟩
  obtain ⟨a5, c5, rfl, u5⟩ := (o57.below x8).isU (exL_in (unhide HLB))
  obtain ⟨a8, c8, rfl, u8⟩ := o8.isU (exL_in (unhide HLB))
  have hm : (exL l).length ≤ maxLen := by unfold maxLen; omega
  have HS := hide (SameU_at a5 a8 c5 c8 (exL l) w8 u5 u8 hm)
  clear o57 o8 o56 hm
  go_wp2_with fail
  refine (unhide HS).mono ?_
  rintro e w9 ⟨rfl, x9⟩
  go_wp2_with fail
  go_ret
  exact ⟨rfl, bchain L (bchain L (bchain L (bchain L (bchain L (bchain L x1 y3) y5) x6) x7) x8) x9⟩

end Go.Proofs.YtlfcplipnmclhaaDoor
