/- The walk of OctetWhole: it answers true wherever the table holds the classes, and changes nothing that was there. -/
import Derived.Test.YtgebpboimecdhaaDoorCopy
import Derived.Test.YtgebpboimecdhaaDoorRefV
namespace Go.Proofs.YtgebpboimecdhaaDoor
open Go.ChangeShapes Go.WideShapes Go.ChangeAt Go.RowKit

set_option maxHeartbeats 400000 in
theorem OctetWhole_any (a0 : Option Addr) (cap : Nat) (l : List Int) (w : World) (hB : IsB w a0 cap l) (hT : Tab w) :
    Calls Tryd.prog 4 #[.slice a0 l.length cap] w fun e w' => e = .returned (.bool true) ∧ Below w.heap.size w w' := by
  go_enter Tryd.func4, Tryd.ntmps4
  go_wp2_with (first
    | (go_at_call 9; refine (awake_any _ hT).mono ?_; rintro e w1 ⟨rfl, b1⟩; obtain ⟨a1, c1, w2, r1, x1, y1, z1⟩ := run_copy w1 a0 cap l 27 (hB.below b1 (Nat.le_refl _)); have R1 := hide r1; clear r1)
    | (at_builtin; refine wpList_append_known rfl _ _ 27 27 rfl _ _ rfl rfl _ _ (unhide R1) ?_))
  have hm : l.length ≤ maxLen := by have h1 := hB.1; have h2 := hB.2.1; unfold maxLen; omega
  have hT1 := hT.below b1 hT.size
  have hB1 := hB.below b1 (Nat.le_refl _)
  have hT2 := hT1.below z1 hT1.size
  have hB2 := hB1.below z1 (Nat.le_refl _)
  refine (Whole_at a1 c1 l w2 hm x1 y1 hT2).mono ?_
  rintro e w3 ⟨rfl, q3⟩
  have b3 := quiet_below q3 w2.heap.size
  have hT3 := hT2.below b3 hT2.size
  have hB3 := hB2.below b3 (Nat.le_refl _)
  clear q3
  go_wp2_with fail
  refine (RWhole_at a0 cap l w3 hm hB3.2.2.1).mono ?_
  rintro e w4 ⟨rfl, q4⟩
  have b4 := quiet_below q4 w3.heap.size
  have hT4 := hT3.below b4 hT3.size
  have hB4 := hB3.below b4 (Nat.le_refl _)
  clear q4
  obtain ⟨a2, c2, w5, r2, x2, y2, z2⟩ := run_copy w4 a0 cap l 27 hB4
  have R2 := hide r2
  clear r2
  go_wp2_with (at_builtin; refine wpList_append_known rfl _ _ 27 27 rfl _ _ rfl rfl _ _ (unhide R2) ?_)
  have hT5 := hT4.below z2 hT4.size
  have hB5 := hB4.below z2 (Nat.le_refl _)
  refine (Value_at a2 c2 l w5 hm x2 y2 hT5).mono ?_
  rintro e w6 ⟨rfl, q6⟩
  have b6 := quiet_below q6 w5.heap.size
  have hT6 := hT5.below b6 hT5.size
  have hB6 := hB5.below b6 (Nat.le_refl _)
  clear q6
  go_wp2_with fail
  refine (RValue_at a0 cap l w6 hm hB6.2.2.1).mono ?_
  rintro e w7 ⟨rfl, q7⟩
  have b7 := quiet_below q7 w6.heap.size
  clear q7
  go_wp2_with fail
  go_ret
  refine ⟨ret_bool (by simp), ?_⟩
  have s1 := b1.size; have s2 := z1.size; have s3 := b3.size; have s4 := b4.size; have s5 := z2.size; have s6 := b6.size
  exact b1.trans ((z1.mono (by omega)).trans ((b3.mono (by omega)).trans ((b4.mono (by omega)).trans ((z2.mono (by omega)).trans ((b6.mono (by omega)).trans (b7.mono (by omega)))))))

end Go.Proofs.YtgebpboimecdhaaDoor
