/- The walk of UnitsFrom, for arguments of any length. -/
import Derived.Test.YtlfcplipnmclhaaDoorUbg
namespace Go.Proofs.YtlfcplipnmclhaaDoor
open Go.ChangeShapes Go.WideShapes Go.ChangeAt Go.RowKit

set_option maxHeartbeats 1000000 in
theorem UnitsFrom_any (a0 : Option Addr) (cap : Nat) (u : List Int) (w : World) (hU : IsU w a0 cap u) (lB : u.length ≤ 70368744175616) (hT : Tab w) :
    Calls Tryd.prog 5 #[.slice a0 u.length cap] w fun e w' => e = .returned (.bool true) ∧ Below w.heap.size w w' := by
  have L := Nat.le_refl w.heap.size
  go_enter Tryd.func5, Tryd.ntmps5
  go_wp2_with fail
  refine (wakes_any w hT).mono ?_
  rintro e w1 ⟨rfl, x1⟩
  have hU1 := hU.below x1 (Nat.le_refl _)
  go_wp2_with fail
  refine (copied_atB a0 cap u w1 hU1 (by omega)).mono ?_
  rintro e w2 ⟨a2, c2, rfl, u2, x2⟩
  have hU2 := hU1.below x2 (Nat.le_refl _)
  go_wp2_with fail
  refine (From_atB a2 c2 u w2 u2 lB).mono ?_
  rintro e w3 ⟨⟨a3, c3, rfl, i3⟩, x3⟩
  have hU3 := hU2.below x3 (Nat.le_refl _)
  have HF := hide (RFrom_atB a0 cap u w3 hU3 lB)
  generalize fromL u = t at *
  obtain ⟨bs, pl, er⟩ := t
  go_wp2_with fail
  refine (unhide HF).mono ?_
  rintro e w4 ⟨⟨a4, c4, rfl, i4⟩, x4⟩
  have k3 := str_bs w4 a3 c3 bs (i3.belowB x4)
  have k4 := str_bs w4 a4 c4 bs i4
  simp only at *
  generalize bs.length = n at *
  go_wp2_with fail
  go_ret
  exact ⟨ret_bool (by simp), bchain L (bchain L (bchain L x1 x2) x3) x4⟩

end Go.Proofs.YtlfcplipnmclhaaDoor
