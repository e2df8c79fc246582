/- The walk of UnitsTo, for arguments under the bound. -/
import Derived.Test.YtlfcplipnmclhabDoorRf3X
namespace Go.Proofs.YtlfcplipnmclhabDoor
open Go.ChangeShapes Go.WideShapes Go.ChangeAt Go.RowKit

/-- append([]byte{}, b...) -/
theorem run_copyB (w : World) (a0 : Option Addr) (cap : Nat) (l : List Int) (ty : TypeId) (hB : IsB w a0 cap l) :
    ∃ a' cap' w', (Builtin.append_ #[30, 30] ty #[.slice (some ⟨w.heap.size, 0, none⟩) 0 0, .slice a0 l.length cap]).run Tryd.prog (w.alloc (.cells #[] 5)) = .ok (.slice a' l.length cap') w' ∧ IsB w' a' cap' l ∧ Below w.heap.size w w' := by
  obtain ⟨a', cap', w', h1, h2, h3, h4⟩ := run_copy w a0 cap l ty hB
  exact ⟨a', cap', w', h1, ⟨h2, hB.2.1, h3, hB.2.2.2⟩, h4⟩
theorem exL_len (l : List Int) : (exL l).length ≤ 2 * l.length := by have h1 := exP_len l (spots l 0); have h2 := spots_le l; unfold exL; omega

end Go.Proofs.YtlfcplipnmclhabDoor
