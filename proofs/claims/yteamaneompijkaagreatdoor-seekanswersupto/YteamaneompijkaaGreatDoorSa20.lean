/- Layer 7, plain: Where's numbers; how they go on from place to place (LinesColumns). -/
import Derived.Test.YteamaneompijkaaGreatDoorSa19
namespace Go.Proofs.YteamaneompijkaaGreatDoor
open Go.ChangeShapes Go.WideShapes Go.ChangeAt Go.RowKit
set_option maxRecDepth 100000
set_option maxHeartbeats 8000000
theorem flr_lastL {l : List Int} {p q : Nat} (h1 : flr l p ≤ q) (h2 : q ≤ p) (h : inside l q = false) : q = flr l p := by
  cases hi : inside l p with
  | false => rw [flr_eq hi] at h1 ⊢; omega
  | true =>
    obtain ⟨a, b⟩ := flr_over hi
    rcases Nat.eq_or_lt_of_le h1 with e | e
    · exact e.symm
    · have := (inside_iff l q).2 ⟨flr l p, e, by omega⟩
      rw [h] at this; cases this
theorem flr_is {l : List Int} {p q : Nat} (h2 : q ≤ p) (h : inside l q = false) (h3 : ∀ j, q < j → j ≤ p → inside l j = true) : flr l p = q := by
  have h1 := flr_edge l p
  have h4 := flr_le l p
  rcases Nat.lt_trichotomy (flr l p) q with e | e | e
  · exact (flr_lastL (Nat.le_of_lt e) h2 h).symm
  · exact e
  · have := h3 _ e h4
    rw [h1] at this; cases this
end Go.Proofs.YteamaneompijkaaGreatDoor
