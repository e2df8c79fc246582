/- The document's answer for layer 2: Edges, Steps, Valid, Same, Alike. -/
import Derived.Test.YtpfjfgggacpdfaaDoorRf2D
import Derived.Test.YtpfjfgggacpdfaaDoorLst
namespace Go.Proofs.YtpfjfgggacpdfaaDoor
open Go.ChangeShapes Go.WideShapes Go.ChangeAt Go.RowKit

/-- the edges up to a place -/
def edgesTo (l : List Int) (p : Nat) : List Nat := (List.range p).filter fun q => !inside l q
theorem edgesTo_yes {l : List Int} {p : Nat} (h : inside l p = false) : edgesTo l (p + 1) = edgesTo l p ++ [p] := by simp [edgesTo, List.range_succ, List.filter_append, h]
theorem edgesTo_no {l : List Int} {p : Nat} (h : inside l p = true) : edgesTo l (p + 1) = edgesTo l p := by simp [edgesTo, List.range_succ, List.filter_append, h]
theorem edgesTo_len (l : List Int) (p : Nat) : (edgesTo l p).length ≤ p := by
  have := List.length_filter_le (fun q => !inside l q) (List.range p)
  simpa [edgesTo] using this
theorem edgesTo_in {l : List Int} {p : Nat} (he : inside l p = false) (hp : p < l.length) : ∀ k, 1 ≤ k → k ≤ wid (l.drop p) → edgesTo l (p + k) = edgesTo l p ++ [p]
  | 0, h, _ => by omega
  | 1, _, _ => edgesTo_yes he
  | k + 2, _, h2 => by
    rw [show p + (k + 2) = (p + (k + 1)) + 1 by omega, edgesTo_no (edge_between (by omega) (by omega) hp)]
    exact edgesTo_in he hp (k + 1) (by omega) (by omega)
theorem edges_split {l : List Int} : ∀ (n p : Nat), l.length - p ≤ n → p ≤ l.length → inside l p = false → edgesTo l (l.length + 1) = edgesTo l p ++ (spots l p ++ [l.length])
  | 0, p, h, hl, he => by
    obtain rfl : p = l.length := by omega
    rw [spots_end (by omega), edgesTo_yes he]; rfl
  | n + 1, p, h, hl, he => by
    by_cases hp : p < l.length
    · have hw := wid_pos hp
      rw [edges_split n (p + wid (l.drop p)) (by omega) (wid_len hp) (edge_next he hp), edgesTo_in he hp _ hw (Nat.le_refl _), spots_cons hp]
      simp
    · obtain rfl : p = l.length := by omega
      rw [spots_end (by omega), edgesTo_yes he]; rfl
theorem edges_all (l : List Int) : edgesTo l (l.length + 1) = spots l 0 ++ [l.length] := by
  rw [edges_split l.length 0 (by omega) (Nat.zero_le _) (edge_zero l)]
  simp [edgesTo]

end Go.Proofs.YtpfjfgggacpdfaaDoor
