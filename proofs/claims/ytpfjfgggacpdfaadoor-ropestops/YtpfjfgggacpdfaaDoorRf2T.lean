/- The document's answer for layer 2: Steps, Valid; and that two lists alike are found alike (Same, Alike). -/
import Derived.Test.YtpfjfgggacpdfaaDoorRf2S
namespace Go.Proofs.YtpfjfgggacpdfaaDoor
open Go.ChangeShapes Go.WideShapes Go.ChangeAt Go.RowKit

theorem own_below {W W' : World} {B e s n : Nat} {v : Value} {xs : List Value} (h : W.ownsRow B e s v n xs) (hb : Below W.heap.size W W') : W'.ownsRow B e s v n xs :=
  h.kept (row := none) ⟨hb.os, hb.tape, hb.output, hb.size, fun j hj _ => hb.block j hj⟩ (by cases hv : v.ownBlock <;> simp)
theorem take_snoc' (ps : List Nat) (k : Nat) (h : k < ps.length) : ps.take (k + 1) = ps.take k ++ [ps.getD k 0] := by
  rw [List.take_succ_eq_append_getElem h]
  simp [List.getD, List.getElem?_eq_getElem h]
theorem getD_snoc (ps : List Nat) (n k : Nat) (h : k < ps.length) : (ps ++ [n]).getD k 0 = ps.getD k 0 := by simp [List.getD, List.getElem?_append_left h]
theorem spots_bound {l : List Int} : ∀ (f p : Nat), ∀ q ∈ places l f p, q < l.length
  | 0, _, q, h => by simp [places] at h
  | f + 1, p, q, h => by
    simp only [places] at h
    split at h
    · rename_i hp
      rcases List.mem_cons.1 h with rfl | h
      · exact hp
      · exact spots_bound f _ q h
    · simp at h
theorem spots_lt {l : List Int} {k : Nat} (h : k < (spots l 0).length) : (spots l 0).getD k 0 < l.length := by
  have := spots_bound (l := l) _ 0 _ (List.getElem_mem h)
  simpa [List.getD, List.getElem?_eq_getElem h] using this

end Go.Proofs.YtpfjfgggacpdfaaDoor
