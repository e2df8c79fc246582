/- The document's answer for layer 2: Inside, Of, Edge, At, Before, Floor, Ceil. -/
import Derived.Test.YtpfjfgggacpdfaaDoorRf2P
namespace Go.Proofs.YtpfjfgggacpdfaaDoor
open Go.ChangeShapes Go.WideShapes Go.ChangeAt Go.RowKit

theorem inside_f {l : List Int} {p : Nat} (hno : ∀ j, 1 ≤ j → j ≤ 3 → j ≤ p → ¬ j < lng (l.drop (p - j))) : inside l p = false := by
  have := flr_no hno
  rwa [flr_inside] at this
theorem inside_t {l : List Int} {q k : Nat} (h1 : 1 ≤ k) (h : k < lng (l.drop q)) : inside l (q + k) = true := (inside_iff _ _).2 ⟨q, by omega, by omega⟩

/-- where an encoding begins, its parts -/
theorem lng_parts {l : List Int} {p n : Nat} (h : lng (l.drop p) = n + 1) : ∃ a r, l.drop p = a :: r ∧ need a = ((n + 1 : Nat) : Int) ∧ whole (a :: r.take n) = true ∧ n ≤ r.length := by
  cases hd : l.drop p with
  | nil => rw [hd] at h; simp [lng] at h
  | cons a r =>
    rw [hd] at h
    have hlen := lng_len (a :: r)
    rw [h] at hlen
    simp only [lng] at h
    split at h
    · rename_i hw
      have := need_lo a
      rw [h, List.take_succ_cons] at hw
      refine ⟨a, r, rfl, by omega, hw, by simpa using hlen⟩
    · omega
theorem stp_bad {l : List Int} (h : lng l = 0) : stp l = stepV 65533 1 false := by
  cases l with
  | nil => simp [stp, wid, whl, first, lng]
  | cons a r =>
    have hw : wid (a :: r) = 1 := by rw [wid_lng, if_pos h]
    have hf : (first (a :: r)).1 = 65533 := by
      simp only [first]
      split
      · rename_i hw
        simp only [lng, if_pos hw] at h
        rw [h] at hw
        cases hw
      · rfl
    simp [stp, hw, hf, whl, h]
theorem stp_whole {l : List Int} {a : Int} {r : List Int} {n : Nat} (hl : l = a :: r) (hn : need a = ((n + 1 : Nat) : Int)) (hw : whole (a :: r.take n) = true) : stp l = stepV (fold (lead a) (r.take n)) (n + 1) true := by
  subst hl
  have e : (a :: r).take (need a).toNat = a :: r.take n := by rw [hn]; rfl
  have hl : lng (a :: r) = n + 1 := by
    show (if whole ((a :: r).take (need a).toNat) = true then (need a).toNat else 0) = n + 1
    rw [e, if_pos hw, hn]; rfl
  have hv : first (a :: r) = (fold (lead a) (r.take n), n + 1) := by
    show (if whole ((a :: r).take (need a).toNat) = true then (value ((a :: r).take (need a).toNat), (need a).toNat) else (65533, 1)) = _
    rw [e, if_pos hw, hn, value_yes hw]; rfl
  simp [stp, wid, whl, hl, hv]

end Go.Proofs.YtpfjfgggacpdfaaDoor
