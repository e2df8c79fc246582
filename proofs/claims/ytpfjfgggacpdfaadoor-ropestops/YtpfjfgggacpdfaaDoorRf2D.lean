/- The document's answer for layer 2: Of, At, Before, Floor, Ceil. -/
import Derived.Test.YtpfjfgggacpdfaaDoorRf2C
namespace Go.Proofs.YtpfjfgggacpdfaaDoor
open Go.ChangeShapes Go.WideShapes Go.ChangeAt Go.RowKit

theorem flr_last {l : List Int} {p q : Nat} (h1 : flr l p ≤ q) (h2 : q ≤ p) (h : inside l q = false) : q = flr l p := by
  cases hi : inside l p with
  | false => rw [flr_eq hi] at h1 ⊢; omega
  | true =>
    obtain ⟨a, b⟩ := flr_over hi
    rcases Nat.eq_or_lt_of_le h1 with e | e
    · exact e.symm
    · have := (inside_iff l q).2 ⟨flr l p, e, by omega⟩
      rw [h] at this; cases this
theorem flr_more {l : List Int} {p q : Nat} (h1 : flr l p ≤ q) (h : inside l q = true) : flr l p ≤ q - 1 ∧ 1 ≤ q := by
  have he := flr_edge l p
  rcases Nat.eq_or_lt_of_le h1 with e | e
  · rw [e, h] at he; cases he
  · omega
theorem ceil_ge (l : List Int) (p : Nat) : p ≤ ceil l p := by
  unfold ceil
  split
  · rename_i h; have := flr_wid h; omega
  · exact Nat.le_refl _
theorem ceil_le {l : List Int} {p : Nat} (hp : p ≤ l.length) : ceil l p ≤ l.length := by
  unfold ceil
  split
  · rename_i h; have := flr_wid h; exact wid_len (by omega)
  · exact hp
theorem ceil_edge {l : List Int} {p : Nat} (hp : p ≤ l.length) : inside l (ceil l p) = false := by
  unfold ceil
  cases h : inside l p with
  | false => simpa using h
  | true => have := flr_wid h; simp only [if_true]; exact edge_next (flr_edge l p) (by omega)
theorem ceil_last {l : List Int} {p q : Nat} (hp : p ≤ l.length) (h1 : p ≤ q) (h2 : q ≤ ceil l p) (h : inside l q = false) : q = ceil l p := by
  unfold ceil at h2 ⊢
  cases hi : inside l p with
  | false => rw [hi] at h2; simp at h2 ⊢; omega
  | true =>
    rw [hi] at h2
    simp only [if_true] at h2 ⊢
    obtain ⟨a, b⟩ := flr_wid hi
    rcases Nat.eq_or_lt_of_le h2 with e | e
    · exact e
    · have := edge_between (l := l) (p := flr l p) (k := q - flr l p) (by omega) (by omega) (by omega)
      rw [show flr l p + (q - flr l p) = q by omega, h] at this; cases this
theorem ceil_more {l : List Int} {p q : Nat} (hp : p ≤ l.length) (h2 : q ≤ ceil l p) (h : inside l q = true) : q + 1 ≤ ceil l p := by
  have he := ceil_edge hp
  rcases Nat.eq_or_lt_of_le h2 with e | e
  · rw [← e, h] at he; cases he
  · omega

end Go.Proofs.YtpfjfgggacpdfaaDoor
