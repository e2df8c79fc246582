/- The document's answer for layer 2: Of, At, Before, Floor, Ceil. -/
import Derived.Test.YtdklfodccdmmlaaDoorRf2C
namespace Go.Proofs.YtdklfodccdmmlaaDoor
open Go.ChangeShapes Go.WideShapes Go.ChangeAt Go.RowKit

set_option maxHeartbeats 400000 in
theorem Of_bad (a0 : Option Addr) (cap p : Nat) (l : List Int) (w : World) (hB : IsB w a0 cap l) (hp : p < l.length) (hlg : lng (l.drop p) = 0) :
    Calls Tryd.prog 39 #[.slice a0 l.length cap, .int .i64 p] w fun e w' => e = .returned (stepV 65533 1 false) ∧ Below w.heap.size w w' := by
  have hBn := hB.below ((Below.refl _ w).alloc (Nat.le_refl _) (.cells #[.int .i32 0, .int .i64 0, .bool false] 64)) (Nat.le_refl _)
  have HL := hide hlg
  clear hlg
  go_enter Tryd.func39, Tryd.ntmps39
  go_wp2_with (go_at_call 21; refine (Long_at _ cap p l _ hBn (by omega)).mono ?_; rw [unhide HL]; rintro e w' ⟨rfl, rfl⟩)
  exact bodyPost_ret (v := stepV 65533 1 false) (by simp [results, Tryd.results39, go_sem, stepV]) rfl ⟨rfl, (Below.refl _ _).alloc (Nat.le_refl _) _⟩

theorem RfOf_at (a0 : Option Addr) (cap p : Nat) (l : List Int) (w : World) (hB : IsB w a0 cap l) (hp : p < l.length) :
    Calls Tryd.prog 39 #[.slice a0 l.length cap, .int .i64 p] w fun e w' => e = .returned (stp (l.drop p)) ∧ Below w.heap.size w w' := by
  cases hlg : lng (l.drop p) with
  | zero => rw [stp_bad hlg]; exact Of_bad a0 cap p l w hB hp hlg
  | succ n =>
    obtain ⟨a, r, hd, hn, hw, hnr⟩ := lng_parts hlg
    rw [stp_whole hd hn hw]
    obtain ⟨g, off, rfl, hL, hg⟩ := hB.2.2.1.lies (by omega)
    exact Of_whole g off cap p n l a r w hB hL hg hp hd hn hw hnr hlg

theorem flr_last {l : List Int} {p q : Nat} (h1 : flr l p ≤ q) (h2 : q ≤ p) (h : inside l q = false) : q = flr l p := by
  cases hi : inside l p with
  | false => rw [flr_eq hi] at h1 ⊢; omega
  | true =>
    obtain ⟨a, b⟩ := flr_over hi
    rcases Nat.eq_or_lt_of_le h1 with e | e
    · exact e.symm
    · have := (inside_iff l q).2 ⟨flr l p, e, by omega⟩
      rw [h] at this; cases this
theorem flr_more {l : List Int} {p q : Nat} (h1 : flr l p ≤ q) (h : inside l q = true) : flr l p ≤ q - 1 ∧ 1 ≤ q := by
  have he := flr_edge l p
  rcases Nat.eq_or_lt_of_le h1 with e | e
  · rw [e, h] at he; cases he
  · omega
theorem ceil_ge (l : List Int) (p : Nat) : p ≤ ceil l p := by
  unfold ceil
  split
  · rename_i h; have := flr_wid h; omega
  · exact Nat.le_refl _
theorem ceil_le {l : List Int} {p : Nat} (hp : p ≤ l.length) : ceil l p ≤ l.length := by
  unfold ceil
  split
  · rename_i h; have := flr_wid h; exact wid_len (by omega)
  · exact hp
theorem ceil_edge {l : List Int} {p : Nat} (hp : p ≤ l.length) : inside l (ceil l p) = false := by
  unfold ceil
  cases h : inside l p with
  | false => simpa using h
  | true => have := flr_wid h; simp only [if_true]; exact edge_next (flr_edge l p) (by omega)
theorem ceil_last {l : List Int} {p q : Nat} (hp : p ≤ l.length) (h1 : p ≤ q) (h2 : q ≤ ceil l p) (h : inside l q = false) : q = ceil l p := by
  unfold ceil at h2 ⊢
  cases hi : inside l p with
  | false => rw [hi] at h2; simp at h2 ⊢; omega
  | true =>
    rw [hi] at h2
    simp only [if_true] at h2 ⊢
    obtain ⟨a, b⟩ := flr_wid hi
    rcases Nat.eq_or_lt_of_le h2 with e | e
    · exact e
    · have := edge_between (l := l) (p := flr l p) (k := q - flr l p) (by omega) (by omega) (by omega)
      rw [show flr l p + (q - flr l p) = q by omega, h] at this; cases this
theorem ceil_more {l : List Int} {p q : Nat} (hp : p ≤ l.length) (h2 : q ≤ ceil l p) (h : inside l q = true) : q + 1 ≤ ceil l p := by
  have he := ceil_edge hp
  rcases Nat.eq_or_lt_of_le h2 with e | e
  · rw [← e, h] at he; cases he
  · omega

end Go.Proofs.YtdklfodccdmmlaaDoor
