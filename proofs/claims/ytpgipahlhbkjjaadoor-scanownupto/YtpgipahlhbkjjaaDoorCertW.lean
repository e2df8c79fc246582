/- The walk of ScanCertain. -/
import Derived.Test.YtpgipahlhbkjjaaDoorSmi
namespace Go.Proofs.YtpgipahlhbkjjaaDoor
open Go.ChangeShapes Go.WideShapes Go.ChangeAt Go.RowKit

theorem Own.blk {w : World} {B : Nat} {l : List Int} {a : Option Addr} {n cap : Nat} (h : Own w B (.slice a n cap) l) : ∀ x, a = some x → B ≤ x.block ∧ x.block < w.heap.size := by
  intro x hx
  subst hx
  rcases h.2 with ⟨e, _⟩ | ⟨g, c, cur, e, hB, hg, _⟩
  · cases e
  · cases e
    exact ⟨hB, (Array.getElem?_eq_some_iff.1 hg).1⟩
/-- a copy of bytes, new -/
theorem copy_new (w : World) (a0 : Option Addr) (cap : Nat) (l : List Int) (hB : IsB w a0 cap l) :
    ∃ a' cap' w', (Builtin.append_ #[26, 26] 26 #[.slice (some ⟨w.heap.size, 0, none⟩) 0 0, .slice a0 l.length cap]).run Tryd.prog (w.alloc (.cells #[] 5)) = .ok (.slice a' l.length cap') w' ∧
      IsB w' a' cap' l ∧ (∀ x, a' = some x → w.heap.size ≤ x.block ∧ x.block < w'.heap.size) ∧ Below w.heap.size w w' := by
  obtain ⟨v, w', r, o, x⟩ := run_copy_own w a0 cap l 26 hB
  obtain ⟨a, c, rfl, hi⟩ := o.isB hB.2.2.2 hB.2.1
  exact ⟨a, c, w', r, hi, o.blk, x⟩

theorem fit_lo {h : List Int} (hp : prop h = true) : (mightV h).2.2 = true ∧ (mightV h).1 ≤ (mightV h).2.1 ∧ isTail (mightV h).1 = true ∧ isTail (mightV h).2.1 = true ∧ fits h (mightV h).1 = true := by
  rcases prop_cases hp with ⟨a, rfl, hn⟩ | ⟨a, b, rfl, hn, hs⟩ | ⟨a, b, d, rfl, hn, hs, ht⟩
  · have h1 := loA_in a
    have h2 := hiA_in a
    have h3 := lo_hi a
    refine ⟨rfl, h3, decide_eq_true ⟨h1.1, by show loA a < 192; omega⟩, decide_eq_true ⟨by show 128 ≤ hiA a; omega, by show hiA a < 192; omega⟩, ?_⟩
    show sec a (loA a) = true
    rw [sec_range hn]
    exact decide_eq_true ⟨Int.le_refl _, h3⟩
  · exact ⟨rfl, show (128 : Int) ≤ 191 by decide, show isTail 128 = true by decide, show isTail 191 = true by decide, show isTail 128 = true by decide⟩
  · exact ⟨rfl, show (128 : Int) ≤ 191 by decide, show isTail 128 = true by decide, show isTail 191 = true by decide, show isTail 128 = true by decide⟩
theorem fits_65 {h : List Int} (hp : prop h = true) : scanS h [65] = (List.replicate h.length badT ++ [(65, 1, true)], []) := by
  have hf : fits h 65 = false := Bool.eq_false_iff.2 fun hf => by
    have := fits_tail hf
    revert this; decide
  rw [scanS_broken hp hf]
  have : scanS [] [65] = ([(65, 1, true)], []) := by decide
  rw [this]
/-- one byte more that may stand there -/
theorem scan_lo {h : List Int} {x : Int} (hp : prop h = true) (hf : fits h x = true) :
    (need (h.getD 0 0) = (h.length : Int) + 1 ∧ scanS h [x] = ([(value (h ++ [x]), h.length + 1, true)], [])) ∨ (prop (h ++ [x]) = true ∧ scanS h [x] = ([], h ++ [x])) := by
  have hne : h ≠ [] := fun e => by subst e; cases hp
  by_cases hn : need (h.getD 0 0) = (h.length : Int) + 1
  · have e : stepS h x = ([(value (h ++ [x]), h.length + 1, true)], []) := by rw [stepS, if_neg hne, if_pos hf, if_pos hn]
    exact Or.inl ⟨hn, by simp [scanS, e]⟩
  · have e : stepS h x = ([], h ++ [x]) := by rw [stepS, if_neg hne, if_pos hf, if_neg hn]
    exact Or.inr ⟨(fit_prop hp hf hn).1, by simp [scanS, e]⟩

end Go.Proofs.YtpgipahlhbkjjaaDoor
