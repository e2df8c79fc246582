/- Contracts of step.bad, step.first, step.floor: the step with which bytes begin; the last edge at or ahead of a place. -/
import Derived.Test.YtpgipahlhbkjjaaDoorAwa
import Derived.Test.YtpgipahlhbkjjaaDoorEdg
namespace Go.Proofs.YtpgipahlhbkjjaaDoor
open Go.ChangeShapes Go.WideShapes Go.ChangeAt Go.RowKit

def stepV (r : Int) (n : Nat) (b : Bool) : Value := .agg #[.int .i32 r, .int .i64 n, .bool b]
def whl (l : List Int) : Bool := decide (lng l ≠ 0)
def stp (l : List Int) : Value := stepV (first l).1 (wid l) (whl l)

theorem Lies.take {w : World} {g off : Nat} {l : List Int} (h : Lies w g off l) (n : Nat) : Lies w g off (l.take n) := by
  intro i hi
  have h1 : i < l.length := by simp at hi; omega
  have h2 : i < n := by simp at hi; omega
  have e : (l.take n).getD i 0 = l.getD i 0 := by simp [List.getD, h2]
  rw [e]
  exact h i h1
theorem Lies.drop {w : World} {g off : Nat} {l : List Int} (h : Lies w g off l) (n : Nat) : Lies w g (off + n) (l.drop n) := by
  intro i hi
  have h1 : n + i < l.length := by simp at hi; omega
  have e : (l.drop n).getD i 0 = l.getD (n + i) 0 := by simp [List.getD]
  rw [e, Nat.add_assoc]
  exact h (n + i) h1
theorem WholeN (g off cap n : Nat) (l : List Int) {v : Bool} (w : World) (hn : n ≤ l.length) (hm : l.length ≤ maxLen) (hcap : l.length ≤ cap) (hL : Lies w g off l) (hT : Tab w) (hv : whole (l.take n) = v) :
    Calls Tryd.prog 37 #[.slice (some ⟨g, off, none⟩) n cap] w fun e w' => e = .returned (.bool v) ∧ Below w.heap.size w w' := by
  have := Whole_at (some ⟨g, off, none⟩) cap (l.take n) w (by simp; omega) (by simp; omega) (Or.inr ⟨g, off, rfl, hL.take n⟩) hT
  rw [List.length_take, Nat.min_eq_left hn, hv] at this
  exact this.mono fun e w' ⟨h1, h2⟩ => ⟨h1, quiet_below h2 _⟩
theorem ValueN (g off cap n : Nat) (l : List Int) {v : Int} (w : World) (hn : n ≤ l.length) (hm : l.length ≤ maxLen) (hcap : l.length ≤ cap) (hL : Lies w g off l) (hT : Tab w) (hv : value (l.take n) = v) :
    Calls Tryd.prog 34 #[.slice (some ⟨g, off, none⟩) n cap] w fun e w' => e = .returned (.int .i32 v) ∧ Below w.heap.size w w' := by
  have := Value_at (some ⟨g, off, none⟩) cap (l.take n) w (by simp; omega) (by simp; omega) (Or.inr ⟨g, off, rfl, hL.take n⟩) hT
  rw [List.length_take, Nat.min_eq_left hn, hv] at this
  exact this.mono fun e w' ⟨h1, h2⟩ => ⟨h1, quiet_below h2 _⟩

theorem need_nat (a : Int) : ∃ n : Nat, need a = n := ⟨(need a).toNat, by have := need_lo a; omega⟩
theorem Lies.size {w : World} {g off : Nat} {a : Int} {r : List Int} (hL : Lies w g off (a :: r)) : g < w.heap.size := by
  have hc := hL.head.1
  rcases Nat.lt_or_ge g w.heap.size with h | h
  · exact h
  · simp [World.cell?, Array.getElem?_eq_none h] at hc
theorem bcell {W w1 : World} (hb : Below W.heap.size W w1) : (∀ b o, b < W.heap.size → w1.cell? ⟨b, o, none⟩ = W.cell? ⟨b, o, none⟩) ∧ (∀ b o, b < W.heap.size → w1.frozen? ⟨b, o, none⟩ = W.frozen? ⟨b, o, none⟩) :=
  ⟨fun b o h => hb.cell (p := ⟨b, o, none⟩) h, fun b o h => hb.frozen (p := ⟨b, o, none⟩) h⟩

theorem stores3 {w W : World} {B : Nat} (hb : Below w.heap.size w W) (hB : w.heap.size ≤ B) (x y z : Value) :
    Below w.heap.size w (((W.setCell ⟨B, 0, none⟩ x).setCell ⟨B, 1, none⟩ y).setCell ⟨B, 2, none⟩ z) :=
  ((hb.setCell (p := ⟨B, 0, none⟩) hB _).setCell (p := ⟨B, 1, none⟩) hB _).setCell (p := ⟨B, 2, none⟩) hB _

theorem take_cut (a : Int) (r : List Int) {n : Nat} (hn : need a = n) (hw : whole ((a :: r).take n) = true) : n ≤ r.length + 1 := by
  cases n with
  | zero => omega
  | succ m =>
    rw [List.take_succ_cons] at hw
    have := whole_need hw
    simp only [List.length_take] at this
    omega

theorem fld0 (a b c : Value) (w : World) : (Instr.field 42 (.agg #[a, b, c]) 0).run Tryd.prog w = .ok a w := by kernel_rfl
theorem fld1 (a b c : Value) (w : World) : (Instr.field 42 (.agg #[a, b, c]) 1).run Tryd.prog w = .ok b w := by kernel_rfl
theorem fld2 (a b c : Value) (w : World) : (Instr.field 42 (.agg #[a, b, c]) 2).run Tryd.prog w = .ok c w := by kernel_rfl

/-- the last edge at or ahead of a place -/
def flr (l : List Int) (p : Nat) : Nat :=
  if 1 ≤ p ∧ 1 < lng (l.drop (p - 1)) then p - 1 else if 2 ≤ p ∧ 2 < lng (l.drop (p - 2)) then p - 2 else if 3 ≤ p ∧ 3 < lng (l.drop (p - 3)) then p - 3 else p
theorem flr_at {l : List Int} {p k : Nat} (h1 : 1 ≤ k) (hk : k ≤ p) (hl : k < lng (l.drop (p - k))) (hno : ∀ j, 1 ≤ j → j < k → ¬ j < lng (l.drop (p - j))) : flr l p = p - k := by
  have h4 := lng_le (l.drop (p - k))
  have : k = 1 ∨ k = 2 ∨ k = 3 := by omega
  unfold flr
  rcases this with rfl | rfl | rfl
  · rw [if_pos ⟨by omega, hl⟩]
  · rw [if_neg (fun h => hno 1 (by omega) (by omega) h.2), if_pos ⟨by omega, hl⟩]
  · rw [if_neg (fun h => hno 1 (by omega) (by omega) h.2), if_neg (fun h => hno 2 (by omega) (by omega) h.2), if_pos ⟨by omega, hl⟩]
theorem flr_no {l : List Int} {p : Nat} (hno : ∀ j, 1 ≤ j → j ≤ 3 → j ≤ p → ¬ j < lng (l.drop (p - j))) : flr l p = p := by
  unfold flr
  rw [if_neg (fun h => hno 1 (by omega) (by omega) h.1 h.2), if_neg (fun h => hno 2 (by omega) (by omega) h.1 h.2), if_neg (fun h => hno 3 (by omega) (by omega) h.1 h.2)]
theorem wid_gt {l : List Int} {k : Nat} (h : 1 ≤ k) : (k < wid l) = (k < lng l) := by
  cases l with
  | nil => simp [wid, first, lng]; omega
  | cons a r =>
    rw [wid_lng]
    split
    · rename_i e
      rw [e]
      simp; omega
    · rfl

theorem Bs.lies {w : World} {a0 : Option Addr} {l : List Int} (h : Bs w a0 l) (h0 : 0 < l.length) : ∃ g off, a0 = some ⟨g, off, none⟩ ∧ Lies w g off l ∧ g < w.heap.size := by
  rcases h with rfl | ⟨g, off, rfl, hL⟩
  · cases h0
  · cases l with
    | nil => cases h0
    | cons a r => exact ⟨g, off, rfl, hL, hL.size⟩

theorem IsB.of {w : World} {g off cap : Nat} {l : List Int} (h : Lies w g off l) (h1 : l.length ≤ cap) (h2 : l.length ≤ 140737488351232) : IsB w (some ⟨g, off, none⟩) cap l := by
  refine ⟨h1, h2, Or.inr ⟨g, off, rfl, h⟩, fun x hx => ?_⟩
  obtain ⟨i, hi, rfl⟩ := List.getElem_of_mem hx
  have := (h i hi).2
  simpa [List.getD, List.getElem?_eq_getElem hi] using this

end Go.Proofs.YtpgipahlhbkjjaaDoor
