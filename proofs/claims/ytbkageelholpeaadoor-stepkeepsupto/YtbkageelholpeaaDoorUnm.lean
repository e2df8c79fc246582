/- Layer 3: []uint16 in memory; units are appended to one's own; contracts of appendRune and To. -/
import Derived.Test.YtbkageelholpeaaDoorUni
import Derived.Test.YtbkageelholpeaaDoorRun
import Derived.Test.YtbkageelholpeaaDoorOwnR
import Derived.Laws.MakeOwn
import Derived.Deep.AppendLies
namespace Go.Proofs.YtbkageelholpeaaDoor
open Go.ChangeShapes Go.WideShapes Go.ChangeAt Go.RowKit

/-- the units l lie in block g from off on -/
def LiesU (w : World) (g off : Nat) (l : List Int) : Prop := ∀ i, i < l.length → w.cell? ⟨g, off + i, none⟩ = some (.int .u16 (l.getD i 0)) ∧ 0 ≤ l.getD i 0 ∧ l.getD i 0 ≤ 65535
/-- a []uint16 that came in: its units, its room -/
def IsU (w : World) (a0 : Option Addr) (cap : Nat) (l : List Int) : Prop := l.length ≤ cap ∧ (l = [] ∨ ∃ g off, a0 = some ⟨g, off, none⟩ ∧ LiesU w g off l) ∧ ∀ x ∈ l, 0 ≤ x ∧ x ≤ 65535
theorem LiesU.drewN {w : World} {g off : Nat} {l : List Int} (h : LiesU w g off l) (n : Nat) : LiesU (w.drewN n) g off l := h
theorem LiesU.below {w w' : World} {B g off : Nat} {l : List Int} (h : LiesU w g off l) (hb : Below B w w') (hB : g < B) : LiesU w' g off l :=
  fun i hi => ⟨(hb.cell (p := ⟨g, off + i, none⟩) hB).trans (h i hi).1, (h i hi).2⟩
theorem LiesU.lt {w : World} {g off : Nat} {l : List Int} (h : LiesU w g off l) (hl : 0 < l.length) : g < w.heap.size := by
  have := (h 0 hl).1
  rcases Nat.lt_or_ge g w.heap.size with h' | h'
  · exact h'
  · simp [World.cell?, Array.getElem?_eq_none h'] at this
theorem LiesU.drop {w : World} {g off : Nat} {l : List Int} (h : LiesU w g off l) (k : Nat) : LiesU w g (off + k) (l.drop k) := by
  intro i hi
  have := h (k + i) (by simp at hi; omega)
  rw [← Nat.add_assoc] at this
  simpa [List.getD, List.getElem?_drop] using this
theorem IsU.below {w w' : World} {B : Nat} {a0 : Option Addr} {cap : Nat} {l : List Int} (h : IsU w a0 cap l) (hb : Below B w w') (hB : w.heap.size ≤ B) : IsU w' a0 cap l := by
  obtain ⟨h1, h3, h4⟩ := h
  refine ⟨h1, ?_, h4⟩
  rcases h3 with h3 | ⟨g, off, rfl, hL⟩
  · exact Or.inl h3
  · rcases Nat.eq_zero_or_pos l.length with h0 | h0
    · exact Or.inl (List.length_eq_zero_iff.1 h0)
    · exact Or.inr ⟨g, off, rfl, hL.below hb (Nat.lt_of_lt_of_le (hL.lt h0) hB)⟩
theorem IsU.drewN {w : World} {a0 : Option Addr} {cap : Nat} {l : List Int} (h : IsU w a0 cap l) (n : Nat) : IsU (w.drewN n) a0 cap l := h
theorem info_i32 : ∃ i, Tryd.prog.info? 21 = some i ∧ i.zero = some (.int .i32 0) ∧ i.size = 1 ∧ i.bytes = 4 := by
  refine ⟨_, rfl, ?_, ?_, ?_⟩ <;> rfl

theorem make_i32 (w : World) (c : Nat) (hc : c ≤ 4194304) : ∃ w', (Instr.makeSlice 28 (.int .i64 0) (.int .i64 (c : Int))).run Tryd.prog w = .ok (.slice (some ⟨w.heap.size, 0, none⟩) 0 c) w' ∧ w'.ownsRow w.heap.size 21 1 (.slice (some ⟨w.heap.size, 0, none⟩) 0 c) 0 [] ∧ Below w.heap.size w w' := by
  obtain ⟨i, hi, hz, hs, hby⟩ := info_i32
  obtain ⟨w', h1, h2, h3⟩ := run_make_own (P := Tryd.prog) w w.heap.size 28 21 i (.int .i32 0) 1 Tryd.underlying28 hi hz hs .i64 .i64 c (by rw [hby]; omega) (by unfold maxLen; omega) (Nat.le_refl _)
  exact ⟨w', h1, h2, (Below.refl _ w).grown h3 (Nat.le_refl _) (fun k e => by cases e)⟩
theorem make_u8 (w : World) (c : Nat) (hc : c ≤ 4194304) : ∃ w', (Instr.makeSlice 22 (.int .i64 0) (.int .i64 (c : Int))).run Tryd.prog w = .ok (.slice (some ⟨w.heap.size, 0, none⟩) 0 c) w' ∧ Own w' w.heap.size (.slice (some ⟨w.heap.size, 0, none⟩) 0 c) [] ∧ Below w.heap.size w w' := by
  obtain ⟨i, hi, hz, hs, hby⟩ := info_u8
  obtain ⟨w', h1, h2, h3⟩ := run_make_own (P := Tryd.prog) w w.heap.size 22 5 i (.int .u8 0) 1 Tryd.underlying22 hi hz hs .i64 .i64 c (by rw [hby]; omega) (by unfold maxLen; omega) (Nat.le_refl _)
  exact ⟨w', h1, h2, (Below.refl _ w).grown h3 (Nat.le_refl _) (fun k e => by cases e)⟩

/-- the units of a rune -/
def uni (r : Int) : List Int := if two r then [hiU r, loU r] else [r]
theorem uni_len (r : Int) : (uni r).length ≤ 2 ∧ 1 ≤ (uni r).length := by unfold uni; split <;> simp
theorem uni_in {r : Int} (h : isRune r = true) : ∀ x ∈ uni r, 0 ≤ x ∧ x ≤ 65535 := by
  have h' : 0 ≤ r ∧ r < 55296 ∨ 57343 < r ∧ r ≤ 1114111 := of_decide_eq_true h
  intro x hx
  unfold uni at hx
  split at hx
  · rename_i h2
    have h3 : 65536 ≤ r ∧ r ≤ 1114111 := of_decide_eq_true h2
    simp only [List.mem_cons, List.not_mem_nil, or_false] at hx
    unfold hiU loU at hx
    omega
  · rename_i h2
    have h3 : ¬ (65536 ≤ r ∧ r ≤ 1114111) := fun h => h2 (decide_eq_true h)
    simp only [List.mem_cons, List.not_mem_nil, or_false] at hx
    omega

end Go.Proofs.YtbkageelholpeaaDoor
