/- Layer 7: lines.all: the iterator yields the lines in their order, with their numbers. -/
import Derived.Test.YtkdnanlgkedjgabDoorDn17
import Derived.Scope

namespace Go.Proofs.YtkdnanlgkedjgabDoor
open Go.ChangeShapes Go.WideShapes Go.ChangeAt Go.RowKit
attribute [local go_sem] Oper.semAt_some

def lnV (e : Ln) : Value := .agg #[.int .i64 (e.2.1 : Int), .int .i64 (e.2.2.1 : Int), .int .i64 (e.2.2.2 : Int)]
def encL (e : Ln) : Array Value := #[.int .i64 (e.1 : Int), lnV e]

theorem allL_at (a0 : Option Addr) (len cap : Nat) (w : World) :
    Calls Tryd.prog 69 #[.slice a0 len cap] w fun e w' => e = .returned (.func (.func 77) #[] #[.pointer (some ⟨w.heap.size, 0, none⟩)]) ∧ w' = w.alloc (.cells #[.slice a0 len cap] 22) := by
  go_enter Tryd.func69, Tryd.ntmps69
  go_wp2
  go_ret
  exact ⟨rfl, rfl⟩

theorem IsB.byteAt {w : World} {g off cap : Nat} {l : List Int} (h : IsB w (some ⟨g, off, none⟩) cap l) {i : Nat} (hi : i < l.length) : w.cell? ⟨g, off + i, none⟩ = some (.int .u8 (l.getD i 0)) := by
  rcases h.2.2.1 with h3 | ⟨g', off', e, hL⟩
  · rw [h3] at hi; simp at hi
  · cases e
    have := (hL i hi).1
    rw [this, List.getD_eq_getElem?_getD, List.getElem?_eq_getElem hi] <;> first | rfl | skip
theorem IsB.someB {w : World} {a0 : Option Addr} {cap : Nat} {l : List Int} (h : IsB w a0 cap l) (h0 : 0 < l.length) : ∃ g off, a0 = some ⟨g, off, none⟩ := by
  rcases h.2.2.1 with h3 | ⟨g', off', e, hL⟩
  · rw [h3] at h0; simp at h0
  · exact ⟨g', off', e⟩

theorem endWidth_at (a0 : Option Addr) (cap : Nat) (m : List Int) (w : World) (hB : IsB w a0 cap m) (h0 : 0 < m.length) :
    Calls Tryd.prog 78 #[.slice a0 m.length cap] w fun e w' => e = .returned (.int .i64 (edw m : Int)) ∧ w' = w := by
  obtain ⟨g, off, rfl⟩ := hB.someB h0
  have c0 := hB.byteAt (i := 0) h0
  rw [Nat.add_zero] at c0
  have hlen := hB.2.1
  by_cases h1 : 1 < m.length
  · have c1 := hB.byteAt (i := 1) h1
    have q1 : decide ((m.length : Int) > 1) = true := decide_eq_true (by omega)
    have q1' : decide ((1 : Int) < (m.length : Int)) = true := decide_eq_true (by omega)
    by_cases h2 : m.getD 0 0 = 13
    · have q2 : (m.getD 0 0 == 13) = true := by simpa using h2
      by_cases h3 : m.getD 1 0 = 10
      · have q3 : (m.getD 1 0 == 10) = true := by simpa using h3
        have HE : Hid (edw m = 2) := hide (by unfold edw; rw [if_pos ⟨h2, h3⟩])
        clear h2 h3
        generalize m.getD 0 0 = x0 at *
        generalize m.getD 1 0 = x1 at *
        go_enter Tryd.func78, Tryd.ntmps78
        go_wp2
        go_ret
        exact ⟨ret_int (by rw [unhide HE]; rfl), rfl⟩
      · have q3 : (m.getD 1 0 == 10) = false := by simpa using h3
        have HE : Hid (edw m = 1) := hide (by unfold edw; rw [if_neg (fun h => h3 h.2)])
        clear h2 h3
        generalize m.getD 0 0 = x0 at *
        generalize m.getD 1 0 = x1 at *
        go_enter Tryd.func78, Tryd.ntmps78
        go_wp2
        go_ret
        exact ⟨ret_int (by rw [unhide HE]; rfl), rfl⟩
    · have q2 : (m.getD 0 0 == 13) = false := by simpa using h2
      have HE : Hid (edw m = 1) := hide (by unfold edw; rw [if_neg (fun h => h2 h.1)])
      clear h2 c1
      generalize m.getD 0 0 = x0 at *
      go_enter Tryd.func78, Tryd.ntmps78
      go_wp2
      go_ret
      exact ⟨ret_int (by rw [unhide HE]; rfl), rfl⟩
  · have q1 : decide ((m.length : Int) > 1) = false := decide_eq_false (by omega)
    have q1' : decide ((1 : Int) < (m.length : Int)) = false := decide_eq_false (by omega)
    have HE : Hid (edw m = 1) := hide (by
      unfold edw
      rw [if_neg]
      rintro ⟨_, h⟩
      rw [List.getD_eq_getElem?_getD, List.getElem?_eq_none (by omega)] at h
      simp at h)
    clear h1 c0
    go_enter Tryd.func78, Tryd.ntmps78
    go_wp2
    go_ret
    exact ⟨ret_int (by rw [unhide HE]; rfl), rfl⟩

end Go.Proofs.YtkdnanlgkedjgabDoor
