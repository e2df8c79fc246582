/- Layer 6: contracts of rule's by, isRuler, isMode, Size, beside, find, To, Edge. -/
import Derived.Test.YtophdhpkinedgaaGreatDoorSs09

namespace Go.Proofs.YtophdhpkinedgaaGreatDoor
open Go.ChangeShapes Go.WideShapes Go.ChangeAt Go.RowKit
attribute [local go_sem] Oper.semAt_some

theorem by_at (e : Ed) (r : Int) (w : World) :
    Calls Tryz.prog 46 #[edV e, .int .i64 r] w fun y w' => y = .returned (.int .i64 (byE r e : Int)) ∧ Below w.heap.size w w' := by
  unfold edV
  by_cases h1 : r = 1
  · subst h1
    go_enter Tryz.func46, Tryz.ntmps46
    go_wp2
    go_ret
    exact ⟨rfl, (Below.refl _ w).alloc (Nat.le_refl _) _⟩
  · by_cases h2 : r = 2
    · subst h2
      go_enter Tryz.func46, Tryz.ntmps46
      go_wp2
      go_ret
      exact ⟨rfl, (Below.refl _ w).alloc (Nat.le_refl _) _⟩
    · have e1 : (r == 1) = false := by simpa using h1
      have e2 : (r == 2) = false := by simpa using h2
      have HB : Hid (byE r e = e.2.2) := hide (by rw [byE, if_neg h1, if_neg h2])
      clear h1 h2
      go_enter Tryz.func46, Tryz.ntmps46
      go_wp2
      go_ret
      exact ⟨ret_int (by rw [unhide HB]), (Below.refl _ w).alloc (Nat.le_refl _) _⟩
def isRu (r : Int) : Bool := decide (1 ≤ r ∧ r ≤ 3)
theorem isRuler_at (r : Int) (w : World) : Calls Tryz.prog 43 #[.int .i64 r] w fun y w' => y = .returned (.bool (isRu r)) ∧ w' = w := by
  go_enter Tryz.func43, Tryz.ntmps43
  go_wp2
  all_goals go_ret
  all_goals refine ⟨ret_bool ?_, rfl⟩
  all_goals (unfold isRu; rw [Bool.eq_iff_iff]; simp; omega)
theorem isMode_at (r : Int) (w : World) : Calls Tryz.prog 44 #[.int .i64 r] w fun y w' => y = .returned (.bool (isRu r)) ∧ w' = w := by
  go_enter Tryz.func44, Tryz.ntmps44
  go_wp2
  all_goals go_ret
  all_goals refine ⟨ret_bool ?_, rfl⟩
  all_goals (unfold isRu; rw [Bool.eq_iff_iff]; simp; omega)

theorem edges_seq (w w2 : World) (a0 : Option Addr) (cap : Nat) (l : List Int) (hB : IsB w a0 cap l) (hT : Tab w) (hb : Below w.heap.size w w2) :
    SeqB Tryz.prog 86 #[.pointer (some ⟨w2.heap.size, 0, none⟩)] (fun e => #[edV e]) (fun k => k < w.heap.size ∨ k = w2.heap.size) (EE l) (w2.alloc (.cells #[.slice a0 l.length cap] 30)) := by
  have hb2 := hb.alloc (o := .cells #[.slice a0 l.length cap] 30) hb.size
  refine edges1_B w2.heap.size _ a0 cap l _ ((World.cell?_alloc_mark w2 _ _ (0, 0) 0).trans rfl) (hB.below hb2 (Nat.le_refl _)) (hT.below hb2 hT.size) (Or.inl hT.size) (Or.inr rfl) ?_
  rintro g off hl rfl
  rcases hB.2.2.1 with h | ⟨g', off', e, hL⟩
  · exact absurd h hl
  · cases e
    exact Or.inl (cell_lt (hL 0 (List.length_pos_iff.2 hl)).1)

def lastBy (r : Int) (pre : List Ed) : Nat := match pre.getLast? with | some e => byE r e | none => 0
/-- what Size's loop keeps -/
structure RzI (w : World) (n : Nat) (r : Int) (pre : List Ed) (X : World) : Prop where
  hr : Cls X n 25 #[.int .i64 r]
  s : Cls X (n + 1) 3 #[.int .i64 (lastBy r pre : Int)]
  b : Below n w X
theorem RzI.abd {w : World} {n N : Nat} {r : Int} (hN : n + 2 ≤ N) : Abd N (RzI w n r) := fun _ _ _ h hb => ⟨h.hr.below hb (by omega), h.s.below hb (by omega), h.b.trans (hb.mono (by omega))⟩

end Go.Proofs.YtophdhpkinedgaaGreatDoor
