/- Contracts of allTails, Whole and Value of the program over a []byte that lies in memory: each answers by the plain functions and leaves the world as it was. -/
import Derived.Test.YtkdnanlgkedjgabDoorDn01
import Derived.Deep.QuietTactic
import Derived.BigQuiet

namespace Go.Proofs.YtkdnanlgkedjgabDoor
open Go.ChangeShapes Go.WideShapes Go.ChangeAt Go.RowKit

/-- the bytes l lie in block g from off on -/
def Lies (w : World) (g off : Nat) (l : List Int) : Prop := ∀ i, i < l.length → w.cell? ⟨g, off + i, none⟩ = some (.int .u8 (l.getD i 0)) ∧ 0 ≤ l.getD i 0 ∧ l.getD i 0 ≤ 255

theorem all_upto {l : List Int} (h : ∀ j, j < l.length → isTail (l.getD j 0) = true) : l.all isTail = true := by
  rw [List.all_eq_true]
  intro x hx
  obtain ⟨i, hi, rfl⟩ := List.getElem_of_mem hx
  have := h i hi
  simpa [List.getD, List.getElem?_eq_getElem hi] using this
theorem all_not {l : List Int} {k : Nat} (hk : k < l.length) (h : isTail (l.getD k 0) = false) : l.all isTail = false := by
  rw [List.all_eq_false]
  refine ⟨l[k], List.getElem_mem hk, ?_⟩
  simpa [List.getD, List.getElem?_eq_getElem hk] using h
theorem isTail_cls (b : Int) : isTail b = !(cls b != 2) := by
  have := cls_tail b
  unfold isTail
  rw [Bool.eq_iff_iff]
  simp [← this]

set_option maxHeartbeats 400000 in
theorem allTails_some (g off cap : Nat) (l : List Int) (w : World) (hm : l.length ≤ maxLen) (hL : Lies w g off l) (hT : Tab w) :
    Calls Tryd.prog 81 #[.slice (some ⟨g, off, none⟩) l.length cap] w fun e w' => e = .returned (.bool (l.all isTail)) ∧ w' = w := by
  unfold maxLen at hm
  generalize hn : l.length = n at *
  have Hn := hide hn
  clear hn
  go_enter Tryd.func81, Tryd.ntmps81
  go_wp2
  go_loop [7] (fun i => ∃ k : Nat, k ≤ n ∧ i = .int .i64 k ∧ ∀ j, j < k → isTail (l.getD j 0) = true) (fun i => n - (intOf i).toNat)
  case atStart => exact ⟨0, Nat.zero_le _, rfl, fun j hj => absurd hj (Nat.not_lt_zero _)⟩
  case round =>
    obtain ⟨k, hk, rfl, hall⟩ := hrel
    have Hall := hide hall
    clear hall
    by_cases hlt : k < n
    · obtain ⟨hc, x0, x1⟩ := hL k (by rw [unhide Hn]; exact hlt)
      generalize hx : l.getD k 0 = x at hc x0 x1
      have Hx := hide hx
      clear hx
      go_wp2_with (go_at_call 79; refine (Class_any _ _ x0 x1 hT).mono ?_; rintro e w' ⟨rfl, rfl⟩)
      · go_ret
        exact ⟨ret_bool (all_not (k := k) (by rw [unhide Hn]; exact hlt) (by rw [unhide Hx, isTail_cls]; simp [*])).symm, rfl⟩
      · refine ⟨⟨k + 1, by omega, by go_num, fun j hj => ?_⟩, by simp [intOf]; omega⟩
        by_cases hjk : j < k
        · exact unhide Hall j hjk
        · obtain rfl : j = k := by omega
          rw [unhide Hx, isTail_cls]; simp [*]
    · go_wp2
      go_ret
      exact ⟨ret_bool (all_upto (fun j hj => unhide Hall j (by have := unhide Hn; omega))).symm, rfl⟩

set_option maxHeartbeats 400000 in
theorem allTails_none (a0 : Option Addr) (cap : Nat) (w : World) :
    Calls Tryd.prog 81 #[.slice a0 0 cap] w fun e w' => e = .returned (.bool true) ∧ w' = w := by
  go_enter Tryd.func81, Tryd.ntmps81
  go_wp2
  go_loop [7] (fun i => i = .int .i64 0) (fun _ => 0)
  case atStart => rfl
  case round =>
    subst hrel
    go_wp2
    go_ret
    exact ⟨rfl, rfl⟩

theorem Tab.drewN {w : World} (h : Tab w) (n : Nat) : Tab (w.drewN n) := h
theorem Lies.drewN {w : World} {g off : Nat} {l : List Int} (h : Lies w g off l) (n : Nat) : Lies (w.drewN n) g off l := h
theorem Lies.tail {w : World} {g off : Nat} {a : Int} {l : List Int} (h : Lies w g off (a :: l)) : Lies w g (off + 1) l := by
  intro i hi
  have := h (i + 1) (by simp; omega)
  simpa [Nat.add_assoc, Nat.add_comm 1 i] using this
theorem Lies.head {w : World} {g off : Nat} {a : Int} {l : List Int} (h : Lies w g off (a :: l)) : w.cell? ⟨g, off, none⟩ = some (.int .u8 a) ∧ 0 ≤ a ∧ a ≤ 255 := by
  have := h 0 (by simp)
  simpa using this

theorem Whole_none (a0 : Option Addr) (cap : Nat) (w : World) :
    Calls Tryd.prog 72 #[.slice a0 0 cap] w fun e w' => e = .returned (.bool false) ∧ w' = w := by
  go_enter Tryd.func72, Tryd.ntmps72
  go_wp2
  go_ret
  exact ⟨rfl, rfl⟩

set_option maxHeartbeats 400000 in
theorem Whole_len (g off cap : Nat) (a : Int) (r : List Int) (w : World) (hm : r.length + 1 ≤ maxLen) (hL : Lies w g off (a :: r)) (hT : Tab w) (h : ¬ (r.length : Int) + 1 = need a) :
    Calls Tryd.prog 72 #[.slice (some ⟨g, off, none⟩) (r.length + 1) cap] w fun e w' => e = .returned (.bool false) ∧ w' = w := by
  unfold maxLen at hm
  obtain ⟨hc, x0, x1⟩ := hL.head
  have hne : ((r.length : Int) + 1 != need a) = true := by rw [bne_iff_ne]; exact h
  go_enter Tryd.func72, Tryd.ntmps72
  go_wp2_with (go_at_call 71; refine (Need_any _ _ x0 x1 hT).mono ?_; rintro e w' ⟨rfl, rfl⟩)
  go_ret
  exact ⟨rfl, rfl⟩

set_option maxHeartbeats 400000 in
theorem Whole_one (g off cap : Nat) (a : Int) (w : World) (hL : Lies w g off [a]) (hT : Tab w) (h : need a = 1) :
    Calls Tryd.prog 72 #[.slice (some ⟨g, off, none⟩) 1 cap] w fun e w' => e = .returned (.bool true) ∧ w' = w := by
  obtain ⟨hc, x0, x1⟩ := hL.head
  go_enter Tryd.func72, Tryd.ntmps72
  go_wp2_with (go_at_call 71; refine (Need_any _ _ x0 x1 hT).mono ?_; rintro e w' ⟨rfl, rfl⟩)
  go_ret
  exact ⟨rfl, rfl⟩

/-- a []byte at a0 whose bytes are l (where there are none, a0 is whatever it is) -/
def Bs (w : World) (a0 : Option Addr) (l : List Int) : Prop := l = [] ∨ ∃ g off, a0 = some ⟨g, off, none⟩ ∧ Lies w g off l
/-- a []byte that came in: its bytes, its room -/
def IsB (w : World) (a0 : Option Addr) (cap : Nat) (l : List Int) : Prop := l.length ≤ cap ∧ l.length ≤ 140737488351232 ∧ Bs w a0 l ∧ ∀ x ∈ l, 0 ≤ x ∧ x ≤ 255
theorem Bs.drewN {w : World} {a0 : Option Addr} {l : List Int} (h : Bs w a0 l) (n : Nat) : Bs (w.drewN n) a0 l := h
theorem Bs.from2 {w : World} {g off cap : Nat} {a b : Int} {t : List Int} (hcap : t.length + 2 ≤ cap) (h : Lies w g off (a :: b :: t)) :
    Bs w (if cap = 2 then some ⟨g, off, none⟩ else some ⟨g, off + 2, none⟩) t := by
  by_cases hc : cap = 2
  · exact Or.inl (List.length_eq_zero_iff.1 (by omega))
  · rw [if_neg hc]; exact Or.inr ⟨g, off + 2, rfl, h.tail.tail⟩
theorem Bs.from1 {w : World} {g off cap : Nat} {a : Int} {t : List Int} (hcap : t.length + 1 ≤ cap) (h : Lies w g off (a :: t)) :
    Bs w (if cap = 1 then some ⟨g, off, none⟩ else some ⟨g, off + 1, none⟩) t := by
  by_cases hc : cap = 1
  · exact Or.inl (List.length_eq_zero_iff.1 (by omega))
  · rw [if_neg hc]; exact Or.inr ⟨g, off + 1, rfl, h.tail⟩
theorem allTails_at (a0 : Option Addr) (cap : Nat) (l : List Int) (w : World) (hm : l.length ≤ maxLen) (hB : Bs w a0 l) (hT : Tab w) :
    Calls Tryd.prog 81 #[.slice a0 l.length cap] w fun e w' => e = .returned (.bool (l.all isTail)) ∧ w' = w := by
  rcases hB with rfl | ⟨g, off, rfl, hL⟩
  · exact allTails_none a0 cap w
  · exact allTails_some g off cap l w hm hL hT

theorem Second_at (l b : Int) {v : Bool} (w : World) (hl0 : 0 ≤ l) (hl1 : l ≤ 255) (h0 : 0 ≤ b) (h1 : b ≤ 255) (hT : Tab w) (h : sec l b = v) :
    Calls Tryd.prog 80 #[.int .u8 l, .int .u8 b] w fun e w' => e = .returned (.bool v) ∧ w' = w := by
  subst h
  exact Second_any l b w hl0 hl1 h0 h1 hT

set_option maxHeartbeats 400000 in
theorem Whole_sec (g off cap : Nat) (a b : Int) (t : List Int) (w : World) (hm : t.length + 2 ≤ maxLen) (hcap : t.length + 2 ≤ cap) (hL : Lies w g off (a :: b :: t)) (hT : Tab w) (h : (t.length : Int) + 2 = need a) :
    Calls Tryd.prog 72 #[.slice (some ⟨g, off, none⟩) (t.length + 2) cap] w fun e w' => e = .returned (.bool (sec a b && t.all isTail)) ∧ ∃ n, w' = w.drewN n := by
  unfold maxLen at hm
  obtain ⟨hc, x0, x1⟩ := hL.head
  obtain ⟨hd, y0, y1⟩ := hL.tail.head
  have hB2 := Bs.from2 hcap hL
  have hm2 : t.length ≤ maxLen := by unfold maxLen; omega
  clear hL
  have hne : ((t.length : Int) + 2 != need a) = false := by rw [bne_eq_false_iff_eq]; exact h
  clear h
  have i1 : (1 : Int) < (t.length : Int) + 2 := by omega
  go_enter Tryd.func72, Tryd.ntmps72
  cases hs : sec a b
  · go_wp2_with (go_at_call 71; refine (Need_any _ _ x0 x1 hT).mono ?_; rintro e w' ⟨rfl, rfl⟩)
    go_quiet ((go_at_call 80; exact Calls.quiet_of_same (Second_at _ _ _ x0 x1 y0 y1 (Tab.drewN hT _) hs)))
    go_wp2
    go_ret
    exact ⟨rfl, _, rfl⟩
  · go_wp2_with (go_at_call 71; refine (Need_any _ _ x0 x1 hT).mono ?_; rintro e w' ⟨rfl, rfl⟩)
    go_quiet (first
      | (go_at_call 80; exact Calls.quiet_of_same (Second_at _ _ _ x0 x1 y0 y1 (Tab.drewN hT _) hs))
      | (go_at_call 81; exact Calls.quiet_of_same (allTails_at _ _ _ _ hm2 (Bs.drewN hB2 _) (Tab.drewN hT _))))
    go_wp2
    all_goals go_ret
    all_goals exact ⟨rfl, _, rfl⟩

theorem Whole_at (a0 : Option Addr) (cap : Nat) (l : List Int) (w : World) (hm : l.length ≤ maxLen) (hcap : l.length ≤ cap) (hB : Bs w a0 l) (hT : Tab w) :
    Calls Tryd.prog 72 #[.slice a0 l.length cap] w fun e w' => e = .returned (.bool (whole l)) ∧ ∃ n, w' = w.drewN n := by
  match l with
  | [] => exact (Whole_none a0 cap w).mono fun e w' ⟨h1, h2⟩ => ⟨h1, 0, h2⟩
  | a :: r =>
    rcases hB with h | ⟨g, off, rfl, hL⟩
    · cases h
    by_cases h : (r.length : Int) + 1 = need a
    · match r with
      | [] => 
        have h1 : need a = 1 := by simpa using h.symm
        rw [whole_one h1]
        exact (Whole_one g off cap a w hL hT h1).mono fun e w' ⟨h1, h2⟩ => ⟨h1, 0, h2⟩
      | b :: t =>
        have h2 : (t.length : Int) + 2 = need a := by simp only [List.length_cons] at h; omega
        rw [whole_more h2]
        exact Whole_sec g off cap a b t w hm hcap hL hT h2
    · rw [whole_len h]
      exact (Whole_len g off cap a r w hm hL hT h).mono fun e w' ⟨h1, h2⟩ => ⟨h1, 0, h2⟩

end Go.Proofs.YtkdnanlgkedjgabDoor
