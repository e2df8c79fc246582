/- Contracts of allTails, Whole and Value of the program over a []byte that lies in memory: each answers by the plain functions and leaves the world as it was. · Contracts of leadBits and Value of the program over a []byte that lies in memory: each answers by the plain functions; Value only draws. · Contracts of isRune, tailOf and Bytes of the program: Bytes answers the plain encoding, in new memory. · awake answers true wherever the table holds the classes, and changes nothing that was there. -/
import Derived.Test.YtophdhpkinedgaaGreatDoorSb00
import Derived.Deep.QuietTactic
import Derived.BigQuiet
import Derived.Lib.SlBytesConst
import Derived.Laws.BytesArg

section
namespace Go.Proofs.YtophdhpkinedgaaGreatDoor
open Go.ChangeShapes Go.WideShapes Go.ChangeAt Go.RowKit

/-- the bytes l lie in block g from off on -/
def Lies (w : World) (g off : Nat) (l : List Int) : Prop := ∀ i, i < l.length → w.cell? ⟨g, off + i, none⟩ = some (.int .u8 (l.getD i 0)) ∧ 0 ≤ l.getD i 0 ∧ l.getD i 0 ≤ 255

theorem all_upto {l : List Int} (h : ∀ j, j < l.length → isTail (l.getD j 0) = true) : l.all isTail = true := by
  rw [List.all_eq_true]
  intro x hx
  obtain ⟨i, hi, rfl⟩ := List.getElem_of_mem hx
  have := h i hi
  simpa [List.getD, List.getElem?_eq_getElem hi] using this
theorem all_not {l : List Int} {k : Nat} (hk : k < l.length) (h : isTail (l.getD k 0) = false) : l.all isTail = false := by
  rw [List.all_eq_false]
  refine ⟨l[k], List.getElem_mem hk, ?_⟩
  simpa [List.getD, List.getElem?_eq_getElem hk] using h
theorem isTail_cls (b : Int) : isTail b = !(cls b != 2) := by
  have := cls_tail b
  unfold isTail
  rw [Bool.eq_iff_iff]
  simp [← this]

set_option maxHeartbeats 400000 in
theorem allTails_some (g off cap : Nat) (l : List Int) (w : World) (hm : l.length ≤ maxLen) (hL : Lies w g off l) (hT : Tab w) :
    Calls Tryz.prog 136 #[.slice (some ⟨g, off, none⟩) l.length cap] w fun e w' => e = .returned (.bool (l.all isTail)) ∧ w' = w := by
  unfold maxLen at hm
  generalize hn : l.length = n at *
  have Hn := hide hn
  clear hn
  go_enter Tryz.func136, Tryz.ntmps136
  go_wp2
  go_loop [7] (fun i => ∃ k : Nat, k ≤ n ∧ i = .int .i64 k ∧ ∀ j, j < k → isTail (l.getD j 0) = true) (fun i => n - (intOf i).toNat)
  case atStart => exact ⟨0, Nat.zero_le _, rfl, fun j hj => absurd hj (Nat.not_lt_zero _)⟩
  case round =>
    obtain ⟨k, hk, rfl, hall⟩ := hrel
    have Hall := hide hall
    clear hall
    by_cases hlt : k < n
    · obtain ⟨hc, x0, x1⟩ := hL k (by rw [unhide Hn]; exact hlt)
      generalize hx : l.getD k 0 = x at hc x0 x1
      have Hx := hide hx
      clear hx
      go_wp2_with (go_at_call 134; refine (Class_any _ _ x0 x1 hT).mono ?_; rintro e w' ⟨rfl, rfl⟩)
      · go_ret
        exact ⟨ret_bool (all_not (k := k) (by rw [unhide Hn]; exact hlt) (by rw [unhide Hx, isTail_cls]; simp [*])).symm, rfl⟩
      · refine ⟨⟨k + 1, by omega, by go_num, fun j hj => ?_⟩, by simp [intOf]; omega⟩
        by_cases hjk : j < k
        · exact unhide Hall j hjk
        · obtain rfl : j = k := by omega
          rw [unhide Hx, isTail_cls]; simp [*]
    · go_wp2
      go_ret
      exact ⟨ret_bool (all_upto (fun j hj => unhide Hall j (by have := unhide Hn; omega))).symm, rfl⟩

set_option maxHeartbeats 400000 in
theorem allTails_none (a0 : Option Addr) (cap : Nat) (w : World) :
    Calls Tryz.prog 136 #[.slice a0 0 cap] w fun e w' => e = .returned (.bool true) ∧ w' = w := by
  go_enter Tryz.func136, Tryz.ntmps136
  go_wp2
  go_loop [7] (fun i => i = .int .i64 0) (fun _ => 0)
  case atStart => rfl
  case round =>
    subst hrel
    go_wp2
    go_ret
    exact ⟨rfl, rfl⟩

theorem Tab.drewN {w : World} (h : Tab w) (n : Nat) : Tab (w.drewN n) := h
theorem Lies.drewN {w : World} {g off : Nat} {l : List Int} (h : Lies w g off l) (n : Nat) : Lies (w.drewN n) g off l := h
theorem Lies.tail {w : World} {g off : Nat} {a : Int} {l : List Int} (h : Lies w g off (a :: l)) : Lies w g (off + 1) l := by
  intro i hi
  have := h (i + 1) (by simp; omega)
  simpa [Nat.add_assoc, Nat.add_comm 1 i] using this
theorem Lies.head {w : World} {g off : Nat} {a : Int} {l : List Int} (h : Lies w g off (a :: l)) : w.cell? ⟨g, off, none⟩ = some (.int .u8 a) ∧ 0 ≤ a ∧ a ≤ 255 := by
  have := h 0 (by simp)
  simpa using this

theorem Whole_none (a0 : Option Addr) (cap : Nat) (w : World) :
    Calls Tryz.prog 115 #[.slice a0 0 cap] w fun e w' => e = .returned (.bool false) ∧ w' = w := by
  go_enter Tryz.func115, Tryz.ntmps115
  go_wp2
  go_ret
  exact ⟨rfl, rfl⟩

set_option maxHeartbeats 400000 in
theorem Whole_len (g off cap : Nat) (a : Int) (r : List Int) (w : World) (hm : r.length + 1 ≤ maxLen) (hL : Lies w g off (a :: r)) (hT : Tab w) (h : ¬ (r.length : Int) + 1 = need a) :
    Calls Tryz.prog 115 #[.slice (some ⟨g, off, none⟩) (r.length + 1) cap] w fun e w' => e = .returned (.bool false) ∧ w' = w := by
  unfold maxLen at hm
  obtain ⟨hc, x0, x1⟩ := hL.head
  have hne : ((r.length : Int) + 1 != need a) = true := by rw [bne_iff_ne]; exact h
  go_enter Tryz.func115, Tryz.ntmps115
  go_wp2_with (go_at_call 114; refine (Need_any _ _ x0 x1 hT).mono ?_; rintro e w' ⟨rfl, rfl⟩)
  go_ret
  exact ⟨rfl, rfl⟩

set_option maxHeartbeats 400000 in
theorem Whole_one (g off cap : Nat) (a : Int) (w : World) (hL : Lies w g off [a]) (hT : Tab w) (h : need a = 1) :
    Calls Tryz.prog 115 #[.slice (some ⟨g, off, none⟩) 1 cap] w fun e w' => e = .returned (.bool true) ∧ w' = w := by
  obtain ⟨hc, x0, x1⟩ := hL.head
  go_enter Tryz.func115, Tryz.ntmps115
  go_wp2_with (go_at_call 114; refine (Need_any _ _ x0 x1 hT).mono ?_; rintro e w' ⟨rfl, rfl⟩)
  go_ret
  exact ⟨rfl, rfl⟩

/-- a []byte at a0 whose bytes are l (where there are none, a0 is whatever it is) -/
def Bs (w : World) (a0 : Option Addr) (l : List Int) : Prop := l = [] ∨ ∃ g off, a0 = some ⟨g, off, none⟩ ∧ Lies w g off l
/-- a []byte that came in: its bytes, its room -/
def IsB (w : World) (a0 : Option Addr) (cap : Nat) (l : List Int) : Prop := l.length ≤ cap ∧ l.length ≤ 140737488351232 ∧ Bs w a0 l ∧ ∀ x ∈ l, 0 ≤ x ∧ x ≤ 255
theorem Bs.drewN {w : World} {a0 : Option Addr} {l : List Int} (h : Bs w a0 l) (n : Nat) : Bs (w.drewN n) a0 l := h
theorem Bs.from2 {w : World} {g off cap : Nat} {a b : Int} {t : List Int} (hcap : t.length + 2 ≤ cap) (h : Lies w g off (a :: b :: t)) :
    Bs w (if cap = 2 then some ⟨g, off, none⟩ else some ⟨g, off + 2, none⟩) t := by
  by_cases hc : cap = 2
  · exact Or.inl (List.length_eq_zero_iff.1 (by omega))
  · rw [if_neg hc]; exact Or.inr ⟨g, off + 2, rfl, h.tail.tail⟩
theorem Bs.from1 {w : World} {g off cap : Nat} {a : Int} {t : List Int} (hcap : t.length + 1 ≤ cap) (h : Lies w g off (a :: t)) :
    Bs w (if cap = 1 then some ⟨g, off, none⟩ else some ⟨g, off + 1, none⟩) t := by
  by_cases hc : cap = 1
  · exact Or.inl (List.length_eq_zero_iff.1 (by omega))
  · rw [if_neg hc]; exact Or.inr ⟨g, off + 1, rfl, h.tail⟩
theorem allTails_at (a0 : Option Addr) (cap : Nat) (l : List Int) (w : World) (hm : l.length ≤ maxLen) (hB : Bs w a0 l) (hT : Tab w) :
    Calls Tryz.prog 136 #[.slice a0 l.length cap] w fun e w' => e = .returned (.bool (l.all isTail)) ∧ w' = w := by
  rcases hB with rfl | ⟨g, off, rfl, hL⟩
  · exact allTails_none a0 cap w
  · exact allTails_some g off cap l w hm hL hT

theorem Second_at (l b : Int) {v : Bool} (w : World) (hl0 : 0 ≤ l) (hl1 : l ≤ 255) (h0 : 0 ≤ b) (h1 : b ≤ 255) (hT : Tab w) (h : sec l b = v) :
    Calls Tryz.prog 135 #[.int .u8 l, .int .u8 b] w fun e w' => e = .returned (.bool v) ∧ w' = w := by
  subst h
  exact Second_any l b w hl0 hl1 h0 h1 hT

set_option maxHeartbeats 400000 in
theorem Whole_sec (g off cap : Nat) (a b : Int) (t : List Int) (w : World) (hm : t.length + 2 ≤ maxLen) (hcap : t.length + 2 ≤ cap) (hL : Lies w g off (a :: b :: t)) (hT : Tab w) (h : (t.length : Int) + 2 = need a) :
    Calls Tryz.prog 115 #[.slice (some ⟨g, off, none⟩) (t.length + 2) cap] w fun e w' => e = .returned (.bool (sec a b && t.all isTail)) ∧ ∃ n, w' = w.drewN n := by
  unfold maxLen at hm
  obtain ⟨hc, x0, x1⟩ := hL.head
  obtain ⟨hd, y0, y1⟩ := hL.tail.head
  have hB2 := Bs.from2 hcap hL
  have hm2 : t.length ≤ maxLen := by unfold maxLen; omega
  clear hL
  have hne : ((t.length : Int) + 2 != need a) = false := by rw [bne_eq_false_iff_eq]; exact h
  clear h
  have i1 : (1 : Int) < (t.length : Int) + 2 := by omega
  go_enter Tryz.func115, Tryz.ntmps115
  cases hs : sec a b
  · go_wp2_with (go_at_call 114; refine (Need_any _ _ x0 x1 hT).mono ?_; rintro e w' ⟨rfl, rfl⟩)
    go_quiet ((go_at_call 135; exact Calls.quiet_of_same (Second_at _ _ _ x0 x1 y0 y1 (Tab.drewN hT _) hs)))
    go_wp2
    go_ret
    exact ⟨rfl, _, rfl⟩
  · go_wp2_with (go_at_call 114; refine (Need_any _ _ x0 x1 hT).mono ?_; rintro e w' ⟨rfl, rfl⟩)
    go_quiet (first
      | (go_at_call 135; exact Calls.quiet_of_same (Second_at _ _ _ x0 x1 y0 y1 (Tab.drewN hT _) hs))
      | (go_at_call 136; exact Calls.quiet_of_same (allTails_at _ _ _ _ hm2 (Bs.drewN hB2 _) (Tab.drewN hT _))))
    go_wp2
    all_goals go_ret
    all_goals exact ⟨rfl, _, rfl⟩

theorem Whole_at (a0 : Option Addr) (cap : Nat) (l : List Int) (w : World) (hm : l.length ≤ maxLen) (hcap : l.length ≤ cap) (hB : Bs w a0 l) (hT : Tab w) :
    Calls Tryz.prog 115 #[.slice a0 l.length cap] w fun e w' => e = .returned (.bool (whole l)) ∧ ∃ n, w' = w.drewN n := by
  match l with
  | [] => exact (Whole_none a0 cap w).mono fun e w' ⟨h1, h2⟩ => ⟨h1, 0, h2⟩
  | a :: r =>
    rcases hB with h | ⟨g, off, rfl, hL⟩
    · cases h
    by_cases h : (r.length : Int) + 1 = need a
    · match r with
      | [] => 
        have h1 : need a = 1 := by simpa using h.symm
        rw [whole_one h1]
        exact (Whole_one g off cap a w hL hT h1).mono fun e w' ⟨h1, h2⟩ => ⟨h1, 0, h2⟩
      | b :: t =>
        have h2 : (t.length : Int) + 2 = need a := by simp only [List.length_cons] at h; omega
        rw [whole_more h2]
        exact Whole_sec g off cap a b t w hm hcap hL hT h2
    · rw [whole_len h]
      exact (Whole_len g off cap a r w hm hL hT h).mono fun e w' ⟨h1, h2⟩ => ⟨h1, 0, h2⟩

end Go.Proofs.YtophdhpkinedgaaGreatDoor
end

section
namespace Go.Proofs.YtophdhpkinedgaaGreatDoor
open Go.ChangeShapes Go.WideShapes Go.ChangeAt Go.RowKit

theorem lead_ways {a v : Int} (h : (need a == 2) = true ∧ v = a % 32 ∨ (need a == 2) = false ∧ ((need a == 3) = true ∧ v = a % 16 ∨ (need a == 3) = false ∧ ((need a == 4) = true ∧ v = a % 8 ∨ (need a == 4) = false ∧ v = a))) : v = lead a := by
  simp only [beq_iff_eq, beq_eq_false_iff_ne] at h
  rcases h with ⟨h, rfl⟩ | ⟨h2, ⟨h, rfl⟩ | ⟨h3, ⟨h, rfl⟩ | ⟨h4, rfl⟩⟩⟩
  · exact (lead_2 h).symm
  · exact (lead_3 h).symm
  · exact (lead_4 h).symm
  · exact (lead_1 h2 h3 h4).symm

theorem leadBits_any (a : Int) (w : World) (h0 : 0 ≤ a) (h1 : a ≤ 255) (hT : Tab w) :
    Calls Tryz.prog 137 #[.int .u8 a] w fun e w' => e = .returned (.int .i32 (lead a)) ∧ w' = w := by
  go_enter Tryz.func137, Tryz.ntmps137
  go_wp2_with (go_at_call 114; refine (Need_any _ _ h0 h1 hT).mono ?_; rintro e w' ⟨rfl, rfl⟩)
  all_goals go_ret
  all_goals refine ⟨ret_int (lead_ways ?_), rfl⟩
  all_goals simp [*]

theorem whole_need {a : Int} {r : List Int} (h : whole (a :: r) = true) : (r.length : Int) + 1 = need a := by
  by_cases hn : (r.length : Int) + 1 = need a
  · exact hn
  · rw [whole_len hn] at h; cases h

set_option maxHeartbeats 400000 in
theorem Value_no (a0 : Option Addr) (cap : Nat) (l : List Int) (w : World) (hm : l.length ≤ maxLen) (hcap : l.length ≤ cap) (hB : Bs w a0 l) (hT : Tab w) (h : whole l = false) :
    Calls Tryz.prog 117 #[.slice a0 l.length cap] w fun e w' => e = .returned (.int .i32 (-1)) ∧ ∃ n, w' = w.drewN n := by
  have hw := Whole_at a0 cap l w hm hcap hB hT
  rw [h] at hw
  have HW := hide hw
  clear hw h hB
  unfold maxLen at hm
  generalize l.length = n at *
  go_enter Tryz.func117, Tryz.ntmps117
  go_wp2_with (go_at_call 115; refine (unhide HW).mono ?_; rintro e w' ⟨rfl, n, rfl⟩)
  go_ret
  exact ⟨rfl, _, rfl⟩

set_option maxHeartbeats 400000 in
theorem Value_one (g off cap : Nat) (a : Int) (w : World) (hcap : 1 ≤ cap) (hL : Lies w g off [a]) (hT : Tab w) (h : whole [a] = true) :
    Calls Tryz.prog 117 #[.slice (some ⟨g, off, none⟩) 1 cap] w fun e w' => e = .returned (.int .i32 (lead a)) ∧ ∃ n, w' = w.drewN n := by
  have hw := Whole_at (some ⟨g, off, none⟩) cap [a] w (by simp [maxLen]) hcap (Or.inr ⟨g, off, rfl, hL⟩) hT
  rw [h] at hw
  have HW := hide hw
  clear hw h
  obtain ⟨hc, x0, x1⟩ := hL.head
  go_enter Tryz.func117, Tryz.ntmps117
  go_wp2_with (first
    | (go_at_call 115; refine (unhide HW).mono ?_; rintro e w' ⟨rfl, n, rfl⟩)
    | (go_at_call 137; refine (leadBits_any _ _ x0 x1 (Tab.drewN hT _)).mono ?_; rintro e w' ⟨rfl, rfl⟩))
  all_goals
    go_loop [3, 16] (fun v i => v = .int .i32 (lead a) ∧ i = .int .i64 0) (fun _ _ => 0)
    case atStart => exact ⟨rfl, rfl⟩
    case round =>
      obtain ⟨rfl, rfl⟩ := hrel
      go_wp2
      go_ret
      exact ⟨rfl, _, rfl⟩

set_option maxHeartbeats 400000 in
theorem Value_more (g off cap : Nat) (a : Int) (r : List Int) (w : World) (hm : r.length + 1 ≤ maxLen) (hcap : r.length + 1 ≤ cap) (hr : 0 < r.length) (hL : Lies w g off (a :: r)) (hT : Tab w) (h : whole (a :: r) = true) :
    Calls Tryz.prog 117 #[.slice (some ⟨g, off, none⟩) (r.length + 1) cap] w fun e w' => e = .returned (.int .i32 (fold (lead a) r)) ∧ ∃ n, w' = w.drewN n := by
  have hw := Whole_at (some ⟨g, off, none⟩) cap (a :: r) w hm hcap (Or.inr ⟨g, off, rfl, hL⟩) hT
  rw [h] at hw
  have HW := hide hw
  have hn := whole_need h
  have HN := hide hn
  clear hw h hn
  obtain ⟨hc, x0, x1⟩ := hL.head
  have hL1 := hL.tail
  have hc1 : ¬ cap = 1 := by omega
  unfold maxLen at hm
  simp only [List.length_cons] at HW
  generalize hlen : r.length = m at *
  have Hlen := hide hlen
  clear hlen
  go_enter Tryz.func117, Tryz.ntmps117
  go_wp2_with (first
    | (go_at_call 115; refine (unhide HW).mono ?_; rintro e w' ⟨rfl, n, rfl⟩)
    | (go_at_call 137; refine (leadBits_any _ _ x0 x1 (Tab.drewN hT _)).mono ?_; rintro e w' ⟨rfl, rfl⟩))
  go_loop [3, 16] (fun v i => ∃ k : Nat, k ≤ m ∧ i = .int .i64 k ∧ v = .int .i32 (fold (lead a) (r.take k))) (fun _ i => m - (intOf i).toNat)
  case atStart => exact ⟨0, Nat.zero_le _, rfl, rfl⟩
  case round =>
    obtain ⟨k, hk, rfl, rfl⟩ := hrel
    by_cases hlt : k < m
    · obtain ⟨hc, y0, y1⟩ := hL1 k (by rw [unhide Hlen]; exact hlt)
      have hft := fold_take (lead a) r k (by rw [unhide Hlen]; exact hlt)
      obtain ⟨b0, b1⟩ := fold_small (a := a) (r := r) (by rw [unhide Hlen]; exact unhide HN) k (by rw [unhide Hlen]; exact hlt)
      have HFT := hide hft
      clear hft
      generalize hv : fold (lead a) (r.take k) = v at b0 b1 ⊢
      have HV := hide hv
      clear hv
      generalize hy : r.getD k 0 = y at hc y0 y1
      have HY := hide hy
      clear hy
      go_wp2
      exact ⟨⟨k + 1, by omega, by go_num, by rw [unhide HFT, unhide HV, unhide HY]⟩, by simp [intOf]; omega⟩
    · go_wp2
      go_ret
      exact ⟨ret_int (by rw [List.take_of_length_le (by rw [unhide Hlen]; omega)]), _, rfl⟩

theorem value_no {l : List Int} (h : whole l = false) : value l = -1 := by
  cases l with
  | nil => rfl
  | cons a r => simp [value, h]
theorem value_yes {a : Int} {r : List Int} (h : whole (a :: r) = true) : value (a :: r) = fold (lead a) r := by simp [value, h]

theorem Value_at (a0 : Option Addr) (cap : Nat) (l : List Int) (w : World) (hm : l.length ≤ maxLen) (hcap : l.length ≤ cap) (hB : Bs w a0 l) (hT : Tab w) :
    Calls Tryz.prog 117 #[.slice a0 l.length cap] w fun e w' => e = .returned (.int .i32 (value l)) ∧ ∃ n, w' = w.drewN n := by
  cases h : whole l with
  | false => rw [value_no h]; exact Value_no a0 cap l w hm hcap hB hT h
  | true =>
    match l with
    | [] => cases h
    | [a] =>
      rcases hB with hn | ⟨g, off, rfl, hL⟩
      · cases hn
      rw [value_yes h]
      exact Value_one g off cap a w hcap hL hT h
    | a :: b :: t =>
      rcases hB with hn | ⟨g, off, rfl, hL⟩
      · cases hn
      rw [value_yes h]
      exact Value_more g off cap a (b :: t) w hm hcap (by simp) hL hT h

end Go.Proofs.YtophdhpkinedgaaGreatDoor
end

section
namespace Go.Proofs.YtophdhpkinedgaaGreatDoor
open Go.ChangeShapes Go.WideShapes Go.ChangeAt Go.RowKit

/-- a new []byte that holds these bytes, and the world with it -/
def madeW (w : World) (l : List Int) : World := w.alloc (.cells (l.map (Value.int .u8)).toArray 5)
end Go.Proofs.YtophdhpkinedgaaGreatDoor
end

section
namespace Go.Proofs.YtophdhpkinedgaaGreatDoor
open Go.ChangeShapes Go.WideShapes Go.ChangeAt Go.RowKit

theorem Tab.size {w : World} (h : Tab w) : 0 < w.heap.size := by
  have := h 0 (by omega) (by omega)
  rcases Nat.lt_or_ge 0 w.heap.size with e | e
  · exact e
  · simp [World.cell?, Array.getElem?_eq_none e] at this
theorem Tab.below {w w' : World} {B : Nat} (h : Tab w) (hb : Below B w w') (hB : 0 < B) : Tab w' := fun b h0 h1 => (hb.cell (p := ⟨0, b.toNat, none⟩) hB).trans (h b h0 h1)
theorem Tab.alloc {w : World} (h : Tab w) (o : Obj) : Tab (w.alloc o) := h.below ((Below.refl w.heap.size w).alloc (Nat.le_refl _) o) h.size
theorem Tab.drew {w : World} (h : Tab w) : Tab w.drew := h
theorem Lies.below {w w' : World} {B g off : Nat} {l : List Int} (h : Lies w g off l) (hb : Below B w w') (hB : g < B) : Lies w' g off l :=
  fun i hi => ⟨(hb.cell (p := ⟨g, off + i, none⟩) hB).trans (h i hi).1, (h i hi).2⟩
theorem Below.drewN {B : Nat} {a w : World} (h : Below B a w) (n : Nat) : Below B a (w.drewN n) := ⟨h.os, h.tape, h.output, h.size, h.block⟩
theorem Below.made {B : Nat} {a w : World} (h : Below B a w) (hB : B ≤ w.heap.size) (l : List Int) : Below B a (madeW w l) := h.alloc hB _

theorem lies_new (w : World) (l : List Int) (m : Nat × Nat) (hl : ∀ x ∈ l, 0 ≤ x ∧ x ≤ 255) : Lies (w.alloc (.cells (l.map (Value.int .u8)).toArray 5 m)) w.heap.size 0 l := by
  intro i hi
  refine ⟨?_, ?_⟩
  · rw [Nat.zero_add, World.cell?_alloc_mark]
    simp [List.getElem?_eq_getElem hi, List.getD]
  · have := hl _ (List.getElem_mem hi)
    simpa [List.getD, List.getElem?_eq_getElem hi] using this
theorem quiet_below {w w' : World} (h : ∃ n, w' = w.drewN n) (B : Nat) : Below B w w' := by
  obtain ⟨n, rfl⟩ := h
  exact Below.drewN (Below.refl B w) n
end Go.Proofs.YtophdhpkinedgaaGreatDoor
end
