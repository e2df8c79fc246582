/- Contracts of leadBits and Value of the program over a []byte that lies in memory: each answers by the plain functions; Value only draws. · Contracts of isRune, tailOf and Bytes of the program: Bytes answers the plain encoding, in new memory. · awake answers true wherever the table holds the classes, and changes nothing that was there. -/
import Derived.Test.YtkdnanlgkedjgabDoorDn02
import Derived.Lib.SlBytesConst
import Derived.Laws.BytesArg

section
namespace Go.Proofs.YtkdnanlgkedjgabDoor
open Go.ChangeShapes Go.WideShapes Go.ChangeAt Go.RowKit

theorem lead_ways {a v : Int} (h : (need a == 2) = true ∧ v = a % 32 ∨ (need a == 2) = false ∧ ((need a == 3) = true ∧ v = a % 16 ∨ (need a == 3) = false ∧ ((need a == 4) = true ∧ v = a % 8 ∨ (need a == 4) = false ∧ v = a))) : v = lead a := by
  simp only [beq_iff_eq, beq_eq_false_iff_ne] at h
  rcases h with ⟨h, rfl⟩ | ⟨h2, ⟨h, rfl⟩ | ⟨h3, ⟨h, rfl⟩ | ⟨h4, rfl⟩⟩⟩
  · exact (lead_2 h).symm
  · exact (lead_3 h).symm
  · exact (lead_4 h).symm
  · exact (lead_1 h2 h3 h4).symm

theorem leadBits_any (a : Int) (w : World) (h0 : 0 ≤ a) (h1 : a ≤ 255) (hT : Tab w) :
    Calls Tryd.prog 82 #[.int .u8 a] w fun e w' => e = .returned (.int .i32 (lead a)) ∧ w' = w := by
  go_enter Tryd.func82, Tryd.ntmps82
  go_wp2_with (go_at_call 71; refine (Need_any _ _ h0 h1 hT).mono ?_; rintro e w' ⟨rfl, rfl⟩)
  all_goals go_ret
  all_goals refine ⟨ret_int (lead_ways ?_), rfl⟩
  all_goals simp [*]

theorem whole_need {a : Int} {r : List Int} (h : whole (a :: r) = true) : (r.length : Int) + 1 = need a := by
  by_cases hn : (r.length : Int) + 1 = need a
  · exact hn
  · rw [whole_len hn] at h; cases h

set_option maxHeartbeats 400000 in
theorem Value_no (a0 : Option Addr) (cap : Nat) (l : List Int) (w : World) (hm : l.length ≤ maxLen) (hcap : l.length ≤ cap) (hB : Bs w a0 l) (hT : Tab w) (h : whole l = false) :
    Calls Tryd.prog 74 #[.slice a0 l.length cap] w fun e w' => e = .returned (.int .i32 (-1)) ∧ ∃ n, w' = w.drewN n := by
  have hw := Whole_at a0 cap l w hm hcap hB hT
  rw [h] at hw
  have HW := hide hw
  clear hw h hB
  unfold maxLen at hm
  generalize l.length = n at *
  go_enter Tryd.func74, Tryd.ntmps74
  go_wp2_with (go_at_call 72; refine (unhide HW).mono ?_; rintro e w' ⟨rfl, n, rfl⟩)
  go_ret
  exact ⟨rfl, _, rfl⟩

set_option maxHeartbeats 400000 in
theorem Value_one (g off cap : Nat) (a : Int) (w : World) (hcap : 1 ≤ cap) (hL : Lies w g off [a]) (hT : Tab w) (h : whole [a] = true) :
    Calls Tryd.prog 74 #[.slice (some ⟨g, off, none⟩) 1 cap] w fun e w' => e = .returned (.int .i32 (lead a)) ∧ ∃ n, w' = w.drewN n := by
  have hw := Whole_at (some ⟨g, off, none⟩) cap [a] w (by simp [maxLen]) hcap (Or.inr ⟨g, off, rfl, hL⟩) hT
  rw [h] at hw
  have HW := hide hw
  clear hw h
  obtain ⟨hc, x0, x1⟩ := hL.head
  go_enter Tryd.func74, Tryd.ntmps74
  go_wp2_with (first
    | (go_at_call 72; refine (unhide HW).mono ?_; rintro e w' ⟨rfl, n, rfl⟩)
    | (go_at_call 82; refine (leadBits_any _ _ x0 x1 (Tab.drewN hT _)).mono ?_; rintro e w' ⟨rfl, rfl⟩))
  all_goals
    go_loop [3, 16] (fun v i => v = .int .i32 (lead a) ∧ i = .int .i64 0) (fun _ _ => 0)
    case atStart => exact ⟨rfl, rfl⟩
    case round =>
      obtain ⟨rfl, rfl⟩ := hrel
      go_wp2
      go_ret
      exact ⟨rfl, _, rfl⟩

set_option maxHeartbeats 400000 in
theorem Value_more (g off cap : Nat) (a : Int) (r : List Int) (w : World) (hm : r.length + 1 ≤ maxLen) (hcap : r.length + 1 ≤ cap) (hr : 0 < r.length) (hL : Lies w g off (a :: r)) (hT : Tab w) (h : whole (a :: r) = true) :
    Calls Tryd.prog 74 #[.slice (some ⟨g, off, none⟩) (r.length + 1) cap] w fun e w' => e = .returned (.int .i32 (fold (lead a) r)) ∧ ∃ n, w' = w.drewN n := by
  have hw := Whole_at (some ⟨g, off, none⟩) cap (a :: r) w hm hcap (Or.inr ⟨g, off, rfl, hL⟩) hT
  rw [h] at hw
  have HW := hide hw
  have hn := whole_need h
  have HN := hide hn
  clear hw h hn
  obtain ⟨hc, x0, x1⟩ := hL.head
  have hL1 := hL.tail
  have hc1 : ¬ cap = 1 := by omega
  unfold maxLen at hm
  simp only [List.length_cons] at HW
  generalize hlen : r.length = m at *
  have Hlen := hide hlen
  clear hlen
  go_enter Tryd.func74, Tryd.ntmps74
  go_wp2_with (first
    | (go_at_call 72; refine (unhide HW).mono ?_; rintro e w' ⟨rfl, n, rfl⟩)
    | (go_at_call 82; refine (leadBits_any _ _ x0 x1 (Tab.drewN hT _)).mono ?_; rintro e w' ⟨rfl, rfl⟩))
  go_loop [3, 16] (fun v i => ∃ k : Nat, k ≤ m ∧ i = .int .i64 k ∧ v = .int .i32 (fold (lead a) (r.take k))) (fun _ i => m - (intOf i).toNat)
  case atStart => exact ⟨0, Nat.zero_le _, rfl, rfl⟩
  case round =>
    obtain ⟨k, hk, rfl, rfl⟩ := hrel
    by_cases hlt : k < m
    · obtain ⟨hc, y0, y1⟩ := hL1 k (by rw [unhide Hlen]; exact hlt)
      have hft := fold_take (lead a) r k (by rw [unhide Hlen]; exact hlt)
      obtain ⟨b0, b1⟩ := fold_small (a := a) (r := r) (by rw [unhide Hlen]; exact unhide HN) k (by rw [unhide Hlen]; exact hlt)
      have HFT := hide hft
      clear hft
      generalize hv : fold (lead a) (r.take k) = v at b0 b1 ⊢
      have HV := hide hv
      clear hv
      generalize hy : r.getD k 0 = y at hc y0 y1
      have HY := hide hy
      clear hy
      go_wp2
      exact ⟨⟨k + 1, by omega, by go_num, by rw [unhide HFT, unhide HV, unhide HY]⟩, by simp [intOf]; omega⟩
    · go_wp2
      go_ret
      exact ⟨ret_int (by rw [List.take_of_length_le (by rw [unhide Hlen]; omega)]), _, rfl⟩

theorem value_no {l : List Int} (h : whole l = false) : value l = -1 := by
  cases l with
  | nil => rfl
  | cons a r => simp [value, h]
theorem value_yes {a : Int} {r : List Int} (h : whole (a :: r) = true) : value (a :: r) = fold (lead a) r := by simp [value, h]

theorem Value_at (a0 : Option Addr) (cap : Nat) (l : List Int) (w : World) (hm : l.length ≤ maxLen) (hcap : l.length ≤ cap) (hB : Bs w a0 l) (hT : Tab w) :
    Calls Tryd.prog 74 #[.slice a0 l.length cap] w fun e w' => e = .returned (.int .i32 (value l)) ∧ ∃ n, w' = w.drewN n := by
  cases h : whole l with
  | false => rw [value_no h]; exact Value_no a0 cap l w hm hcap hB hT h
  | true =>
    match l with
    | [] => cases h
    | [a] =>
      rcases hB with hn | ⟨g, off, rfl, hL⟩
      · cases hn
      rw [value_yes h]
      exact Value_one g off cap a w hcap hL hT h
    | a :: b :: t =>
      rcases hB with hn | ⟨g, off, rfl, hL⟩
      · cases hn
      rw [value_yes h]
      exact Value_more g off cap a (b :: t) w hm hcap (by simp) hL hT h

end Go.Proofs.YtkdnanlgkedjgabDoor
end

section
namespace Go.Proofs.YtkdnanlgkedjgabDoor
open Go.ChangeShapes Go.WideShapes Go.ChangeAt Go.RowKit

theorem i32_and63 {x : Int} (h₀ : 0 ≤ x) (h₁ : x < 2147483648) : bits .and .i32 x 63 = x % 64 := bits_mask .i32 31 (by decide) wraps_i32 6 (by decide) x h₀ h₁

/-- a new []byte that holds these bytes, and the world with it -/
def madeW (w : World) (l : List Int) : World := w.alloc (.cells (l.map (Value.int .u8)).toArray 5)
def madeV (w : World) (l : List Int) : Value := .slice (some ⟨w.heap.size, 0, none⟩) l.length l.length

end Go.Proofs.YtkdnanlgkedjgabDoor
end

section
namespace Go.Proofs.YtkdnanlgkedjgabDoor
open Go.ChangeShapes Go.WideShapes Go.ChangeAt Go.RowKit

theorem Tab.size {w : World} (h : Tab w) : 0 < w.heap.size := by
  have := h 0 (by omega) (by omega)
  rcases Nat.lt_or_ge 0 w.heap.size with e | e
  · exact e
  · simp [World.cell?, Array.getElem?_eq_none e] at this
theorem Tab.below {w w' : World} {B : Nat} (h : Tab w) (hb : Below B w w') (hB : 0 < B) : Tab w' := fun b h0 h1 => (hb.cell (p := ⟨0, b.toNat, none⟩) hB).trans (h b h0 h1)
theorem Tab.alloc {w : World} (h : Tab w) (o : Obj) : Tab (w.alloc o) := h.below ((Below.refl w.heap.size w).alloc (Nat.le_refl _) o) h.size
theorem Tab.drew {w : World} (h : Tab w) : Tab w.drew := h
theorem Lies.below {w w' : World} {B g off : Nat} {l : List Int} (h : Lies w g off l) (hb : Below B w w') (hB : g < B) : Lies w' g off l :=
  fun i hi => ⟨(hb.cell (p := ⟨g, off + i, none⟩) hB).trans (h i hi).1, (h i hi).2⟩
theorem Below.drewN {B : Nat} {a w : World} (h : Below B a w) (n : Nat) : Below B a (w.drewN n) := ⟨h.os, h.tape, h.output, h.size, h.block⟩
theorem Below.made {B : Nat} {a w : World} (h : Below B a w) (hB : B ≤ w.heap.size) (l : List Int) : Below B a (madeW w l) := h.alloc hB _

theorem lies_new (w : World) (l : List Int) (m : Nat × Nat) (hl : ∀ x ∈ l, 0 ≤ x ∧ x ≤ 255) : Lies (w.alloc (.cells (l.map (Value.int .u8)).toArray 5 m)) w.heap.size 0 l := by
  intro i hi
  refine ⟨?_, ?_⟩
  · rw [Nat.zero_add, World.cell?_alloc_mark]
    simp [List.getElem?_eq_getElem hi, List.getD]
  · have := hl _ (List.getElem_mem hi)
    simpa [List.getD, List.getElem?_eq_getElem hi] using this
theorem lies_made (w : World) (l : List Int) (hl : ∀ x ∈ l, 0 ≤ x ∧ x ≤ 255) : Lies (madeW w l) w.heap.size 0 l := lies_new w l (0, 0) hl

theorem str_made (w : World) (l : List Int) : ∀ w', Lies w' w.heap.size 0 l → (convert 22 9 (madeV w l)).run Tryd.prog w' = .ok (.string (strOfNums l)) w' := by
  intro w' h
  exact run_convert_bytes_arg w' 22 5 Tryd.underlying22 Tryd.underlying5 w.heap.size 0 l.length l.length l rfl (fun i hi => (h i hi).1) 9 Tryd.underlying9

theorem quiet_below {w w' : World} (h : ∃ n, w' = w.drewN n) (B : Nat) : Below B w w' := by
  obtain ⟨n, rfl⟩ := h
  exact Below.drewN (Below.refl B w) n
theorem Whole_lit (g : Nat) (w : World) (hL : Lies w g 0 [226, 130, 172]) (hT : Tab w) :
    Calls Tryd.prog 72 #[.slice (some ⟨g, 0, none⟩) 3 3] w fun e w' => e = .returned (.bool true) ∧ Below w.heap.size w w' :=
  (Whole_at (some ⟨g, 0, none⟩) 3 [226, 130, 172] w (by simp [maxLen]) (by simp) (Or.inr ⟨g, 0, rfl, hL⟩) hT).mono fun _ _ h => ⟨h.1, quiet_below h.2 _⟩
theorem Value_lit (g : Nat) (w : World) (hL : Lies w g 0 [226, 130, 172]) (hT : Tab w) :
    Calls Tryd.prog 74 #[.slice (some ⟨g, 0, none⟩) 3 3] w fun e w' => e = .returned (.int .i32 8364) ∧ Below w.heap.size w w' :=
  (Value_at (some ⟨g, 0, none⟩) 3 [226, 130, 172] w (by simp [maxLen]) (by simp) (Or.inr ⟨g, 0, rfl, hL⟩) hT).mono fun _ _ h => ⟨h.1, quiet_below h.2 _⟩
theorem lit_bytes : ∀ x ∈ ([226, 130, 172] : List Int), 0 ≤ x ∧ x ≤ 255 := by decide
theorem lit_str : strOfNums [226, 130, 172] = ⟨#[226, 130, 172]⟩ := by decide

end Go.Proofs.YtkdnanlgkedjgabDoor
end
