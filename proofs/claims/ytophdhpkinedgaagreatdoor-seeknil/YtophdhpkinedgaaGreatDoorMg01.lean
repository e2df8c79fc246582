/- Contracts of leadBits and Value of the program over a []byte that lies in memory: each answers by the plain functions; Value only draws. · Contracts of isRune, tailOf and Bytes of the program: Bytes answers the plain encoding, in new memory. · awake answers true wherever the table holds the classes, and changes nothing that was there. · Plain facts about encodings: what an encoding is whole for, its value, its length, that no encoding stands within another, and that strings of bytes are alike just if the bytes are. -/
import Derived.Test.YtophdhpkinedgaaGreatDoorMg00
import Derived.Lib.SlBytesConst
import Derived.Laws.BytesArg
import Derived.Lib.Bytes

section
namespace Go.Proofs.YtophdhpkinedgaaGreatDoor
open Go.ChangeShapes Go.WideShapes Go.ChangeAt Go.RowKit

theorem lead_ways {a v : Int} (h : (need a == 2) = true ∧ v = a % 32 ∨ (need a == 2) = false ∧ ((need a == 3) = true ∧ v = a % 16 ∨ (need a == 3) = false ∧ ((need a == 4) = true ∧ v = a % 8 ∨ (need a == 4) = false ∧ v = a))) : v = lead a := by
  simp only [beq_iff_eq, beq_eq_false_iff_ne] at h
  rcases h with ⟨h, rfl⟩ | ⟨h2, ⟨h, rfl⟩ | ⟨h3, ⟨h, rfl⟩ | ⟨h4, rfl⟩⟩⟩
  · exact (lead_2 h).symm
  · exact (lead_3 h).symm
  · exact (lead_4 h).symm
  · exact (lead_1 h2 h3 h4).symm

theorem leadBits_any (a : Int) (w : World) (h0 : 0 ≤ a) (h1 : a ≤ 255) (hT : Tab w) :
    Calls Tryz.prog 137 #[.int .u8 a] w fun e w' => e = .returned (.int .i32 (lead a)) ∧ w' = w := by
  go_enter Tryz.func137, Tryz.ntmps137
  go_wp2_with (go_at_call 114; refine (Need_any _ _ h0 h1 hT).mono ?_; rintro e w' ⟨rfl, rfl⟩)
  all_goals go_ret
  all_goals refine ⟨ret_int (lead_ways ?_), rfl⟩
  all_goals simp [*]

theorem whole_need {a : Int} {r : List Int} (h : whole (a :: r) = true) : (r.length : Int) + 1 = need a := by
  by_cases hn : (r.length : Int) + 1 = need a
  · exact hn
  · rw [whole_len hn] at h; cases h

set_option maxHeartbeats 400000 in
theorem Value_no (a0 : Option Addr) (cap : Nat) (l : List Int) (w : World) (hm : l.length ≤ maxLen) (hcap : l.length ≤ cap) (hB : Bs w a0 l) (hT : Tab w) (h : whole l = false) :
    Calls Tryz.prog 117 #[.slice a0 l.length cap] w fun e w' => e = .returned (.int .i32 (-1)) ∧ ∃ n, w' = w.drewN n := by
  have hw := Whole_at a0 cap l w hm hcap hB hT
  rw [h] at hw
  have HW := hide hw
  clear hw h hB
  unfold maxLen at hm
  generalize l.length = n at *
  go_enter Tryz.func117, Tryz.ntmps117
  go_wp2_with (go_at_call 115; refine (unhide HW).mono ?_; rintro e w' ⟨rfl, n, rfl⟩)
  go_ret
  exact ⟨rfl, _, rfl⟩

set_option maxHeartbeats 400000 in
theorem Value_one (g off cap : Nat) (a : Int) (w : World) (hcap : 1 ≤ cap) (hL : Lies w g off [a]) (hT : Tab w) (h : whole [a] = true) :
    Calls Tryz.prog 117 #[.slice (some ⟨g, off, none⟩) 1 cap] w fun e w' => e = .returned (.int .i32 (lead a)) ∧ ∃ n, w' = w.drewN n := by
  have hw := Whole_at (some ⟨g, off, none⟩) cap [a] w (by simp [maxLen]) hcap (Or.inr ⟨g, off, rfl, hL⟩) hT
  rw [h] at hw
  have HW := hide hw
  clear hw h
  obtain ⟨hc, x0, x1⟩ := hL.head
  go_enter Tryz.func117, Tryz.ntmps117
  go_wp2_with (first
    | (go_at_call 115; refine (unhide HW).mono ?_; rintro e w' ⟨rfl, n, rfl⟩)
    | (go_at_call 137; refine (leadBits_any _ _ x0 x1 (Tab.drewN hT _)).mono ?_; rintro e w' ⟨rfl, rfl⟩))
  all_goals
    go_loop [3, 16] (fun v i => v = .int .i32 (lead a) ∧ i = .int .i64 0) (fun _ _ => 0)
    case atStart => exact ⟨rfl, rfl⟩
    case round =>
      obtain ⟨rfl, rfl⟩ := hrel
      go_wp2
      go_ret
      exact ⟨rfl, _, rfl⟩

set_option maxHeartbeats 400000 in
theorem Value_more (g off cap : Nat) (a : Int) (r : List Int) (w : World) (hm : r.length + 1 ≤ maxLen) (hcap : r.length + 1 ≤ cap) (hr : 0 < r.length) (hL : Lies w g off (a :: r)) (hT : Tab w) (h : whole (a :: r) = true) :
    Calls Tryz.prog 117 #[.slice (some ⟨g, off, none⟩) (r.length + 1) cap] w fun e w' => e = .returned (.int .i32 (fold (lead a) r)) ∧ ∃ n, w' = w.drewN n := by
  have hw := Whole_at (some ⟨g, off, none⟩) cap (a :: r) w hm hcap (Or.inr ⟨g, off, rfl, hL⟩) hT
  rw [h] at hw
  have HW := hide hw
  have hn := whole_need h
  have HN := hide hn
  clear hw h hn
  obtain ⟨hc, x0, x1⟩ := hL.head
  have hL1 := hL.tail
  have hc1 : ¬ cap = 1 := by omega
  unfold maxLen at hm
  simp only [List.length_cons] at HW
  generalize hlen : r.length = m at *
  have Hlen := hide hlen
  clear hlen
  go_enter Tryz.func117, Tryz.ntmps117
  go_wp2_with (first
    | (go_at_call 115; refine (unhide HW).mono ?_; rintro e w' ⟨rfl, n, rfl⟩)
    | (go_at_call 137; refine (leadBits_any _ _ x0 x1 (Tab.drewN hT _)).mono ?_; rintro e w' ⟨rfl, rfl⟩))
  go_loop [3, 16] (fun v i => ∃ k : Nat, k ≤ m ∧ i = .int .i64 k ∧ v = .int .i32 (fold (lead a) (r.take k))) (fun _ i => m - (intOf i).toNat)
  case atStart => exact ⟨0, Nat.zero_le _, rfl, rfl⟩
  case round =>
    obtain ⟨k, hk, rfl, rfl⟩ := hrel
    by_cases hlt : k < m
    · obtain ⟨hc, y0, y1⟩ := hL1 k (by rw [unhide Hlen]; exact hlt)
      have hft := fold_take (lead a) r k (by rw [unhide Hlen]; exact hlt)
      obtain ⟨b0, b1⟩ := fold_small (a := a) (r := r) (by rw [unhide Hlen]; exact unhide HN) k (by rw [unhide Hlen]; exact hlt)
      have HFT := hide hft
      clear hft
      generalize hv : fold (lead a) (r.take k) = v at b0 b1 ⊢
      have HV := hide hv
      clear hv
      generalize hy : r.getD k 0 = y at hc y0 y1
      have HY := hide hy
      clear hy
      go_wp2
      exact ⟨⟨k + 1, by omega, by go_num, by rw [unhide HFT, unhide HV, unhide HY]⟩, by simp [intOf]; omega⟩
    · go_wp2
      go_ret
      exact ⟨ret_int (by rw [List.take_of_length_le (by rw [unhide Hlen]; omega)]), _, rfl⟩

theorem value_no {l : List Int} (h : whole l = false) : value l = -1 := by
  cases l with
  | nil => rfl
  | cons a r => simp [value, h]
theorem value_yes {a : Int} {r : List Int} (h : whole (a :: r) = true) : value (a :: r) = fold (lead a) r := by simp [value, h]

theorem Value_at (a0 : Option Addr) (cap : Nat) (l : List Int) (w : World) (hm : l.length ≤ maxLen) (hcap : l.length ≤ cap) (hB : Bs w a0 l) (hT : Tab w) :
    Calls Tryz.prog 117 #[.slice a0 l.length cap] w fun e w' => e = .returned (.int .i32 (value l)) ∧ ∃ n, w' = w.drewN n := by
  cases h : whole l with
  | false => rw [value_no h]; exact Value_no a0 cap l w hm hcap hB hT h
  | true =>
    match l with
    | [] => cases h
    | [a] =>
      rcases hB with hn | ⟨g, off, rfl, hL⟩
      · cases hn
      rw [value_yes h]
      exact Value_one g off cap a w hcap hL hT h
    | a :: b :: t =>
      rcases hB with hn | ⟨g, off, rfl, hL⟩
      · cases hn
      rw [value_yes h]
      exact Value_more g off cap a (b :: t) w hm hcap (by simp) hL hT h

end Go.Proofs.YtophdhpkinedgaaGreatDoor
end

section
namespace Go.Proofs.YtophdhpkinedgaaGreatDoor
open Go.ChangeShapes Go.WideShapes Go.ChangeAt Go.RowKit

/-- a new []byte that holds these bytes, and the world with it -/
def madeW (w : World) (l : List Int) : World := w.alloc (.cells (l.map (Value.int .u8)).toArray 5)
end Go.Proofs.YtophdhpkinedgaaGreatDoor
end

section
namespace Go.Proofs.YtophdhpkinedgaaGreatDoor
open Go.ChangeShapes Go.WideShapes Go.ChangeAt Go.RowKit

theorem Tab.size {w : World} (h : Tab w) : 0 < w.heap.size := by
  have := h 0 (by omega) (by omega)
  rcases Nat.lt_or_ge 0 w.heap.size with e | e
  · exact e
  · simp [World.cell?, Array.getElem?_eq_none e] at this
theorem Tab.below {w w' : World} {B : Nat} (h : Tab w) (hb : Below B w w') (hB : 0 < B) : Tab w' := fun b h0 h1 => (hb.cell (p := ⟨0, b.toNat, none⟩) hB).trans (h b h0 h1)
theorem Tab.alloc {w : World} (h : Tab w) (o : Obj) : Tab (w.alloc o) := h.below ((Below.refl w.heap.size w).alloc (Nat.le_refl _) o) h.size
theorem Tab.drew {w : World} (h : Tab w) : Tab w.drew := h
theorem Lies.below {w w' : World} {B g off : Nat} {l : List Int} (h : Lies w g off l) (hb : Below B w w') (hB : g < B) : Lies w' g off l :=
  fun i hi => ⟨(hb.cell (p := ⟨g, off + i, none⟩) hB).trans (h i hi).1, (h i hi).2⟩
theorem Below.drewN {B : Nat} {a w : World} (h : Below B a w) (n : Nat) : Below B a (w.drewN n) := ⟨h.os, h.tape, h.output, h.size, h.block⟩
theorem Below.made {B : Nat} {a w : World} (h : Below B a w) (hB : B ≤ w.heap.size) (l : List Int) : Below B a (madeW w l) := h.alloc hB _

theorem lies_new (w : World) (l : List Int) (m : Nat × Nat) (hl : ∀ x ∈ l, 0 ≤ x ∧ x ≤ 255) : Lies (w.alloc (.cells (l.map (Value.int .u8)).toArray 5 m)) w.heap.size 0 l := by
  intro i hi
  refine ⟨?_, ?_⟩
  · rw [Nat.zero_add, World.cell?_alloc_mark]
    simp [List.getElem?_eq_getElem hi, List.getD]
  · have := hl _ (List.getElem_mem hi)
    simpa [List.getD, List.getElem?_eq_getElem hi] using this
theorem quiet_below {w w' : World} (h : ∃ n, w' = w.drewN n) (B : Nat) : Below B w w' := by
  obtain ⟨n, rfl⟩ := h
  exact Below.drewN (Below.refl B w) n
end Go.Proofs.YtophdhpkinedgaaGreatDoor
end

section
namespace Go.Proofs.YtophdhpkinedgaaGreatDoor

theorem enc_cases (r : Int) {p : List Int → Prop} (h1 : 0 ≤ r → r < 128 → p [r]) (h2 : 128 ≤ r → r < 2048 → p [192 + r / 64, 128 + r % 64])
    (h3 : 2048 ≤ r → r < 65536 → (r < 55296 ∨ 57343 < r) → p [224 + r / 4096, 128 + r / 64 % 64, 128 + r % 64])
    (h4 : 65536 ≤ r → r ≤ 1114111 → p [240 + r / 262144, 128 + r / 4096 % 64, 128 + r / 64 % 64, 128 + r % 64])
    (h5 : ¬ (0 ≤ r ∧ r < 55296 ∨ 57343 < r ∧ r ≤ 1114111) → p [239, 191, 189]) : p (enc r) := by
  by_cases hr : 0 ≤ r ∧ r < 55296 ∨ 57343 < r ∧ r ≤ 1114111
  · by_cases a1 : r < 128
    · rw [enc_1 (by omega) a1]; exact h1 (by omega) a1
    · by_cases a2 : r < 2048
      · rw [enc_2 (by omega) a2]; exact h2 (by omega) a2
      · by_cases a3 : r < 65536
        · rw [enc_3 (by omega) a3 (by omega)]; exact h3 (by omega) a3 (by omega)
        · rw [enc_4 (by omega) (by omega)]; exact h4 (by omega) (by omega)
  · rw [enc_bad hr]; exact h5 hr

theorem need_1' {a : Int} (h1 : a < 128) : need a = 1 := by unfold need; rw [if_pos h1]
theorem need_2' {a : Int} (h0 : 194 ≤ a) (h1 : a < 224) : need a = 2 := by unfold need; rw [if_neg (by omega), if_neg (by omega), if_pos h1]
theorem need_3' {a : Int} (h0 : 224 ≤ a) (h1 : a < 240) : need a = 3 := by unfold need; rw [if_neg (by omega), if_neg (by omega), if_neg (by omega), if_pos h1]
theorem need_4' {a : Int} (h0 : 240 ≤ a) (h1 : a < 245) : need a = 4 := by unfold need; rw [if_neg (by omega), if_neg (by omega), if_neg (by omega), if_neg (by omega), if_pos h1]
theorem sec_true {l b : Int} (h : 194 ≤ l ∧ l < 245 ∧ 128 ≤ b ∧ b < 192 ∧ (l = 224 → 160 ≤ b) ∧ (l = 237 → b ≤ 159) ∧ (l = 240 → 144 ≤ b) ∧ (l = 244 → b ≤ 143)) : sec l b = true := decide_eq_true h
theorem isTail_true {b : Int} (h : 128 ≤ b ∧ b < 192) : isTail b = true := decide_eq_true h
theorem isTail_false {b : Int} (h : ¬ (128 ≤ b ∧ b < 192)) : isTail b = false := decide_eq_false h

theorem whole_enc (r : Int) : whole (enc r) = true := by
  apply enc_cases r (p := fun l => whole l = true)
  · intro a b; exact whole_one (need_1' b)
  · intro a b
    rw [whole_more (by rw [need_2' (by omega) (by omega)]; rfl), sec_true (by omega)]; rfl
  · intro a b c
    rw [whole_more (by rw [need_3' (by omega) (by omega)]; rfl), sec_true (by omega)]
    simp only [List.all_cons, List.all_nil, isTail_true (b := 128 + r % 64) (by omega)]; rfl
  · intro a b
    rw [whole_more (by rw [need_4' (by omega) (by omega)]; rfl), sec_true (by omega)]
    simp only [List.all_cons, List.all_nil, isTail_true (b := 128 + r % 64) (by omega), isTail_true (b := 128 + r / 64 % 64) (by omega)]; rfl
  · intro a; rfl

theorem value_enc (r : Int) : value (enc r) = if isRune r then r else 65533 := by
  have hw := whole_enc r
  revert hw
  apply enc_cases r (p := fun l => whole l = true → value l = if isRune r then r else 65533)
  · intro a b hw
    rw [isRune_true (by omega), if_pos rfl]
    simp only [value, hw, if_true, fold]
    exact lead_1 (by rw [need_1' b]; omega) (by rw [need_1' b]; omega) (by rw [need_1' b]; omega)
  · intro a b hw
    rw [isRune_true (by omega), if_pos rfl]
    simp only [value, hw, if_true, fold]
    rw [lead_2 (need_2' (by omega) (by omega))]; omega
  · intro a b c hw
    rw [isRune_true (by omega), if_pos rfl]
    simp only [value, hw, if_true, fold]
    rw [lead_3 (need_3' (by omega) (by omega))]; omega
  · intro a b hw
    rw [isRune_true (by omega), if_pos rfl]
    simp only [value, hw, if_true, fold]
    rw [lead_4 (need_4' (by omega) (by omega))]; omega
  · intro a hw
    rw [isRune_false a, if_neg (by simp)]
    rfl

theorem bytes_inj {l m : List Int} (hl : ∀ x ∈ l, 0 ≤ x ∧ x ≤ 255) (hm : ∀ x ∈ m, 0 ≤ x ∧ x ≤ 255) (h1 : Lib.bytesOf l = Lib.bytesOf m) : l = m := by
  unfold Lib.bytesOf at h1
  induction l generalizing m with
  | nil => cases m with
    | nil => rfl
    | cons y m => simp at h1
  | cons x l ih => cases m with
    | nil => simp at h1
    | cons y m =>
      simp only [List.map_cons, List.cons.injEq] at h1
      have hx := hl x (by simp)
      have hy := hm y (by simp)
      have e : x = y := by
        have := congrArg UInt8.toNat h1.1
        simp at this
        omega
      rw [e, ih (fun z hz => hl z (by simp [hz])) (fun z hz => hm z (by simp [hz])) h1.2]
theorem str_beq {l m : List Int} (hl : ∀ x ∈ l, 0 ≤ x ∧ x ≤ 255) (hm : ∀ x ∈ m, 0 ≤ x ∧ x ≤ 255) : ((strOfNums l).toList == (strOfNums m).toList) = decide (l = m) := by
  rw [Lib.strOfNums_toList, Lib.strOfNums_toList]
  by_cases h : l = m
  · subst h; simp
  · rw [decide_eq_false h, beq_eq_false_iff_ne]
    exact fun e => h (bytes_inj hl hm e)

/-- a first byte is no Tail; the others are -/
theorem whole_tails {a : Int} {r : List Int} (h : whole (a :: r) = true) : ∀ x ∈ r, isTail x = true := by
  cases r with
  | nil => simp
  | cons b t =>
    simp only [whole, Bool.and_eq_true, decide_eq_true_eq] at h
    obtain ⟨_, hs, ht⟩ := h
    intro x hx
    rcases List.mem_cons.1 hx with rfl | hx
    · have := of_decide_eq_true hs
      exact isTail_true ⟨this.2.2.1, this.2.2.2.1⟩
    · exact List.all_eq_true.1 ht x hx
theorem whole_first {a : Int} {r : List Int} (h : whole (a :: r) = true) : isTail a = false ∧ (r.length : Int) + 1 = need a := by
  simp only [whole, Bool.and_eq_true, decide_eq_true_eq] at h
  obtain ⟨h1, _⟩ := h
  refine ⟨isTail_false fun hh => ?_, h1⟩
  have : need a = 0 := by unfold need; rw [if_neg (by omega), if_pos (by omega)]
  omega

end Go.Proofs.YtophdhpkinedgaaGreatDoor
end
