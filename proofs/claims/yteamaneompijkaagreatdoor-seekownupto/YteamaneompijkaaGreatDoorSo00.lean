/- Plain functions of layer 1 (the classes of bytes, how many bytes an encoding has, which second byte may stand): definitions and facts about numbers, nothing of the program. · Contracts of Class, Need and Second of the program and of the document's answer: each answers by the plain functions and leaves the world as it was, wherever the table of classes holds what the program's text lays. · Contracts of allTails, Whole and Value of the program over a []byte that lies in memory: each answers by the plain functions and leaves the world as it was. -/
import Derived.Test.YteamaneompijkaaGreatDoorRows
import Derived.WalkKit
import Derived.ProofKit
import Derived.OpenShut
import Derived.WalkSpells
import Derived.Outline
import Derived.Deep.QuietTactic
import Derived.BigQuiet
namespace Go.Proofs.YteamaneompijkaaGreatDoor
set_option maxRecDepth 100000
set_option maxHeartbeats 8000000
section
def cls (b : Int) : Int := if b < 128 then 1 else if b < 192 then 2 else if b < 194 then 6 else if b < 224 then 3 else if b < 240 then 4 else if b < 245 then 5 else 6
def need (b : Int) : Int := if b < 128 then 1 else if b < 194 then 0 else if b < 224 then 2 else if b < 240 then 3 else if b < 245 then 4 else 0
def isTail (b : Int) : Bool := decide (128 ≤ b ∧ b < 192)
def sec (l b : Int) : Bool := decide (194 ≤ l ∧ l < 245 ∧ 128 ≤ b ∧ b < 192 ∧ (l = 224 → 160 ≤ b) ∧ (l = 237 → b ≤ 159) ∧ (l = 240 → 144 ≤ b) ∧ (l = 244 → b ≤ 143))
theorem cls_lo (b : Int) : 1 ≤ cls b := by unfold cls; repeat (split; omega); omega
theorem cls_hi (b : Int) : cls b ≤ 6 := by unfold cls; repeat (split; omega); omega
theorem need_lo (b : Int) : 0 ≤ need b := by unfold need; repeat (split; omega); omega
theorem need_hi (b : Int) : need b ≤ 4 := by unfold need; repeat (split; omega); omega
theorem cls_never {b : Int} (h : ¬ b < 245) : cls b = 6 := by unfold cls; repeat (rw [if_neg (by omega)])
theorem cls_tail (b : Int) : (cls b = 2) = (128 ≤ b ∧ b < 192) := by
  apply propext; unfold cls
  constructor
  · intro h; repeat (split at h; omega); omega
  · intro h; rw [if_neg (by omega), if_pos (by omega)]
theorem need_1 {b : Int} (h : cls b = 1) : need b = 1 := by
  unfold cls at h; unfold need; repeat (first | omega | split at h | split)
theorem need_3 {b : Int} (h : cls b = 3) : need b = 2 := by
  unfold cls at h; unfold need; repeat (first | omega | split at h | split)
theorem need_4 {b : Int} (h : cls b = 4) : need b = 3 := by
  unfold cls at h; unfold need; repeat (first | omega | split at h | split)
theorem need_5 {b : Int} (h : cls b = 5) : need b = 4 := by
  unfold cls at h; unfold need; repeat (first | omega | split at h | split)
theorem need_0 {b : Int} (h1 : ¬ cls b = 1) (h3 : ¬ cls b = 3) (h4 : ¬ cls b = 4) (h5 : ¬ cls b = 5) : need b = 0 := by
  unfold cls at h1 h3 h4 h5; unfold need; repeat (first | omega | split at h1 | split)
theorem need_two (b : Int) : (need b < 2) = (b < 194 ∨ 245 ≤ b) := by
  apply propext; unfold need
  constructor
  · intro h; repeat (first | omega | split at h)
  · intro h; repeat (first | omega | split)
def whole : List Int → Bool
  | [] => false
  | a :: r => decide ((r.length : Int) + 1 = need a) && (match r with | [] => true | b :: t => sec a b && t.all isTail)
theorem whole_one {a : Int} (h : need a = 1) : whole [a] = true := by simp [whole, h]
theorem whole_len {a : Int} {r : List Int} (h : ¬ (r.length : Int) + 1 = need a) : whole (a :: r) = false := by simp [whole, h]
theorem whole_more {a b : Int} {t : List Int} (h : (t.length : Int) + 2 = need a) : whole (a :: b :: t) = (sec a b && t.all isTail) := by
  have : ((b :: t).length : Int) + 1 = need a := by simp only [List.length_cons]; omega
  simp only [whole, this, decide_true, Bool.true_and]
def lead (a : Int) : Int := if need a = 2 then a % 32 else if need a = 3 then a % 16 else if need a = 4 then a % 8 else a
def fold (v : Int) : List Int → Int
  | [] => v
  | t :: r => fold (v * 64 + t % 64) r
def value : List Int → Int
  | [] => -1
  | a :: r => if whole (a :: r) then fold (lead a) r else -1
theorem fold_snoc (v : Int) (l : List Int) (t : Int) : fold v (l ++ [t]) = fold v l * 64 + t % 64 := by
  induction l generalizing v with
  | nil => rfl
  | cons x l ih => exact ih _
theorem fold_take (v : Int) (l : List Int) (k : Nat) (h : k < l.length) : fold v (l.take (k + 1)) = fold v (l.take k) * 64 + l.getD k 0 % 64 := by
  rw [List.take_succ_eq_append_getElem h, fold_snoc]
  simp [List.getD, List.getElem?_eq_getElem h]
theorem need_range (a : Int) : (need a = 1 → a < 128) ∧ (need a = 2 → 194 ≤ a ∧ a < 224) ∧ (need a = 3 → 224 ≤ a ∧ a < 240) ∧ (need a = 4 → 240 ≤ a ∧ a < 245) := by
  unfold need; refine ⟨?_, ?_, ?_, ?_⟩ <;> intro h <;> repeat (first | omega | split at h)
theorem lead_2 {a : Int} (h : need a = 2) : lead a = a % 32 := by simp [lead, h]
theorem lead_3 {a : Int} (h : need a = 3) : lead a = a % 16 := by simp [lead, h]
theorem lead_4 {a : Int} (h : need a = 4) : lead a = a % 8 := by simp [lead, h]
theorem lead_1 {a : Int} (h2 : ¬ need a = 2) (h3 : ¬ need a = 3) (h4 : ¬ need a = 4) : lead a = a := by simp [lead, h2, h3, h4]
theorem fold_small {a : Int} {r : List Int} (h : (r.length : Int) + 1 = need a) (k : Nat) (hk : k < r.length) : 0 ≤ fold (lead a) (r.take k) ∧ fold (lead a) (r.take k) ≤ 32767 := by
  have hn := need_hi a
  match r with
  | [] => simp at hk
  | [b] =>
    rw [lead_2 (by simpa using h.symm)]
    obtain rfl : k = 0 := by simp at hk; omega
    simp [fold]; omega
  | [b, c] =>
    rw [lead_3 (by simpa using h.symm)]
    simp at hk
    match k with
    | 0 => simp [fold]; omega
    | 1 => simp [fold]; omega
  | [b, c, d] =>
    rw [lead_4 (by simpa using h.symm)]
    simp at hk
    match k with
    | 0 => simp [fold]; omega
    | 1 => simp [fold]; omega
    | 2 => simp [fold]; omega
  | b :: c :: d :: e :: t => simp only [List.length_cons] at h; omega
theorem fold_wide {a : Int} {r : List Int} (h0 : 0 ≤ a) (h : (r.length : Int) + 1 = need a) : 0 ≤ fold (lead a) r ∧ fold (lead a) r ≤ 2097151 := by
  match r with
  | [] =>
    have := need_range a
    have hn : need a = 1 := by simpa using h.symm
    rw [lead_1 (by omega) (by omega) (by omega)]
    simp [fold]; omega
  | b :: t =>
    have hs := fold_small h t.length (by simp)
    have := fold_take (lead a) (b :: t) t.length (by simp)
    have e : (b :: t).take (t.length + 1) = b :: t := List.take_of_length_le (by simp)
    rw [e] at this
    omega
def isRune (r : Int) : Bool := decide (0 ≤ r ∧ r < 55296 ∨ 57343 < r ∧ r ≤ 1114111)
def enc (r : Int) : List Int :=
  if isRune r then (if r < 128 then [r] else if r < 2048 then [192 + r / 64, 128 + r % 64] else if r < 65536 then [224 + r / 4096, 128 + r / 64 % 64, 128 + r % 64] else [240 + r / 262144, 128 + r / 4096 % 64, 128 + r / 64 % 64, 128 + r % 64]) else [239, 191, 189]
theorem isRune_true {r : Int} (h : 0 ≤ r ∧ r < 55296 ∨ 57343 < r ∧ r ≤ 1114111) : isRune r = true := by unfold isRune; exact decide_eq_true h
theorem isRune_false {r : Int} (h : ¬ (0 ≤ r ∧ r < 55296 ∨ 57343 < r ∧ r ≤ 1114111)) : isRune r = false := by unfold isRune; exact decide_eq_false h
theorem enc_1 {r : Int} (h0 : 0 ≤ r) (h1 : r < 128) : enc r = [r] := by unfold enc; rw [if_pos (isRune_true (by omega)), if_pos h1]
theorem enc_2 {r : Int} (h0 : 128 ≤ r) (h1 : r < 2048) : enc r = [192 + r / 64, 128 + r % 64] := by unfold enc; rw [if_pos (isRune_true (by omega)), if_neg (by omega), if_pos h1]
theorem enc_3 {r : Int} (h0 : 2048 ≤ r) (h1 : r < 65536) (h2 : r < 55296 ∨ 57343 < r) : enc r = [224 + r / 4096, 128 + r / 64 % 64, 128 + r % 64] := by
  unfold enc; rw [if_pos (isRune_true (by omega)), if_neg (by omega), if_neg (by omega), if_pos h1]
theorem enc_4 {r : Int} (h0 : 65536 ≤ r) (h1 : r ≤ 1114111) : enc r = [240 + r / 262144, 128 + r / 4096 % 64, 128 + r / 64 % 64, 128 + r % 64] := by
  unfold enc; rw [if_pos (isRune_true (by omega)), if_neg (by omega), if_neg (by omega), if_neg (by omega)]
theorem enc_bad {r : Int} (h : ¬ (0 ≤ r ∧ r < 55296 ∨ 57343 < r ∧ r ≤ 1114111)) : enc r = [239, 191, 189] := by unfold enc; rw [isRune_false h]; rfl
end
section
open Go.ChangeShapes Go.WideShapes Go.ChangeAt Go.RowKit
def Tab (w : World) : Prop := ∀ b : Int, 0 ≤ b → b < 245 → w.cell? ⟨0, b.toNat, none⟩ = some (.int .u8 (cls b))
theorem hide {p : Prop} (h : p) : Hid p := h
theorem unhide {p : Prop} (h : Hid p) : p := h
theorem ret_int {k : IntKind} {a b : Int} (h : a = b) : Ending.returned (.int k a) = .returned (.int k b) := by rw [h]
theorem ret_bool {a b : Bool} (h : a = b) : Ending.returned (.bool a) = .returned (.bool b) := by rw [h]
theorem Class_any (b : Int) (w : World) (h0 : 0 ≤ b) (h1 : b ≤ 255) (hT : Tab w) :
    Calls Tryz.prog 122 #[.int .u8 b] w fun e w' => e = .returned (.int .i64 (cls b)) ∧ w' = w := by
  have hl := cls_lo b
  have hh := cls_hi b
  by_cases h : b < 245
  · have hc := hT b h0 h
    go_enter Tryz.func122, Tryz.ntmps122
    go_wp2
    go_ret
    exact ⟨rfl, rfl⟩
  · have HC : Hid (cls b = 6) := cls_never h
    go_enter Tryz.func122, Tryz.ntmps122
    go_wp2
    go_ret
    exact ⟨ret_int HC.out.symm, rfl⟩
theorem RClass_any (b : Int) (w : World) (h0 : 0 ≤ b) (h1 : b ≤ 255) :
    Calls Tryz.prog 127 #[.int .u8 b] w fun e w' => e = .returned (.int .i64 (cls b)) ∧ w' = w := by
  go_enter Tryz.func127, Tryz.ntmps127
  go_wp2
  all_goals go_ret
  all_goals exact ⟨ret_int (by unfold cls; repeat (first | rw [if_pos (by omega)] | rw [if_neg (by omega)])), rfl⟩
theorem need_ways {b n : Int} (h : (cls b == 1) = true ∧ n = 1 ∨ (cls b == 3) = true ∧ n = 2 ∨ (cls b == 4) = true ∧ n = 3 ∨ (cls b == 5) = true ∧ n = 4 ∨
    (cls b == 1) = false ∧ (cls b == 3) = false ∧ (cls b == 4) = false ∧ (cls b == 5) = false ∧ n = 0) : n = need b := by
  simp only [beq_iff_eq, beq_eq_false_iff_ne] at h
  rcases h with ⟨h, rfl⟩ | ⟨h, rfl⟩ | ⟨h, rfl⟩ | ⟨h, rfl⟩ | ⟨a, b', c, d, rfl⟩
  · exact (need_1 h).symm
  · exact (need_3 h).symm
  · exact (need_4 h).symm
  · exact (need_5 h).symm
  · exact (need_0 a b' c d).symm
theorem Need_any (b : Int) (w : World) (h0 : 0 ≤ b) (h1 : b ≤ 255) (hT : Tab w) :
    Calls Tryz.prog 100 #[.int .u8 b] w fun e w' => e = .returned (.int .i64 (need b)) ∧ w' = w := by
  go_enter Tryz.func100, Tryz.ntmps100
  go_wp2_with (go_at_call 122; refine (Class_any _ _ h0 h1 hT).mono ?_; rintro e w' ⟨rfl, rfl⟩)
  all_goals go_ret
  all_goals exact ⟨ret_int (need_ways (by simp [*])), rfl⟩
theorem RNeed_any (b : Int) (w : World) (h0 : 0 ≤ b) (h1 : b ≤ 255) :
    Calls Tryz.prog 109 #[.int .u8 b] w fun e w' => e = .returned (.int .i64 (need b)) ∧ w' = w := by
  go_enter Tryz.func109, Tryz.ntmps109
  go_wp2_with (go_at_call 127; refine (RClass_any _ _ h0 h1).mono ?_; rintro e w' ⟨rfl, rfl⟩)
  all_goals go_ret
  all_goals exact ⟨ret_int (need_ways (by simp [*])), rfl⟩
theorem sec_ways {l b : Int} {v : Bool} (h : (need l < 2 ∧ v = false) ∨ ((need l < 2 ∨ (cls b != 2) = true) ∧ v = false) ∨ (2 ≤ need l ∧ (cls b != 2) = false) ∧
    ((l == 224) = true ∧ v = decide (160 ≤ b) ∨ (l == 224) = false ∧ ((l == 237) = true ∧ v = decide (b ≤ 159) ∨ (l == 237) = false ∧ ((l == 240) = true ∧ v = decide (144 ≤ b) ∨
      (l == 240) = false ∧ ((l == 244) = true ∧ v = decide (b ≤ 143) ∨ (l == 244) = false ∧ v = true))))) : v = sec l b := by
  have hn := need_two l
  have hc := cls_tail b
  have h2 : (2 ≤ need l) = (194 ≤ l ∧ l < 245) := propext ⟨fun h => by have := (congrArg Not hn).mp (by omega); omega, fun h => by have := (congrArg Not hn).mpr (by omega); omega⟩
  simp only [beq_iff_eq, beq_eq_false_iff_ne, bne_iff_ne, bne_eq_false_iff_eq, ne_eq, hn, hc, h2] at h
  unfold sec
  rcases h with ⟨h, rfl⟩ | ⟨h, rfl⟩ | ⟨⟨h3, h4⟩, h⟩
  · symm; rw [decide_eq_false_iff_not]; omega
  · symm; rw [decide_eq_false_iff_not]; omega
  · rcases h with ⟨h, rfl⟩ | ⟨h5, ⟨h, rfl⟩ | ⟨h6, ⟨h, rfl⟩ | ⟨h7, ⟨h, rfl⟩ | ⟨h8, rfl⟩⟩⟩⟩
    all_goals first
      | (rw [decide_eq_decide]; omega)
      | (symm; rw [decide_eq_true_iff]; omega)
theorem Second_any (l b : Int) (w : World) (hl0 : 0 ≤ l) (hl1 : l ≤ 255) (h0 : 0 ≤ b) (h1 : b ≤ 255) (hT : Tab w) :
    Calls Tryz.prog 123 #[.int .u8 l, .int .u8 b] w fun e w' => e = .returned (.bool (sec l b)) ∧ w' = w := by
  go_enter Tryz.func123, Tryz.ntmps123
  go_wp2_with (first | (go_at_call 100; refine (Need_any _ _ hl0 hl1 hT).mono ?_; rintro e w' ⟨rfl, rfl⟩) | (go_at_call 122; refine (Class_any _ _ h0 h1 hT).mono ?_; rintro e w' ⟨rfl, rfl⟩))
  all_goals go_ret
  all_goals refine ⟨ret_bool (sec_ways ?_), rfl⟩
  all_goals first
    | (refine Or.inl ⟨?_, rfl⟩; assumption)
    | (refine Or.inr (Or.inl ⟨?_, rfl⟩); assumption)
    | simp [*]
theorem RSecond_any (l b : Int) (w : World) (hl0 : 0 ≤ l) (hl1 : l ≤ 255) (h0 : 0 ≤ b) (h1 : b ≤ 255) :
    Calls Tryz.prog 128 #[.int .u8 l, .int .u8 b] w fun e w' => e = .returned (.bool (sec l b)) ∧ w' = w := by
  go_enter Tryz.func128, Tryz.ntmps128
  go_wp2_with (first | (go_at_call 109; refine (RNeed_any _ _ hl0 hl1).mono ?_; rintro e w' ⟨rfl, rfl⟩) | (go_at_call 127; refine (RClass_any _ _ h0 h1).mono ?_; rintro e w' ⟨rfl, rfl⟩))
  all_goals go_ret
  all_goals refine ⟨ret_bool (sec_ways ?_), rfl⟩
  all_goals first
    | (refine Or.inl ⟨?_, rfl⟩; assumption)
    | (refine Or.inr (Or.inl ⟨?_, rfl⟩); assumption)
    | simp [*]
end
section
open Go.ChangeShapes Go.WideShapes Go.ChangeAt Go.RowKit
def Lies (w : World) (g off : Nat) (l : List Int) : Prop := ∀ i, i < l.length → w.cell? ⟨g, off + i, none⟩ = some (.int .u8 (l.getD i 0)) ∧ 0 ≤ l.getD i 0 ∧ l.getD i 0 ≤ 255
theorem all_upto {l : List Int} (h : ∀ j, j < l.length → isTail (l.getD j 0) = true) : l.all isTail = true := by
  rw [List.all_eq_true]
  intro x hx
  obtain ⟨i, hi, rfl⟩ := List.getElem_of_mem hx
  have := h i hi
  simpa [List.getD, List.getElem?_eq_getElem hi] using this
theorem all_not {l : List Int} {k : Nat} (hk : k < l.length) (h : isTail (l.getD k 0) = false) : l.all isTail = false := by
  rw [List.all_eq_false]
  refine ⟨l[k], List.getElem_mem hk, ?_⟩
  simpa [List.getD, List.getElem?_eq_getElem hk] using h
theorem isTail_cls (b : Int) : isTail b = !(cls b != 2) := by
  have := cls_tail b
  unfold isTail
  rw [Bool.eq_iff_iff]
  simp [← this]
theorem allTails_some (g off cap : Nat) (l : List Int) (w : World) (hm : l.length ≤ maxLen) (hL : Lies w g off l) (hT : Tab w) :
    Calls Tryz.prog 124 #[.slice (some ⟨g, off, none⟩) l.length cap] w fun e w' => e = .returned (.bool (l.all isTail)) ∧ w' = w := by
  unfold maxLen at hm
  generalize hn : l.length = n at *
  have Hn := hide hn
  clear hn
  go_enter Tryz.func124, Tryz.ntmps124
  go_wp2
  go_loop [7] (fun i => ∃ k : Nat, k ≤ n ∧ i = .int .i64 k ∧ ∀ j, j < k → isTail (l.getD j 0) = true) (fun i => n - (intOf i).toNat)
  case atStart => exact ⟨0, Nat.zero_le _, rfl, fun j hj => absurd hj (Nat.not_lt_zero _)⟩
  case round =>
    obtain ⟨k, hk, rfl, hall⟩ := hrel
    have Hall := hide hall
    clear hall
    by_cases hlt : k < n
    · obtain ⟨hc, x0, x1⟩ := hL k (by rw [unhide Hn]; exact hlt)
      generalize hx : l.getD k 0 = x at hc x0 x1
      have Hx := hide hx
      clear hx
      go_wp2_with (go_at_call 122; refine (Class_any _ _ x0 x1 hT).mono ?_; rintro e w' ⟨rfl, rfl⟩)
      · go_ret
        exact ⟨ret_bool (all_not (k := k) (by rw [unhide Hn]; exact hlt) (by rw [unhide Hx, isTail_cls]; simp [*])).symm, rfl⟩
      · refine ⟨⟨k + 1, by omega, by go_num, fun j hj => ?_⟩, by simp [intOf]; omega⟩
        by_cases hjk : j < k
        · exact unhide Hall j hjk
        · obtain rfl : j = k := by omega
          rw [unhide Hx, isTail_cls]; simp [*]
    · go_wp2
      go_ret
      exact ⟨ret_bool (all_upto (fun j hj => unhide Hall j (by have := unhide Hn; omega))).symm, rfl⟩
theorem allTails_none (a0 : Option Addr) (cap : Nat) (w : World) :
    Calls Tryz.prog 124 #[.slice a0 0 cap] w fun e w' => e = .returned (.bool true) ∧ w' = w := by
  go_enter Tryz.func124, Tryz.ntmps124
  go_wp2
  go_loop [7] (fun i => i = .int .i64 0) (fun _ => 0)
  case atStart => rfl
  case round =>
    subst hrel
    go_wp2
    go_ret
    exact ⟨rfl, rfl⟩
theorem Tab.drewN {w : World} (h : Tab w) (n : Nat) : Tab (w.drewN n) := h
theorem Lies.drewN {w : World} {g off : Nat} {l : List Int} (h : Lies w g off l) (n : Nat) : Lies (w.drewN n) g off l := h
theorem Lies.tail {w : World} {g off : Nat} {a : Int} {l : List Int} (h : Lies w g off (a :: l)) : Lies w g (off + 1) l := by
  intro i hi
  have := h (i + 1) (by simp; omega)
  simpa [Nat.add_assoc, Nat.add_comm 1 i] using this
theorem Lies.head {w : World} {g off : Nat} {a : Int} {l : List Int} (h : Lies w g off (a :: l)) : w.cell? ⟨g, off, none⟩ = some (.int .u8 a) ∧ 0 ≤ a ∧ a ≤ 255 := by
  have := h 0 (by simp)
  simpa using this
theorem Whole_none (a0 : Option Addr) (cap : Nat) (w : World) :
    Calls Tryz.prog 101 #[.slice a0 0 cap] w fun e w' => e = .returned (.bool false) ∧ w' = w := by
  go_enter Tryz.func101, Tryz.ntmps101
  go_wp2
  go_ret
  exact ⟨rfl, rfl⟩
theorem Whole_len (g off cap : Nat) (a : Int) (r : List Int) (w : World) (hm : r.length + 1 ≤ maxLen) (hL : Lies w g off (a :: r)) (hT : Tab w) (h : ¬ (r.length : Int) + 1 = need a) :
    Calls Tryz.prog 101 #[.slice (some ⟨g, off, none⟩) (r.length + 1) cap] w fun e w' => e = .returned (.bool false) ∧ w' = w := by
  unfold maxLen at hm
  obtain ⟨hc, x0, x1⟩ := hL.head
  have hne : ((r.length : Int) + 1 != need a) = true := by rw [bne_iff_ne]; exact h
  go_enter Tryz.func101, Tryz.ntmps101
  go_wp2_with (go_at_call 100; refine (Need_any _ _ x0 x1 hT).mono ?_; rintro e w' ⟨rfl, rfl⟩)
  go_ret
  exact ⟨rfl, rfl⟩
theorem Whole_one (g off cap : Nat) (a : Int) (w : World) (hL : Lies w g off [a]) (hT : Tab w) (h : need a = 1) :
    Calls Tryz.prog 101 #[.slice (some ⟨g, off, none⟩) 1 cap] w fun e w' => e = .returned (.bool true) ∧ w' = w := by
  obtain ⟨hc, x0, x1⟩ := hL.head
  go_enter Tryz.func101, Tryz.ntmps101
  go_wp2_with (go_at_call 100; refine (Need_any _ _ x0 x1 hT).mono ?_; rintro e w' ⟨rfl, rfl⟩)
  go_ret
  exact ⟨rfl, rfl⟩
def Bs (w : World) (a0 : Option Addr) (l : List Int) : Prop := l = [] ∨ ∃ g off, a0 = some ⟨g, off, none⟩ ∧ Lies w g off l
def IsB (w : World) (a0 : Option Addr) (cap : Nat) (l : List Int) : Prop := l.length ≤ cap ∧ l.length ≤ 140737488351232 ∧ Bs w a0 l ∧ ∀ x ∈ l, 0 ≤ x ∧ x ≤ 255
theorem Bs.drewN {w : World} {a0 : Option Addr} {l : List Int} (h : Bs w a0 l) (n : Nat) : Bs (w.drewN n) a0 l := h
theorem Bs.from2 {w : World} {g off cap : Nat} {a b : Int} {t : List Int} (hcap : t.length + 2 ≤ cap) (h : Lies w g off (a :: b :: t)) :
    Bs w (if cap = 2 then some ⟨g, off, none⟩ else some ⟨g, off + 2, none⟩) t := by
  by_cases hc : cap = 2
  · exact Or.inl (List.length_eq_zero_iff.1 (by omega))
  · rw [if_neg hc]; exact Or.inr ⟨g, off + 2, rfl, h.tail.tail⟩
theorem Bs.from1 {w : World} {g off cap : Nat} {a : Int} {t : List Int} (hcap : t.length + 1 ≤ cap) (h : Lies w g off (a :: t)) :
    Bs w (if cap = 1 then some ⟨g, off, none⟩ else some ⟨g, off + 1, none⟩) t := by
  by_cases hc : cap = 1
  · exact Or.inl (List.length_eq_zero_iff.1 (by omega))
  · rw [if_neg hc]; exact Or.inr ⟨g, off + 1, rfl, h.tail⟩
theorem allTails_at (a0 : Option Addr) (cap : Nat) (l : List Int) (w : World) (hm : l.length ≤ maxLen) (hB : Bs w a0 l) (hT : Tab w) :
    Calls Tryz.prog 124 #[.slice a0 l.length cap] w fun e w' => e = .returned (.bool (l.all isTail)) ∧ w' = w := by
  rcases hB with rfl | ⟨g, off, rfl, hL⟩
  · exact allTails_none a0 cap w
  · exact allTails_some g off cap l w hm hL hT
theorem Second_at (l b : Int) {v : Bool} (w : World) (hl0 : 0 ≤ l) (hl1 : l ≤ 255) (h0 : 0 ≤ b) (h1 : b ≤ 255) (hT : Tab w) (h : sec l b = v) :
    Calls Tryz.prog 123 #[.int .u8 l, .int .u8 b] w fun e w' => e = .returned (.bool v) ∧ w' = w := by
  subst h
  exact Second_any l b w hl0 hl1 h0 h1 hT
theorem Whole_sec (g off cap : Nat) (a b : Int) (t : List Int) (w : World) (hm : t.length + 2 ≤ maxLen) (hcap : t.length + 2 ≤ cap) (hL : Lies w g off (a :: b :: t)) (hT : Tab w) (h : (t.length : Int) + 2 = need a) :
    Calls Tryz.prog 101 #[.slice (some ⟨g, off, none⟩) (t.length + 2) cap] w fun e w' => e = .returned (.bool (sec a b && t.all isTail)) ∧ ∃ n, w' = w.drewN n := by
  unfold maxLen at hm
  obtain ⟨hc, x0, x1⟩ := hL.head
  obtain ⟨hd, y0, y1⟩ := hL.tail.head
  have hB2 := Bs.from2 hcap hL
  have hm2 : t.length ≤ maxLen := by unfold maxLen; omega
  clear hL
  have hne : ((t.length : Int) + 2 != need a) = false := by rw [bne_eq_false_iff_eq]; exact h
  clear h
  have i1 : (1 : Int) < (t.length : Int) + 2 := by omega
  go_enter Tryz.func101, Tryz.ntmps101
  cases hs : sec a b
  · go_wp2_with (go_at_call 100; refine (Need_any _ _ x0 x1 hT).mono ?_; rintro e w' ⟨rfl, rfl⟩)
    go_quiet ((go_at_call 123; exact Calls.quiet_of_same (Second_at _ _ _ x0 x1 y0 y1 (Tab.drewN hT _) hs)))
    go_wp2
    go_ret
    exact ⟨rfl, _, rfl⟩
  · go_wp2_with (go_at_call 100; refine (Need_any _ _ x0 x1 hT).mono ?_; rintro e w' ⟨rfl, rfl⟩)
    go_quiet (first
      | (go_at_call 123; exact Calls.quiet_of_same (Second_at _ _ _ x0 x1 y0 y1 (Tab.drewN hT _) hs))
      | (go_at_call 124; exact Calls.quiet_of_same (allTails_at _ _ _ _ hm2 (Bs.drewN hB2 _) (Tab.drewN hT _))))
    go_wp2
    all_goals go_ret
    all_goals exact ⟨rfl, _, rfl⟩
theorem Whole_at (a0 : Option Addr) (cap : Nat) (l : List Int) (w : World) (hm : l.length ≤ maxLen) (hcap : l.length ≤ cap) (hB : Bs w a0 l) (hT : Tab w) :
    Calls Tryz.prog 101 #[.slice a0 l.length cap] w fun e w' => e = .returned (.bool (whole l)) ∧ ∃ n, w' = w.drewN n := by
  match l with
  | [] => exact (Whole_none a0 cap w).mono fun e w' ⟨h1, h2⟩ => ⟨h1, 0, h2⟩
  | a :: r =>
    rcases hB with h | ⟨g, off, rfl, hL⟩
    · cases h
    by_cases h : (r.length : Int) + 1 = need a
    · match r with
      | [] => 
        have h1 : need a = 1 := by simpa using h.symm
        rw [whole_one h1]
        exact (Whole_one g off cap a w hL hT h1).mono fun e w' ⟨h1, h2⟩ => ⟨h1, 0, h2⟩
      | b :: t =>
        have h2 : (t.length : Int) + 2 = need a := by simp only [List.length_cons] at h; omega
        rw [whole_more h2]
        exact Whole_sec g off cap a b t w hm hcap hL hT h2
    · rw [whole_len h]
      exact (Whole_len g off cap a r w hm hL hT h).mono fun e w' ⟨h1, h2⟩ => ⟨h1, 0, h2⟩
end
end Go.Proofs.YteamaneompijkaaGreatDoor
