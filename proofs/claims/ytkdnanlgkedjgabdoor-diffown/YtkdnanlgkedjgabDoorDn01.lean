/- Plain functions of layer 1 (the classes of bytes, how many bytes an encoding has, which second byte may stand): definitions and facts about numbers, nothing of the program. · Contracts of Class, Need and Second of the program and of the document's answer: each answers by the plain functions and leaves the world as it was, wherever the table of classes holds what the program's text lays. -/
import Derived.Test.YtkdnanlgkedjgabDoorRows
import Derived.WalkKit
import Derived.ProofKit
import Derived.OpenShut
import Derived.WalkSpells
import Derived.Outline

section
namespace Go.Proofs.YtkdnanlgkedjgabDoor

def cls (b : Int) : Int := if b < 128 then 1 else if b < 192 then 2 else if b < 194 then 6 else if b < 224 then 3 else if b < 240 then 4 else if b < 245 then 5 else 6
def need (b : Int) : Int := if b < 128 then 1 else if b < 194 then 0 else if b < 224 then 2 else if b < 240 then 3 else if b < 245 then 4 else 0
def isTail (b : Int) : Bool := decide (128 ≤ b ∧ b < 192)
def sec (l b : Int) : Bool := decide (194 ≤ l ∧ l < 245 ∧ 128 ≤ b ∧ b < 192 ∧ (l = 224 → 160 ≤ b) ∧ (l = 237 → b ≤ 159) ∧ (l = 240 → 144 ≤ b) ∧ (l = 244 → b ≤ 143))

theorem cls_lo (b : Int) : 1 ≤ cls b := by unfold cls; repeat (split; omega); omega
theorem cls_hi (b : Int) : cls b ≤ 6 := by unfold cls; repeat (split; omega); omega
theorem need_lo (b : Int) : 0 ≤ need b := by unfold need; repeat (split; omega); omega
theorem need_hi (b : Int) : need b ≤ 4 := by unfold need; repeat (split; omega); omega
theorem cls_never {b : Int} (h : ¬ b < 245) : cls b = 6 := by unfold cls; repeat (rw [if_neg (by omega)])
theorem cls_tail (b : Int) : (cls b = 2) = (128 ≤ b ∧ b < 192) := by
  apply propext; unfold cls
  constructor
  · intro h; repeat (split at h; omega); omega
  · intro h; rw [if_neg (by omega), if_pos (by omega)]
/-- what Need's switch says, arm by arm -/
theorem need_1 {b : Int} (h : cls b = 1) : need b = 1 := by
  unfold cls at h; unfold need; repeat (first | omega | split at h | split)
theorem need_3 {b : Int} (h : cls b = 3) : need b = 2 := by
  unfold cls at h; unfold need; repeat (first | omega | split at h | split)
theorem need_4 {b : Int} (h : cls b = 4) : need b = 3 := by
  unfold cls at h; unfold need; repeat (first | omega | split at h | split)
theorem need_5 {b : Int} (h : cls b = 5) : need b = 4 := by
  unfold cls at h; unfold need; repeat (first | omega | split at h | split)
theorem need_0 {b : Int} (h1 : ¬ cls b = 1) (h3 : ¬ cls b = 3) (h4 : ¬ cls b = 4) (h5 : ¬ cls b = 5) : need b = 0 := by
  unfold cls at h1 h3 h4 h5; unfold need; repeat (first | omega | split at h1 | split)
theorem need_two (b : Int) : (need b < 2) = (b < 194 ∨ 245 ≤ b) := by
  apply propext; unfold need
  constructor
  · intro h; repeat (first | omega | split at h)
  · intro h; repeat (first | omega | split)

/-- just one rune's encoding -/
def whole : List Int → Bool
  | [] => false
  | a :: r => decide ((r.length : Int) + 1 = need a) && (match r with | [] => true | b :: t => sec a b && t.all isTail)

theorem whole_one {a : Int} (h : need a = 1) : whole [a] = true := by simp [whole, h]
theorem whole_len {a : Int} {r : List Int} (h : ¬ (r.length : Int) + 1 = need a) : whole (a :: r) = false := by simp [whole, h]
theorem whole_more {a b : Int} {t : List Int} (h : (t.length : Int) + 2 = need a) : whole (a :: b :: t) = (sec a b && t.all isTail) := by
  have : ((b :: t).length : Int) + 1 = need a := by simp only [List.length_cons]; omega
  simp only [whole, this, decide_true, Bool.true_and]

/-- what the first byte gives, and the others behind it -/
def lead (a : Int) : Int := if need a = 2 then a % 32 else if need a = 3 then a % 16 else if need a = 4 then a % 8 else a
def fold (v : Int) : List Int → Int
  | [] => v
  | t :: r => fold (v * 64 + t % 64) r
def value : List Int → Int
  | [] => -1
  | a :: r => if whole (a :: r) then fold (lead a) r else -1

theorem fold_snoc (v : Int) (l : List Int) (t : Int) : fold v (l ++ [t]) = fold v l * 64 + t % 64 := by
  induction l generalizing v with
  | nil => rfl
  | cons x l ih => exact ih _
theorem fold_take (v : Int) (l : List Int) (k : Nat) (h : k < l.length) : fold v (l.take (k + 1)) = fold v (l.take k) * 64 + l.getD k 0 % 64 := by
  rw [List.take_succ_eq_append_getElem h, fold_snoc]
  simp [List.getD, List.getElem?_eq_getElem h]
theorem need_range (a : Int) : (need a = 1 → a < 128) ∧ (need a = 2 → 194 ≤ a ∧ a < 224) ∧ (need a = 3 → 224 ≤ a ∧ a < 240) ∧ (need a = 4 → 240 ≤ a ∧ a < 245) := by
  unfold need; refine ⟨?_, ?_, ?_, ?_⟩ <;> intro h <;> repeat (first | omega | split at h)
theorem lead_2 {a : Int} (h : need a = 2) : lead a = a % 32 := by simp [lead, h]
theorem lead_3 {a : Int} (h : need a = 3) : lead a = a % 16 := by simp [lead, h]
theorem lead_4 {a : Int} (h : need a = 4) : lead a = a % 8 := by simp [lead, h]
theorem lead_1 {a : Int} (h2 : ¬ need a = 2) (h3 : ¬ need a = 3) (h4 : ¬ need a = 4) : lead a = a := by simp [lead, h2, h3, h4]
/-- while a byte is still to come what stands so far is small -/
theorem fold_small {a : Int} {r : List Int} (h : (r.length : Int) + 1 = need a) (k : Nat) (hk : k < r.length) : 0 ≤ fold (lead a) (r.take k) ∧ fold (lead a) (r.take k) ≤ 32767 := by
  have hn := need_hi a
  match r with
  | [] => simp at hk
  | [b] =>
    rw [lead_2 (by simpa using h.symm)]
    obtain rfl : k = 0 := by simp at hk; omega
    simp [fold]; omega
  | [b, c] =>
    rw [lead_3 (by simpa using h.symm)]
    simp at hk
    match k with
    | 0 => simp [fold]; omega
    | 1 => simp [fold]; omega
  | [b, c, d] =>
    rw [lead_4 (by simpa using h.symm)]
    simp at hk
    match k with
    | 0 => simp [fold]; omega
    | 1 => simp [fold]; omega
    | 2 => simp [fold]; omega
  | b :: c :: d :: e :: t => simp only [List.length_cons] at h; omega
theorem fold_wide {a : Int} {r : List Int} (h0 : 0 ≤ a) (h : (r.length : Int) + 1 = need a) : 0 ≤ fold (lead a) r ∧ fold (lead a) r ≤ 2097151 := by
  match r with
  | [] =>
    have := need_range a
    have hn : need a = 1 := by simpa using h.symm
    rw [lead_1 (by omega) (by omega) (by omega)]
    simp [fold]; omega
  | b :: t =>
    have hs := fold_small h t.length (by simp)
    have := fold_take (lead a) (b :: t) t.length (by simp)
    have e : (b :: t).take (t.length + 1) = b :: t := List.take_of_length_le (by simp)
    rw [e] at this
    omega

/-- is the number a rune, and a rune's encoding -/
def isRune (r : Int) : Bool := decide (0 ≤ r ∧ r < 55296 ∨ 57343 < r ∧ r ≤ 1114111)
def enc (r : Int) : List Int :=
  if isRune r then (if r < 128 then [r] else if r < 2048 then [192 + r / 64, 128 + r % 64] else if r < 65536 then [224 + r / 4096, 128 + r / 64 % 64, 128 + r % 64] else [240 + r / 262144, 128 + r / 4096 % 64, 128 + r / 64 % 64, 128 + r % 64]) else [239, 191, 189]

theorem isRune_true {r : Int} (h : 0 ≤ r ∧ r < 55296 ∨ 57343 < r ∧ r ≤ 1114111) : isRune r = true := by unfold isRune; exact decide_eq_true h
theorem isRune_false {r : Int} (h : ¬ (0 ≤ r ∧ r < 55296 ∨ 57343 < r ∧ r ≤ 1114111)) : isRune r = false := by unfold isRune; exact decide_eq_false h
theorem enc_1 {r : Int} (h0 : 0 ≤ r) (h1 : r < 128) : enc r = [r] := by unfold enc; rw [if_pos (isRune_true (by omega)), if_pos h1]
theorem enc_2 {r : Int} (h0 : 128 ≤ r) (h1 : r < 2048) : enc r = [192 + r / 64, 128 + r % 64] := by unfold enc; rw [if_pos (isRune_true (by omega)), if_neg (by omega), if_pos h1]
theorem enc_3 {r : Int} (h0 : 2048 ≤ r) (h1 : r < 65536) (h2 : r < 55296 ∨ 57343 < r) : enc r = [224 + r / 4096, 128 + r / 64 % 64, 128 + r % 64] := by
  unfold enc; rw [if_pos (isRune_true (by omega)), if_neg (by omega), if_neg (by omega), if_pos h1]
theorem enc_4 {r : Int} (h0 : 65536 ≤ r) (h1 : r ≤ 1114111) : enc r = [240 + r / 262144, 128 + r / 4096 % 64, 128 + r / 64 % 64, 128 + r % 64] := by
  unfold enc; rw [if_pos (isRune_true (by omega)), if_neg (by omega), if_neg (by omega), if_neg (by omega)]
theorem enc_bad {r : Int} (h : ¬ (0 ≤ r ∧ r < 55296 ∨ 57343 < r ∧ r ≤ 1114111)) : enc r = [239, 191, 189] := by unfold enc; rw [isRune_false h]; rfl

end Go.Proofs.YtkdnanlgkedjgabDoor
end

section
namespace Go.Proofs.YtkdnanlgkedjgabDoor
open Go.ChangeShapes Go.WideShapes Go.ChangeAt Go.RowKit

/-- the table's block holds the classes -/
def Tab (w : World) : Prop := ∀ b : Int, 0 ≤ b → b < 245 → w.cell? ⟨0, b.toNat, none⟩ = some (.int .u8 (cls b))

theorem hide {p : Prop} (h : p) : Hid p := h
theorem unhide {p : Prop} (h : Hid p) : p := h
theorem ret_int {k : IntKind} {a b : Int} (h : a = b) : Ending.returned (.int k a) = .returned (.int k b) := by rw [h]
theorem ret_bool {a b : Bool} (h : a = b) : Ending.returned (.bool a) = .returned (.bool b) := by rw [h]

theorem Class_any (b : Int) (w : World) (h0 : 0 ≤ b) (h1 : b ≤ 255) (hT : Tab w) :
    Calls Tryd.prog 79 #[.int .u8 b] w fun e w' => e = .returned (.int .i64 (cls b)) ∧ w' = w := by
  have hl := cls_lo b
  have hh := cls_hi b
  by_cases h : b < 245
  · have hc := hT b h0 h
    go_enter Tryd.func79, Tryd.ntmps79
    go_wp2
    go_ret
    exact ⟨rfl, rfl⟩
  · have HC : Hid (cls b = 6) := cls_never h
    go_enter Tryd.func79, Tryd.ntmps79
    go_wp2
    go_ret
    exact ⟨ret_int HC.out.symm, rfl⟩

theorem need_ways {b n : Int} (h : (cls b == 1) = true ∧ n = 1 ∨ (cls b == 3) = true ∧ n = 2 ∨ (cls b == 4) = true ∧ n = 3 ∨ (cls b == 5) = true ∧ n = 4 ∨
    (cls b == 1) = false ∧ (cls b == 3) = false ∧ (cls b == 4) = false ∧ (cls b == 5) = false ∧ n = 0) : n = need b := by
  simp only [beq_iff_eq, beq_eq_false_iff_ne] at h
  rcases h with ⟨h, rfl⟩ | ⟨h, rfl⟩ | ⟨h, rfl⟩ | ⟨h, rfl⟩ | ⟨a, b', c, d, rfl⟩
  · exact (need_1 h).symm
  · exact (need_3 h).symm
  · exact (need_4 h).symm
  · exact (need_5 h).symm
  · exact (need_0 a b' c d).symm

theorem Need_any (b : Int) (w : World) (h0 : 0 ≤ b) (h1 : b ≤ 255) (hT : Tab w) :
    Calls Tryd.prog 71 #[.int .u8 b] w fun e w' => e = .returned (.int .i64 (need b)) ∧ w' = w := by
  go_enter Tryd.func71, Tryd.ntmps71
  go_wp2_with (go_at_call 79; refine (Class_any _ _ h0 h1 hT).mono ?_; rintro e w' ⟨rfl, rfl⟩)
  all_goals go_ret
  all_goals exact ⟨ret_int (need_ways (by simp [*])), rfl⟩

theorem sec_ways {l b : Int} {v : Bool} (h : (need l < 2 ∧ v = false) ∨ ((need l < 2 ∨ (cls b != 2) = true) ∧ v = false) ∨ (2 ≤ need l ∧ (cls b != 2) = false) ∧
    ((l == 224) = true ∧ v = decide (160 ≤ b) ∨ (l == 224) = false ∧ ((l == 237) = true ∧ v = decide (b ≤ 159) ∨ (l == 237) = false ∧ ((l == 240) = true ∧ v = decide (144 ≤ b) ∨
      (l == 240) = false ∧ ((l == 244) = true ∧ v = decide (b ≤ 143) ∨ (l == 244) = false ∧ v = true))))) : v = sec l b := by
  have hn := need_two l
  have hc := cls_tail b
  have h2 : (2 ≤ need l) = (194 ≤ l ∧ l < 245) := propext ⟨fun h => by have := (congrArg Not hn).mp (by omega); omega, fun h => by have := (congrArg Not hn).mpr (by omega); omega⟩
  simp only [beq_iff_eq, beq_eq_false_iff_ne, bne_iff_ne, bne_eq_false_iff_eq, ne_eq, hn, hc, h2] at h
  unfold sec
  rcases h with ⟨h, rfl⟩ | ⟨h, rfl⟩ | ⟨⟨h3, h4⟩, h⟩
  · symm; rw [decide_eq_false_iff_not]; omega
  · symm; rw [decide_eq_false_iff_not]; omega
  · rcases h with ⟨h, rfl⟩ | ⟨h5, ⟨h, rfl⟩ | ⟨h6, ⟨h, rfl⟩ | ⟨h7, ⟨h, rfl⟩ | ⟨h8, rfl⟩⟩⟩⟩
    all_goals first
      | (rw [decide_eq_decide]; omega)
      | (symm; rw [decide_eq_true_iff]; omega)

theorem Second_any (l b : Int) (w : World) (hl0 : 0 ≤ l) (hl1 : l ≤ 255) (h0 : 0 ≤ b) (h1 : b ≤ 255) (hT : Tab w) :
    Calls Tryd.prog 80 #[.int .u8 l, .int .u8 b] w fun e w' => e = .returned (.bool (sec l b)) ∧ w' = w := by
  go_enter Tryd.func80, Tryd.ntmps80
  go_wp2_with (first | (go_at_call 71; refine (Need_any _ _ hl0 hl1 hT).mono ?_; rintro e w' ⟨rfl, rfl⟩) | (go_at_call 79; refine (Class_any _ _ h0 h1 hT).mono ?_; rintro e w' ⟨rfl, rfl⟩))
  all_goals go_ret
  all_goals refine ⟨ret_bool (sec_ways ?_), rfl⟩
  all_goals first
    | (refine Or.inl ⟨?_, rfl⟩; assumption)
    | (refine Or.inr (Or.inl ⟨?_, rfl⟩); assumption)
    | simp [*]

end Go.Proofs.YtkdnanlgkedjgabDoor
end
