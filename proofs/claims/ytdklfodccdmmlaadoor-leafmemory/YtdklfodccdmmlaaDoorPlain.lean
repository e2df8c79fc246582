/- Plain functions of layer 1 (the classes of bytes, how many bytes an encoding has, which second byte may stand): definitions and facts about numbers, nothing of the program. -/
namespace Go.Proofs.YtdklfodccdmmlaaDoor

def cls (b : Int) : Int := if b < 128 then 1 else if b < 192 then 2 else if b < 194 then 6 else if b < 224 then 3 else if b < 240 then 4 else if b < 245 then 5 else 6
def need (b : Int) : Int := if b < 128 then 1 else if b < 194 then 0 else if b < 224 then 2 else if b < 240 then 3 else if b < 245 then 4 else 0
def isTail (b : Int) : Bool := decide (128 ≤ b ∧ b < 192)
def sec (l b : Int) : Bool := decide (194 ≤ l ∧ l < 245 ∧ 128 ≤ b ∧ b < 192 ∧ (l = 224 → 160 ≤ b) ∧ (l = 237 → b ≤ 159) ∧ (l = 240 → 144 ≤ b) ∧ (l = 244 → b ≤ 143))

theorem cls_lo (b : Int) : 1 ≤ cls b := by unfold cls; repeat (split; omega); omega
theorem cls_hi (b : Int) : cls b ≤ 6 := by unfold cls; repeat (split; omega); omega
theorem need_lo (b : Int) : 0 ≤ need b := by unfold need; repeat (split; omega); omega
theorem need_hi (b : Int) : need b ≤ 4 := by unfold need; repeat (split; omega); omega
theorem cls_never {b : Int} (h : ¬ b < 245) : cls b = 6 := by unfold cls; repeat (rw [if_neg (by omega)])
theorem cls_tail (b : Int) : (cls b = 2) = (128 ≤ b ∧ b < 192) := by
  apply propext; unfold cls
  constructor
  · intro h; repeat (split at h; omega); omega
  · intro h; rw [if_neg (by omega), if_pos (by omega)]
/-- what Need's switch says, arm by arm -/
theorem need_1 {b : Int} (h : cls b = 1) : need b = 1 := by
  unfold cls at h; unfold need; repeat (first | omega | split at h | split)
theorem need_3 {b : Int} (h : cls b = 3) : need b = 2 := by
  unfold cls at h; unfold need; repeat (first | omega | split at h | split)
theorem need_4 {b : Int} (h : cls b = 4) : need b = 3 := by
  unfold cls at h; unfold need; repeat (first | omega | split at h | split)
theorem need_5 {b : Int} (h : cls b = 5) : need b = 4 := by
  unfold cls at h; unfold need; repeat (first | omega | split at h | split)
theorem need_0 {b : Int} (h1 : ¬ cls b = 1) (h3 : ¬ cls b = 3) (h4 : ¬ cls b = 4) (h5 : ¬ cls b = 5) : need b = 0 := by
  unfold cls at h1 h3 h4 h5; unfold need; repeat (first | omega | split at h1 | split)
theorem need_two (b : Int) : (need b < 2) = (b < 194 ∨ 245 ≤ b) := by
  apply propext; unfold need
  constructor
  · intro h; repeat (first | omega | split at h)
  · intro h; repeat (first | omega | split)

/-- just one rune's encoding -/
def whole : List Int → Bool
  | [] => false
  | a :: r => decide ((r.length : Int) + 1 = need a) && (match r with | [] => true | b :: t => sec a b && t.all isTail)

theorem whole_one {a : Int} (h : need a = 1) : whole [a] = true := by simp [whole, h]
theorem whole_len {a : Int} {r : List Int} (h : ¬ (r.length : Int) + 1 = need a) : whole (a :: r) = false := by simp [whole, h]
theorem whole_more {a b : Int} {t : List Int} (h : (t.length : Int) + 2 = need a) : whole (a :: b :: t) = (sec a b && t.all isTail) := by
  have : ((b :: t).length : Int) + 1 = need a := by simp only [List.length_cons]; omega
  simp only [whole, this, decide_true, Bool.true_and]

/-- what the first byte gives, and the others behind it -/
def lead (a : Int) : Int := if need a = 2 then a % 32 else if need a = 3 then a % 16 else if need a = 4 then a % 8 else a
def fold (v : Int) : List Int → Int
  | [] => v
  | t :: r => fold (v * 64 + t % 64) r
def value : List Int → Int
  | [] => -1
  | a :: r => if whole (a :: r) then fold (lead a) r else -1

theorem fold_snoc (v : Int) (l : List Int) (t : Int) : fold v (l ++ [t]) = fold v l * 64 + t % 64 := by
  induction l generalizing v with
  | nil => rfl
  | cons x l ih => exact ih _
theorem fold_take (v : Int) (l : List Int) (k : Nat) (h : k < l.length) : fold v (l.take (k + 1)) = fold v (l.take k) * 64 + l.getD k 0 % 64 := by
  rw [List.take_succ_eq_append_getElem h, fold_snoc]
  simp [List.getD, List.getElem?_eq_getElem h]
theorem need_range (a : Int) : (need a = 1 → a < 128) ∧ (need a = 2 → 194 ≤ a ∧ a < 224) ∧ (need a = 3 → 224 ≤ a ∧ a < 240) ∧ (need a = 4 → 240 ≤ a ∧ a < 245) := by
  unfold need; refine ⟨?_, ?_, ?_, ?_⟩ <;> intro h <;> repeat (first | omega | split at h)
theorem lead_2 {a : Int} (h : need a = 2) : lead a = a % 32 := by simp [lead, h]
theorem lead_3 {a : Int} (h : need a = 3) : lead a = a % 16 := by simp [lead, h]
theorem lead_4 {a : Int} (h : need a = 4) : lead a = a % 8 := by simp [lead, h]
theorem lead_1 {a : Int} (h2 : ¬ need a = 2) (h3 : ¬ need a = 3) (h4 : ¬ need a = 4) : lead a = a := by simp [lead, h2, h3, h4]
/-- while a byte is still to come what stands so far is small -/
theorem fold_small {a : Int} {r : List Int} (h : (r.length : Int) + 1 = need a) (k : Nat) (hk : k < r.length) : 0 ≤ fold (lead a) (r.take k) ∧ fold (lead a) (r.take k) ≤ 32767 := by
  have hn := need_hi a
  match r with
  | [] => simp at hk
  | [b] =>
    rw [lead_2 (by simpa using h.symm)]
    obtain rfl : k = 0 := by simp at hk; omega
    simp [fold]; omega
  | [b, c] =>
    rw [lead_3 (by simpa using h.symm)]
    simp at hk
    match k with
    | 0 => simp [fold]; omega
    | 1 => simp [fold]; omega
  | [b, c, d] =>
    rw [lead_4 (by simpa using h.symm)]
    simp at hk
    match k with
    | 0 => simp [fold]; omega
    | 1 => simp [fold]; omega
    | 2 => simp [fold]; omega
  | b :: c :: d :: e :: t => simp only [List.length_cons] at h; omega
theorem fold_wide {a : Int} {r : List Int} (h0 : 0 ≤ a) (h : (r.length : Int) + 1 = need a) : 0 ≤ fold (lead a) r ∧ fold (lead a) r ≤ 2097151 := by
  match r with
  | [] =>
    have := need_range a
    have hn : need a = 1 := by simpa using h.symm
    rw [lead_1 (by omega) (by omega) (by omega)]
    simp [fold]; omega
  | b :: t =>
    have hs := fold_small h t.length (by simp)
    have := fold_take (lead a) (b :: t) t.length (by simp)
    have e : (b :: t).take (t.length + 1) = b :: t := List.take_of_length_le (by simp)
    rw [e] at this
    omega

/-- is the number a rune, and a rune's encoding -/
def isRune (r : Int) : Bool := decide (0 ≤ r ∧ r < 55296 ∨ 57343 < r ∧ r ≤ 1114111)
def enc (r : Int) : List Int :=
  if isRune r then (if r < 128 then [r] else if r < 2048 then [192 + r / 64, 128 + r % 64] else if r < 65536 then [224 + r / 4096, 128 + r / 64 % 64, 128 + r % 64] else [240 + r / 262144, 128 + r / 4096 % 64, 128 + r / 64 % 64, 128 + r % 64]) else [239, 191, 189]

theorem isRune_true {r : Int} (h : 0 ≤ r ∧ r < 55296 ∨ 57343 < r ∧ r ≤ 1114111) : isRune r = true := by unfold isRune; exact decide_eq_true h
theorem isRune_false {r : Int} (h : ¬ (0 ≤ r ∧ r < 55296 ∨ 57343 < r ∧ r ≤ 1114111)) : isRune r = false := by unfold isRune; exact decide_eq_false h
theorem enc_1 {r : Int} (h0 : 0 ≤ r) (h1 : r < 128) : enc r = [r] := by unfold enc; rw [if_pos (isRune_true (by omega)), if_pos h1]
theorem enc_2 {r : Int} (h0 : 128 ≤ r) (h1 : r < 2048) : enc r = [192 + r / 64, 128 + r % 64] := by unfold enc; rw [if_pos (isRune_true (by omega)), if_neg (by omega), if_pos h1]
theorem enc_3 {r : Int} (h0 : 2048 ≤ r) (h1 : r < 65536) (h2 : r < 55296 ∨ 57343 < r) : enc r = [224 + r / 4096, 128 + r / 64 % 64, 128 + r % 64] := by
  unfold enc; rw [if_pos (isRune_true (by omega)), if_neg (by omega), if_neg (by omega), if_pos h1]
theorem enc_4 {r : Int} (h0 : 65536 ≤ r) (h1 : r ≤ 1114111) : enc r = [240 + r / 262144, 128 + r / 4096 % 64, 128 + r / 64 % 64, 128 + r % 64] := by
  unfold enc; rw [if_pos (isRune_true (by omega)), if_neg (by omega), if_neg (by omega), if_neg (by omega)]
theorem enc_bad {r : Int} (h : ¬ (0 ≤ r ∧ r < 55296 ∨ 57343 < r ∧ r ≤ 1114111)) : enc r = [239, 191, 189] := by unfold enc; rw [isRune_false h]; rfl

end Go.Proofs.YtdklfodccdmmlaaDoor
