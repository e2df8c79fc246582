/- Plain functions of layer 1 (the classes of bytes, how many bytes an encoding has, which second byte may stand): definitions and facts about numbers, nothing of the program. · Contracts of Class, Need and Second of the program and of the document's answer: each answers by the plain functions and leaves the world as it was, wherever the table of classes holds what the program's text lays. · Contracts of allTails, Whole and Value of the program over a []byte that lies in memory: each answers by the plain functions and leaves the world as it was. · Contracts of leadBits and Value of the program over a []byte that lies in memory: each answers by the plain functions; Value only draws. · Contracts of isRune, tailOf and Bytes of the program: Bytes answers the plain encoding, in new memory. -/
import Derived.Test.YtdemagijhmbdcaaRows
import Derived.WalkKit
import Derived.ProofKit
import Derived.OpenShut
import Derived.WalkSpells
import Derived.Outline
import Derived.Deep.QuietTactic
import Derived.BigQuiet

section
namespace Go.Proofs.Ytdemagijhmbdcaa

def cls (b : Int) : Int := if b < 128 then 1 else if b < 192 then 2 else if b < 194 then 6 else if b < 224 then 3 else if b < 240 then 4 else if b < 245 then 5 else 6
def need (b : Int) : Int := if b < 128 then 1 else if b < 194 then 0 else if b < 224 then 2 else if b < 240 then 3 else if b < 245 then 4 else 0
def isTail (b : Int) : Bool := decide (128 ≤ b ∧ b < 192)
def sec (l b : Int) : Bool := decide (194 ≤ l ∧ l < 245 ∧ 128 ≤ b ∧ b < 192 ∧ (l = 224 → 160 ≤ b) ∧ (l = 237 → b ≤ 159) ∧ (l = 240 → 144 ≤ b) ∧ (l = 244 → b ≤ 143))

theorem cls_lo (b : Int) : 1 ≤ cls b := by unfold cls; repeat (split; omega); omega
theorem cls_hi (b : Int) : cls b ≤ 6 := by unfold cls; repeat (split; omega); omega
theorem need_lo (b : Int) : 0 ≤ need b := by unfold need; repeat (split; omega); omega
theorem need_hi (b : Int) : need b ≤ 4 := by unfold need; repeat (split; omega); omega
theorem cls_never {b : Int} (h : ¬ b < 245) : cls b = 6 := by unfold cls; repeat (rw [if_neg (by omega)])
theorem cls_tail (b : Int) : (cls b = 2) = (128 ≤ b ∧ b < 192) := by
  apply propext; unfold cls
  constructor
  · intro h; repeat (split at h; omega); omega
  · intro h; rw [if_neg (by omega), if_pos (by omega)]
/-- what Need's switch says, arm by arm -/
theorem need_1 {b : Int} (h : cls b = 1) : need b = 1 := by
  unfold cls at h; unfold need; repeat (first | omega | split at h | split)
theorem need_3 {b : Int} (h : cls b = 3) : need b = 2 := by
  unfold cls at h; unfold need; repeat (first | omega | split at h | split)
theorem need_4 {b : Int} (h : cls b = 4) : need b = 3 := by
  unfold cls at h; unfold need; repeat (first | omega | split at h | split)
theorem need_5 {b : Int} (h : cls b = 5) : need b = 4 := by
  unfold cls at h; unfold need; repeat (first | omega | split at h | split)
theorem need_0 {b : Int} (h1 : ¬ cls b = 1) (h3 : ¬ cls b = 3) (h4 : ¬ cls b = 4) (h5 : ¬ cls b = 5) : need b = 0 := by
  unfold cls at h1 h3 h4 h5; unfold need; repeat (first | omega | split at h1 | split)
theorem need_two (b : Int) : (need b < 2) = (b < 194 ∨ 245 ≤ b) := by
  apply propext; unfold need
  constructor
  · intro h; repeat (first | omega | split at h)
  · intro h; repeat (first | omega | split)

/-- just one rune's encoding -/
def whole : List Int → Bool
  | [] => false
  | a :: r => decide ((r.length : Int) + 1 = need a) && (match r with | [] => true | b :: t => sec a b && t.all isTail)

theorem whole_one {a : Int} (h : need a = 1) : whole [a] = true := by simp [whole, h]
theorem whole_len {a : Int} {r : List Int} (h : ¬ (r.length : Int) + 1 = need a) : whole (a :: r) = false := by simp [whole, h]
theorem whole_more {a b : Int} {t : List Int} (h : (t.length : Int) + 2 = need a) : whole (a :: b :: t) = (sec a b && t.all isTail) := by
  have : ((b :: t).length : Int) + 1 = need a := by simp only [List.length_cons]; omega
  simp only [whole, this, decide_true, Bool.true_and]

/-- what the first byte gives, and the others behind it -/
def lead (a : Int) : Int := if need a = 2 then a % 32 else if need a = 3 then a % 16 else if need a = 4 then a % 8 else a
def fold (v : Int) : List Int → Int
  | [] => v
  | t :: r => fold (v * 64 + t % 64) r
def value : List Int → Int
  | [] => -1
  | a :: r => if whole (a :: r) then fold (lead a) r else -1

theorem fold_snoc (v : Int) (l : List Int) (t : Int) : fold v (l ++ [t]) = fold v l * 64 + t % 64 := by
  induction l generalizing v with
  | nil => rfl
  | cons x l ih => exact ih _
theorem fold_take (v : Int) (l : List Int) (k : Nat) (h : k < l.length) : fold v (l.take (k + 1)) = fold v (l.take k) * 64 + l.getD k 0 % 64 := by
  rw [List.take_succ_eq_append_getElem h, fold_snoc]
  simp [List.getD, List.getElem?_eq_getElem h]
theorem need_range (a : Int) : (need a = 1 → a < 128) ∧ (need a = 2 → 194 ≤ a ∧ a < 224) ∧ (need a = 3 → 224 ≤ a ∧ a < 240) ∧ (need a = 4 → 240 ≤ a ∧ a < 245) := by
  unfold need; refine ⟨?_, ?_, ?_, ?_⟩ <;> intro h <;> repeat (first | omega | split at h)
theorem lead_2 {a : Int} (h : need a = 2) : lead a = a % 32 := by simp [lead, h]
theorem lead_3 {a : Int} (h : need a = 3) : lead a = a % 16 := by simp [lead, h]
theorem lead_4 {a : Int} (h : need a = 4) : lead a = a % 8 := by simp [lead, h]
theorem lead_1 {a : Int} (h2 : ¬ need a = 2) (h3 : ¬ need a = 3) (h4 : ¬ need a = 4) : lead a = a := by simp [lead, h2, h3, h4]
/-- while a byte is still to come what stands so far is small -/
theorem fold_small {a : Int} {r : List Int} (h : (r.length : Int) + 1 = need a) (k : Nat) (hk : k < r.length) : 0 ≤ fold (lead a) (r.take k) ∧ fold (lead a) (r.take k) ≤ 32767 := by
  have hn := need_hi a
  match r with
  | [] => simp at hk
  | [b] =>
    rw [lead_2 (by simpa using h.symm)]
    obtain rfl : k = 0 := by simp at hk; omega
    simp [fold]; omega
  | [b, c] =>
    rw [lead_3 (by simpa using h.symm)]
    simp at hk
    match k with
    | 0 => simp [fold]; omega
    | 1 => simp [fold]; omega
  | [b, c, d] =>
    rw [lead_4 (by simpa using h.symm)]
    simp at hk
    match k with
    | 0 => simp [fold]; omega
    | 1 => simp [fold]; omega
    | 2 => simp [fold]; omega
  | b :: c :: d :: e :: t => simp only [List.length_cons] at h; omega
theorem fold_wide {a : Int} {r : List Int} (h0 : 0 ≤ a) (h : (r.length : Int) + 1 = need a) : 0 ≤ fold (lead a) r ∧ fold (lead a) r ≤ 2097151 := by
  match r with
  | [] =>
    have := need_range a
    have hn : need a = 1 := by simpa using h.symm
    rw [lead_1 (by omega) (by omega) (by omega)]
    simp [fold]; omega
  | b :: t =>
    have hs := fold_small h t.length (by simp)
    have := fold_take (lead a) (b :: t) t.length (by simp)
    have e : (b :: t).take (t.length + 1) = b :: t := List.take_of_length_le (by simp)
    rw [e] at this
    omega

/-- is the number a rune, and a rune's encoding -/
def isRune (r : Int) : Bool := decide (0 ≤ r ∧ r < 55296 ∨ 57343 < r ∧ r ≤ 1114111)
def enc (r : Int) : List Int :=
  if isRune r then (if r < 128 then [r] else if r < 2048 then [192 + r / 64, 128 + r % 64] else if r < 65536 then [224 + r / 4096, 128 + r / 64 % 64, 128 + r % 64] else [240 + r / 262144, 128 + r / 4096 % 64, 128 + r / 64 % 64, 128 + r % 64]) else [239, 191, 189]

theorem isRune_true {r : Int} (h : 0 ≤ r ∧ r < 55296 ∨ 57343 < r ∧ r ≤ 1114111) : isRune r = true := by unfold isRune; exact decide_eq_true h
theorem isRune_false {r : Int} (h : ¬ (0 ≤ r ∧ r < 55296 ∨ 57343 < r ∧ r ≤ 1114111)) : isRune r = false := by unfold isRune; exact decide_eq_false h
theorem enc_1 {r : Int} (h0 : 0 ≤ r) (h1 : r < 128) : enc r = [r] := by unfold enc; rw [if_pos (isRune_true (by omega)), if_pos h1]
theorem enc_2 {r : Int} (h0 : 128 ≤ r) (h1 : r < 2048) : enc r = [192 + r / 64, 128 + r % 64] := by unfold enc; rw [if_pos (isRune_true (by omega)), if_neg (by omega), if_pos h1]
theorem enc_3 {r : Int} (h0 : 2048 ≤ r) (h1 : r < 65536) (h2 : r < 55296 ∨ 57343 < r) : enc r = [224 + r / 4096, 128 + r / 64 % 64, 128 + r % 64] := by
  unfold enc; rw [if_pos (isRune_true (by omega)), if_neg (by omega), if_neg (by omega), if_pos h1]
theorem enc_4 {r : Int} (h0 : 65536 ≤ r) (h1 : r ≤ 1114111) : enc r = [240 + r / 262144, 128 + r / 4096 % 64, 128 + r / 64 % 64, 128 + r % 64] := by
  unfold enc; rw [if_pos (isRune_true (by omega)), if_neg (by omega), if_neg (by omega), if_neg (by omega)]
theorem enc_bad {r : Int} (h : ¬ (0 ≤ r ∧ r < 55296 ∨ 57343 < r ∧ r ≤ 1114111)) : enc r = [239, 191, 189] := by unfold enc; rw [isRune_false h]; rfl

end Go.Proofs.Ytdemagijhmbdcaa
end

section
namespace Go.Proofs.Ytdemagijhmbdcaa
open Go.ChangeShapes Go.WideShapes Go.ChangeAt Go.RowKit

theorem hide {p : Prop} (h : p) : Hid p := h
theorem unhide {p : Prop} (h : Hid p) : p := h
theorem ret_int {k : IntKind} {a b : Int} (h : a = b) : Ending.returned (.int k a) = .returned (.int k b) := by rw [h]
theorem ret_bool {a b : Bool} (h : a = b) : Ending.returned (.bool a) = .returned (.bool b) := by rw [h]

theorem need_ways {b n : Int} (h : (cls b == 1) = true ∧ n = 1 ∨ (cls b == 3) = true ∧ n = 2 ∨ (cls b == 4) = true ∧ n = 3 ∨ (cls b == 5) = true ∧ n = 4 ∨
    (cls b == 1) = false ∧ (cls b == 3) = false ∧ (cls b == 4) = false ∧ (cls b == 5) = false ∧ n = 0) : n = need b := by
  simp only [beq_iff_eq, beq_eq_false_iff_ne] at h
  rcases h with ⟨h, rfl⟩ | ⟨h, rfl⟩ | ⟨h, rfl⟩ | ⟨h, rfl⟩ | ⟨a, b', c, d, rfl⟩
  · exact (need_1 h).symm
  · exact (need_3 h).symm
  · exact (need_4 h).symm
  · exact (need_5 h).symm
  · exact (need_0 a b' c d).symm

theorem sec_ways {l b : Int} {v : Bool} (h : (need l < 2 ∧ v = false) ∨ ((need l < 2 ∨ (cls b != 2) = true) ∧ v = false) ∨ (2 ≤ need l ∧ (cls b != 2) = false) ∧
    ((l == 224) = true ∧ v = decide (160 ≤ b) ∨ (l == 224) = false ∧ ((l == 237) = true ∧ v = decide (b ≤ 159) ∨ (l == 237) = false ∧ ((l == 240) = true ∧ v = decide (144 ≤ b) ∨
      (l == 240) = false ∧ ((l == 244) = true ∧ v = decide (b ≤ 143) ∨ (l == 244) = false ∧ v = true))))) : v = sec l b := by
  have hn := need_two l
  have hc := cls_tail b
  have h2 : (2 ≤ need l) = (194 ≤ l ∧ l < 245) := propext ⟨fun h => by have := (congrArg Not hn).mp (by omega); omega, fun h => by have := (congrArg Not hn).mpr (by omega); omega⟩
  simp only [beq_iff_eq, beq_eq_false_iff_ne, bne_iff_ne, bne_eq_false_iff_eq, ne_eq, hn, hc, h2] at h
  unfold sec
  rcases h with ⟨h, rfl⟩ | ⟨h, rfl⟩ | ⟨⟨h3, h4⟩, h⟩
  · symm; rw [decide_eq_false_iff_not]; omega
  · symm; rw [decide_eq_false_iff_not]; omega
  · rcases h with ⟨h, rfl⟩ | ⟨h5, ⟨h, rfl⟩ | ⟨h6, ⟨h, rfl⟩ | ⟨h7, ⟨h, rfl⟩ | ⟨h8, rfl⟩⟩⟩⟩
    all_goals first
      | (rw [decide_eq_decide]; omega)
      | (symm; rw [decide_eq_true_iff]; omega)

end Go.Proofs.Ytdemagijhmbdcaa
end

section
namespace Go.Proofs.Ytdemagijhmbdcaa
open Go.ChangeShapes Go.WideShapes Go.ChangeAt Go.RowKit

/-- the bytes l lie in block g from off on -/
def Lies (w : World) (g off : Nat) (l : List Int) : Prop := ∀ i, i < l.length → w.cell? ⟨g, off + i, none⟩ = some (.int .u8 (l.getD i 0)) ∧ 0 ≤ l.getD i 0 ∧ l.getD i 0 ≤ 255

theorem all_upto {l : List Int} (h : ∀ j, j < l.length → isTail (l.getD j 0) = true) : l.all isTail = true := by
  rw [List.all_eq_true]
  intro x hx
  obtain ⟨i, hi, rfl⟩ := List.getElem_of_mem hx
  have := h i hi
  simpa [List.getD, List.getElem?_eq_getElem hi] using this
theorem all_not {l : List Int} {k : Nat} (hk : k < l.length) (h : isTail (l.getD k 0) = false) : l.all isTail = false := by
  rw [List.all_eq_false]
  refine ⟨l[k], List.getElem_mem hk, ?_⟩
  simpa [List.getD, List.getElem?_eq_getElem hk] using h
theorem isTail_cls (b : Int) : isTail b = !(cls b != 2) := by
  have := cls_tail b
  unfold isTail
  rw [Bool.eq_iff_iff]
  simp [← this]

theorem Lies.drewN {w : World} {g off : Nat} {l : List Int} (h : Lies w g off l) (n : Nat) : Lies (w.drewN n) g off l := h
theorem Lies.tail {w : World} {g off : Nat} {a : Int} {l : List Int} (h : Lies w g off (a :: l)) : Lies w g (off + 1) l := by
  intro i hi
  have := h (i + 1) (by simp; omega)
  simpa [Nat.add_assoc, Nat.add_comm 1 i] using this
theorem Lies.head {w : World} {g off : Nat} {a : Int} {l : List Int} (h : Lies w g off (a :: l)) : w.cell? ⟨g, off, none⟩ = some (.int .u8 a) ∧ 0 ≤ a ∧ a ≤ 255 := by
  have := h 0 (by simp)
  simpa using this

/-- a []byte at a0 whose bytes are l (where there are none, a0 is whatever it is) -/
def Bs (w : World) (a0 : Option Addr) (l : List Int) : Prop := l = [] ∨ ∃ g off, a0 = some ⟨g, off, none⟩ ∧ Lies w g off l
/-- a []byte that came in: its bytes, its room -/
def IsB (w : World) (a0 : Option Addr) (cap : Nat) (l : List Int) : Prop := l.length ≤ cap ∧ l.length ≤ 140737488351232 ∧ Bs w a0 l ∧ ∀ x ∈ l, 0 ≤ x ∧ x ≤ 255
theorem Bs.drewN {w : World} {a0 : Option Addr} {l : List Int} (h : Bs w a0 l) (n : Nat) : Bs (w.drewN n) a0 l := h
theorem Bs.from2 {w : World} {g off cap : Nat} {a b : Int} {t : List Int} (hcap : t.length + 2 ≤ cap) (h : Lies w g off (a :: b :: t)) :
    Bs w (if cap = 2 then some ⟨g, off, none⟩ else some ⟨g, off + 2, none⟩) t := by
  by_cases hc : cap = 2
  · exact Or.inl (List.length_eq_zero_iff.1 (by omega))
  · rw [if_neg hc]; exact Or.inr ⟨g, off + 2, rfl, h.tail.tail⟩
theorem Bs.from1 {w : World} {g off cap : Nat} {a : Int} {t : List Int} (hcap : t.length + 1 ≤ cap) (h : Lies w g off (a :: t)) :
    Bs w (if cap = 1 then some ⟨g, off, none⟩ else some ⟨g, off + 1, none⟩) t := by
  by_cases hc : cap = 1
  · exact Or.inl (List.length_eq_zero_iff.1 (by omega))
  · rw [if_neg hc]; exact Or.inr ⟨g, off + 1, rfl, h.tail⟩
end Go.Proofs.Ytdemagijhmbdcaa
end

section
namespace Go.Proofs.Ytdemagijhmbdcaa
open Go.ChangeShapes Go.WideShapes Go.ChangeAt Go.RowKit

theorem lead_ways {a v : Int} (h : (need a == 2) = true ∧ v = a % 32 ∨ (need a == 2) = false ∧ ((need a == 3) = true ∧ v = a % 16 ∨ (need a == 3) = false ∧ ((need a == 4) = true ∧ v = a % 8 ∨ (need a == 4) = false ∧ v = a))) : v = lead a := by
  simp only [beq_iff_eq, beq_eq_false_iff_ne] at h
  rcases h with ⟨h, rfl⟩ | ⟨h2, ⟨h, rfl⟩ | ⟨h3, ⟨h, rfl⟩ | ⟨h4, rfl⟩⟩⟩
  · exact (lead_2 h).symm
  · exact (lead_3 h).symm
  · exact (lead_4 h).symm
  · exact (lead_1 h2 h3 h4).symm

theorem whole_need {a : Int} {r : List Int} (h : whole (a :: r) = true) : (r.length : Int) + 1 = need a := by
  by_cases hn : (r.length : Int) + 1 = need a
  · exact hn
  · rw [whole_len hn] at h; cases h

theorem value_no {l : List Int} (h : whole l = false) : value l = -1 := by
  cases l with
  | nil => rfl
  | cons a r => simp [value, h]
theorem value_yes {a : Int} {r : List Int} (h : whole (a :: r) = true) : value (a :: r) = fold (lead a) r := by simp [value, h]

end Go.Proofs.Ytdemagijhmbdcaa
end

section
namespace Go.Proofs.Ytdemagijhmbdcaa
open Go.ChangeShapes Go.WideShapes Go.ChangeAt Go.RowKit

theorem i32_and63 {x : Int} (h₀ : 0 ≤ x) (h₁ : x < 2147483648) : bits .and .i32 x 63 = x % 64 := bits_mask .i32 31 (by decide) wraps_i32 6 (by decide) x h₀ h₁

/-- a new []byte that holds these bytes, and the world with it -/
def madeW (w : World) (l : List Int) : World := w.alloc (.cells (l.map (Value.int .u8)).toArray 5)
def madeV (w : World) (l : List Int) : Value := .slice (some ⟨w.heap.size, 0, none⟩) l.length l.length

end Go.Proofs.Ytdemagijhmbdcaa
end
