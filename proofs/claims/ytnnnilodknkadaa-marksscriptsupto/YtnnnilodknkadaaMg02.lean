/- Contracts of Class, Need and Second of the program and of the document's answer: each answers by the plain functions and leaves the world as it was, wherever the table of classes holds what the program's text lays. · Contracts of allTails, Whole and Value of the program over a []byte that lies in memory: each answers by the plain functions and leaves the world as it was. · Contracts of leadBits and Value of the program over a []byte that lies in memory: each answers by the plain functions; Value only draws. · Contracts of isRune, tailOf and Bytes of the program: Bytes answers the plain encoding, in new memory. · awake answers true wherever the table holds the classes, and changes nothing that was there. · Plain facts about encodings: what an encoding is whole for, its value, its length, that no encoding stands within another, and that strings of bytes are alike just if the bytes are. -/
import Derived.Test.YtnnnilodknkadaaRows
import Derived.Test.YtnnnilodknkadaaMg01
import Derived.WalkKit
import Derived.ProofKit
import Derived.OpenShut
import Derived.WalkSpells
import Derived.Outline
import Derived.Deep.QuietTactic
import Derived.BigQuiet
import Derived.Lib.SlBytesConst
import Derived.Laws.BytesArg
import Derived.Lib.Bytes

section
namespace Go.Proofs.Ytnnnilodknkadaa
open Go.ChangeShapes Go.WideShapes Go.ChangeAt Go.RowKit

theorem hide {p : Prop} (h : p) : Hid p := h
theorem unhide {p : Prop} (h : Hid p) : p := h
theorem ret_int {k : IntKind} {a b : Int} (h : a = b) : Ending.returned (.int k a) = .returned (.int k b) := by rw [h]
theorem ret_bool {a b : Bool} (h : a = b) : Ending.returned (.bool a) = .returned (.bool b) := by rw [h]

theorem need_ways {b n : Int} (h : (cls b == 1) = true ∧ n = 1 ∨ (cls b == 3) = true ∧ n = 2 ∨ (cls b == 4) = true ∧ n = 3 ∨ (cls b == 5) = true ∧ n = 4 ∨
    (cls b == 1) = false ∧ (cls b == 3) = false ∧ (cls b == 4) = false ∧ (cls b == 5) = false ∧ n = 0) : n = need b := by
  simp only [beq_iff_eq, beq_eq_false_iff_ne] at h
  rcases h with ⟨h, rfl⟩ | ⟨h, rfl⟩ | ⟨h, rfl⟩ | ⟨h, rfl⟩ | ⟨a, b', c, d, rfl⟩
  · exact (need_1 h).symm
  · exact (need_3 h).symm
  · exact (need_4 h).symm
  · exact (need_5 h).symm
  · exact (need_0 a b' c d).symm

theorem sec_ways {l b : Int} {v : Bool} (h : (need l < 2 ∧ v = false) ∨ ((need l < 2 ∨ (cls b != 2) = true) ∧ v = false) ∨ (2 ≤ need l ∧ (cls b != 2) = false) ∧
    ((l == 224) = true ∧ v = decide (160 ≤ b) ∨ (l == 224) = false ∧ ((l == 237) = true ∧ v = decide (b ≤ 159) ∨ (l == 237) = false ∧ ((l == 240) = true ∧ v = decide (144 ≤ b) ∨
      (l == 240) = false ∧ ((l == 244) = true ∧ v = decide (b ≤ 143) ∨ (l == 244) = false ∧ v = true))))) : v = sec l b := by
  have hn := need_two l
  have hc := cls_tail b
  have h2 : (2 ≤ need l) = (194 ≤ l ∧ l < 245) := propext ⟨fun h => by have := (congrArg Not hn).mp (by omega); omega, fun h => by have := (congrArg Not hn).mpr (by omega); omega⟩
  simp only [beq_iff_eq, beq_eq_false_iff_ne, bne_iff_ne, bne_eq_false_iff_eq, ne_eq, hn, hc, h2] at h
  unfold sec
  rcases h with ⟨h, rfl⟩ | ⟨h, rfl⟩ | ⟨⟨h3, h4⟩, h⟩
  · symm; rw [decide_eq_false_iff_not]; omega
  · symm; rw [decide_eq_false_iff_not]; omega
  · rcases h with ⟨h, rfl⟩ | ⟨h5, ⟨h, rfl⟩ | ⟨h6, ⟨h, rfl⟩ | ⟨h7, ⟨h, rfl⟩ | ⟨h8, rfl⟩⟩⟩⟩
    all_goals first
      | (rw [decide_eq_decide]; omega)
      | (symm; rw [decide_eq_true_iff]; omega)

end Go.Proofs.Ytnnnilodknkadaa
end

section
namespace Go.Proofs.Ytnnnilodknkadaa
open Go.ChangeShapes Go.WideShapes Go.ChangeAt Go.RowKit

/-- the bytes l lie in block g from off on -/
def Lies (w : World) (g off : Nat) (l : List Int) : Prop := ∀ i, i < l.length → w.cell? ⟨g, off + i, none⟩ = some (.int .u8 (l.getD i 0)) ∧ 0 ≤ l.getD i 0 ∧ l.getD i 0 ≤ 255

theorem all_upto {l : List Int} (h : ∀ j, j < l.length → isTail (l.getD j 0) = true) : l.all isTail = true := by
  rw [List.all_eq_true]
  intro x hx
  obtain ⟨i, hi, rfl⟩ := List.getElem_of_mem hx
  have := h i hi
  simpa [List.getD, List.getElem?_eq_getElem hi] using this
theorem all_not {l : List Int} {k : Nat} (hk : k < l.length) (h : isTail (l.getD k 0) = false) : l.all isTail = false := by
  rw [List.all_eq_false]
  refine ⟨l[k], List.getElem_mem hk, ?_⟩
  simpa [List.getD, List.getElem?_eq_getElem hk] using h
theorem isTail_cls (b : Int) : isTail b = !(cls b != 2) := by
  have := cls_tail b
  unfold isTail
  rw [Bool.eq_iff_iff]
  simp [← this]

theorem Lies.drewN {w : World} {g off : Nat} {l : List Int} (h : Lies w g off l) (n : Nat) : Lies (w.drewN n) g off l := h
theorem Lies.tail {w : World} {g off : Nat} {a : Int} {l : List Int} (h : Lies w g off (a :: l)) : Lies w g (off + 1) l := by
  intro i hi
  have := h (i + 1) (by simp; omega)
  simpa [Nat.add_assoc, Nat.add_comm 1 i] using this
theorem Lies.head {w : World} {g off : Nat} {a : Int} {l : List Int} (h : Lies w g off (a :: l)) : w.cell? ⟨g, off, none⟩ = some (.int .u8 a) ∧ 0 ≤ a ∧ a ≤ 255 := by
  have := h 0 (by simp)
  simpa using this

/-- a []byte at a0 whose bytes are l (where there are none, a0 is whatever it is) -/
def Bs (w : World) (a0 : Option Addr) (l : List Int) : Prop := l = [] ∨ ∃ g off, a0 = some ⟨g, off, none⟩ ∧ Lies w g off l
/-- a []byte that came in: its bytes, its room -/
def IsB (w : World) (a0 : Option Addr) (cap : Nat) (l : List Int) : Prop := l.length ≤ cap ∧ l.length ≤ 140737488351232 ∧ Bs w a0 l ∧ ∀ x ∈ l, 0 ≤ x ∧ x ≤ 255
theorem Bs.drewN {w : World} {a0 : Option Addr} {l : List Int} (h : Bs w a0 l) (n : Nat) : Bs (w.drewN n) a0 l := h
theorem Bs.from2 {w : World} {g off cap : Nat} {a b : Int} {t : List Int} (hcap : t.length + 2 ≤ cap) (h : Lies w g off (a :: b :: t)) :
    Bs w (if cap = 2 then some ⟨g, off, none⟩ else some ⟨g, off + 2, none⟩) t := by
  by_cases hc : cap = 2
  · exact Or.inl (List.length_eq_zero_iff.1 (by omega))
  · rw [if_neg hc]; exact Or.inr ⟨g, off + 2, rfl, h.tail.tail⟩
theorem Bs.from1 {w : World} {g off cap : Nat} {a : Int} {t : List Int} (hcap : t.length + 1 ≤ cap) (h : Lies w g off (a :: t)) :
    Bs w (if cap = 1 then some ⟨g, off, none⟩ else some ⟨g, off + 1, none⟩) t := by
  by_cases hc : cap = 1
  · exact Or.inl (List.length_eq_zero_iff.1 (by omega))
  · rw [if_neg hc]; exact Or.inr ⟨g, off + 1, rfl, h.tail⟩
end Go.Proofs.Ytnnnilodknkadaa
end

section
namespace Go.Proofs.Ytnnnilodknkadaa
open Go.ChangeShapes Go.WideShapes Go.ChangeAt Go.RowKit

theorem lead_ways {a v : Int} (h : (need a == 2) = true ∧ v = a % 32 ∨ (need a == 2) = false ∧ ((need a == 3) = true ∧ v = a % 16 ∨ (need a == 3) = false ∧ ((need a == 4) = true ∧ v = a % 8 ∨ (need a == 4) = false ∧ v = a))) : v = lead a := by
  simp only [beq_iff_eq, beq_eq_false_iff_ne] at h
  rcases h with ⟨h, rfl⟩ | ⟨h2, ⟨h, rfl⟩ | ⟨h3, ⟨h, rfl⟩ | ⟨h4, rfl⟩⟩⟩
  · exact (lead_2 h).symm
  · exact (lead_3 h).symm
  · exact (lead_4 h).symm
  · exact (lead_1 h2 h3 h4).symm

theorem whole_need {a : Int} {r : List Int} (h : whole (a :: r) = true) : (r.length : Int) + 1 = need a := by
  by_cases hn : (r.length : Int) + 1 = need a
  · exact hn
  · rw [whole_len hn] at h; cases h

theorem value_no {l : List Int} (h : whole l = false) : value l = -1 := by
  cases l with
  | nil => rfl
  | cons a r => simp [value, h]
theorem value_yes {a : Int} {r : List Int} (h : whole (a :: r) = true) : value (a :: r) = fold (lead a) r := by simp [value, h]

end Go.Proofs.Ytnnnilodknkadaa
end

section
namespace Go.Proofs.Ytnnnilodknkadaa
open Go.ChangeShapes Go.WideShapes Go.ChangeAt Go.RowKit

theorem i32_and63 {x : Int} (h₀ : 0 ≤ x) (h₁ : x < 2147483648) : bits .and .i32 x 63 = x % 64 := bits_mask .i32 31 (by decide) wraps_i32 6 (by decide) x h₀ h₁

/-- a new []byte that holds these bytes, and the world with it -/
def madeW (w : World) (l : List Int) : World := w.alloc (.cells (l.map (Value.int .u8)).toArray 5)
def madeV (w : World) (l : List Int) : Value := .slice (some ⟨w.heap.size, 0, none⟩) l.length l.length

end Go.Proofs.Ytnnnilodknkadaa
end

section
namespace Go.Proofs.Ytnnnilodknkadaa
open Go.ChangeShapes Go.WideShapes Go.ChangeAt Go.RowKit

theorem Lies.below {w w' : World} {B g off : Nat} {l : List Int} (h : Lies w g off l) (hb : Below B w w') (hB : g < B) : Lies w' g off l :=
  fun i hi => ⟨(hb.cell (p := ⟨g, off + i, none⟩) hB).trans (h i hi).1, (h i hi).2⟩
theorem Below.drewN {B : Nat} {a w : World} (h : Below B a w) (n : Nat) : Below B a (w.drewN n) := ⟨h.os, h.tape, h.output, h.size, h.block⟩
theorem Below.made {B : Nat} {a w : World} (h : Below B a w) (hB : B ≤ w.heap.size) (l : List Int) : Below B a (madeW w l) := h.alloc hB _

theorem lies_new (w : World) (l : List Int) (m : Nat × Nat) (hl : ∀ x ∈ l, 0 ≤ x ∧ x ≤ 255) : Lies (w.alloc (.cells (l.map (Value.int .u8)).toArray 5 m)) w.heap.size 0 l := by
  intro i hi
  refine ⟨?_, ?_⟩
  · rw [Nat.zero_add, World.cell?_alloc_mark]
    simp [List.getElem?_eq_getElem hi, List.getD]
  · have := hl _ (List.getElem_mem hi)
    simpa [List.getD, List.getElem?_eq_getElem hi] using this
theorem lies_made (w : World) (l : List Int) (hl : ∀ x ∈ l, 0 ≤ x ∧ x ≤ 255) : Lies (madeW w l) w.heap.size 0 l := lies_new w l (0, 0) hl

theorem str_made (w : World) (l : List Int) : ∀ w', Lies w' w.heap.size 0 l → (convert 67 9 (madeV w l)).run Try.prog w' = .ok (.string (strOfNums l)) w' := by
  intro w' h
  exact run_convert_bytes_arg w' 67 5 Try.underlying67 Try.underlying5 w.heap.size 0 l.length l.length l rfl (fun i hi => (h i hi).1) 9 Try.underlying9

theorem quiet_below {w w' : World} (h : ∃ n, w' = w.drewN n) (B : Nat) : Below B w w' := by
  obtain ⟨n, rfl⟩ := h
  exact Below.drewN (Below.refl B w) n
theorem lit_bytes : ∀ x ∈ ([226, 130, 172] : List Int), 0 ≤ x ∧ x ≤ 255 := by decide
theorem lit_str : strOfNums [226, 130, 172] = ⟨#[226, 130, 172]⟩ := by decide

end Go.Proofs.Ytnnnilodknkadaa
end

section
namespace Go.Proofs.Ytnnnilodknkadaa

theorem enc_cases (r : Int) {p : List Int → Prop} (h1 : 0 ≤ r → r < 128 → p [r]) (h2 : 128 ≤ r → r < 2048 → p [192 + r / 64, 128 + r % 64])
    (h3 : 2048 ≤ r → r < 65536 → (r < 55296 ∨ 57343 < r) → p [224 + r / 4096, 128 + r / 64 % 64, 128 + r % 64])
    (h4 : 65536 ≤ r → r ≤ 1114111 → p [240 + r / 262144, 128 + r / 4096 % 64, 128 + r / 64 % 64, 128 + r % 64])
    (h5 : ¬ (0 ≤ r ∧ r < 55296 ∨ 57343 < r ∧ r ≤ 1114111) → p [239, 191, 189]) : p (enc r) := by
  by_cases hr : 0 ≤ r ∧ r < 55296 ∨ 57343 < r ∧ r ≤ 1114111
  · by_cases a1 : r < 128
    · rw [enc_1 (by omega) a1]; exact h1 (by omega) a1
    · by_cases a2 : r < 2048
      · rw [enc_2 (by omega) a2]; exact h2 (by omega) a2
      · by_cases a3 : r < 65536
        · rw [enc_3 (by omega) a3 (by omega)]; exact h3 (by omega) a3 (by omega)
        · rw [enc_4 (by omega) (by omega)]; exact h4 (by omega) (by omega)
  · rw [enc_bad hr]; exact h5 hr

theorem enc_bytes (r : Int) : ∀ x ∈ enc r, 0 ≤ x ∧ x ≤ 255 := by
  apply enc_cases r (p := fun l => ∀ x ∈ l, 0 ≤ x ∧ x ≤ 255)
  · intro a b; simp; omega
  · intro a b; simp; omega
  · intro a b c; simp; omega
  · intro a b; simp; omega
  · intro a; simp

theorem need_1' {a : Int} (h1 : a < 128) : need a = 1 := by unfold need; rw [if_pos h1]
theorem need_2' {a : Int} (h0 : 194 ≤ a) (h1 : a < 224) : need a = 2 := by unfold need; rw [if_neg (by omega), if_neg (by omega), if_pos h1]
theorem need_3' {a : Int} (h0 : 224 ≤ a) (h1 : a < 240) : need a = 3 := by unfold need; rw [if_neg (by omega), if_neg (by omega), if_neg (by omega), if_pos h1]
theorem need_4' {a : Int} (h0 : 240 ≤ a) (h1 : a < 245) : need a = 4 := by unfold need; rw [if_neg (by omega), if_neg (by omega), if_neg (by omega), if_neg (by omega), if_pos h1]
theorem sec_true {l b : Int} (h : 194 ≤ l ∧ l < 245 ∧ 128 ≤ b ∧ b < 192 ∧ (l = 224 → 160 ≤ b) ∧ (l = 237 → b ≤ 159) ∧ (l = 240 → 144 ≤ b) ∧ (l = 244 → b ≤ 143)) : sec l b = true := decide_eq_true h
theorem isTail_true {b : Int} (h : 128 ≤ b ∧ b < 192) : isTail b = true := decide_eq_true h
theorem isTail_false {b : Int} (h : ¬ (128 ≤ b ∧ b < 192)) : isTail b = false := decide_eq_false h

theorem whole_enc (r : Int) : whole (enc r) = true := by
  apply enc_cases r (p := fun l => whole l = true)
  · intro a b; exact whole_one (need_1' b)
  · intro a b
    rw [whole_more (by rw [need_2' (by omega) (by omega)]; rfl), sec_true (by omega)]; rfl
  · intro a b c
    rw [whole_more (by rw [need_3' (by omega) (by omega)]; rfl), sec_true (by omega)]
    simp only [List.all_cons, List.all_nil, isTail_true (b := 128 + r % 64) (by omega)]; rfl
  · intro a b
    rw [whole_more (by rw [need_4' (by omega) (by omega)]; rfl), sec_true (by omega)]
    simp only [List.all_cons, List.all_nil, isTail_true (b := 128 + r % 64) (by omega), isTail_true (b := 128 + r / 64 % 64) (by omega)]; rfl
  · intro a; rfl

theorem value_enc (r : Int) : value (enc r) = if isRune r then r else 65533 := by
  have hw := whole_enc r
  revert hw
  apply enc_cases r (p := fun l => whole l = true → value l = if isRune r then r else 65533)
  · intro a b hw
    rw [isRune_true (by omega), if_pos rfl]
    simp only [value, hw, if_true, fold]
    exact lead_1 (by rw [need_1' b]; omega) (by rw [need_1' b]; omega) (by rw [need_1' b]; omega)
  · intro a b hw
    rw [isRune_true (by omega), if_pos rfl]
    simp only [value, hw, if_true, fold]
    rw [lead_2 (need_2' (by omega) (by omega))]; omega
  · intro a b c hw
    rw [isRune_true (by omega), if_pos rfl]
    simp only [value, hw, if_true, fold]
    rw [lead_3 (need_3' (by omega) (by omega))]; omega
  · intro a b hw
    rw [isRune_true (by omega), if_pos rfl]
    simp only [value, hw, if_true, fold]
    rw [lead_4 (need_4' (by omega) (by omega))]; omega
  · intro a hw
    rw [isRune_false a, if_neg (by simp)]
    rfl

theorem enc_inj {r s : Int} (hr : isRune r = true) (hs : isRune s = true) (h : enc r = enc s) : r = s := by
  have h1 := value_enc r
  have h2 := value_enc s
  rw [hr, if_pos rfl] at h1
  rw [hs, if_pos rfl] at h2
  rw [← h1, ← h2, h]

theorem bytes_inj {l m : List Int} (hl : ∀ x ∈ l, 0 ≤ x ∧ x ≤ 255) (hm : ∀ x ∈ m, 0 ≤ x ∧ x ≤ 255) (h1 : Lib.bytesOf l = Lib.bytesOf m) : l = m := by
  unfold Lib.bytesOf at h1
  induction l generalizing m with
  | nil => cases m with
    | nil => rfl
    | cons y m => simp at h1
  | cons x l ih => cases m with
    | nil => simp at h1
    | cons y m =>
      simp only [List.map_cons, List.cons.injEq] at h1
      have hx := hl x (by simp)
      have hy := hm y (by simp)
      have e : x = y := by
        have := congrArg UInt8.toNat h1.1
        simp at this
        omega
      rw [e, ih (fun z hz => hl z (by simp [hz])) (fun z hz => hm z (by simp [hz])) h1.2]
theorem str_beq {l m : List Int} (hl : ∀ x ∈ l, 0 ≤ x ∧ x ≤ 255) (hm : ∀ x ∈ m, 0 ≤ x ∧ x ≤ 255) : ((strOfNums l).toList == (strOfNums m).toList) = decide (l = m) := by
  rw [Lib.strOfNums_toList, Lib.strOfNums_toList]
  by_cases h : l = m
  · subst h; simp
  · rw [decide_eq_false h, beq_eq_false_iff_ne]
    exact fun e => h (bytes_inj hl hm e)

theorem utf8_enc (r : Int) : Utf8.encode r = strOfNums (enc r) := by
  have hv : Utf8.valid r = isRune r := by
    unfold Utf8.valid isRune; rw [Bool.eq_iff_iff]; simp; omega
  unfold Utf8.encode
  rw [hv]
  by_cases hr : 0 ≤ r ∧ r < 55296 ∨ 57343 < r ∧ r ≤ 1114111
  · rw [isRune_true hr]
    obtain ⟨n, rfl⟩ := Int.eq_ofNat_of_zero_le (show 0 ≤ r by omega)
    simp only [if_true, Int.toNat_natCast]
    by_cases a1 : n < 128
    · rw [if_pos a1, enc_1 (by omega) (by omega)]; simp [strOfNums]
    · rw [if_neg a1]
      by_cases a2 : n < 2048
      · rw [if_pos a2, enc_2 (by omega) (by omega)]
        simp only [strOfNums, List.map_cons, List.map_nil]
        rw [show (192 + (n : Int) / 64).toNat = 192 + n / 64 by omega, show (128 + (n : Int) % 64).toNat = 128 + n % 64 by omega]
      · rw [if_neg a2]
        by_cases a3 : n < 65536
        · rw [if_pos a3, enc_3 (by omega) (by omega) (by omega)]
          simp only [strOfNums, List.map_cons, List.map_nil]
          rw [show (224 + (n : Int) / 4096).toNat = 224 + n / 4096 by omega, show (128 + (n : Int) / 64 % 64).toNat = 128 + n / 64 % 64 by omega, show (128 + (n : Int) % 64).toNat = 128 + n % 64 by omega]
        · rw [if_neg a3, enc_4 (by omega) (by omega)]
          simp only [strOfNums, List.map_cons, List.map_nil]
          rw [show (240 + (n : Int) / 262144).toNat = 240 + n / 262144 by omega, show (128 + (n : Int) / 4096 % 64).toNat = 128 + n / 4096 % 64 by omega, show (128 + (n : Int) / 64 % 64).toNat = 128 + n / 64 % 64 by omega, show (128 + (n : Int) % 64).toNat = 128 + n % 64 by omega]
  · rw [isRune_false hr, enc_bad hr]
    simp only [Bool.false_eq_true, if_false]
    decide

/-- a first byte is no Tail; the others are -/
theorem whole_tails {a : Int} {r : List Int} (h : whole (a :: r) = true) : ∀ x ∈ r, isTail x = true := by
  cases r with
  | nil => simp
  | cons b t =>
    simp only [whole, Bool.and_eq_true, decide_eq_true_eq] at h
    obtain ⟨_, hs, ht⟩ := h
    intro x hx
    rcases List.mem_cons.1 hx with rfl | hx
    · have := of_decide_eq_true hs
      exact isTail_true ⟨this.2.2.1, this.2.2.2.1⟩
    · exact List.all_eq_true.1 ht x hx
theorem whole_first {a : Int} {r : List Int} (h : whole (a :: r) = true) : isTail a = false ∧ (r.length : Int) + 1 = need a := by
  simp only [whole, Bool.and_eq_true, decide_eq_true_eq] at h
  obtain ⟨h1, _⟩ := h
  refine ⟨isTail_false fun hh => ?_, h1⟩
  have : need a = 0 := by unfold need; rw [if_neg (by omega), if_pos (by omega)]
  omega

/-- no encoding stands within another one -/
theorem whole_within {l m : List Int} (hl : whole l = true) (hm : whole m = true) (i : Nat) (h : (m.drop i).take l.length = l) : l = m := by
  cases l with
  | nil => cases hl
  | cons a r => cases m with
    | nil => cases hm
    | cons b t =>
      obtain ⟨ha, hn⟩ := whole_first hl
      obtain ⟨hb, hk⟩ := whole_first hm
      cases i with
      | zero =>
        simp only [List.drop_zero, List.length_cons, List.take_succ_cons, List.cons.injEq] at h
        obtain ⟨rfl, h⟩ := h
        have : t.length = r.length := by omega
        rw [← this, List.take_length] at h
        rw [h]
      | succ j =>
        exfalso
        simp only [List.drop_succ_cons] at h
        have : a ∈ (t.drop j).take (a :: r).length := by rw [h]; simp
        have := whole_tails hm a (List.mem_of_mem_drop (List.mem_of_mem_take this))
        rw [ha] at this
        cases this

end Go.Proofs.Ytnnnilodknkadaa
end
