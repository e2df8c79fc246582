/- Plain facts about encodings: what an encoding is whole for, its value, its length, that no encoding stands within another, and that strings of bytes are alike just if the bytes are. -/
import Derived.Test.YtkdnanlgkedjgabDoorDn01
import Derived.Laws.BytesArg
import Derived.Lib.Bytes

namespace Go.Proofs.YtkdnanlgkedjgabDoor

theorem enc_cases (r : Int) {p : List Int → Prop} (h1 : 0 ≤ r → r < 128 → p [r]) (h2 : 128 ≤ r → r < 2048 → p [192 + r / 64, 128 + r % 64])
    (h3 : 2048 ≤ r → r < 65536 → (r < 55296 ∨ 57343 < r) → p [224 + r / 4096, 128 + r / 64 % 64, 128 + r % 64])
    (h4 : 65536 ≤ r → r ≤ 1114111 → p [240 + r / 262144, 128 + r / 4096 % 64, 128 + r / 64 % 64, 128 + r % 64])
    (h5 : ¬ (0 ≤ r ∧ r < 55296 ∨ 57343 < r ∧ r ≤ 1114111) → p [239, 191, 189]) : p (enc r) := by
  by_cases hr : 0 ≤ r ∧ r < 55296 ∨ 57343 < r ∧ r ≤ 1114111
  · by_cases a1 : r < 128
    · rw [enc_1 (by omega) a1]; exact h1 (by omega) a1
    · by_cases a2 : r < 2048
      · rw [enc_2 (by omega) a2]; exact h2 (by omega) a2
      · by_cases a3 : r < 65536
        · rw [enc_3 (by omega) a3 (by omega)]; exact h3 (by omega) a3 (by omega)
        · rw [enc_4 (by omega) (by omega)]; exact h4 (by omega) (by omega)
  · rw [enc_bad hr]; exact h5 hr

theorem enc_bytes (r : Int) : ∀ x ∈ enc r, 0 ≤ x ∧ x ≤ 255 := by
  apply enc_cases r (p := fun l => ∀ x ∈ l, 0 ≤ x ∧ x ≤ 255)
  · intro a b; simp; omega
  · intro a b; simp; omega
  · intro a b c; simp; omega
  · intro a b; simp; omega
  · intro a; simp

theorem need_1' {a : Int} (h1 : a < 128) : need a = 1 := by unfold need; rw [if_pos h1]
theorem need_2' {a : Int} (h0 : 194 ≤ a) (h1 : a < 224) : need a = 2 := by unfold need; rw [if_neg (by omega), if_neg (by omega), if_pos h1]
theorem need_3' {a : Int} (h0 : 224 ≤ a) (h1 : a < 240) : need a = 3 := by unfold need; rw [if_neg (by omega), if_neg (by omega), if_neg (by omega), if_pos h1]
theorem need_4' {a : Int} (h0 : 240 ≤ a) (h1 : a < 245) : need a = 4 := by unfold need; rw [if_neg (by omega), if_neg (by omega), if_neg (by omega), if_neg (by omega), if_pos h1]
theorem sec_true {l b : Int} (h : 194 ≤ l ∧ l < 245 ∧ 128 ≤ b ∧ b < 192 ∧ (l = 224 → 160 ≤ b) ∧ (l = 237 → b ≤ 159) ∧ (l = 240 → 144 ≤ b) ∧ (l = 244 → b ≤ 143)) : sec l b = true := decide_eq_true h
theorem isTail_true {b : Int} (h : 128 ≤ b ∧ b < 192) : isTail b = true := decide_eq_true h
theorem isTail_false {b : Int} (h : ¬ (128 ≤ b ∧ b < 192)) : isTail b = false := decide_eq_false h

theorem whole_enc (r : Int) : whole (enc r) = true := by
  apply enc_cases r (p := fun l => whole l = true)
  · intro a b; exact whole_one (need_1' b)
  · intro a b
    rw [whole_more (by rw [need_2' (by omega) (by omega)]; rfl), sec_true (by omega)]; rfl
  · intro a b c
    rw [whole_more (by rw [need_3' (by omega) (by omega)]; rfl), sec_true (by omega)]
    simp only [List.all_cons, List.all_nil, isTail_true (b := 128 + r % 64) (by omega)]; rfl
  · intro a b
    rw [whole_more (by rw [need_4' (by omega) (by omega)]; rfl), sec_true (by omega)]
    simp only [List.all_cons, List.all_nil, isTail_true (b := 128 + r % 64) (by omega), isTail_true (b := 128 + r / 64 % 64) (by omega)]; rfl
  · intro a; rfl

theorem value_enc (r : Int) : value (enc r) = if isRune r then r else 65533 := by
  have hw := whole_enc r
  revert hw
  apply enc_cases r (p := fun l => whole l = true → value l = if isRune r then r else 65533)
  · intro a b hw
    rw [isRune_true (by omega), if_pos rfl]
    simp only [value, hw, if_true, fold]
    exact lead_1 (by rw [need_1' b]; omega) (by rw [need_1' b]; omega) (by rw [need_1' b]; omega)
  · intro a b hw
    rw [isRune_true (by omega), if_pos rfl]
    simp only [value, hw, if_true, fold]
    rw [lead_2 (need_2' (by omega) (by omega))]; omega
  · intro a b c hw
    rw [isRune_true (by omega), if_pos rfl]
    simp only [value, hw, if_true, fold]
    rw [lead_3 (need_3' (by omega) (by omega))]; omega
  · intro a b hw
    rw [isRune_true (by omega), if_pos rfl]
    simp only [value, hw, if_true, fold]
    rw [lead_4 (need_4' (by omega) (by omega))]; omega
  · intro a hw
    rw [isRune_false a, if_neg (by simp)]
    rfl

theorem enc_inj {r s : Int} (hr : isRune r = true) (hs : isRune s = true) (h : enc r = enc s) : r = s := by
  have h1 := value_enc r
  have h2 := value_enc s
  rw [hr, if_pos rfl] at h1
  rw [hs, if_pos rfl] at h2
  rw [← h1, ← h2, h]

theorem bytes_inj {l m : List Int} (hl : ∀ x ∈ l, 0 ≤ x ∧ x ≤ 255) (hm : ∀ x ∈ m, 0 ≤ x ∧ x ≤ 255) (h1 : Lib.bytesOf l = Lib.bytesOf m) : l = m := by
  unfold Lib.bytesOf at h1
  induction l generalizing m with
  | nil => cases m with
    | nil => rfl
    | cons y m => simp at h1
  | cons x l ih => cases m with
    | nil => simp at h1
    | cons y m =>
      simp only [List.map_cons, List.cons.injEq] at h1
      have hx := hl x (by simp)
      have hy := hm y (by simp)
      have e : x = y := by
        have := congrArg UInt8.toNat h1.1
        simp at this
        omega
      rw [e, ih (fun z hz => hl z (by simp [hz])) (fun z hz => hm z (by simp [hz])) h1.2]
theorem str_beq {l m : List Int} (hl : ∀ x ∈ l, 0 ≤ x ∧ x ≤ 255) (hm : ∀ x ∈ m, 0 ≤ x ∧ x ≤ 255) : ((strOfNums l).toList == (strOfNums m).toList) = decide (l = m) := by
  rw [Lib.strOfNums_toList, Lib.strOfNums_toList]
  by_cases h : l = m
  · subst h; simp
  · rw [decide_eq_false h, beq_eq_false_iff_ne]
    exact fun e => h (bytes_inj hl hm e)

theorem utf8_enc (r : Int) : Utf8.encode r = strOfNums (enc r) := by
  have hv : Utf8.valid r = isRune r := by
    unfold Utf8.valid isRune; rw [Bool.eq_iff_iff]; simp; omega
  unfold Utf8.encode
  rw [hv]
  by_cases hr : 0 ≤ r ∧ r < 55296 ∨ 57343 < r ∧ r ≤ 1114111
  · rw [isRune_true hr]
    obtain ⟨n, rfl⟩ := Int.eq_ofNat_of_zero_le (show 0 ≤ r by omega)
    simp only [if_true, Int.toNat_natCast]
    by_cases a1 : n < 128
    · rw [if_pos a1, enc_1 (by omega) (by omega)]; simp [strOfNums]
    · rw [if_neg a1]
      by_cases a2 : n < 2048
      · rw [if_pos a2, enc_2 (by omega) (by omega)]
        simp only [strOfNums, List.map_cons, List.map_nil]
        rw [show (192 + (n : Int) / 64).toNat = 192 + n / 64 by omega, show (128 + (n : Int) % 64).toNat = 128 + n % 64 by omega]
      · rw [if_neg a2]
        by_cases a3 : n < 65536
        · rw [if_pos a3, enc_3 (by omega) (by omega) (by omega)]
          simp only [strOfNums, List.map_cons, List.map_nil]
          rw [show (224 + (n : Int) / 4096).toNat = 224 + n / 4096 by omega, show (128 + (n : Int) / 64 % 64).toNat = 128 + n / 64 % 64 by omega, show (128 + (n : Int) % 64).toNat = 128 + n % 64 by omega]
        · rw [if_neg a3, enc_4 (by omega) (by omega)]
          simp only [strOfNums, List.map_cons, List.map_nil]
          rw [show (240 + (n : Int) / 262144).toNat = 240 + n / 262144 by omega, show (128 + (n : Int) / 4096 % 64).toNat = 128 + n / 4096 % 64 by omega, show (128 + (n : Int) / 64 % 64).toNat = 128 + n / 64 % 64 by omega, show (128 + (n : Int) % 64).toNat = 128 + n % 64 by omega]
  · rw [isRune_false hr, enc_bad hr]
    simp only [Bool.false_eq_true, if_false]
    decide

/-- a first byte is no Tail; the others are -/
theorem whole_tails {a : Int} {r : List Int} (h : whole (a :: r) = true) : ∀ x ∈ r, isTail x = true := by
  cases r with
  | nil => simp
  | cons b t =>
    simp only [whole, Bool.and_eq_true, decide_eq_true_eq] at h
    obtain ⟨_, hs, ht⟩ := h
    intro x hx
    rcases List.mem_cons.1 hx with rfl | hx
    · have := of_decide_eq_true hs
      exact isTail_true ⟨this.2.2.1, this.2.2.2.1⟩
    · exact List.all_eq_true.1 ht x hx
theorem whole_first {a : Int} {r : List Int} (h : whole (a :: r) = true) : isTail a = false ∧ (r.length : Int) + 1 = need a := by
  simp only [whole, Bool.and_eq_true, decide_eq_true_eq] at h
  obtain ⟨h1, _⟩ := h
  refine ⟨isTail_false fun hh => ?_, h1⟩
  have : need a = 0 := by unfold need; rw [if_neg (by omega), if_pos (by omega)]
  omega

/-- no encoding stands within another one -/
theorem whole_within {l m : List Int} (hl : whole l = true) (hm : whole m = true) (i : Nat) (h : (m.drop i).take l.length = l) : l = m := by
  cases l with
  | nil => cases hl
  | cons a r => cases m with
    | nil => cases hm
    | cons b t =>
      obtain ⟨ha, hn⟩ := whole_first hl
      obtain ⟨hb, hk⟩ := whole_first hm
      cases i with
      | zero =>
        simp only [List.drop_zero, List.length_cons, List.take_succ_cons, List.cons.injEq] at h
        obtain ⟨rfl, h⟩ := h
        have : t.length = r.length := by omega
        rw [← this, List.take_length] at h
        rw [h]
      | succ j =>
        exfalso
        simp only [List.drop_succ_cons] at h
        have : a ∈ (t.drop j).take (a :: r).length := by rw [h]; simp
        have := whole_tails hm a (List.mem_of_mem_drop (List.mem_of_mem_take this))
        rw [ha] at this
        cases this

end Go.Proofs.YtkdnanlgkedjgabDoor
