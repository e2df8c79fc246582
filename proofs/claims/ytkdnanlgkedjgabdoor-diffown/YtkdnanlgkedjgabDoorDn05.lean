/- What ranging over a string tells at a place, in plain functions: the first step of the bytes from there on. -/
import Derived.Test.YtkdnanlgkedjgabDoorDn04
import Derived.Lib.DecodeN

namespace Go.Proofs.YtkdnanlgkedjgabDoor

/-- the first step of bytes that are not none: its rune, its width -/
def first : List Int → Int × Nat
  | [] => (65533, 1)
  | a :: r => if whole ((a :: r).take (need a).toNat) then (value ((a :: r).take (need a).toNat), (need a).toNat) else (65533, 1)

theorem first_1 {a : Int} {r : List Int} (h : a < 128) : first (a :: r) = (a, 1) := by
  have hn := need_1' h
  have hw : whole [a] = true := whole_one hn
  simp only [first, hn]
  show (if whole [a] = true then _ else _) = _
  rw [if_pos hw]
  show (value [a], 1) = (a, 1)
  simp only [value, hw, if_true, fold]
  rw [lead_1 (by omega) (by omega) (by omega)]
theorem first_0 {a : Int} {r : List Int} (h : need a = 0) : first (a :: r) = (65533, 1) := by
  simp only [first, h]
  rfl
theorem first_short {a : Int} {r : List Int} (h : (r.length : Int) + 1 < need a) : first (a :: r) = (65533, 1) := by
  have e : (a :: r).take (need a).toNat = a :: r := List.take_of_length_le (by simp; omega)
  simp only [first]
  rw [e, whole_len (by omega), if_neg (by simp)]
theorem first_2 {a b : Int} {t : List Int} (h : need a = 2) : first (a :: b :: t) = if sec a b then (a % 32 * 64 + b % 64, 2) else (65533, 1) := by
  have hw : whole [a, b] = sec a b := by rw [whole_more (by rw [h]; rfl)]; simp
  simp only [first, h]
  show (if whole [a, b] = true then (value [a, b], 2) else _) = _
  rw [hw]
  by_cases hs : sec a b = true
  · rw [if_pos hs, if_pos hs]
    simp only [value, hw, hs, if_true, fold, lead_2 h]
  · rw [if_neg hs, if_neg hs]
theorem first_3 {a b c : Int} {t : List Int} (h : need a = 3) : first (a :: b :: c :: t) = if (sec a b && isTail c) then ((a % 16 * 64 + b % 64) * 64 + c % 64, 3) else (65533, 1) := by
  have hw : whole [a, b, c] = (sec a b && isTail c) := by rw [whole_more (by rw [h]; rfl)]; simp
  simp only [first, h]
  show (if whole [a, b, c] = true then (value [a, b, c], 3) else _) = _
  rw [hw]
  by_cases hs : (sec a b && isTail c) = true
  · rw [if_pos hs, if_pos hs]
    simp only [value, hw, hs, if_true, fold, lead_3 h]
  · rw [if_neg hs, if_neg hs]
theorem first_4 {a b c d : Int} {t : List Int} (h : need a = 4) : first (a :: b :: c :: d :: t) = if (sec a b && (isTail c && isTail d)) then (((a % 8 * 64 + b % 64) * 64 + c % 64) * 64 + d % 64, 4) else (65533, 1) := by
  have hw : whole [a, b, c, d] = (sec a b && (isTail c && isTail d)) := by rw [whole_more (by rw [h]; rfl)]; simp
  simp only [first, h]
  show (if whole [a, b, c, d] = true then (value [a, b, c, d], 4) else _) = _
  rw [hw]
  by_cases hs : (sec a b && (isTail c && isTail d)) = true
  · rw [if_pos hs, if_pos hs]
    simp only [value, hw, hs, if_true, fold, lead_4 h]
  · rw [if_neg hs, if_neg hs]

theorem need_0' {a : Int} (h : 128 ≤ a ∧ a < 194 ∨ 245 ≤ a) : need a = 0 := by
  unfold need
  rw [if_neg (by omega)]
  by_cases h1 : a < 194
  · rw [if_pos h1]
  · rw [if_neg h1, if_neg (by omega), if_neg (by omega), if_neg (by omega)]

/-- the model's own decoding, four bytes at a time -/
theorem dec_1 (n a b c d : Nat) (h : a < 128) : Lib.decodeN n a b c d = (a, 1) := by unfold Lib.decodeN; rw [if_pos h]
theorem dec_bad (n a b c d : Nat) (ha : a < 256) (h : 128 ≤ a ∧ a < 194 ∨ 245 ≤ a) : Lib.decodeN n a b c d = (65533, 1) := by
  unfold Lib.decodeN
  repeat' split
  all_goals first | (exfalso; omega) | rfl
theorem dec_2 (n a b c d : Nat) (h : 194 ≤ a ∧ a < 224) (hb : b < 256) : Lib.decodeN n a b c d = if 1 < n ∧ 128 ≤ b ∧ b < 192 then (a % 32 * 64 + b % 64, 2) else (65533, 1) := by
  unfold Lib.decodeN
  repeat' split
  all_goals first | (exfalso; omega) | rfl
theorem dec_3 (n a b c d : Nat) (h : 224 ≤ a ∧ a < 240) (hb : b < 256) (hc : c < 256) :
    Lib.decodeN n a b c d = if 2 < n ∧ 128 ≤ b ∧ b < 192 ∧ (a = 224 → 160 ≤ b) ∧ (a = 237 → b ≤ 159) ∧ 128 ≤ c ∧ c < 192 then (a % 16 * 4096 + b % 64 * 64 + c % 64, 3) else (65533, 1) := by
  unfold Lib.decodeN
  repeat' split
  all_goals first | (exfalso; omega) | rfl
theorem dec_4 (n a b c d : Nat) (h : 240 ≤ a ∧ a < 245) (hb : b < 256) (hc : c < 256) (hd : d < 256) :
    Lib.decodeN n a b c d = if 3 < n ∧ 128 ≤ b ∧ b < 192 ∧ (a = 240 → 144 ≤ b) ∧ (a = 244 → b ≤ 143) ∧ 128 ≤ c ∧ c < 192 ∧ 128 ≤ d ∧ d < 192 then (a % 8 * 262144 + b % 64 * 4096 + c % 64 * 64 + d % 64, 4) else (65533, 1) := by
  unfold Lib.decodeN
  repeat' split
  all_goals first | (exfalso; omega) | rfl

theorem get_str (l : List Int) (i : Nat) : ((strOfNums l).get! i).toNat = (l.getD i 0).toNat % 256 := by
  by_cases hi : i < l.length
  · have hs : i < (strOfNums l).size := by rw [strOfNums_size]; exact hi
    have e : (strOfNums l).get! i = UInt8.ofNat (l[i]).toNat := by
      show (strOfNums l).data[i]! = _
      have hd : i < (strOfNums l).data.size := hs
      rw [getElem!_pos (strOfNums l).data i hd]
      simp [strOfNums]
    rw [e]
    simp [List.getD, List.getElem?_eq_getElem hi]
  · have hs : ¬ i < (strOfNums l).size := by rw [strOfNums_size]; exact hi
    have e : (strOfNums l).get! i = 0 := by
      show (strOfNums l).data[i]! = _
      exact getElem!_neg (strOfNums l).data i hs
    rw [e]
    simp [List.getD, List.getElem?_eq_none (Nat.le_of_not_lt hi)]

/-- ranging over a string tells the first step of the bytes from the place on -/
theorem decode_first (l : List Int) (hl : ∀ x ∈ l, 0 ≤ x ∧ x ≤ 255) (i : Nat) (a : Int) (r : List Int) (h : l.drop i = a :: r) :
    (((Utf8.decode (strOfNums l) i).1 : Int), (Utf8.decode (strOfNums l) i).2) = first (a :: r) := by
  have hlen : (strOfNums l).size - i = r.length + 1 := by
    rw [strOfNums_size]
    have := congrArg List.length h
    simpa using this
  have hg : ∀ k, l.getD (i + k) 0 = (a :: r).getD k 0 := by
    intro k
    rw [← h]
    simp [List.getD]
  have hb : ∀ x ∈ a :: r, 0 ≤ x ∧ x ≤ 255 := fun x hx => hl x (List.mem_of_mem_drop (h ▸ hx))
  have hbk : ∀ k, 0 ≤ (a :: r).getD k 0 ∧ (a :: r).getD k 0 ≤ 255 := by
    intro k
    by_cases hk : k < (a :: r).length
    · have := hb _ (List.getElem_mem hk)
      simpa [List.getD, List.getElem?_eq_getElem hk] using this
    · simp [List.getD, List.getElem?_eq_none (Nat.le_of_not_lt hk)]
  have hget : ∀ k, ((strOfNums l).get! (i + k)).toNat = ((a :: r).getD k 0).toNat := by
    intro k
    rw [get_str, hg]
    have := hbk k
    omega
  rw [Lib.decode_at, hlen]
  have e0 := hget 0
  rw [Nat.add_zero] at e0
  rw [e0, hget 1, hget 2, hget 3]
  have b0 := hbk 0
  have b1 := hbk 1
  have b2 := hbk 2
  have b3 := hbk 3
  simp only [List.getD_cons_zero] at b0 ⊢
  obtain ⟨A, rfl⟩ := Int.eq_ofNat_of_zero_le b0.1
  simp only [Int.toNat_natCast]
  by_cases c1 : A < 128
  · rw [dec_1 _ _ _ _ _ c1, first_1 (by omega)]
  by_cases c0 : 128 ≤ A ∧ A < 194 ∨ 245 ≤ A
  · rw [dec_bad _ _ _ _ _ (by omega) c0, first_0 (need_0' (by omega))]; rfl
  by_cases c2 : A < 224
  · rw [dec_2 _ _ _ _ _ (by omega) (by omega)]
    match r with
    | [] =>
      rw [if_neg (by simp), first_short (by rw [need_2' (by omega) (by omega)]; simp)]; rfl
    | b :: t =>
      simp only [List.getD_cons_succ, List.getD_cons_zero] at b1 ⊢
      obtain ⟨B, rfl⟩ := Int.eq_ofNat_of_zero_le b1.1
      simp only [Int.toNat_natCast, List.length_cons]
      rw [first_2 (need_2' (by omega) (by omega))]
      by_cases hs : 128 ≤ B ∧ B < 192
      · rw [if_pos (by omega), if_pos (sec_true (by omega))]; simp
      · rw [if_neg (by omega), if_neg (by simp only [sec, decide_eq_true_eq]; omega)]; rfl
  by_cases c3 : A < 240
  · rw [dec_3 _ _ _ _ _ (by omega) (by omega) (by omega)]
    match r with
    | [] => rw [if_neg (by simp), first_short (by rw [need_3' (by omega) (by omega)]; simp)]; rfl
    | [b] => rw [if_neg (by simp), first_short (by rw [need_3' (by omega) (by omega)]; simp)]; rfl
    | b :: c :: t =>
      simp only [List.getD_cons_succ, List.getD_cons_zero] at b1 b2 ⊢
      obtain ⟨B, rfl⟩ := Int.eq_ofNat_of_zero_le b1.1
      obtain ⟨C, rfl⟩ := Int.eq_ofNat_of_zero_le b2.1
      simp only [Int.toNat_natCast, List.length_cons]
      rw [first_3 (need_3' (by omega) (by omega))]
      by_cases hs : 128 ≤ B ∧ B < 192 ∧ (A = 224 → 160 ≤ B) ∧ (A = 237 → B ≤ 159) ∧ 128 ≤ C ∧ C < 192
      · rw [if_pos (by omega), if_pos (by rw [sec_true (by omega), isTail_true (by omega)]; rfl)]
        simp only [Prod.mk.injEq, and_true]
        omega
      · rw [if_neg (by omega), if_neg (by simp only [sec, isTail, Bool.and_eq_true, decide_eq_true_eq]; omega)]; rfl
  · rw [dec_4 _ _ _ _ _ (by omega) (by omega) (by omega) (by omega)]
    match r with
    | [] => rw [if_neg (by simp), first_short (by rw [need_4' (by omega) (by omega)]; simp)]; rfl
    | [b] => rw [if_neg (by simp), first_short (by rw [need_4' (by omega) (by omega)]; simp)]; rfl
    | [b, c] => rw [if_neg (by simp), first_short (by rw [need_4' (by omega) (by omega)]; simp)]; rfl
    | b :: c :: d :: t =>
      simp only [List.getD_cons_succ, List.getD_cons_zero] at b1 b2 b3 ⊢
      obtain ⟨B, rfl⟩ := Int.eq_ofNat_of_zero_le b1.1
      obtain ⟨C, rfl⟩ := Int.eq_ofNat_of_zero_le b2.1
      obtain ⟨D, rfl⟩ := Int.eq_ofNat_of_zero_le b3.1
      simp only [Int.toNat_natCast, List.length_cons]
      rw [first_4 (need_4' (by omega) (by omega))]
      by_cases hs : 128 ≤ B ∧ B < 192 ∧ (A = 240 → 144 ≤ B) ∧ (A = 244 → B ≤ 143) ∧ 128 ≤ C ∧ C < 192 ∧ 128 ≤ D ∧ D < 192
      · rw [if_pos (by omega), if_pos (by rw [sec_true (by omega), isTail_true (b := (C : Int)) (by omega), isTail_true (by omega)]; rfl)]
        simp only [Prod.mk.injEq, and_true]
        omega
      · rw [if_neg (by omega), if_neg (by simp only [sec, isTail, Bool.and_eq_true, decide_eq_true_eq]; omega)]; rfl

/-- bytes that are whole are the encoding of their value -/
theorem enc_value {l : List Int} (h : whole l = true) (hl : ∀ x ∈ l, 0 ≤ x ∧ x ≤ 255) : enc (value l) = l := by
  match l with
  | [] => cases h
  | a :: r =>
    obtain ⟨hf, hn⟩ := whole_first h
    have ha := hl a (by simp)
    have hv : value (a :: r) = fold (lead a) r := by simp [value, h]
    rw [hv]
    match r with
    | [] =>
      have h1 : need a = 1 := by simpa using hn.symm
      have := (need_range a).1 h1
      rw [lead_1 (by omega) (by omega) (by omega)]
      exact enc_1 (by simp only [fold]; omega) (by simp only [fold]; omega)
    | [b] =>
      have h1 : need a = 2 := by simpa using hn.symm
      have hr := (need_range a).2.1 h1
      have hs : sec a b = true := by have := h; rw [whole_more (by rw [h1]; rfl)] at this; simpa using this
      have hs' := of_decide_eq_true hs
      rw [lead_2 h1]
      simp only [fold]
      rw [enc_2 (by omega) (by omega)]
      have e1 : 192 + (a % 32 * 64 + b % 64) / 64 = a := by omega
      have e2 : 128 + (a % 32 * 64 + b % 64) % 64 = b := by omega
      rw [e1, e2]
    | [b, c] =>
      have h1 : need a = 3 := by simpa using hn.symm
      have hr := (need_range a).2.2.1 h1
      have hs : (sec a b && isTail c) = true := by have := h; rw [whole_more (by rw [h1]; rfl)] at this; simpa using this
      simp only [sec, isTail, Bool.and_eq_true, decide_eq_true_eq] at hs
      rw [lead_3 h1]
      simp only [fold]
      rw [enc_3 (by omega) (by omega) (by omega)]
      have e1 : 224 + ((a % 16 * 64 + b % 64) * 64 + c % 64) / 4096 = a := by omega
      have e2 : 128 + ((a % 16 * 64 + b % 64) * 64 + c % 64) / 64 % 64 = b := by omega
      have e3 : 128 + ((a % 16 * 64 + b % 64) * 64 + c % 64) % 64 = c := by omega
      rw [e1, e2, e3]
    | [b, c, d] =>
      have h1 : need a = 4 := by simpa using hn.symm
      have hr := (need_range a).2.2.2 h1
      have hs : (sec a b && (isTail c && isTail d)) = true := by have := h; rw [whole_more (by rw [h1]; rfl)] at this; simpa using this
      simp only [sec, isTail, Bool.and_eq_true, decide_eq_true_eq] at hs
      rw [lead_4 h1]
      simp only [fold]
      rw [enc_4 (by omega) (by omega)]
      have e1 : 240 + (((a % 8 * 64 + b % 64) * 64 + c % 64) * 64 + d % 64) / 262144 = a := by omega
      have e2 : 128 + (((a % 8 * 64 + b % 64) * 64 + c % 64) * 64 + d % 64) / 4096 % 64 = b := by omega
      have e3 : 128 + (((a % 8 * 64 + b % 64) * 64 + c % 64) * 64 + d % 64) / 64 % 64 = c := by omega
      have e4 : 128 + (((a % 8 * 64 + b % 64) * 64 + c % 64) * 64 + d % 64) % 64 = d := by omega
      rw [e1, e2, e3, e4]
    | b :: c :: d :: e :: t =>
      have := need_hi a
      simp only [List.length_cons] at hn
      omega

end Go.Proofs.YtkdnanlgkedjgabDoor
