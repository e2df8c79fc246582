/- Layer 3, lists alone: bytes that units say are turned to the units again; what stands where a list of units is refused. -/
import Derived.Test.YtlfcplipnmclhaaDoorUls
namespace Go.Proofs.YtlfcplipnmclhaaDoor
open Go.ChangeShapes Go.WideShapes Go.ChangeAt Go.RowKit

theorem rd_shape {it : Nat → Item} {n : Nat} (hbad : ∀ p e, it p = .bad e → e ≠ 0) : ∀ (m p : Nat) (acc : List Int), n - p ≤ m → (rd it n p acc).2.2 = 0 ∨ (rd it n p acc).2.2 ≠ 0 ∧ (rd it n p acc).1 = [] ∧ p ≤ (rd it n p acc).2.1 ∧ (rd it n p acc).2.1 < n
  | 0, p, acc, h => by rw [rd_end (by omega)]; exact Or.inl rfl
  | m + 1, p, acc, h => by
    by_cases hp : p < n
    · cases hi : it p with
      | bad e => rw [rd_bad hp hi]; exact Or.inr ⟨hbad p e hi, rfl, Nat.le_refl _, hp⟩
      | ok bs k =>
        rw [rd_ok hp hi]
        have hm : n - (p + (k + 1)) ≤ m := by omega
        rcases rd_shape hbad m (p + (k + 1)) (acc ++ bs) hm with h | ⟨h1, h2, h3, h4⟩
        · exact Or.inl h
        · exact Or.inr ⟨h1, h2, Nat.le_trans (Nat.le_add_right _ _) h3, h4⟩
    · rw [rd_end hp]; exact Or.inl rfl
theorem itF_bad (u : List Int) : ∀ p e, itF u p = .bad e → e ≠ 0 := by
  intro p e h
  unfold itF at h
  split at h
  · cases h; decide
  · cases h
theorem itX_bad (u : List Int) : ∀ p e, itX u p = .bad e → e ≠ 0 := by
  intro p e h
  unfold itX at h
  split at h
  · split at h
    · split at h
      · cases h; decide
      · cases h
    · cases h; decide
  · cases h
theorem itX_itF {u : List Int} {p : Nat} (h : (fstU (u.drop p)).2 ≠ 0) : itX u p = itF u p := by rw [itX, itF, if_neg h, if_neg h]
theorem places_order (u : List Int) : ∀ (m p : Nat) (acc : List Int), u.length - p ≤ m → (rd (itF u) u.length p acc).2.2 ≠ 0 → (rd (itX u) u.length p acc).2.2 ≠ 0 → (rd (itF u) u.length p acc).2.1 ≤ (rd (itX u) u.length p acc).2.1
  | 0, p, acc, h, h1, _ => by rw [rd_end (by omega)] at h1; exact absurd rfl h1
  | m + 1, p, acc, h, h1, h2 => by
    by_cases hp : p < u.length
    · by_cases hl : (fstU (u.drop p)).2 = 0
      · rw [rd_bad (it := itF u) hp (by rw [itF, if_pos hl])]
        rcases rd_shape (itX_bad u) _ p acc (Nat.le_refl _) with h3 | ⟨_, _, h3, _⟩
        · exact absurd h3 h2
        · exact h3
      · have hi : itF u p = .ok (enc (fstU (u.drop p)).1) ((fstU (u.drop p)).2 - 1) := by rw [itF, if_neg hl]
        rw [rd_ok hp hi] at h1 ⊢
        rw [rd_ok hp ((itX_itF hl).trans hi)] at h2 ⊢
        exact places_order u m _ _ (by omega) h1 h2
    · rw [rd_end hp] at h1; exact absurd rfl h1
theorem first_enc {r : Int} (hr : isRune r = true) (t : List Int) : whl (enc r ++ t) = true ∧ (first (enc r ++ t)).1 = r ∧ wid (enc r ++ t) = (enc r).length := by
  have hw : whole (enc r) = true := whole_enc r
  have hv := value_enc r
  rw [hr, if_pos rfl] at hv
  generalize enc r = l at *
  match l with
  | [] => cases hw
  | a :: s =>
    have hn := whole_need hw
    have ht : (a :: s ++ t).take (need a).toNat = a :: s := by
      rw [List.take_append_of_le_length (by simp only [List.length_cons]; omega), List.take_of_length_le (by simp only [List.length_cons]; omega)]
    rw [List.cons_append] at ht ⊢
    refine ⟨?_, ?_, ?_⟩
    · simp only [whl, lng, ht, if_pos hw]
      simp only [ne_eq, decide_eq_true_eq]
      omega
    · simp only [first, ht, if_pos hw, hv]
    · simp only [wid, first, ht, if_pos hw, List.length_cons]; omega
theorem exL_enc {r : Int} (hr : isRune r = true) (t : List Int) : exL (enc r ++ t) = uni r ++ exL t := by
  obtain ⟨h1, h2, h3⟩ := first_enc hr t
  have hl := (enc_len r).2
  rw [exL_cons (by rw [List.length_append]; omega), h3, List.drop_left]
  congr 1
  rw [stpU, List.drop_zero, if_pos h1, h2]
theorem toL_enc {r : Int} (hr : isRune r = true) (t : List Int) : toL (enc r ++ t) = uni r ++ toL t := by
  obtain ⟨h1, h2, h3⟩ := first_enc hr t
  have hl := (enc_len r).2
  rw [toL_cons (by rw [List.length_append]; omega), h3, List.drop_left, h2]
theorem exL_nil : exL [] = [] := by rw [exL, spots_end (by simp)]; rfl
theorem toL_nil : toL [] = [] := by rw [toL_toP, spots_end (by simp)]; rfl
theorem exL_bad {b : Int} {t : List Int} (h : lng (b :: t) = 0) : exL (b :: t) = (56320 + b) :: exL t := by
  have hwd := wid_bad (l := b :: t) (by simp) h
  have hw : whl (b :: t) = false := whl_false.2 h
  rw [exL_cons (by simp), hwd, stpU, List.drop_zero, if_neg (by simp [hw])]
  rfl
/-- Tails are told as byte units -/
theorem tails_bu : ∀ (k : Nat) (t : List Int), k ≤ t.length → (∀ x ∈ t.take k, isTail x = true) → (∀ y ∈ (exL t).take k, isBu y = true) ∧ ((exL t).take k).map ubyt = t.take k ∧ k ≤ (exL t).length
  | 0, t, _, _ => by simp
  | k + 1, t, hk, hall => by
    match t with
    | [] => simp at hk
    | c :: t =>
      have hc : isTail c = true := hall c (by simp)
      have hb : 128 ≤ c ∧ c < 192 := of_decide_eq_true hc
      rw [exL_bad (lng_of_tail (l := c :: t) (by simpa using hc))]
      obtain ⟨i1, i2, i3⟩ := tails_bu k t (by simpa using hk) (fun x hx => hall x (by simp [hx]))
      simp only [List.take_succ_cons, List.map_cons, List.length_cons, i2]
      refine ⟨fun y hy => ?_, ?_, by omega⟩
      · rcases List.mem_cons.1 hy with rfl | hy
        · exact decide_eq_true (by omega)
        · exact i1 y hy
      · congr 1
        unfold ubyt; omega
/-- what joins nothing is a bad step -/
theorem lng_of_jn {b : Int} {t : List Int} (hb : isBu (56320 + b) = true) (h : jn ((56320 + b) :: exL t) = false) : lng (b :: t) = 0 := by
  cases hl : lng (b :: t) with
  | zero => rfl
  | succ k =>
    exfalso
    have hne : lng (b :: t) ≠ 0 := by omega
    have htl : ∀ j, 1 ≤ j → j < lng (b :: t) → isTail ((b :: t).getD j 0) = true := fun j h1 h2 => lng_tail h1 h2
    have hle := lng_len (b :: t)
    have hw : whole ((b :: t).take (need b).toNat) = true := by
      simp only [lng] at hne
      split at hne
      · assumption
      · exact absurd rfl hne
    have hnl : (need b).toNat = k + 1 := by
      simp only [lng, if_pos hw] at hl
      exact hl
    rw [hnl, List.take_succ_cons] at hw
    rw [hl] at htl hle
    simp only [List.length_cons] at hle
    obtain ⟨i1, i2, i3⟩ := tails_bu k t (by omega) (fun x hx => by
      obtain ⟨i, hi, rfl⟩ := List.getElem_of_mem hx
      simp only [List.length_take] at hi
      have := htl (i + 1) (by omega) (by omega)
      simpa [List.getD, List.getElem?_eq_getElem (show i < t.length by omega)] using this)
    have : jn ((56320 + b) :: exL t) = true := by
      refine jn_of (m := k + 1) (by simp only [List.length_cons]; omega) ?_ ?_
      · rw [List.take_succ_cons, List.map_cons, i2, show ubyt (56320 + b) = b by unfold ubyt; omega]
        exact hw
      · rw [List.take_succ_cons]
        intro y hy
        rcases List.mem_cons.1 hy with rfl | hy
        · exact hb
        · exact i1 y hy
    rw [h] at this
    cases this
theorem drop_in {u : List Int} (hu : ∀ x ∈ u, 0 ≤ x ∧ x ≤ 65535) (p : Nat) : ∀ x ∈ u.drop p, 0 ≤ x ∧ x ≤ 65535 := fun x hx => hu x (List.mem_of_mem_drop hx)

/-- P3.7: where FromExact takes units, ToExact of the bytes is these units -/
theorem exact_inv {u : List Int} (hu : ∀ x ∈ u, 0 ≤ x ∧ x ≤ 65535) : ∀ (m p : Nat) (acc : List Int), u.length - p ≤ m → p ≤ u.length → (rd (itX u) u.length p acc).2.2 = 0 → ∃ t, (rd (itX u) u.length p acc).1 = acc ++ t ∧ exL t = u.drop p ∧ ∀ x ∈ t, 0 ≤ x ∧ x ≤ 255
  | 0, p, acc, h, hp, _ => by
    rw [rd_end (by omega), List.drop_eq_nil_of_le (by omega)]
    exact ⟨[], by simp, exL_nil, fun _ h => by cases h⟩
  | m + 1, p, acc, h, hp, h0 => by
    by_cases hlt : p < u.length
    · have hfl := fstU_le (u.drop p)
      rw [List.length_drop] at hfl
      by_cases hl : (fstU (u.drop p)).2 = 0
      · cases hb : isBu (u.getD p 0) with
        | false => rw [rd_bad hlt (by rw [itX, if_pos hl, if_neg (by rw [hb]; decide)])] at h0; exact absurd h0 (by simp)
        | true =>
          cases hj : jn (u.drop p) with
          | true => rw [rd_bad hlt (by rw [itX, if_pos hl, if_pos hb, if_pos hj])] at h0; exact absurd h0 (by simp)
          | false =>
            have hi : itX u p = .ok [ubyt (u.getD p 0)] 0 := by rw [itX, if_pos hl, if_pos hb, if_neg (by simp [hj])]
            rw [rd_ok hlt hi] at h0 ⊢
            obtain ⟨t, t1, t2, t3⟩ := exact_inv hu m (p + (0 + 1)) _ (by omega) (by omega) h0
            have hbb : 56448 ≤ u.getD p 0 ∧ u.getD p 0 ≤ 56575 := of_decide_eq_true hb
            have e : 56320 + ubyt (u.getD p 0) = u.getD p 0 := by unfold ubyt; omega
            have hd := drop_getD hlt
            rw [show p + (0 + 1) = p + 1 from rfl] at t2
            have hlg : lng (ubyt (u.getD p 0) :: t) = 0 := lng_of_jn (by rw [e]; exact hb) (by rw [e, t2, ← hd]; exact hj)
            refine ⟨ubyt (u.getD p 0) :: t, by rw [t1]; simp, by rw [exL_bad hlg, e, t2, ← hd], fun x hx => ?_⟩
            rcases List.mem_cons.1 hx with rfl | hx
            · unfold ubyt; omega
            · exact t3 x hx
      · have hi : itX u p = .ok (enc (fstU (u.drop p)).1) ((fstU (u.drop p)).2 - 1) := by rw [itX, if_neg hl]
        rw [rd_ok hlt hi, show p + ((fstU (u.drop p)).2 - 1 + 1) = p + (fstU (u.drop p)).2 by omega] at h0 ⊢
        obtain ⟨t, t1, t2, t3⟩ := exact_inv hu m _ _ (by omega) (by omega) h0
        have hr := fstU_rune (drop_in hu p) hl
        obtain ⟨i1, i2⟩ := fstU_inv (drop_in hu p) hl
        refine ⟨enc (fstU (u.drop p)).1 ++ t, by rw [t1, List.append_assoc], ?_, fun x hx => ?_⟩
        · rw [exL_enc hr, t2, ← List.drop_drop]
          exact i1.symm
        · rcases List.mem_append.1 hx with h | h
          · exact enc_bytes _ x h
          · exact t3 x h
    · rw [rd_end hlt, List.drop_eq_nil_of_le (by omega)]
      exact ⟨[], by simp, exL_nil, fun _ h => by cases h⟩
/-- where From takes units, To of the bytes is these units, and FromExact says the same -/
theorem from_inv {u : List Int} (hu : ∀ x ∈ u, 0 ≤ x ∧ x ≤ 65535) : ∀ (m p : Nat) (acc : List Int), u.length - p ≤ m → p ≤ u.length → (rd (itF u) u.length p acc).2.2 = 0 → (∃ t, (rd (itF u) u.length p acc).1 = acc ++ t ∧ toL t = u.drop p) ∧ rd (itX u) u.length p acc = rd (itF u) u.length p acc
  | 0, p, acc, h, hp, _ => by
    rw [rd_end (by omega), rd_end (by omega), List.drop_eq_nil_of_le (by omega)]
    exact ⟨⟨[], by simp, toL_nil⟩, rfl⟩
  | m + 1, p, acc, h, hp, h0 => by
    by_cases hlt : p < u.length
    · have hfl := fstU_le (u.drop p)
      rw [List.length_drop] at hfl
      by_cases hl : (fstU (u.drop p)).2 = 0
      · rw [rd_bad hlt (by rw [itF, if_pos hl])] at h0; exact absurd h0 (by simp)
      · have hi : itF u p = .ok (enc (fstU (u.drop p)).1) ((fstU (u.drop p)).2 - 1) := by rw [itF, if_neg hl]
        rw [rd_ok hlt ((itX_itF hl).trans hi)]
        rw [rd_ok hlt hi, show p + ((fstU (u.drop p)).2 - 1 + 1) = p + (fstU (u.drop p)).2 by omega] at h0 ⊢
        obtain ⟨⟨t, t1, t2⟩, t3⟩ := from_inv hu m _ _ (by omega) (by omega) h0
        have hr := fstU_rune (drop_in hu p) hl
        obtain ⟨i1, i2⟩ := fstU_inv (drop_in hu p) hl
        refine ⟨⟨enc (fstU (u.drop p)).1 ++ t, by rw [t1, List.append_assoc], ?_⟩, t3⟩
        rw [toL_enc hr, t2, ← List.drop_drop]
        exact i1.symm
    · rw [rd_end hlt, rd_end hlt, List.drop_eq_nil_of_le (by omega)]
      exact ⟨⟨[], by simp, toL_nil⟩, rfl⟩
theorem rd_ok_place {it : Nat → Item} {n : Nat} (hbad : ∀ p e, it p = .bad e → e ≠ 0) : ∀ (m p : Nat) (acc : List Int), n - p ≤ m → (rd it n p acc).2.2 = 0 → (rd it n p acc).2.1 = 0
  | 0, p, acc, h, _ => by rw [rd_end (by omega)]
  | m + 1, p, acc, h, h0 => by
    by_cases hp : p < n
    · cases hi : it p with
      | bad e => rw [rd_bad hp hi] at h0; exact absurd h0 (hbad p e hi)
      | ok bs k =>
        rw [rd_ok hp hi] at h0 ⊢
        exact rd_ok_place hbad m _ _ (by omega) h0
    · rw [rd_end hp]

end Go.Proofs.YtlfcplipnmclhaaDoor
