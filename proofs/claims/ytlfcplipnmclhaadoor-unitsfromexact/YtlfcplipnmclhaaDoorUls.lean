/- Layer 3, lists alone: units of bytes are read back to the bytes, and bytes of units to the units. -/
import Derived.Test.YtlfcplipnmclhaaDoorRf5
namespace Go.Proofs.YtlfcplipnmclhaaDoor
open Go.ChangeShapes Go.WideShapes Go.ChangeAt Go.RowKit

/-- a rune's units are read as that rune -/
theorem fstU_uni {r : Int} (hr : isRune r = true) (t : List Int) : fstU (uni r ++ t) = (r, (uni r).length) := by
  have h' : 0 ≤ r ∧ r < 55296 ∨ 57343 < r ∧ r ≤ 1114111 := of_decide_eq_true hr
  cases h2 : two r with
  | true =>
    have h3 : 65536 ≤ r ∧ r ≤ 1114111 := of_decide_eq_true h2
    have hh : isHi (hiU r) = true := decide_eq_true (by unfold hiU; omega)
    have hl : isLo (loU r) = true := decide_eq_true (by unfold loU; omega)
    rw [uni, if_pos h2]
    simp only [List.cons_append, List.nil_append, fstU, hh, hl]
    have : joinR (hiU r) (loU r) = r := by unfold joinR hiU loU; omega
    rw [this]
    rfl
  | false =>
    have h3 : ¬ (65536 ≤ r ∧ r ≤ 1114111) := of_decide_eq_false h2
    have hh : isHi r = false := decide_eq_false (by omega)
    have hl : isLo r = false := decide_eq_false (by omega)
    rw [uni, if_neg (by simp [h2])]
    simp only [List.cons_append, List.nil_append, fstU, hh, hl]
    rfl
/-- what is read as a rune are the rune's units -/
theorem fstU_inv {v : List Int} (hv : ∀ x ∈ v, 0 ≤ x ∧ x ≤ 65535) (h : (fstU v).2 ≠ 0) : v = uni (fstU v).1 ++ v.drop (fstU v).2 ∧ (uni (fstU v).1).length = (fstU v).2 := by
  match v with
  | [] => exact absurd rfl h
  | a :: t =>
    have ha := hv a (by simp)
    cases h1 : (isHi a || isLo a) with
    | false =>
      have e : fstU (a :: t) = (a, 1) := by simp only [fstU, h1]; rfl
      rw [e]
      have h2 : two a = false := decide_eq_false (by omega)
      simp [uni, h2]
    | true =>
      match t with
      | [] => simp [fstU, h1] at h
      | b :: t =>
        cases h2 : (isHi a && isLo b) with
        | false => simp [fstU, h1, h2] at h
        | true =>
          have e : fstU (a :: b :: t) = (joinR a b, 2) := by simp only [fstU, h1, h2]; rfl
          rw [e]
          simp only [Bool.and_eq_true] at h2
          have h3 : 55296 ≤ a ∧ a < 56320 := of_decide_eq_true h2.1
          have h4 : 56320 ≤ b ∧ b ≤ 57343 := of_decide_eq_true h2.2
          have h5 : two (joinR a b) = true := decide_eq_true (by unfold joinR; omega)
          have h6 : hiU (joinR a b) = a := by unfold joinR hiU; omega
          have h7 : loU (joinR a b) = b := by unfold joinR loU; omega
          simp [uni, h5, h6, h7]

theorem lng_128 {l : List Int} (h0 : 0 < l.length) (h : lng l = 0) : 128 ≤ l.getD 0 0 := by
  match l with
  | [] => cases h0
  | a :: r =>
    simp only [List.getD_cons_zero]
    rcases Int.lt_or_le a 128 with h1 | h1
    · exfalso
      have hn : need a = 1 := by unfold need; rw [if_pos h1]
      have : lng (a :: r) = 1 := by
        simp only [lng, hn]
        rw [if_pos (by simpa using whole_one hn)]
        rfl
      omega
    · exact h1
theorem whl_false {l : List Int} : whl l = false ↔ lng l = 0 := by simp [whl]
theorem wid_bad {l : List Int} (h0 : 0 < l.length) (h : lng l = 0) : wid l = 1 := by
  match l with
  | [] => cases h0
  | a :: r => rw [wid_lng, if_pos h]
theorem stpU_shift (l : List Int) (p q : Nat) : stpU (l.drop p) q = stpU l (p + q) := by
  unfold stpU
  rw [List.drop_drop, show (l.drop p).getD q 0 = l.getD (p + q) 0 by simp [List.getD, List.getElem?_drop]]

/-- cons -/
theorem exS : ∀ (n : Nat) (l : List Int) (p : Nat), l.length - p ≤ n → exP l (spots l p) = exL (l.drop p)
  | 0, l, p, h => by
    rw [spots_end (by omega), List.drop_eq_nil_of_le (by omega)]
    rfl
  | n + 1, l, p, h => by
    by_cases hp : p < l.length
    · have hw := wid_pos hp
      have hd : 0 < (l.drop p).length := by rw [List.length_drop]; omega
      have e1 := exS n l (p + wid (l.drop p)) (by omega)
      have e2 := exS n (l.drop p) (wid (l.drop p)) (by rw [List.length_drop]; omega)
      have c2 : spots (l.drop p) 0 = 0 :: spots (l.drop p) (wid (l.drop p)) := by
        have := spots_cons hd
        simpa using this
      rw [spots_cons hp, exL, c2]
      simp only [exP, List.flatMap_cons] at e1 e2 ⊢
      rw [e1, e2, stpU_shift, List.drop_drop, Nat.add_zero]
    · rw [spots_end hp, List.drop_eq_nil_of_le (by omega)]
      rfl
theorem exL_cons {l : List Int} (h : 0 < l.length) : exL l = stpU l 0 ++ exL (l.drop (wid l)) := by
  have := exS l.length l (wid l) (by omega)
  have c := spots_cons h
  simp only [List.drop_zero, Nat.zero_add] at c
  rw [exL, c, ← this]
  simp [exP]
theorem toS : ∀ (n : Nat) (l : List Int) (p : Nat), l.length - p ≤ n → toP l (spots l p) = toP (l.drop p) (spots (l.drop p) 0)
  | 0, l, p, h => by
    rw [spots_end (by omega), List.drop_eq_nil_of_le (by omega)]
    rfl
  | n + 1, l, p, h => by
    by_cases hp : p < l.length
    · have hw := wid_pos hp
      have hd : 0 < (l.drop p).length := by rw [List.length_drop]; omega
      have e1 := toS n l (p + wid (l.drop p)) (by omega)
      have e2 := toS n (l.drop p) (wid (l.drop p)) (by rw [List.length_drop]; omega)
      have c2 : spots (l.drop p) 0 = 0 :: spots (l.drop p) (wid (l.drop p)) := by
        have := spots_cons hd
        simpa using this
      rw [spots_cons hp, c2]
      simp only [toP, List.flatMap_cons] at e1 e2 ⊢
      rw [e1, e2, List.drop_drop, List.drop_drop, Nat.add_zero]
    · rw [spots_end hp, List.drop_eq_nil_of_le (by omega)]
      rfl
theorem toL_cons {l : List Int} (h : 0 < l.length) : toL l = uni (first l).1 ++ toL (l.drop (wid l)) := by
  have := toS l.length l (wid l) (by omega)
  have c := spots_cons h
  simp only [List.drop_zero, Nat.zero_add] at c
  rw [toL_toP, c, toL_toP, ← this]
  simp [toP]

/-- byte units at the front stand for bytes at the front -/
theorem bu_front : ∀ (k : Nat) (l : List Int), (∀ x ∈ l, 0 ≤ x ∧ x ≤ 255) → k ≤ (exL l).length → (∀ y ∈ (exL l).take k, isBu y = true) → ((exL l).take k).map ubyt = l.take k ∧ k ≤ l.length
  | 0, l, _, _, _ => by simp
  | k + 1, l, hl, hk, hall => by
    rcases Nat.eq_zero_or_pos l.length with h0 | h0
    · rw [List.length_eq_zero_iff.1 h0] at hk
      simp [exL, exP, spots_end (l := []) (p := 0) (by simp)] at hk
    rw [exL_cons h0] at hk hall ⊢
    cases hw : whl l with
    | true =>
      exfalso
      have hr := first_rune hl h0
      have h' : 0 ≤ (first l).1 ∧ (first l).1 < 55296 ∨ 57343 < (first l).1 ∧ (first l).1 ≤ 1114111 := of_decide_eq_true hr
      have e : stpU l 0 = uni (first l).1 := by rw [stpU, List.drop_zero, if_pos hw]
      rw [e] at hall
      cases h2 : two (first l).1 with
      | true =>
        have h3 : 65536 ≤ (first l).1 ∧ (first l).1 ≤ 1114111 := of_decide_eq_true h2
        have := hall (hiU (first l).1) (by rw [uni, if_pos h2]; simp)
        have h4 : 56448 ≤ hiU (first l).1 ∧ hiU (first l).1 ≤ 56575 := of_decide_eq_true this
        unfold hiU at h4
        omega
      | false =>
        have := hall (first l).1 (by rw [uni, if_neg (by simp [h2])]; simp)
        have h4 : 56448 ≤ (first l).1 ∧ (first l).1 ≤ 56575 := of_decide_eq_true this
        omega
    | false =>
      have hlg := whl_false.1 hw
      have hwd := wid_bad h0 hlg
      match l with
      | [] => cases h0
      | a :: r =>
        have e : stpU (a :: r) 0 = [56320 + a] := by rw [stpU, List.drop_zero, if_neg (by simp [hw])]; rfl
        rw [hwd, e] at hk hall ⊢
        simp only [List.drop_succ_cons, List.drop_zero, List.cons_append, List.nil_append, List.take_succ_cons, List.map_cons, List.length_cons] at hk hall ⊢
        obtain ⟨i1, i2⟩ := bu_front k r (fun x hx => hl x (by simp [hx])) (by omega) (fun y hy => hall y (by simp [hy]))
        rw [i1]
        refine ⟨?_, by omega⟩
        congr 1
        unfold ubyt; omega
/-- a bad step's byte unit joins nothing -/
theorem jn_bad {l : List Int} (hl : ∀ x ∈ l, 0 ≤ x ∧ x ≤ 255) (h0 : 0 < l.length) (h : lng l = 0) : jn (exL l) = false := by
  cases hj : jn (exL l) with
  | false => rfl
  | true =>
    exfalso
    have hwd := wid_bad h0 h
    match l with
    | [] => cases h0
    | a :: r =>
      have hw : whl (a :: r) = false := whl_false.2 h
      have e : exL (a :: r) = (56320 + a) :: exL r := by
        rw [exL_cons h0, hwd]
        rw [stpU, List.drop_zero, if_neg (by simp [hw])]
        rfl
      have hg : ubyt ((exL (a :: r)).getD 0 0) = a := by rw [e]; simp [ubyt]; omega
      simp only [jn, hg, Bool.and_eq_true, decide_eq_true_eq] at hj
      obtain ⟨h1, h2, h3⟩ := hj
      obtain ⟨i1, i2⟩ := bu_front _ (a :: r) hl h1 (List.all_eq_true.1 h2)
      rw [i1] at h3
      simp only [lng, if_pos h3] at h
      have := whole_pos h3
      simp only [List.length_take] at this
      omega

theorem itX_at {u v : List Int} {p : Nat} (h : u.drop p = v) (_h0 : 0 < v.length) : itX u p = if (fstU v).2 = 0 then (if isBu (v.getD 0 0) then (if jn v then .bad 31 else .ok [ubyt (v.getD 0 0)] 0) else .bad 30) else .ok (enc (fstU v).1) ((fstU v).2 - 1) := by
  have : u.getD p 0 = v.getD 0 0 := by rw [← h]; simp [List.getD, List.getElem?_drop]
  rw [itX, h, this]

/-- P3.7: exact units are read back -/
theorem exact_back {l : List Int} (hl : ∀ x ∈ l, 0 ≤ x ∧ x ≤ 255) : ∀ (n p : Nat) (u : List Int) (q : Nat), l.length - p ≤ n → p ≤ l.length → u.drop q = exL (l.drop p) → q ≤ u.length → rd (itX u) u.length q (l.take p) = (l, 0, 0)
  | 0, p, u, q, h, hp, hu, hq => by
    obtain rfl : p = l.length := by omega
    rw [List.drop_length] at hu
    have : (u.drop q).length = 0 := by rw [hu]; rfl
    rw [List.length_drop] at this
    rw [rd_end (by omega), List.take_length]
  | n + 1, p, u, q, h, hp, hu, hq => by
    rcases Nat.lt_or_ge p l.length with h1 | h1
    · have hd : 0 < (l.drop p).length := by rw [List.length_drop]; omega
      have hld : ∀ x ∈ l.drop p, 0 ≤ x ∧ x ≤ 255 := fun x hx => hl x (List.mem_of_mem_drop hx)
      have hw := wid_pos h1
      have hwl := wid_len h1
      have hc := exL_cons hd
      rw [List.drop_drop] at hc
      have hu2 := hu
      rw [hc] at hu2
      cases hwh : whl (l.drop p) with
      | true =>
        have e : stpU (l.drop p) 0 = uni (first (l.drop p)).1 := by rw [stpU, List.drop_zero, if_pos hwh]
        rw [e] at hu2
        have hul := uni_len (first (l.drop p)).1
        have hv : 0 < (u.drop q).length := by rw [hu2, List.length_append]; omega
        have hqu : q < u.length := by rw [List.length_drop] at hv; omega
        have hf := fstU_uni (rune_step hl h1) (exL (l.drop (p + wid (l.drop p))))
        have hit : itX u q = .ok (enc (first (l.drop p)).1) ((uni (first (l.drop p)).1).length - 1) := by
          rw [itX_at hu2 (by rw [← hu2]; exact hv), hf, if_neg (by simp only; omega)]
        rw [rd_ok hqu hit]
        rcases enc_step hl h1 with ⟨_, e2⟩ | ⟨e1, _⟩
        · have ht : l.take p ++ enc (first (l.drop p)).1 = l.take (p + wid (l.drop p)) := by rw [e2, List.take_add]
          rw [ht]
          refine exact_back hl n _ u _ (by omega) hwl ?_ ?_
          · rw [show q + ((uni (first (l.drop p)).1).length - 1 + 1) = q + (uni (first (l.drop p)).1).length by omega, ← List.drop_drop, hu2, List.drop_left]
          · have := congrArg List.length hu2
            rw [List.length_append, List.length_drop] at this
            omega
        · rw [hwh] at e1; cases e1
      | false =>
        have hlg := whl_false.1 hwh
        have hwd := wid_bad hd hlg
        have hb := lng_128 hd hlg
        have hg : (l.drop p).getD 0 0 = l.getD p 0 := by simp [List.getD, List.getElem?_drop]
        have hby := hl _ (getD_mem h1)
        rw [hg] at hb
        have e : stpU (l.drop p) 0 = [56320 + l.getD p 0] := by rw [stpU, List.drop_zero, if_neg (by simp [hwh]), hg]
        rw [e] at hu2
        rw [hwd] at hu2
        have hv : 0 < (u.drop q).length := by rw [hu2]; simp
        have hqu : q < u.length := by rw [List.length_drop] at hv; omega
        have hj := jn_bad hld hd hlg
        rw [← hu] at hj
        have hit : itX u q = .ok [l.getD p 0] 0 := by
          rw [itX_at rfl hv, hj, hu2]
          simp only [List.cons_append, List.nil_append, List.getD_cons_zero]
          have hlo : isLo (56320 + l.getD p 0) = true := decide_eq_true (by omega)
          have hhi : isHi (56320 + l.getD p 0) = false := decide_eq_false (by omega)
          have hbu : isBu (56320 + l.getD p 0) = true := decide_eq_true (by omega)
          have h2 : (fstU ((56320 + l.getD p 0) :: exL (l.drop (p + 1)))).2 = 0 := by
            simp only [fstU, hlo, hhi]
            cases exL (l.drop (p + 1)) with
            | nil => rfl
            | cons b t => rfl
          rw [if_pos h2, if_pos hbu, if_neg (by simp)]
          congr 2
          unfold ubyt; omega
        rw [rd_ok hqu hit]
        have ht : l.take p ++ [l.getD p 0] = l.take (p + 1) := by
          rw [List.take_succ_eq_append_getElem h1]
          simp [List.getD, List.getElem?_eq_getElem h1]
        rw [ht]
        refine exact_back hl n _ u _ (by omega) (by omega) ?_ (by omega)
        rw [show q + (0 + 1) = q + 1 from rfl, ← List.drop_drop, hu2]
        simp
    · obtain rfl : p = l.length := by omega
      rw [List.drop_length] at hu
      have : (u.drop q).length = 0 := by rw [hu]; rfl
      rw [List.length_drop] at this
      rw [rd_end (by omega), List.take_length]
theorem exactL_exL {l : List Int} (hl : ∀ x ∈ l, 0 ≤ x ∧ x ≤ 255) : exactL (exL l) = (l, 0, 0) := by
  have := exact_back hl l.length 0 (exL l) 0 (by omega) (Nat.zero_le _) rfl (Nat.zero_le _)
  simpa [exactL] using this

/-- units that are seen are read as the runes -/
theorem seen_back : ∀ (rs : List Int), (∀ r ∈ rs, isRune r = true) → ∀ (u : List Int) (q : Nat) (acc : List Int), u.drop q = rs.flatMap uni → q ≤ u.length → rd (itF u) u.length q acc = (acc ++ rs.flatMap enc, 0, 0)
  | [], _, u, q, acc, hu, hq => by
    have := congrArg List.length hu
    simp only [List.flatMap_nil, List.length_nil, List.length_drop] at this
    rw [rd_end (by omega)]
    simp
  | r :: rs, hr, u, q, acc, hu, hq => by
    rw [List.flatMap_cons] at hu
    have hul := uni_len r
    have hlen := congrArg List.length hu
    rw [List.length_append, List.length_drop] at hlen
    have hf := fstU_uni (hr r (by simp)) (rs.flatMap uni)
    have hit : itF u q = .ok (enc r) ((uni r).length - 1) := by
      rw [itF, hu, hf, if_neg (by simp only; omega)]
    rw [rd_ok (by omega) hit, seen_back rs (fun x hx => hr x (by simp [hx])) u _ _ ?_ (by omega)]
    · rw [List.flatMap_cons, List.append_assoc]
    · rw [show q + ((uni r).length - 1 + 1) = q + (uni r).length by omega, ← List.drop_drop, hu, List.drop_left]
theorem fromL_toL {l : List Int} (hl : ∀ x ∈ l, 0 ≤ x ∧ x ≤ 255) : fromL (toL l) = ((runesL l).flatMap enc, 0, 0) := by
  have := seen_back (runesL l) (runesL_all hl) (toL l) 0 [] rfl (Nat.zero_le _)
  simpa [fromL] using this

end Go.Proofs.YtlfcplipnmclhaaDoor
