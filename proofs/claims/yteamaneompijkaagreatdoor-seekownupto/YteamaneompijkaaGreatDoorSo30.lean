/- Layer 5, plain: measures weld. · Layer 5: Join, Seam. -/
import Derived.Test.YteamaneompijkaaGreatDoorSo28
import Derived.Test.YteamaneompijkaaGreatDoorSo29
namespace Go.Proofs.YteamaneompijkaaGreatDoor
set_option maxRecDepth 100000
set_option maxHeartbeats 8000000
section
theorem first_take (l : List Int) (n : Nat) (h : 4 ≤ n) : first (l.take n) = first l := by
  cases l with
  | nil => simp
  | cons a r =>
    obtain ⟨m, rfl⟩ : ∃ m, n = m + 1 := ⟨n - 1, by omega⟩
    have := need_hi a
    simp only [List.take_succ_cons, first]
    rw [show (a :: r.take m) = (a :: r).take (m + 1) from rfl, List.take_take, show min (need a).toNat (m + 1) = (need a).toNat by omega]
section
variable {a b : List Int}
theorem tail3_len : (tail3 a).length = min a.length 3 := by unfold tail3; simp; omega
theorem near {k : Nat} (h1 : 1 ≤ k) (h2 : k ≤ a.length) (h3 : k ≤ 3) : (tail3 a ++ b.take 3).drop ((tail3 a).length - k) = ((a ++ b).drop (a.length - k)).take (k + 3) := by
  rw [List.drop_append_of_le_length (by omega), drop_l (by omega)]
  have e : (tail3 a).drop ((tail3 a).length - k) = a.drop (a.length - k) := by
    rw [tail3_len]
    unfold tail3
    rw [List.drop_drop]
    congr 1
    omega
  have hl : (a.drop (a.length - k)).length = k := by simp; omega
  rw [e, List.take_append, hl, List.take_of_length_le (l := a.drop (a.length - k)) (by omega)]
  congr 2
  omega
theorem near_lng {k : Nat} (h1 : 1 ≤ k) (h2 : k ≤ a.length) (h3 : k ≤ 3) : lng ((tail3 a ++ b.take 3).drop ((tail3 a).length - k)) = lng ((a ++ b).drop (a.length - k)) := by
  rw [near h1 h2 h3, lng_take _ _ (by omega)]
theorem near_first {k : Nat} (h1 : 1 ≤ k) (h2 : k ≤ a.length) (h3 : k ≤ 3) : first ((tail3 a ++ b.take 3).drop ((tail3 a).length - k)) = first ((a ++ b).drop (a.length - k)) := by
  rw [near h1 h2 h3, first_take _ _ (by omega)]
theorem near_inside : inside (tail3 a ++ b.take 3) (tail3 a).length = inside (a ++ b) a.length := by
  have hl := tail3_len (a := a)
  have key : ∀ k, 1 ≤ k → k ≤ 3 → ((k ≤ (tail3 a).length ∧ k < lng ((tail3 a ++ b.take 3).drop ((tail3 a).length - k))) ↔ (k ≤ a.length ∧ k < lng ((a ++ b).drop (a.length - k)))) := by
    intro k h1 h3
    by_cases h2 : k ≤ a.length
    · rw [near_lng h1 h2 h3]
      constructor <;> intro h <;> exact ⟨by omega, h.2⟩
    · constructor <;> intro h <;> exact absurd h.1 (by omega)
  have k1 := key 1 (by omega) (by omega)
  have k2 := key 2 (by omega) (by omega)
  have k3 := key 3 (by omega) (by omega)
  rw [Bool.eq_iff_iff]
  simp only [inside, Bool.or_eq_true, Bool.and_eq_true, decide_eq_true_eq]
  rw [k1, k2, k3]
theorem near_flr (hin : inside (a ++ b) a.length = true) : ∃ k, 1 ≤ k ∧ k ≤ a.length ∧ k ≤ 3 ∧ flr (a ++ b) a.length = a.length - k ∧ flr (tail3 a ++ b.take 3) (tail3 a).length = (tail3 a).length - k ∧ k < lng ((a ++ b).drop (a.length - k)) := by
  have hl := tail3_len (a := a)
  by_cases c1 : 1 ≤ a.length ∧ 1 < lng ((a ++ b).drop (a.length - 1))
  · refine ⟨1, by omega, c1.1, by omega, flr_at (by omega) c1.1 c1.2 (fun j h1 h2 => by omega), flr_at (by omega) (by omega) (by rw [near_lng (by omega) c1.1 (by omega)]; exact c1.2) (fun j h1 h2 => by omega), c1.2⟩
  · by_cases c2 : 2 ≤ a.length ∧ 2 < lng ((a ++ b).drop (a.length - 2))
    · refine ⟨2, by omega, c2.1, by omega, flr_at (by omega) c2.1 c2.2 (fun j h1 h2 => ?_), flr_at (by omega) (by omega) (by rw [near_lng (by omega) c2.1 (by omega)]; exact c2.2) (fun j h1 h2 => ?_), c2.2⟩
      · obtain rfl : j = 1 := by omega
        exact fun h => c1 ⟨by omega, h⟩
      · obtain rfl : j = 1 := by omega
        rw [near_lng (by omega) (by omega) (by omega)]
        exact fun h => c1 ⟨by omega, h⟩
    · have c3 : 3 ≤ a.length ∧ 3 < lng ((a ++ b).drop (a.length - 3)) := by
        simp only [inside, Bool.or_eq_true, Bool.and_eq_true, decide_eq_true_eq] at hin
        rcases hin with h | h | h
        · exact absurd h c1
        · exact absurd h c2
        · exact h
      refine ⟨3, by omega, c3.1, by omega, flr_at (by omega) c3.1 c3.2 (fun j h1 h2 => ?_), flr_at (by omega) (by omega) (by rw [near_lng (by omega) c3.1 (by omega)]; exact c3.2) (fun j h1 h2 => ?_), c3.2⟩
      · have : j = 1 ∨ j = 2 := by omega
        rcases this with rfl | rfl
        · exact fun h => c1 ⟨by omega, h⟩
        · exact fun h => c2 ⟨by omega, h⟩
      · rw [near_lng h1 (by omega) (by omega)]
        have : j = 1 ∨ j = 2 := by omega
        rcases this with rfl | rfl
        · exact fun h => c1 ⟨by omega, h⟩
        · exact fun h => c2 ⟨by omega, h⟩
theorem near_seam : seamR (tail3 a ++ b.take 3) (tail3 a).length = seamR (a ++ b) a.length ∧ seamU (tail3 a ++ b.take 3) (tail3 a).length = seamU (a ++ b) a.length := by
  have hi := near_inside (a := a) (b := b)
  unfold seamR seamU
  rw [hi]
  by_cases hin : inside (a ++ b) a.length = true
  · rw [if_pos hin, if_pos hin, if_pos hin, if_pos hin]
    obtain ⟨k, h1, h2, h3, f1, f2, _⟩ := near_flr hin
    rw [f1, f2]
    unfold wid
    rw [near_first h1 h2 h3]
    exact ⟨rfl, rfl⟩
  · rw [if_neg hin, if_neg hin, if_neg hin, if_neg hin]
    exact ⟨rfl, rfl⟩
theorem both_ru (ha : ∀ x ∈ a, 0 ≤ x ∧ x ≤ 255) (hb : ∀ x ∈ b, 0 ≤ x ∧ x ≤ 255) : (rnN (a ++ b) : Int) = (rnN a : Int) + (rnN b : Int) - seamR (a ++ b) a.length ∧ unN (a ++ b) = unN a + unN b - seamU (a ++ b) a.length := by
  have hab : ∀ x ∈ a ++ b, 0 ≤ x ∧ x ≤ 255 := fun x hx => by
    rcases List.mem_append.1 hx with h | h
    · exact ha x h
    · exact hb x h
  rw [rn_count ha, rn_count hb, rn_count hab, un_count ha, un_count hb, un_count hab]
  by_cases hin : inside (a ++ b) a.length = true
  · have ho := flr_over hin
    have hfw := flr_wid hin
    obtain ⟨c1, c2⟩ := counts_yes (a := a) (b := b) ho.1 rfl ho.2
    have hu := uni_wid (x := (a ++ b).drop (flr (a ++ b) a.length)) (fun y hy => hab y (List.mem_of_mem_drop hy))
    have hw : wid ((a ++ b).drop (flr (a ++ b) a.length)) = lng ((a ++ b).drop (flr (a ++ b) a.length)) := by
      cases hd : (a ++ b).drop (flr (a ++ b) a.length) with
      | nil => rw [hd] at ho; simp [lng] at ho; omega
      | cons x r => rw [wid_lng, ← hd, if_neg (by omega)]
    unfold seamR seamU
    rw [if_pos hin, if_pos hin, hu, hw]
    generalize lng ((a ++ b).drop (flr (a ++ b) a.length)) = n at *
    by_cases h4 : n = 4
    · rw [if_pos h4] at c2 ⊢; omega
    · rw [if_neg h4] at c2 ⊢; omega
  · have hin' : inside (a ++ b) a.length = false := by simpa using hin
    obtain ⟨c1, c2⟩ := counts_no hin'
    unfold seamR seamU
    rw [if_neg hin, if_neg hin]
    omega
theorem crlf_app : ∀ (a b : List Int), crlf (a ++ b) = crlf a + crlf b + (if a.getLast? = some 13 ∧ b.head? = some 10 then 1 else 0)
  | [], b => by simp [crlf]
  | [x], b => by
    show (if x = 13 ∧ b.head? = some 10 then 1 else 0) + crlf b = (if x = 13 ∧ ([] : List Int).head? = some 10 then 1 else 0) + 0 + crlf b + (if [x].getLast? = some 13 ∧ b.head? = some 10 then 1 else 0)
    simp
    omega
  | x :: y :: r, b => by
    have ih := crlf_app (y :: r) b
    have e : (if x = 13 ∧ (y :: r ++ b).head? = some 10 then (1 : Nat) else 0) = (if x = 13 ∧ (y :: r).head? = some 10 then 1 else 0) := rfl
    show (if x = 13 ∧ (y :: r ++ b).head? = some 10 then 1 else 0) + crlf (y :: r ++ b) = (if x = 13 ∧ (y :: r).head? = some 10 then 1 else 0) + crlf (y :: r) + crlf b + _
    rw [e, ih, List.getLast?_cons_cons]
    omega
theorem both_e : endsN (a ++ b) = endsN a + endsN b - seamE (tail3 a) (b.take 3) := by
  have h1 : (tail3 a).getLast? = a.getLast? := by
    unfold tail3
    rw [List.getLast?_drop]
    split
    · have : a = [] := List.length_eq_zero_iff.1 (by omega)
      rw [this]; rfl
    · rfl
  have h2 : (b.take 3).head? = b.head? := by cases b <;> rfl
  unfold endsN seamE
  rw [h1, h2, crlf_app, List.count_append, List.count_append]
  split <;> omega
theorem take_both : ((a.take 3) ++ (b.take 3)).take 3 = (a ++ b).take 3 := by
  rw [List.take_append, List.take_append, List.take_take, List.take_take]
  congr 1
  simp
  omega
theorem tail_both : tail3 (tail3 a ++ tail3 b) = tail3 (a ++ b) := by
  unfold tail3
  rw [List.length_append, List.length_drop, List.length_drop]
  rcases Nat.lt_or_ge b.length 3 with h | h
  · rw [show b.length - 3 = 0 by omega, List.drop_zero, List.drop_append_of_le_length (by simp; omega), List.drop_append_of_le_length (by simp; omega), List.drop_drop]
    congr 2
    simp
    omega
  · have e1 : a.length - (a.length - 3) + (b.length - (b.length - 3)) - 3 = (a.drop (a.length - 3)).length + 0 := by simp; omega
    have e2 : (a ++ b).length - 3 = a.length + (b.length - 3) := by simp; omega
    rw [e1, e2, drop_r, drop_r, List.drop_zero]
theorem both_of (ha : ∀ x ∈ a, 0 ≤ x ∧ x ≤ 255) (hb : ∀ x ∈ b, 0 ≤ x ∧ x ≤ 255) : bothW (ofL a) (ofL b) = ofL (a ++ b) := by
  obtain ⟨r1, r2⟩ := both_ru ha hb
  obtain ⟨n1, n2⟩ := near_seam (a := a) (b := b)
  have e1 := both_e (a := a) (b := b)
  unfold bothW ofL
  dsimp only
  rw [take_both, tail_both]
  congr 1
  unfold szL addZ seamL
  dsimp only
  rw [n1, n2, ← r1, ← r2, ← e1]
  congr 1
  simp
theorem usum_may {l : List Int} (hl : ∀ x ∈ l, 0 ≤ x ∧ x ≤ 255) : ∀ (n p : Nat), l.length - p ≤ n → p ≤ l.length →
    (0 ≤ usum l (spots l p) - ((spots l p).length : Int) ∧ usum l (spots l p) - ((spots l p).length : Int) ≤ ((spots l p).length : Int)) ∧
    ((spots l p).length : Int) - (usum l (spots l p) - ((spots l p).length : Int)) ≤ ((l.length : Int) - (p : Int)) - 4 * (usum l (spots l p) - ((spots l p).length : Int)) ∧
    ((l.length : Int) - (p : Int)) - 4 * (usum l (spots l p) - ((spots l p).length : Int)) ≤ 3 * (((spots l p).length : Int) - (usum l (spots l p) - ((spots l p).length : Int)))
  | 0, p, h, hle => by
    obtain rfl : p = l.length := by omega
    rw [spots_end (by omega)]
    simp [usum]
  | n + 1, p, h, hle => by
    by_cases hp : p < l.length
    · have hw := wid_pos hp
      have hw2 := wid_len hp
      have ih := usum_may hl n (p + wid (l.drop p)) (by omega) hw2
      have hu := uni_wid (x := l.drop p) (fun y hy => hl y (List.mem_of_mem_drop hy))
      have h4 := wid_four (l.drop p)
      have hwl : (lng (l.drop p) = 4) ↔ (wid (l.drop p) = 4) := by
        cases hd : l.drop p with
        | nil => have := congrArg List.length hd; simp at this; omega
        | cons x r =>
          rw [wid_lng]
          have := lng_le (x :: r)
          split <;> omega
      rw [spots_cons hp, usum_cons, hu, List.length_cons]
      generalize (spots l (p + wid (l.drop p))).length = R at *
      generalize usum l (spots l (p + wid (l.drop p))) = U at *
      by_cases hq : lng (l.drop p) = 4
      · rw [if_pos hq]
        have := hwl.1 hq
        omega
      · rw [if_neg hq]
        have : wid (l.drop p) ≠ 4 := fun h => hq (hwl.2 h)
        omega
    · obtain rfl : p = l.length := by omega
      rw [spots_end (by omega)]
      simp [usum]
theorem endsN_cons (x : Int) (r : List Int) : endsN r ≤ endsN (x :: r) ∧ endsN (x :: r) ≤ endsN r + 1 ∧ (128 ≤ x → endsN (x :: r) = endsN r) := by
  have hc : crlf (x :: r) = (if x = 13 ∧ r.head? = some 10 then 1 else 0) + crlf r := rfl
  unfold endsN
  rw [hc, List.count_cons, List.count_cons]
  by_cases h13 : x = 13
  · subst h13
    simp
    split <;> omega
  · by_cases h10 : x = 10
    · subst h10
      simp
      omega
    · simp [h13, h10]
      omega
theorem endsN_pos : ∀ l : List Int, 0 ≤ endsN l
  | [] => by simp [endsN, crlf]
  | x :: r => by have := (endsN_cons x r).1; have := endsN_pos r; omega
theorem drop_cons {l : List Int} {p : Nat} (hp : p < l.length) : l.drop p = l.getD p 0 :: l.drop (p + 1) := by
  rw [List.drop_eq_getElem_cons hp]
  simp [List.getD, List.getElem?_eq_getElem hp]
theorem ends_step {l : List Int} {p : Nat} (hp : p < l.length) : ∀ k, 1 ≤ k → k ≤ wid (l.drop p) → endsN (l.drop p) ≤ 1 + endsN (l.drop (p + k))
  | 0, h, _ => by omega
  | 1, _, _ => by
    rw [drop_cons hp]
    have := (endsN_cons (l.getD p 0) (l.drop (p + 1))).2.1
    omega
  | k + 2, _, h2 => by
    have ih := ends_step hp (k + 1) (by omega) (by omega)
    have hl := wid_len hp
    have ht := lng_tail (l := l.drop p) (k := k + 1) (by omega) (by rw [← wid_gt (by omega)]; omega)
    rw [getD_drop'] at ht
    simp only [isTail, decide_eq_true_eq] at ht
    have e := (endsN_cons (l.getD (p + (k + 1)) 0) (l.drop (p + (k + 1) + 1))).2.2 ht.1
    rw [← drop_cons (by omega)] at e
    rw [e] at ih
    exact ih
theorem ends_le {l : List Int} : ∀ (n p : Nat), l.length - p ≤ n → p ≤ l.length → endsN (l.drop p) ≤ ((spots l p).length : Int)
  | 0, p, h, hle => by
    obtain rfl : p = l.length := by omega
    rw [spots_end (by omega)]
    simp [endsN, crlf]
  | n + 1, p, h, hle => by
    by_cases hp : p < l.length
    · have hw := wid_pos hp
      have ih := ends_le n (p + wid (l.drop p)) (by omega) (wid_len hp)
      have := ends_step hp _ hw (Nat.le_refl _)
      rw [spots_cons hp, List.length_cons]
      omega
    · obtain rfl : p = l.length := by omega
      rw [spots_end (by omega)]
      simp [endsN, crlf]
theorem told_of {l : List Int} (h : l.length ≤ 6) : toldL l.length (l.take 3) (tail3 l) = l := by
  unfold toldL
  rcases Nat.lt_or_ge l.length 4 with h3 | h3
  · have e : l.take 3 = l := List.take_of_length_le (by omega)
    rw [e, Nat.sub_self, Nat.sub_zero, List.drop_of_length_le (Nat.le_refl _), List.append_nil]
  · have e : (tail3 l).drop ((tail3 l).length - (l.length - (l.take 3).length)) = l.drop 3 := by
      rw [tail3_len]
      unfold tail3
      rw [List.drop_drop]
      congr 1
      simp
      omega
    rw [e, List.take_append_drop]
theorem valid_of {l : List Int} (hl : ∀ x ∈ l, 0 ≤ x ∧ x ≤ 255) (hn : l.length ≤ 268435456) : validB (ofL l) = true := by
  unfold validB
  have e1 : (ofL l).z.b = (l.length : Int) := rfl
  have e2 : ((ofL l).h.length : Int) = min (l.length : Int) 3 := by show ((l.take 3).length : Int) = _; simp; omega
  have e3 : ((ofL l).t.length : Int) = min (l.length : Int) 3 := by show ((tail3 l).length : Int) = _; rw [tail3_len]; omega
  rw [e1, if_neg (by omega), if_neg (by omega)]
  by_cases h6 : (l.length : Int) ≤ 6
  · rw [if_pos h6]
    refine decide_eq_true ?_
    rw [Int.toNat_natCast]
    show ofL l = ofL (toldL l.length (l.take 3) (tail3 l))
    rw [told_of (by omega)]
  · rw [if_neg h6]
    obtain ⟨m1, m2, m3⟩ := usum_may hl l.length 0 (by omega) (Nat.zero_le _)
    have m4 := ends_le (l := l) l.length 0 (by omega) (Nat.zero_le _)
    have m5 := endsN_pos l
    rw [List.drop_zero] at m4
    have hr : (ofL l).z.r = ((spots l 0).length : Int) := rfl
    have hu : (ofL l).z.u = usum l (spots l 0) := rfl
    have he : (ofL l).z.e = endsN l := rfl
    unfold mayB
    rw [e1, hr, hu, he]
    simp only [Bool.and_eq_true, decide_eq_true_eq]
    omega
theorem join_of {a b : List Int} (ha : ∀ x ∈ a, 0 ≤ x ∧ x ≤ 255) (hb : ∀ x ∈ b, 0 ≤ x ∧ x ≤ 255) (hn : a.length + b.length ≤ 268435456) : joinL (ofL a) (ofL b) = (ofL (a ++ b), seamL (tail3 a) (b.take 3), 0) := by
  have hab : ∀ x ∈ a ++ b, 0 ≤ x ∧ x ≤ 255 := fun x hx => by
    rcases List.mem_append.1 hx with h | h
    · exact ha x h
    · exact hb x h
  unfold joinL
  rw [valid_of ha (by omega), valid_of hb (by omega), if_neg (by decide), if_neg (by show ¬ 268435456 < (a.length : Int) + (b.length : Int); omega), both_of ha hb, valid_of hab (by simp; omega), if_neg (by decide)]
  rfl
end
end
section
open Go.ChangeShapes Go.WideShapes Go.ChangeAt Go.RowKit
theorem Join_at (a b : We) (w : World) (hW : Wt w) (ha : Byw a) (hb : Byw b) :
    Calls Tryz.prog 132 #[weV a, weV b] w fun y w' => y = .returned (.tuple #[weV (joinL a b).1, .int .i64 (joinL a b).2.2]) ∧ Below w.heap.size w w' := by
  have za : (w.alloc (.cells #[.int .i64 a.z.b, .int .i64 a.z.r, .int .i64 a.z.u, .int .i64 a.z.e, .string (strOfNums a.h), .string (strOfNums a.t)] 47)).heap.size = w.heap.size + 1 := World.size_alloc ..
  have zb : ((w.alloc (.cells #[.int .i64 a.z.b, .int .i64 a.z.r, .int .i64 a.z.u, .int .i64 a.z.e, .string (strOfNums a.h), .string (strOfNums a.t)] 47)).alloc (.cells #[.int .i64 b.z.b, .int .i64 b.z.r, .int .i64 b.z.u, .int .i64 b.z.e, .string (strOfNums b.h), .string (strOfNums b.t)] 47)).heap.size = w.heap.size + 1 + 1 := by rw [World.size_alloc, za]
  have b1 : Below w.heap.size w (((w.alloc (.cells #[.int .i64 a.z.b, .int .i64 a.z.r, .int .i64 a.z.u, .int .i64 a.z.e, .string (strOfNums a.h), .string (strOfNums a.t)] 47)).alloc (.cells #[.int .i64 b.z.b, .int .i64 b.z.r, .int .i64 b.z.u, .int .i64 b.z.e, .string (strOfNums b.h), .string (strOfNums b.t)] 47)).alloc (.cells #[.int .i64 0, .int .i64 0, .int .i64 0, .int .i64 0, .string ⟨#[]⟩, .string ⟨#[]⟩] 47)) := (((Below.refl _ _).alloc (Nat.le_refl _) _).alloc (by omega) _).alloc (by omega) _
  have xr : (((w.alloc (.cells #[.int .i64 a.z.b, .int .i64 a.z.r, .int .i64 a.z.u, .int .i64 a.z.e, .string (strOfNums a.h), .string (strOfNums a.t)] 47)).alloc (.cells #[.int .i64 b.z.b, .int .i64 b.z.r, .int .i64 b.z.u, .int .i64 b.z.e, .string (strOfNums b.h), .string (strOfNums b.t)] 47)).alloc (.cells #[.int .i64 0, .int .i64 0, .int .i64 0, .int .i64 0, .string ⟨#[]⟩, .string ⟨#[]⟩] 47)).heap[w.heap.size + 1 + 1]? = some (.cells #[.int .i64 0, .int .i64 0, .int .i64 0, .int .i64 0, .string ⟨#[]⟩, .string ⟨#[]⟩] 47 (0, 0)) := by
    have := push_get ((w.alloc (.cells #[.int .i64 a.z.b, .int .i64 a.z.r, .int .i64 a.z.u, .int .i64 a.z.e, .string (strOfNums a.h), .string (strOfNums a.t)] 47)).alloc (.cells #[.int .i64 b.z.b, .int .i64 b.z.r, .int .i64 b.z.u, .int .i64 b.z.e, .string (strOfNums b.h), .string (strOfNums b.t)] 47)) (.cells #[.int .i64 0, .int .i64 0, .int .i64 0, .int .i64 0, .string ⟨#[]⟩, .string ⟨#[]⟩] 47)
    rwa [zb] at this
  have zr : w.heap.size + 1 + 1 < (((w.alloc (.cells #[.int .i64 a.z.b, .int .i64 a.z.r, .int .i64 a.z.u, .int .i64 a.z.e, .string (strOfNums a.h), .string (strOfNums a.t)] 47)).alloc (.cells #[.int .i64 b.z.b, .int .i64 b.z.r, .int .i64 b.z.u, .int .i64 b.z.e, .string (strOfNums b.h), .string (strOfNums b.t)] 47)).alloc (.cells #[.int .i64 0, .int .i64 0, .int .i64 0, .int .i64 0, .string ⟨#[]⟩, .string ⟨#[]⟩] 47)).heap.size := by rw [World.size_alloc, zb]; omega
  have HZ := hide (And.intro za zb)
  clear za zb
  unfold weV
  go_enter Tryz.func132, Tryz.ntmps132
  go_wp2_with fail
  generalize (((w.alloc (.cells #[.int .i64 a.z.b, .int .i64 a.z.r, .int .i64 a.z.u, .int .i64 a.z.e, .string (strOfNums a.h), .string (strOfNums a.t)] 47)).alloc (.cells #[.int .i64 b.z.b, .int .i64 b.z.r, .int .i64 b.z.u, .int .i64 b.z.e, .string (strOfNums b.h), .string (strOfNums b.t)] 47)).alloc (.cells #[.int .i64 0, .int .i64 0, .int .i64 0, .int .i64 0, .string ⟨#[]⟩, .string ⟨#[]⟩] 47)) = w1 at *
  generalize hgr : w.heap.size + 1 + 1 = gr at *
  have hwr : w.heap.size ≤ gr := by omega
  clear hgr HZ
  refine (join_at a b w1 (hW.below b1) ha hb).mono ?_
  unfold joinV weV szV
  rintro y w2 ⟨rfl, b2⟩
  dsimp only
  obtain ⟨j, hj⟩ : ∃ j, j = joinL a b := ⟨_, rfl⟩
  rw [← hj]
  have HJ := hide hj
  clear hj
  obtain ⟨x, z, er⟩ := j
  dsimp only
  go_upto_region 2 with fail
  have x2 := (b2.block gr zr).trans xr
  have q1 : Below w2.heap.size w2 ((w2.alloc (.cells #[.int .i64 x.z.b, .int .i64 x.z.r, .int .i64 x.z.u, .int .i64 x.z.e, .string (strOfNums x.h), .string (strOfNums x.t)] 47)).alloc (.cells #[.int .i64 z.b, .int .i64 z.r, .int .i64 z.u, .int .i64 z.e] 45)) := ((Below.refl _ _).alloc (Nat.le_refl _) _).alloc (by rw [World.size_alloc]; omega) _
  have y1 : ((w2.alloc (.cells #[.int .i64 x.z.b, .int .i64 x.z.r, .int .i64 x.z.u, .int .i64 x.z.e, .string (strOfNums x.h), .string (strOfNums x.t)] 47)).alloc (.cells #[.int .i64 z.b, .int .i64 z.r, .int .i64 z.u, .int .i64 z.e] 45)).heap[w2.heap.size]? = some (.cells #[.int .i64 x.z.b, .int .i64 x.z.r, .int .i64 x.z.u, .int .i64 x.z.e, .string (strOfNums x.h), .string (strOfNums x.t)] 47 (0, 0)) := (heap_alloc_old _ _ (by rw [World.size_alloc]; omega)).trans (push_get w2 _)
  have x3 := (q1.block gr (by have := b2.size; omega)).trans x2
  have bb3 : Below w.heap.size w ((w2.alloc (.cells #[.int .i64 x.z.b, .int .i64 x.z.r, .int .i64 x.z.u, .int .i64 x.z.e, .string (strOfNums x.h), .string (strOfNums x.t)] 47)).alloc (.cells #[.int .i64 z.b, .int .i64 z.r, .int .i64 z.u, .int .i64 z.e] 45)) := (b1.trans (b2.mono b1.size)).trans (q1.mono (by have := b1.size; have := b2.size; omega))
  generalize ((w2.alloc (.cells #[.int .i64 x.z.b, .int .i64 x.z.r, .int .i64 x.z.u, .int .i64 x.z.e, .string (strOfNums x.h), .string (strOfNums x.t)] 47)).alloc (.cells #[.int .i64 z.b, .int .i64 z.r, .int .i64 z.u, .int .i64 z.e] 45)) = w3 at *
  generalize w2.heap.size = gx at *
  clear q1 x2 xr b1 b2
  obtain ⟨c0, c1, c2, c3, c4, c5, _⟩ := cells6 y1
  obtain ⟨d0, d1, d2, d3, d4, d5, f⟩ := cells6 x3
  have f0 := f 0
  have f1 := f 1
  have f2 := f 2
  have f3 := f 3
  have f4 := f 4
  have f5 := f 5
  have xf := box6_all x3 (.int .i64 x.z.b) (.int .i64 x.z.r) (.int .i64 x.z.u) (.int .i64 x.z.e) (.string (strOfNums x.h)) (.string (strOfNums x.t))
  have bf := below6 bb3 hwr (.int .i64 x.z.b) (.int .i64 x.z.r) (.int .i64 x.z.u) (.int .i64 x.z.e) (.string (strOfNums x.h)) (.string (strOfNums x.t))
  clear f
  go_wp2_with fail
  clear c0 c1 c2 c3 c4 c5 d0 d1 d2 d3 d4 d5 f0 f1 f2 f3 f4 f5
  generalize ((((((w3.setCell ⟨gr, 0, none⟩ (.int .i64 x.z.b)).setCell ⟨gr, 1, none⟩ (.int .i64 x.z.r)).setCell ⟨gr, 2, none⟩ (.int .i64 x.z.u)).setCell ⟨gr, 3, none⟩ (.int .i64 x.z.e)).setCell ⟨gr, 4, none⟩ (.string (strOfNums x.h))).setCell ⟨gr, 5, none⟩ (.string (strOfNums x.t))) = wf at *
  obtain ⟨e0, e1, e2, e3, e4, e5, _⟩ := cells6 xf
  exact bodyPost_ret (v := .tuple #[.agg #[.int .i64 x.z.b, .int .i64 x.z.r, .int .i64 x.z.u, .int .i64 x.z.e, .string (strOfNums x.h), .string (strOfNums x.t)], .int .i64 er]) (by simp [results, Tryz.results132, go_sem, e0, e1, e2, e3, e4, e5]) rfl ⟨by first | (rw [← unhide HJ]; done) | (rw [← unhide HJ]; rfl), bf⟩
end
end Go.Proofs.YteamaneompijkaaGreatDoor
