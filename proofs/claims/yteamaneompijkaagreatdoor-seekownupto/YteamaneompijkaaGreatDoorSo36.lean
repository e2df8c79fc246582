/- Layer 10, plain: what a few bytes about a place tell of the whole text; line ends counted in beginnings. · Layer 10: contracts of seek's known, by, ahead, floor, stepAt, Floor, Step. -/
import Derived.Test.YteamaneompijkaaGreatDoorSo15
import Derived.Test.YteamaneompijkaaGreatDoorSo30
import Derived.Test.YteamaneompijkaaGreatDoorSo35
import Derived.Test.YteamaneompijkaaGreatDoorSo18
import Derived.Test.YteamaneompijkaaGreatDoorSo09
namespace Go.Proofs.YteamaneompijkaaGreatDoor
open Go.ChangeShapes Go.WideShapes Go.ChangeAt Go.RowKit
set_option maxRecDepth 100000
set_option maxHeartbeats 8000000
section
theorem lng_few {L : List Int} {n : Nat} (h : 4 ≤ n ∨ L.length ≤ n) : lng (L.take n) = lng L := by
  rcases h with h | h
  · exact lng_cut (Nat.le_trans (lng_le L) h)
  · rw [List.take_of_length_le h]
theorem first_few {L : List Int} {n : Nat} (h : 4 ≤ n ∨ L.length ≤ n) : first (L.take n) = first L := by
  rcases h with h | h
  · exact first_take L n h
  · rw [List.take_of_length_le h]
theorem stp_few {L : List Int} {n : Nat} (h : 4 ≤ n ∨ L.length ≤ n) : stp (L.take n) = stp L := by
  unfold stp wid whl
  rw [lng_few h, first_few h]
theorem win_drop (T : List Int) (lo n j : Nat) : ((T.drop lo).take n).drop j = (T.drop (lo + j)).take (n - j) := by
  rw [List.drop_take, List.drop_drop]
theorem flr_win (T : List Int) (p : Nat) (hp : p ≤ T.length) : p - 3 + flr ((T.drop (p - 3)).take (min T.length (p + 3) - (p - 3))) (p - (p - 3)) = flr T p := by
  have key : ∀ k, 1 ≤ k → k ≤ 3 → ((k ≤ p - (p - 3) ∧ k < lng (((T.drop (p - 3)).take (min T.length (p + 3) - (p - 3))).drop (p - (p - 3) - k))) ↔ (k ≤ p ∧ k < lng (T.drop (p - k)))) := by
    intro k h1 h3
    by_cases hk : k ≤ p
    · rw [win_drop, show p - 3 + (p - (p - 3) - k) = p - k by omega, lng_few (by rw [List.length_drop]; omega)]
      constructor
      · exact fun h => ⟨hk, h.2⟩
      · exact fun h => ⟨by omega, h.2⟩
    · constructor
      · exact fun h => absurd h.1 (by omega)
      · exact fun h => absurd h.1 hk
  have k1 := key 1 (by omega) (by omega)
  have k2 := key 2 (by omega) (by omega)
  have k3 := key 3 (by omega) (by omega)
  unfold flr
  by_cases h1 : 1 ≤ p ∧ 1 < lng (T.drop (p - 1))
  · rw [if_pos h1, if_pos (k1.2 h1)]; have := h1.1; omega
  · rw [if_neg h1, if_neg (fun h => h1 (k1.1 h))]
    by_cases h2 : 2 ≤ p ∧ 2 < lng (T.drop (p - 2))
    · rw [if_pos h2, if_pos (k2.2 h2)]; have := h2.1; omega
    · rw [if_neg h2, if_neg (fun h => h2 (k2.1 h))]
      by_cases h3 : 3 ≤ p ∧ 3 < lng (T.drop (p - 3))
      · rw [if_pos h3, if_pos (k3.2 h3)]; have := h3.1; omega
      · rw [if_neg h3, if_neg (fun h => h3 (k3.1 h))]; omega
theorem take_oneS (T : List Int) {n : Nat} (h : n < T.length) : T.take (n + 1) = T.take n ++ [T.getD n 0] := by
  rw [List.take_add_one, List.getElem?_eq_getElem h, List.getD_eq_getElem?_getD, List.getElem?_eq_getElem h]; rfl
theorem last_takeS (T : List Int) {n : Nat} (h0 : 0 < n) (h : n ≤ T.length) : (T.take n).getLast? = some (T.getD (n - 1) 0) := by
  obtain ⟨m, rfl⟩ : ∃ m, n = m + 1 := ⟨n - 1, by omega⟩
  rw [take_oneS T (by omega)]
  simp
theorem ends_oneS (T : List Int) {n : Nat} (h : n < T.length) : endsN (T.take (n + 1)) = endsN (T.take n) + (if (T.getD n 0 = 10 ∧ ¬ (T.take n).getLast? = some 13) ∨ T.getD n 0 = 13 then 1 else 0) := by
  rw [take_oneS T h, ends_snoc]
theorem ends_upS (T : List Int) (i : Nat) : ∀ d, i + d ≤ T.length → endsN (T.take i) ≤ endsN (T.take (i + d))
  | 0, _ => Int.le_refl _
  | d + 1, h => by
    have h1 := ends_upS T i d (by omega)
    have h2 := ends_oneS T (n := i + d) (by omega)
    rw [show i + (d + 1) = i + d + 1 from rfl, h2]
    split <;> omega
theorem ends_leS (T : List Int) {i j : Nat} (h : i ≤ j) (hj : j ≤ T.length) : endsN (T.take i) ≤ endsN (T.take j) := by
  have := ends_upS T i (j - i) (by omega)
  rwa [show i + (j - i) = j by omega] at this
theorem ends_plain (T : List Int) (i : Nat) : ∀ d, i + d ≤ T.length → (∀ j, i ≤ j → j < i + d → isNl (T.getD j 0) = false) → endsN (T.take (i + d)) = endsN (T.take i)
  | 0, _, _ => rfl
  | d + 1, h, hn => by
    have h1 := ends_plain T i d (by omega) (fun j a b => hn j a (by omega))
    have h2 := ends_oneS T (n := i + d) (by omega)
    have h3 := hn (i + d) (by omega) (by omega)
    have h4 : ¬ ((T.getD (i + d) 0 = 10 ∧ ¬ (T.take (i + d)).getLast? = some 13) ∨ T.getD (i + d) 0 = 13) := by
      rintro (h | h)
      · rw [h.1] at h3; cases h3
      · rw [h] at h3; cases h3
    rw [show i + (d + 1) = i + d + 1 from rfl, h2, if_neg h4, h1]; omega
def apartAt (T : List Int) (s : Nat) : Prop := s = 0 ∨ ¬ (T.getD (s - 1) 0 = 13 ∧ T.getD s 0 = 10)
theorem ends_atS {T : List Int} {s : Nat} (hs : s ≤ T.length) (ha : apartAt T s) (h : ctn T s < T.length) :
    endsN (T.take (ctn T s)) = endsN (T.take s) ∧ endsN (T.take (ctn T s + 1)) = endsN (T.take s) + 1 ∧ endsN (T.take (nxt T (ctn T s))) = endsN (T.take s) + 1 ∧ apartAt T (nxt T (ctn T s)) := by
  have hc := ctn_le T s
  have h1 : endsN (T.take (ctn T s)) = endsN (T.take s) := by
    have := ends_plain T s (ctn T s - s) (by omega) (fun j a b => ctn_no a (by omega) hs)
    rwa [show s + (ctn T s - s) = ctn T s by omega] at this
  have hn := ctn_nl h
  have hlast : T.getD (ctn T s) 0 = 10 → ¬ (T.take (ctn T s)).getLast? = some 13 := by
    intro e k
    by_cases h0 : ctn T s = 0
    · rw [h0] at k; simp at k
    · rw [last_takeS T (by omega) (by omega)] at k
      have k' : T.getD (ctn T s - 1) 0 = 13 := Option.some.inj k
      by_cases hcs : ctn T s = s
      · rcases ha with h | h
        · omega
        · exact h ⟨by rw [← hcs]; exact k', by rw [← hcs]; exact e⟩
      · have := ctn_no (l := T) (s := s) (j := ctn T s - 1) (by omega) (by omega) hs
        rw [k'] at this; cases this
  have h2 : endsN (T.take (ctn T s + 1)) = endsN (T.take s) + 1 := by
    rw [ends_oneS T h, h1, if_pos]
    rcases nl_val hn with e | e
    · exact .inr e
    · exact .inl ⟨e, hlast e⟩
  refine ⟨h1, h2, ?_⟩
  unfold nxt edw
  rw [getD_drop', getD_drop']
  by_cases hcr : T.getD (ctn T s + 0) 0 = 13 ∧ T.getD (ctn T s + 1) 0 = 10
  · rw [if_pos hcr]
    have hl : ctn T s + 1 < T.length := by
      apply Classical.byContradiction
      intro hh
      have := hcr.2
      rw [List.getD_eq_getElem?_getD, List.getElem?_eq_none (by omega)] at this
      cases this
    refine ⟨?_, .inr ?_⟩
    · rw [ends_oneS T hl, h2, if_neg]
      · omega
      · rintro (k | k)
        · exact k.2 (by rw [last_takeS T (by omega) (by omega)]; exact congrArg some hcr.1)
        · rw [hcr.2] at k; cases k
    · rintro ⟨k, _⟩
      rw [show ctn T s + 2 - 1 = ctn T s + 1 from rfl, hcr.2] at k; cases k
  · rw [if_neg hcr]
    refine ⟨h2, .inr ?_⟩
    rintro ⟨k, k2⟩
    exact hcr ⟨k, k2⟩
theorem ln_ends {T : List Int} : ∀ (f k s i : Nat), T.length - s ≤ f → s ≤ T.length → apartAt T s → i < (lnR T k s).length →
    endsN (T.take ((lnR T k s).getD i z4).2.1) = endsN (T.take s) + i ∧ endsN (T.take ((lnR T k s).getD i z4).2.2.1) = endsN (T.take s) + i ∧
    (i + 1 < (lnR T k s).length → ((lnR T k s).getD i z4).2.2.1 < T.length ∧ endsN (T.take (((lnR T k s).getD i z4).2.2.1 + 1)) = endsN (T.take s) + i + 1 ∧ ((lnR T k s).getD i z4).2.2.2 = nxt T ((lnR T k s).getD i z4).2.2.1) ∧
    (¬ i + 1 < (lnR T k s).length → endsN T = endsN (T.take s) + i ∧ ((lnR T k s).getD i z4).2.2.1 = T.length ∧ ((lnR T k s).getD i z4).2.2.2 = T.length) := by
  intro f
  induction f with
  | zero =>
    intro k s i hf hs ha hi
    have e : s = T.length := by omega
    have hc : ¬ ctn T s < T.length := by have := ctn_le T s; omega
    rw [lnR_last hc] at hi ⊢
    obtain rfl : i = 0 := by simp at hi; omega
    refine ⟨by simp, ?_, fun h => by simp at h, fun _ => ⟨?_, rfl, rfl⟩⟩
    · subst e; simp
    · subst e; simp
  | succ f ih =>
    intro k s i hf hs ha hi
    by_cases hc : ctn T s < T.length
    · obtain ⟨h1, h2, h3, h4⟩ := ends_atS hs ha hc
      have hx := ctn_le T s
      have hg := nxt_gt T (ctn T s)
      have hl := nxt_len hc
      rw [lnR_cons hc] at hi ⊢
      cases i with
      | zero =>
        refine ⟨by simp, by simpa using h1, fun _ => ⟨hc, by simpa using h2, rfl⟩, fun h => absurd h ?_⟩
        have : 0 < (lnR T (k + 1) (nxt T (ctn T s))).length := by
          by_cases hc2 : ctn T (nxt T (ctn T s)) < T.length
          · rw [lnR_cons hc2]; simp
          · rw [lnR_last hc2]; simp
        rw [List.length_cons]; omega
      | succ i =>
        have hi' : i < (lnR T (k + 1) (nxt T (ctn T s))).length := by simpa using hi
        obtain ⟨a, b, c, d⟩ := ih (k + 1) (nxt T (ctn T s)) i (by omega) hl h4 hi'
        rw [h3] at a b c d
        simp only [List.getD_cons_succ, List.length_cons]
        refine ⟨by rw [a]; push_cast; omega, by rw [b]; push_cast; omega, fun h => ?_, fun h => ?_⟩
        · obtain ⟨c1, c2, c3⟩ := c (by omega)
          exact ⟨c1, by rw [c2]; push_cast; omega, c3⟩
        · obtain ⟨d1, d2⟩ := d (by omega)
          exact ⟨by rw [d1]; push_cast; omega, d2⟩
    · rw [lnR_last hc] at hi ⊢
      obtain rfl : i = 0 := by simp at hi; omega
      have hcl := ctn_len hs
      have e : ctn T s = T.length := by omega
      have h1 : endsN (T.take T.length) = endsN (T.take s) := by
        have := ends_plain T s (T.length - s) (by omega) (fun j a b => ctn_no a (by omega) hs)
        rwa [show s + (T.length - s) = T.length by omega] at this
      rw [List.take_length] at h1
      refine ⟨by simp, ?_, fun h => by simp at h, fun _ => ⟨?_, rfl, rfl⟩⟩
      · simpa using h1
      · simpa using h1
theorem LN_ends {T : List Int} {i : Nat} (hi : i < (LN T).length) :
    endsN (T.take ((LN T).getD i z4).2.1) = i ∧ endsN (T.take ((LN T).getD i z4).2.2.1) = i ∧
    (i + 1 < (LN T).length → ((LN T).getD i z4).2.2.1 < T.length ∧ endsN (T.take (((LN T).getD i z4).2.2.1 + 1)) = i + 1 ∧ ((LN T).getD i z4).2.2.2 = nxt T ((LN T).getD i z4).2.2.1) ∧
    (¬ i + 1 < (LN T).length → endsN T = i ∧ ((LN T).getD i z4).2.2.1 = T.length ∧ ((LN T).getD i z4).2.2.2 = T.length) := by
  have := ln_ends (T := T) T.length 0 0 i (by omega) (Nat.zero_le _) (.inl rfl) hi
  rw [List.take_zero, show endsN ([] : List Int) = 0 from rfl] at this
  simp only [Int.zero_add] at this
  exact this
theorem LN_count (T : List Int) : ((LN T).length : Int) = endsN T + 1 := by
  have h0 := LN_pos T
  have := (LN_ends (T := T) (i := (LN T).length - 1) (by omega)).2.2.2 (by omega)
  have := this.1
  omega
def enP (T : List Int) (n : Int) : Int × Int := if n < 0 then ((T.length : Int), (T.length : Int)) else (n - 1, n - 1 + (edw (T.drop (n.toNat - 1)) : Int))
theorem en_ln {T : List Int} {k : Nat} {n : Int} (hk : k < (LN T).length) (h : FirA (fun l => decide ((k : Int) < endsN l)) T n) :
    enP T n = ((((LN T).getD k z4).2.2.1 : Int), (((LN T).getD k z4).2.2.2 : Int)) ∧ (0 ≤ n → ∃ m : Nat, n = (m : Int) + 1 ∧ m < T.length ∧ isNl (T.getD m 0) = true) := by
  obtain ⟨a, b, c, d⟩ := LN_ends hk
  rcases h with ⟨h1, h2⟩ | ⟨h1, h2, h3⟩ | ⟨h1, m, h2, h3, h4, h5, h6⟩
  · have : (k : Int) < endsN [] := of_decide_eq_true h1
    rw [show endsN ([] : List Int) = 0 from rfl] at this; omega
  · have hT : ¬ (k : Int) < endsN T := of_decide_eq_false h2
    have hc := LN_count T
    obtain ⟨_, d2, d3⟩ := d (by omega)
    subst h3
    refine ⟨?_, fun h => by omega⟩
    unfold enP
    rw [if_pos (by omega), d2, d3]
  · have hm1 : ¬ (k : Int) < endsN (T.take (m - 1)) := of_decide_eq_false h5
    have hm2 : (k : Int) < endsN (T.take m) := of_decide_eq_true h6
    have hT := ends_leS T h4 (Nat.le_refl _)
    rw [List.take_length] at hT
    have hc := LN_count T
    obtain ⟨c1, c2, c3⟩ := c (by omega)
    have e : m - 1 = ((LN T).getD k z4).2.2.1 := by
      apply Nat.le_antisymm
      · apply Classical.byContradiction
        intro hh
        have := ends_leS T (i := ((LN T).getD k z4).2.2.1 + 1) (j := m - 1) (by omega) (by omega)
        omega
      · apply Classical.byContradiction
        intro hh
        have := ends_leS T (i := m) (j := ((LN T).getD k z4).2.2.1) (by omega) (by omega)
        omega
    refine ⟨?_, fun _ => ⟨m - 1, by omega, by omega, ?_⟩⟩
    · unfold enP
      rw [if_neg (by omega), c3, h2, show ((m : Int).toNat - 1) = ((LN T).getD k z4).2.2.1 by omega]
      unfold nxt
      rw [show (m : Int) - 1 = (((LN T).getD k z4).2.2.1 : Int) by omega]
      push_cast
      rfl
    · have h7 := ends_oneS T (n := m - 1) (by omega)
      rw [show m - 1 + 1 = m by omega] at h7
      apply Classical.byContradiction
      intro hh
      have hq : isNl (T.getD (m - 1) 0) = false := by simpa using hh
      rw [if_neg] at h7
      · omega
      · rintro (k | k)
        · rw [k.1] at hq; cases hq
        · rw [k] at hq; cases hq
theorem nbr_end {x : Int} {r : List Int} (hx : isNl x = true) : nbr (x :: r) 0 = some (0, 0, 0, edw (x :: r)) := by
  have hc : ctn (x :: r) 0 = 0 := by unfold ctn; simp [List.findIdx_cons, hx]
  have : LN (x :: r) = (0, 0, 0, edw (x :: r)) :: lnR (x :: r) 1 (nxt (x :: r) 0) := by
    unfold LN
    rw [lnR_cons (by rw [hc]; simp), hc]
    simp [nxt]
  unfold nbr
  rw [this]
  simp
theorem edw_take (L : List Int) (n : Nat) (h : 2 ≤ n ∨ L.length ≤ n) : edw (L.take n) = edw L := by
  rcases h with h | h
  · unfold edw
    rw [List.getD_eq_getElem?_getD, List.getD_eq_getElem?_getD, List.getD_eq_getElem?_getD, List.getD_eq_getElem?_getD, List.getElem?_take, List.getElem?_take, if_pos (show 0 < n by omega), if_pos (show 1 < n by omega)]
  · rw [List.take_of_length_le h]
end
section
attribute [local go_sem] Oper.semAt_some
theorem own_isNS {W : World} {B : Nat} {v : Value} {l : List Int} (h : Own W B v l) (hl : ∀ x ∈ l, 0 ≤ x ∧ x ≤ 255) (hn : l.length ≤ 140737488351232) : ∃ a c, v = .slice a l.length c ∧ IsN W a c l := by
  have hc := h
  rcases h.2 with ⟨rfl, h0⟩ | ⟨g, cap, cur, rfl, _, hg, hle, _⟩
  · exact ⟨none, 0, by rw [h0], ⟨by omega, hn, Or.inl (List.length_eq_zero_iff.1 h0), hl⟩, fun _ => rfl⟩
  · exact ⟨_, cap, rfl, ⟨hle, hn, Or.inr ⟨g, 0, rfl, hc.lies hl⟩, hl⟩, fun e => by cases e⟩
theorem isB_nilS (w : World) : IsB w none 0 [] := ⟨Nat.le_refl _, by simp, Or.inl rfl, by simp⟩
theorem own_lit0S (w : World) : Own (w.alloc (.cells #[] 5)) w.heap.size (.slice (some ⟨w.heap.size, 0, none⟩) 0 0) [] :=
  ⟨rfl, Or.inr ⟨w.heap.size, 0, #[], rfl, Nat.le_refl _, World.alloc_heap_new w _, Nat.le_refl _, Nat.zero_le _, rfl, rfl⟩⟩
def kn3 (f t m : Int) : Int := if isRu f && (isRu t && isRu m) then 0 else 3
theorem known10_val (f t m : Int) : toR f 0 t m (EE []) = kn3 f t m := by
  unfold toR kn3
  have hE : EE [] = [e0] := by unfold EE; rw [spots_end (by simp)]; rfl
  by_cases h : (isRu f && (isRu t && isRu m)) = true
  · rw [if_pos h, if_pos h]
    have h := at_edge (inc_EE (l := []) (by simp) f) (j := 0) (by rw [hE]; simp) m
    rw [hE] at h ⊢
    have hb : byE f e0 = 0 := by_e0 f
    have hg : [e0].getD 0 e0 = e0 := rfl
    rw [hg, hb] at h
    exact h.2.2.1
  · rw [if_neg h, if_neg h]
theorem known10_at (f t m : Int) (w : World) (hT : Tab w) :
    Calls Tryz.prog 49 #[.int .i64 f, .int .i64 t, .int .i64 m] w fun y w' => y = .returned (.int .i64 (kn3 f t m)) ∧ Below w.heap.size w w' := by
  have k1 := To_at none 0 [] f 0 t m w (isB_nilS w) hT
  rw [known10_val, List.length_nil] at k1
  go_enter Tryz.func49, Tryz.ntmps49
  go_wp2_with fail
  refine k1.mono ?_
  rintro y w1 ⟨rfl, b1⟩
  go_wp2_with fail
  go_ret
  exact ⟨rfl, b1⟩
def byZ (u : Int) (z : Sz) : Int := if u = 1 then z.b else if u = 2 then z.r else z.u
theorem by10_at (z : Sz) (u : Int) (w : World) :
    Calls Tryz.prog 51 #[szV z, .int .i64 u] w fun y w' => y = .returned (.int .i64 (byZ u z)) ∧ Below w.heap.size w w' := by
  unfold szV
  by_cases h1 : u = 1
  · subst h1
    go_enter Tryz.func51, Tryz.ntmps51
    go_wp2
    go_ret
    exact ⟨rfl, (Below.refl _ w).alloc (Nat.le_refl _) _⟩
  · by_cases h2 : u = 2
    · subst h2
      go_enter Tryz.func51, Tryz.ntmps51
      go_wp2
      go_ret
      exact ⟨rfl, (Below.refl _ w).alloc (Nat.le_refl _) _⟩
    · have e1 : (u == 1) = false := by simpa using h1
      have e2 : (u == 2) = false := by simpa using h2
      have HB : Hid (byZ u z = z.u) := hide (by rw [byZ, if_neg h1, if_neg h2])
      clear h1 h2
      go_enter Tryz.func51, Tryz.ntmps51
      go_wp2
      go_ret
      exact ⟨ret_int (by rw [unhide HB]), (Below.refl _ w).alloc (Nat.le_refl _) _⟩
theorem ahead10_at (g : Nat) (o : Option Nd) (n : Nat) (w : World) (h : IsRo w g o) (hn : n ≤ (txtO o).length) (hm : (txtO o).length ≤ 268435456) (hW : Wt w) :
    Calls Tryz.prog 52 #[.func (.func 53) #[.pointer (some ⟨g, 0, none⟩)] #[], .int .i64 (n : Int)] w fun y w' => y = .returned (szV (szL ((txtO o).take n))) ∧ Below w.heap.size w w' := by
  have b0 := (Below.refl w.heap.size w).alloc (Nat.le_refl _) (.cells #[.int .i64 0, .int .i64 0, .int .i64 0, .int .i64 0] 45)
  have g0 := push_get w (.cells #[.int .i64 0, .int .i64 0, .int .i64 0, .int .i64 0] 45)
  have k := BeforeR9_at g o n _ (h.on b0) hn hm (hW.below b0)
  rw [weq9] at k
  have HK := hide k
  have HQ : Hid (szV (szL (List.take n (txtO o))) = .agg #[.int .i64 (szL (List.take n (txtO o))).b, .int .i64 (szL (List.take n (txtO o))).r, .int .i64 (szL (List.take n (txtO o))).u, .int .i64 (szL (List.take n (txtO o))).e]) := hide rfl
  clear k h hn hm hW
  go_enter Tryz.func52, Tryz.ntmps52
  go_upto_region 1 with fail
  generalize w.alloc (.cells #[.int .i64 0, .int .i64 0, .int .i64 0, .int .i64 0] 45) = w0 at *
  have HG := hide g0
  have HB := hide b0
  clear g0 b0
  generalize (szL (List.take n (txtO o))).b = zb at *
  generalize (szL (List.take n (txtO o))).r = zr at *
  generalize (szL (List.take n (txtO o))).u = zu at *
  generalize (szL (List.take n (txtO o))).e = ze at *
  generalize strOfNums (List.take 3 (List.take n (txtO o))) = zh at *
  generalize strOfNums (tail3 (List.take n (txtO o))) = zt at *
  go_wp2_with fail
  refine (unhide HK).mono ?_
  rintro y w1 ⟨rfl, x1⟩
  dsimp only
  have hg := bk9_on (unhide HG) x1
  have hd := (unhide HB).trans (x1.mono (unhide HB).size)
  have HG1 := hide hg
  have HD1 := hide hd
  clear hg hd x1 HK HG HB
  go_upto_region 2 with fail
  have x5 := (Below.refl w1.heap.size w1).alloc (Nat.le_refl _) (.cells #[.int .i64 zb, .int .i64 zr, .int .i64 zu, .int .i64 ze, .string zh, .string zt] 47)
  have g5 := push_get w1 (.cells #[.int .i64 zb, .int .i64 zr, .int .i64 zu, .int .i64 ze, .string zh, .string zt] 47)
  generalize w1.alloc (.cells #[.int .i64 zb, .int .i64 zr, .int .i64 zu, .int .i64 ze, .string zh, .string zt] 47) = w5 at *
  have hg := bk9_on (unhide HG1) x5
  have hd := (unhide HD1).trans (x5.mono (unhide HD1).size)
  generalize w1.heap.size = gW at *
  clear x5 HG1 HD1
  obtain ⟨c0, c1, c2, c3, _, _, _⟩ := cells6 g5
  obtain ⟨d0, d1, d2, d3, f⟩ := cells4 hg
  have f0 := f 0
  have f1 := f 1
  have f2 := f 2
  have f3 := f 3
  have HF := hide (box4_all hg (.int .i64 zb) (.int .i64 zr) (.int .i64 zu) (.int .i64 ze))
  have HD := hide (below4 hd (Nat.le_refl _) (.int .i64 zb) (.int .i64 zr) (.int .i64 zu) (.int .i64 ze))
  clear f hg hd g5
  go_wp2_with fail
  obtain ⟨c0, c1, c2, c3, _⟩ := cells4 (unhide HF)
  refine bodyPost_ret (v := .agg #[.int .i64 zb, .int .i64 zr, .int .i64 zu, .int .i64 ze]) (by simp [results, Tryz.results52, go_sem, c0, c1, c2, c3]) rfl ⟨by rw [unhide HQ], unhide HD⟩
theorem floor10_of (g : Nat) (o : Option Nd) (p lo hi N q : Nat) (L : List Int) (w : World) (hk : Calls Tryz.prog 17 #[.pointer (some ⟨g, 0, none⟩), .int .i64 (lo : Int), .int .i64 (hi : Int)] w fun y w' => ∃ v, y = .returned (.tuple #[v, .int .i64 0]) ∧ Own w' w.heap.size v L ∧ Below w.heap.size w w')
    (hb : ∀ x ∈ L, 0 ≤ x ∧ x ≤ 255) (hL : L.length ≤ 268435456) (w2 : wrap64 ((p : Int) - 4) = (p : Int) - 4) (w2' : wrap64 ((p : Int) - 4 + 1) = (p : Int) - 3) (w3 : max 0 ((p : Int) - 3) = (lo : Int))
    (w4 : wrap64 ((p : Int) + 4) = (p : Int) + 4) (w5 : wrap64 ((p : Int) + 4 - 1) = (p : Int) + 3) (w6 : min (N : Int) ((p : Int) + 3) = (hi : Int)) (w7 : (p : Int) - (lo : Int) = (q : Int)) (hq : q ≤ L.length) (w8 : wrap64 ((lo : Int) + (flr L q : Int)) = (flr (txtO o) p : Int)) (hW : Wt w) :
    Calls Tryz.prog 64 #[.func (.func 17) #[.pointer (some ⟨g, 0, none⟩)] #[], .int .i64 (N : Int), .int .i64 (p : Int)] w fun y w' => y = .returned (.int .i64 (flr (txtO o) p : Int)) ∧ Below w.heap.size w w' := by
  have e1 : floorV L ((p : Int) - (lo : Int)) = .tuple #[.int .i64 (flr L q : Int), .int .i64 0] := by
    rw [w7]
    unfold floorV
    rw [if_neg (by omega), Int.toNat_natCast]
  have HK := hide hk
  have HB := hide hb
  have HT := hide fun (X : World) (hx : Below w.heap.size w X) => (hW.below hx).1
  have HL := hide hL
  have HE := hide e1
  generalize flr (txtO o) p = fr at *
  clear hk hb hW hL hq e1 w7
  go_enter Tryz.func64, Tryz.ntmps64
  go_wp2_with fail
  refine (unhide HK).mono ?_
  rintro y wa ⟨v, rfl, hv, x1⟩
  dsimp only
  obtain ⟨a', c', rfl, hN'⟩ := own_isNS hv (unhide HB) (by have := unhide HL; omega)
  have HI := hide hN'
  clear hv hN'
  go_wp2_with fail
  refine (Floor_at a' c' _ _ wa (unhide HI).1 (unhide HT wa x1)).mono ?_
  rintro y wb ⟨rfl, x2⟩
  dsimp only
  rw [unhide HE]
  have X2 := x1.trans (x2.mono x1.size)
  go_wp2_with fail
  go_ret
  exact ⟨ret_int w8, X2⟩
theorem floor10_at (g : Nat) (o : Option Nd) (p : Nat) (w : World) (h : IsRo w g o) (hb : ∀ x ∈ txtO o, 0 ≤ x ∧ x ≤ 255) (hp : p ≤ (txtO o).length) (hm : (txtO o).length ≤ 268435456) (hW : Wt w) :
    Calls Tryz.prog 64 #[.func (.func 17) #[.pointer (some ⟨g, 0, none⟩)] #[], .int .i64 ((txtO o).length : Int), .int .i64 (p : Int)] w fun y w' => y = .returned (.int .i64 (flr (txtO o) p : Int)) ∧ Below w.heap.size w w' := by
  have hfw := flr_win (txtO o) p hp
  have hle := flr_le (txtO o) p
  have hlw : (((txtO o).drop (p - 3)).take (min (txtO o).length (p + 3) - (p - 3))).length = min (txtO o).length (p + 3) - (p - 3) := by rw [List.length_take, List.length_drop]; omega
  exact floor10_of g o p (p - 3) (min (txtO o).length (p + 3)) (txtO o).length (p - (p - 3)) _ w (BytesR9_at g o (p - 3) (min (txtO o).length (p + 3)) w h (by omega) (by omega) hm) (fun x hx => hb x (List.mem_of_mem_drop (List.mem_of_mem_take hx))) (by omega)
    (wrap_in _ (by omega) (by omega)) (by rw [wrap_in _ (by omega) (by omega)]; omega) (by omega) (wrap_in _ (by omega) (by omega)) (by rw [wrap_in _ (by omega) (by omega)]; omega) (by omega) (by omega) (by omega)
    (by rw [wrap_in _ (by omega) (by omega)]; omega) hW
theorem Floor10_at (g : Nat) (o : Option Nd) (p : Int) (w : World) (h : IsRo w g o) (hb : ∀ x ∈ txtO o, 0 ≤ x ∧ x ≤ 255) (hm : (txtO o).length ≤ 268435456) (hW : Wt w) :
    Calls Tryz.prog 30 #[.pointer (some ⟨g, 0, none⟩), .int .i64 p] w fun y w' => y = .returned (floorV (txtO o) p) ∧ Below w.heap.size w w' := by
  have HL := hide fun (X : World) (hx : Below w.heap.size w X) => Len9_at g o X (h.on hx)
  have HF := hide fun (X : World) (hx : Below w.heap.size w X) (q : Nat) (hq : q ≤ (txtO o).length) => floor10_at g o q X (h.on hx) hb hq hm (hW.below hx)
  clear h hb hm hW
  by_cases h0 : p < 0
  · have d0 : decide (p < 0) = true := decide_eq_true h0
    have hv : floorV (txtO o) p = .tuple #[.int .i64 0, .int .i64 2] := by unfold floorV; rw [if_pos (.inl h0)]
    rw [hv]
    clear h0 hv
    go_enter Tryz.func30, Tryz.ntmps30
    go_wp2_with fail
    refine bodyPost_ret (results_tmp2 rfl _ _ _) rfl ?_
    exact ⟨rfl, Below.refl _ _⟩
  · have d0 : decide (p < 0) = false := decide_eq_false h0
    by_cases h1 : ((txtO o).length : Int) < p
    · have d1 : decide (p > ((txtO o).length : Int)) = true := decide_eq_true h1
      have d2 : decide (((txtO o).length : Int) < p) = true := decide_eq_true h1
      have hv : floorV (txtO o) p = .tuple #[.int .i64 0, .int .i64 2] := by unfold floorV; rw [if_pos (.inr h1)]
      rw [hv]
      clear h0 h1 hv
      go_enter Tryz.func30, Tryz.ntmps30
      go_wp2_with fail
      refine (unhide HL w (Below.refl _ _)).mono ?_
      rintro y w1 ⟨rfl, x1⟩
      dsimp only
      go_wp2_with fail
      refine bodyPost_ret (results_tmp2 rfl _ _ _) rfl ?_
      exact ⟨rfl, x1⟩
    · obtain ⟨q, rfl⟩ : ∃ q : Nat, p = (q : Int) := ⟨p.toNat, by omega⟩
      have d1 : decide ((q : Int) > ((txtO o).length : Int)) = false := decide_eq_false h1
      have d2 : decide (((txtO o).length : Int) < (q : Int)) = false := decide_eq_false h1
      have d3 : decide (((txtO o).length) < q) = false := decide_eq_false (by omega)
      have hv : floorV (txtO o) (q : Int) = .tuple #[.int .i64 (flr (txtO o) q : Int), .int .i64 0] := by unfold floorV; rw [if_neg (by omega), Int.toNat_natCast]
      have HQ := hide (show q ≤ (txtO o).length by omega)
      rw [hv]
      clear h0 h1 hv
      go_enter Tryz.func30, Tryz.ntmps30
      go_wp2_with fail
      refine (unhide HL w (Below.refl _ _)).mono ?_
      rintro y w1 ⟨rfl, x1⟩
      dsimp only
      go_wp2_with fail
      refine (unhide HL w1 x1).mono ?_
      rintro y w2 ⟨rfl, x2⟩
      dsimp only
      have X2 := x1.trans (x2.mono x1.size)
      go_wp2_with fail
      refine (unhide HF w2 X2 q (unhide HQ)).mono ?_
      rintro y w3 ⟨rfl, x3⟩
      dsimp only
      have X3 := X2.trans (x3.mono X2.size)
      go_wp2_with fail
      refine bodyPost_ret (results_tmp2 rfl _ _ _) rfl ?_
      exact ⟨rfl, X3⟩
end
end Go.Proofs.YteamaneompijkaaGreatDoor
