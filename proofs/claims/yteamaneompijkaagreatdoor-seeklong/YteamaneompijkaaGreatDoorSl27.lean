/- Layer 10, plain: what a few bytes about a place tell of the whole text; line ends counted in beginnings. · Layer 7: lines.all: the iterator yields the lines in their order, with their numbers. -/
import Derived.Test.YteamaneompijkaaGreatDoorSl12
import Derived.Test.YteamaneompijkaaGreatDoorSl20
import Derived.Test.YteamaneompijkaaGreatDoorSl26
import Derived.Scope

section
namespace Go.Proofs.YteamaneompijkaaGreatDoor
open Go.ChangeShapes Go.WideShapes Go.ChangeAt Go.RowKit

theorem lng_few {L : List Int} {n : Nat} (h : 4 ≤ n ∨ L.length ≤ n) : lng (L.take n) = lng L := by
  rcases h with h | h
  · exact lng_cut (Nat.le_trans (lng_le L) h)
  · rw [List.take_of_length_le h]
theorem first_few {L : List Int} {n : Nat} (h : 4 ≤ n ∨ L.length ≤ n) : first (L.take n) = first L := by
  rcases h with h | h
  · exact first_take L n h
  · rw [List.take_of_length_le h]
theorem stp_few {L : List Int} {n : Nat} (h : 4 ≤ n ∨ L.length ≤ n) : stp (L.take n) = stp L := by
  unfold stp wid whl
  rw [lng_few h, first_few h]
theorem win_drop (T : List Int) (lo n j : Nat) : ((T.drop lo).take n).drop j = (T.drop (lo + j)).take (n - j) := by
  rw [List.drop_take, List.drop_drop]
/-- the last edge at or ahead of a place, by three bytes on each side -/
theorem flr_win (T : List Int) (p : Nat) (hp : p ≤ T.length) : p - 3 + flr ((T.drop (p - 3)).take (min T.length (p + 3) - (p - 3))) (p - (p - 3)) = flr T p := by
  have key : ∀ k, 1 ≤ k → k ≤ 3 → ((k ≤ p - (p - 3) ∧ k < lng (((T.drop (p - 3)).take (min T.length (p + 3) - (p - 3))).drop (p - (p - 3) - k))) ↔ (k ≤ p ∧ k < lng (T.drop (p - k)))) := by
    intro k h1 h3
    by_cases hk : k ≤ p
    · rw [win_drop, show p - 3 + (p - (p - 3) - k) = p - k by omega, lng_few (by rw [List.length_drop]; omega)]
      constructor
      · exact fun h => ⟨hk, h.2⟩
      · exact fun h => ⟨by omega, h.2⟩
    · constructor
      · exact fun h => absurd h.1 (by omega)
      · exact fun h => absurd h.1 hk
  have k1 := key 1 (by omega) (by omega)
  have k2 := key 2 (by omega) (by omega)
  have k3 := key 3 (by omega) (by omega)
  unfold flr
  by_cases h1 : 1 ≤ p ∧ 1 < lng (T.drop (p - 1))
  · rw [if_pos h1, if_pos (k1.2 h1)]; have := h1.1; omega
  · rw [if_neg h1, if_neg (fun h => h1 (k1.1 h))]
    by_cases h2 : 2 ≤ p ∧ 2 < lng (T.drop (p - 2))
    · rw [if_pos h2, if_pos (k2.2 h2)]; have := h2.1; omega
    · rw [if_neg h2, if_neg (fun h => h2 (k2.1 h))]
      by_cases h3 : 3 ≤ p ∧ 3 < lng (T.drop (p - 3))
      · rw [if_pos h3, if_pos (k3.2 h3)]; have := h3.1; omega
      · rw [if_neg h3, if_neg (fun h => h3 (k3.1 h))]; omega

theorem take_oneS (T : List Int) {n : Nat} (h : n < T.length) : T.take (n + 1) = T.take n ++ [T.getD n 0] := by
  rw [List.take_add_one, List.getElem?_eq_getElem h, List.getD_eq_getElem?_getD, List.getElem?_eq_getElem h]; rfl
theorem last_takeS (T : List Int) {n : Nat} (h0 : 0 < n) (h : n ≤ T.length) : (T.take n).getLast? = some (T.getD (n - 1) 0) := by
  obtain ⟨m, rfl⟩ : ∃ m, n = m + 1 := ⟨n - 1, by omega⟩
  rw [take_oneS T (by omega)]
  simp
theorem ends_oneS (T : List Int) {n : Nat} (h : n < T.length) : endsN (T.take (n + 1)) = endsN (T.take n) + (if (T.getD n 0 = 10 ∧ ¬ (T.take n).getLast? = some 13) ∨ T.getD n 0 = 13 then 1 else 0) := by
  rw [take_oneS T h, ends_snoc]
theorem ends_upS (T : List Int) (i : Nat) : ∀ d, i + d ≤ T.length → endsN (T.take i) ≤ endsN (T.take (i + d))
  | 0, _ => Int.le_refl _
  | d + 1, h => by
    have h1 := ends_upS T i d (by omega)
    have h2 := ends_oneS T (n := i + d) (by omega)
    rw [show i + (d + 1) = i + d + 1 from rfl, h2]
    split <;> omega
theorem ends_leS (T : List Int) {i j : Nat} (h : i ≤ j) (hj : j ≤ T.length) : endsN (T.take i) ≤ endsN (T.take j) := by
  have := ends_upS T i (j - i) (by omega)
  rwa [show i + (j - i) = j by omega] at this
theorem ends_plain (T : List Int) (i : Nat) : ∀ d, i + d ≤ T.length → (∀ j, i ≤ j → j < i + d → isNl (T.getD j 0) = false) → endsN (T.take (i + d)) = endsN (T.take i)
  | 0, _, _ => rfl
  | d + 1, h, hn => by
    have h1 := ends_plain T i d (by omega) (fun j a b => hn j a (by omega))
    have h2 := ends_oneS T (n := i + d) (by omega)
    have h3 := hn (i + d) (by omega) (by omega)
    have h4 : ¬ ((T.getD (i + d) 0 = 10 ∧ ¬ (T.take (i + d)).getLast? = some 13) ∨ T.getD (i + d) 0 = 13) := by
      rintro (h | h)
      · rw [h.1] at h3; cases h3
      · rw [h] at h3; cases h3
    rw [show i + (d + 1) = i + d + 1 from rfl, h2, if_neg h4, h1]; omega
/-- no LF stands at s behind a CR -/
def apartAt (T : List Int) (s : Nat) : Prop := s = 0 ∨ ¬ (T.getD (s - 1) 0 = 13 ∧ T.getD s 0 = 10)
theorem ends_atS {T : List Int} {s : Nat} (hs : s ≤ T.length) (ha : apartAt T s) (h : ctn T s < T.length) :
    endsN (T.take (ctn T s)) = endsN (T.take s) ∧ endsN (T.take (ctn T s + 1)) = endsN (T.take s) + 1 ∧ endsN (T.take (nxt T (ctn T s))) = endsN (T.take s) + 1 ∧ apartAt T (nxt T (ctn T s)) := by
  have hc := ctn_le T s
  have h1 : endsN (T.take (ctn T s)) = endsN (T.take s) := by
    have := ends_plain T s (ctn T s - s) (by omega) (fun j a b => ctn_no a (by omega) hs)
    rwa [show s + (ctn T s - s) = ctn T s by omega] at this
  have hn := ctn_nl h
  have hlast : T.getD (ctn T s) 0 = 10 → ¬ (T.take (ctn T s)).getLast? = some 13 := by
    intro e k
    by_cases h0 : ctn T s = 0
    · rw [h0] at k; simp at k
    · rw [last_takeS T (by omega) (by omega)] at k
      have k' : T.getD (ctn T s - 1) 0 = 13 := Option.some.inj k
      by_cases hcs : ctn T s = s
      · rcases ha with h | h
        · omega
        · exact h ⟨by rw [← hcs]; exact k', by rw [← hcs]; exact e⟩
      · have := ctn_no (l := T) (s := s) (j := ctn T s - 1) (by omega) (by omega) hs
        rw [k'] at this; cases this
  have h2 : endsN (T.take (ctn T s + 1)) = endsN (T.take s) + 1 := by
    rw [ends_oneS T h, h1, if_pos]
    rcases nl_val hn with e | e
    · exact .inr e
    · exact .inl ⟨e, hlast e⟩
  refine ⟨h1, h2, ?_⟩
  unfold nxt edw
  rw [getD_drop', getD_drop']
  by_cases hcr : T.getD (ctn T s + 0) 0 = 13 ∧ T.getD (ctn T s + 1) 0 = 10
  · rw [if_pos hcr]
    have hl : ctn T s + 1 < T.length := by
      apply Classical.byContradiction
      intro hh
      have := hcr.2
      rw [List.getD_eq_getElem?_getD, List.getElem?_eq_none (by omega)] at this
      cases this
    refine ⟨?_, .inr ?_⟩
    · rw [ends_oneS T hl, h2, if_neg]
      · omega
      · rintro (k | k)
        · exact k.2 (by rw [last_takeS T (by omega) (by omega)]; exact congrArg some hcr.1)
        · rw [hcr.2] at k; cases k
    · rintro ⟨k, _⟩
      rw [show ctn T s + 2 - 1 = ctn T s + 1 from rfl, hcr.2] at k; cases k
  · rw [if_neg hcr]
    refine ⟨h2, .inr ?_⟩
    rintro ⟨k, k2⟩
    exact hcr ⟨k, k2⟩
/-- the lines, and the line ends ahead of them -/
theorem ln_ends {T : List Int} : ∀ (f k s i : Nat), T.length - s ≤ f → s ≤ T.length → apartAt T s → i < (lnR T k s).length →
    endsN (T.take ((lnR T k s).getD i z4).2.1) = endsN (T.take s) + i ∧ endsN (T.take ((lnR T k s).getD i z4).2.2.1) = endsN (T.take s) + i ∧
    (i + 1 < (lnR T k s).length → ((lnR T k s).getD i z4).2.2.1 < T.length ∧ endsN (T.take (((lnR T k s).getD i z4).2.2.1 + 1)) = endsN (T.take s) + i + 1 ∧ ((lnR T k s).getD i z4).2.2.2 = nxt T ((lnR T k s).getD i z4).2.2.1) ∧
    (¬ i + 1 < (lnR T k s).length → endsN T = endsN (T.take s) + i ∧ ((lnR T k s).getD i z4).2.2.1 = T.length ∧ ((lnR T k s).getD i z4).2.2.2 = T.length) := by
  intro f
  induction f with
  | zero =>
    intro k s i hf hs ha hi
    have e : s = T.length := by omega
    have hc : ¬ ctn T s < T.length := by have := ctn_le T s; omega
    rw [lnR_last hc] at hi ⊢
    obtain rfl : i = 0 := by simp at hi; omega
    refine ⟨by simp, ?_, fun h => by simp at h, fun _ => ⟨?_, rfl, rfl⟩⟩
    · subst e; simp
    · subst e; simp
  | succ f ih =>
    intro k s i hf hs ha hi
    by_cases hc : ctn T s < T.length
    · obtain ⟨h1, h2, h3, h4⟩ := ends_atS hs ha hc
      have hx := ctn_le T s
      have hg := nxt_gt T (ctn T s)
      have hl := nxt_len hc
      rw [lnR_cons hc] at hi ⊢
      cases i with
      | zero =>
        refine ⟨by simp, by simpa using h1, fun _ => ⟨hc, by simpa using h2, rfl⟩, fun h => absurd h ?_⟩
        have : 0 < (lnR T (k + 1) (nxt T (ctn T s))).length := by
          by_cases hc2 : ctn T (nxt T (ctn T s)) < T.length
          · rw [lnR_cons hc2]; simp
          · rw [lnR_last hc2]; simp
        rw [List.length_cons]; omega
      | succ i =>
        have hi' : i < (lnR T (k + 1) (nxt T (ctn T s))).length := by simpa using hi
        obtain ⟨a, b, c, d⟩ := ih (k + 1) (nxt T (ctn T s)) i (by omega) hl h4 hi'
        rw [h3] at a b c d
        simp only [List.getD_cons_succ, List.length_cons]
        refine ⟨by rw [a]; push_cast; omega, by rw [b]; push_cast; omega, fun h => ?_, fun h => ?_⟩
        · obtain ⟨c1, c2, c3⟩ := c (by omega)
          exact ⟨c1, by rw [c2]; push_cast; omega, c3⟩
        · obtain ⟨d1, d2⟩ := d (by omega)
          exact ⟨by rw [d1]; push_cast; omega, d2⟩
    · rw [lnR_last hc] at hi ⊢
      obtain rfl : i = 0 := by simp at hi; omega
      have hcl := ctn_len hs
      have e : ctn T s = T.length := by omega
      have h1 : endsN (T.take T.length) = endsN (T.take s) := by
        have := ends_plain T s (T.length - s) (by omega) (fun j a b => ctn_no a (by omega) hs)
        rwa [show s + (T.length - s) = T.length by omega] at this
      rw [List.take_length] at h1
      refine ⟨by simp, ?_, fun h => by simp at h, fun _ => ⟨?_, rfl, rfl⟩⟩
      · simpa using h1
      · simpa using h1
/-- line i, and how many ends stand ahead -/
theorem LN_ends {T : List Int} {i : Nat} (hi : i < (LN T).length) :
    endsN (T.take ((LN T).getD i z4).2.1) = i ∧ endsN (T.take ((LN T).getD i z4).2.2.1) = i ∧
    (i + 1 < (LN T).length → ((LN T).getD i z4).2.2.1 < T.length ∧ endsN (T.take (((LN T).getD i z4).2.2.1 + 1)) = i + 1 ∧ ((LN T).getD i z4).2.2.2 = nxt T ((LN T).getD i z4).2.2.1) ∧
    (¬ i + 1 < (LN T).length → endsN T = i ∧ ((LN T).getD i z4).2.2.1 = T.length ∧ ((LN T).getD i z4).2.2.2 = T.length) := by
  have := ln_ends (T := T) T.length 0 0 i (by omega) (Nat.zero_le _) (.inl rfl) hi
  rw [List.take_zero, show endsN ([] : List Int) = 0 from rfl] at this
  simp only [Int.zero_add] at this
  exact this
theorem LN_count (T : List Int) : ((LN T).length : Int) = endsN T + 1 := by
  have h0 := LN_pos T
  have := (LN_ends (T := T) (i := (LN T).length - 1) (by omega)).2.2.2 (by omega)
  have := this.1
  omega

/-- where the content of line k ends, and where the next one begins, by First's answer -/
def enP (T : List Int) (n : Int) : Int × Int := if n < 0 then ((T.length : Int), (T.length : Int)) else (n - 1, n - 1 + (edw (T.drop (n.toNat - 1)) : Int))
theorem en_ln {T : List Int} {k : Nat} {n : Int} (hk : k < (LN T).length) (h : FirA (fun l => decide ((k : Int) < endsN l)) T n) :
    enP T n = ((((LN T).getD k z4).2.2.1 : Int), (((LN T).getD k z4).2.2.2 : Int)) ∧ (0 ≤ n → ∃ m : Nat, n = (m : Int) + 1 ∧ m < T.length ∧ isNl (T.getD m 0) = true) := by
  obtain ⟨a, b, c, d⟩ := LN_ends hk
  rcases h with ⟨h1, h2⟩ | ⟨h1, h2, h3⟩ | ⟨h1, m, h2, h3, h4, h5, h6⟩
  · have : (k : Int) < endsN [] := of_decide_eq_true h1
    rw [show endsN ([] : List Int) = 0 from rfl] at this; omega
  · have hT : ¬ (k : Int) < endsN T := of_decide_eq_false h2
    have hc := LN_count T
    obtain ⟨_, d2, d3⟩ := d (by omega)
    subst h3
    refine ⟨?_, fun h => by omega⟩
    unfold enP
    rw [if_pos (by omega), d2, d3]
  · have hm1 : ¬ (k : Int) < endsN (T.take (m - 1)) := of_decide_eq_false h5
    have hm2 : (k : Int) < endsN (T.take m) := of_decide_eq_true h6
    have hT := ends_leS T h4 (Nat.le_refl _)
    rw [List.take_length] at hT
    have hc := LN_count T
    obtain ⟨c1, c2, c3⟩ := c (by omega)
    have e : m - 1 = ((LN T).getD k z4).2.2.1 := by
      apply Nat.le_antisymm
      · apply Classical.byContradiction
        intro hh
        have := ends_leS T (i := ((LN T).getD k z4).2.2.1 + 1) (j := m - 1) (by omega) (by omega)
        omega
      · apply Classical.byContradiction
        intro hh
        have := ends_leS T (i := m) (j := ((LN T).getD k z4).2.2.1) (by omega) (by omega)
        omega
    refine ⟨?_, fun _ => ⟨m - 1, by omega, by omega, ?_⟩⟩
    · unfold enP
      rw [if_neg (by omega), c3, h2, show ((m : Int).toNat - 1) = ((LN T).getD k z4).2.2.1 by omega]
      unfold nxt
      rw [show (m : Int) - 1 = (((LN T).getD k z4).2.2.1 : Int) by omega]
      push_cast
      rfl
    · have h7 := ends_oneS T (n := m - 1) (by omega)
      rw [show m - 1 + 1 = m by omega] at h7
      apply Classical.byContradiction
      intro hh
      have hq : isNl (T.getD (m - 1) 0) = false := by simpa using hh
      rw [if_neg] at h7
      · omega
      · rintro (k | k)
        · rw [k.1] at hq; cases hq
        · rw [k] at hq; cases hq
/-- one or two bytes that begin with a line's end -/
theorem nbr_end {x : Int} {r : List Int} (hx : isNl x = true) : nbr (x :: r) 0 = some (0, 0, 0, edw (x :: r)) := by
  have hc : ctn (x :: r) 0 = 0 := by unfold ctn; simp [List.findIdx_cons, hx]
  have : LN (x :: r) = (0, 0, 0, edw (x :: r)) :: lnR (x :: r) 1 (nxt (x :: r) 0) := by
    unfold LN
    rw [lnR_cons (by rw [hc]; simp), hc]
    simp [nxt]
  unfold nbr
  rw [this]
  simp
theorem edw_take (L : List Int) (n : Nat) (h : 2 ≤ n ∨ L.length ≤ n) : edw (L.take n) = edw L := by
  rcases h with h | h
  · unfold edw
    rw [List.getD_eq_getElem?_getD, List.getD_eq_getElem?_getD, List.getD_eq_getElem?_getD, List.getD_eq_getElem?_getD, List.getElem?_take, List.getElem?_take, if_pos (show 0 < n by omega), if_pos (show 1 < n by omega)]
  · rw [List.take_of_length_le h]

end Go.Proofs.YteamaneompijkaaGreatDoor
end

section
namespace Go.Proofs.YteamaneompijkaaGreatDoor
open Go.ChangeShapes Go.WideShapes Go.ChangeAt Go.RowKit
attribute [local go_sem] Oper.semAt_some

def lnV (e : Ln) : Value := .agg #[.int .i64 (e.2.1 : Int), .int .i64 (e.2.2.1 : Int), .int .i64 (e.2.2.2 : Int)]
def encL (e : Ln) : Array Value := #[.int .i64 (e.1 : Int), lnV e]

theorem allL_at (a0 : Option Addr) (len cap : Nat) (w : World) :
    Calls Tryz.prog 44 #[.slice a0 len cap] w fun e w' => e = .returned (.func (.func 79) #[] #[.pointer (some ⟨w.heap.size, 0, none⟩)]) ∧ w' = w.alloc (.cells #[.slice a0 len cap] 30) := by
  go_enter Tryz.func44, Tryz.ntmps44
  go_wp2
  go_ret
  exact ⟨rfl, rfl⟩

theorem IsB.byteAt {w : World} {g off cap : Nat} {l : List Int} (h : IsB w (some ⟨g, off, none⟩) cap l) {i : Nat} (hi : i < l.length) : w.cell? ⟨g, off + i, none⟩ = some (.int .u8 (l.getD i 0)) := by
  rcases h.2.2.1 with h3 | ⟨g', off', e, hL⟩
  · rw [h3] at hi; simp at hi
  · cases e
    have := (hL i hi).1
    rw [this, List.getD_eq_getElem?_getD, List.getElem?_eq_getElem hi] <;> first | rfl | skip
theorem IsB.someB {w : World} {a0 : Option Addr} {cap : Nat} {l : List Int} (h : IsB w a0 cap l) (h0 : 0 < l.length) : ∃ g off, a0 = some ⟨g, off, none⟩ := by
  rcases h.2.2.1 with h3 | ⟨g', off', e, hL⟩
  · rw [h3] at h0; simp at h0
  · exact ⟨g', off', e⟩

theorem endWidth_at (a0 : Option Addr) (cap : Nat) (m : List Int) (w : World) (hB : IsB w a0 cap m) (h0 : 0 < m.length) :
    Calls Tryz.prog 80 #[.slice a0 m.length cap] w fun e w' => e = .returned (.int .i64 (edw m : Int)) ∧ w' = w := by
  obtain ⟨g, off, rfl⟩ := hB.someB h0
  have c0 := hB.byteAt (i := 0) h0
  rw [Nat.add_zero] at c0
  have hlen := hB.2.1
  by_cases h1 : 1 < m.length
  · have c1 := hB.byteAt (i := 1) h1
    have q1 : decide ((m.length : Int) > 1) = true := decide_eq_true (by omega)
    have q1' : decide ((1 : Int) < (m.length : Int)) = true := decide_eq_true (by omega)
    by_cases h2 : m.getD 0 0 = 13
    · have q2 : (m.getD 0 0 == 13) = true := by simpa using h2
      by_cases h3 : m.getD 1 0 = 10
      · have q3 : (m.getD 1 0 == 10) = true := by simpa using h3
        have HE : Hid (edw m = 2) := hide (by unfold edw; rw [if_pos ⟨h2, h3⟩])
        clear h2 h3
        generalize m.getD 0 0 = x0 at *
        generalize m.getD 1 0 = x1 at *
        go_enter Tryz.func80, Tryz.ntmps80
        go_wp2
        go_ret
        exact ⟨ret_int (by rw [unhide HE]; rfl), rfl⟩
      · have q3 : (m.getD 1 0 == 10) = false := by simpa using h3
        have HE : Hid (edw m = 1) := hide (by unfold edw; rw [if_neg (fun h => h3 h.2)])
        clear h2 h3
        generalize m.getD 0 0 = x0 at *
        generalize m.getD 1 0 = x1 at *
        go_enter Tryz.func80, Tryz.ntmps80
        go_wp2
        go_ret
        exact ⟨ret_int (by rw [unhide HE]; rfl), rfl⟩
    · have q2 : (m.getD 0 0 == 13) = false := by simpa using h2
      have HE : Hid (edw m = 1) := hide (by unfold edw; rw [if_neg (fun h => h2 h.1)])
      clear h2 c1
      generalize m.getD 0 0 = x0 at *
      go_enter Tryz.func80, Tryz.ntmps80
      go_wp2
      go_ret
      exact ⟨ret_int (by rw [unhide HE]; rfl), rfl⟩
  · have q1 : decide ((m.length : Int) > 1) = false := decide_eq_false (by omega)
    have q1' : decide ((1 : Int) < (m.length : Int)) = false := decide_eq_false (by omega)
    have HE : Hid (edw m = 1) := hide (by
      unfold edw
      rw [if_neg]
      rintro ⟨_, h⟩
      rw [List.getD_eq_getElem?_getD, List.getElem?_eq_none (by omega)] at h
      simp at h)
    clear h1 c0
    go_enter Tryz.func80, Tryz.ntmps80
    go_wp2
    go_ret
    exact ⟨ret_int (by rw [unhide HE]; rfl), rfl⟩

end Go.Proofs.YteamaneompijkaaGreatDoor
end
