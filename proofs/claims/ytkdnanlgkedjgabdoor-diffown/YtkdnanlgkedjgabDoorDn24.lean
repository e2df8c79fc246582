/- Layer 19: lists of numbers in memory; with how many two begin, with how many they end. -/
import Derived.Test.YtkdnanlgkedjgabDoorDn00
import Derived.Test.YtkdnanlgkedjgabDoorDn22
import Derived.Test.YtkdnanlgkedjgabDoorDn23
import Derived.BigQuiet

namespace Go.Proofs.YtkdnanlgkedjgabDoor
open Go.ChangeShapes Go.WideShapes Go.ChangeAt Go.RowKit
attribute [local go_sem] Oper.semAt_some

/-- numbers that lie there -/
def IsI (w : World) (a : Option Addr) (x : List Nat) : Prop := x = [] ∨ ∃ g off, a = some ⟨g, off, none⟩ ∧ g < w.heap.size ∧ ∀ k, k < x.length → w.cell? ⟨g, off + k, none⟩ = some (.int .i64 ((x.getD k 0 : Nat) : Int))
theorem IsI.below {w W : World} {B : Nat} {a : Option Addr} {x : List Nat} (h : IsI w a x) (hb : Below B w W) (hB : w.heap.size ≤ B) : IsI W a x := by
  rcases h with h | ⟨g, off, h1, h2, h3⟩
  · exact .inl h
  · exact .inr ⟨g, off, h1, Nat.lt_of_lt_of_le h2 hb.size, fun k hk => (hb.cell (p := ⟨g, off + k, none⟩) (Nat.lt_of_lt_of_le h2 hB)).trans (h3 k hk)⟩
theorem IsI.at {w : World} {a : Option Addr} {x : List Nat} (h : IsI w a x) {k : Nat} (hk : k < x.length) : ∃ g off, a = some ⟨g, off, none⟩ ∧ g < w.heap.size ∧ ∀ j, j < x.length → w.cell? ⟨g, off + j, none⟩ = some (.int .i64 ((x.getD j 0 : Nat) : Int)) := by
  rcases h with h | h
  · subst h; simp at hk
  · exact h
theorem getD_drop {α : Type} (x : List α) (n k : Nat) (z : α) : (x.drop n).getD k z = x.getD (n + k) z := by simp [List.getD]
theorem getD_take {α : Type} (x : List α) {n k : Nat} (z : α) (h : k < n) : (x.take n).getD k z = x.getD k z := by simp [List.getD, h]
theorem IsI.drop {w : World} {a : Option Addr} {x : List Nat} (h : IsI w a x) (n : Nat) : IsI w (a.map (·.add n)) (x.drop n) := by
  rcases h with h | ⟨g, off, h1, h2, h3⟩
  · exact .inl (by rw [h]; simp)
  · refine .inr ⟨g, off + n, by rw [h1]; simp [Addr.add], h2, fun k hk => ?_⟩
    have := h3 (n + k) (by simp at hk; omega)
    rw [getD_drop, show off + n + k = off + (n + k) by omega]; exact this
theorem IsI.take {w : World} {a : Option Addr} {x : List Nat} (h : IsI w a x) (n : Nat) : IsI w a (x.take n) := by
  rcases h with h | ⟨g, off, h1, h2, h3⟩
  · exact .inl (by rw [h]; simp)
  · refine .inr ⟨g, off, h1, h2, fun k hk => ?_⟩
    have hk' : k < n ∧ k < x.length := by simp at hk; omega
    rw [getD_take _ _ hk'.1]; exact h3 k hk'.2
theorem bdrN {B : Nat} {a w : World} (h : Below B a w) : ∀ n, Below B a (w.drewN n)
  | 0 => h
  | n + 1 => (bdrN h n).drew
def intsN (x : List Nat) : List Value := x.map fun n : Nat => .int .i64 (n : Int)
theorem intsN_snoc (x : List Nat) (n : Nat) : intsN (x ++ [n]) = intsN x ++ [.int .i64 (n : Int)] := by simp [intsN]
theorem own_isI {W : World} {B : Nat} {v : Value} {x : List Nat} (h : W.ownsRow B 3 1 v x.length (intsN x)) : ∃ a c, v = .slice a x.length c ∧ IsI W a x ∧ x.length ≤ c := by
  have hh := h
  rcases h.2 with ⟨rfl, h0⟩ | ⟨g, cap, cur, rfl, hB, hg, hc, hm, hs, ht⟩
  · have : x = [] := List.length_eq_zero_iff.1 h0
    exact ⟨none, 0, by rw [h0], Or.inl this, by omega⟩
  · refine ⟨some ⟨g, 0, none⟩, cap, rfl, Or.inr ⟨g, 0, rfl, (Array.getElem?_eq_some_iff.1 hg).1, fun k hk => ?_⟩, hc⟩
    have e : (intsN x)[k]? = some (.int .i64 ((x.getD k 0 : Nat) : Int)) := by simp [intsN, List.getD, List.getElem?_eq_getElem hk]
    have := World.ownsRow.cells hh rfl k _ e
    rwa [Addr.add_lit] at this
theorem take_s {α : Type} {x y : List α} {n : Nat} (z : α) (h : x.take n = y.take n) (hx : n < x.length) (hy : n < y.length) (he : x.getD n z = y.getD n z) : x.take (n + 1) = y.take (n + 1) := by
  rw [List.take_add_one, List.take_add_one, h, List.getElem?_eq_getElem hx, List.getElem?_eq_getElem hy]
  simp only [List.getD, List.getElem?_eq_getElem hx, List.getElem?_eq_getElem hy, Option.getD_some] at he
  rw [he]
theorem sameH_no {x y : List Nat} {n : Nat} (h1 : n ≤ x.length) (h2 : n ≤ y.length) (h3 : x.take n = y.take n) (h4 : ¬ n < x.length ∨ ¬ n < y.length ∨ x.getD n 0 ≠ y.getD n 0) : sameH x y = n := by
  refine sameH_at h1 h2 h3 ?_
  by_cases hx : n < x.length
  · by_cases hy : n < y.length
    · refine .inr ?_
      rcases h4 with h | h | h
      · exact absurd hx h
      · exact absurd hy h
      · simpa [List.getD, List.getElem?_eq_getElem hx, List.getElem?_eq_getElem hy] using h
    · exact .inl (by omega)
  · exact .inl (by omega)

set_option maxRecDepth 100000 in
set_option maxHeartbeats 2000000 in
theorem sameHead_at (a : Option Addr) (c : Nat) (x : List Nat) (a' : Option Addr) (c' : Nat) (y : List Nat) (w : World) (h : IsI w a x) (h' : IsI w a' y) (hl : x.length ≤ 1073741824) (_hl' : y.length ≤ 1073741824) :
    Calls Tryd.prog 43 #[.slice a x.length c, .slice a' y.length c'] w fun e w' => e = .returned (.int .i64 (sameH x y : Int)) ∧ Below w.heap.size w w' := by
  have HX := hide fun (X : World) (hx : Below w.heap.size w X) => h.below hx (Nat.le_refl _)
  have HY := hide fun (X : World) (hx : Below w.heap.size w X) => h'.below hx (Nat.le_refl _)
  clear h h'
  go_enter Tryd.func43, Tryd.ntmps43
  go_wp2_with fail
  go_loopw [5] (fun v5 wx => ∃ n : Nat, v5 = .int .i64 (n : Int) ∧ n ≤ x.length ∧ n ≤ y.length ∧ Hid (x.take n = y.take n) ∧ Hid (Below w.heap.size w wx)) (fun v5 _ => x.length - (intOf v5).toNat)
  case atStart => exact ⟨0, rfl, Nat.zero_le _, Nat.zero_le _, hide rfl, hide (Below.refl _ _)⟩
  case round =>
    obtain ⟨n, rfl, hn, hm, HT, HB⟩ := hrel
    have HD : Hid (Below w.heap.size w wr ∧ Below w.heap.size w wr.drew) := hide ⟨unhide HB, (unhide HB).drew⟩
    by_cases h1 : n < x.length
    · by_cases h2 : n < y.length
      · obtain ⟨g, off, rfl, hg, cx⟩ := (unhide HX wr (unhide HB)).at h1
        obtain ⟨g', off', rfl, hg', cy⟩ := (unhide HY wr (unhide HB)).at h2
        have c1 := cx n h1
        have c2 := cy n h2
        have HN := hide fun (e : x.getD n 0 = y.getD n 0) => take_s 0 (unhide HT) h1 h2 e
        have HZ := hide fun (e : x.getD n 0 ≠ y.getD n 0) => sameH_no hn hm (unhide HT) (.inr (.inr e))
        have t1 : decide ((n : Int) < (x.length : Int)) = true := decide_eq_true (by omega)
        have t2 : decide ((n : Int) < (y.length : Int)) = true := decide_eq_true (by omega)
        have f1 : (n : Int) < (x.length : Int) := by omega
        have f2 : (n : Int) < (y.length : Int) := by omega
        have f0 : (0 : Int) ≤ (n : Int) := by omega
        clear cx cy
        generalize x.getD n 0 = p at *
        generalize y.getD n 0 = q at *
        by_cases e : p = q
        · have t3 : ((p : Int) == (q : Int)) = true := by simp [e]
          subst e
          clear HZ
          go_upto_region 2 with fail
          go_quiet (fail)
          go_wp2_with fail
          go_roundw
          case rel => exact ⟨n + 1, by go_num, h1, h2, hide (unhide HN rfl), hide (bdrN (unhide HB) _)⟩
          case measure => simp [intOf]; omega
        · have t3 : ((p : Int) == (q : Int)) = false := by simp; omega
          go_upto_region 2 with fail
          go_quiet (fail)
          go_wp2_with fail
          go_ret
          exact ⟨ret_int (by rw [unhide HZ e]), bdrN (unhide HB) _⟩
      · have HZ := hide (sameH_no hn hm (unhide HT) (.inr (.inl h2)))
        have t1 : decide ((n : Int) < (x.length : Int)) = true := decide_eq_true (by omega)
        have t2 : decide ((n : Int) < (y.length : Int)) = false := decide_eq_false (by omega)
        have f2 : ¬ (n : Int) < (y.length : Int) := by omega
        go_upto_region 2 with fail
        go_quiet (fail)
        go_wp2_with fail
        go_ret
        exact ⟨ret_int (by rw [unhide HZ]), bdrN (unhide HB) _⟩
    · have HZ := hide (sameH_no hn hm (unhide HT) (.inl h1))
      have t1 : decide ((n : Int) < (x.length : Int)) = false := decide_eq_false (by omega)
      have f1 : ¬ (n : Int) < (x.length : Int) := by omega
      go_upto_region 2 with fail
      go_quiet (fail)
      go_wp2_with fail
      go_ret
      exact ⟨ret_int (by rw [unhide HZ]), bdrN (unhide HB) _⟩

/-- counted from the end -/
theorem rev_at (x : List Nat) {n : Nat} (h : n < x.length) : x.reverse.getD n 0 = x.getD (x.length - 1 - n) 0 := by
  simp [List.getD, List.getElem?_reverse h]
set_option maxRecDepth 100000 in
set_option maxHeartbeats 2000000 in
theorem sameTail_at (a : Option Addr) (c : Nat) (x : List Nat) (a' : Option Addr) (c' : Nat) (y : List Nat) (w : World) (h : IsI w a x) (h' : IsI w a' y) (hl : x.length ≤ 1073741824) (hl' : y.length ≤ 1073741824) :
    Calls Tryd.prog 44 #[.slice a x.length c, .slice a' y.length c'] w fun e w' => e = .returned (.int .i64 (sameH x.reverse y.reverse : Int)) ∧ Below w.heap.size w w' := by
  have HX := hide fun (X : World) (hx : Below w.heap.size w X) => h.below hx (Nat.le_refl _)
  have HY := hide fun (X : World) (hx : Below w.heap.size w X) => h'.below hx (Nat.le_refl _)
  clear h h'
  go_enter Tryd.func44, Tryd.ntmps44
  go_wp2_with fail
  go_loopw [5] (fun v5 wx => ∃ n : Nat, v5 = .int .i64 (n : Int) ∧ n ≤ x.length ∧ n ≤ y.length ∧ Hid (x.reverse.take n = y.reverse.take n) ∧ Hid (Below w.heap.size w wx)) (fun v5 _ => x.length - (intOf v5).toNat)
  case atStart => exact ⟨0, rfl, Nat.zero_le _, Nat.zero_le _, hide rfl, hide (Below.refl _ _)⟩
  case round =>
    obtain ⟨n, rfl, hn, hm, HT, HB⟩ := hrel
    have HM : Hid (n ≤ x.reverse.length ∧ n ≤ y.reverse.length) := hide (by simp [hn, hm])
    by_cases h1 : n < x.length
    · by_cases h2 : n < y.length
      · obtain ⟨g, off, rfl, hg, cx⟩ := (unhide HX wr (unhide HB)).at h1
        obtain ⟨g', off', rfl, hg', cy⟩ := (unhide HY wr (unhide HB)).at h2
        obtain ⟨p1, hp1⟩ : ∃ p1, p1 = x.length - 1 - n := ⟨_, rfl⟩
        obtain ⟨q1, hq1⟩ : ∃ q1, q1 = y.length - 1 - n := ⟨_, rfl⟩
        have c1 := cx p1 (by omega)
        have c2 := cy q1 (by omega)
        have HN := hide fun (e : x.getD p1 0 = y.getD q1 0) => take_s (x := x.reverse) (y := y.reverse) 0 (unhide HT) (by simpa using h1) (by simpa using h2) (by rw [rev_at x h1, rev_at y h2, ← hp1, ← hq1]; exact e)
        have HZ := hide fun (e : x.getD p1 0 ≠ y.getD q1 0) => sameH_no (unhide HM).1 (unhide HM).2 (unhide HT) (.inr (.inr (by rw [rev_at x h1, rev_at y h2, ← hp1, ← hq1]; exact e)))
        have t1 : decide ((n : Int) < (x.length : Int)) = true := decide_eq_true (by omega)
        have t2 : decide ((n : Int) < (y.length : Int)) = true := decide_eq_true (by omega)
        have f1 : (n : Int) < (x.length : Int) := by omega
        have f2 : (n : Int) < (y.length : Int) := by omega
        have f3 : (p1 : Int) < (x.length : Int) := by omega
        have f4 : (q1 : Int) < (y.length : Int) := by omega
        have f5 : (0 : Int) ≤ (p1 : Int) := by omega
        have f6 : (0 : Int) ≤ (q1 : Int) := by omega
        have e1 : IntKind.i64.wrap ((x.length : Int) - 1) = (x.length : Int) - 1 := by rw [IntKind.wrap_i64]; omega
        have e2 : IntKind.i64.wrap ((y.length : Int) - 1) = (y.length : Int) - 1 := by rw [IntKind.wrap_i64]; omega
        have e3 : IntKind.i64.wrap ((x.length : Int) - 1 - (n : Int)) = (p1 : Int) := by rw [IntKind.wrap_i64]; omega
        have e4 : IntKind.i64.wrap ((y.length : Int) - 1 - (n : Int)) = (q1 : Int) := by rw [IntKind.wrap_i64]; omega
        clear cx cy hp1 hq1
        generalize x.getD p1 0 = p at *
        generalize y.getD q1 0 = q at *
        by_cases e : p = q
        · have t3 : ((p : Int) == (q : Int)) = true := by simp [e]
          subst e
          clear HZ
          go_upto_region 2 with fail
          go_quiet (fail)
          go_wp2_with fail
          go_roundw
          case rel => exact ⟨n + 1, by go_num, h1, h2, hide (unhide HN rfl), hide (bdrN (unhide HB) _)⟩
          case measure => simp [intOf]; omega
        · have t3 : ((p : Int) == (q : Int)) = false := by simp; omega
          go_upto_region 2 with fail
          go_quiet (fail)
          go_wp2_with fail
          go_ret
          exact ⟨ret_int (by rw [unhide HZ e]), bdrN (unhide HB) _⟩
      · have HZ := hide (sameH_no (unhide HM).1 (unhide HM).2 (unhide HT) (.inr (.inl (by simpa using h2))))
        have t1 : decide ((n : Int) < (x.length : Int)) = true := decide_eq_true (by omega)
        have t2 : decide ((n : Int) < (y.length : Int)) = false := decide_eq_false (by omega)
        have f2 : ¬ (n : Int) < (y.length : Int) := by omega
        go_upto_region 2 with fail
        go_quiet (fail)
        go_wp2_with fail
        go_ret
        exact ⟨ret_int (by rw [unhide HZ]), bdrN (unhide HB) _⟩
    · have HZ := hide (sameH_no (unhide HM).1 (unhide HM).2 (unhide HT) (.inl (by simpa using h1)))
      have t1 : decide ((n : Int) < (x.length : Int)) = false := decide_eq_false (by omega)
      have f1 : ¬ (n : Int) < (x.length : Int) := by omega
      go_upto_region 2 with fail
      go_quiet (fail)
      go_wp2_with fail
      go_ret
      exact ⟨ret_int (by rw [unhide HZ]), bdrN (unhide HB) _⟩
end Go.Proofs.YtkdnanlgkedjgabDoor
