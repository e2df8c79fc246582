/- Scanning in plain functions: pieces do not matter; what is held is the piece at the end. · Layer 3, runes and halves: the plain functions, and contracts of units' Len, Split, Join, isHigh, isLow, isByteUnit, byteOf and of the document's Len, High, Low, Split, Join, Byte: each leaves the world as it was. · The edges of bytes as a plain list: by bytes, by runes and by units; places between them. -/
import Derived.Test.YteamaneompijkaaGreatDoorSa06
import Derived.Test.YteamaneompijkaaGreatDoorSa03
import Derived.Test.YteamaneompijkaaGreatDoorSa05
namespace Go.Proofs.YteamaneompijkaaGreatDoor
set_option maxRecDepth 100000
set_option maxHeartbeats 8000000
section
open Go.ChangeShapes Go.WideShapes Go.ChangeAt Go.RowKit
def Hel (h : List Int) : Prop := h = [] ∨ prop h = true
theorem Hel.len {h : List Int} (hH : Hel h) : h.length ≤ 3 := by
  rcases hH with rfl | hp
  · simp
  · exact (prop_len hp).2
theorem one_ways (x : Int) : (need x = 0 ∧ one x = ([badT], [])) ∨ (need x = 1 ∧ one x = ([(value [x], 1, true)], [])) ∨ (2 ≤ need x ∧ one x = ([], [x])) := by
  have h0 := need_lo x
  by_cases h : need x = 0
  · exact Or.inl ⟨h, by simp [one, h]⟩
  · by_cases h1 : need x = 1
    · exact Or.inr (Or.inl ⟨h1, by simp [one, h1]⟩)
    · exact Or.inr (Or.inr ⟨by omega, by simp [one, h, h1]⟩)
theorem one_steps (x : Int) (c : List Int) : stepsL (x :: c) = (one x).1 ++ stepsL ((one x).2 ++ c) := by
  rcases one_ways x with ⟨h, e⟩ | ⟨h, e⟩ | ⟨h, e⟩ <;> rw [e]
  · exact steps_bad (lng_zero (by rw [h]; rfl))
  · exact steps_whole (h := [x]) (whole_one h)
  · rfl
theorem fit_whole {h : List Int} {x : Int} (hp : prop h = true) (hf : fits h x = true) (hn : need (h.getD 0 0) = (h.length : Int) + 1) : whole (h ++ [x]) = true := by
  rcases prop_cases hp with ⟨a, rfl, h1⟩ | ⟨a, b, rfl, h1, hs⟩ | ⟨a, b, d, rfl, h1, hs, ht⟩
  · simp at hn
    show whole [a, x] = true
    rw [whole_more (by simp; omega)]
    simpa [fits] using hf
  · simp at hn
    show whole [a, b, x] = true
    rw [whole_more (by simp; omega)]
    simp [fits] at hf
    simp [hs, hf]
  · show whole [a, b, d, x] = true
    rw [whole_more (by simp; omega)]
    simp [fits] at hf
    simp [hs, hf, ht]
theorem fit_prop {h : List Int} {x : Int} (hp : prop h = true) (hf : fits h x = true) (hn : ¬ need (h.getD 0 0) = (h.length : Int) + 1) : prop (h ++ [x]) = true ∧ h.length < 3 := by
  rcases prop_cases hp with ⟨a, rfl, h1⟩ | ⟨a, b, rfl, h1, hs⟩ | ⟨a, b, d, rfl, h1, hs, ht⟩
  · simp at hn
    exact ⟨prop_2 (by omega) (by simpa [fits] using hf), by simp⟩
  · simp at hn
    have := need_hi a
    exact ⟨prop_3 (by omega) hs (by simpa [fits] using hf), by simp⟩
  · simp at hn
    omega
theorem stepS_ways {h : List Int} (hH : Hel h) (x : Int) :
    ((stepS h x).2 = [] ∧ ∀ c, stepsL (h ++ x :: c) = (stepS h x).1 ++ stepsL c) ∨ (stepS h x = ([], h ++ [x]) ∧ prop (h ++ [x]) = true) ∨
      (prop h = true ∧ fits h x = false ∧ 2 ≤ need x ∧ stepS h x = (List.replicate h.length badT, [x])) := by
  rcases hH with rfl | hp
  · have e : stepS [] x = one x := by simp [stepS]
    rw [e]
    rcases one_ways x with ⟨h, e⟩ | ⟨h, e⟩ | ⟨h, e⟩
    · exact Or.inl ⟨by rw [e], fun c => by have := one_steps x c; rw [e] at this ⊢; simpa using this⟩
    · exact Or.inl ⟨by rw [e], fun c => by have := one_steps x c; rw [e] at this ⊢; simpa using this⟩
    · exact Or.inr (Or.inl ⟨e, prop_1 h⟩)
  · have hne : h ≠ [] := fun e => by subst e; cases hp
    by_cases hf : fits h x = true
    · by_cases hn : need (h.getD 0 0) = (h.length : Int) + 1
      · have e : stepS h x = ([(value (h ++ [x]), h.length + 1, true)], []) := by rw [stepS, if_neg hne, if_pos hf, if_pos hn]
        refine Or.inl ⟨by rw [e], fun c => ?_⟩
        have := steps_whole (h := h ++ [x]) (c := c) (fit_whole hp hf hn)
        rw [e]
        simpa using this
      · exact Or.inr (Or.inl ⟨by rw [stepS, if_neg hne, if_pos hf, if_neg hn], (fit_prop hp hf hn).1⟩)
    · have hf' : fits h x = false := by simpa using hf
      have e : stepS h x = (List.replicate h.length badT ++ (one x).1, (one x).2) := by rw [stepS, if_neg hne, if_neg hf]
      have hb := fun c => steps_broken (c := c) hp hf'
      rcases one_ways x with ⟨h', e'⟩ | ⟨h', e'⟩ | ⟨h', e'⟩
      · refine Or.inl ⟨by rw [e, e'], fun c => ?_⟩
        rw [hb c, one_steps, e, e']; simp
      · refine Or.inl ⟨by rw [e, e'], fun c => ?_⟩
        rw [hb c, one_steps, e, e']; simp
      · exact Or.inr (Or.inr ⟨hp, hf', h', by rw [e, e']; simp⟩)
theorem stepS_hel {h : List Int} (hH : Hel h) (x : Int) : Hel (stepS h x).2 := by
  rcases stepS_ways hH x with ⟨e, _⟩ | ⟨e, hp⟩ | ⟨_, _, h2, e⟩ <;> rw [e]
  · exact Or.inl rfl
  · exact Or.inr hp
  · exact Or.inr (prop_1 h2)
theorem scanS_hel : ∀ (b : List Int) {h : List Int}, Hel h → Hel (scanS h b).2
  | [], _, hH => hH
  | x :: b, _, hH => scanS_hel b (stepS_hel hH x)
theorem scanS_text : ∀ (b : List Int) {h : List Int}, Hel h → ∃ c0, h ++ b = c0 ++ (scanS h b).2 ∧ (scanS h b).1 = stepsL c0 ∧ (c0 = [] ∨ ∃ c3, c0 = h ++ c3)
  | [], h, _ => ⟨[], by simp [scanS], by simp [scanS, stepsL_nil], Or.inl rfl⟩
  | x :: b, h, hH => by
    obtain ⟨c2, e1, e2, e3⟩ := scanS_text b (stepS_hel hH x)
    rcases stepS_ways hH x with ⟨e, hs⟩ | ⟨e, hp⟩ | ⟨hp, hf, h2, e⟩
    · rw [e] at e1 e2 e3
      simp only [scanS, e]
      refine ⟨h ++ x :: c2, ?_, by rw [hs c2, e2], Or.inr ⟨_, rfl⟩⟩
      simp at e1
      simp only [List.append_assoc, List.cons_append]
      rw [← e1]
    · rw [e] at e1 e2 e3
      simp only [scanS, e]
      refine ⟨c2, by simpa using e1, by simpa using e2, ?_⟩
      rcases e3 with e3 | ⟨c3, e3⟩
      · exact Or.inl e3
      · exact Or.inr ⟨x :: c3, by simpa using e3⟩
    · rw [e] at e1 e2 e3
      simp only [scanS, e]
      refine ⟨h ++ c2, ?_, ?_, Or.inr ⟨_, rfl⟩⟩
      · simp at e1
        rw [List.append_assoc, ← e1]
      · rcases e3 with rfl | ⟨c3, rfl⟩
        · rw [List.append_nil, steps_prop hp, e2, stepsL_nil, List.append_nil]
        · rw [e2]
          exact (steps_broken hp hf).symm
theorem scanS_steps : ∀ (b : List Int) {h : List Int}, Hel h → ∀ c, stepsL (h ++ b ++ c) = (scanS h b).1 ++ stepsL ((scanS h b).2 ++ c)
  | [], h, _, c => by simp [scanS]
  | x :: b, h, hH, c => by
    have ih := scanS_steps b (stepS_hel hH x) c
    rcases stepS_ways hH x with ⟨e, hs⟩ | ⟨e, hp⟩ | ⟨hp, hf, h2, e⟩
    · have := hs (b ++ c)
      rw [e] at ih
      simp only [scanS, e]
      simp only [List.append_assoc, List.cons_append, List.nil_append] at this ih ⊢
      rw [this, ih]
    · rw [e] at ih
      simp only [scanS, e]
      simpa using ih
    · rw [e] at ih
      have := steps_broken (c := b ++ c) hp hf
      simp only [scanS, e]
      simp only [List.append_assoc, List.cons_append, List.nil_append] at this ih ⊢
      rw [this, ih]
theorem scanS_broken {h r : List Int} {x : Int} (hp : prop h = true) (hf : fits h x = false) : scanS h (x :: r) = (List.replicate h.length badT ++ (scanS [] (x :: r)).1, (scanS [] (x :: r)).2) := by
  have hne : h ≠ [] := fun e => by subst e; cases hp
  have e : stepS h x = (List.replicate h.length badT ++ (one x).1, (one x).2) := by rw [stepS, if_neg hne, if_neg (by rw [hf]; simp)]
  have e' : stepS [] x = one x := by simp [stepS]
  simp only [scanS, e, e', List.append_assoc]
theorem scanS_append : ∀ (b c : List Int) (h : List Int), scanS h (b ++ c) = ((scanS h b).1 ++ (scanS (scanS h b).2 c).1, (scanS (scanS h b).2 c).2)
  | [], c, h => by simp [scanS]
  | x :: b, c, h => by
    have ih := scanS_append b c (stepS h x).2
    simp only [List.cons_append, scanS, ih, List.append_assoc]
theorem prop_front {s t : List Int} (hp : prop (s ++ t) = true) (hs : s ≠ []) : prop s = true := by
  match s, hs with
  | [a], _ =>
    rcases prop_cases hp with ⟨a', e, h1⟩ | ⟨a', b', e, h1, h2⟩ | ⟨a', b', d', e, h1, h2, h3⟩
    · simp at e; exact prop_1 (by rw [e.1]; exact h1)
    · simp at e; exact prop_1 (by rw [e.1]; omega)
    · simp at e; exact prop_1 (by rw [e.1]; omega)
  | [a, b], _ =>
    rcases prop_cases hp with ⟨a', e, h1⟩ | ⟨a', b', e, h1, h2⟩ | ⟨a', b', d', e, h1, h2, h3⟩
    · simp at e
    · simp at e; exact prop_2 (by rw [e.1]; omega) (by rw [e.1, e.2.1]; exact h2)
    · simp at e; exact prop_2 (by rw [e.1]; omega) (by rw [e.1, e.2.1]; exact h2)
  | [a, b, c], _ =>
    rcases prop_cases hp with ⟨a', e, h1⟩ | ⟨a', b', e, h1, h2⟩ | ⟨a', b', d', e, h1, h2, h3⟩
    · simp at e
    · simp at e
    · simp at e; exact prop_3 (by rw [e.1]; omega) (by rw [e.1, e.2.1]; exact h2) (by rw [e.2.2.1]; exact h3)
  | a :: b :: c :: d :: r, _ =>
    have := (prop_len hp).2
    simp at this
theorem prop_lead {a : Int} {r : List Int} (hp : prop (a :: r) = true) : 2 ≤ need a ∧ isTail a = false := by
  have h2 : 2 ≤ need a := by
    rcases prop_cases hp with ⟨a', e, h1⟩ | ⟨a', b', e, h1, h2⟩ | ⟨a', b', d', e, h1, h2, h3⟩ <;> simp at e <;> rw [e.1] <;> omega
  refine ⟨h2, ?_⟩
  refine Bool.eq_false_iff.2 fun ht => ?_
  simp only [isTail, decide_eq_true_eq] at ht
  have := need_0' (a := a)
  by_cases h : a < 194
  · rw [this (Or.inl ⟨ht.1, h⟩)] at h2; omega
  · omega
theorem prop_next {h : List Int} {x : Int} (hp : prop (h ++ [x]) = true) (hh : prop h = true) : fits h x = true ∧ ¬ need (h.getD 0 0) = (h.length : Int) + 1 := by
  rcases prop_cases hh with ⟨a, rfl, h1⟩ | ⟨a, b, rfl, h1, hs⟩ | ⟨a, b, d, rfl, h1, hs, ht⟩
  · rcases prop_cases hp with ⟨a', e, h1⟩ | ⟨a', b', e, h1, h2⟩ | ⟨a', b', d', e, h1, h2, h3⟩
    · simp at e
    · simp at e
      exact ⟨by simp only [fits]; rw [e.1, e.2]; exact h2, by simp; rw [e.1]; omega⟩
    · simp at e
  · rcases prop_cases hp with ⟨a', e, h1⟩ | ⟨a', b', e, h1, h2⟩ | ⟨a', b', d', e, h1, h2, h3⟩
    · simp at e
    · simp at e
    · simp at e
      exact ⟨by simp only [fits]; rw [e.2.2]; exact h3, by simp; rw [e.1]; omega⟩
  · have := (prop_len hp).2
    simp at this
theorem scanS_grow : ∀ (b h : List Int), Hel h → (b ≠ [] → prop (h ++ b) = true) → scanS h b = ([], h ++ b)
  | [], h, _, _ => by simp [scanS]
  | x :: b, h, hH, hp => by
    have hp := hp (by simp)
    have hx : prop (h ++ [x]) = true := prop_front (t := b) (by simpa using hp) (by simp)
    have e : stepS h x = ([], h ++ [x]) := by
      rcases hH with rfl | hh
      · have := (prop_lead (r := []) (by simpa using hx)).1
        simp only [stepS, if_true, List.nil_append, one]
        rw [if_neg (by omega), if_neg (by omega)]
      · have hne : h ≠ [] := fun e => by subst e; cases hh
        obtain ⟨h1, h2⟩ := prop_next hx hh
        rw [stepS, if_neg hne, if_pos h1, if_neg h2]
    have ih := scanS_grow b (h ++ [x]) (Or.inr hx) (fun _ => by simpa using hp)
    simp only [scanS, e, ih]
    simp
theorem fits_tail {h : List Int} {x : Int} (hf : fits h x = true) : isTail x = true := by
  match h, hf with
  | [a], hf => exact sec_tail hf
  | a :: b :: t, hf => exact hf
theorem scanS_reset {h s : List Int} (hH : Hel h) (hp : prop s = true) : (scanS h s).2 = s := by
  cases s with
  | nil => cases hp
  | cons a r =>
    obtain ⟨h2, ht⟩ := prop_lead hp
    have e1 : (one a).2 = [a] := by
      rcases one_ways a with ⟨h, e⟩ | ⟨h, e⟩ | ⟨h, e⟩
      · omega
      · omega
      · rw [e]
    have e : (stepS h a).2 = [a] := by
      rcases hH with rfl | hh
      · simp [stepS, e1]
      · have hne : h ≠ [] := fun e => by subst e; cases hh
        have hf : ¬ fits h a = true := fun hf => by rw [fits_tail hf] at ht; cases ht
        rw [stepS, if_neg hne, if_neg hf]
        exact e1
    simp only [scanS, e]
    rw [scanS_grow r [a] (Or.inr (prop_1 h2)) (fun _ => by simpa using hp)]
    rfl
theorem prop_later {h0 s : List Int} (hp : prop (h0 ++ s) = true) (hs : prop s = true) : h0 = [] := by
  match h0, s with
  | [], _ => rfl
  | _, [] => cases hs
  | p :: q, a :: r =>
    have ht := (prop_lead hs).2
    exfalso
    rcases prop_cases hp with ⟨a', e, h1⟩ | ⟨a', b', e, h1, h2⟩ | ⟨a', b', d', e, h1, h2, h3⟩
    · simp at e
    · match q with
      | [] => simp at e; rw [e.2.1, sec_tail h2] at ht; cases ht
      | _ :: _ => simp at e
    · match q with
      | [] => simp at e; rw [e.2.1, sec_tail h2] at ht; cases ht
      | [y] => simp at e; rw [e.2.2.1, h3] at ht; cases ht
      | _ :: _ :: _ => simp at e
theorem held_is {h b t0 s : List Int} (hH : Hel h) (hp : prop s = true) (he : h ++ b = t0 ++ s) : (scanS h b).2 = s := by
  rcases List.append_eq_append_iff.1 he with ⟨x, e1, e2⟩ | ⟨x, e1, e2⟩
  · rw [e2, scanS_append]
    exact scanS_reset (scanS_hel x hH) hp
  · rcases hH with rfl | hh
    · have : x = [] := by simpa using (List.append_eq_nil_iff.1 e1.symm).2
      subst this
      rw [List.nil_append] at e2
      rw [← e2]
      exact scanS_reset (Or.inl rfl) hp
    · by_cases hx : x = []
      · subst hx
        rw [List.nil_append] at e2
        rw [← e2]
        exact scanS_reset (Or.inr hh) hp
      · have hpx : prop x = true := prop_front (t := b) (by rw [← e2]; exact hp) hx
        have ht : t0 = [] := prop_later (by rw [← e1]; exact hh) hpx
        subst ht
        rw [List.nil_append] at e1
        subst e1
        rw [scanS_grow b h (Or.inr hh) (fun _ => by rw [← e2]; exact hp), e2]
def leftL (t : List Int) : Nat :=
  if 3 ≤ t.length ∧ prop (t.drop (t.length - 3)) = true then 3 else if 2 ≤ t.length ∧ prop (t.drop (t.length - 2)) = true then 2 else if 1 ≤ t.length ∧ prop (t.drop (t.length - 1)) = true then 1 else 0
theorem left_held {h b : List Int} (hH : Hel h) : leftL (h ++ b) = (scanS h b).2.length := by
  have key : ∀ n, n ≤ (h ++ b).length → prop ((h ++ b).drop ((h ++ b).length - n)) = true → (scanS h b).2.length = n := fun n hn hp => by
    rw [held_is hH hp (List.take_append_drop ((h ++ b).length - n) (h ++ b)).symm, List.length_drop]
    omega
  obtain ⟨c0, e1, _, _⟩ := scanS_text b hH
  have back : ∀ n, 1 ≤ n → (scanS h b).2.length = n → n ≤ (h ++ b).length ∧ prop ((h ++ b).drop ((h ++ b).length - n)) = true := fun n h1 hn => by
    have hl := congrArg List.length e1
    simp only [List.length_append] at hl
    refine ⟨by rw [List.length_append]; omega, ?_⟩
    have : (h ++ b).drop ((h ++ b).length - n) = (scanS h b).2 := by
      rw [e1, List.length_append, hn, show c0.length + n - n = c0.length by omega]
      simp
    rw [this]
    rcases scanS_hel b hH with e | hp
    · rw [e] at hn; simp at hn; omega
    · exact hp
  have hle := (scanS_hel b hH).len
  unfold leftL
  split
  · rename_i h3; exact (key 3 h3.1 h3.2).symm
  · rename_i h3
    split
    · rename_i h2; exact (key 2 h2.1 h2.2).symm
    · rename_i h2
      split
      · rename_i h1; exact (key 1 h1.1 h1.2).symm
      · rename_i h1
        by_cases h0 : (scanS h b).2.length = 0
        · exact h0.symm
        · exfalso
          have : (scanS h b).2.length = 1 ∨ (scanS h b).2.length = 2 ∨ (scanS h b).2.length = 3 := by omega
          rcases this with e | e | e
          · exact h1 (back 1 (by omega) e)
          · exact h2 (back 2 (by omega) e)
          · exact h3 (back 3 (by omega) e)
end
section
open Go.ChangeShapes Go.WideShapes Go.ChangeAt Go.RowKit
def ulen (r : Int) : Int := if isRune r then (if r < 65536 then 1 else 2) else 0
def two (r : Int) : Bool := decide (65536 ≤ r ∧ r ≤ 1114111)
theorem ValidRune_any (r : Int) (w : World) (h0 : -2147483648 ≤ r) (h1 : r ≤ 2147483647) :
    Calls Tryz.prog 107 #[.int .i32 r] w fun e w' => e = .returned (.bool (isRune r)) ∧ w' = w := by
  go_enter Tryz.func107, Tryz.ntmps107
  go_wp2
  all_goals go_ret
  all_goals refine ⟨ret_bool ?_, rfl⟩
  all_goals (unfold isRune; rw [Bool.eq_iff_iff]; simp; omega)
theorem Len_any (r : Int) (w : World) (h0 : -2147483648 ≤ r) (h1 : r ≤ 2147483647) :
    Calls Tryz.prog 78 #[.int .i32 r] w fun e w' => e = .returned (.int .i64 (ulen r)) ∧ w' = w := by
  cases hr : isRune r with
  | true =>
    have HR := hide hr
    go_enter Tryz.func78, Tryz.ntmps78
    go_wp2_with (go_at_call 107; refine (ValidRune_any _ _ h0 h1).mono ?_; rintro e w' ⟨rfl, rfl⟩)
    all_goals go_ret
    all_goals refine ⟨ret_int ?_, rfl⟩
    all_goals (rw [ulen, if_pos (unhide HR)]; first | rw [if_pos (by omega)] | rw [if_neg (by omega)])
  | false =>
    have HR := hide hr
    go_enter Tryz.func78, Tryz.ntmps78
    go_wp2_with (go_at_call 107; refine (ValidRune_any _ _ h0 h1).mono ?_; rintro e w' ⟨rfl, rfl⟩)
    all_goals go_ret
    all_goals refine ⟨ret_int ?_, rfl⟩
    all_goals (rw [ulen, unhide HR]; rfl)
end
section
abbrev Ed : Type := Nat × Nat × Nat
def e0 : Ed := (0, 0, 0)
def nxE (l : List Int) (e : Ed) (p : Nat) : Ed := (e.1 + wid (l.drop p), e.2.1 + 1, e.2.2 + (ulen (first (l.drop p)).1).toNat)
def stE (l : List Int) (ps : List Nat) : Ed := ps.foldl (nxE l) e0
def edL (l : List Int) (ps : List Nat) : List Ed := (List.range (ps.length + 1)).map fun i => stE l (ps.take i)
def EE (l : List Int) : List Ed := edL l (spots l 0)
def byE (r : Int) (e : Ed) : Nat := if r = 1 then e.1 else if r = 2 then e.2.1 else e.2.2
theorem stE_snoc (l : List Int) (ps : List Nat) (p : Nat) : stE l (ps ++ [p]) = nxE l (stE l ps) p := by simp [stE]
theorem edL_nil (l : List Int) : edL l [] = [e0] := rfl
theorem edL_snoc (l : List Int) (ps : List Nat) (p : Nat) : edL l (ps ++ [p]) = edL l ps ++ [stE l (ps ++ [p])] := by
  unfold edL
  rw [List.length_append, List.length_singleton, List.range_succ, List.map_append, List.map_singleton]
  congr 1
  · refine List.map_congr_left fun i hi => ?_
    have := List.mem_range.1 hi
    rw [List.take_append_of_le_length (by omega)]
  · rw [List.take_of_length_le (by simp)]
theorem edL_pre {l : List Int} {ps qs : List Nat} (h : ps <+: qs) : edL l ps <+: edL l qs := by
  obtain ⟨t, rfl⟩ := h
  induction t generalizing ps with
  | nil => rw [List.append_nil]; exact List.prefix_refl _
  | cons x t ih =>
    have h1 : edL l ps <+: edL l (ps ++ [x]) := by rw [edL_snoc]; exact List.prefix_append _ _
    have h2 := ih (ps := ps ++ [x])
    rw [List.append_assoc] at h2
    exact h1.trans h2
theorem edL_len (l : List Int) (ps : List Nat) : (edL l ps).length = ps.length + 1 := by simp [edL]
theorem edL_get (l : List Int) (ps : List Nat) (i : Nat) (h : i ≤ ps.length) : (edL l ps)[i]? = some (stE l (ps.take i)) := by
  unfold edL
  rw [List.getElem?_map, List.getElem?_range (by omega)]
  rfl
theorem EE_len (l : List Int) : (EE l).length = (spots l 0).length + 1 := edL_len _ _
theorem value_rn {l : List Int} (h : whole l = true) (hl : ∀ x ∈ l, 0 ≤ x ∧ x ≤ 255) : isRune (value l) = true := by
  cases hr : isRune (value l) with
  | true => rfl
  | false =>
    have h1 := value_enc (value l)
    rw [enc_value h hl, hr] at h1
    rw [h1] at hr
    exact absurd hr (by simp; decide)
theorem first_rn {l : List Int} (hl : ∀ x ∈ l, 0 ≤ x ∧ x ≤ 255) (h0 : 0 < l.length) : isRune (first l).1 = true := by
  match l with
  | [] => cases h0
  | a :: r =>
    simp only [first]
    split
    · rename_i hw
      exact value_rn hw (fun x hx => hl x (List.mem_of_mem_take hx))
    · decide
theorem rn_step {l : List Int} (hl : ∀ x ∈ l, 0 ≤ x ∧ x ≤ 255) {p : Nat} (hp : p < l.length) : isRune (first (l.drop p)).1 = true :=
  first_rn (fun x hx => hl x (List.mem_of_mem_drop hx)) (by simp; omega)
theorem ulen_pos {r : Int} (h : isRune r = true) : 1 ≤ (ulen r).toNat ∧ (ulen r).toNat ≤ 2 := by
  unfold ulen
  rw [if_pos h]
  split <;> decide
theorem st_walk {l : List Int} (hl : ∀ x ∈ l, 0 ≤ x ∧ x ≤ 255) : ∀ (pre : List Nat) (p : Nat) (e : Ed), p ≤ l.length → pre <+: spots l p →
    ∃ q, p ≤ q ∧ q ≤ l.length ∧ spots l p = pre ++ spots l q ∧ (pre.foldl (nxE l) e).1 + p = e.1 + q ∧ (pre.foldl (nxE l) e).2.1 = e.2.1 + pre.length ∧
      e.2.2 + pre.length ≤ (pre.foldl (nxE l) e).2.2 ∧ (pre.foldl (nxE l) e).2.2 ≤ e.2.2 + 2 * pre.length ∧ p + pre.length ≤ q
  | [], p, e, hp, _ => ⟨p, Nat.le_refl _, hp, rfl, rfl, rfl, by simp, by simp, by simp⟩
  | x :: t, p, e, hp, h => by
    by_cases hlt : p < l.length
    · rw [spots_cons hlt] at h ⊢
      obtain ⟨rfl, ht⟩ := List.cons_prefix_cons.1 h
      have h1 := wid_pos hlt
      obtain ⟨q, a1, a2, a3, a4, a5, a6, a7, a8⟩ := st_walk hl t (x + wid (l.drop x)) (nxE l e x) (wid_len hlt) ht
      obtain ⟨u1, u2⟩ := ulen_pos (rn_step hl hlt)
      refine ⟨q, by omega, a2, by rw [a3]; rfl, ?_, ?_, ?_, ?_, ?_⟩
      · rw [List.foldl_cons]; simp only [nxE] at a4 ⊢; omega
      · rw [List.foldl_cons, a5]; simp only [nxE, List.length_cons]; omega
      · rw [List.foldl_cons]; simp only [nxE, List.length_cons] at a6 ⊢; omega
      · rw [List.foldl_cons]; simp only [nxE, List.length_cons] at a7 ⊢; omega
      · simp only [List.length_cons]; omega
    · rw [spots_end hlt] at h
      exact absurd (List.prefix_nil.1 h) (by simp)
theorem st_at {l : List Int} (hl : ∀ x ∈ l, 0 ≤ x ∧ x ≤ 255) {pre : List Nat} (h : pre <+: spots l 0) :
    (stE l pre).1 ≤ l.length ∧ spots l 0 = pre ++ spots l (stE l pre).1 ∧ (stE l pre).2.1 = pre.length ∧ (stE l pre).2.2 ≤ 2 * pre.length ∧ pre.length ≤ l.length := by
  obtain ⟨q, _, a2, a3, a4, a5, _, a7, a8⟩ := st_walk hl pre 0 e0 (Nat.zero_le _) h
  have : (stE l pre).1 = q := by simpa [stE, e0] using a4
  rw [this]
  exact ⟨a2, a3, by simpa [stE, e0] using a5, by simpa [stE, e0] using a7, by omega⟩
theorem st_next {l : List Int} (hl : ∀ x ∈ l, 0 ≤ x ∧ x ≤ 255) {pre : List Nat} {x : Nat} (h : pre ++ [x] <+: spots l 0) : x = (stE l pre).1 ∧ x < l.length := by
  have h1 : pre <+: spots l 0 := (List.prefix_append pre [x]).trans h
  obtain ⟨a1, a2, _⟩ := st_at hl h1
  by_cases hq : (stE l pre).1 < l.length
  · rw [a2, spots_cons hq] at h
    have := (List.prefix_append_right_inj pre).1 h
    obtain ⟨rfl, _⟩ := List.cons_prefix_cons.1 this
    exact ⟨rfl, hq⟩
  · rw [a2, spots_end hq, List.append_nil] at h
    have := h.length_le
    simp only [List.length_append, List.length_singleton] at this
    omega
theorem st_full {l : List Int} (hl : ∀ x ∈ l, 0 ≤ x ∧ x ≤ 255) : (stE l (spots l 0)).1 = l.length := by
  obtain ⟨a1, a2, _⟩ := st_at hl (List.prefix_refl (spots l 0))
  rcases Nat.lt_or_ge (stE l (spots l 0)).1 l.length with h | h
  · rw [spots_cons h] at a2
    have := congrArg List.length a2
    simp at this
  · omega
theorem by_next {l : List Int} (hl : ∀ x ∈ l, 0 ≤ x ∧ x ≤ 255) (r : Int) (e : Ed) {x : Nat} (h : x < l.length) : byE r e < byE r (nxE l e x) := by
  have := wid_pos h
  obtain ⟨u1, _⟩ := ulen_pos (rn_step hl h)
  unfold byE nxE
  split
  · simp; omega
  · split <;> simp <;> omega
theorem by_e0 (r : Int) : byE r e0 = 0 := by
  unfold byE e0
  split
  · rfl
  · split <;> rfl
end
end Go.Proofs.YteamaneompijkaaGreatDoor
