/- The walk of OctetBack at a rune: it answers true wherever the table holds the classes, and changes nothing that was there. -/
import Derived.Test.YtgebpboimecdhaaDoorBackB
namespace Go.Proofs.YtgebpboimecdhaaDoor
open Go.ChangeShapes Go.WideShapes Go.ChangeAt Go.RowKit

theorem back_end {r s : Int} (hr : isRune r = true) (hs : isRune s = true) : (((strOfNums (enc r)).toList == (strOfNums (enc s)).toList) == (r == s)) = true := by
  rw [str_beq (enc_bytes r) (enc_bytes s)]
  by_cases h : r = s
  · subst h; simp
  · have h2 : ¬ enc r = enc s := fun e => h (enc_inj hr hs e)
    simp [h, h2]
theorem Whole_enc (r : Int) (n : Nat) (hn : (enc r).length = n) (g : Nat) (w : World) (hL : Lies w g 0 (enc r)) (hT : Tab w) :
    Calls Tryd.prog 16 #[.slice (some ⟨g, 0, none⟩) n n] w fun e w' => e = .returned (.bool true) ∧ Below w.heap.size w w' := by
  subst hn
  have hl : (enc r).length ≤ maxLen := by
    have : (enc r).length ≤ 4 := enc_cases r (p := fun l => l.length ≤ 4) (by simp) (by simp) (by simp) (by simp) (by simp)
    unfold maxLen; omega
  have := Whole_at (some ⟨g, 0, none⟩) (enc r).length (enc r) w hl (Nat.le_refl _) (Or.inr ⟨g, 0, rfl, hL⟩) hT
  rw [whole_enc] at this
  exact this.mono fun _ _ h => ⟨h.1, quiet_below h.2 _⟩
theorem Value_enc (r : Int) (n : Nat) (hn : (enc r).length = n) (hr : isRune r = true) (g : Nat) (w : World) (hL : Lies w g 0 (enc r)) (hT : Tab w) :
    Calls Tryd.prog 18 #[.slice (some ⟨g, 0, none⟩) n n] w fun e w' => e = .returned (.int .i32 r) ∧ Below w.heap.size w w' := by
  subst hn
  have hl : (enc r).length ≤ maxLen := by
    have : (enc r).length ≤ 4 := enc_cases r (p := fun l => l.length ≤ 4) (by simp) (by simp) (by simp) (by simp) (by simp)
    unfold maxLen; omega
  have := Value_at (some ⟨g, 0, none⟩) (enc r).length (enc r) w hl (Nat.le_refl _) (Or.inr ⟨g, 0, rfl, hL⟩) hT
  rw [value_enc, hr, if_pos rfl] at this
  exact this.mono fun _ _ h => ⟨h.1, quiet_below h.2 _⟩

set_option maxHeartbeats 1000000 in
theorem OctetBack_g1 (r s : Int) (w : World) (k0 : -2147483648 ≤ s) (k1 : s ≤ 2147483647) (hr : 0 ≤ r) (hr2 : r < 128) (hT : Tab w) :
    Calls Tryd.prog 6 #[.int .i32 r, .int .i32 s] w fun e w' => e = .returned (.bool true) ∧ Below w.heap.size w w' := by
  have hn : (enc r).length = 1 := by rw [enc_1 hr hr2]; rfl
  have hu := utf8_enc r
  have hrr : isRune r = true := isRune_true (by omega)
  have hbn := Bytes_new r
  rw [hn] at hbn
  have HB := hide hbn
  have KW := hide (Whole_enc r 1 hn)
  have KV := hide (Value_enc r 1 hn hrr)
  have KA : Hid (∀ w g, Lies w g 0 (enc r) → (convert 27 9 (.slice (some ⟨g, 0, none⟩) 1 1)).run Tryd.prog w = .ok (.string (strOfNums (enc r))) w) := by
    intro w g h
    have := str_lies w g 0 1 (enc r) h
    rw [hn] at this
    exact this
  have HR := hide hrr
  clear hbn hn hrr
  have g0 : decide (0 ≤ r) = true := decide_eq_true (by omega)
  have g1 : decide (r < 55296) = true := decide_eq_true (by omega)
  have g2 : decide (57343 < r) = false := decide_eq_false (by omega)
  have g3 : decide (r ≤ 1114111) = true := decide_eq_true (by omega)
  rcases five s with ⟨c, d0, d1, d2, d3⟩ | ⟨⟨c, d⟩, d0, d1, d2, d3⟩ | ⟨⟨c, d⟩, d0, d1, d2, d3⟩ | ⟨⟨c, d⟩, d0, d1, d2, d3⟩ | ⟨c, d0, d1, d2, d3⟩
  all_goals
    go_enter Tryd.func6, Tryd.ntmps6
    go_wp2_with (go_at_call 9; refine (awake_any _ hT).mono ?_; rintro e w1 ⟨rfl, b1⟩)
    have hT1 := hT.below b1 hT.size
    refine (unhide HB w1 (by omega) (by omega)).mono ?_
    rintro e w2 ⟨ga, rfl, la, sa, ta, b2⟩
    have hT2 := hT1.below b2 hT1.size
    go_wp2_with fail
    refine (Bytes_new s w2 (by omega) (by omega)).mono ?_
    rintro e w3 ⟨gb, rfl, lb, sb, tb, b3⟩
    have hT3 := hT2.below b3 hT2.size
    have la3 := la.below b3 ta
    have ka := unhide KA w3 ga la3
    have s1 := b1.size; have s2 := b2.size
    have hb3 := b1.trans ((b2.mono (by omega)).trans (b3.mono (by omega)))
    have s3 := hb3.size
    have ta3 := Nat.lt_of_lt_of_le ta b3.size
    clear b1 b2 b3 la HB hT hT1 hT2 sa ta sb s1 s2
    go_wp2_with fail
    refine (unhide KW ga w3 la3 hT3).mono ?_
    rintro e w4 ⟨rfl, b4⟩
    have hT4 := hT3.below b4 hT3.size
    have la4 := la3.below b4 ta3
    have lb4 := lb.below b4 tb
    have hb4 := hb3.trans (b4.mono s3)
    have s4 := b4.size
    clear ka hT3 la3 lb hb3 b4
    go_wp2_with fail
    refine (unhide KV ga w4 la4 hT4).mono ?_
    rintro e w5 ⟨rfl, b5⟩
    have la5 := la4.below b5 (by omega)
    have lb5 := lb4.below b5 (by omega)
    have hb5 := hb4.trans (b5.mono (by omega))
    have ka5 := unhide KA w5 ga la5
    have kb5 := str_lies w5 gb 0 (enc s).length (enc s) lb5
    clear hT4 la4 lb4 hb4 b5 la5 lb5
    go_wp2_with fail
    go_ret
    refine ⟨ret_bool ?_, hb5⟩
    first
      | rfl
      | exact back_end (unhide HR) (isRune_true (by omega))

set_option maxHeartbeats 1000000 in
theorem OctetBack_g2 (r s : Int) (w : World) (k0 : -2147483648 ≤ s) (k1 : s ≤ 2147483647) (hr : 128 ≤ r) (hr2 : r < 2048) (hT : Tab w) :
    Calls Tryd.prog 6 #[.int .i32 r, .int .i32 s] w fun e w' => e = .returned (.bool true) ∧ Below w.heap.size w w' := by
  have hn : (enc r).length = 2 := by rw [enc_2 hr hr2]; rfl
  have hu := utf8_enc r
  have hrr : isRune r = true := isRune_true (by omega)
  have hbn := Bytes_new r
  rw [hn] at hbn
  have HB := hide hbn
  have KW := hide (Whole_enc r 2 hn)
  have KV := hide (Value_enc r 2 hn hrr)
  have KA : Hid (∀ w g, Lies w g 0 (enc r) → (convert 27 9 (.slice (some ⟨g, 0, none⟩) 2 2)).run Tryd.prog w = .ok (.string (strOfNums (enc r))) w) := by
    intro w g h
    have := str_lies w g 0 2 (enc r) h
    rw [hn] at this
    exact this
  have HR := hide hrr
  clear hbn hn hrr
  have g0 : decide (0 ≤ r) = true := decide_eq_true (by omega)
  have g1 : decide (r < 55296) = true := decide_eq_true (by omega)
  have g2 : decide (57343 < r) = false := decide_eq_false (by omega)
  have g3 : decide (r ≤ 1114111) = true := decide_eq_true (by omega)
  rcases five s with ⟨c, d0, d1, d2, d3⟩ | ⟨⟨c, d⟩, d0, d1, d2, d3⟩ | ⟨⟨c, d⟩, d0, d1, d2, d3⟩ | ⟨⟨c, d⟩, d0, d1, d2, d3⟩ | ⟨c, d0, d1, d2, d3⟩
  all_goals
    go_enter Tryd.func6, Tryd.ntmps6
    go_wp2_with (go_at_call 9; refine (awake_any _ hT).mono ?_; rintro e w1 ⟨rfl, b1⟩)
    have hT1 := hT.below b1 hT.size
    refine (unhide HB w1 (by omega) (by omega)).mono ?_
    rintro e w2 ⟨ga, rfl, la, sa, ta, b2⟩
    have hT2 := hT1.below b2 hT1.size
    go_wp2_with fail
    refine (Bytes_new s w2 (by omega) (by omega)).mono ?_
    rintro e w3 ⟨gb, rfl, lb, sb, tb, b3⟩
    have hT3 := hT2.below b3 hT2.size
    have la3 := la.below b3 ta
    have ka := unhide KA w3 ga la3
    have s1 := b1.size; have s2 := b2.size
    have hb3 := b1.trans ((b2.mono (by omega)).trans (b3.mono (by omega)))
    have s3 := hb3.size
    have ta3 := Nat.lt_of_lt_of_le ta b3.size
    clear b1 b2 b3 la HB hT hT1 hT2 sa ta sb s1 s2
    go_wp2_with fail
    refine (unhide KW ga w3 la3 hT3).mono ?_
    rintro e w4 ⟨rfl, b4⟩
    have hT4 := hT3.below b4 hT3.size
    have la4 := la3.below b4 ta3
    have lb4 := lb.below b4 tb
    have hb4 := hb3.trans (b4.mono s3)
    have s4 := b4.size
    clear ka hT3 la3 lb hb3 b4
    go_wp2_with fail
    refine (unhide KV ga w4 la4 hT4).mono ?_
    rintro e w5 ⟨rfl, b5⟩
    have la5 := la4.below b5 (by omega)
    have lb5 := lb4.below b5 (by omega)
    have hb5 := hb4.trans (b5.mono (by omega))
    have ka5 := unhide KA w5 ga la5
    have kb5 := str_lies w5 gb 0 (enc s).length (enc s) lb5
    clear hT4 la4 lb4 hb4 b5 la5 lb5
    go_wp2_with fail
    go_ret
    refine ⟨ret_bool ?_, hb5⟩
    first
      | rfl
      | exact back_end (unhide HR) (isRune_true (by omega))

set_option maxHeartbeats 1000000 in
theorem OctetBack_g3 (r s : Int) (w : World) (k0 : -2147483648 ≤ s) (k1 : s ≤ 2147483647) (hr : 2048 ≤ r) (hr2 : r < 55296) (hT : Tab w) :
    Calls Tryd.prog 6 #[.int .i32 r, .int .i32 s] w fun e w' => e = .returned (.bool true) ∧ Below w.heap.size w w' := by
  have hn : (enc r).length = 3 := by rw [enc_3 hr (by omega) (Or.inl hr2)]; rfl
  have hu := utf8_enc r
  have hrr : isRune r = true := isRune_true (by omega)
  have hbn := Bytes_new r
  rw [hn] at hbn
  have HB := hide hbn
  have KW := hide (Whole_enc r 3 hn)
  have KV := hide (Value_enc r 3 hn hrr)
  have KA : Hid (∀ w g, Lies w g 0 (enc r) → (convert 27 9 (.slice (some ⟨g, 0, none⟩) 3 3)).run Tryd.prog w = .ok (.string (strOfNums (enc r))) w) := by
    intro w g h
    have := str_lies w g 0 3 (enc r) h
    rw [hn] at this
    exact this
  have HR := hide hrr
  clear hbn hn hrr
  have g0 : decide (0 ≤ r) = true := decide_eq_true (by omega)
  have g1 : decide (r < 55296) = true := decide_eq_true (by omega)
  have g2 : decide (57343 < r) = false := decide_eq_false (by omega)
  have g3 : decide (r ≤ 1114111) = true := decide_eq_true (by omega)
  rcases five s with ⟨c, d0, d1, d2, d3⟩ | ⟨⟨c, d⟩, d0, d1, d2, d3⟩ | ⟨⟨c, d⟩, d0, d1, d2, d3⟩ | ⟨⟨c, d⟩, d0, d1, d2, d3⟩ | ⟨c, d0, d1, d2, d3⟩
  all_goals
    go_enter Tryd.func6, Tryd.ntmps6
    go_wp2_with (go_at_call 9; refine (awake_any _ hT).mono ?_; rintro e w1 ⟨rfl, b1⟩)
    have hT1 := hT.below b1 hT.size
    refine (unhide HB w1 (by omega) (by omega)).mono ?_
    rintro e w2 ⟨ga, rfl, la, sa, ta, b2⟩
    have hT2 := hT1.below b2 hT1.size
    go_wp2_with fail
    refine (Bytes_new s w2 (by omega) (by omega)).mono ?_
    rintro e w3 ⟨gb, rfl, lb, sb, tb, b3⟩
    have hT3 := hT2.below b3 hT2.size
    have la3 := la.below b3 ta
    have ka := unhide KA w3 ga la3
    have s1 := b1.size; have s2 := b2.size
    have hb3 := b1.trans ((b2.mono (by omega)).trans (b3.mono (by omega)))
    have s3 := hb3.size
    have ta3 := Nat.lt_of_lt_of_le ta b3.size
    clear b1 b2 b3 la HB hT hT1 hT2 sa ta sb s1 s2
    go_wp2_with fail
    refine (unhide KW ga w3 la3 hT3).mono ?_
    rintro e w4 ⟨rfl, b4⟩
    have hT4 := hT3.below b4 hT3.size
    have la4 := la3.below b4 ta3
    have lb4 := lb.below b4 tb
    have hb4 := hb3.trans (b4.mono s3)
    have s4 := b4.size
    clear ka hT3 la3 lb hb3 b4
    go_wp2_with fail
    refine (unhide KV ga w4 la4 hT4).mono ?_
    rintro e w5 ⟨rfl, b5⟩
    have la5 := la4.below b5 (by omega)
    have lb5 := lb4.below b5 (by omega)
    have hb5 := hb4.trans (b5.mono (by omega))
    have ka5 := unhide KA w5 ga la5
    have kb5 := str_lies w5 gb 0 (enc s).length (enc s) lb5
    clear hT4 la4 lb4 hb4 b5 la5 lb5
    go_wp2_with fail
    go_ret
    refine ⟨ret_bool ?_, hb5⟩
    first
      | rfl
      | exact back_end (unhide HR) (isRune_true (by omega))

end Go.Proofs.YtgebpboimecdhaaDoor
