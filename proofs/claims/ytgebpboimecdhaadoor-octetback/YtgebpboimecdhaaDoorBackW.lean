/- The walk of OctetBack: it answers true wherever the table holds the classes, and changes nothing that was there. -/
import Derived.Test.YtgebpboimecdhaaDoorBackA
namespace Go.Proofs.YtgebpboimecdhaaDoor
open Go.ChangeShapes Go.WideShapes Go.ChangeAt Go.RowKit

set_option maxHeartbeats 1000000 in
theorem OctetBack_g4 (r s : Int) (w : World) (k0 : -2147483648 ≤ s) (k1 : s ≤ 2147483647) (hr : 57343 < r) (hr2 : r < 65536) (hT : Tab w) :
    Calls Tryd.prog 6 #[.int .i32 r, .int .i32 s] w fun e w' => e = .returned (.bool true) ∧ Below w.heap.size w w' := by
  have hn : (enc r).length = 3 := by rw [enc_3 (by omega) hr2 (Or.inr hr)]; rfl
  have hu := utf8_enc r
  have hrr : isRune r = true := isRune_true (by omega)
  have hbn := Bytes_new r
  rw [hn] at hbn
  have HB := hide hbn
  have KW := hide (Whole_enc r 3 hn)
  have KV := hide (Value_enc r 3 hn hrr)
  have KA : Hid (∀ w g, Lies w g 0 (enc r) → (convert 27 9 (.slice (some ⟨g, 0, none⟩) 3 3)).run Tryd.prog w = .ok (.string (strOfNums (enc r))) w) := by
    intro w g h
    have := str_lies w g 0 3 (enc r) h
    rw [hn] at this
    exact this
  have HR := hide hrr
  clear hbn hn hrr
  have g0 : decide (0 ≤ r) = true := decide_eq_true (by omega)
  have g1 : decide (r < 55296) = false := decide_eq_false (by omega)
  have g2 : decide (57343 < r) = true := decide_eq_true (by omega)
  have g3 : decide (r ≤ 1114111) = true := decide_eq_true (by omega)
  rcases five s with ⟨c, d0, d1, d2, d3⟩ | ⟨⟨c, d⟩, d0, d1, d2, d3⟩ | ⟨⟨c, d⟩, d0, d1, d2, d3⟩ | ⟨⟨c, d⟩, d0, d1, d2, d3⟩ | ⟨c, d0, d1, d2, d3⟩
  all_goals
    go_enter Tryd.func6, Tryd.ntmps6
    go_wp2_with (go_at_call 9; refine (awake_any _ hT).mono ?_; rintro e w1 ⟨rfl, b1⟩)
    have hT1 := hT.below b1 hT.size
    refine (unhide HB w1 (by omega) (by omega)).mono ?_
    rintro e w2 ⟨ga, rfl, la, sa, ta, b2⟩
    have hT2 := hT1.below b2 hT1.size
    go_wp2_with fail
    refine (Bytes_new s w2 (by omega) (by omega)).mono ?_
    rintro e w3 ⟨gb, rfl, lb, sb, tb, b3⟩
    have hT3 := hT2.below b3 hT2.size
    have la3 := la.below b3 ta
    have ka := unhide KA w3 ga la3
    have s1 := b1.size; have s2 := b2.size
    have hb3 := b1.trans ((b2.mono (by omega)).trans (b3.mono (by omega)))
    have s3 := hb3.size
    have ta3 := Nat.lt_of_lt_of_le ta b3.size
    clear b1 b2 b3 la HB hT hT1 hT2 sa ta sb s1 s2
    go_wp2_with fail
    refine (unhide KW ga w3 la3 hT3).mono ?_
    rintro e w4 ⟨rfl, b4⟩
    have hT4 := hT3.below b4 hT3.size
    have la4 := la3.below b4 ta3
    have lb4 := lb.below b4 tb
    have hb4 := hb3.trans (b4.mono s3)
    have s4 := b4.size
    clear ka hT3 la3 lb hb3 b4
    go_wp2_with fail
    refine (unhide KV ga w4 la4 hT4).mono ?_
    rintro e w5 ⟨rfl, b5⟩
    have la5 := la4.below b5 (by omega)
    have lb5 := lb4.below b5 (by omega)
    have hb5 := hb4.trans (b5.mono (by omega))
    have ka5 := unhide KA w5 ga la5
    have kb5 := str_lies w5 gb 0 (enc s).length (enc s) lb5
    clear hT4 la4 lb4 hb4 b5 la5 lb5
    go_wp2_with fail
    go_ret
    refine ⟨ret_bool ?_, hb5⟩
    first
      | rfl
      | exact back_end (unhide HR) (isRune_true (by omega))

set_option maxHeartbeats 1000000 in
theorem OctetBack_g5 (r s : Int) (w : World) (k0 : -2147483648 ≤ s) (k1 : s ≤ 2147483647) (hr : 65536 ≤ r) (hr2 : r ≤ 1114111) (hT : Tab w) :
    Calls Tryd.prog 6 #[.int .i32 r, .int .i32 s] w fun e w' => e = .returned (.bool true) ∧ Below w.heap.size w w' := by
  have hn : (enc r).length = 4 := by rw [enc_4 hr hr2]; rfl
  have hu := utf8_enc r
  have hrr : isRune r = true := isRune_true (by omega)
  have hbn := Bytes_new r
  rw [hn] at hbn
  have HB := hide hbn
  have KW := hide (Whole_enc r 4 hn)
  have KV := hide (Value_enc r 4 hn hrr)
  have KA : Hid (∀ w g, Lies w g 0 (enc r) → (convert 27 9 (.slice (some ⟨g, 0, none⟩) 4 4)).run Tryd.prog w = .ok (.string (strOfNums (enc r))) w) := by
    intro w g h
    have := str_lies w g 0 4 (enc r) h
    rw [hn] at this
    exact this
  have HR := hide hrr
  clear hbn hn hrr
  have g0 : decide (0 ≤ r) = true := decide_eq_true (by omega)
  have g1 : decide (r < 55296) = false := decide_eq_false (by omega)
  have g2 : decide (57343 < r) = true := decide_eq_true (by omega)
  have g3 : decide (r ≤ 1114111) = true := decide_eq_true (by omega)
  rcases five s with ⟨c, d0, d1, d2, d3⟩ | ⟨⟨c, d⟩, d0, d1, d2, d3⟩ | ⟨⟨c, d⟩, d0, d1, d2, d3⟩ | ⟨⟨c, d⟩, d0, d1, d2, d3⟩ | ⟨c, d0, d1, d2, d3⟩
  all_goals
    go_enter Tryd.func6, Tryd.ntmps6
    go_wp2_with (go_at_call 9; refine (awake_any _ hT).mono ?_; rintro e w1 ⟨rfl, b1⟩)
    have hT1 := hT.below b1 hT.size
    refine (unhide HB w1 (by omega) (by omega)).mono ?_
    rintro e w2 ⟨ga, rfl, la, sa, ta, b2⟩
    have hT2 := hT1.below b2 hT1.size
    go_wp2_with fail
    refine (Bytes_new s w2 (by omega) (by omega)).mono ?_
    rintro e w3 ⟨gb, rfl, lb, sb, tb, b3⟩
    have hT3 := hT2.below b3 hT2.size
    have la3 := la.below b3 ta
    have ka := unhide KA w3 ga la3
    have s1 := b1.size; have s2 := b2.size
    have hb3 := b1.trans ((b2.mono (by omega)).trans (b3.mono (by omega)))
    have s3 := hb3.size
    have ta3 := Nat.lt_of_lt_of_le ta b3.size
    clear b1 b2 b3 la HB hT hT1 hT2 sa ta sb s1 s2
    go_wp2_with fail
    refine (unhide KW ga w3 la3 hT3).mono ?_
    rintro e w4 ⟨rfl, b4⟩
    have hT4 := hT3.below b4 hT3.size
    have la4 := la3.below b4 ta3
    have lb4 := lb.below b4 tb
    have hb4 := hb3.trans (b4.mono s3)
    have s4 := b4.size
    clear ka hT3 la3 lb hb3 b4
    go_wp2_with fail
    refine (unhide KV ga w4 la4 hT4).mono ?_
    rintro e w5 ⟨rfl, b5⟩
    have la5 := la4.below b5 (by omega)
    have lb5 := lb4.below b5 (by omega)
    have hb5 := hb4.trans (b5.mono (by omega))
    have ka5 := unhide KA w5 ga la5
    have kb5 := str_lies w5 gb 0 (enc s).length (enc s) lb5
    clear hT4 la4 lb4 hb4 b5 la5 lb5
    go_wp2_with fail
    go_ret
    refine ⟨ret_bool ?_, hb5⟩
    first
      | rfl
      | exact back_end (unhide HR) (isRune_true (by omega))

theorem OctetBack_any (r s : Int) (w : World) (wr : (Lit.int .i32 r).wf = true) (ws : (Lit.int .i32 s).wf = true) (hT : Tab w) :
    Calls Tryd.prog 6 #[.int .i32 r, .int .i32 s] w fun e w' => e = .returned (.bool true) ∧ Below w.heap.size w w' := by
  obtain ⟨h0, h1⟩ := bounds_i32 wr
  obtain ⟨k0, k1⟩ := bounds_i32 ws
  by_cases c1 : r < 0
  · exact OctetBack_b1 r s w h0 h1 k0 k1 c1 hT
  by_cases c2 : r < 128
  · exact OctetBack_g1 r s w k0 k1 (by omega) c2 hT
  by_cases c3 : r < 2048
  · exact OctetBack_g2 r s w k0 k1 (by omega) c3 hT
  by_cases c4 : r < 55296
  · exact OctetBack_g3 r s w k0 k1 (by omega) c4 hT
  by_cases c5 : r ≤ 57343
  · exact OctetBack_b2 r s w h0 h1 k0 k1 (by omega) c5 hT
  by_cases c6 : r < 65536
  · exact OctetBack_g4 r s w k0 k1 (by omega) c6 hT
  by_cases c7 : r ≤ 1114111
  · exact OctetBack_g5 r s w k0 k1 (by omega) c7 hT
  · exact OctetBack_b3 r s w h0 h1 k0 k1 (by omega) hT

end Go.Proofs.YtgebpboimecdhaaDoor
