/- The walk of OctetBack at a number that is no rune: it answers true wherever the table holds the classes, and changes nothing that was there. -/
import Derived.Test.YtgebpboimecdhaaDoorNew
namespace Go.Proofs.YtgebpboimecdhaaDoor
open Go.ChangeShapes Go.WideShapes Go.ChangeAt Go.RowKit

theorem bad_str : strOfNums [239, 191, 189] = ⟨#[239, 191, 189]⟩ := by decide
theorem five (s : Int) : ((s < 0) ∧ decide (0 ≤ s) = false ∧ decide (s < 55296) = true ∧ decide (57343 < s) = false ∧ decide (s ≤ 1114111) = true) ∨ ((0 ≤ s ∧ s < 55296) ∧ decide (0 ≤ s) = true ∧ decide (s < 55296) = true ∧ decide (57343 < s) = false ∧ decide (s ≤ 1114111) = true) ∨ ((55296 ≤ s ∧ s ≤ 57343) ∧ decide (0 ≤ s) = true ∧ decide (s < 55296) = false ∧ decide (57343 < s) = false ∧ decide (s ≤ 1114111) = true) ∨ ((57343 < s ∧ s ≤ 1114111) ∧ decide (0 ≤ s) = true ∧ decide (s < 55296) = false ∧ decide (57343 < s) = true ∧ decide (s ≤ 1114111) = true) ∨ ((1114111 < s) ∧ decide (0 ≤ s) = true ∧ decide (s < 55296) = false ∧ decide (57343 < s) = true ∧ decide (s ≤ 1114111) = false) := by
  simp only [decide_eq_true_eq, decide_eq_false_iff_not]
  omega

set_option maxHeartbeats 1000000 in
theorem OctetBack_b1 (r s : Int) (w : World) (h0 : -2147483648 ≤ r) (h1 : r ≤ 2147483647) (k0 : -2147483648 ≤ s) (k1 : s ≤ 2147483647) (hr : r < 0) (hT : Tab w) :
    Calls Tryd.prog 6 #[.int .i32 r, .int .i32 s] w fun e w' => e = .returned (.bool true) ∧ Below w.heap.size w w' := by
  have he := enc_bad (r := r) (by omega)
  have hu := utf8_enc r
  rw [he, bad_str] at hu
  have hbn := Bytes_new r
  rw [he] at hbn
  have HB := hide hbn
  clear he hbn
  have g0 : decide (0 ≤ r) = false := decide_eq_false (by omega)
  have g1 : decide (r < 55296) = true := decide_eq_true (by omega)
  have g2 : decide (57343 < r) = false := decide_eq_false (by omega)
  have g3 : decide (r ≤ 1114111) = true := decide_eq_true (by omega)
  rcases five s with ⟨c, d0, d1, d2, d3⟩ | ⟨⟨c, d⟩, d0, d1, d2, d3⟩ | ⟨⟨c, d⟩, d0, d1, d2, d3⟩ | ⟨⟨c, d⟩, d0, d1, d2, d3⟩ | ⟨c, d0, d1, d2, d3⟩
  all_goals
    go_enter Tryd.func6, Tryd.ntmps6
    go_wp2_with (go_at_call 9; refine (awake_any _ hT).mono ?_; rintro e w1 ⟨rfl, b1⟩)
    have hT1 := hT.below b1 hT.size
    refine (unhide HB w1 (by omega) (by omega)).mono ?_
    rintro e w2 ⟨ga, rfl, la, sa, ta, b2⟩
    have hT2 := hT1.below b2 hT1.size
    go_wp2_with fail
    refine (Bytes_new s w2 (by omega) (by omega)).mono ?_
    rintro e w3 ⟨gb, rfl, lb, sb, tb, b3⟩
    have hT3 := hT2.below b3 hT2.size
    have la3 := la.below b3 ta
    have ka : (convert 27 9 (.slice (some ⟨ga, 0, none⟩) 3 3)).run Tryd.prog w3 = .ok (.string ⟨#[239, 191, 189]⟩) w3 := str_lies w3 ga 0 3 _ la3
    have kv : Calls Tryd.prog 18 #[.slice (some ⟨ga, 0, none⟩) 3 3] w3 fun e w' => e = .returned (.int .i32 65533) ∧ ∃ n, w' = w3.drewN n :=
      Value_at (some ⟨ga, 0, none⟩) 3 [239, 191, 189] w3 (by simp [maxLen]) (by simp) (Or.inr ⟨ga, 0, rfl, la3⟩) hT3
    have KV := hide kv
    clear kv
    have s1 := b1.size; have s2 := b2.size
    have hb3 := b1.trans ((b2.mono (by omega)).trans (b3.mono (by omega)))
    have s3 := hb3.size
    clear b1 b2 b3 la lb la3 HB hT hT1 hT2 sa ta sb tb s1 s2
    go_wp2_with (go_at_call 18; refine (unhide KV).mono ?_; rintro e w4 ⟨rfl, q4⟩)
    go_ret
    exact ⟨rfl, hb3.trans (quiet_below q4 _)⟩

set_option maxHeartbeats 1000000 in
theorem OctetBack_b2 (r s : Int) (w : World) (h0 : -2147483648 ≤ r) (h1 : r ≤ 2147483647) (k0 : -2147483648 ≤ s) (k1 : s ≤ 2147483647) (hr : 55296 ≤ r) (hr2 : r ≤ 57343) (hT : Tab w) :
    Calls Tryd.prog 6 #[.int .i32 r, .int .i32 s] w fun e w' => e = .returned (.bool true) ∧ Below w.heap.size w w' := by
  have he := enc_bad (r := r) (by omega)
  have hu := utf8_enc r
  rw [he, bad_str] at hu
  have hbn := Bytes_new r
  rw [he] at hbn
  have HB := hide hbn
  clear he hbn
  have g0 : decide (0 ≤ r) = true := decide_eq_true (by omega)
  have g1 : decide (r < 55296) = false := decide_eq_false (by omega)
  have g2 : decide (57343 < r) = false := decide_eq_false (by omega)
  have g3 : decide (r ≤ 1114111) = true := decide_eq_true (by omega)
  rcases five s with ⟨c, d0, d1, d2, d3⟩ | ⟨⟨c, d⟩, d0, d1, d2, d3⟩ | ⟨⟨c, d⟩, d0, d1, d2, d3⟩ | ⟨⟨c, d⟩, d0, d1, d2, d3⟩ | ⟨c, d0, d1, d2, d3⟩
  all_goals
    go_enter Tryd.func6, Tryd.ntmps6
    go_wp2_with (go_at_call 9; refine (awake_any _ hT).mono ?_; rintro e w1 ⟨rfl, b1⟩)
    have hT1 := hT.below b1 hT.size
    refine (unhide HB w1 (by omega) (by omega)).mono ?_
    rintro e w2 ⟨ga, rfl, la, sa, ta, b2⟩
    have hT2 := hT1.below b2 hT1.size
    go_wp2_with fail
    refine (Bytes_new s w2 (by omega) (by omega)).mono ?_
    rintro e w3 ⟨gb, rfl, lb, sb, tb, b3⟩
    have hT3 := hT2.below b3 hT2.size
    have la3 := la.below b3 ta
    have ka : (convert 27 9 (.slice (some ⟨ga, 0, none⟩) 3 3)).run Tryd.prog w3 = .ok (.string ⟨#[239, 191, 189]⟩) w3 := str_lies w3 ga 0 3 _ la3
    have kv : Calls Tryd.prog 18 #[.slice (some ⟨ga, 0, none⟩) 3 3] w3 fun e w' => e = .returned (.int .i32 65533) ∧ ∃ n, w' = w3.drewN n :=
      Value_at (some ⟨ga, 0, none⟩) 3 [239, 191, 189] w3 (by simp [maxLen]) (by simp) (Or.inr ⟨ga, 0, rfl, la3⟩) hT3
    have KV := hide kv
    clear kv
    have s1 := b1.size; have s2 := b2.size
    have hb3 := b1.trans ((b2.mono (by omega)).trans (b3.mono (by omega)))
    have s3 := hb3.size
    clear b1 b2 b3 la lb la3 HB hT hT1 hT2 sa ta sb tb s1 s2
    go_wp2_with (go_at_call 18; refine (unhide KV).mono ?_; rintro e w4 ⟨rfl, q4⟩)
    go_ret
    exact ⟨rfl, hb3.trans (quiet_below q4 _)⟩

set_option maxHeartbeats 1000000 in
theorem OctetBack_b3 (r s : Int) (w : World) (h0 : -2147483648 ≤ r) (h1 : r ≤ 2147483647) (k0 : -2147483648 ≤ s) (k1 : s ≤ 2147483647) (hr : 1114111 < r) (hT : Tab w) :
    Calls Tryd.prog 6 #[.int .i32 r, .int .i32 s] w fun e w' => e = .returned (.bool true) ∧ Below w.heap.size w w' := by
  have he := enc_bad (r := r) (by omega)
  have hu := utf8_enc r
  rw [he, bad_str] at hu
  have hbn := Bytes_new r
  rw [he] at hbn
  have HB := hide hbn
  clear he hbn
  have g0 : decide (0 ≤ r) = true := decide_eq_true (by omega)
  have g1 : decide (r < 55296) = false := decide_eq_false (by omega)
  have g2 : decide (57343 < r) = true := decide_eq_true (by omega)
  have g3 : decide (r ≤ 1114111) = false := decide_eq_false (by omega)
  rcases five s with ⟨c, d0, d1, d2, d3⟩ | ⟨⟨c, d⟩, d0, d1, d2, d3⟩ | ⟨⟨c, d⟩, d0, d1, d2, d3⟩ | ⟨⟨c, d⟩, d0, d1, d2, d3⟩ | ⟨c, d0, d1, d2, d3⟩
  all_goals
    go_enter Tryd.func6, Tryd.ntmps6
    go_wp2_with (go_at_call 9; refine (awake_any _ hT).mono ?_; rintro e w1 ⟨rfl, b1⟩)
    have hT1 := hT.below b1 hT.size
    refine (unhide HB w1 (by omega) (by omega)).mono ?_
    rintro e w2 ⟨ga, rfl, la, sa, ta, b2⟩
    have hT2 := hT1.below b2 hT1.size
    go_wp2_with fail
    refine (Bytes_new s w2 (by omega) (by omega)).mono ?_
    rintro e w3 ⟨gb, rfl, lb, sb, tb, b3⟩
    have hT3 := hT2.below b3 hT2.size
    have la3 := la.below b3 ta
    have ka : (convert 27 9 (.slice (some ⟨ga, 0, none⟩) 3 3)).run Tryd.prog w3 = .ok (.string ⟨#[239, 191, 189]⟩) w3 := str_lies w3 ga 0 3 _ la3
    have kv : Calls Tryd.prog 18 #[.slice (some ⟨ga, 0, none⟩) 3 3] w3 fun e w' => e = .returned (.int .i32 65533) ∧ ∃ n, w' = w3.drewN n :=
      Value_at (some ⟨ga, 0, none⟩) 3 [239, 191, 189] w3 (by simp [maxLen]) (by simp) (Or.inr ⟨ga, 0, rfl, la3⟩) hT3
    have KV := hide kv
    clear kv
    have s1 := b1.size; have s2 := b2.size
    have hb3 := b1.trans ((b2.mono (by omega)).trans (b3.mono (by omega)))
    have s3 := hb3.size
    clear b1 b2 b3 la lb la3 HB hT hT1 hT2 sa ta sb tb s1 s2
    go_wp2_with (go_at_call 18; refine (unhide KV).mono ?_; rintro e w4 ⟨rfl, q4⟩)
    go_ret
    exact ⟨rfl, hb3.trans (quiet_below q4 _)⟩

end Go.Proofs.YtgebpboimecdhaaDoor
