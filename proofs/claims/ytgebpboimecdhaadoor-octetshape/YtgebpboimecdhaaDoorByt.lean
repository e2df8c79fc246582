/- Contracts of isRune, tailOf and Bytes of the program: Bytes answers the plain encoding, in new memory. -/
import Derived.Test.YtgebpboimecdhaaDoorVal
namespace Go.Proofs.YtgebpboimecdhaaDoor
open Go.ChangeShapes Go.WideShapes Go.ChangeAt Go.RowKit

theorem i32_and63 {x : Int} (h₀ : 0 ≤ x) (h₁ : x < 2147483648) : bits .and .i32 x 63 = x % 64 := bits_mask .i32 31 (by decide) wraps_i32 6 (by decide) x h₀ h₁

theorem isRune_any (r : Int) (w : World) (h0 : -2147483648 ≤ r) (h1 : r ≤ 2147483647) :
    Calls Tryd.prog 25 #[.int .i32 r] w fun e w' => e = .returned (.bool (isRune r)) ∧ w' = w := by
  go_enter Tryd.func25, Tryd.ntmps25
  go_wp2
  all_goals go_ret
  all_goals refine ⟨ret_bool ?_, rfl⟩
  all_goals (unfold isRune; rw [Bool.eq_iff_iff]; simp; omega)

theorem tailOf_any (r : Int) (w : World) (h0 : 0 ≤ r) (h1 : r ≤ 2147483647) :
    Calls Tryd.prog 26 #[.int .i32 r] w fun e w' => e = .returned (.int .u8 (128 + r % 64)) ∧ w' = w := by
  go_enter Tryd.func26, Tryd.ntmps26
  go_wp2
  go_ret
  refine ⟨ret_int ?_, rfl⟩
  rw [i32_and63 h0 (by omega), show r % 64 % 256 = r % 64 by omega]
  exact u8_or128 (r % 64) (by omega) (by omega)

/-- a new []byte that holds these bytes, and the world with it -/
def madeW (w : World) (l : List Int) : World := w.alloc (.cells (l.map (Value.int .u8)).toArray 5)
def madeV (w : World) (l : List Int) : Value := .slice (some ⟨w.heap.size, 0, none⟩) l.length l.length

set_option maxHeartbeats 400000 in
theorem Bytes_1 (r : Int) (w : World) (h0 : 0 ≤ r) (h1 : r < 128) :
    Calls Tryd.prog 20 #[.int .i32 r] w fun e w' => e = .returned (madeV w [r]) ∧ w' = madeW w [r] := by
  have hi := isRune_any r w (by omega) (by omega)
  have he : isRune r = true := by unfold isRune; simp; omega
  rw [he] at hi
  have HI := hide hi
  clear hi he
  go_enter Tryd.func20, Tryd.ntmps20
  go_wp2_with (first
    | (go_at_call 25; refine (unhide HI).mono ?_; rintro e w' ⟨rfl, rfl⟩)
    | (go_at_call 26; refine (tailOf_any _ _ (by omega) (by omega)).mono ?_; rintro e w' ⟨rfl, rfl⟩))
  go_ret
  exact ⟨rfl, rfl⟩

set_option maxHeartbeats 400000 in
theorem Bytes_2 (r : Int) (w : World) (h0 : 128 ≤ r) (h1 : r < 2048) :
    Calls Tryd.prog 20 #[.int .i32 r] w fun e w' => e = .returned (madeV w [192 + r / 64, 128 + r % 64]) ∧ w' = madeW w [192 + r / 64, 128 + r % 64] := by
  have hi := isRune_any r w (by omega) (by omega)
  have he : isRune r = true := by unfold isRune; simp; omega
  rw [he] at hi
  have HI := hide hi
  clear hi he
  go_enter Tryd.func20, Tryd.ntmps20
  go_wp2_with (first
    | (go_at_call 25; refine (unhide HI).mono ?_; rintro e w' ⟨rfl, rfl⟩)
    | (go_at_call 26; refine (tailOf_any _ _ (by omega) (by omega)).mono ?_; rintro e w' ⟨rfl, rfl⟩))
  go_ret
  exact ⟨rfl, rfl⟩

set_option maxHeartbeats 400000 in
theorem Bytes_3 (r : Int) (w : World) (h0 : 2048 ≤ r) (h1 : r < 65536) (h2 : r < 55296 ∨ 57343 < r) :
    Calls Tryd.prog 20 #[.int .i32 r] w fun e w' => e = .returned (madeV w [224 + r / 4096, 128 + r / 64 % 64, 128 + r % 64]) ∧ w' = madeW w [224 + r / 4096, 128 + r / 64 % 64, 128 + r % 64] := by
  have hi := isRune_any r w (by omega) (by omega)
  have he : isRune r = true := by unfold isRune; simp; omega
  rw [he] at hi
  have HI := hide hi
  clear hi he
  go_enter Tryd.func20, Tryd.ntmps20
  go_wp2_with (first
    | (go_at_call 25; refine (unhide HI).mono ?_; rintro e w' ⟨rfl, rfl⟩)
    | (go_at_call 26; refine (tailOf_any _ _ (by omega) (by omega)).mono ?_; rintro e w' ⟨rfl, rfl⟩))
  go_ret
  exact ⟨rfl, rfl⟩

set_option maxHeartbeats 400000 in
theorem Bytes_4 (r : Int) (w : World) (h0 : 65536 ≤ r) (h1 : r ≤ 1114111) :
    Calls Tryd.prog 20 #[.int .i32 r] w fun e w' => e = .returned (madeV w [240 + r / 262144, 128 + r / 4096 % 64, 128 + r / 64 % 64, 128 + r % 64]) ∧ w' = madeW w [240 + r / 262144, 128 + r / 4096 % 64, 128 + r / 64 % 64, 128 + r % 64] := by
  have hi := isRune_any r w (by omega) (by omega)
  have he : isRune r = true := by unfold isRune; simp; omega
  rw [he] at hi
  have HI := hide hi
  clear hi he
  go_enter Tryd.func20, Tryd.ntmps20
  go_wp2_with (first
    | (go_at_call 25; refine (unhide HI).mono ?_; rintro e w' ⟨rfl, rfl⟩)
    | (go_at_call 26; refine (tailOf_any _ _ (by omega) (by omega)).mono ?_; rintro e w' ⟨rfl, rfl⟩))
  go_ret
  exact ⟨rfl, rfl⟩

set_option maxHeartbeats 400000 in
theorem Bytes_bad (r : Int) (w : World) (h0 : -2147483648 ≤ r) (h1 : r ≤ 2147483647) (h2 : r < 0 ∨ 55296 ≤ r ∧ r ≤ 57343 ∨ 1114111 < r) :
    Calls Tryd.prog 20 #[.int .i32 r] w fun e w' => e = .returned (madeV w [239, 191, 189]) ∧ w' = madeW w [239, 191, 189] := by
  have hi := isRune_any r w (by omega) (by omega)
  have he : isRune r = false := by unfold isRune; simp; omega
  rw [he] at hi
  have HI := hide hi
  clear hi he
  go_enter Tryd.func20, Tryd.ntmps20
  go_wp2_with (first
    | (go_at_call 25; refine (unhide HI).mono ?_; rintro e w' ⟨rfl, rfl⟩)
    | (go_at_call 26; refine (tailOf_any _ _ (by omega) (by omega)).mono ?_; rintro e w' ⟨rfl, rfl⟩))
  go_ret
  exact ⟨rfl, rfl⟩

theorem Bytes_any (r : Int) (w : World) (h0 : -2147483648 ≤ r) (h1 : r ≤ 2147483647) :
    Calls Tryd.prog 20 #[.int .i32 r] w fun e w' => e = .returned (madeV w (enc r)) ∧ w' = madeW w (enc r) := by
  by_cases hr : 0 ≤ r ∧ r < 55296 ∨ 57343 < r ∧ r ≤ 1114111
  · by_cases a1 : r < 128
    · rw [enc_1 (by omega) a1]; exact Bytes_1 r w (by omega) a1
    · by_cases a2 : r < 2048
      · rw [enc_2 (by omega) a2]; exact Bytes_2 r w (by omega) a2
      · by_cases a3 : r < 65536
        · rw [enc_3 (by omega) a3 (by omega)]; exact Bytes_3 r w (by omega) a3 (by omega)
        · rw [enc_4 (by omega) (by omega)]; exact Bytes_4 r w (by omega) (by omega)
  · rw [enc_bad hr]; exact Bytes_bad r w h0 h1 (by omega)

end Go.Proofs.YtgebpboimecdhaaDoor
