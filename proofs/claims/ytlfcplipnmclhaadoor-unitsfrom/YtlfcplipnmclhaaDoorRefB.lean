/- Contracts of the document's answer: Is and Bytes of layer 1: they answer by the plain functions, Bytes in new memory. -/
import Derived.Test.YtlfcplipnmclhaaDoorByt
namespace Go.Proofs.YtlfcplipnmclhaaDoor
open Go.ChangeShapes Go.WideShapes Go.ChangeAt Go.RowKit

theorem Is_any (r : Int) (w : World) (h0 : -2147483648 ≤ r) (h1 : r ≤ 2147483647) :
    Calls Tryd.prog 48 #[.int .i32 r] w fun e w' => e = .returned (.bool (isRune r)) ∧ w' = w := by
  go_enter Tryd.func48, Tryd.ntmps48
  go_wp2
  all_goals go_ret
  all_goals refine ⟨ret_bool ?_, rfl⟩
  all_goals (unfold isRune; rw [Bool.eq_iff_iff]; simp; omega)

set_option maxHeartbeats 400000 in
theorem RBytes_1 (r : Int) (w : World) (h0 : 0 ≤ r) (h1 : r < 128) :
    Calls Tryd.prog 27 #[.int .i32 r] w fun e w' => e = .returned (madeV w [r]) ∧ w' = madeW w [r] := by
  have hi := Is_any r w (by omega) (by omega)
  have he : isRune r = true := by unfold isRune; simp; omega
  rw [he] at hi
  have HI := hide hi
  clear hi he
  go_enter Tryd.func27, Tryd.ntmps27
  go_wp2_with (go_at_call 48; refine (unhide HI).mono ?_; rintro e w' ⟨rfl, rfl⟩)
  go_ret
  exact ⟨rfl, rfl⟩

set_option maxHeartbeats 400000 in
theorem RBytes_2 (r : Int) (w : World) (h0 : 128 ≤ r) (h1 : r < 2048) :
    Calls Tryd.prog 27 #[.int .i32 r] w fun e w' => e = .returned (madeV w [192 + r / 64, 128 + r % 64]) ∧ w' = madeW w [192 + r / 64, 128 + r % 64] := by
  have hi := Is_any r w (by omega) (by omega)
  have he : isRune r = true := by unfold isRune; simp; omega
  rw [he] at hi
  have HI := hide hi
  clear hi he
  go_enter Tryd.func27, Tryd.ntmps27
  go_wp2_with (go_at_call 48; refine (unhide HI).mono ?_; rintro e w' ⟨rfl, rfl⟩)
  go_ret
  exact ⟨rfl, rfl⟩

set_option maxHeartbeats 400000 in
theorem RBytes_3 (r : Int) (w : World) (h0 : 2048 ≤ r) (h1 : r < 65536) (h2 : r < 55296 ∨ 57343 < r) :
    Calls Tryd.prog 27 #[.int .i32 r] w fun e w' => e = .returned (madeV w [224 + r / 4096, 128 + r / 64 % 64, 128 + r % 64]) ∧ w' = madeW w [224 + r / 4096, 128 + r / 64 % 64, 128 + r % 64] := by
  have hi := Is_any r w (by omega) (by omega)
  have he : isRune r = true := by unfold isRune; simp; omega
  rw [he] at hi
  have HI := hide hi
  clear hi he
  go_enter Tryd.func27, Tryd.ntmps27
  go_wp2_with (go_at_call 48; refine (unhide HI).mono ?_; rintro e w' ⟨rfl, rfl⟩)
  go_ret
  exact ⟨rfl, rfl⟩

set_option maxHeartbeats 400000 in
theorem RBytes_4 (r : Int) (w : World) (h0 : 65536 ≤ r) (h1 : r ≤ 1114111) :
    Calls Tryd.prog 27 #[.int .i32 r] w fun e w' => e = .returned (madeV w [240 + r / 262144, 128 + r / 4096 % 64, 128 + r / 64 % 64, 128 + r % 64]) ∧ w' = madeW w [240 + r / 262144, 128 + r / 4096 % 64, 128 + r / 64 % 64, 128 + r % 64] := by
  have hi := Is_any r w (by omega) (by omega)
  have he : isRune r = true := by unfold isRune; simp; omega
  rw [he] at hi
  have HI := hide hi
  clear hi he
  go_enter Tryd.func27, Tryd.ntmps27
  go_wp2_with (go_at_call 48; refine (unhide HI).mono ?_; rintro e w' ⟨rfl, rfl⟩)
  go_ret
  exact ⟨rfl, rfl⟩

set_option maxHeartbeats 400000 in
theorem RBytes_bad (r : Int) (w : World) (h0 : -2147483648 ≤ r) (h1 : r ≤ 2147483647) (h2 : r < 0 ∨ 55296 ≤ r ∧ r ≤ 57343 ∨ 1114111 < r) :
    Calls Tryd.prog 27 #[.int .i32 r] w fun e w' => e = .returned (madeV w [239, 191, 189]) ∧ w' = madeW w [239, 191, 189] := by
  have hi := Is_any r w (by omega) (by omega)
  have he : isRune r = false := by unfold isRune; simp; omega
  rw [he] at hi
  have HI := hide hi
  clear hi he
  go_enter Tryd.func27, Tryd.ntmps27
  go_wp2_with (go_at_call 48; refine (unhide HI).mono ?_; rintro e w' ⟨rfl, rfl⟩)
  go_ret
  exact ⟨rfl, rfl⟩

theorem RBytes_any (r : Int) (w : World) (h0 : -2147483648 ≤ r) (h1 : r ≤ 2147483647) :
    Calls Tryd.prog 27 #[.int .i32 r] w fun e w' => e = .returned (madeV w (enc r)) ∧ w' = madeW w (enc r) := by
  by_cases hr : 0 ≤ r ∧ r < 55296 ∨ 57343 < r ∧ r ≤ 1114111
  · by_cases a1 : r < 128
    · rw [enc_1 (by omega) a1]; exact RBytes_1 r w (by omega) a1
    · by_cases a2 : r < 2048
      · rw [enc_2 (by omega) a2]; exact RBytes_2 r w (by omega) a2
      · by_cases a3 : r < 65536
        · rw [enc_3 (by omega) a3 (by omega)]; exact RBytes_3 r w (by omega) a3 (by omega)
        · rw [enc_4 (by omega) (by omega)]; exact RBytes_4 r w (by omega) (by omega)
  · rw [enc_bad hr]; exact RBytes_bad r w h0 h1 (by omega)

end Go.Proofs.YtlfcplipnmclhaaDoor
