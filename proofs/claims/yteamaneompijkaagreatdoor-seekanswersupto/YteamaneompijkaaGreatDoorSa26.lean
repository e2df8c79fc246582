/- Layer 5: Valid, of whatever measures. -/
import Derived.Test.YteamaneompijkaaGreatDoorSa25
namespace Go.Proofs.YteamaneompijkaaGreatDoor
open Go.ChangeShapes Go.WideShapes Go.ChangeAt Go.RowKit
set_option maxRecDepth 100000
set_option maxHeartbeats 8000000
theorem ValidW_at (x : We) (w : World) (hW : Wt w) (hx : Byw x) :
    Calls Tryz.prog 147 #[weV x] w fun y w' => y = .returned (.bool (validB x)) ∧ Below w.heap.size w w' := by
  obtain ⟨⟨b, r, u, e⟩, h, t⟩ := x
  unfold weV validB
  dsimp only
  have b0 : Below w.heap.size w (w.alloc (.cells #[.int .i64 b, .int .i64 r, .int .i64 u, .int .i64 e, .string (strOfNums h), .string (strOfNums t)] 47)) := (Below.refl _ _).alloc (Nat.le_refl _) _
  obtain ⟨c0, c1, c2, c3, c4, c5, _⟩ := cells6 (push_get w (.cells #[.int .i64 b, .int .i64 r, .int .i64 u, .int .i64 e, .string (strOfNums h), .string (strOfNums t)] 47))
  by_cases h1 : b < 0 ∨ 268435456 < b
  · rw [if_pos h1]
    go_enter Tryz.func147, Tryz.ntmps147
    rcases Int.lt_or_le b 0 with q | q
    · go_wp2_with fail
      go_ret
      exact ⟨rfl, b0⟩
    · have q2 : 268435456 < b := by omega
      go_wp2_with fail
      go_ret
      exact ⟨rfl, b0⟩
  · rw [if_neg h1]
    obtain ⟨n, rfl⟩ : ∃ n : Nat, b = (n : Int) := ⟨b.toNat, by omega⟩
    obtain ⟨k, hk⟩ : ∃ k, k = min n 3 := ⟨_, rfl⟩
    have hmin : min (n : Int) 3 = (k : Int) := by omega
    rw [hmin]
    have q1 : ¬ ((n : Int) < 0) := by omega
    have q2 : ¬ ((268435456 : Int) < (n : Int)) := by omega
    have hsh : (strOfNums h).size = h.length := strOfNums_size h
    have hst : (strOfNums t).size = t.length := strOfNums_size t
    by_cases h2 : (h.length : Int) ≠ (k : Int) ∨ (t.length : Int) ≠ (k : Int)
    · rw [if_pos h2]
      go_enter Tryz.func147, Tryz.ntmps147
      by_cases q3 : h.length = k
      · have q4 : ¬ t.length = k := by omega
        have q5 : ((t.length : Int) != (k : Int)) = true := by rw [bne_iff_ne]; omega
        have q6 : ((h.length : Int) != (k : Int)) = false := by rw [bne_eq_false_iff_eq]; omega
        clear hk h2 hx q3
        go_wp2_with fail
        go_ret
        exact ⟨rfl, b0⟩
      · have q5 : ((h.length : Int) != (k : Int)) = true := by rw [bne_iff_ne]; omega
        clear hk h2 hx
        go_wp2_with fail
        go_ret
        exact ⟨rfl, b0⟩
    · rw [if_neg h2]
      have e1 : h.length = min n 3 := by omega
      have e2 : t.length = min n 3 := by omega
      by_cases h6 : (n : Int) ≤ 6
      · rw [if_pos h6]
        exact ValidW_few n r u e h t w hW hx.h hx.t (by omega) e1 e2
      · rw [if_neg h6]
        have q3 : ¬ ((n : Int) ≤ 3) := by omega
        have hsh' : (strOfNums h).size = 3 := hsh.trans (by omega)
        have hst' : (strOfNums t).size = 3 := hst.trans (by omega)
        have hmin' : min (n : Int) 3 = 3 := by omega
        clear hk h2 hmin hsh hst e1 e2 h1
        go_enter Tryz.func147, Tryz.ntmps147
        go_wp2_with fail
        refine (mayBe_at (n : Int) r u e _ (by omega)).mono ?_
        rintro y w2 ⟨rfl, b2⟩
        dsimp only
        go_wp2_with fail
        go_ret
        exact ⟨rfl, b0.trans (b2.mono b0.size)⟩
end Go.Proofs.YteamaneompijkaaGreatDoor
