/- The document's answer of layer 4: Might, where something is held. -/
import Derived.Test.YtpgipahlhbkjjaaDoorRs4
namespace Go.Proofs.YtpgipahlhbkjjaaDoor
open Go.ChangeShapes Go.WideShapes Go.ChangeAt Go.RowKit

set_option maxRecDepth 100000 in
set_option maxHeartbeats 4000000 in
theorem RMight_some (aH : Option Addr) (cH : Nat) (h : List Int) (pl : Int) (w : World) (hH : IsB w aH cH h) (hp : prop h = true) (L H : Nat) (hL : (mightV h).1 = (L : Int)) (hU : (mightV h).2.1 = (H : Int)) (h1 : 128 ≤ L) (h2 : L ≤ H) (h3 : H ≤ 191) :
    Calls Tryd.prog 16 #[.agg #[.slice aH h.length cH, .int .i64 pl]] w fun e w' => e = .returned (.tuple #[.int .u8 (L : Int), .int .u8 (H : Int), .bool true]) ∧ Below w.heap.size w w' := by
  have hlen := prop_len hp
  have HF : Hid (∀ y : Int, begins (h ++ [y]) = decide ((L : Int) ≤ y ∧ y ≤ (H : Int))) := hide (fun y => by rw [begins_fits hp, fits_range hp, hL, hU])
  clear hp hL hU
  have hb : Below w.heap.size w (w.alloc (.cells #[.slice aH h.length cH, .int .i64 pl] 28)) := (Below.refl _ _).alloc (Nat.le_refl _) _
  obtain ⟨c0, _, _, _⟩ := cells2 (alloc_get w (.cells #[.slice aH h.length cH, .int .i64 pl] 28))
  have hz1 : w.heap.size < (w.alloc (.cells #[.slice aH h.length cH, .int .i64 pl] 28)).heap.size := by simp
  have e0 : decide ((0 : Int) < (h.length : Int)) = true := decide_eq_true (by omega)
  have e00 : decide (0 < h.length) = true := decide_eq_true (by omega)
  have e0' : decide ((h.length : Int) > (0 : Int)) = true := decide_eq_true (by omega)
  go_enter Tryd.func16, Tryd.ntmps16
  go_wp2_with fail
  generalize (w.alloc (.cells #[.slice aH h.length cH, .int .i64 pl] 28)) = w1 at *
  have HB := hide hH
  clear hH
  go_loopw [5, 6, 7, 8] (fun lo hi ok i wx => ∃ x : Nat, x ≤ 256 ∧ i = .int .i64 x ∧ lo = .int .i64 (if x ≤ L then 256 else (L : Int)) ∧ hi = .int .i64 (if x ≤ L then -1 else if x ≤ H then (x : Int) - 1 else (H : Int)) ∧ ok = .bool (decide (L < x)) ∧ Below w.heap.size w wx ∧ Below w1.heap.size w1 wx) (fun _ _ _ i _ => 256 - (intOf i).toNat)
  case atStart => exact ⟨0, by omega, rfl, by rw [if_pos (by omega)], by rw [if_pos (by omega)], by rw [decide_eq_false (by omega)], hb, Below.refl _ _⟩
  case round =>
    obtain ⟨x, hx, rfl, rfl, rfl, rfl, hbx, hb1⟩ := hrel
    have hzx := hb1.size
    have hzw : w.heap.size < wr.heap.size := by omega
    have cx := (hb1.cell (p := ⟨w.heap.size, 0, none⟩) hz1).trans c0
    by_cases hlt : x < 256
    · have hBx := (unhide HB).below hbx (Nat.le_refl _)
      obtain ⟨v2, w2, r2, o2, x2⟩ := run_copy_own wr aH cH h 26 hBx
      obtain ⟨v3, w3, r3, o3, x3⟩ := o2.push1 (x : Int) (by omega) x2.size
      obtain ⟨a3, c3, rfl, i3⟩ := o3.isB (fun y hy => by
        rcases List.mem_append.1 hy with hy | hy
        · exact hBx.2.2.2 y hy
        · simp at hy; subst hy; omega) (by simp; omega)
      have hbg := unhide HF (x : Int)
      have hl3 : (h ++ [(x : Int)]).length = h.length + 1 := by simp
      rw [hl3] at r3
      have R2 := hide r2
      have R3 := hide r3
      have B3 := hide (hbx.trans ((x2.mono hbx.size).trans (x3.mono hbx.size)))
      have C3 := hide (hb1.trans ((x2.mono hzx).trans (x3.mono hzx)))
      have HBG := hide (Begins_is a3 c3 (h.length + 1) (h ++ [(x : Int)]) w3 hl3.symm (by rw [hl3]; unfold maxLen; omega) i3.2.2.1 hbg)
      have hwr : IntKind.u8.wrap (x : Int) = (x : Int) := by rw [IntKind.wrap_u8]; omega
      have hxi : decide ((x : Int) < 256) = true := decide_eq_true (by omega)
      have hmod : (x : Int) % 256 = (x : Int) := by omega
      clear r2 r3 o2 o3 x2 x3 i3 hBx hbg hl3
      by_cases hA : x < L
      · have hd : decide ((L : Int) ≤ (x : Int) ∧ (x : Int) ≤ (H : Int)) = false := decide_eq_false (by omega)
        have hk : decide (L < x) = false := decide_eq_false (by omega)
        rw [if_pos (show x ≤ L by omega), if_pos (show x ≤ L by omega), hk]
        go_wp2_with (first
          | (at_builtin; refine wpList_append_known rfl _ _ 26 26 rfl _ _ rfl rfl _ _ (unhide R2) ?_; clear R2)
          | (at_builtin; refine wpList_append_known rfl _ _ 26 26 rfl _ _ rfl rfl _ _ (unhide R3) ?_; clear R3)
          | (go_at_call 22; refine (unhide HBG).mono ?_; rw [hd]; rintro e w4 ⟨rfl, n4, rfl⟩; dsimp only))
        exact ⟨⟨x + 1, by omega, rfl, by rw [if_pos (by omega)], by rw [if_pos (by omega)], by rw [decide_eq_false (by omega)], Below.drewN (unhide B3) n4, Below.drewN (unhide C3) n4⟩, by simp [intOf]; omega⟩
      · by_cases hB2 : x = L
        · have hd : decide ((L : Int) ≤ (x : Int) ∧ (x : Int) ≤ (H : Int)) = true := decide_eq_true (by omega)
          have hk : decide (L < x) = false := decide_eq_false (by omega)
          rw [if_pos (show x ≤ L by omega), if_pos (show x ≤ L by omega), hk]
          subst hB2
          go_wp2_with (first
            | (at_builtin; refine wpList_append_known rfl _ _ 26 26 rfl _ _ rfl rfl _ _ (unhide R2) ?_; clear R2)
            | (at_builtin; refine wpList_append_known rfl _ _ 26 26 rfl _ _ rfl rfl _ _ (unhide R3) ?_; clear R3)
            | (go_at_call 22; refine (unhide HBG).mono ?_; rw [hd]; rintro e w4 ⟨rfl, n4, rfl⟩; dsimp only))
          exact ⟨⟨x + 1, by omega, rfl, by rw [if_neg (by omega)], by rw [if_neg (by omega)]; split <;> first | (congr 1; omega) | rfl, by rw [decide_eq_true (by omega)], Below.drewN (unhide B3) n4, Below.drewN (unhide C3) n4⟩, by simp [intOf]; omega⟩
        · have hk : decide (L < x) = true := decide_eq_true (by omega)
          rw [if_neg (show ¬ x ≤ L by omega), if_neg (show ¬ x ≤ L by omega), hk]
          by_cases hC : x ≤ H
          · have hd : decide ((L : Int) ≤ (x : Int) ∧ (x : Int) ≤ (H : Int)) = true := decide_eq_true (by omega)
            rw [if_pos hC]
            go_wp2_with (first
              | (at_builtin; refine wpList_append_known rfl _ _ 26 26 rfl _ _ rfl rfl _ _ (unhide R2) ?_; clear R2)
              | (at_builtin; refine wpList_append_known rfl _ _ 26 26 rfl _ _ rfl rfl _ _ (unhide R3) ?_; clear R3)
              | (go_at_call 22; refine (unhide HBG).mono ?_; rw [hd]; rintro e w4 ⟨rfl, n4, rfl⟩; dsimp only))
            exact ⟨⟨x + 1, by omega, rfl, by rw [if_neg (by omega)], by rw [if_neg (by omega)]; split <;> first | (congr 1; omega) | rfl, by rw [decide_eq_true (by omega)], Below.drewN (unhide B3) n4, Below.drewN (unhide C3) n4⟩, by simp [intOf]; omega⟩
          · have hd : decide ((L : Int) ≤ (x : Int) ∧ (x : Int) ≤ (H : Int)) = false := decide_eq_false (by omega)
            rw [if_neg hC]
            go_wp2_with (first
              | (at_builtin; refine wpList_append_known rfl _ _ 26 26 rfl _ _ rfl rfl _ _ (unhide R2) ?_; clear R2)
              | (at_builtin; refine wpList_append_known rfl _ _ 26 26 rfl _ _ rfl rfl _ _ (unhide R3) ?_; clear R3)
              | (go_at_call 22; refine (unhide HBG).mono ?_; rw [hd]; rintro e w4 ⟨rfl, n4, rfl⟩; dsimp only))
            exact ⟨⟨x + 1, by omega, rfl, by rw [if_neg (by omega)], by rw [if_neg (by omega), if_neg (by omega)], by rw [decide_eq_true (by omega)], Below.drewN (unhide B3) n4, Below.drewN (unhide C3) n4⟩, by simp [intOf]; omega⟩
    · obtain rfl : x = 256 := by omega
      rw [if_neg (show ¬ 256 ≤ L by omega), if_neg (show ¬ 256 ≤ L by omega), if_neg (show ¬ 256 ≤ H by omega), show decide (L < 256) = true from decide_eq_true (by omega)]
      have hw1 : IntKind.u8.wrap (L : Int) = (L : Int) := by rw [IntKind.wrap_u8]; omega
      have hw2 : IntKind.u8.wrap (H : Int) = (H : Int) := by rw [IntKind.wrap_u8]; omega
      go_wp2_with fail
      exact bodyPost_ret (v := .tuple #[.int .u8 (L : Int), .int .u8 (H : Int), .bool true]) (by simp [results, Tryd.results16]) rfl ⟨rfl, hbx⟩

theorem might_in {h : List Int} (hp : prop h = true) : ∃ L H : Nat, (mightV h).1 = (L : Int) ∧ (mightV h).2.1 = (H : Int) ∧ 128 ≤ L ∧ L ≤ H ∧ H ≤ 191 := by
  obtain ⟨_, m2, m3, m4, _⟩ := fit_lo hp
  simp only [isTail, decide_eq_true_eq] at m3 m4
  exact ⟨(mightV h).1.toNat, (mightV h).2.1.toNat, by omega, by omega, by omega, by omega, by omega⟩
theorem RMight_at (aH : Option Addr) (cH : Nat) (h : List Int) (pl : Int) (w : World) (hH : IsB w aH cH h) (hh : Hel h) :
    Calls Tryd.prog 16 #[.agg #[.slice aH h.length cH, .int .i64 pl]] w fun e w' => e = .returned (.tuple #[.int .u8 (mightV h).1, .int .u8 (mightV h).2.1, .bool (mightV h).2.2]) ∧ Below w.heap.size w w' := by
  rcases hh with rfl | hp
  · exact RMight_none aH cH pl w
  · obtain ⟨L, H, e1, e2, h1, h2, h3⟩ := might_in hp
    have := RMight_some aH cH h pl w hH hp L H e1 e2 h1 h2 h3
    rw [(fit_lo hp).1, e1, e2]
    exact this
end Go.Proofs.YtpgipahlhbkjjaaDoor
