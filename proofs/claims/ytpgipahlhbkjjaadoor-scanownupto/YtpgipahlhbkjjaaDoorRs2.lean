/- The document's answer of layer 4: Left, SameSteps. -/
import Derived.Test.YtpgipahlhbkjjaaDoorRs1
import Derived.Deep.QuietTactic
import Derived.BigQuiet
namespace Go.Proofs.YtpgipahlhbkjjaaDoor
open Go.ChangeShapes Go.WideShapes Go.ChangeAt Go.RowKit

theorem Begins_is (a0 : Option Addr) (cap n : Nat) (l : List Int) {v : Bool} (w : World) (hn : n = l.length) (hm : l.length ≤ maxLen) (hB : Bs w a0 l) (hv : begins l = v) :
    Calls Tryd.prog 22 #[.slice a0 n cap] w fun e w' => e = .returned (.bool v) ∧ ∃ n, w' = w.drewN n := by
  subst hn hv
  exact Begins_at a0 cap l w hm hB
def leftK : Nat → List Int → Nat
  | 0, _ => 0
  | k + 1, t => if k + 1 ≤ t.length ∧ prop (t.drop (t.length - (k + 1))) = true then k + 1 else leftK k t
theorem leftK_3 (t : List Int) : leftK 3 t = leftL t := rfl

set_option maxHeartbeats 1000000 in
theorem RLeft_at (a0 : Option Addr) (cap : Nat) (l : List Int) (w : World) (hB : IsB w a0 cap l) :
    Calls Tryd.prog 19 #[.slice a0 l.length cap] w fun e w' => e = .returned (.int .i64 (leftL l : Nat)) ∧ ∃ n, w' = w.drewN n := by
  obtain ⟨h1, h2, h3, h4⟩ := hB
  go_enter Tryd.func19, Tryd.ntmps19
  go_wp2_with fail
  go_loopw [3] (fun i wx => ∃ (k n : Nat), i = .int .i64 k ∧ k ≤ 3 ∧ Hid (leftK k l = leftL l) ∧ wx = w.drewN n) (fun i _ => (intOf i).toNat)
  case atStart => exact ⟨3, 0, rfl, Nat.le_refl _, hide (leftK_3 l), rfl⟩
  case round =>
    obtain ⟨k, n, rfl, hk, HK, rfl⟩ := hrel
    rcases Nat.eq_zero_or_pos k with h0 | h0
    · subst h0
      have hz : leftL l = 0 := (unhide HK).symm
      go_wp2_with fail
      go_ret
      rw [hz]
      exact ⟨rfl, n, rfl⟩
    · obtain ⟨j, rfl⟩ : ∃ j, k = j + 1 := ⟨k - 1, by omega⟩
      by_cases hle : j + 1 ≤ l.length
      · obtain ⟨g, off, rfl, hL, hg⟩ := h3.lies (by omega)
        have hLd := hide (hL.drop (l.length - (j + 1)))
        have hlen : (l.drop (l.length - (j + 1))).length = j + 1 := by simp; omega
        have hcp : ¬ cap = l.length - (j + 1) := by omega
        have e1 : decide (((j + 1 : Nat) : Int) > (l.length : Int)) = false := decide_eq_false (by omega)
        have e2 : decide ((l.length : Int) < ((j + 1 : Nat) : Int)) = false := decide_eq_false (by omega)
        have hto : ((l.length : Int) - ((j + 1 : Nat) : Int)).toNat = l.length - (j + 1) := by omega
        obtain ⟨q, hq⟩ : ∃ q, q = l.length - (j + 1) := ⟨_, rfl⟩
        have hqi : (l.length : Int) - ((j : Int) + 1) = (q : Int) := by omega
        have hqi' : (l.length : Int) - ((j + 1 : Nat) : Int) = (q : Int) := by omega
        have hql : l.length - q = j + 1 := by omega
        have hqle : q ≤ l.length := by omega
        rw [← hq] at hLd hlen hcp
        have hkk : leftL l = leftK (j + 1) l := (unhide HK).symm
        rw [leftK, ← hq] at hkk
        clear hto hq HK h3 hL
        have HKK := hide hkk
        clear hkk
        cases hbg : begins (l.drop q) with
        | true =>
          cases hwh : whole (l.drop q) with
          | true =>
            have hkk : leftK j l = leftL l := by rw [unhide HKK, if_neg (fun h => by rw [prop, hbg, hwh] at h; cases h.2)]
            go_wp2_with (first
              | (go_at_call 22; refine (Begins_is _ _ _ (l.drop q) _ (by rw [hlen]) (by rw [hlen]; unfold maxLen; omega) (Or.inr ⟨_, _, rfl, (unhide hLd).drewN _⟩) hbg).mono ?_; rintro e w' ⟨rfl, n1, rfl⟩; dsimp only)
              | (go_at_call 29; refine (RWhole_is _ _ _ (l.drop q) _ (by rw [hlen]) (by rw [hlen]; unfold maxLen; omega) (Or.inr ⟨_, _, rfl, (unhide hLd).drewN _⟩) hwh).mono ?_; rintro e w' ⟨rfl, n2, rfl⟩; dsimp only))
            exact ⟨⟨j, _, rfl, by omega, hide hkk, rfl⟩, by simp [intOf]⟩
          | false =>
            have hkk : leftL l = j + 1 := by rw [unhide HKK, if_pos ⟨hle, by rw [prop, hbg, hwh]; rfl⟩]
            go_wp2_with (first
              | (go_at_call 22; refine (Begins_is _ _ _ (l.drop q) _ (by rw [hlen]) (by rw [hlen]; unfold maxLen; omega) (Or.inr ⟨_, _, rfl, (unhide hLd).drewN _⟩) hbg).mono ?_; rintro e w' ⟨rfl, n1, rfl⟩; dsimp only)
              | (go_at_call 29; refine (RWhole_is _ _ _ (l.drop q) _ (by rw [hlen]) (by rw [hlen]; unfold maxLen; omega) (Or.inr ⟨_, _, rfl, (unhide hLd).drewN _⟩) hwh).mono ?_; rintro e w' ⟨rfl, n2, rfl⟩; dsimp only))
            go_ret
            rw [hkk]
            exact ⟨rfl, _, rfl⟩
        | false =>
          have hkk : leftK j l = leftL l := by rw [unhide HKK, if_neg (fun h => by rw [prop, hbg] at h; cases h.2)]
          go_wp2_with (first
            | (go_at_call 22; refine (Begins_is _ _ _ (l.drop q) _ (by rw [hlen]) (by rw [hlen]; unfold maxLen; omega) (Or.inr ⟨_, _, rfl, (unhide hLd).drewN _⟩) hbg).mono ?_; rintro e w' ⟨rfl, n1, rfl⟩; dsimp only))
          exact ⟨⟨j, _, rfl, by omega, hide hkk, rfl⟩, by simp [intOf]⟩
      · have e1 : decide (((j + 1 : Nat) : Int) > (l.length : Int)) = true := decide_eq_true (by omega)
        have e2 : decide ((l.length : Int) < ((j + 1 : Nat) : Int)) = true := decide_eq_true (by omega)
        have hkk : leftK j l = leftL l := by rw [← unhide HK, leftK, if_neg (fun h => hle h.1)]
        go_wp2_with fail
        exact ⟨⟨j, n, rfl, by omega, hide hkk, rfl⟩, by simp [intOf]⟩

set_option maxHeartbeats 400000 in
theorem Same4_some (g g' c c' m : Nat) (r n : Nat → Int) (b : Nat → Bool) (w : World) (h : ∀ k, k < m → w.cell? ⟨g, k * 3, none⟩ = some (.int .i32 (r k)) ∧ w.cell? ⟨g, k * 3 + 1, none⟩ = some (.int .i64 (n k)) ∧ w.cell? ⟨g, k * 3 + 2, none⟩ = some (.bool (b k)))
    (h' : ∀ k, k < m → w.cell? ⟨g', k * 3, none⟩ = some (.int .i32 (r k)) ∧ w.cell? ⟨g', k * 3 + 1, none⟩ = some (.int .i64 (n k)) ∧ w.cell? ⟨g', k * 3 + 2, none⟩ = some (.bool (b k))) (hm : m ≤ 4194304) :
    Calls Tryd.prog 12 #[.slice (some ⟨g, 0, none⟩) m c, .slice (some ⟨g', 0, none⟩) m c'] w fun e w' => e = .returned (.bool true) ∧ ∃ n, w' = w.drewN n := by
  go_enter Tryd.func12, Tryd.ntmps12
  go_wp2
  go_loopw [5] (fun i wx => ∃ k n : Nat, k ≤ m ∧ i = .int .i64 k ∧ wx = w.drewN n) (fun i _ => m - (intOf i).toNat)
  case atStart => exact ⟨0, 0, Nat.zero_le _, rfl, rfl⟩
  case round =>
    obtain ⟨k, j, hk, rfl, rfl⟩ := hrel
    by_cases hlt : k < m
    · obtain ⟨c1, c2, c3⟩ := h k hlt
      obtain ⟨d1, d2, d3⟩ := h' k hlt
      generalize r k = x at *
      generalize n k = y at *
      generalize b k = z at *
      clear h h'
      go_wp2
      go_quiet (fail)
      go_wp2
      go_roundw
      case rel => exact ⟨k + 1, j + _, by omega, by go_num, by simp [World.drewN]; rfl⟩
      case measure => simp [intOf]; omega
    · go_wp2
      go_ret
      exact ⟨rfl, j, rfl⟩
theorem Same4_none (a b : Option Addr) (c c' : Nat) (w : World) :
    Calls Tryd.prog 12 #[.slice a 0 c, .slice b 0 c'] w fun e w' => e = .returned (.bool true) ∧ ∃ n, w' = w.drewN n := by
  go_enter Tryd.func12, Tryd.ntmps12
  go_wp2
  go_loop [5] (fun i => i = .int .i64 0) (fun _ => 0)
  case atStart => rfl
  case round =>
    subst hrel
    go_wp2
    go_ret
    exact ⟨rfl, 0, rfl⟩
theorem Same4_at (a b : Option Addr) (c c' : Nat) (ts : List Tri) (w : World) (h : TrisAt w a ts) (h' : TrisAt w b ts) (hm : ts.length ≤ 4194304) :
    Calls Tryd.prog 12 #[.slice a ts.length c, .slice b ts.length c'] w fun e w' => e = .returned (.bool true) ∧ ∃ n, w' = w.drewN n := by
  rcases h with rfl | ⟨g, rfl, _, hc⟩
  · exact Same4_none a b c c' w
  · rcases h' with rfl | ⟨g', rfl, _, hc'⟩
    · exact Same4_none _ _ c c' w
    · exact Same4_some g g' c c' ts.length (fun k => (ts.getD k badT).1) (fun k => ((ts.getD k badT).2.1 : Int)) (fun k => (ts.getD k badT).2.2) w hc hc' hm
end Go.Proofs.YtpgipahlhbkjjaaDoor
