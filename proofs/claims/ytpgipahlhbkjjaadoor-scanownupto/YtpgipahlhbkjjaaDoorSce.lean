/- scan.take and Feed: what is told and held is what scanning tells. -/
import Derived.Test.YtpgipahlhbkjjaaDoorScq
import Derived.Test.YtpgipahlhbkjjaaDoorScr
import Derived.Test.YtpgipahlhbkjjaaDoorScs
namespace Go.Proofs.YtpgipahlhbkjjaaDoor
open Go.ChangeShapes Go.WideShapes Go.ChangeAt Go.RowKit

set_option maxHeartbeats 1000000 in
theorem take_at (g : Nat) (h b : List Int) (fed : Int) (a0 : Option Addr) (cap : Nat) (w : World) (hS : Sca w g h fed) (hH : Hel h) (hT : Tab w) (hB : IsB w a0 cap b) (hblk : ∀ a, a0 = some a → a.block < w.heap.size ∧ a.block ≠ g) (hl : b.length ≤ 4193000) :
    Calls Tryd.prog 18 #[.pointer (some ⟨g, 0, none⟩), .slice a0 b.length cap] w (TakeR g fed w (scanS h b).1 (scanS h b).2) := by
  have hM : Mem g fed w h b [] a0 cap (.slice none 0 0) w := ⟨hS, Scf.refl _ _ _, RT.nil _ _, hB, hblk, hT, hS.pos hT, by have := hH.len; simp; omega, hS.1⟩
  have HM := hide hM
  have hc := hS.2.2.2.2.2.1
  clear hM hS hT hB hblk
  obtain ⟨T, hT⟩ : ∃ T, T = (scanS h b).1 := ⟨_, rfl⟩
  obtain ⟨H, hHe⟩ : ∃ H, H = (scanS h b).2 := ⟨_, rfl⟩
  have HQ : Hid ([] ++ (scanS h b).1 = T ∧ (scanS h b).2 = H) := hide ⟨hT.symm, hHe.symm⟩
  rw [← hT, ← hHe]
  clear hT hHe
  go_enter Tryd.func18, Tryd.ntmps18
  go_wp2_with fail
  refine wp_scope_labels (J g fed w T H) ?_ (fun l m a w' hJ => ?_)
  · rcases Nat.lt_or_ge h.length 1 with h0 | h1
    · have HA : Hid (AtL 0 h b) := hide (List.length_eq_zero_iff.1 (by omega))
      have e0 : ((h.length : Int) == 0) = true := by rw [beq_iff_eq]; omega
      go_wp2_with fail
      go_step3
      exact ⟨_, h, b, [], _, _, _, ⟨_, _, _, _, _, _, _, _, _, _, _, _, _, _, _, _, _, _, _, _, _, _, _, _, _, _, _, _, _, _, _, _, _, _, _, _, _, _, _, _, _, _, _, _, _, _, _, _, _, _, _, _, _, _, _, _, _, _, _, _, _, _, _, _, _, _, _, _, _, _, _, _, _, _, _, _, _, _, _, rfl⟩, rfl, HM, unhide HA, HQ⟩
    · have hp : prop h = true := by
        rcases hH with rfl | hp
        · simp at h1
        · exact hp
      have e0 : ((h.length : Int) == 0) = false := by rw [beq_eq_false_iff_ne]; omega
      rcases Nat.lt_or_ge h.length 2 with h2 | h2
      · have HA : Hid (AtL 1 h b) := hide ⟨hp, by omega⟩
        have e1 : ((h.length : Int) == 1) = true := by rw [beq_iff_eq]; omega
        go_wp2_with fail
        go_step3
        exact ⟨_, h, b, [], _, _, _, ⟨_, _, _, _, _, _, _, _, _, _, _, _, _, _, _, _, _, _, _, _, _, _, _, _, _, _, _, _, _, _, _, _, _, _, _, _, _, _, _, _, _, _, _, _, _, _, _, _, _, _, _, _, _, _, _, _, _, _, _, _, _, _, _, _, _, _, _, _, _, _, _, _, _, _, _, _, _, _, _, rfl⟩, rfl, HM, unhide HA, HQ⟩
      · have HA : Hid (AtL 2 h b) := hide ⟨hp, by omega⟩
        have e1 : ((h.length : Int) == 1) = false := by rw [beq_eq_false_iff_ne]; omega
        go_wp2_with fail
        go_step3
        exact ⟨_, h, b, [], _, _, _, ⟨_, _, _, _, _, _, _, _, _, _, _, _, _, _, _, _, _, _, _, _, _, _, _, _, _, _, _, _, _, _, _, _, _, _, _, _, _, _, _, _, _, _, _, _, _, _, _, _, _, _, _, _, _, _, _, _, _, _, _, _, _, _, _, _, _, _, _, _, _, _, _, _, _, _, _, _, _, _, _, rfl⟩, rfl, HM, unhide HA, HQ⟩
  · match l, hJ with
    | 0, hJ => exact pass_first g fed w T H m a w' hJ
    | 1, hJ => exact pass_second g fed w T H m a w' hJ
    | 2, hJ => exact pass_further g fed w T H m a w' hJ
    | 3, hJ => exact pass_last g fed w T H m a w' hJ
    | 4, hJ => exact pass_fitting g fed w T H m a w' hJ
    | 5, hJ => exact pass_broken g fed w T H m a w' hJ
    | l + 6, hJ =>
      obtain ⟨_, _, _, _, _, _, _, _, _, hA, _⟩ := hJ
      exact hA.elim

set_option maxHeartbeats 1000000 in
/-- Feed: what is told, what is held, how much was fed -/
theorem Feed_at (g : Nat) (h b : List Int) (fed : Int) (a0 : Option Addr) (cap : Nat) (w : World) (hS : Sca w g h fed) (hH : Hel h) (hT : Tab w) (hB : IsB w a0 cap b) (hblk : ∀ a, a0 = some a → a.block < w.heap.size ∧ a.block ≠ g) (hl : b.length ≤ 4193000) (hf0 : 0 ≤ fed) (hf1 : fed ≤ 4611686018427387904) :
    Calls Tryd.prog 10 #[.pointer (some ⟨g, 0, none⟩), .slice a0 b.length cap] w fun e w' =>
      ∃ v, e = .returned v ∧ RT w.heap.size v (scanS h b).1 w' ∧ Sca w' g (scanS h b).2 (fed + (b.length : Int)) ∧ Scf w.heap.size g w w' := by
  have hcf := hS.2.2.2.2.2.2
  have hzf := hS.2.2.2.1 4 (by omega)
  have HS := hide hS
  have hgp := hS.pos hT
  have HB := hide hB
  have HT := hide hT
  clear hS hB hT
  go_enter Tryd.func10, Tryd.ntmps10
  go_wp2_with fail
  have f1 : Scf w.heap.size g w (w.setCell ⟨g, 4, none⟩ (.int .i64 (fed + (b.length : Int)))) := (Scf.refl _ g w).set _ _
  have hz1 : (w.setCell ⟨g, 4, none⟩ (.int .i64 (fed + (b.length : Int)))).heap.size = w.heap.size := size_set _ _ _
  refine (take_at g h b (fed + (b.length : Int)) a0 cap _ ((unhide HS).feed _) hH ((unhide HT).scf f1 (unhide HT).size hgp) ((unhide HB).scf f1 hblk) (fun a ha => by rw [hz1]; exact hblk a ha) hl).mono ?_
  rintro e w1 ⟨v, rfl, r1, s1, f2⟩
  rw [hz1] at r1 f2
  dsimp only
  go_wp2_with fail
  go_ret
  exact ⟨v, rfl, r1, s1, f1.trans f2⟩
end Go.Proofs.YtpgipahlhbkjjaaDoor
