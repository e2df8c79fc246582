/- The document's answer of layer 6: Cut. -/
import Derived.Test.YtnkeohiibninfabDoorRr8
namespace Go.Proofs.YtnkeohiibninfabDoor
open Go.ChangeShapes Go.WideShapes Go.ChangeAt Go.RowKit

theorem fdR_pl {r place m : Int} {E : List Ed} (hp : isPl r place E = true) : fdR r place m E = 0 ∨ fdR r place m E = 4 := by
  unfold fdR
  rw [if_pos hp]
  split
  · exact Or.inl rfl
  · exact Or.inr rfl
theorem cu_in {r lo hi m : Int} {l : List Int} (hl : ∀ x ∈ l, 0 ≤ x ∧ x ≤ 255) (hr : isRu r = true) (hm : isRu m = true) (h0 : 0 ≤ lo) (h1 : lo ≤ hi) (h2 : hi ≤ (szE r l : Int)) :
    isPl r lo (EE l) = true ∧ isPl r hi (EE l) = true ∧ cuR r lo hi m (EE l) = (if fdR r hi m (EE l) = 0 then fdR r lo m (EE l) else fdR r hi m (EE l)) := by
  have hE := inc_EE hl r
  have hz : (szE r l : Int) = (byE r ((EE l).getD ((EE l).length - 1) e0) : Int) := by unfold szE; rw [hr, EE_last]; rfl
  refine ⟨(isPl_iff hE).2 ⟨h0, by omega⟩, (isPl_iff hE).2 ⟨by omega, by omega⟩, ?_⟩
  unfold cuR
  rw [hr, hm]
  show (if lo < 0 ∨ hi < lo then 2 else _) = _
  rw [if_neg (by omega)]
theorem cu_out {r lo hi m : Int} {l : List Int} (hl : ∀ x ∈ l, 0 ≤ x ∧ x ≤ 255) (hr : isRu r = true) (hm : isRu m = true) (h : lo < 0 ∨ hi < lo ∨ (szE r l : Int) < hi) : cuR r lo hi m (EE l) = 2 := by
  have hE := inc_EE hl r
  have hz : (szE r l : Int) = (byE r ((EE l).getD ((EE l).length - 1) e0) : Int) := by unfold szE; rw [hr, EE_last]; rfl
  unfold cuR
  rw [hr, hm]
  show (if lo < 0 ∨ hi < lo then 2 else _) = _
  by_cases h1 : lo < 0 ∨ hi < lo
  · rw [if_pos h1]
  · rw [if_neg h1]
    have hp : isPl r hi (EE l) = false := by
      cases hh : isPl r hi (EE l) with
      | false => rfl
      | true => have := (isPl_iff hE).1 hh; omega
    have := fd_no (m := m) hp
    rw [this.1]
    rfl

set_option maxRecDepth 100000 in
set_option maxHeartbeats 4000000 in
theorem RCut_at (a0 : Option Addr) (cap : Nat) (l : List Int) (r lo hi m : Int) (w : World) (hB : IsB w a0 cap l) (hl : l.length ≤ 1048576) :
    Calls Tryd.prog 12 #[.slice a0 l.length cap, .int .i64 r, .int .i64 lo, .int .i64 hi, .int .i64 m] w fun y w' =>
      ∃ a' c', y = .returned (.tuple #[.slice a' (cuL r lo hi m l).length c', .int .i64 (cuR r lo hi m (EE l))]) ∧ IsB w' a' c' (cuL r lo hi m l) ∧ Below w.heap.size w w' := by
  have b0 := Below.refl w.heap.size w
  have k1 := RRuler_at r w
  have k2 := RMode_at m w
  have nil : ∀ (y : Ending) (X : World) (e : Int), cuR r lo hi m (EE l) = e → e ≠ 0 → y = .returned (.tuple #[.slice none 0 0, .int .i64 e]) → Below w.heap.size w X →
      ∃ a' c', y = .returned (.tuple #[.slice a' (cuL r lo hi m l).length c', .int .i64 (cuR r lo hi m (EE l))]) ∧ IsB X a' c' (cuL r lo hi m l) ∧ Below w.heap.size w X := by
    rintro y X e h1 h2 rfl hb
    have hc : cuL r lo hi m l = [] := by unfold cuL; rw [h1, if_neg h2]
    rw [hc, h1]
    exact ⟨none, 0, rfl, ⟨Nat.le_refl _, by simp, Or.inl rfl, by simp⟩, hb⟩
  have NIL := hide nil
  clear nil
  cases hc : isRu r && isRu m with
  | false =>
    have HC : Hid (cuR r lo hi m (EE l) = 3) := hide (by unfold cuR; rw [hc]; rfl)
    go_enter Tryd.func12, Tryd.ntmps12
    go_wp2_with fail
    refine k1.mono ?_
    rintro y w1 ⟨rfl, rfl⟩
    go_wp2_with fail
    refine k2.mono ?_
    rintro y w2 ⟨rfl, rfl⟩
    clear k1 k2
    generalize isRu r = x1 at *
    generalize isRu m = x2 at *
    cases x1 <;> cases x2 <;> first | (exfalso; revert hc; decide) | skip
    all_goals clear hc
    all_goals go_wp2_with fail
    all_goals refine bodyPost_ret (results_tmp2 rfl _ _ _) rfl ?_
    all_goals exact unhide NIL _ _ 3 (unhide HC) (by decide) rfl b0
  | true =>
    obtain ⟨h1, h2⟩ := Bool.and_eq_true_iff.1 hc
    rw [h1] at k1
    rw [h2] at k2
    clear hc
    have hsz := RSize_at a0 cap l r w hB h1 hl
    have HIN := hide (cu_in (lo := lo) (hi := hi) hB.2.2.2 h1 h2)
    have HOUT := hide (cu_out (lo := lo) (hi := hi) hB.2.2.2 h1 h2)
    go_enter Tryd.func12, Tryd.ntmps12
    go_wp2_with fail
    refine k1.mono ?_
    rintro y w1 ⟨rfl, rfl⟩
    go_wp2_with fail
    refine k2.mono ?_
    rintro y w2 ⟨rfl, rfl⟩
    clear k1 k2
    go_wp2_with fail
    refine hsz.mono ?_
    rintro y w3 ⟨rfl, b3⟩
    clear hsz
    generalize hZ : szE r l = Z at *
    clear hZ
    by_cases h3 : lo < 0
    · have q3 : decide (lo < 0) = true := by simpa using h3
      have HC := hide (unhide HOUT (Or.inl h3))
      clear h3
      go_wp2_with fail
      refine bodyPost_ret (results_tmp2 rfl _ _ _) rfl ?_
      exact unhide NIL _ _ 2 (unhide HC) (by decide) rfl b3
    · have q3 : decide (lo < 0) = false := by simpa using h3
      by_cases h4 : hi < lo
      · have q4 : decide (lo > hi) = true := by simpa using h4
        have HC := hide (unhide HOUT (Or.inr (Or.inl h4)))
        clear h3 h4
        go_wp2_with fail
        refine bodyPost_ret (results_tmp2 rfl _ _ _) rfl ?_
        exact unhide NIL _ _ 2 (unhide HC) (by decide) rfl b3
      · have q4 : decide (lo > hi) = false := by simpa using h4
        by_cases h5 : (Z : Int) < hi
        · have q5 : decide (hi > (Z : Int)) = true := by simpa using h5
          have HC := hide (unhide HOUT (Or.inr (Or.inr h5)))
          clear h3 h4 h5
          go_wp2_with fail
          refine bodyPost_ret (results_tmp2 rfl _ _ _) rfl ?_
          exact unhide NIL _ _ 2 (unhide HC) (by decide) rfl b3
        · have q5 : decide (hi > (Z : Int)) = false := by simpa using h5
          obtain ⟨p1, p2, hc1⟩ := unhide HIN (by omega) (by omega) (by omega)
          have f1 := fdR_pl (m := m) p1
          have f2 := fdR_pl (m := m) p2
          have t1 := to_ru h1 ru1 h2 lo (EE l)
          have t2 := to_ru h1 ru1 h2 hi (EE l)
          have hcin := fun a b => cut_in hB.2.2.2 (r := r) (lo := lo) (hi := hi) (m := m) (by omega) a b
          have HCU : Hid (cuR r lo hi m (EE l) = 0 → cuL r lo hi m l = (l.take (fdE r hi m (EE l)).1).drop (fdE r lo m (EE l)).1) := hide (fun h => by unfold cuL; rw [if_pos h])
          have hB3 := hB.below b3 (Nat.le_refl _)
          clear h3 h4 h5 p1 p2 HIN HOUT
          have hto1 := RTo_at a0 cap l r lo 1 m w3 hB3 hl
          rw [t1.1, t1.2] at hto1
          rw [show byE 1 (fdE r lo m (EE l)) = (fdE r lo m (EE l)).1 from rfl] at hto1
          have t21 := t2.1
          have t22 : toP r hi 1 m (EE l) = (fdE r hi m (EE l)).1 := t2.2
          have HT2 := hide (And.intro t21 t22)
          clear t1 t2 t21 t22
          generalize hxe : fdE r lo m (EE l) = xe at *
          generalize hye : fdE r hi m (EE l) = ye at *
          generalize hfl : fdR r lo m (EE l) = fl at *
          generalize hfh : fdR r hi m (EE l) = fh at *
          clear hxe hye hfl hfh
          go_wp2_with fail
          refine hto1.mono ?_
          rintro y w4 ⟨rfl, b4⟩
          have b34 := b3.trans (b4.mono b3.size)
          clear hto1
          rcases f1 with rfl | rfl
          · have hto2 := RTo_at a0 cap l r hi 1 m w4 (hB.below b34 (Nat.le_refl _)) hl
            rw [(unhide HT2).1, (unhide HT2).2] at hto2
            go_wp2_with fail
            refine hto2.mono ?_
            rintro y w5 ⟨rfl, b5⟩
            have b35 := b34.trans (b5.mono b34.size)
            clear hto2
            rcases f2 with rfl | rfl
            · have hcz : cuR r lo hi m (EE l) = 0 := by rw [hc1]; rfl
              obtain ⟨i1, i2⟩ := hcin (by first | rfl | trivial) (by first | rfl | trivial)
              have hLn : ((l.take ye.1).drop xe.1).length = ye.1 - xe.1 := by simp; omega
              have hB5 := hB.below b35 (Nat.le_refl _)
              have HIB := hide ((hB5.takeR (n := ye.1)).loR (n := xe.1))
              have HC := hide (And.intro hcz (unhide HCU hcz))
              have HLN := hide hLn
              have hcap := hB.1
              have hlen := hB.2.1
              clear hc1 hcz hcin hLn hB5 hB hB3 HCU
              by_cases hcx : cap = xe.1
              · have HCL := hide (by have := unhide HIB; rw [if_pos hcx] at this; exact this)
                subst hcx
                clear HIB
                go_wp2_with fail
                refine bodyPost_ret (results_tmp2 rfl _ _ _) rfl ?_
                rw [(unhide HC).1, (unhide HC).2, unhide HLN]
                have hib := unhide HCL
                rw [Nat.sub_self] at hib
                exact ⟨_, _, rfl, hib, b35⟩
              · have HCL := hide (by have := unhide HIB; rw [if_neg hcx] at this; exact this)
                clear HIB
                go_wp2_with fail
                refine bodyPost_ret (results_tmp2 rfl _ _ _) rfl ?_
                rw [(unhide HC).1, (unhide HC).2, unhide HLN]
                exact ⟨_, _, rfl, unhide HCL, b35⟩
            · have HC : Hid (cuR r lo hi m (EE l) = 4) := hide (by rw [hc1]; rfl)
              clear hc1 hcin
              go_wp2_with fail
              refine bodyPost_ret (results_tmp2 rfl _ _ _) rfl ?_
              exact unhide NIL _ _ 4 (unhide HC) (by decide) rfl b35
          · have HC : Hid (cuR r lo hi m (EE l) = 4) := hide (by rw [hc1]; rcases f2 with rfl | rfl <;> rfl)
            clear hc1 hcin f2
            go_wp2_with fail
            refine bodyPost_ret (results_tmp2 rfl _ _ _) rfl ?_
            exact unhide NIL _ _ 4 (unhide HC) (by decide) rfl b34

end Go.Proofs.YtnkeohiibninfabDoor
