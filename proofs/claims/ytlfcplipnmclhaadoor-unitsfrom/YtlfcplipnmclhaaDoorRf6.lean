/- Layer 3: the document's answer: FromExact. -/
import Derived.Test.YtlfcplipnmclhaaDoorRf5
namespace Go.Proofs.YtlfcplipnmclhaaDoor
open Go.ChangeShapes Go.WideShapes Go.ChangeAt Go.RowKit

set_option maxHeartbeats 1000000 in
theorem RFromExact_at (a0 : Option Addr) (cap : Nat) (u : List Int) (w : World) (hU : IsU w a0 cap u) (hl : u.length ≤ 4194304) :
    Calls Tryd.prog 25 #[.slice a0 u.length cap] w fun e w' => answ w' e (exactL u) ∧ Below w.heap.size w w' := by
  have HF : Hid (exactL u = rd (itX u) u.length 0 []) := hide rfl
  have HU := hide hU.2.2
  go_enter Tryd.func25, Tryd.ntmps25
  go_wp2_with fail
  go_loopw [5, 6] (fun v i wx => ∃ (p : Nat) (bs : List Int), p ≤ u.length ∧ i = .int .i64 p ∧ Hid (exactL u = rd (itX u) u.length p bs) ∧ Hid (Own wx w.heap.size v bs) ∧ bs.length ≤ 4 * p ∧ Hid (∀ x ∈ bs, 0 ≤ x ∧ x ≤ 255) ∧ Below w.heap.size w wx) (fun _ i _ => u.length - (intOf i).toNat)
  case atStart => exact ⟨0, [], Nat.zero_le _, rfl, HF, hide (World.ownsRow_nil _ _ _ _), Nat.zero_le _, hide (fun x h => by cases h), Below.refl _ _⟩
  case round =>
    obtain ⟨p, bs, hp, rfl, hf, ho, hlr, hin, hb⟩ := hrel
    clear HF
    have hsz := hb.size
    by_cases hlt : p < u.length
    · obtain ⟨gu, ou, rfl, hL, hgu⟩ := hU.lies (by omega)
      have hLx := hL.below hb hgu
      have hc := (hLx p hlt).1
      have hfl := fstU_le (u.drop p)
      rw [List.length_drop] at hfl
      have hru : (fstU (u.drop p)).2 ≠ 0 → isRune (fstU (u.drop p)).1 = true := fstU_rune (fun x hx => unhide HU x (List.mem_of_mem_drop hx))
      have HRU := hide hru
      have HI : Hid (itX u p = if (fstU (u.drop p)).2 = 0 then (if isBu (u.getD p 0) then (if jn (u.drop p) then .bad 31 else .ok [ubyt (u.getD p 0)] 0) else .bad 30) else .ok (enc (fstU (u.drop p)).1) ((fstU (u.drop p)).2 - 1)) := hide rfl
      have HLO := hide (lone_at gu ou cap p u wr hlt hl hLx)
      have HAT := hide (uat_at gu ou cap p u wr hlt hl hLx)
      have HJN := hide (Rjoins_at gu ou cap p u wr hlt hl hLx)
      unfold fstV at HAT
      clear hru hL hLx
      generalize (fstU (u.drop p)).1 = r at *
      generalize (fstU (u.drop p)).2 = n at *
      generalize jn (u.drop p) = j at *
      generalize u.getD p 0 = x at *
      by_cases h0 : n = 0
      · have HI2 : Hid (itX u p = _) := hide ((unhide HI).trans (if_pos h0))
        rw [decide_eq_true h0] at HLO
        cases hx : isBu x with
        | false =>
          have hres := unhide hf
          rw [rd_bad hlt ((unhide HI2).trans (if_neg (by simp [hx])))] at hres
          have HRES := hide hres
          clear hres h0
          go_wp2_with (first | (go_at_call 38; refine (unhide HLO).mono ?_; rintro e wr ⟨rfl, rfl⟩) | (go_at_call 44; refine (RByte_any _ _).mono ?_; rintro e wr ⟨rfl, rfl⟩))
          go_ret3
          rw [unhide HRES]
          exact ⟨⟨none, 0, rfl, isB_none _⟩, hb⟩
        | true =>
          have HI3 : Hid (itX u p = _) := hide ((unhide HI2).trans (if_pos hx))
          have hx2 : 56448 ≤ x ∧ x ≤ 56575 := of_decide_eq_true hx
          obtain ⟨x1, x2⟩ := hx2
          cases j with
          | true =>
            have hres := unhide hf
            rw [rd_bad hlt ((unhide HI3).trans (if_pos rfl))] at hres
            have HRES := hide hres
            clear hres h0
            go_wp2_with (first
              | (go_at_call 38; refine (unhide HLO).mono ?_; rintro e wr ⟨rfl, rfl⟩)
              | (go_at_call 44; refine (RByte_any _ _).mono ?_; rintro e wr ⟨rfl, rfl⟩)
              | (go_at_call 45; refine (unhide HJN).mono ?_; rintro e w5 ⟨rfl, b5⟩))
            go_ret3
            rw [unhide HRES]
            exact ⟨⟨none, 0, rfl, isB_none _⟩, hb.trans (b5.mono hsz)⟩
          | false =>
            have hres := unhide hf
            rw [rd_ok hlt ((unhide HI3).trans (if_neg (by simp)))] at hres
            have HRES := hide hres
            clear hres h0
            go_wp2_with (first
              | (go_at_call 38; refine (unhide HLO).mono ?_; rintro e wr ⟨rfl, rfl⟩)
              | (go_at_call 44; refine (RByte_any _ _).mono ?_; rintro e wr ⟨rfl, rfl⟩)
              | (go_at_call 45; refine (unhide HJN).mono ?_; rintro e w5 ⟨rfl, b5⟩
                 have hc5 : w5.cell? ⟨gu, ou + p, none⟩ = some (.int .u16 x) := (b5.cell (p := ⟨gu, ou + p, none⟩) (Nat.lt_of_lt_of_le hgu hsz)).trans hc
                 obtain ⟨v6, w6, r6, o6, b6⟩ := (Own.below (unhide ho) b5).push1 (x - 56320) (by omega) (Nat.le_trans hsz b5.size); have R6 := hide r6; clear r6)
              | (at_builtin; refine wpList_append_known rfl _ _ 30 30 rfl _ _ rfl rfl _ _ (unhide R6) ?_))
            go_roundw
            case rel => exact ⟨p + 1, bs ++ [ubyt x], by omega, by go_num, HRES, hide o6, by simp; omega, hide (fun y hy => by rcases List.mem_append.1 hy with h | h; exact unhide hin y h; rw [List.mem_singleton] at h; rw [h]; unfold ubyt; omega), (hb.trans (b5.mono hsz)).trans b6⟩
            case measure => simp [intOf]; omega
      · have hres := unhide hf
        rw [rd_ok hlt ((unhide HI).trans (if_neg h0)), show p + (n - 1 + 1) = p + n by omega] at hres
        have HRES := hide hres
        rw [decide_eq_false h0] at HLO
        have HAT' := hide (unhide HAT h0)
        have hr1 : isRune r = true := unhide HRU h0
        have hr2 : 0 ≤ r ∧ r < 55296 ∨ 57343 < r ∧ r ≤ 1114111 := of_decide_eq_true hr1
        have hel := enc_len r
        clear hres HAT HRU hr1
        go_wp2_with (go_at_call 38; refine (unhide HLO).mono ?_; rintro e wr ⟨rfl, rfl⟩)
        refine (unhide HAT').mono ?_
        rintro e w3 ⟨rfl, k3, rfl⟩
        go_wp2_with fail
        refine (RBytes_fresh r (wr.drewN k3) (by omega) (by omega)).mono ?_
        rintro e w4 ⟨g4, rfl, l4, b4⟩
        have o4 := Own.below (w := wr.drewN k3) (unhide ho) b4
        have y4 := bchain (Nat.le_refl _) (Below.drewN hb k3) b4
        obtain ⟨v5, w5, r5, o5, b5⟩ := push_more w4 w.heap.size _ bs (enc r) g4 (enc r).length 30 o4 l4 (by omega) hel.1 hel.2 y4.size
        have R5 := hide r5
        clear r5 o4 l4
        generalize hle : (enc r).length = m at *
        have HLE := hide hle
        clear hle
        go_wp2_with (at_builtin; refine wpList_append_known rfl _ _ 30 30 rfl _ _ rfl rfl _ _ (unhide R5) ?_)
        go_roundw
        case rel => exact ⟨p + n, bs ++ enc r, by omega, by go_num, HRES, hide o5, by rw [List.length_append, unhide HLE]; omega, hide (fun y hy => by rcases List.mem_append.1 hy with h | h; exact unhide hin y h; exact enc_bytes r y h), y4.trans b5⟩
        case measure => simp [intOf]; omega
    · obtain rfl : p = u.length := by omega
      have hres := unhide hf
      rw [rd_end hlt] at hres
      have HRES := hide hres
      obtain ⟨a5, c5, e5, i5⟩ := (unhide ho).isB (unhide hin) (by omega)
      subst e5
      have I5 := hide i5
      clear hres hf ho i5
      go_wp2
      go_ret3
      rw [unhide HRES]
      exact ⟨⟨_, _, rfl, unhide I5⟩, hb⟩

end Go.Proofs.YtlfcplipnmclhaaDoor
