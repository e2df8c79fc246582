/- Layer 3: galleylaw03.copied, and the document's answer: pair, lone, at, From. -/
import Derived.Test.YtlfcplipnmclhaaDoorToW
import Derived.Test.YtlfcplipnmclhaaDoorRefB
import Derived.Test.YtlfcplipnmclhaaDoorRef
namespace Go.Proofs.YtlfcplipnmclhaaDoor
open Go.ChangeShapes Go.WideShapes Go.ChangeAt Go.RowKit

theorem run_copyU (w : World) (a0 : Option Addr) (cap : Nat) (l : List Int) (ty : TypeId) (hU : IsU w a0 cap l) (hl : l.length ≤ 8388608) :
    ∃ a' cap' w', (Builtin.append_ #[31, 31] ty #[.slice (some ⟨w.heap.size, 0, none⟩) 0 0, .slice a0 l.length cap]).run Tryd.prog (w.alloc (.cells #[] 22)) = .ok (.slice a' l.length cap') w' ∧
      IsU w' a' cap' l ∧ OwnU w' w.heap.size (.slice a' l.length cap') l ∧ Below w.heap.size w w' := by
  obtain ⟨i, hi, hz, hs, hby⟩ := info_u16
  have hb0 : Below w.heap.size w (w.alloc (.cells #[] 22)) := (Below.refl _ _).alloc (Nat.le_refl _) _
  have hown : (w.alloc (.cells #[] 22)).ownsRow w.heap.size 22 1 (.slice (some ⟨w.heap.size, 0, none⟩) 0 0) 0 [] := World.ownsRow_made w #[] 0 (Nat.le_refl _) (Nat.zero_le _) rfl
  have hU1 := hU.below hb0 (Nat.le_refl _)
  rcases Nat.eq_zero_or_pos l.length with h0 | h0
  · obtain rfl : l = [] := List.length_eq_zero_iff.1 h0
    have hsrc : Src Tryd.prog 1 31 (.slice a0 0 cap) 0 [] (w.alloc (.cells #[] 22)) := by
      cases a0 with
      | none => exact Src.ofNil _ Tryd.underlying31 cap
      | some a => exact Src.ofSlice _ Tryd.underlying31 a 0 cap [] rfl (fun j u h => by simp at h) (fun u h => by cases h)
    refine ⟨some ⟨w.heap.size, 0, none⟩, 0, _, ?_, ⟨Nat.le_refl _, Or.inl rfl, hU.2.2⟩, hown, hb0⟩
    exact run_append_room_src (P := Tryd.prog) (w.alloc (.cells #[] 22)) 31 31 ty 22 i Tryd.underlying31 hi w.heap.size 0 0 0 (.slice a0 0 cap) 0 [] (by rw [hs]; exact hsrc) (Nat.le_refl _) (fun j hj => absurd hj (Nat.not_lt_zero _)) (fun j hj => absurd hj (Nat.not_lt_zero _))
  · obtain ⟨g, off, rfl, hL, _⟩ := hU1.lies h0
    obtain ⟨g', c', w', hr, ho, hg, hat, hlt⟩ := run_append_lies (P := Tryd.prog) (w.alloc (.cells #[] 22)) 31 ty w.heap.size 22 i (.int .u16 0) 1 2 Tryd.underlying31 hi hz hs hby rfl (by decide)
      _ 0 [] hown ⟨g, off, none⟩ l.length cap (l.map (Value.int .u16)) (by simp)
      (fun j u h => by
        have hj : j < l.length := by
          rcases Nat.lt_or_ge j l.length with h' | h'
          · exact h'
          · rw [List.getElem?_eq_none (by simpa using h')] at h; cases h
        rw [Addr.add_lit, (hL j hj).1]
        simp [List.getElem?_eq_getElem hj] at h
        simp [List.getD, List.getElem?_eq_getElem hj, h])
      (fun u hu => by obtain ⟨x, _, rfl⟩ := List.mem_map.1 hu; rfl) h0 (by unfold maxLen; omega) (by omega) (by simp) (w.heap.size + 1) (by simp)
    rw [Nat.zero_add] at hr ho
    have hown' : OwnU w' w.heap.size (.slice (some ⟨g', 0, none⟩) l.length c') l := by unfold OwnU; simpa using ho
    obtain ⟨a1, c1, e1, u1⟩ := hown'.isU hU.2.2
    cases e1
    exact ⟨_, _, w', hr, u1, hown', hb0.grown hg (by simp) (fun k e => by cases e; exact Nat.le_refl _)⟩

theorem copied_at (a0 : Option Addr) (cap : Nat) (u : List Int) (w : World) (hU : IsU w a0 cap u) (hl : u.length ≤ 8388608) :
    Calls Tryd.prog 22 #[.slice a0 u.length cap] w fun e w' => ∃ a c, e = .returned (.slice a u.length c) ∧ IsU w' a c u ∧ Below w.heap.size w w' := by
  obtain ⟨a', c', w', r1, u1, _, b1⟩ := run_copyU w a0 cap u 31 hU hl
  have R1 := hide r1
  clear r1
  go_enter Tryd.func22, Tryd.ntmps22
  go_wp2_with (at_builtin; refine wpList_append_known rfl _ _ 31 31 rfl _ _ rfl rfl _ _ (unhide R1) ?_)
  go_ret
  exact ⟨_, _, rfl, u1, b1⟩

/-- do the units at a place make a pair -/
def pairB (u : List Int) (p : Nat) : Bool := decide (p + 1 < u.length) && (isHi (u.getD p 0) && isLo (u.getD (p + 1) 0))
theorem drop_getD {u : List Int} {p : Nat} (h : p < u.length) : u.drop p = u.getD p 0 :: u.drop (p + 1) := by
  rw [List.drop_eq_getElem_cons h]
  simp [List.getD, List.getElem?_eq_getElem h]
theorem fstU_pair {u : List Int} {p : Nat} (h : pairB u p = true) : fstU (u.drop p) = (joinR (u.getD p 0) (u.getD (p + 1) 0), 2) := by
  simp only [pairB, Bool.and_eq_true, decide_eq_true_eq] at h
  rw [drop_getD (by omega), drop_getD h.1]
  simp only [fstU, h.2.1, h.2.2]
  rfl
theorem fstU_own {u : List Int} {p : Nat} (hp : p < u.length) (h : (isHi (u.getD p 0) || isLo (u.getD p 0)) = false) : fstU (u.drop p) = (u.getD p 0, 1) := by
  rw [drop_getD hp]
  simp only [fstU, h]
  rfl
theorem fstU_lone {u : List Int} {p : Nat} (hp : p < u.length) (h : pairB u p = false) (h2 : (isHi (u.getD p 0) || isLo (u.getD p 0)) = true) : (fstU (u.drop p)).2 = 0 := by
  rw [drop_getD hp]
  by_cases h1 : p + 1 < u.length
  · rw [drop_getD h1]
    have h3 : (isHi (u.getD p 0) && isLo (u.getD (p + 1) 0)) = false := by simpa [pairB, h1] using h
    simp only [fstU, h2, h3]
    rfl
  · rw [List.drop_eq_nil_of_le (by omega)]
    simp only [fstU, h2]
    rfl

set_option maxHeartbeats 400000 in
theorem pair_at (g off cap p : Nat) (u : List Int) (w : World) (hp : p < u.length) (hm : u.length ≤ 4194304) (hL : LiesU w g off u) :
    Calls Tryd.prog 51 #[.slice (some ⟨g, off, none⟩) u.length cap, .int .i64 p] w fun e w' => e = .returned (.bool (pairB u p)) ∧ w' = w := by
  obtain ⟨c0, _, _⟩ := hL p hp
  by_cases h1 : p + 1 < u.length
  · obtain ⟨c1, _, _⟩ := hL (p + 1) h1
    have HV : Hid (pairB u p = (isHi (u.getD p 0) && isLo (u.getD (p + 1) 0))) := hide (by simp [pairB, h1])
    rw [unhide HV]
    generalize u.getD p 0 = x at *
    generalize u.getD (p + 1) 0 = y at *
    clear hL
    go_enter Tryd.func51, Tryd.ntmps51
    cases hx : isHi x with
    | false =>
      go_wp2_with (first | (go_at_call 31; refine (High_any _ _).mono ?_; rintro e w ⟨rfl, rfl⟩) | (go_at_call 32; refine (Low_any _ _).mono ?_; rintro e w ⟨rfl, rfl⟩))
      all_goals go_ret
      all_goals exact ⟨ret_bool (by simp), rfl⟩
    | true =>
      go_wp2_with (first | (go_at_call 31; refine (High_any _ _).mono ?_; rintro e w ⟨rfl, rfl⟩) | (go_at_call 32; refine (Low_any _ _).mono ?_; rintro e w ⟨rfl, rfl⟩))
      all_goals go_ret
      all_goals exact ⟨ret_bool (by simp), rfl⟩
  · have HV : Hid (pairB u p = false) := hide (by simp [pairB, h1])
    rw [unhide HV]
    generalize u.length = n at *
    go_enter Tryd.func51, Tryd.ntmps51
    go_wp2
    go_ret
    exact ⟨rfl, rfl⟩

set_option maxHeartbeats 400000 in
theorem lone_at (g off cap p : Nat) (u : List Int) (w : World) (hp : p < u.length) (hm : u.length ≤ 4194304) (hL : LiesU w g off u) :
    Calls Tryd.prog 38 #[.slice (some ⟨g, off, none⟩) u.length cap, .int .i64 p] w fun e w' => e = .returned (.bool (decide ((fstU (u.drop p)).2 = 0))) ∧ w' = w := by
  have HP := hide (pair_at g off cap p u w hp hm hL)
  obtain ⟨c0, _, _⟩ := hL p hp
  have HV : Hid ((!pairB u p && (isHi (u.getD p 0) || isLo (u.getD p 0))) = decide ((fstU (u.drop p)).2 = 0)) := hide (by
    cases h1 : pairB u p with
    | true => rw [fstU_pair h1]; rfl
    | false =>
      cases h2 : (isHi (u.getD p 0) || isLo (u.getD p 0)) with
      | true => rw [fstU_lone hp h1 h2]; rfl
      | false => rw [fstU_own hp h2]; rfl)
  rw [← unhide HV]
  generalize u.getD p 0 = x at *
  generalize u.length = n at *
  clear HV hL
  cases hq : pairB u p <;> cases hx : isHi x <;> rw [hq] at HP
  all_goals
    go_enter Tryd.func38, Tryd.ntmps38
    go_wp2_with (first | (go_at_call 51; refine (unhide HP).mono ?_; rintro e w ⟨rfl, rfl⟩) | (go_at_call 31; refine (High_any _ _).mono ?_; rintro e w ⟨rfl, rfl⟩) | (go_at_call 32; refine (Low_any _ _).mono ?_; rintro e w ⟨rfl, rfl⟩))
    go_ret
    exact ⟨ret_bool (by simp), rfl⟩

set_option maxHeartbeats 400000 in
theorem uat_at (g off cap p : Nat) (u : List Int) (w : World) (hp : p < u.length) (hm : u.length ≤ 4194304) (hL : LiesU w g off u) (h0 : (fstU (u.drop p)).2 ≠ 0) :
    Calls Tryd.prog 39 #[.slice (some ⟨g, off, none⟩) u.length cap, .int .i64 p] w fun e w' => e = .returned (fstV (u.drop p)) ∧ ∃ n, w' = w.drewN n := by
  have HP := hide (pair_at g off cap p u w hp hm hL)
  obtain ⟨c0, x0, x1⟩ := hL p hp
  cases h1 : pairB u p with
  | true =>
    rw [h1] at HP
    have hl1 : p + 1 < u.length := by simp [pairB] at h1; exact h1.1
    obtain ⟨c1, y0, y1⟩ := hL (p + 1) hl1
    have HV : Hid (fstV (u.drop p) = .tuple #[.int .i32 (joinR (u.getD p 0) (u.getD (p + 1) 0)), .int .i64 2]) := hide (by rw [fstV, fstU_pair h1]; rfl)
    have hj : joinV (u.getD p 0) (u.getD (p + 1) 0) = .tuple #[.int .i32 (joinR (u.getD p 0) (u.getD (p + 1) 0)), .bool true] := by
      simp only [pairB, Bool.and_eq_true] at h1
      rw [joinV, h1.2.1, h1.2.2]
      rfl
    have HJ := hide (fun n => RJoin_any (u.getD p 0) (u.getD (p + 1) 0) (w.drewN n) x0 x1 y0 y1)
    rw [hj] at HJ
    rw [unhide HV]
    clear h0 h1 hj hL HV
    generalize joinR (u.getD p 0) (u.getD (p + 1) 0) = r at *
    generalize u.getD p 0 = x at *
    generalize u.getD (p + 1) 0 = y at *
    generalize u.length = n at *
    go_enter Tryd.func39, Tryd.ntmps39
    go_wp2_with (first | (go_at_call 51; refine (unhide HP).mono ?_; rintro e w ⟨rfl, rfl⟩) | (go_at_call 13; fail))
    go_quiet ((go_at_call 13; exact Calls.quiet_of_same (unhide HJ _)))
    go_wp2
    go_ret2
    exact ⟨rfl, _, rfl⟩
  | false =>
    rw [h1] at HP
    have h2 : (isHi (u.getD p 0) || isLo (u.getD p 0)) = false := by
      cases h2 : (isHi (u.getD p 0) || isLo (u.getD p 0)) with
      | true => exact absurd (fstU_lone hp h1 h2) h0
      | false => rfl
    have HV : Hid (fstV (u.drop p) = .tuple #[.int .i32 (u.getD p 0), .int .i64 1]) := hide (by rw [fstV, fstU_own hp h2]; rfl)
    rw [unhide HV]
    clear h0 h1 hL HV h2
    generalize u.getD p 0 = x at *
    generalize u.length = n at *
    go_enter Tryd.func39, Tryd.ntmps39
    go_wp2_with (go_at_call 51; refine (unhide HP).mono ?_; rintro e w ⟨rfl, rfl⟩)
    go_ret2
    exact ⟨rfl, 0, rfl⟩

end Go.Proofs.YtlfcplipnmclhaaDoor
