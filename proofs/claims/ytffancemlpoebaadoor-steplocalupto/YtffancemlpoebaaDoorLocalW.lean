/- The walk of StepLocal, for arguments under the bound: it answers true wherever the table holds the classes, and changes nothing that was there. -/
import Derived.Test.YtffancemlpoebaaDoorFix
import Derived.Test.YtffancemlpoebaaDoorOwnR
namespace Go.Proofs.YtffancemlpoebaaDoor
open Go.ChangeShapes Go.WideShapes Go.ChangeAt Go.RowKit

theorem lng_append {x c : List Int} (h : 4 ≤ x.length) : lng (x ++ c) = lng x := by
  rw [← lng_take (x ++ c) 4 (Nat.le_refl _), ← lng_take x 4 (Nat.le_refl _), List.take_append_of_le_length h]
theorem lng_within (a b c : List Int) {p k : Nat} (h1 : k ≤ p) (h2 : p + 3 ≤ b.length) (hk : 1 ≤ k) : lng ((a ++ b ++ c).drop (a.length + p - k)) = lng (b.drop (p - k)) := by
  have e : (a ++ b ++ c).drop (a.length + p - k) = b.drop (p - k) ++ c := by
    rw [show a.length + p - k = a.length + (p - k) by omega, List.append_assoc, ← List.drop_drop, List.drop_left, List.drop_append_of_le_length (by omega)]
  rw [e]
  exact lng_append (by simp; omega)
theorem inside_within (a b c : List Int) {p : Nat} (h1 : 3 ≤ p) (h2 : p + 3 ≤ b.length) : inside (a ++ b ++ c) (a.length + p) = inside b p := by
  unfold inside
  rw [lng_within a b c (p := p) (k := 1) (by omega) h2 (by omega), lng_within a b c (p := p) (k := 2) (by omega) h2 (by omega), lng_within a b c (p := p) (k := 3) (by omega) h2 (by omega)]
  simp only [show (1 ≤ a.length + p) = (1 ≤ p) by simp; omega, show (2 ≤ a.length + p) = (2 ≤ p) by simp; omega, show (3 ≤ a.length + p) = (3 ≤ p) by simp; omega]
theorem edge_within (a b c : List Int) {p : Nat} (h1 : 3 ≤ p) (h2 : p + 3 ≤ b.length) : edgeB (a ++ b ++ c) ((a.length : Int) + (p : Int)) = edgeB b (p : Int) := by
  have e1 : decide (0 ≤ (a.length : Int) + (p : Int) ∧ (a.length : Int) + (p : Int) ≤ ((a ++ b ++ c).length : Int)) = true := decide_eq_true (by simp only [List.length_append]; omega)
  have e2 : decide (0 ≤ (p : Int) ∧ (p : Int) ≤ (b.length : Int)) = true := decide_eq_true (by omega)
  rw [edgeB, edgeB, e1, e2, show ((a.length : Int) + (p : Int)).toNat = a.length + p by omega, Int.toNat_natCast, inside_within a b c h1 h2]

theorem own_isB {w : World} {B g n c : Nat} {l : List Int} (h : Own w B (.slice (some ⟨g, 0, none⟩) n c) l) (hl : ∀ x ∈ l, 0 ≤ x ∧ x ≤ 255) (hn : n = l.length) (hc : l.length ≤ 140737488351232) : IsB w (some ⟨g, 0, none⟩) c l := by
  subst hn
  have hle : l.length ≤ c := by
    rcases h.2 with ⟨hv, _⟩ | ⟨g1, cap1, cur, hv, _, _, hc, _⟩
    · cases hv
    · cases hv; exact hc
  exact IsB.of (h.lies hl) hle hc

/-- what came in lies below the block from which on the call's own rows grow -/
theorem IsB.below_own {w1 w2 w3 : World} {a0 : Option Addr} {cap : Nat} {l : List Int} (h : IsB w2 a0 cap l) (hb : Below w1.heap.size w2 w3) (h0 : IsB w1 a0 cap l) : IsB w3 a0 cap l := by
  obtain ⟨h1, h2, h3, h4⟩ := h
  refine ⟨h1, h2, ?_, h4⟩
  rcases h0.2.2.1 with h5 | ⟨g, off, rfl, hL⟩
  · exact Or.inl h5
  · cases l with
    | nil => exact Or.inl rfl
    | cons a r =>
      have hlt := hL.size
      rcases h3 with h3 | ⟨g', off', e, hL'⟩
      · cases h3
      · cases e
        exact Or.inr ⟨g, off, rfl, hL'.below hb hlt⟩

set_option maxHeartbeats 1000000 in
theorem StepLocal_any (a0 : Option Addr) (ca : Nat) (la : List Int) (b0 : Option Addr) (cb : Nat) (lb : List Int) (c0 : Option Addr) (cc : Nat) (lc : List Int) (w : World)
    (hA : IsB w a0 ca la) (qa : ca ≤ 1048576) (hB : IsB w b0 cb lb) (qb : cb ≤ 1048576) (hC : IsB w c0 cc lc) (qc : cc ≤ 1048576) (hT : Tab w) :
    Calls Tryd.prog 8 #[.slice a0 la.length ca, .slice b0 lb.length cb, .slice c0 lc.length cc] w fun e w' => e = .returned (.bool true) ∧ Below w.heap.size w w' := by
  have lA : la.length ≤ 1048576 := Nat.le_trans hA.1 qa
  have lB : lb.length ≤ 1048576 := Nat.le_trans hB.1 qb
  have lC : lc.length ≤ 1048576 := Nat.le_trans hC.1 qc
  go_enter Tryd.func8, Tryd.ntmps8
  go_wp2_with fail
  refine (fixed_any w hT).mono ?_
  rintro e w1 ⟨rfl, x1⟩
  have d1 := (Below.refl w1.heap.size w1).alloc (Nat.le_refl _) (.cells #[] 5)
  have hB0 := hB.below x1 (Nat.le_refl _)
  have hC0 := hC.below x1 (Nat.le_refl _)
  have hA1 := (hA.below x1 (Nat.le_refl _)).below d1 (Nat.le_refl _)
  have hB1 := hB0.below d1 (Nat.le_refl _)
  have hC1 := hC0.below d1 (Nat.le_refl _)
  have hT1 := (hT.below x1 hT.size).alloc (.cells #[] 5)
  have o1 : Own (w1.alloc (.cells #[] 5)) w1.heap.size (.slice (some ⟨w1.heap.size, 0, none⟩) ([] : List Int).length 0) [] := World.ownsRow_made w1 #[] 0 (Nat.le_refl _) (Nat.zero_le _) rfl
  have c1 := x1.trans (d1.mono x1.size)
  have z1 : w1.heap.size ≤ (w1.alloc (.cells #[] 5)).heap.size := by simp
  obtain ⟨g2, e2, w2, r2, o2, x2, _, _⟩ := run_more _ _ _ _ [] la a0 ca 28 o1 hA1 z1 (by simp; omega)
  simp only [List.length_nil, Nat.zero_add, List.nil_append] at r2 o2
  have z2 := Nat.le_trans z1 x2.size
  obtain ⟨g3, e3, w3, r3, o3, x3, _, _⟩ := run_more _ _ _ _ la lb b0 cb 28 o2 (hB1.below_own x2 hB0) z2 (by omega)
  have z3 := Nat.le_trans z2 x3.size
  rw [← List.length_append] at o3
  obtain ⟨g4, e4, w4, r4, o4, x4, _, _⟩ := run_more _ _ _ _ (la ++ lb) lc c0 cc 28 o3 ((hC1.below_own x2 hC0).below_own x3 hC0) z3 (by simp; omega)
  rw [List.length_append] at r4 o4
  have R2 := hide r2
  have R3 := hide r3
  have R4 := hide r4
  clear r2 r3 r4
  go_wp2_with (first
    | (at_builtin; refine wpList_append_known rfl _ _ 28 28 rfl _ _ rfl rfl _ _ (unhide R2) ?_; clear R2)
    | (at_builtin; refine wpList_append_known rfl _ _ 28 28 rfl _ _ rfl rfl _ _ (unhide R3) ?_; clear R3)
    | (at_builtin; refine wpList_append_known rfl _ _ 28 28 rfl _ _ rfl rfl _ _ (unhide R4) ?_; clear R4))
  have hWB : IsB w4 (some ⟨g4, 0, none⟩) e4 (la ++ lb ++ lc) := own_isB o4 (fun x hx => by
    rcases List.mem_append.1 hx with hx | hx
    · rcases List.mem_append.1 hx with hx | hx
      · exact hA.2.2.2 x hx
      · exact hB.2.2.2 x hx
    · exact hC.2.2.2 x hx) (by simp only [List.length_append]) (by simp only [List.length_append]; omega)
  have hB4 : IsB w4 b0 cb lb := ((hB1.below_own x2 hB0).below_own x3 hB0).below_own x4 hB0
  have c4 : Below w.heap.size w w4 := c1.trans ((x2.mono x1.size).trans ((x3.mono x1.size).trans (x4.mono x1.size)))
  have hT4 := hT.below c4 hT.size
  have HL : Hid (∀ wx, IsB wx (some ⟨g4, 0, none⟩) e4 (la ++ lb ++ lc) → Tab wx → ∀ p : Int, Calls Tryd.prog 16 #[.slice (some ⟨g4, 0, none⟩) (la.length + lb.length + lc.length) e4, .int .i64 p] wx fun e w' => e = .returned (.bool (edgeB (la ++ lb ++ lc) p)) ∧ Below wx.heap.size wx w') := hide fun wx h1 h2 p => by
    have := Edge_at (some ⟨g4, 0, none⟩) e4 p (la ++ lb ++ lc) wx h1 h2
    rwa [List.length_append, List.length_append] at this
  clear hA hB hC hT x1 d1 hB0 hC0 hA1 hB1 hC1 hT1 o1 c1 z1 o2 x2 z2 o3 x3 z3 o4 x4
  go_loopw [8] (fun i wx => ∃ k : Nat, 3 ≤ k ∧ k ≤ lb.length + 3 ∧ i = .int .i64 k ∧ IsB wx (some ⟨g4, 0, none⟩) e4 (la ++ lb ++ lc) ∧ IsB wx b0 cb lb ∧ Tab wx ∧ Below w.heap.size w wx) (fun i _ => lb.length + 4 - (intOf i).toNat)
  case atStart => exact ⟨3, by omega, by omega, rfl, hWB, hB4, hT4, c4⟩
  case round =>
    obtain ⟨k, hk3, hkl, rfl, hW, hBx, hTx, hc⟩ := hrel
    clear hWB hB4 c4 hT4
    by_cases hle : k + 3 ≤ lb.length
    · have he := edge_within la lb lc hk3 hle
      have HE := hide he
      clear he
      go_wp2_with fail
      refine (Edge_at b0 cb k lb wr hBx hTx).mono ?_
      rintro e w5 ⟨rfl, x5⟩
      have hW5 := hW.below x5 (Nat.le_refl _)
      have hB5 := hBx.below x5 (Nat.le_refl _)
      have hT5 := hTx.below x5 hTx.size
      have c5 := hc.trans (x5.mono hc.size)
      clear hW hBx hTx hc x5
      go_wp2_with fail
      refine (unhide HL w5 hW5 hT5 _).mono ?_
      rw [unhide HE]
      rintro e w6 ⟨rfl, x6⟩
      have hW6 := hW5.below x6 (Nat.le_refl _)
      have hB6 := hB5.below x6 (Nat.le_refl _)
      have hT6 := hT5.below x6 hT5.size
      have c6 := c5.trans (x6.mono c5.size)
      clear hW5 hB5 hT5 c5 x6
      go_wp2_with fail
      go_roundw
      case rel => exact ⟨k + 1, by omega, by omega, by go_num, hW6, hB6, hT6, c6⟩
      case measure => simp [intOf]; omega
    · go_wp2
      go_ret
      exact ⟨rfl, hc⟩

end Go.Proofs.YtffancemlpoebaaDoor
