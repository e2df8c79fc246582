/- Layer 15: the document's Lens, of any list; facts for MarksGo. -/
import Derived.Test.YtfllomlighlejaaMb45

namespace Go.Proofs.Ytfllomlighlejaa
open Go.ChangeShapes Go.WideShapes Go.ChangeAt Go.RowKit
attribute [local go_sem] Oper.semAt_some

set_option maxRecDepth 100000 in
set_option maxHeartbeats 4000000 in
theorem lensAny_at (a : Option Addr) (c : Nat) (d : List Dop) (w : World) (h : IsO w a d) (hl : d.length ≤ 4611686018427387904) :
    Calls Try.prog 24 #[.slice a d.length c] w fun y w' => ∃ f t : Int, y = .returned (.tuple #[.int .i64 f, .int .i64 t]) ∧ Below w.heap.size w w' := by
  have HO := hide fun (X : World) (hx : Below w.heap.size w X) => h.below hx (Nat.le_refl _)
  clear h
  go_enter Try.func24, Try.ntmps24
  go_wp2_with fail
  go_loopw [4, 5, 6] (fun v4 v5 v6 wx => (∃ (k : Nat) (f t : Int), v6 = .int .i64 (k : Int) ∧ v4 = .int .i64 f ∧ v5 = .int .i64 t ∧ k ≤ d.length) ∧ Hid (Below w.heap.size w wx)) (fun _ _ v6 _ => d.length - (intOf v6).toNat)
  case atStart => exact ⟨⟨0, 0, 0, rfl, rfl, rfl, Nat.zero_le _⟩, hide (Below.refl _ _)⟩
  case round =>
    obtain ⟨⟨k, f, t, rfl, rfl, rfl, hk⟩, HB⟩ := hrel
    by_cases hlt : k < d.length
    · have t1 : decide ((k : Int) < (d.length : Int)) = true := decide_eq_true (by omega)
      have t1' : (k : Int) < (d.length : Int) := by omega
      obtain ⟨g, off, rfl, hg, c0, c1, c2⟩ := (unhide HO wr (unhide HB)).three hlt
      generalize d.getD k opZ = x at *
      obtain ⟨xk, xn, xt⟩ := x
      dsimp only at c0 c1 c2
      generalize strOfNums xt = st at *
      clear hk
      rcases (by omega : xk = 1 ∨ xk = 3 ∨ (¬ xk = 1 ∧ ¬ xk = 3)) with rfl | rfl | ⟨k1, k3⟩
      · go_wp2_with fail
        go_roundw
        case rel => exact ⟨⟨k + 1, _, _, by go_num, rfl, rfl, hlt⟩, HB⟩
        case measure => simp [intOf]; omega
      · go_wp2_with fail
        go_roundw
        case rel => exact ⟨⟨k + 1, _, _, by go_num, rfl, rfl, hlt⟩, HB⟩
        case measure => simp [intOf]; omega
      · have e1 : (xk == 1) = false := by simpa using k1
        have e3 : (xk == 3) = false := by simpa using k3
        clear k1 k3
        go_wp2_with fail
        go_roundw
        case rel => exact ⟨⟨k + 1, _, _, by go_num, rfl, rfl, hlt⟩, HB⟩
        case measure => simp [intOf]; omega
    · obtain rfl : k = d.length := by omega
      have t1 : decide ((d.length : Int) < (d.length : Int)) = false := decide_eq_false (by omega)
      go_wp2_with fail
      refine bodyPost_ret (results_tmp2 rfl _ _ _) rfl ⟨f, t, rfl, unhide HB⟩
set_option maxRecDepth 100000 in
set_option maxHeartbeats 1000000 in
theorem RLensAny_at (a : Option Addr) (c : Nat) (d : List Dop) (w : World) (h : IsO w a d) (hl : d.length ≤ 4611686018427387904) :
    Calls Try.prog 8 #[.slice a d.length c] w fun y w' => ∃ f t : Int, y = .returned (.tuple #[.int .i64 f, .int .i64 t]) ∧ Below w.heap.size w w' := by
  have HL := hide (lensAny_at a c d w h hl)
  clear h hl
  go_enter Try.func8, Try.ntmps8
  go_wp2_with fail
  refine (unhide HL).mono ?_
  rintro y w1 ⟨f, t, rfl, x1⟩
  dsimp only
  clear HL
  go_wp2_with fail
  refine bodyPost_ret (results_tmp2 rfl _ _ _) rfl ⟨f, t, rfl, x1⟩
/-- two neighbours of a list in order -/
theorem srt_next {D : List Mk} (h : Srt D) {i : Nat} (hi : i + 1 < D.length) : ltM (D.getD i mkZ) (D.getD (i + 1) mkZ) = true := by
  have := (List.pairwise_iff_getElem.1 h) i (i + 1) (by omega) hi (by omega)
  simpa [List.getD, hi, show i < D.length by omega] using this
theorem ltM_tests {a b : Mk} (h : ltM a b = true) : decide (b.p < a.p) = false ∧ (((b.p == a.p) = false) ∨ (b.p = a.p ∧ (Op.bytesLess b.n.toList a.n.toList || b.n.toList == a.n.toList) = false)) := by
  rw [ltM_iff] at h
  rcases h with h | ⟨e, h⟩
  · exact ⟨decide_eq_false (by omega), .inl (by simp; omega)⟩
  · refine ⟨decide_eq_false (by omega), .inr ⟨e.symm, ?_⟩⟩
    have h1 : Op.bytesLess b.n.toList a.n.toList = false := by
      cases hc : Op.bytesLess b.n.toList a.n.toList with
      | false => rfl
      | true => have := bless_trans _ _ _ h hc; rw [bless_irrefl] at this; cases this
    have h2 : (b.n.toList == a.n.toList) = false := by
      cases hc : b.n.toList == a.n.toList with
      | false => rfl
      | true => rw [eq_of_beq hc, bless_irrefl] at h; cases h
    rw [h1, h2]; rfl
end Go.Proofs.Ytfllomlighlejaa
