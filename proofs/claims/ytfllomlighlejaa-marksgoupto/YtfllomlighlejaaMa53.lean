/- Layer 15: MarksOrder's walk, second form (written by wip/tools/mlb.py). · Layer 15: the document's Lens, of any list; facts for MarksGo. -/
import Derived.Test.YtfllomlighlejaaMa52
import Derived.Deep.QuietTactic
import Derived.BigQuiet
import Derived.WalkSmall

section
namespace Go.Proofs.Ytfllomlighlejaa
open Go.ChangeShapes Go.WideShapes Go.ChangeAt Go.RowKit
attribute [local go_sem] Oper.semAt_some

/-- a delta that only keeps -/
def stD (n : Nat) : List Dop := if n = 0 then [] else [⟨1, n, []⟩]
theorem stD_all {n : Nat} (hn : n ≤ 268435456) : valB (stD n) = true ∧ frD (stD n) = n ∧ toD (stD n) = n ∧ (runL (stD n)).2 = [] := by
  unfold stD
  by_cases h : n = 0
  · subst h; decide
  · rw [if_neg h]
    have hf : frD [(⟨1, (n : Int), []⟩ : Dop)] = n := by simp [frD, frN]
    have ht : toD [(⟨1, (n : Int), []⟩ : Dop)] = n := by simp [toD, toN]
    refine ⟨?_, hf, ht, rfl⟩
    unfold valB lonB
    rw [hf, ht]
    have h1 : decide (268435456 < n ∨ 268435456 < n) = false := decide_eq_false (by omega)
    have h2 : decide ((1 : Int) ≤ (n : Int)) = true := decide_eq_true (by omega)
    have h3 : plB ⟨1, (n : Int), []⟩ = true := by unfold plB; simp; omega
    have h4 : apL 7 [(⟨1, (n : Int), []⟩ : Dop)] = true := rfl
    rw [h1, h4]
    simp [h3]
theorem stD_pl {n : Nat} (hn : n ≤ 268435456) {m : Mk} (h : (0 ≤ m.p ∧ m.p ≤ (n : Int)) ∧ (m.g = 1 ∨ m.g = 2)) : mvM (stD n) m = m := by
  obtain ⟨hv, hf, _, hr⟩ := stD_all hn
  have := (pl_zero hv (p := m.p) (g := m.g) (by rw [hf]; exact h.1) h.2).2
  rw [hr] at this
  unfold mvM
  rw [this]
  simp [mvC]
theorem stD_mov {n : Nat} (hn : n ≤ 268435456) {S : List Mk} (h : InP (n : Int) S) : S.map (mvM (stD n)) = S := by
  have e : S.map (mvM (stD n)) = S.map id := List.map_congr_left fun m hm => stD_pl hn (h m hm)
  rw [e, List.map_id]
/-- the order that a delta keeps -/
theorem ord_same {d : List Dop} (hv : valB d = true) {a b : Mk} (ha : (0 ≤ a.p ∧ a.p ≤ frD d) ∧ (a.g = 1 ∨ a.g = 2)) (hb : (0 ≤ b.p ∧ b.p ≤ frD d) ∧ (b.g = 1 ∨ b.g = 2)) :
    (a.g = b.g → a.p ≤ b.p → plV d a.p a.g ≤ plV d b.p b.g) ∧ (a.p = b.p → a.g = 1 → b.g = 2 → plV d a.p a.g ≤ plV d b.p b.g) := by
  obtain ⟨hG, _, _⟩ := to_ch hv
  rw [(pl_zero hv ha.1 ha.2).2, (pl_zero hv hb.1 hb.2).2]
  refine ⟨fun hg hp => ?_, fun hp h1 h2 => ?_⟩
  · rw [hg]; exact mv_mono _ _ (-1) _ _ 0 hG (by omega) hp
  · rw [hp, h1, h2]; exact mv_lr _ _ _
theorem get_mv {S L D : List Mk} {d : List Dop} (hr : Rel L D) (hp : S.Perm L) {m : Mk} (hm : m ∈ D) : getM m.n (S.map (mvM d)) = some (mvM d m) := by
  have hu : Unl (S.map (mvM d)) := by
    unfold Unl
    have e : (S.map (mvM d)).map (·.n) = S.map (·.n) := by simp [List.map_map, Function.comp_def, mvM_n]
    rw [e]
    exact hr.u.perm (hr.p.trans hp.symm)
  exact getM_is hu (List.mem_map.2 ⟨m, (hp.mem_iff.2 (hr.p.mem_iff.1 hm)), rfl⟩) rfl
/-- a literal of one operation that keeps -/
theorem lit_keep (X : World) (n : Nat) : IsO (X.alloc (.cells #[.int .i64 1, .int .i64 (n : Int), .string ⟨#[]⟩] 50)) (some ⟨X.heap.size, 0, none⟩) [⟨1, (n : Int), []⟩] := lit_isOM X [⟨1, (n : Int), []⟩] _ rfl
theorem mem_getD {D : List Mk} {i : Nat} (h : i < D.length) : D.getD i mkZ ∈ D := by
  rw [List.getD_eq_getElem?_getD, List.getElem?_eq_getElem h]; exact List.getElem_mem h
end Go.Proofs.Ytfllomlighlejaa
end

section
namespace Go.Proofs.Ytfllomlighlejaa
open Go.ChangeShapes Go.WideShapes Go.ChangeAt Go.RowKit
attribute [local go_sem] Oper.semAt_some

set_option maxRecDepth 100000 in
set_option maxHeartbeats 4000000 in
theorem lensAny_at (a : Option Addr) (c : Nat) (d : List Dop) (w : World) (h : IsO w a d) (hl : d.length ≤ 4611686018427387904) :
    Calls Try.prog 24 #[.slice a d.length c] w fun y w' => ∃ f t : Int, y = .returned (.tuple #[.int .i64 f, .int .i64 t]) ∧ Below w.heap.size w w' := by
  have HO := hide fun (X : World) (hx : Below w.heap.size w X) => h.below hx (Nat.le_refl _)
  clear h
  go_enter Try.func24, Try.ntmps24
  go_wp2_with fail
  go_loopw [4, 5, 6] (fun v4 v5 v6 wx => (∃ (k : Nat) (f t : Int), v6 = .int .i64 (k : Int) ∧ v4 = .int .i64 f ∧ v5 = .int .i64 t ∧ k ≤ d.length) ∧ Hid (Below w.heap.size w wx)) (fun _ _ v6 _ => d.length - (intOf v6).toNat)
  case atStart => exact ⟨⟨0, 0, 0, rfl, rfl, rfl, Nat.zero_le _⟩, hide (Below.refl _ _)⟩
  case round =>
    obtain ⟨⟨k, f, t, rfl, rfl, rfl, hk⟩, HB⟩ := hrel
    by_cases hlt : k < d.length
    · have t1 : decide ((k : Int) < (d.length : Int)) = true := decide_eq_true (by omega)
      have t1' : (k : Int) < (d.length : Int) := by omega
      obtain ⟨g, off, rfl, hg, c0, c1, c2⟩ := (unhide HO wr (unhide HB)).three hlt
      generalize d.getD k opZ = x at *
      obtain ⟨xk, xn, xt⟩ := x
      dsimp only at c0 c1 c2
      generalize strOfNums xt = st at *
      clear hk
      rcases (by omega : xk = 1 ∨ xk = 3 ∨ (¬ xk = 1 ∧ ¬ xk = 3)) with rfl | rfl | ⟨k1, k3⟩
      · go_wp2_with fail
        go_roundw
        case rel => exact ⟨⟨k + 1, _, _, by go_num, rfl, rfl, hlt⟩, HB⟩
        case measure => simp [intOf]; omega
      · go_wp2_with fail
        go_roundw
        case rel => exact ⟨⟨k + 1, _, _, by go_num, rfl, rfl, hlt⟩, HB⟩
        case measure => simp [intOf]; omega
      · have e1 : (xk == 1) = false := by simpa using k1
        have e3 : (xk == 3) = false := by simpa using k3
        clear k1 k3
        go_wp2_with fail
        go_roundw
        case rel => exact ⟨⟨k + 1, _, _, by go_num, rfl, rfl, hlt⟩, HB⟩
        case measure => simp [intOf]; omega
    · obtain rfl : k = d.length := by omega
      have t1 : decide ((d.length : Int) < (d.length : Int)) = false := decide_eq_false (by omega)
      go_wp2_with fail
      refine bodyPost_ret (results_tmp2 rfl _ _ _) rfl ⟨f, t, rfl, unhide HB⟩
set_option maxRecDepth 100000 in
set_option maxHeartbeats 1000000 in
theorem RLensAny_at (a : Option Addr) (c : Nat) (d : List Dop) (w : World) (h : IsO w a d) (hl : d.length ≤ 4611686018427387904) :
    Calls Try.prog 8 #[.slice a d.length c] w fun y w' => ∃ f t : Int, y = .returned (.tuple #[.int .i64 f, .int .i64 t]) ∧ Below w.heap.size w w' := by
  have HL := hide (lensAny_at a c d w h hl)
  clear h hl
  go_enter Try.func8, Try.ntmps8
  go_wp2_with fail
  refine (unhide HL).mono ?_
  rintro y w1 ⟨f, t, rfl, x1⟩
  dsimp only
  clear HL
  go_wp2_with fail
  refine bodyPost_ret (results_tmp2 rfl _ _ _) rfl ⟨f, t, rfl, x1⟩
/-- two neighbours of a list in order -/
theorem srt_next {D : List Mk} (h : Srt D) {i : Nat} (hi : i + 1 < D.length) : ltM (D.getD i mkZ) (D.getD (i + 1) mkZ) = true := by
  have := (List.pairwise_iff_getElem.1 h) i (i + 1) (by omega) hi (by omega)
  simpa [List.getD, hi, show i < D.length by omega] using this
theorem ltM_tests {a b : Mk} (h : ltM a b = true) : decide (b.p < a.p) = false ∧ (((b.p == a.p) = false) ∨ (b.p = a.p ∧ (Op.bytesLess b.n.toList a.n.toList || b.n.toList == a.n.toList) = false)) := by
  rw [ltM_iff] at h
  rcases h with h | ⟨e, h⟩
  · exact ⟨decide_eq_false (by omega), .inl (by simp; omega)⟩
  · refine ⟨decide_eq_false (by omega), .inr ⟨e.symm, ?_⟩⟩
    have h1 : Op.bytesLess b.n.toList a.n.toList = false := by
      cases hc : Op.bytesLess b.n.toList a.n.toList with
      | false => rfl
      | true => have := bless_trans _ _ _ h hc; rw [bless_irrefl] at this; cases this
    have h2 : (b.n.toList == a.n.toList) = false := by
      cases hc : b.n.toList == a.n.toList with
      | false => rfl
      | true => rw [eq_of_beq hc, bless_irrefl] at h; cases h
    rw [h1, h2]; rfl
end Go.Proofs.Ytfllomlighlejaa
end
