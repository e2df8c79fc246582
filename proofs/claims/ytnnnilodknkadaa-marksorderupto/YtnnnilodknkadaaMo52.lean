/- Layer 15: MarksOrder's walk, second form (written by wip/tools/mlb.py). -/
import Derived.Test.YtnnnilodknkadaaMo51
import Derived.Deep.QuietTactic
import Derived.BigQuiet
import Derived.WalkSmall

namespace Go.Proofs.Ytnnnilodknkadaa
open Go.ChangeShapes Go.WideShapes Go.ChangeAt Go.RowKit
attribute [local go_sem] Oper.semAt_some

/-- a delta that only keeps -/
def stD (n : Nat) : List Dop := if n = 0 then [] else [⟨1, n, []⟩]
theorem stD_all {n : Nat} (hn : n ≤ 268435456) : valB (stD n) = true ∧ frD (stD n) = n ∧ toD (stD n) = n ∧ (runL (stD n)).2 = [] := by
  unfold stD
  by_cases h : n = 0
  · subst h; decide
  · rw [if_neg h]
    have hf : frD [(⟨1, (n : Int), []⟩ : Dop)] = n := by simp [frD, frN]
    have ht : toD [(⟨1, (n : Int), []⟩ : Dop)] = n := by simp [toD, toN]
    refine ⟨?_, hf, ht, rfl⟩
    unfold valB lonB
    rw [hf, ht]
    have h1 : decide (268435456 < n ∨ 268435456 < n) = false := decide_eq_false (by omega)
    have h2 : decide ((1 : Int) ≤ (n : Int)) = true := decide_eq_true (by omega)
    have h3 : plB ⟨1, (n : Int), []⟩ = true := by unfold plB; simp; omega
    have h4 : apL 7 [(⟨1, (n : Int), []⟩ : Dop)] = true := rfl
    rw [h1, h4]
    simp [h3]
theorem stD_pl {n : Nat} (hn : n ≤ 268435456) {m : Mk} (h : (0 ≤ m.p ∧ m.p ≤ (n : Int)) ∧ (m.g = 1 ∨ m.g = 2)) : mvM (stD n) m = m := by
  obtain ⟨hv, hf, _, hr⟩ := stD_all hn
  have := (pl_zero hv (p := m.p) (g := m.g) (by rw [hf]; exact h.1) h.2).2
  rw [hr] at this
  unfold mvM
  rw [this]
  simp [mvC]
theorem stD_mov {n : Nat} (hn : n ≤ 268435456) {S : List Mk} (h : InP (n : Int) S) : S.map (mvM (stD n)) = S := by
  have e : S.map (mvM (stD n)) = S.map id := List.map_congr_left fun m hm => stD_pl hn (h m hm)
  rw [e, List.map_id]
/-- the order that a delta keeps -/
theorem ord_same {d : List Dop} (hv : valB d = true) {a b : Mk} (ha : (0 ≤ a.p ∧ a.p ≤ frD d) ∧ (a.g = 1 ∨ a.g = 2)) (hb : (0 ≤ b.p ∧ b.p ≤ frD d) ∧ (b.g = 1 ∨ b.g = 2)) :
    (a.g = b.g → a.p ≤ b.p → plV d a.p a.g ≤ plV d b.p b.g) ∧ (a.p = b.p → a.g = 1 → b.g = 2 → plV d a.p a.g ≤ plV d b.p b.g) := by
  obtain ⟨hG, _, _⟩ := to_ch hv
  rw [(pl_zero hv ha.1 ha.2).2, (pl_zero hv hb.1 hb.2).2]
  refine ⟨fun hg hp => ?_, fun hp h1 h2 => ?_⟩
  · rw [hg]; exact mv_mono _ _ (-1) _ _ 0 hG (by omega) hp
  · rw [hp, h1, h2]; exact mv_lr _ _ _
theorem get_mv {S L D : List Mk} {d : List Dop} (hr : Rel L D) (hp : S.Perm L) {m : Mk} (hm : m ∈ D) : getM m.n (S.map (mvM d)) = some (mvM d m) := by
  have hu : Unl (S.map (mvM d)) := by
    unfold Unl
    have e : (S.map (mvM d)).map (·.n) = S.map (·.n) := by simp [List.map_map, Function.comp_def, mvM_n]
    rw [e]
    exact hr.u.perm (hr.p.trans hp.symm)
  exact getM_is hu (List.mem_map.2 ⟨m, (hp.mem_iff.2 (hr.p.mem_iff.1 hm)), rfl⟩) rfl
/-- a literal of one operation that keeps -/
theorem lit_keep (X : World) (n : Nat) : IsO (X.alloc (.cells #[.int .i64 1, .int .i64 (n : Int), .string ⟨#[]⟩] 63)) (some ⟨X.heap.size, 0, none⟩) [⟨1, (n : Int), []⟩] := lit_isOM X [⟨1, (n : Int), []⟩] _ rfl
theorem mem_getD {D : List Mk} {i : Nat} (h : i < D.length) : D.getD i mkZ ∈ D := by
  rw [List.getD_eq_getElem?_getD, List.getElem?_eq_getElem h]; exact List.getElem_mem h
end Go.Proofs.Ytnnnilodknkadaa
