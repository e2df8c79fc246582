/- Layer 6: edges, units and counts in plain functions, as RuleTables asks of them. -/
import Derived.Test.YtnkeohiibninfabDoorRtp
namespace Go.Proofs.YtnkeohiibninfabDoor
open Go.ChangeShapes Go.WideShapes Go.ChangeAt Go.RowKit

theorem uni_ulen {r : Int} (h : isRune r = true) : (uni r).length = (ulen r).toNat := by
  have h' : 0 ≤ r ∧ r < 55296 ∨ 57343 < r ∧ r ≤ 1114111 := of_decide_eq_true h
  unfold uni ulen two
  rw [if_pos h]
  by_cases h2 : r < 65536
  · rw [if_pos h2, if_neg (by simp; omega)]; rfl
  · rw [if_neg h2, if_pos (by simp; omega)]; rfl
theorem fold_units {k : List Int} : ∀ (ps : List Nat) (e : Ed), (∀ p ∈ ps, isRune (first (k.drop p)).1 = true) → (ps.foldl (nxE k) e).2.2 = e.2.2 + ((ps.map fun p => (first (k.drop p)).1).flatMap uni).length
  | [], e, _ => by simp
  | p :: ps, e, h => by
    rw [List.foldl_cons, fold_units ps _ (fun x hx => h x (List.mem_cons_of_mem _ hx)), List.map_cons, List.flatMap_cons, List.length_append, uni_ulen (h p (List.mem_cons_self ..))]
    unfold nxE
    dsimp only
    omega
theorem toL_units {k : List Int} (hk : ∀ x ∈ k, 0 ≤ x ∧ x ≤ 255) : (stE k (spots k 0)).2.2 = (toL k).length := by
  unfold stE toL
  rw [fold_units _ _ (fun p hp => runesL_all hk _ (List.mem_map.2 ⟨p, hp, rfl⟩))]
  unfold runesL e0
  simp
/-- the i-th edge -/
theorem EE_at {l : List Int} {i : Nat} (h : i < (EE l).length) : (EE l).getD i e0 = stE l ((spots l 0).take i) := by
  rw [EE_len] at h
  unfold EE
  rw [edL_getD _ _ _ (by omega)]
/-- the units ahead of the i-th edge -/
theorem units_at {l : List Int} (hl : ∀ x ∈ l, 0 ≤ x ∧ x ≤ 255) {i : Nat} (h : i < (EE l).length) : (toL (l.take ((EE l).getD i e0).1)).length = ((EE l).getD i e0).2.2 := by
  rw [EE_at h]
  obtain ⟨a1, a2, a3, _⟩ := st_at hl (List.take_prefix i (spots l 0))
  obtain ⟨b1, b2⟩ := spots_take hl a1 _ 0 (Nat.zero_le _) a2
  rw [← toL_units (fun x hx => hl x (List.mem_of_mem_take hx)), b1]
  unfold stE at *
  rw [fold_takeE _ _ b2]
theorem runes_at {l : List Int} (hl : ∀ x ∈ l, 0 ≤ x ∧ x ≤ 255) {i : Nat} (h : i < (EE l).length) : ((EE l).getD i e0).2.1 = i := by
  rw [EE_at h]
  obtain ⟨_, _, a3, _⟩ := st_at hl (List.take_prefix i (spots l 0))
  rw [EE_len] at h
  rw [a3, List.length_take]; omega
theorem inside_at {l : List Int} (hl : ∀ x ∈ l, 0 ≤ x ∧ x ≤ 255) {i : Nat} (h : i < (EE l).length) : inside l ((EE l).getD i e0).1 = false := by
  rw [EE_at h]
  obtain ⟨a1, a2, a3, _⟩ := st_at hl (List.take_prefix i (spots l 0))
  generalize (stE l ((spots l 0).take i)).1 = q at *
  have hq : q ∈ spots l 0 ++ [l.length] := by
    rw [a2]
    by_cases hlt : q < l.length
    · rw [spots_cons hlt]; simp
    · have : q = l.length := by omega
      simp [this]
  rw [← edges_all, edgesTo, List.mem_filter] at hq
  simpa using hq.2
theorem edge_at {l : List Int} (hl : ∀ x ∈ l, 0 ≤ x ∧ x ≤ 255) {i : Nat} (h : i < (EE l).length) : edgeB l (((EE l).getD i e0).1 : Nat) = true := by
  have := EE_le hl h
  rw [edgeB, Int.toNat_natCast, inside_at hl h, decide_eq_true (by omega)]
  rfl
theorem edges_count (l : List Int) : (edgesTo l (l.length + 1)).length = (EE l).length := by rw [edges_all, EE_len]; simp

end Go.Proofs.YtnkeohiibninfabDoor
