/- Places between edges, as plain functions: the edge that a place is or goes to. -/
import Derived.Test.YteamaneompijkaaGreatDoorSo07
namespace Go.Proofs.YteamaneompijkaaGreatDoor
set_option maxRecDepth 100000
set_option maxHeartbeats 8000000
def ixE (r place : Int) (E : List Ed) : Nat := E.findIdx (fun e => decide (place ≤ (byE r e : Int)))
def upE (r place : Int) (E : List Ed) : Ed := E.getD (ixE r place E) e0
def dnI (r place : Int) (E : List Ed) : Nat := if (byE r (upE r place E) : Int) = place then ixE r place E else ixE r place E - 1
def dnE (r place : Int) (E : List Ed) : Ed := E.getD (dnI r place E) e0
def isPl (r place : Int) (E : List Ed) : Bool := decide (0 ≤ place ∧ ixE r place E < E.length)
def selI (r place m : Int) (E : List Ed) : Nat := if m = 2 then ixE r place E else dnI r place E
def fdR (r place m : Int) (E : List Ed) : Int := if isPl r place E then (if (byE r (upE r place E) : Int) = place ∨ m = 1 ∨ m = 2 then 0 else 4) else 2
def fdE (r place m : Int) (E : List Ed) : Ed := if fdR r place m E = 0 then E.getD (selI r place m E) e0 else e0
def Inc (r : Int) (E : List Ed) : Prop := E.getD 0 e0 = e0 ∧ 0 < E.length ∧ ∀ i j, i < j → j < E.length → byE r (E.getD i e0) < byE r (E.getD j e0)
theorem edL_getD (l : List Int) (ps : List Nat) (i : Nat) (h : i ≤ ps.length) : (edL l ps).getD i e0 = stE l (ps.take i) := by
  rw [List.getD, edL_get l ps i h]; rfl
theorem inc_EE {l : List Int} (hl : ∀ x ∈ l, 0 ≤ x ∧ x ≤ 255) (r : Int) : Inc r (EE l) := by
  refine ⟨by unfold EE; rw [edL_getD _ _ _ (Nat.zero_le _)]; rfl, by rw [EE_len]; omega, ?_⟩
  have one : ∀ i, i + 1 < (EE l).length → byE r ((EE l).getD i e0) < byE r ((EE l).getD (i + 1) e0) := by
    intro i hi
    rw [EE_len] at hi
    unfold EE
    rw [edL_getD _ _ _ (by omega), edL_getD _ _ _ (by omega)]
    have ht : (spots l 0).take (i + 1) = (spots l 0).take i ++ [(spots l 0).getD i 0] := by
      rw [List.take_add_one, List.getElem?_eq_getElem (by omega), List.getD, List.getElem?_eq_getElem (by omega)]; rfl
    have hp : (spots l 0).take i ++ [(spots l 0).getD i 0] <+: spots l 0 := by rw [← ht]; exact List.take_prefix _ _
    rw [ht, stE_snoc]
    exact by_next hl r _ (st_next hl hp).2
  intro i j hij
  induction j with
  | zero => omega
  | succ j ih =>
    intro hj
    rcases Nat.lt_or_ge i j with h | h
    · exact Nat.lt_trans (ih h (by omega)) (one j hj)
    · obtain rfl : i = j := by omega
      exact one i hj
theorem Inc.le {r : Int} {E : List Ed} (h : Inc r E) {i j : Nat} (hij : i ≤ j) (hj : j < E.length) : byE r (E.getD i e0) ≤ byE r (E.getD j e0) := by
  rcases Nat.lt_or_ge i j with h1 | h1
  · exact Nat.le_of_lt (h.2.2 i j h1 hj)
  · obtain rfl : i = j := by omega
    exact Nat.le_refl _
theorem ix_lt {r place : Int} {E : List Ed} {j : Nat} (h : j < ixE r place E) : (byE r (E.getD j e0) : Int) < place := by
  have hl : j < E.length := Nat.lt_of_lt_of_le h List.findIdx_le_length
  have := List.not_of_lt_findIdx h
  rw [List.getD, List.getElem?_eq_getElem hl]
  simpa using this
theorem ix_ge {r place : Int} {E : List Ed} (h : ixE r place E < E.length) : place ≤ (byE r (upE r place E) : Int) := by
  have h2 := of_decide_eq_true (List.findIdx_getElem (xs := E) (p := fun e => decide (place ≤ (byE r e : Int))) (w := h))
  unfold upE
  rw [List.getD, List.getElem?_eq_getElem h]
  exact h2
theorem ix_is {r place : Int} {E : List Ed} {k : Nat} (hk : k ≤ E.length) (h1 : ∀ j, j < k → (byE r (E.getD j e0) : Int) < place) (h2 : k < E.length → place ≤ (byE r (E.getD k e0) : Int)) : ixE r place E = k := by
  rcases Nat.lt_trichotomy (ixE r place E) k with h | h | h
  · have a := ix_ge (r := r) (place := place) (E := E) (by omega)
    have b := h1 _ h
    unfold upE at a
    omega
  · exact h
  · have hl : k < E.length := Nat.lt_of_lt_of_le h List.findIdx_le_length
    have a := ix_lt h
    have b := h2 hl
    omega
theorem dn_lt {r place : Int} {E : List Ed} (hE : Inc r E) (hp : isPl r place E = true) : dnI r place E < E.length ∧ (byE r (dnE r place E) : Int) ≤ place ∧ (dnI r place E = ixE r place E ∨ dnI r place E + 1 = ixE r place E ∧ (byE r (dnE r place E) : Int) < place) := by
  obtain ⟨h0, hx⟩ := of_decide_eq_true hp
  have hge := ix_ge hx
  unfold dnE
  by_cases he : (byE r (upE r place E) : Int) = place
  · have : dnI r place E = ixE r place E := if_pos he
    rw [this]
    exact ⟨hx, by unfold upE at he; omega, Or.inl rfl⟩
  · have h1 : dnI r place E = ixE r place E - 1 := if_neg he
    have h2 : 0 < ixE r place E := by
      rcases Nat.eq_zero_or_pos (ixE r place E) with h | h
      · exfalso
        apply he
        unfold upE at hge ⊢
        rw [h, hE.1, by_e0] at hge ⊢
        omega
      · exact h
    have := ix_lt (r := r) (place := place) (E := E) (j := ixE r place E - 1) (by omega)
    rw [h1]
    exact ⟨by omega, by omega, Or.inr ⟨by omega, this⟩⟩
theorem dn_up {r place : Int} {E : List Ed} (hE : Inc r E) (hp : isPl r place E = true) : dnE r place E = upE r place E ↔ (byE r (upE r place E) : Int) = place := by
  obtain ⟨h0, hx⟩ := of_decide_eq_true hp
  constructor
  · intro h
    have hd := dn_lt hE hp
    have hge := ix_ge hx
    rw [h] at hd
    omega
  · intro h
    unfold dnE upE dnI
    rw [if_pos h]
theorem isPl_iff {r place : Int} {E : List Ed} (hE : Inc r E) : isPl r place E = true ↔ 0 ≤ place ∧ place ≤ (byE r (E.getD (E.length - 1) e0) : Int) := by
  unfold isPl
  rw [decide_eq_true_iff]
  constructor
  · rintro ⟨h0, hx⟩
    have hge := ix_ge hx
    have := hE.le (i := ixE r place E) (j := E.length - 1) (by omega) (by omega)
    unfold upE at hge
    exact ⟨h0, by omega⟩
  · rintro ⟨h0, h1⟩
    refine ⟨h0, ?_⟩
    rcases Nat.lt_or_ge (ixE r place E) E.length with h | h
    · exact h
    · have hE2 := hE.2.1
      have := ix_lt (r := r) (place := place) (E := E) (j := E.length - 1) (by omega)
      omega
theorem selI_lt {r place m : Int} {E : List Ed} (hE : Inc r E) (hp : isPl r place E = true) : selI r place m E < E.length := by
  unfold selI
  split
  · exact (of_decide_eq_true hp).2
  · exact (dn_lt hE hp).1
theorem fdR_ok {r place m : Int} {E : List Ed} (h : fdR r place m E = 0) : isPl r place E = true ∧ ((byE r (upE r place E) : Int) = place ∨ m = 1 ∨ m = 2) := by
  unfold fdR at h
  split at h
  · rename_i hp
    split at h
    · rename_i hc; exact ⟨hp, hc⟩
    · omega
  · omega
end Go.Proofs.YteamaneompijkaaGreatDoor
