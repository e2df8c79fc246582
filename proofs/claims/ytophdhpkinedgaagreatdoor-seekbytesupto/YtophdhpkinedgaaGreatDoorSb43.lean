/- Layer 10, plain: the byte place that settledFrom answers is near enough; what is found there. -/
import Derived.Test.YtophdhpkinedgaaGreatDoorSb42
import Derived.Test.YtophdhpkinedgaaGreatDoorSb32

namespace Go.Proofs.YtophdhpkinedgaaGreatDoor
open Go.ChangeShapes Go.WideShapes Go.ChangeAt Go.RowKit

/-- what settledFrom asks of a beginning -/
def setB (u place : Int) (l : List Int) : Bool := decide (place ≤ (szE u l : Int) - (leftL l : Int))
/-- near: the place about which is looked -/
def NearA (T : List Int) (u place : Int) (near : Nat) : Prop := (u = 1 ∧ place = (near : Int)) ∨ (¬ u = 1 ∧ ∃ n : Int, FirA (setB u place) T n ∧ (near : Int) = if n < 0 then (T.length : Int) else n)
theorem EE_bytes {T : List Int} (hl : ∀ x ∈ T, 0 ≤ x ∧ x ≤ 255) {i : Nat} (h : i < (EE T).length) : ((EE T).getD i e0).1 ≤ T.length := by
  have h1 := (inc_EE hl 1).le (i := i) (j := (EE T).length - 1) (by omega) (by omega)
  rw [EE_last] at h1
  have h2 := st_full hl
  have e : ∀ d : Ed, byE 1 d = d.1 := fun d => rfl
  rw [e, e, h2] at h1
  exact h1
theorem by_last {T : List Int} {u : Int} (hu : isRu u = true) : byE u ((EE T).getD ((EE T).length - 1) e0) = szE u T := by
  rw [EE_last]
  unfold szE
  rw [hu, if_pos rfl]
/-- about such a place all that is wanted lies in four bytes each way -/
theorem near_ok {T : List Int} (hl : ∀ x ∈ T, 0 ≤ x ∧ x ≤ 255) {u place : Int} {near : Nat} (hu : isRu u = true) (h0 : 0 ≤ place) (h1 : place ≤ (szE u T : Int)) (hN : NearA T u place near) :
    near ≤ T.length ∧ ixE u place (EE T) < (EE T).length ∧ (∀ i, i < ixE u place (EE T) → ((EE T).getD i e0).1 ≤ near) ∧
    ∃ a, a < (EE T).length ∧ ((EE T).getD a e0).1 = flr T (near - 4) ∧ (byE u ((EE T).getD a e0) : Int) ≤ place := by
  have hinc := inc_EE hl u
  have hinc1 := inc_EE hl 1
  have e1 : ∀ d : Ed, byE 1 d = d.1 := fun d => rfl
  have hpl := (isPl_iff hinc (place := place)).2 ⟨h0, by rw [by_last hu]; exact h1⟩
  have hix : ixE u place (EE T) < (EE T).length := (of_decide_eq_true (show decide (0 ≤ place ∧ ixE u place (EE T) < (EE T).length) = true from hpl)).2
  have key : near ≤ T.length ∧ (∀ i, i < ixE u place (EE T) → ((EE T).getD i e0).1 ≤ near) ∧ ((ixE u place (EE T) = 0 ∧ near = 0) ∨ (u = 1 ∧ place = (near : Int)) ∨ (1 ≤ ixE u place (EE T) ∧ near ≤ ((EE T).getD (ixE u place (EE T) - 1) e0).1 + 4)) := by
    rcases hN with ⟨rfl, hp⟩ | ⟨hne, n, hF, hnear⟩
    · rw [sz_bytes hl] at h1
      refine ⟨by omega, fun i hi => ?_, .inr (.inl ⟨rfl, hp⟩)⟩
      have := ix_lt hi
      rw [e1] at this
      omega
    · have hlow : ∀ n : Nat, n ≤ T.length → setB u place (T.take n) = false → ∃ k, ((EE T).getD k e0).1 + 3 ≥ n ∧ k < ixE u place (EE T) := by
        intro n hn hb
        obtain ⟨k, k1, k2, k3, k4⟩ := settled hl n hn
        have hb' : ¬ place ≤ (szE u (T.take n) : Int) - (leftL (T.take n) : Int) := of_decide_eq_false hb
        rw [k4 u hu] at hb'
        push_cast at hb'
        refine ⟨k, by omega, ?_⟩
        apply Classical.byContradiction
        intro hh
        have h2 := hinc.le (i := ixE u place (EE T)) (j := k) (by omega) k1
        have h3 : place ≤ (byE u ((EE T).getD (ixE u place (EE T)) e0) : Int) := ix_ge hix
        omega
      have hup : ∀ n : Nat, n ≤ T.length → setB u place (T.take n) = true → ((EE T).getD (ixE u place (EE T)) e0).1 ≤ n := by
        intro n hn hb
        obtain ⟨k, k1, k2, k3, k4⟩ := settled hl n hn
        have hb' : place ≤ (szE u (T.take n) : Int) - (leftL (T.take n) : Int) := of_decide_eq_true hb
        rw [k4 u hu] at hb'
        push_cast at hb'
        have hk : ixE u place (EE T) ≤ k := by
          apply Classical.byContradiction
          intro hh
          have := ix_lt (r := u) (place := place) (E := EE T) (j := k) (by omega)
          omega
        have := hinc1.le hk k1
        rw [e1, e1] at this
        omega
      have hbel : ∀ i, i < ixE u place (EE T) → ((EE T).getD i e0).1 ≤ ((EE T).getD (ixE u place (EE T)) e0).1 := fun i hi => by
        have := hinc1.le (i := i) (j := ixE u place (EE T)) (by omega) hix
        rwa [e1, e1] at this
      have hprev : ∀ k, k < ixE u place (EE T) → ((EE T).getD k e0).1 ≤ ((EE T).getD (ixE u place (EE T) - 1) e0).1 := fun k hk => by
        have := hinc1.le (i := k) (j := ixE u place (EE T) - 1) (by omega) (by omega)
        rwa [e1, e1] at this
      rcases hF with ⟨hp0, rfl⟩ | ⟨hp0, hpT, rfl⟩ | ⟨hp0, m, rfl, m1, m2, m3, m4⟩
      · have hz : near = 0 := by simp at hnear; omega
        subst hz
        have hle := hup 0 (Nat.zero_le _) (by rw [List.take_zero]; exact hp0)
        have hix0 : ixE u place (EE T) = 0 := by
          apply Classical.byContradiction
          intro hh
          have := hinc1.2.2 0 (ixE u place (EE T)) (by omega) hix
          rw [e1, e1] at this
          omega
        exact ⟨Nat.zero_le _, fun i hi => by omega, .inl ⟨hix0, rfl⟩⟩
      · have hz : near = T.length := by simp at hnear; omega
        subst hz
        obtain ⟨k, k1, k2⟩ := hlow T.length (Nat.le_refl _) (by rw [List.take_length]; exact hpT)
        have := hprev k k2
        exact ⟨Nat.le_refl _, fun i hi => EE_bytes hl (by omega), .inr (.inr ⟨by omega, by omega⟩)⟩
      · have hz : near = m := by rw [if_neg (by omega)] at hnear; omega
        subst hz
        obtain ⟨k, k1, k2⟩ := hlow (near - 1) (by omega) m3
        have h5 := hprev k k2
        have h6 := hup near m2 m4
        exact ⟨m2, fun i hi => Nat.le_trans (hbel i hi) h6, .inr (.inr ⟨by omega, by omega⟩)⟩
  obtain ⟨k1, k2, k3⟩ := key
  refine ⟨k1, hix, k2, ?_⟩
  have hf := flr_le T (near - 4)
  obtain ⟨a, a1, a2⟩ := edge_ix hl (p := flr T (near - 4)) (by omega) (flr_edge T _)
  refine ⟨a, a1, a2, ?_⟩
  rcases k3 with ⟨z1, z2⟩ | ⟨rfl, hp⟩ | ⟨z1, z2⟩
  · subst z2
    have hz : flr T (0 - 4) = 0 := by omega
    rw [hz] at a2
    have ha0 : a = 0 := by
      apply Classical.byContradiction
      intro hh
      have := hinc1.2.2 0 a (by omega) a1
      rw [e1, e1] at this
      omega
    rw [ha0, hinc.1, by_e0]
    omega
  · rw [e1, a2]; omega
  · have hle : a ≤ ixE u place (EE T) - 1 := by
      apply Classical.byContradiction
      intro hh
      have := hinc1.2.2 (ixE u place (EE T) - 1) a (by omega) a1
      rw [e1, e1] at this
      omega
    have h7 := hinc.le hle (by omega)
    have h8 := ix_lt (r := u) (place := place) (E := EE T) (j := ixE u place (EE T) - 1) (by omega)
    omega
/-- what find answers: as rule.To of the whole text -/
theorem find_ok {T : List Int} (hl : ∀ x ∈ T, 0 ≤ x ∧ x ≤ 255) {u place m : Int} {near : Nat} (hu : isRu u = true) (hm : isRu m = true) (h0 : 0 ≤ place) (h1 : place ≤ (szE u T : Int)) (hN : NearA T u place near) :
    toR u (place - (szE u (T.take (flr T (near - 4))) : Int)) 1 m (EE ((T.drop (flr T (near - 4))).take (min T.length (near + 4) - flr T (near - 4)))) = fdR u place m (EE T) ∧
    (fdR u place m (EE T) = 0 → flr T (near - 4) + toP u (place - (szE u (T.take (flr T (near - 4))) : Int)) 1 m (EE ((T.drop (flr T (near - 4))).take (min T.length (near + 4) - flr T (near - 4)))) = (fdE u place m (EE T)).1) := by
  obtain ⟨k1, k2, k3, a, a1, a2, a3⟩ := near_ok hl hu h0 h1 hN
  have hf := flr_le T (near - 4)
  obtain ⟨w1, w2⟩ := find_win (m := m) (near := near) hl a1 a3 k2 (by omega) k3
  have hs : szE u (T.take (flr T (near - 4))) = byE u ((EE T).getD a e0) := by rw [← a2]; exact sz_take hl hu a1
  rw [hs]
  rw [a2] at w1 w2
  have hc : (isRu u && (isRu 1 && isRu m)) = true := by rw [hu, hm]; rfl
  unfold toR toP
  rw [if_pos hc, if_pos hc, w1]
  refine ⟨rfl, fun h => ?_⟩
  rw [w2 h]
  rfl

end Go.Proofs.YtophdhpkinedgaaGreatDoor
