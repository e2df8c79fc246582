/- RuleBack in plain functions: there and back at edges, Down and Up beside a place. -/
import Derived.Test.YtdmkgocddikobaaDoorRud
namespace Go.Proofs.YtdmkgocddikobaaDoor

theorem at_edge {r : Int} {E : List Ed} (hE : Inc r E) {j : Nat} (hj : j < E.length) (m : Int) :
    isPl r (byE r (E.getD j e0) : Int) E = true ∧ (byE r (upE r (byE r (E.getD j e0) : Int) E) : Int) = (byE r (E.getD j e0) : Int) ∧ fdR r (byE r (E.getD j e0) : Int) m E = 0 ∧ fdE r (byE r (E.getD j e0) : Int) m E = E.getD j e0 := by
  have hi : ixE r (byE r (E.getD j e0) : Int) E = j := ix_is (Nat.le_of_lt hj) (fun k hk => by have := hE.2.2 k j hk hj; omega) (fun _ => Int.le_refl _)
  have hp : isPl r (byE r (E.getD j e0) : Int) E = true := decide_eq_true ⟨by omega, by rw [hi]; exact hj⟩
  have hu : upE r (byE r (E.getD j e0) : Int) E = E.getD j e0 := by unfold upE; rw [hi]
  have hr : fdR r (byE r (E.getD j e0) : Int) m E = 0 := by unfold fdR; rw [if_pos hp, if_pos (Or.inl (by rw [hu]))]
  refine ⟨hp, by rw [hu], hr, ?_⟩
  have hd : dnI r (byE r (E.getD j e0) : Int) E = j := by unfold dnI; rw [hu, if_pos rfl, hi]
  unfold fdE selI
  rw [if_pos hr, hi, hd]
  split <;> rfl
theorem EE_by {l : List Int} (hl : ∀ x ∈ l, 0 ≤ x ∧ x ≤ 255) (r : Int) (i : Nat) (h : i < (EE l).length) : byE r ((EE l).getD i e0) ≤ 2 * l.length := by
  rw [EE_len] at h
  unfold EE
  rw [edL_getD _ _ _ (by omega)]
  obtain ⟨h1, _, h3, h4, h5⟩ := st_at hl (List.take_prefix i (spots l 0))
  unfold byE
  split
  · omega
  · split <;> omega
theorem fdE_in {r place m : Int} {E : List Ed} (hE : Inc r E) : ∃ i, i < E.length ∧ fdE r place m E = E.getD i e0 := by
  unfold fdE
  split
  · rename_i h
    exact ⟨_, selI_lt hE (fdR_ok h).1, rfl⟩
  · exact ⟨0, hE.2.1, hE.1.symm⟩
theorem toP_le {l : List Int} (hl : ∀ x ∈ l, 0 ≤ x ∧ x ≤ 255) (f place t m : Int) : toP f place t m (EE l) ≤ 2 * l.length := by
  unfold toP
  split
  · obtain ⟨i, h1, h2⟩ := fdE_in (r := f) (place := place) (m := m) (inc_EE hl f)
    rw [h2]
    exact EE_by hl t i h1
  · exact Nat.zero_le _
theorem ru1 : isRu 1 = true := rfl
theorem ru2 : isRu 2 = true := rfl
theorem ru3 : isRu 3 = true := rfl
theorem to_ru {f t m : Int} (h1 : isRu f = true) (h2 : isRu t = true) (h3 : isRu m = true) (p : Int) (E : List Ed) : toR f p t m E = fdR f p m E ∧ toP f p t m E = byE t (fdE f p m E) := by
  unfold toR toP
  rw [h1, h2, h3]
  exact ⟨rfl, rfl⟩
theorem to_no {f t m : Int} (h : isRu f = false) (p : Int) (E : List Ed) : toR f p t m E = 3 ∧ toP f p t m E = 0 := by
  unfold toR toP
  rw [h]
  exact ⟨rfl, rfl⟩
theorem to_no2 {f t m : Int} (h : isRu t = false) (p : Int) (E : List Ed) : toR f p t m E = 3 := by
  unfold toR
  rw [h]
  cases isRu f <;> rfl

/-- all that RuleBack asks -/
structure BackF (f place t : Int) (E : List Ed) : Prop where
  ef : toR f place f 1 E = toR f place f 2 E
  no : toR f place f 1 E ≠ 0 → toR f place f 3 E = toR f place f 1 E ∧ toP f place f 1 E = 0 ∧ toP f place f 2 E = 0 ∧ toP f place f 3 E = 0
  eg : toR f place f 1 E = 0 → isEg f place E = decide (toR f place f 3 E = 0)
  le : toR f place f 1 E = 0 → (toP f place f 1 E : Int) ≤ place ∧ place ≤ (toP f place f 2 E : Int)
  du : toR f place f 1 E = 0 → (toP f place f 1 E = toP f place f 2 E ↔ toR f place f 3 E = 0)
  ex : toR f place f 1 E = 0 → toR f place f 3 E = 0 → (toP f place f 1 E : Int) = place ∧ (toP f place f 3 E : Int) = place
  btw : toR f place f 1 E = 0 → ∀ p : Int, (toP f place f 1 E : Int) < p → p < (toP f place f 2 E : Int) → isEg f p E = false
  nt : isRu t = false → toR f place t 1 E = 3
  th : toR f place f 1 E = 0 → isRu t = true → toR f place t 1 E = 0 ∧ toR t (toP f place t 1 E : Int) f 3 E = 0 ∧ toR f (toP f place f 1 E : Int) t 2 E = 0 ∧ toP t (toP f place t 1 E : Int) f 3 E = toP f place f 1 E ∧ toP f (toP f place f 1 E : Int) t 2 E = toP f place t 1 E
theorem backF {E : List Ed} (hE : ∀ r, Inc r E) (f place t : Int) : BackF f place t E := by
  cases hf : isRu f with
  | false =>
    have k1 := to_no hf (t := f) (m := 1) place E
    have k2 := to_no hf (t := f) (m := 2) place E
    have k3 := to_no hf (t := f) (m := 3) place E
    have z : toR f place f 1 E ≠ 0 := by rw [k1.1]; decide
    exact ⟨by rw [k1.1, k2.1], fun _ => ⟨by rw [k3.1, k1.1], k1.2, k2.2, k3.2⟩, fun h => absurd h z, fun h => absurd h z, fun h => absurd h z, fun h => absurd h z, fun h => absurd h z, fun h => to_no2 h place E, fun h => absurd h z⟩
  | true =>
    have k1 := to_ru hf hf ru1 place E
    have k2 := to_ru hf hf ru2 place E
    have k3 := to_ru hf hf ru3 place E
    cases hp : isPl f place E with
    | false =>
      have n1 := fd_no (m := 1) hp
      have n2 := fd_no (m := 2) hp
      have n3 := fd_no (m := 3) hp
      have z : toR f place f 1 E ≠ 0 := by rw [k1.1, n1.1]; decide
      exact ⟨by rw [k1.1, k2.1, n1.1, n2.1], fun _ => ⟨by rw [k3.1, k1.1, n3.1, n1.1], by rw [k1.2, n1.2, by_e0], by rw [k2.2, n2.2, by_e0], by rw [k3.2, n3.2, by_e0]⟩, fun h => absurd h z, fun h => absurd h z, fun h => absurd h z, fun h => absurd h z, fun h => absurd h z, fun h => to_no2 h place E, fun h => absurd h z⟩
    | true =>
      obtain ⟨hp0, hpx⟩ := of_decide_eq_true hp
      have d1 := fd_dn (m := 1) hp (Or.inr rfl)
      have u2 := fd_up hp
      obtain ⟨dl, dle, dor⟩ := dn_lt (hE f) hp
      have uge := ix_ge hpx
      have x3 : toR f place f 3 E = 0 ↔ (byE f (upE f place E) : Int) = place := by
        rw [k3.1]
        constructor
        · intro h
          rcases (fdR_ok h).2 with h | h | h
          · exact h
          · omega
          · omega
        · intro h
          exact (fd_dn hp (Or.inl h)).1
      have e1 : toR f place f 1 E = 0 := by rw [k1.1, d1.1]
      have p1 : toP f place f 1 E = byE f (dnE f place E) := by rw [k1.2, d1.2]
      have p2 : toP f place f 2 E = byE f (upE f place E) := by rw [k2.2, u2.2]
      have du : toP f place f 1 E = toP f place f 2 E ↔ toR f place f 3 E = 0 := by
        rw [p1, p2, x3]
        constructor
        · intro h; omega
        · intro h; rw [(dn_up (hE f) hp).2 h]
      refine ⟨by rw [e1, k2.1, u2.1], fun h => absurd e1 h, fun _ => ?_, fun _ => by rw [p1, p2]; exact ⟨dle, uge⟩, fun _ => du, fun _ h => ?_, fun _ p h1 h2 => ?_, fun h => to_no2 h place E, fun _ ht => ?_⟩
      · unfold isEg
        rw [hf, k3.1]
        rfl
      · have hx := x3.1 h
        have := fd_dn (m := 3) hp (Or.inl hx)
        have hdu := (dn_up (hE f) hp).2 hx
        rw [k3.2, this.2, p1, hdu]
        exact ⟨hx, hx⟩
      · unfold isEg
        rw [hf, Bool.true_and]
        refine decide_eq_false fun h => ?_
        obtain ⟨q1, q2⟩ := fdR_ok h
        obtain ⟨_, qx⟩ := of_decide_eq_true q1
        have q3 : (byE f (upE f p E) : Int) = p := by
          rcases q2 with q | q | q
          · exact q
          · omega
          · omega
        rw [p1] at h1
        rw [p2] at h2
        unfold dnE at h1
        unfold upE at h2 q3
        have c1 : dnI f place E < ixE f p E := by
          rcases Nat.lt_or_ge (dnI f place E) (ixE f p E) with c | c
          · exact c
          · have := (hE f).le c dl; omega
        have c2 : ixE f p E < ixE f place E := by
          rcases Nat.lt_or_ge (ixE f p E) (ixE f place E) with c | c
          · exact c
          · have := (hE f).le c qx; omega
        omega
      · have k4 := to_ru hf ht ru1 place E
        have he : toP f place t 1 E = byE t (E.getD (dnI f place E) e0) := by rw [k4.2, d1.2]; rfl
        have hd : toP f place f 1 E = byE f (E.getD (dnI f place E) e0) := by rw [p1]; rfl
        have a1 := at_edge (hE t) dl 3
        have a2 := at_edge (hE f) dl 2
        have k5 := to_ru ht hf ru3 (byE t (E.getD (dnI f place E) e0) : Int) E
        have k6 := to_ru hf ht ru2 (byE f (E.getD (dnI f place E) e0) : Int) E
        rw [he, hd]
        exact ⟨by rw [k4.1, d1.1], by rw [k5.1, a1.2.2.1], by rw [k6.1, a2.2.2.1], by rw [k5.2, a1.2.2.2], by rw [k6.2, a2.2.2.2]⟩

end Go.Proofs.YtdmkgocddikobaaDoor
