/- Layer 6: contracts of rule's find, To and Edge. · Layer 6: contracts of rule's find, To, Edge. · RuleBack in plain functions: there and back at edges, Down and Up beside a place. · Layer 7: rule.Size whatever is asked, bytes cut (taken from Ruv, for seats that hold no rule.Table; not beside Ruv). -/
import Derived.Test.YtkdnanlgkedjgabDoorDn14
import Derived.Deep.Cut
import Derived.Deep.CutRange

section
namespace Go.Proofs.YtkdnanlgkedjgabDoor
open Go.ChangeShapes Go.WideShapes Go.ChangeAt Go.RowKit

theorem pre_getD {pre : List Ed} {u : Ed} {E : List Ed} (h : pre ++ [u] <+: E) : E.getD pre.length e0 = u ∧ pre.length < E.length ∧ ∀ j, j < pre.length → E.getD j e0 ∈ pre ∧ (j + 1 = pre.length → E.getD j e0 = lastE pre) := by
  obtain ⟨t, rfl⟩ := h
  refine ⟨by simp [List.getD], by simp, fun j hj => ?_⟩
  have hg : (pre ++ [u] ++ t).getD j e0 = pre[j] := by
    rw [List.getD, List.append_assoc, List.getElem?_append_left hj, List.getElem?_eq_getElem hj]; rfl
  rw [hg]
  refine ⟨List.getElem_mem hj, fun e => ?_⟩
  unfold lastE
  rw [List.getLast?_eq_getElem?, show pre.length - 1 = j by omega, List.getElem?_eq_getElem hj]
  rfl
theorem bes_some {r place : Int} {E pre : List Ed} {u : Ed} (hE : Inc r E) (h0 : 0 ≤ place) (h : pre ++ [u] <+: E) (h1 : ∀ e ∈ pre, (byE r e : Int) < place) (h2 : place ≤ (byE r u : Int)) :
    isPl r place E = true ∧ upE r place E = u ∧ dnE r place E = if (byE r u : Int) ≤ place then u else lastE pre := by
  obtain ⟨a1, a2, a3⟩ := pre_getD h
  have hi : ixE r place E = pre.length := ix_is (Nat.le_of_lt a2) (fun j hj => h1 _ (a3 j hj).1) (fun _ => by rw [a1]; exact h2)
  have hu : upE r place E = u := by unfold upE; rw [hi, a1]
  refine ⟨decide_eq_true ⟨h0, by omega⟩, hu, ?_⟩
  unfold dnE dnI
  rw [hu, hi]
  by_cases he : (byE r u : Int) = place
  · rw [if_pos he, if_pos (by omega), a1]
  · rw [if_neg he, if_neg (by omega)]
    rcases Nat.eq_zero_or_pos pre.length with hz | hz
    · exfalso
      rw [hz] at a1
      have : u = e0 := a1.symm.trans hE.1
      rw [this, by_e0] at h2 he
      omega
    · exact (a3 (pre.length - 1) (by omega)).2 (by omega)
theorem bes_none {r place : Int} {E : List Ed} (h : ∀ e ∈ E, (byE r e : Int) < place) : isPl r place E = false := by
  have hi : ixE r place E = E.length := ix_is (Nat.le_refl _) (fun j hj => h _ (by rw [List.getD, List.getElem?_eq_getElem hj]; exact List.getElem_mem hj)) (fun hl => absurd hl (Nat.lt_irrefl _))
  unfold isPl
  rw [hi]
  simp

end Go.Proofs.YtkdnanlgkedjgabDoor
end

section
namespace Go.Proofs.YtkdnanlgkedjgabDoor
open Go.ChangeShapes Go.WideShapes Go.ChangeAt Go.RowKit

theorem ne3 {a b c a' b' c' : Nat} (h : ((a, b, c) : Ed) ≠ (a', b', c')) : ¬ ((a : Int) = (a' : Int)) ∨ a = a' ∧ ¬ ((b : Int) = (b' : Int)) ∨ a = a' ∧ b = b' ∧ ¬ ((c : Int) = (c' : Int)) := by
  by_cases h1 : a = a'
  · by_cases h2 : b = b'
    · refine Or.inr (Or.inr ⟨h1, h2, fun h3 => h ?_⟩)
      rw [h1, h2, Int.ofNat.inj h3]
    · exact Or.inr (Or.inl ⟨h1, by omega⟩)
  · exact Or.inl (by omega)
theorem fd_dn {r place m : Int} {E : List Ed} (hp : isPl r place E = true) (h : (byE r (upE r place E) : Int) = place ∨ m = 1) : fdR r place m E = 0 ∧ fdE r place m E = dnE r place E := by
  have h1 : fdR r place m E = 0 := by unfold fdR; rw [if_pos hp, if_pos (h.imp id Or.inl)]
  refine ⟨h1, ?_⟩
  unfold fdE selI dnE
  rw [if_pos h1]
  split
  · rename_i hm
    rcases h with h | h
    · unfold dnI; rw [if_pos h]
    · omega
  · rfl
theorem fd_up {r place : Int} {E : List Ed} (hp : isPl r place E = true) : fdR r place 2 E = 0 ∧ fdE r place 2 E = upE r place E := by
  have h1 : fdR r place 2 E = 0 := by unfold fdR; rw [if_pos hp, if_pos (Or.inr (Or.inr rfl))]
  refine ⟨h1, ?_⟩
  unfold fdE selI upE
  rw [if_pos h1, if_pos rfl]
theorem fd_in {r place m : Int} {E : List Ed} (hp : isPl r place E = true) (h : ¬ (byE r (upE r place E) : Int) = place) (h1 : m ≠ 1) (h2 : m ≠ 2) : fdR r place m E = 4 ∧ fdE r place m E = e0 := by
  have e : fdR r place m E = 4 := by unfold fdR; rw [if_pos hp, if_neg (by rintro (h' | h' | h') <;> first | exact h h' | exact h1 h' | exact h2 h')]
  refine ⟨e, ?_⟩
  unfold fdE
  rw [e]
  rfl
theorem fd_no {r place m : Int} {E : List Ed} (hp : isPl r place E = false) : fdR r place m E = 2 ∧ fdE r place m E = e0 := by
  have e : fdR r place m E = 2 := by unfold fdR; rw [hp]; rfl
  refine ⟨e, ?_⟩
  unfold fdE
  rw [e]
  rfl

/-- To's answer -/
def toR (f place t m : Int) (E : List Ed) : Int := if isRu f && (isRu t && isRu m) then fdR f place m E else 3
def toP (f place t m : Int) (E : List Ed) : Nat := if isRu f && (isRu t && isRu m) then byE t (fdE f place m E) else 0

/-- Edge's answer -/
def isEg (r place : Int) (E : List Ed) : Bool := isRu r && decide (fdR r place 3 E = 0)
end Go.Proofs.YtkdnanlgkedjgabDoor
end

section
namespace Go.Proofs.YtkdnanlgkedjgabDoor

theorem at_edge {r : Int} {E : List Ed} (hE : Inc r E) {j : Nat} (hj : j < E.length) (m : Int) :
    isPl r (byE r (E.getD j e0) : Int) E = true ∧ (byE r (upE r (byE r (E.getD j e0) : Int) E) : Int) = (byE r (E.getD j e0) : Int) ∧ fdR r (byE r (E.getD j e0) : Int) m E = 0 ∧ fdE r (byE r (E.getD j e0) : Int) m E = E.getD j e0 := by
  have hi : ixE r (byE r (E.getD j e0) : Int) E = j := ix_is (Nat.le_of_lt hj) (fun k hk => by have := hE.2.2 k j hk hj; omega) (fun _ => Int.le_refl _)
  have hp : isPl r (byE r (E.getD j e0) : Int) E = true := decide_eq_true ⟨by omega, by rw [hi]; exact hj⟩
  have hu : upE r (byE r (E.getD j e0) : Int) E = E.getD j e0 := by unfold upE; rw [hi]
  have hr : fdR r (byE r (E.getD j e0) : Int) m E = 0 := by unfold fdR; rw [if_pos hp, if_pos (Or.inl (by rw [hu]))]
  refine ⟨hp, by rw [hu], hr, ?_⟩
  have hd : dnI r (byE r (E.getD j e0) : Int) E = j := by unfold dnI; rw [hu, if_pos rfl, hi]
  unfold fdE selI
  rw [if_pos hr, hi, hd]
  split <;> rfl
theorem EE_by {l : List Int} (hl : ∀ x ∈ l, 0 ≤ x ∧ x ≤ 255) (r : Int) (i : Nat) (h : i < (EE l).length) : byE r ((EE l).getD i e0) ≤ 2 * l.length := by
  rw [EE_len] at h
  unfold EE
  rw [edL_getD _ _ _ (by omega)]
  obtain ⟨h1, _, h3, h4, h5⟩ := st_at hl (List.take_prefix i (spots l 0))
  unfold byE
  split
  · omega
  · split <;> omega
theorem fdE_in {r place m : Int} {E : List Ed} (hE : Inc r E) : ∃ i, i < E.length ∧ fdE r place m E = E.getD i e0 := by
  unfold fdE
  split
  · rename_i h
    exact ⟨_, selI_lt hE (fdR_ok h).1, rfl⟩
  · exact ⟨0, hE.2.1, hE.1.symm⟩
theorem toP_le {l : List Int} (hl : ∀ x ∈ l, 0 ≤ x ∧ x ≤ 255) (f place t m : Int) : toP f place t m (EE l) ≤ 2 * l.length := by
  unfold toP
  split
  · obtain ⟨i, h1, h2⟩ := fdE_in (r := f) (place := place) (m := m) (inc_EE hl f)
    rw [h2]
    exact EE_by hl t i h1
  · exact Nat.zero_le _
theorem ru1 : isRu 1 = true := rfl
theorem ru2 : isRu 2 = true := rfl
theorem ru3 : isRu 3 = true := rfl
theorem to_ru {f t m : Int} (h1 : isRu f = true) (h2 : isRu t = true) (h3 : isRu m = true) (p : Int) (E : List Ed) : toR f p t m E = fdR f p m E ∧ toP f p t m E = byE t (fdE f p m E) := by
  unfold toR toP
  rw [h1, h2, h3]
  exact ⟨rfl, rfl⟩
theorem to_no {f t m : Int} (h : isRu f = false) (p : Int) (E : List Ed) : toR f p t m E = 3 ∧ toP f p t m E = 0 := by
  unfold toR toP
  rw [h]
  exact ⟨rfl, rfl⟩
theorem to_no2 {f t m : Int} (h : isRu t = false) (p : Int) (E : List Ed) : toR f p t m E = 3 := by
  unfold toR
  rw [h]
  cases isRu f <;> rfl

/-- all that RuleBack asks -/
structure BackF (f place t : Int) (E : List Ed) : Prop where
  ef : toR f place f 1 E = toR f place f 2 E
  no : toR f place f 1 E ≠ 0 → toR f place f 3 E = toR f place f 1 E ∧ toP f place f 1 E = 0 ∧ toP f place f 2 E = 0 ∧ toP f place f 3 E = 0
  eg : toR f place f 1 E = 0 → isEg f place E = decide (toR f place f 3 E = 0)
  le : toR f place f 1 E = 0 → (toP f place f 1 E : Int) ≤ place ∧ place ≤ (toP f place f 2 E : Int)
  du : toR f place f 1 E = 0 → (toP f place f 1 E = toP f place f 2 E ↔ toR f place f 3 E = 0)
  ex : toR f place f 1 E = 0 → toR f place f 3 E = 0 → (toP f place f 1 E : Int) = place ∧ (toP f place f 3 E : Int) = place
  btw : toR f place f 1 E = 0 → ∀ p : Int, (toP f place f 1 E : Int) < p → p < (toP f place f 2 E : Int) → isEg f p E = false
  nt : isRu t = false → toR f place t 1 E = 3
  th : toR f place f 1 E = 0 → isRu t = true → toR f place t 1 E = 0 ∧ toR t (toP f place t 1 E : Int) f 3 E = 0 ∧ toR f (toP f place f 1 E : Int) t 2 E = 0 ∧ toP t (toP f place t 1 E : Int) f 3 E = toP f place f 1 E ∧ toP f (toP f place f 1 E : Int) t 2 E = toP f place t 1 E
theorem backF {E : List Ed} (hE : ∀ r, Inc r E) (f place t : Int) : BackF f place t E := by
  cases hf : isRu f with
  | false =>
    have k1 := to_no hf (t := f) (m := 1) place E
    have k2 := to_no hf (t := f) (m := 2) place E
    have k3 := to_no hf (t := f) (m := 3) place E
    have z : toR f place f 1 E ≠ 0 := by rw [k1.1]; decide
    exact ⟨by rw [k1.1, k2.1], fun _ => ⟨by rw [k3.1, k1.1], k1.2, k2.2, k3.2⟩, fun h => absurd h z, fun h => absurd h z, fun h => absurd h z, fun h => absurd h z, fun h => absurd h z, fun h => to_no2 h place E, fun h => absurd h z⟩
  | true =>
    have k1 := to_ru hf hf ru1 place E
    have k2 := to_ru hf hf ru2 place E
    have k3 := to_ru hf hf ru3 place E
    cases hp : isPl f place E with
    | false =>
      have n1 := fd_no (m := 1) hp
      have n2 := fd_no (m := 2) hp
      have n3 := fd_no (m := 3) hp
      have z : toR f place f 1 E ≠ 0 := by rw [k1.1, n1.1]; decide
      exact ⟨by rw [k1.1, k2.1, n1.1, n2.1], fun _ => ⟨by rw [k3.1, k1.1, n3.1, n1.1], by rw [k1.2, n1.2, by_e0], by rw [k2.2, n2.2, by_e0], by rw [k3.2, n3.2, by_e0]⟩, fun h => absurd h z, fun h => absurd h z, fun h => absurd h z, fun h => absurd h z, fun h => absurd h z, fun h => to_no2 h place E, fun h => absurd h z⟩
    | true =>
      obtain ⟨hp0, hpx⟩ := of_decide_eq_true hp
      have d1 := fd_dn (m := 1) hp (Or.inr rfl)
      have u2 := fd_up hp
      obtain ⟨dl, dle, dor⟩ := dn_lt (hE f) hp
      have uge := ix_ge hpx
      have x3 : toR f place f 3 E = 0 ↔ (byE f (upE f place E) : Int) = place := by
        rw [k3.1]
        constructor
        · intro h
          rcases (fdR_ok h).2 with h | h | h
          · exact h
          · omega
          · omega
        · intro h
          exact (fd_dn hp (Or.inl h)).1
      have e1 : toR f place f 1 E = 0 := by rw [k1.1, d1.1]
      have p1 : toP f place f 1 E = byE f (dnE f place E) := by rw [k1.2, d1.2]
      have p2 : toP f place f 2 E = byE f (upE f place E) := by rw [k2.2, u2.2]
      have du : toP f place f 1 E = toP f place f 2 E ↔ toR f place f 3 E = 0 := by
        rw [p1, p2, x3]
        constructor
        · intro h; omega
        · intro h; rw [(dn_up (hE f) hp).2 h]
      refine ⟨by rw [e1, k2.1, u2.1], fun h => absurd e1 h, fun _ => ?_, fun _ => by rw [p1, p2]; exact ⟨dle, uge⟩, fun _ => du, fun _ h => ?_, fun _ p h1 h2 => ?_, fun h => to_no2 h place E, fun _ ht => ?_⟩
      · unfold isEg
        rw [hf, k3.1]
        rfl
      · have hx := x3.1 h
        have := fd_dn (m := 3) hp (Or.inl hx)
        have hdu := (dn_up (hE f) hp).2 hx
        rw [k3.2, this.2, p1, hdu]
        exact ⟨hx, hx⟩
      · unfold isEg
        rw [hf, Bool.true_and]
        refine decide_eq_false fun h => ?_
        obtain ⟨q1, q2⟩ := fdR_ok h
        obtain ⟨_, qx⟩ := of_decide_eq_true q1
        have q3 : (byE f (upE f p E) : Int) = p := by
          rcases q2 with q | q | q
          · exact q
          · omega
          · omega
        rw [p1] at h1
        rw [p2] at h2
        unfold dnE at h1
        unfold upE at h2 q3
        have c1 : dnI f place E < ixE f p E := by
          rcases Nat.lt_or_ge (dnI f place E) (ixE f p E) with c | c
          · exact c
          · have := (hE f).le c dl; omega
        have c2 : ixE f p E < ixE f place E := by
          rcases Nat.lt_or_ge (ixE f p E) (ixE f place E) with c | c
          · exact c
          · have := (hE f).le c qx; omega
        omega
      · have k4 := to_ru hf ht ru1 place E
        have he : toP f place t 1 E = byE t (E.getD (dnI f place E) e0) := by rw [k4.2, d1.2]; rfl
        have hd : toP f place f 1 E = byE f (E.getD (dnI f place E) e0) := by rw [p1]; rfl
        have a1 := at_edge (hE t) dl 3
        have a2 := at_edge (hE f) dl 2
        have k5 := to_ru ht hf ru3 (byE t (E.getD (dnI f place E) e0) : Int) E
        have k6 := to_ru hf ht ru2 (byE f (E.getD (dnI f place E) e0) : Int) E
        rw [he, hd]
        exact ⟨by rw [k4.1, d1.1], by rw [k5.1, a1.2.2.1], by rw [k6.1, a2.2.2.1], by rw [k5.2, a1.2.2.2], by rw [k6.2, a2.2.2.2]⟩

end Go.Proofs.YtkdnanlgkedjgabDoor
end

section
namespace Go.Proofs.YtkdnanlgkedjgabDoor
open Go.ChangeShapes Go.WideShapes Go.ChangeAt Go.RowKit

theorem IsB.takeR {w : World} {a0 : Option Addr} {cap : Nat} {l : List Int} {n : Nat} (h : IsB w a0 cap l) : IsB w a0 cap (l.take n) := by
  obtain ⟨h1, h2, h3, h4⟩ := h
  refine ⟨by simp; omega, by simp; omega, ?_, fun x hx => h4 x (List.mem_of_mem_take hx)⟩
  rcases h3 with h3 | ⟨g', off', rfl, hL⟩
  · exact Or.inl (by rw [h3]; simp)
  · exact Or.inr ⟨g', off', rfl, hL.take n⟩
theorem IsB.loR {w : World} {a : Option Addr} {cap : Nat} {l : List Int} {n : Nat} (h : IsB w a cap l) : IsB w (if cap = n then a else a.map (·.add n)) (cap - n) (l.drop n) := by
  obtain ⟨h1, h2, h3, h4⟩ := h
  refine ⟨by simp; omega, by simp; omega, ?_, fun x hx => h4 x (List.mem_of_mem_drop hx)⟩
  rcases Nat.lt_or_ge n l.length with hlt | hge
  · rcases h3 with h3 | ⟨g', off', rfl, hL⟩
    · rw [h3] at hlt; simp at hlt
    · rw [if_neg (by omega)]
      exact Or.inr ⟨g', off' + n, by simp [Addr.add_lit], hL.drop n⟩
  · exact Or.inl (by simp; omega)

def szE (r : Int) (l : List Int) : Nat := if isRu r then byE r (stE l (spots l 0)) else 0
def szR (r : Int) : Int := if isRu r then 0 else 3
theorem EE_le {l : List Int} (hl : ∀ x ∈ l, 0 ≤ x ∧ x ≤ 255) {i : Nat} (h : i < (EE l).length) : ((EE l).getD i e0).1 ≤ l.length := by
  rw [EE_len] at h
  unfold EE
  rw [edL_getD _ _ _ (by omega)]
  exact (st_at hl (List.take_prefix _ _)).1

end Go.Proofs.YtkdnanlgkedjgabDoor
end
