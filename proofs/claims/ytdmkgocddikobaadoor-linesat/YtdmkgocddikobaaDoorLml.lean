/- Layer 7, plain: which line a place is in, lines rise; how the modes agree. -/
import Derived.Test.YtdmkgocddikobaaDoorLnp
namespace Go.Proofs.YtdmkgocddikobaaDoor
open Go.ChangeShapes Go.WideShapes Go.ChangeAt Go.RowKit

theorem lst_mono {l : List Int} {i : Nat} : ∀ {j : Nat}, i ≤ j → j < (LN l).length → ((LN l).getD i z4).2.1 ≤ ((LN l).getD j z4).2.1
  | 0, h, _ => by obtain rfl : i = 0 := by omega
                  exact Nat.le_refl _
  | j + 1, h, hj => by
    rcases Nat.lt_or_ge i (j + 1) with h1 | h1
    · have ih := lst_mono (l := l) (i := i) (j := j) (by omega) (by omega)
      obtain ⟨_, _, k⟩ := LN_at l (i := j) (by omega)
      have a1 := k.sc
      have a2 := k.cn
      have a3 := (k.mid hj).2.2.2
      omega
    · obtain rfl : i = j + 1 := by omega
      exact Nat.le_refl _
theorem lst_next {l : List Int} {i j : Nat} (h : i < j) (hj : j < (LN l).length) : ((LN l).getD i z4).2.2.2 ≤ ((LN l).getD j z4).2.1 := by
  obtain ⟨_, _, k⟩ := LN_at l (i := i) (by omega)
  have a3 := (k.mid (by omega)).2.2.2
  have := lst_mono (l := l) (i := i + 1) (j := j) (by omega) hj
  omega
theorem lst_lt {l : List Int} {i : Nat} (h : i + 1 < (LN l).length) : lst ((LN l).getD i z4) < ((LN l).getD i z4).2.2.2 ∧ ((LN l).getD i z4).2.2.1 < ((LN l).getD i z4).2.2.2 := by
  obtain ⟨_, _, k⟩ := LN_at l (i := i) (by omega)
  have a3 := (k.mid h).2.2.1
  have := nxt_gt l ((LN l).getD i z4).2.2.1
  unfold lst
  omega
theorem lnOf_is {l : List Int} {i p : Nat} (hi : i < (LN l).length) (h1 : ((LN l).getD i z4).2.1 ≤ p) (h2 : p ≤ lst ((LN l).getD i z4)) : lnOf l p = (LN l).getD i z4 ∧ (lnOf l p).1 = i := by
  have hp : p ≤ l.length := Nat.le_trans h2 (lst_edge hi).2.2.1
  obtain ⟨j, hj⟩ := ho_of hp
  have hlo := hj.lo
  rw [hj.eq] at hlo
  have hjl := hj.lt
  have : i = j := by
    rcases Nat.lt_trichotomy i j with h | h | h
    · have a := lst_next h hjl
      have b := (lst_lt (l := l) (i := i) (by omega)).1
      omega
    · exact h
    · have a := hj.up (by omega)
      have b := lst_mono (l := l) (i := j + 1) (j := i) (by omega) hi
      omega
  subst this
  exact ⟨hj.eq, by rw [hj.eq]; exact (LN_at l hi).1⟩
/-- a place that is an edge of line k -/
structure PlK (l : List Int) (k : Int) (p : Nat) : Prop where
  fl : flr l p = p
  le : p ≤ l.length
  ln : ((lnOf l p).1 : Int) = k
inductive Md (l : List Int) (line : Int) (p1 p2 p3 : Nat) (r1 r2 r3 : Int) : Prop
  | same (h3 : 0 = r3) (h1 : 0 = r1) (h2 : 0 = r2) (q1 : p3 = p1) (q2 : p3 = p2) : Md l line p1 p2 p3 r1 r2 r3
  | no (c : Int) (hc : c ≠ 0) (h3 : c = r3) (h1 : c = r1) (h2 : c = r2) (q1 : 0 = p1) (q2 : 0 = p2) : Md l line p1 p2 p3 r1 r2 r3
  | far (e : Ln) (hn : nbr l line = some e) (h3 : 2 = r3) (h1 : 0 = r1) (h2 : 0 = r2) (q1 : e.2.2.1 = p1) (q2 : e.2.2.1 = p2) (pl : PlK l line e.2.2.1) : Md l line p1 p2 p3 r1 r2 r3
  | mid (e : Ln) (a b : Nat) (hn : nbr l line = some e) (h3 : 4 = r3) (h1 : 0 = r1) (h2 : 0 = r2) (q1 : a = p1) (q2 : b = p2) (hab : a < b) (lo : e.2.1 ≤ a) (hi : b ≤ e.2.2.2) (pa : PlK l line a) (pb : PlK l line b) : Md l line p1 p2 p3 r1 r2 r3
theorem nbr_have {l : List Int} {k : Int} {e : Ln} (h : nbr l k = some e) : ∃ i : Nat, k = (i : Int) ∧ i < (LN l).length ∧ e = (LN l).getD i z4 := by
  unfold nbr at h
  split at h
  · rename_i hk
    exact ⟨k.toNat, by omega, by omega, (Option.some.inj h).symm⟩
  · cases h
theorem modes_of {l : List Int} (hl : ∀ x ∈ l, 0 ≤ x ∧ x ≤ 255) (line col r : Int) : Md l line (atP l line col r 1) (atP l line col r 2) (atP l line col r 3) (atR l line col r 1) (atR l line col r 2) (atR l line col r 3) := by
  cases hr : isRu r with
  | false =>
    have k : ∀ m, atR l line col r m = 3 ∧ atP l line col r m = 0 := fun m => by unfold atR atP; rw [hr]; exact ⟨rfl, rfl⟩
    exact Md.no 3 (by decide) (k 3).1.symm (k 1).1.symm (k 2).1.symm (k 1).2.symm (k 2).2.symm
  | true =>
    cases hn : nbr l line with
    | none =>
      have k : ∀ m, isRu m = true → atR l line col r m = 2 ∧ atP l line col r m = 0 := fun m hm => by unfold atR atP; rw [hr, hm, hn]; exact ⟨rfl, rfl⟩
      exact Md.no 2 (by decide) (k 3 ru3).1.symm (k 1 ru1).1.symm (k 2 ru2).1.symm (k 1 ru1).2.symm (k 2 ru2).2.symm
    | some e =>
      by_cases hc : col < 0
      · have k : ∀ m, isRu m = true → atR l line col r m = 2 ∧ atP l line col r m = 0 := fun m hm => by
          unfold atR atP; rw [hr, hm, hn]; simp only [Bool.and_self, if_true]; rw [if_pos hc, if_pos hc]; exact ⟨rfl, rfl⟩
        exact Md.no 2 (by decide) (k 3 ru3).1.symm (k 1 ru1).1.symm (k 2 ru2).1.symm (k 1 ru1).2.symm (k 2 ru2).2.symm
      · obtain ⟨i, rfl, hi, rfl⟩ := nbr_have hn
        obtain ⟨_, _, k3⟩ := LN_at l hi
        obtain ⟨e1, e2, e3, e4, e5⟩ := lst_edge hi
        have es := k3.es
        have ec := k3.ec
        have hof := fun p h1 h2 => lnOf_is (l := l) (i := i) (p := p) hi h1 h2
        have s1 := k3.sc
        have s2 := k3.cn
        have hnx : lst ((LN l).getD i z4) ≤ ((LN l).getD i z4).2.2.2 := by unfold lst; omega
        have hml : ∀ x ∈ cutL l ((LN l).getD i z4).2.1 (lst ((LN l).getD i z4)), 0 ≤ x ∧ x ≤ 255 := fun x hx => hl x (List.mem_of_mem_take (List.mem_of_mem_drop hx))
        have hlen : (cutL l ((LN l).getD i z4).2.1 (lst ((LN l).getD i z4))).length = lst ((LN l).getD i z4) - ((LN l).getD i z4).2.1 := by unfold cutL; rw [List.length_drop, List.length_take]; omega
        have hin : ∀ p, ((LN l).getD i z4).2.1 + p ≤ lst ((LN l).getD i z4) → inside (cutL l ((LN l).getD i z4).2.1 (lst ((LN l).getD i z4))) p = inside l (((LN l).getD i z4).2.1 + p) := fun p hp => inside_cut es e1 e2 hp
        generalize (LN l).getD i z4 = e at *
        have aK : ∀ m, isRu m = true → atR l (i : Int) col r m = (if toR r col 1 m (EE (cutL l e.2.1 (lst e))) = 2 ∧ m ≠ 3 then 0 else toR r col 1 m (EE (cutL l e.2.1 (lst e)))) ∧
            atP l (i : Int) col r m = (if toR r col 1 m (EE (cutL l e.2.1 (lst e))) = 2 ∧ m ≠ 3 then e.2.2.1 else if toR r col 1 m (EE (cutL l e.2.1 (lst e))) = 0 then e.2.1 + toP r col 1 m (EE (cutL l e.2.1 (lst e))) else 0) := fun m hm => by
          unfold atR atP
          rw [hr, hm, hn]
          simp only [Bool.and_self, if_true]
          rw [if_neg hc, if_neg hc]
          exact ⟨rfl, rfl⟩
        have hE := inc_EE hml r
        have hE1 := inc_EE hml 1
        have hfull : ∀ j, j < (EE (cutL l e.2.1 (lst e))).length → inside (cutL l e.2.1 (lst e)) ((EE (cutL l e.2.1 (lst e))).getD j e0).1 = false ∧ ((EE (cutL l e.2.1 (lst e))).getD j e0).1 ≤ lst e - e.2.1 := fun j hj => by
          refine ⟨EE_inside hml hj, ?_⟩
          rw [EE_len] at hj
          unfold EE
          rw [edL_getD _ _ _ (by omega)]
          have := (st_at hml (List.take_prefix j (spots (cutL l e.2.1 (lst e)) 0))).1
          omega
        generalize cutL l e.2.1 (lst e) = c at *
        generalize EE c = E at *
        have tR : ∀ m, isRu m = true → toR r col 1 m E = fdR r col m E ∧ toP r col 1 m E = byE 1 (fdE r col m E) := fun m hm => to_ru hr ru1 hm col E
        have pl : ∀ j, j < E.length → PlK l (i : Int) (e.2.1 + (E.getD j e0).1) := fun j hj => by
          obtain ⟨f1, f2⟩ := hfull j hj
          rw [hin _ (by omega)] at f1
          exact ⟨flr_eq f1, by omega, by rw [(hof (e.2.1 + (E.getD j e0).1) (by omega) (by omega)).2]⟩
        have aR : ∀ m, isRu m = true → atR l (i : Int) col r m = (if fdR r col m E = 2 ∧ m ≠ 3 then 0 else fdR r col m E) ∧ atP l (i : Int) col r m = (if fdR r col m E = 2 ∧ m ≠ 3 then e.2.2.1 else if fdR r col m E = 0 then e.2.1 + byE 1 (fdE r col m E) else 0) := fun m hm => by
          obtain ⟨q1, q2⟩ := tR m hm
          rw [← q1, ← q2]
          exact aK m hm
        cases hp : isPl r col E with
        | false =>
          have f : ∀ m, fdR r col m E = 2 := fun m => by unfold fdR; rw [hp]; rfl
          refine Md.far e hn (by rw [(aR 3 ru3).1, f]; rfl) (by rw [(aR 1 ru1).1, f]; rfl) (by rw [(aR 2 ru2).1, f]; rfl) (by rw [(aR 1 ru1).2, f]; rfl) (by rw [(aR 2 ru2).2, f]; rfl) ?_
          exact ⟨flr_eq ec, by omega, by rw [(hof e.2.2.1 (by omega) (by omega)).2]⟩
        | true =>
          have hx := (of_decide_eq_true hp).2
          obtain ⟨d1, d2, d3⟩ := dn_lt hE hp
          by_cases hu : (byE r (upE r col E) : Int) = col
          · have hd : dnI r col E = ixE r col E := if_pos hu
            have f : ∀ m, fdR r col m E = 0 := fun m => by unfold fdR; rw [hp]; simp [hu]
            have g : ∀ m, fdE r col m E = E.getD (ixE r col E) e0 := fun m => by unfold fdE selI; rw [f, if_pos rfl, hd]; simp
            have a : ∀ m, isRu m = true → atR l (i : Int) col r m = 0 ∧ atP l (i : Int) col r m = e.2.1 + byE 1 (E.getD (ixE r col E) e0) := fun m hm => by
              rw [(aR m hm).1, (aR m hm).2, f, g, if_neg (by omega), if_neg (by omega), if_pos rfl]; exact ⟨rfl, rfl⟩
            exact Md.same (a 3 ru3).1.symm (a 1 ru1).1.symm (a 2 ru2).1.symm (by rw [(a 1 ru1).2, (a 3 ru3).2]) (by rw [(a 2 ru2).2, (a 3 ru3).2])
          · have hdn : dnI r col E = ixE r col E - 1 := if_neg hu
            have hd : dnI r col E + 1 = ixE r col E := by
              rcases d3 with h | h
              · exfalso
                have : (byE r (dnE r col E) : Int) ≤ col := d2
                unfold dnE at this
                rw [h] at this
                have h5 := ix_ge hx
                unfold upE at h5 hu
                omega
              · exact h.1
            have f3 : fdR r col 3 E = 4 := by unfold fdR; rw [hp]; simp [hu]
            have f1 : fdR r col 1 E = 0 := by unfold fdR; rw [hp]; simp
            have f2 : fdR r col 2 E = 0 := by unfold fdR; rw [hp]; simp
            have g1 : fdE r col 1 E = E.getD (dnI r col E) e0 := by unfold fdE selI; rw [f1]; simp
            have g2 : fdE r col 2 E = E.getD (ixE r col E) e0 := by unfold fdE selI; rw [f2]; simp
            have hb : ∀ x : Ed, byE 1 x = x.1 := fun x => rfl
            have hlt := hE1.2.2 (dnI r col E) (ixE r col E) (by omega) hx
            rw [hb, hb] at hlt
            have := (hfull _ hx).2
            refine Md.mid e (e.2.1 + (E.getD (dnI r col E) e0).1) (e.2.1 + (E.getD (ixE r col E) e0).1) hn (by rw [(aR 3 ru3).1, f3]; rfl) (by rw [(aR 1 ru1).1, f1]; rfl) (by rw [(aR 2 ru2).1, f2]; rfl)
              (by rw [(aR 1 ru1).2, f1, g1]; rfl) (by rw [(aR 2 ru2).2, f2, g2]; rfl) (by omega) (by omega) (by omega) (pl _ d1) (pl _ hx)

end Go.Proofs.YtdmkgocddikobaaDoor
