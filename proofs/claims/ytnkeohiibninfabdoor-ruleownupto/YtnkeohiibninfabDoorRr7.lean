/- The document's answer of layer 6: Index, To. -/
import Derived.Test.YtnkeohiibninfabDoorRr6
namespace Go.Proofs.YtnkeohiibninfabDoor
open Go.ChangeShapes Go.WideShapes Go.ChangeAt Go.RowKit

def IdS (ps : List Nat) (place m v : Int) : Prop :=
  (∃ k, k < ps.length ∧ (∀ j, j < k → (ps.getD j 0 : Int) < place) ∧ place ≤ (ps.getD k 0 : Int) ∧ v = if (ps.getD k 0 : Int) = place then (k : Int) else if m = 1 then (k : Int) - 1 else if m = 2 then (k : Int) else -1) ∨ ((∀ j, j < ps.length → (ps.getD j 0 : Int) < place) ∧ v = -1)

set_option maxRecDepth 100000 in
set_option maxHeartbeats 1000000 in
theorem RIndex_at (g c : Nat) (ps : List Nat) (place m : Int) (w : World) (hL : LiesI w g ps) (hm : ps.length ≤ 4194304) :
    Calls Tryd.prog 40 #[.slice (some ⟨g, 0, none⟩) ps.length c, .int .i64 place, .int .i64 m] w fun y w' => ∃ v : Int, y = .returned (.int .i64 v) ∧ w' = w ∧ IdS ps place m v := by
  generalize hn : ps.length = n at *
  have HN := hide hn
  have HL := hide hL
  clear hn hL
  go_enter Tryd.func40, Tryd.ntmps40
  go_wp2
  go_loopw [7] (fun i wx => ∃ k : Nat, k ≤ n ∧ i = .int .i64 k ∧ wx = w ∧ Hid (∀ j, j < k → (ps.getD j 0 : Int) < place)) (fun i _ => n - (intOf i).toNat)
  case atStart => exact ⟨0, Nat.zero_le _, rfl, rfl, hide (fun j hj => absurd hj (Nat.not_lt_zero _))⟩
  case round =>
    obtain ⟨k, hk, rfl, rfl, hlo⟩ := hrel
    by_cases hlt : k < n
    · have c1 : wr.cell? ⟨g, k, none⟩ = some (.int .i64 (ps.getD k 0 : Nat)) := unhide HL k (by rw [unhide HN]; exact hlt)
      have hnext : Hid ((ps.getD k 0 : Int) < place → ∀ j, j < k + 1 → (ps.getD j 0 : Int) < place) := hide (fun h j hj => by
        rcases Nat.lt_or_ge j k with h1 | h1
        · exact unhide hlo j h1
        · obtain rfl : j = k := by omega
          exact h)
      have hres : Hid (∀ v : Int, place ≤ (ps.getD k 0 : Int) → (v = if (ps.getD k 0 : Int) = place then (k : Int) else if m = 1 then (k : Int) - 1 else if m = 2 then (k : Int) else -1) → IdS ps place m v) := hide (fun v h1 h2 => Or.inl ⟨k, by rw [unhide HN]; exact hlt, unhide hlo, h1, h2⟩)
      have hw1 : wrap64 ((k : Int) + 1) = (k : Int) + 1 := wrap_nat k 1 (by omega)
      have hw2 : wrap64 ((k : Int) - 1) = (k : Int) - 1 := wrap_in _ (by omega) (by omega)
      generalize ps.getD k 0 = x at *
      rcases Int.lt_trichotomy (x : Int) place with h | h | h
      · have q1 : ((x : Int) == place) = false := by simp; omega
        have q2 : decide ((x : Int) > place) = false := by simp; omega
        have HX := hide (unhide hnext h)
        clear hlo hnext hres h
        go_wp2
        go_roundw
        case rel => exact ⟨k + 1, by omega, by go_num, by first | rfl | trivial, HX⟩
        case measure => simp [intOf]; omega
      · have HR := hide (unhide hres (k : Int) (by omega) (by rw [if_pos h]))
        have q1 : ((x : Int) == place) = true := by simp; omega
        clear hlo hnext hres h
        go_wp2
        go_ret
        exact ⟨_, rfl, rfl, unhide HR⟩
      · have q1 : ((x : Int) == place) = false := by simp; omega
        have q2 : decide ((x : Int) > place) = true := by simp; omega
        by_cases m1 : m = 1
        · have HR := hide (unhide hres ((k : Int) - 1) (by omega) (by rw [if_neg (by omega), if_pos m1]))
          subst m1
          clear hlo hnext hres h
          go_wp2
          go_ret
          exact ⟨_, rfl, rfl, unhide HR⟩
        · have e1 : (m == 1) = false := by simpa using m1
          by_cases m2 : m = 2
          · have HR := hide (unhide hres (k : Int) (by omega) (by rw [if_neg (by omega), if_neg m1, if_pos m2]))
            subst m2
            clear hlo hnext hres h m1
            go_wp2
            go_ret
            exact ⟨_, rfl, rfl, unhide HR⟩
          · have e2 : (m == 2) = false := by simpa using m2
            have HR := hide (unhide hres (-1) (by omega) (by rw [if_neg (by omega), if_neg m1, if_neg m2]))
            clear hlo hnext hres h m1 m2
            go_wp2
            go_ret
            exact ⟨_, rfl, rfl, unhide HR⟩
    · obtain rfl : k = n := by omega
      go_wp2
      go_ret
      exact ⟨_, rfl, rfl, Or.inr ⟨fun j hj => unhide hlo j (by rw [unhide HN] at hj; exact hj), rfl⟩⟩

theorem getD_map (E : List Ed) (r : Int) (j : Nat) : ((E.map (byE r)).getD j 0) = byE r (E.getD j e0) := by
  simp only [List.getD, List.getElem?_map]
  cases E[j]? with
  | none => exact (by_e0 r).symm
  | some e => rfl
/-- what Index tells of a place -/
theorem index_is {r place m : Int} {E : List Ed} (hE : Inc r E) (hp : isPl r place E = true) (hm : isRu m = true) {v : Int}
    (h : IdS (E.map (byE r)) place m v) :
    fdR r place m E = 0 ∧ v = (selI r place m E : Int) ∧ selI r place m E < E.length ∨ fdR r place m E = 4 ∧ v < 0 := by
  unfold IdS at h
  simp only [getD_map, List.length_map] at h
  obtain ⟨h0, hx⟩ := of_decide_eq_true hp
  have hu := ix_ge hx
  rcases h with ⟨k, hk, h1, h2, h3⟩ | ⟨h1, _⟩
  · have hi : ixE r place E = k := ix_is (Nat.le_of_lt hk) h1 (fun _ => h2)
    have hup : upE r place E = E.getD k e0 := by unfold upE; rw [hi]
    have hmm := of_decide_eq_true hm
    have hsl := selI_lt (m := m) hE hp
    obtain ⟨_, dle, hor⟩ := dn_lt hE hp
    by_cases he : (byE r (E.getD k e0) : Int) = place
    · left
      rw [if_pos he] at h3
      have hd : dnI r place E = k := by unfold dnI; rw [hup, if_pos he, hi]
      refine ⟨by unfold fdR; rw [if_pos hp, if_pos (Or.inl (by rw [hup]; exact he))], ?_, hsl⟩
      rw [h3]
      unfold selI
      rw [hi, hd]
      split <;> rfl
    · rw [if_neg he] at h3
      have hd : dnI r place E = k - 1 := by unfold dnI; rw [hup, if_neg he, hi]
      by_cases m1 : m = 1
      · left
        rw [if_pos m1] at h3
        refine ⟨by unfold fdR; rw [if_pos hp, if_pos (Or.inr (Or.inl m1))], ?_, hsl⟩
        have hk1 : dnI r place E + 1 = k := by
          rcases hor with h' | ⟨h', _⟩
          · exfalso
            unfold dnE at dle
            rw [h', hi] at dle
            omega
          · rw [h', hi]
        unfold selI
        rw [if_neg (by omega)]
        omega
      · rw [if_neg m1] at h3
        by_cases m2 : m = 2
        · left
          rw [if_pos m2] at h3
          refine ⟨by unfold fdR; rw [if_pos hp, if_pos (Or.inr (Or.inr m2))], ?_, hsl⟩
          unfold selI
          rw [if_pos m2, hi, h3]
        · right
          rw [if_neg m2] at h3
          exact ⟨by unfold fdR; rw [if_pos hp, if_neg (by rw [hup]; rintro (h | h | h) <;> first | exact he h | exact m1 h | exact m2 h)], by omega⟩
  · exfalso
    have := h1 _ hx
    unfold upE at hu
    omega

set_option maxRecDepth 100000 in
set_option maxHeartbeats 2000000 in
theorem RTo_at (a0 : Option Addr) (cap : Nat) (l : List Int) (f place t m : Int) (w : World) (hB : IsB w a0 cap l) (hl : l.length ≤ 1048576) :
    Calls Tryd.prog 30 #[.slice a0 l.length cap, .int .i64 f, .int .i64 place, .int .i64 t, .int .i64 m] w fun y w' =>
      y = .returned (.tuple #[.int .i64 (toP f place t m (EE l) : Int), .int .i64 (toR f place t m (EE l))]) ∧ Below w.heap.size w w' := by
  have b0 := Below.refl w.heap.size w
  have k1 := RRuler_at f w
  have k2 := RRuler_at t w
  have k3 := RMode_at m w
  have hlE : (EE l).length ≤ 1048577 := by rw [EE_len]; have := (st_at hB.2.2.2 (List.prefix_refl (spots l 0))).2.2.2.2; omega
  unfold toP toR
  cases hc : isRu f && (isRu t && isRu m) with
  | false =>
    go_enter Tryd.func30, Tryd.ntmps30
    go_wp2_with fail
    refine k1.mono ?_
    rintro y w1 ⟨rfl, rfl⟩
    go_wp2_with fail
    refine k2.mono ?_
    rintro y w2 ⟨rfl, rfl⟩
    go_wp2_with fail
    refine k3.mono ?_
    rintro y w3 ⟨rfl, rfl⟩
    clear k1 k2 k3
    generalize isRu f = x1 at *
    generalize isRu t = x2 at *
    generalize isRu m = x3 at *
    cases x1 <;> cases x2 <;> cases x3 <;> first | (exfalso; revert hc; decide) | skip
    all_goals clear hc
    all_goals go_wp2_with fail
    all_goals refine bodyPost_ret (results_tmp2 rfl _ _ _) rfl ?_
    all_goals exact ⟨rfl, b0⟩
  | true =>
    obtain ⟨h1, h23⟩ := Bool.and_eq_true_iff.1 hc
    obtain ⟨h2, h3⟩ := Bool.and_eq_true_iff.1 h23
    rw [h1] at k1
    rw [h2] at k2
    rw [h3] at k3
    clear hc h23
    have hE := inc_EE hB.2.2.2 f
    have hT1 := RTable_at a0 cap l f w hB h1 hl
    simp only [if_true]
    go_enter Tryd.func30, Tryd.ntmps30
    go_wp2_with fail
    refine k1.mono ?_
    rintro y w1 ⟨rfl, rfl⟩
    go_wp2_with fail
    refine k2.mono ?_
    rintro y w2 ⟨rfl, rfl⟩
    go_wp2_with fail
    refine k3.mono ?_
    rintro y w3 ⟨rfl, rfl⟩
    clear k1 k2 k3
    go_wp2_with fail
    refine hT1.mono ?_
    rintro y w4 ⟨g4, c4, rfl, l4, z4, b4⟩
    clear hT1
    have hlen0 := hE.2.1
    have clast : w4.cell? ⟨g4, (EE l).length - 1, none⟩ = some (.int .i64 (byE f ((EE l).getD ((EE l).length - 1) e0) : Nat)) := by
      have := l4 ((EE l).length - 1) (by rw [List.length_map]; omega)
      rwa [getD_map] at this
    have hpl := isPl_iff (place := place) hE
    have hix := RIndex_at g4 c4 ((EE l).map (byE f)) place m w4 l4 (by rw [List.length_map]; omega)
    rw [List.length_map] at hix
    generalize hLB : byE f ((EE l).getD ((EE l).length - 1) e0) = LB at *
    clear hLB l4
    generalize hN : (EE l).length = N at *
    have HN := hide hN
    clear hN
    obtain ⟨M, rfl⟩ : ∃ M, N = M + 1 := ⟨N - 1, by omega⟩
    rw [Nat.add_sub_cancel] at clast
    have hno : fdR f place m (EE l) = 2 → fdE f place m (EE l) = e0 := fun h => by unfold fdE; rw [h]; rfl
    have hin : fdR f place m (EE l) = 4 → fdE f place m (EE l) = e0 := fun h => by unfold fdE; rw [h]; rfl
    by_cases h4 : place < 0
    · have q4 : decide (place < 0) = true := by simpa using h4
      have hp : isPl f place (EE l) = false := by
        cases hh : isPl f place (EE l) with
        | false => rfl
        | true => have := hpl.1 hh; omega
      have HR := hide (fd_no (m := m) hp)
      clear h4 hpl hix hp hno hin
      go_wp2_with fail
      refine bodyPost_ret (results_tmp2 rfl _ _ _) rfl ?_
      rw [(unhide HR).1, (unhide HR).2, by_e0]
      exact ⟨rfl, b4⟩
    · have q4 : decide (place < 0) = false := by simpa using h4
      by_cases h5 : (LB : Int) < place
      · have q5 : decide (place > (LB : Int)) = true := by simpa using h5
        have hp : isPl f place (EE l) = false := by
          cases hh : isPl f place (EE l) with
          | false => rfl
          | true => have := hpl.1 hh; omega
        have HR := hide (fd_no (m := m) hp)
        clear h4 h5 hpl hix hp hno hin
        go_wp2_with fail
        refine bodyPost_ret (results_tmp2 rfl _ _ _) rfl ?_
        rw [(unhide HR).1, (unhide HR).2, by_e0]
        exact ⟨rfl, b4⟩
      · have q5 : decide (place > (LB : Int)) = false := by simpa using h5
        have hp : isPl f place (EE l) = true := hpl.2 ⟨by omega, by omega⟩
        have HP := hide hp
        clear h4 h5 hpl hp
        go_wp2_with fail
        refine hix.mono ?_
        rintro y w5 ⟨v, rfl, rfl, hv⟩
        clear hix
        rcases index_is hE (unhide HP) h3 hv with ⟨i1, i2, i3⟩ | ⟨i1, i2⟩
        · subst i2
          have HI1 := hide i1
          have hfe : fdE f place m (EE l) = (EE l).getD (selI f place m (EE l)) e0 := by unfold fdE; rw [if_pos i1]
          have HFE := hide hfe
          rw [unhide HN] at i3
          generalize selI f place m (EE l) = sI at *
          have qs : decide ((sI : Int) < 0) = false := by simp
          clear i1 hfe hv hno hin
          have hB5 := hB.below b4 (Nat.le_refl _)
          go_wp2_with fail
          refine (RTable_at a0 cap l t w5 hB5 h2 hl).mono ?_
          rintro y w6 ⟨g6, c6, rfl, l6, z6, b6⟩
          have c6' : w6.cell? ⟨g6, sI, none⟩ = some (.int .i64 (byE t ((EE l).getD sI e0) : Nat)) := by
            have := l6 sI (by rw [List.length_map, unhide HN]; exact i3)
            rwa [getD_map] at this
          rw [unhide HN]
          clear l6
          go_wp2_with fail
          refine bodyPost_ret (results_tmp2 rfl _ _ _) rfl ?_
          rw [unhide HI1, unhide HFE]
          exact ⟨rfl, b4.trans (b6.mono b4.size)⟩
        · have HR := hide (And.intro i1 (hin i1))
          have qs : decide (v < 0) = true := by simpa using i2
          clear i1 i2 hno hin hv
          go_wp2_with fail
          refine bodyPost_ret (results_tmp2 rfl _ _ _) rfl ?_
          rw [(unhide HR).1, (unhide HR).2, by_e0]
          exact ⟨rfl, b4⟩

end Go.Proofs.YtnkeohiibninfabDoor
