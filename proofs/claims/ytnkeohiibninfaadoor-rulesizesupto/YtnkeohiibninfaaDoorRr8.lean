/- The document's answer of layer 6: Size, Edge, Cut. -/
import Derived.Test.YtnkeohiibninfaaDoorRr7
import Derived.Test.YtnkeohiibninfaaDoorRbkL
namespace Go.Proofs.YtnkeohiibninfaaDoor
open Go.ChangeShapes Go.WideShapes Go.ChangeAt Go.RowKit

theorem EE_last (l : List Int) : (EE l).getD ((EE l).length - 1) e0 = stE l (spots l 0) := by
  rw [EE_len, Nat.add_sub_cancel]
  unfold EE
  rw [edL_getD _ _ _ (Nat.le_refl _), List.take_length]
set_option maxRecDepth 100000 in
theorem RSize_at (a0 : Option Addr) (cap : Nat) (l : List Int) (r : Int) (w : World) (hB : IsB w a0 cap l) (hr : isRu r = true) (hl : l.length ≤ 1048576) :
    Calls Tryd.prog 30 #[.slice a0 l.length cap, .int .i64 r] w fun y w' => y = .returned (.int .i64 (szE r l : Int)) ∧ Below w.heap.size w w' := by
  have hlE : (EE l).length ≤ 1048577 := by rw [EE_len]; have := (st_at hB.2.2.2 (List.prefix_refl (spots l 0))).2.2.2.2; omega
  have hsz : szE r l = byE r ((EE l).getD ((EE l).length - 1) e0) := by unfold szE; rw [hr, EE_last]; rfl
  have hlen0 := (inc_EE hB.2.2.2 r).2.1
  have hT1 := RTable_at a0 cap l r w hB hr hl
  rw [hsz]
  clear hB hsz
  go_enter Tryd.func30, Tryd.ntmps30
  go_wp2_with fail
  refine hT1.mono ?_
  rintro y w4 ⟨g4, c4, rfl, l4, z4, b4⟩
  clear hT1
  have clast : w4.cell? ⟨g4, (EE l).length - 1, none⟩ = some (.int .i64 (byE r ((EE l).getD ((EE l).length - 1) e0) : Nat)) := by
    have := l4 ((EE l).length - 1) (by rw [List.length_map]; omega)
    rwa [getD_map] at this
  generalize hLB : byE r ((EE l).getD ((EE l).length - 1) e0) = LB at *
  have HLB := hide hLB
  clear hLB l4
  generalize hN : (EE l).length = N at *
  obtain ⟨M, rfl⟩ : ∃ M, N = M + 1 := ⟨N - 1, by omega⟩
  rw [Nat.add_sub_cancel] at clast
  have HN := hide hN
  clear hN
  go_wp2_with fail
  go_ret
  exact ⟨ret_int (by rw [unhide HN, unhide HLB]), b4⟩

theorem eg_iff {r place : Int} {E : List Ed} (hE : Inc r E) (hr : isRu r = true) : isEg r place E = true ↔ ∃ k, k < E.length ∧ (byE r (E.getD k e0) : Int) = place := by
  unfold isEg
  rw [hr, Bool.true_and, decide_eq_true_iff]
  constructor
  · intro h
    obtain ⟨hp, hc⟩ := fdR_ok h
    obtain ⟨_, hx⟩ := of_decide_eq_true hp
    refine ⟨_, hx, ?_⟩
    rcases hc with h | h | h
    · exact h
    · omega
    · omega
  · rintro ⟨k, hk, rfl⟩
    exact (at_edge hE hk 3).2.2.1
set_option maxRecDepth 100000 in
set_option maxHeartbeats 1000000 in
theorem REdge_at (a0 : Option Addr) (cap : Nat) (l : List Int) (r place : Int) (w : World) (hB : IsB w a0 cap l) (hl : l.length ≤ 1048576) :
    Calls Tryd.prog 28 #[.slice a0 l.length cap, .int .i64 r, .int .i64 place] w fun y w' => y = .returned (.bool (isEg r place (EE l))) ∧ Below w.heap.size w w' := by
  have k1 := RRuler_at r w
  have b0 := Below.refl w.heap.size w
  have hlE : (EE l).length ≤ 1048577 := by rw [EE_len]; have := (st_at hB.2.2.2 (List.prefix_refl (spots l 0))).2.2.2.2; omega
  cases hr : isRu r with
  | false =>
    rw [hr] at k1
    have he : isEg r place (EE l) = false := by unfold isEg; rw [hr]; rfl
    rw [he]
    go_enter Tryd.func28, Tryd.ntmps28
    go_wp2_with fail
    refine k1.mono ?_
    rintro y w1 ⟨rfl, rfl⟩
    go_wp2_with fail
    go_ret
    exact ⟨rfl, b0⟩
  | true =>
    rw [hr] at k1
    have hE := inc_EE hB.2.2.2 r
    have HI := hide (eg_iff (place := place) hE hr)
    have hT1 := RTable_at a0 cap l r w hB hr hl
    generalize hEG : isEg r place (EE l) = eg at *
    clear hB hEG
    go_enter Tryd.func28, Tryd.ntmps28
    go_wp2_with fail
    refine k1.mono ?_
    rintro y w1 ⟨rfl, rfl⟩
    go_wp2_with fail
    refine hT1.mono ?_
    rintro y w4 ⟨g4, c4, rfl, l4, z4, b4⟩
    clear hT1 k1 b0
    have HL := hide l4
    clear l4
    generalize hN : (EE l).length = N at *
    have HN := hide hN
    clear hN
    go_wp2_with fail
    go_loopw [9] (fun i wx => ∃ k : Nat, k ≤ N ∧ i = .int .i64 k ∧ wx = w4 ∧ Hid (∀ j, j < k → ¬ (byE r ((EE l).getD j e0) : Int) = place)) (fun i _ => N - (intOf i).toNat)
    case atStart => exact ⟨0, Nat.zero_le _, rfl, rfl, hide (fun j hj => absurd hj (Nat.not_lt_zero _))⟩
    case round =>
      obtain ⟨k, hk, rfl, rfl, hlo⟩ := hrel
      by_cases hlt : k < N
      · have c1 : wr.cell? ⟨g4, k, none⟩ = some (.int .i64 (byE r ((EE l).getD k e0) : Nat)) := by
          have := unhide HL k (by rw [List.length_map, unhide HN]; exact hlt)
          rwa [getD_map] at this
        have hw1 : wrap64 ((k : Int) + 1) = (k : Int) + 1 := wrap_nat k 1 (by omega)
        by_cases h : (byE r ((EE l).getD k e0) : Int) = place
        · have hT : eg = true := (unhide HI).2 ⟨k, hlt, h⟩
          subst hT
          have q1 : ((byE r ((EE l).getD k e0) : Int) == place) = true := by simpa using h
          generalize byE r ((EE l).getD k e0) = x at *
          clear hlo h
          go_wp2
          go_ret
          exact ⟨rfl, b4⟩
        · have HX : Hid (∀ j, j < k + 1 → ¬ (byE r ((EE l).getD j e0) : Int) = place) := hide (fun j hj => by
            rcases Nat.lt_or_ge j k with h1 | h1
            · exact unhide hlo j h1
            · obtain rfl : j = k := by omega
              exact h)
          have q1 : ((byE r ((EE l).getD k e0) : Int) == place) = false := by simpa using h
          generalize byE r ((EE l).getD k e0) = x at *
          clear hlo h
          go_wp2
          go_roundw
          case rel => exact ⟨k + 1, by omega, by go_num, by first | rfl | trivial, HX⟩
          case measure => simp [intOf]; omega
      · obtain rfl : k = N := by omega
        have hF : eg = false := by
          cases hh : eg with
          | false => rfl
          | true =>
            obtain ⟨j, h1, h2⟩ := (unhide HI).1 hh
            exact absurd h2 (unhide hlo j h1)
        subst hF
        go_wp2
        go_ret
        exact ⟨rfl, b4⟩

set_option maxRecDepth 100000 in
theorem Table_no (a0 : Option Addr) (len cap : Nat) (r : Int) (w : World) (hr : isRu r = false) :
    Calls Tryd.prog 26 #[.slice a0 len cap, .int .i64 r] w fun y w' => y = .returned (.tuple #[.slice none 0 0, .int .i64 3]) ∧ Below w.heap.size w w' := by
  have k1 := Cls.new w 53 #[.int .i64 r]
  have b1 := (Below.refl w.heap.size w).alloc (Nat.le_refl _) (.cells #[.int .i64 r] 53)
  have c1 := k1.cell 0
  simp only [List.getElem?_toArray, List.getElem?_cons_zero] at c1
  go_enter Tryd.func26, Tryd.ntmps26
  go_wp2_with fail
  refine (isRuler_at r _).mono ?_
  rintro y w1 ⟨rfl, rfl⟩
  rw [hr]
  go_wp2_with fail
  refine bodyPost_ret (results_tmp2 rfl _ _ _) rfl ?_
  exact ⟨rfl, b1⟩

end Go.Proofs.YtnkeohiibninfaaDoor
