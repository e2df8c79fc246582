/- The document's answer of layer 6: Size, Edge, Cut. -/
import Derived.Test.YtnkeohiibninfabDoorRr7
import Derived.Test.YtnkeohiibninfabDoorRbkL
namespace Go.Proofs.YtnkeohiibninfabDoor
open Go.ChangeShapes Go.WideShapes Go.ChangeAt Go.RowKit

theorem EE_last (l : List Int) : (EE l).getD ((EE l).length - 1) e0 = stE l (spots l 0) := by
  rw [EE_len, Nat.add_sub_cancel]
  unfold EE
  rw [edL_getD _ _ _ (Nat.le_refl _), List.take_length]
set_option maxRecDepth 100000 in
theorem RSize_at (a0 : Option Addr) (cap : Nat) (l : List Int) (r : Int) (w : World) (hB : IsB w a0 cap l) (hr : isRu r = true) (hl : l.length ≤ 1048576) :
    Calls Tryd.prog 29 #[.slice a0 l.length cap, .int .i64 r] w fun y w' => y = .returned (.int .i64 (szE r l : Int)) ∧ Below w.heap.size w w' := by
  have hlE : (EE l).length ≤ 1048577 := by rw [EE_len]; have := (st_at hB.2.2.2 (List.prefix_refl (spots l 0))).2.2.2.2; omega
  have hsz : szE r l = byE r ((EE l).getD ((EE l).length - 1) e0) := by unfold szE; rw [hr, EE_last]; rfl
  have hlen0 := (inc_EE hB.2.2.2 r).2.1
  have hT1 := RTable_at a0 cap l r w hB hr hl
  rw [hsz]
  clear hB hsz
  go_enter Tryd.func29, Tryd.ntmps29
  go_wp2_with fail
  refine hT1.mono ?_
  rintro y w4 ⟨g4, c4, rfl, l4, z4, b4⟩
  clear hT1
  have clast : w4.cell? ⟨g4, (EE l).length - 1, none⟩ = some (.int .i64 (byE r ((EE l).getD ((EE l).length - 1) e0) : Nat)) := by
    have := l4 ((EE l).length - 1) (by rw [List.length_map]; omega)
    rwa [getD_map] at this
  generalize hLB : byE r ((EE l).getD ((EE l).length - 1) e0) = LB at *
  have HLB := hide hLB
  clear hLB l4
  generalize hN : (EE l).length = N at *
  obtain ⟨M, rfl⟩ : ∃ M, N = M + 1 := ⟨N - 1, by omega⟩
  rw [Nat.add_sub_cancel] at clast
  have HN := hide hN
  clear hN
  go_wp2_with fail
  go_ret
  exact ⟨ret_int (by rw [unhide HN, unhide HLB]), b4⟩

theorem eg_iff {r place : Int} {E : List Ed} (hE : Inc r E) (hr : isRu r = true) : isEg r place E = true ↔ ∃ k, k < E.length ∧ (byE r (E.getD k e0) : Int) = place := by
  unfold isEg
  rw [hr, Bool.true_and, decide_eq_true_iff]
  constructor
  · intro h
    obtain ⟨hp, hc⟩ := fdR_ok h
    obtain ⟨_, hx⟩ := of_decide_eq_true hp
    refine ⟨_, hx, ?_⟩
    rcases hc with h | h | h
    · exact h
    · omega
    · omega
  · rintro ⟨k, hk, rfl⟩
    exact (at_edge hE hk 3).2.2.1
set_option maxRecDepth 100000 in
theorem Table_no (a0 : Option Addr) (len cap : Nat) (r : Int) (w : World) (hr : isRu r = false) :
    Calls Tryd.prog 13 #[.slice a0 len cap, .int .i64 r] w fun y w' => y = .returned (.tuple #[.slice none 0 0, .int .i64 3]) ∧ Below w.heap.size w w' := by
  have k1 := Cls.new w 31 #[.int .i64 r]
  have b1 := (Below.refl w.heap.size w).alloc (Nat.le_refl _) (.cells #[.int .i64 r] 31)
  have c1 := k1.cell 0
  simp only [List.getElem?_toArray, List.getElem?_cons_zero] at c1
  go_enter Tryd.func13, Tryd.ntmps13
  go_wp2_with fail
  refine (isRuler_at r _).mono ?_
  rintro y w1 ⟨rfl, rfl⟩
  rw [hr]
  go_wp2_with fail
  refine bodyPost_ret (results_tmp2 rfl _ _ _) rfl ?_
  exact ⟨rfl, b1⟩

end Go.Proofs.YtnkeohiibninfabDoor
