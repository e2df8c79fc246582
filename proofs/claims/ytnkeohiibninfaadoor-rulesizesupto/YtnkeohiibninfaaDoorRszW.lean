/- The walk of RuleSizes, for arguments under the bound: it answers true wherever the table holds the classes, and changes nothing that was there. -/
import Derived.Test.YtnkeohiibninfaaDoorRr8
import Derived.Test.YtnkeohiibninfaaDoorLwT
namespace Go.Proofs.YtnkeohiibninfaaDoor
open Go.ChangeShapes Go.WideShapes Go.ChangeAt Go.RowKit

set_option maxRecDepth 100000 in
set_option maxHeartbeats 8000000 in
theorem RuleSizes_any (a0 : Option Addr) (cap : Nat) (l : List Int) (r place : Int) (w : World) (hB : IsB w a0 cap l) (qb : cap ≤ 1048576) (_hr : (Lit.int .i64 r).wf = true) (_hp : (Lit.int .i64 place).wf = true) (hT : Tab w) :
    Calls Tryd.prog 7 #[.slice a0 l.length cap, .int .i64 r, .int .i64 place] w fun e w' => e = .returned (.bool true) ∧ Below w.heap.size w w' := by
  have hl : l.length ≤ 1048576 := Nat.le_trans hB.1 qb
  have hlE : (EE l).length ≤ 1048577 := by rw [EE_len]; have := (st_at hB.2.2.2 (List.prefix_refl (spots l 0))).2.2.2.2; omega
  have hne : (EE l).map (byE r) ≠ [] := fun h => by have := congrArg List.length h; rw [List.length_map, EE_len] at this; simp at this
  have L1 : Lw w a0 cap l [] w := ⟨hB, hT, Below.refl _ _, fun y hy => by cases hy⟩
  clear hT hB
  cases hr : isRu r with
  | false =>
    have hsz : szE r l = 0 ∧ szR r = 3 := by unfold szE szR; rw [hr]; exact ⟨rfl, rfl⟩
    have heg : isEg r place (EE l) = false := by unfold isEg; rw [hr]; rfl
    go_enter Tryd.func7, Tryd.ntmps7
    go_wp2_with fail
    refine (wakes6_any w L1.t).mono ?_
    rintro e w2 ⟨rfl, x2⟩
    have L2 := L1.on x2
    clear L1 x2
    go_wp2_with fail
    refine (own_at a0 cap l w2 L2.b).mono ?_
    rintro e w3 ⟨a3, c3, rfl, i3, x3⟩
    have L3 := L2.on x3
    clear L2 x3
    go_wp2_with fail
    refine (Size_at a3 c3 l r w3 i3 L3.t).mono ?_
    rw [hsz.1, hsz.2]
    rintro e w4 ⟨rfl, x4⟩
    have L4 := L3.on x4
    clear L3 x4 i3
    go_wp2_with fail
    refine (own_at a0 cap l w4 L4.b).mono ?_
    rintro e w5 ⟨a5, c5, rfl, i5, x5⟩
    have L5 := L4.on x5
    clear L4 x5
    go_wp2_with fail
    refine (Table_no a5 l.length c5 r w5 hr).mono ?_
    rintro e w6 ⟨rfl, x6⟩
    have L6 := L5.on x6
    clear L5 x6 i5
    go_wp2_with fail
    refine (own_at a0 cap l w6 L6.b).mono ?_
    rintro e w7 ⟨a7, c7, rfl, i7, x7⟩
    have L7 := L6.on x7
    clear L6 x7
    go_wp2_with fail
    refine (EdgeR_at a7 c7 l r place w7 i7 L7.t).mono ?_
    rw [heg]
    rintro e w8 ⟨rfl, x8⟩
    have L8 := L7.on x8
    clear L7 x8 i7
    go_wp2_with fail
    have hed := REdge_at a0 cap l r place w8 L8.b hl
    rw [heg] at hed
    refine hed.mono ?_
    rintro e w9 ⟨rfl, x9⟩
    have L9 := L8.on x9
    clear L8 x9 hed
    go_wp2_with fail
    refine (RRuler_at r w9).mono ?_
    rintro e w10 ⟨rfl, rfl⟩
    rw [hr]
    go_wp2_with fail
    go_ret
    exact ⟨rfl, L9.d⟩
  | true =>
    have hsz : szR r = 0 := by unfold szR; rw [hr]; rfl
    go_enter Tryd.func7, Tryd.ntmps7
    go_wp2_with fail
    refine (wakes6_any w L1.t).mono ?_
    rintro e w2 ⟨rfl, x2⟩
    have L2 := L1.on x2
    clear L1 x2
    go_wp2_with fail
    refine (own_at a0 cap l w2 L2.b).mono ?_
    rintro e w3 ⟨a3, c3, rfl, i3, x3⟩
    have L3 := L2.on x3
    clear L2 x3
    go_wp2_with fail
    refine (Size_at a3 c3 l r w3 i3 L3.t).mono ?_
    rw [hsz]
    rintro e w4 ⟨rfl, x4⟩
    have L4 := L3.on x4
    clear L3 x4 i3
    generalize hZ : szE r l = Z at *
    have HZ := hide hZ
    clear hZ
    go_wp2_with fail
    refine (own_at a0 cap l w4 L4.b).mono ?_
    rintro e w5 ⟨a5, c5, rfl, i5, x5⟩
    have L5 := L4.on x5
    clear L4 x5
    go_wp2_with fail
    refine (Table_in a5 c5 l r w5 i5 L5.t hr hl).mono ?_
    rintro e w6 ⟨v6, rfl, o6, x6⟩
    have L6 := L5.on x6
    clear L5 x6 i5
    rw [intsE_map, ← List.length_map (f := byE r)] at o6
    obtain ⟨g6, c6, rfl, l6, z6⟩ := rowI o6 hne
    clear o6
    rw [List.length_map]
    go_wp2_with fail
    refine (own_at a0 cap l w6 L6.b).mono ?_
    rintro e w7 ⟨a7, c7, rfl, i7, x7⟩
    have L7 := L6.on x7
    have l7 := l6.below x7 z6
    have z7 := Nat.lt_of_lt_of_le z6 x7.size
    clear l6 z6
    clear L6 x7
    go_wp2_with fail
    refine (EdgeR_at a7 c7 l r place w7 i7 L7.t).mono ?_
    generalize hEG : isEg r place (EE l) = eg at *
    have HEG := hide hEG
    clear hEG
    rintro e w8 ⟨rfl, x8⟩
    have L8 := L7.on x8
    have l8 := l7.below x8 z7
    have z8 := Nat.lt_of_lt_of_le z7 x8.size
    clear l7 z7
    clear L7 x8 i7
    go_wp2_with fail
    have hed := REdge_at a0 cap l r place w8 L8.b hl
    rw [unhide HEG] at hed
    refine hed.mono ?_
    rintro e w9 ⟨rfl, x9⟩
    have L9 := L8.on x9
    have l9 := l8.below x9 z8
    have z9 := Nat.lt_of_lt_of_le z8 x9.size
    clear l8 z8
    clear L8 x9 hed
    have hsize := RSize_at a0 cap l r w9 L9.b hr hl
    rw [unhide HZ] at hsize
    have hrul := RRuler_at r w9
    rw [hr] at hrul
    cases eg
    all_goals go_wp2_with fail
    all_goals refine hrul.mono ?_
    all_goals rintro e w10 ⟨rfl, rfl⟩
    all_goals go_wp2_with fail
    all_goals refine hsize.mono ?_
    all_goals rintro e w11 ⟨rfl, x11⟩
    all_goals have L11 := L9.on x11
    all_goals have l11 := l9.below x11 z9
    all_goals have z11 := Nat.lt_of_lt_of_le z9 x11.size
    all_goals clear L9 l9 z9 x11 hsize hrul
    all_goals go_wp2_with fail
    all_goals refine (RTable_at a0 cap l r w11 L11.b hr hl).mono ?_
    all_goals rintro e w12 ⟨g12, c12, rfl, l12, z12, x12⟩
    all_goals have L12 := L11.on x12
    all_goals have m12 := l11.below x12 z11
    all_goals have hsi := SameI_some g6 g12 c6 c12 ((EE l).map (byE r)) w12 m12 l12 (by rw [List.length_map]; unfold maxLen; omega)
    all_goals rw [List.length_map] at hsi
    all_goals clear L11 l11 z11 x12
    all_goals go_wp2_with fail
    all_goals refine hsi.mono ?_
    all_goals rintro e w13 ⟨rfl, h13⟩
    all_goals have L13 := L12.on (quiet_below h13 _)
    all_goals clear L12 h13 hsi
    all_goals go_wp2_with fail
    all_goals go_ret
    all_goals exact ⟨rfl, L13.d⟩

end Go.Proofs.YtnkeohiibninfaaDoor
