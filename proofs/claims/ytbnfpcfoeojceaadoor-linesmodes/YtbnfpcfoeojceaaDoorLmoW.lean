/- LinesModes: the walk (written by wip/tools/lmo.py). -/
import Derived.Test.YtbnfpcfoeojceaaDoorLwL
import Derived.Deep.Cut
namespace Go.Proofs.YtbnfpcfoeojceaaDoor
open Go.ChangeShapes Go.WideShapes Go.ChangeAt Go.RowKit
attribute [local go_sem] Oper.semAt_some

set_option maxRecDepth 100000 in
set_option maxHeartbeats 8000000 in
theorem LinesModes_any (a0 : Option Addr) (cap : Nat) (l : List Int) (line col r : Int) (w : World) (hB : IsB w a0 cap l) (_hr : (Lit.int .i64 r).wf = true) (hT : Tab w) :
    Calls Tryd.prog 7 #[.slice a0 l.length cap, .agg #[.int .i64 line, .int .i64 col], .int .i64 r] w fun e w' => e = .returned (.bool true) ∧ Below w.heap.size w w' := by
  clear _hr
  have HM := hide (modes_of hB.2.2.2 line col r)
  have HA := fun m => AtL_at (l := l) (line := line) (col := col) (r := r) (m := m)
  have A1 := hide fun a c X j t => HA 1 a c X j t
  have A2 := hide fun a c X j t => HA 2 a c X j t
  have A3 := hide fun a c X j t => HA 3 a c X j t
  clear HA
  generalize atP l line col r 1 = p1 at *
  generalize atP l line col r 2 = p2 at *
  generalize atP l line col r 3 = p3 at *
  generalize atR l line col r 1 = r1 at *
  generalize atR l line col r 2 = r2 at *
  generalize atR l line col r 3 = r3 at *
  have L0 : Lw w a0 cap l [] w := ⟨hB, hT, Below.refl _ _, fun y hy => by cases hy⟩
  have Ls := L0.new 45 #[.int .i64 line, .int .i64 col]
  clear L0 hB hT
  go_enter Tryd.func7, Tryd.ntmps7
  go_wp2_with fail
  generalize w.alloc (.cells #[.int .i64 line, .int .i64 col] 45) = y0 at *
  generalize hgS : w.heap.size = gS at *

  clear hgS
  have h1 := awake7_any y0 Ls.t
  refine h1.mono ?_
  rintro e y1 ⟨rfl, x1⟩
  have L1 := Ls.on x1
  clear h1 x1 Ls
  go_wp2_with fail
  refine (Large_at a0 l.length cap y1).mono ?_
  rintro e w1' ⟨rfl, hw1⟩
  rw [hw1]
  clear hw1 w1'
  by_cases hL : 600 < l.length
  · have q1 : decide (600 < l.length) = true := decide_eq_true hL
    rw [q1]
    go_wp2_with fail
    go_ret
    exact ⟨rfl, L1.d⟩
  · have q1 : decide (600 < l.length) = false := decide_eq_false hL
    rw [q1]
    clear q1 hL
    go_wp2_with fail
    have L50 := L1.drew
    have HS50 : Hid ((fun w' : World => w'.cell? ⟨gS, 0, none⟩ = some (.int .i64 line) ∧ w'.cell? ⟨gS, 1, none⟩ = some (.int .i64 col)) y1.drew) := hide ⟨(L50.one.cell 0).trans rfl, (L50.one.cell 1).trans rfl⟩
    refine regionL (S := fun w' => w'.cell? ⟨gS, 0, none⟩ = some (.int .i64 line) ∧ w'.cell? ⟨gS, 1, none⟩ = some (.int .i64 col)) (fun _ => false) (by kernel_rfl) ?_
    clear L1
    generalize y1.drew = y50 at *
    refine anyL_take (i := 0) (v := ?vq0) rfl (by kernel_rfl) (by kernel_rfl) (by kernel_rfl) (by kernel_rfl) (fun _ _ _ h => h) (Or.inl ⟨by rfl, ?hq0⟩) (unhide HS50) ?_
    case hq0 => (intro w hSw; (try dsimp only at hSw); go_simp) <;> with_reducible rfl
    simp only [Act.put, List.getElem_toArray, List.getElem_cons_zero, List.setIfInBounds_toArray, List.set_cons_zero, List.set_cons_succ]
    refine anyL_take (i := 2) (v := ?vq1) rfl (by kernel_rfl) (by kernel_rfl) (by kernel_rfl) (by kernel_rfl) (fun _ _ _ h => h) (Or.inl ⟨by rfl, ?hq1⟩) (unhide HS50) ?_
    case hq1 => (intro w hSw; (try dsimp only at hSw); go_simp) <;> with_reducible rfl
    simp only [Act.put, List.getElem_toArray, List.getElem_cons_zero, List.getElem_cons_succ, List.setIfInBounds_toArray, List.set_cons_zero, List.set_cons_succ]
    refine anyL_take (i := 3) (v := ?vq2) rfl (by kernel_rfl) (by kernel_rfl) (by kernel_rfl) (by kernel_rfl) (fun _ _ _ h => h) (Or.inl ⟨by rfl, ?hq2⟩) (unhide HS50) ?_
    case hq2 => (intro w hSw; (try dsimp only at hSw); go_simp) <;> with_reducible rfl
    simp only [Act.put, List.getElem_toArray, List.getElem_cons_zero, List.getElem_cons_succ, List.setIfInBounds_toArray, List.set_cons_zero, List.set_cons_succ]
    refine anyL_ready (rs := [1]) (by kernel_rfl) (by simp) ?_
    refine AllL.cons rfl (fun K hK => ?_) AllL.nil
    go_simp
    refine (own7_at a0 cap l y50 L50.b).mono ?_
    rintro y y51 ⟨a51, c51, rfl, j51, x51⟩
    have L51 := L50.on x51
    have HS51 : Hid ((fun w' : World => w'.cell? ⟨gS, 0, none⟩ = some (.int .i64 line) ∧ w'.cell? ⟨gS, 1, none⟩ = some (.int .i64 col)) y51) := hide ⟨(L51.one.cell 0).trans rfl, (L51.one.cell 1).trans rfl⟩
    refine unhide hK _ _ (fun _ => unhide HS51) ?_
    clear hK K x51 L50 HS50
    refine anyL_ready (rs := [4]) (by kernel_rfl) (by simp) ?_
    refine AllL.cons rfl (fun K hK => ?_) AllL.nil
    go_simp
    refine (unhide A3 a51 c51 y51 j51 L51.t).mono ?_
    rintro y y52 ⟨rfl, x52⟩
    have L52 := L51.on x52
    have HS52 : Hid ((fun w' : World => w'.cell? ⟨gS, 0, none⟩ = some (.int .i64 line) ∧ w'.cell? ⟨gS, 1, none⟩ = some (.int .i64 col)) y52) := hide ⟨(L52.one.cell 0).trans rfl, (L52.one.cell 1).trans rfl⟩
    refine unhide hK _ _ (fun _ => unhide HS52) ?_
    clear hK K x52 L51 HS51 j51
    refine anyL_take (i := 5) (v := ?vq3) rfl (by kernel_rfl) (by kernel_rfl) (by kernel_rfl) (by kernel_rfl) (fun _ _ _ h => h) (Or.inl ⟨by rfl, ?hq3⟩) (unhide HS52) ?_
    case hq3 => (intro w hSw; (try dsimp only at hSw); go_simp) <;> with_reducible rfl
    simp only [Act.put, List.getElem_toArray, List.getElem_cons_zero, List.getElem_cons_succ, List.setIfInBounds_toArray, List.set_cons_zero, List.set_cons_succ]
    refine anyL_take (i := 6) (v := ?vq4) rfl (by kernel_rfl) (by kernel_rfl) (by kernel_rfl) (by kernel_rfl) (fun _ _ _ h => h) (Or.inl ⟨by rfl, ?hq4⟩) (unhide HS52) ?_
    case hq4 => (intro w hSw; (try dsimp only at hSw); go_simp) <;> with_reducible rfl
    simp only [Act.put, List.getElem_toArray, List.getElem_cons_zero, List.getElem_cons_succ, List.setIfInBounds_toArray, List.set_cons_zero, List.set_cons_succ]
    refine anyL_take (i := 7) (v := ?vq5) rfl (by kernel_rfl) (by kernel_rfl) (by kernel_rfl) (by kernel_rfl) (fun _ _ _ h => h) (Or.inl ⟨by rfl, ?hq5⟩) (unhide HS52) ?_
    case hq5 => (intro w hSw; (try dsimp only at hSw); go_simp) <;> with_reducible rfl
    simp only [Act.put, List.getElem_toArray, List.getElem_cons_zero, List.getElem_cons_succ, List.setIfInBounds_toArray, List.set_cons_zero, List.set_cons_succ]
    refine anyL_take (i := 8) (v := ?vq6) rfl (by kernel_rfl) (by kernel_rfl) (by kernel_rfl) (by kernel_rfl) (fun _ _ _ h => h) (Or.inl ⟨by rfl, ?hq6⟩) (unhide HS52) ?_
    case hq6 => (intro w hSw; (try dsimp only at hSw); go_simp) <;> with_reducible rfl
    simp only [Act.put, List.getElem_toArray, List.getElem_cons_zero, List.getElem_cons_succ, List.setIfInBounds_toArray, List.set_cons_zero, List.set_cons_succ]
    refine anyL_take (i := 9) (v := ?vq7) rfl (by kernel_rfl) (by kernel_rfl) (by kernel_rfl) (by kernel_rfl) (fun _ _ _ h => h) (Or.inl ⟨by rfl, ?hq7⟩) (unhide HS52) ?_
    case hq7 => (intro w hSw; (try dsimp only at hSw); go_simp) <;> with_reducible rfl
    simp only [Act.put, List.getElem_toArray, List.getElem_cons_zero, List.getElem_cons_succ, List.setIfInBounds_toArray, List.set_cons_zero, List.set_cons_succ]
    refine anyL_done (by kernel_rfl) ?_ _
    clear HS52
    go_wp2_with fail
    have L60 := L52.drew
    have HS60 : Hid ((fun w' : World => w'.cell? ⟨gS, 0, none⟩ = some (.int .i64 line) ∧ w'.cell? ⟨gS, 1, none⟩ = some (.int .i64 col)) y52.drew) := hide ⟨(L60.one.cell 0).trans rfl, (L60.one.cell 1).trans rfl⟩
    refine regionL (S := fun w' => w'.cell? ⟨gS, 0, none⟩ = some (.int .i64 line) ∧ w'.cell? ⟨gS, 1, none⟩ = some (.int .i64 col)) (fun _ => false) (by kernel_rfl) ?_
    clear L52
    generalize y52.drew = y60 at *
    refine anyL_take (i := 0) (v := ?vq8) rfl (by kernel_rfl) (by kernel_rfl) (by kernel_rfl) (by kernel_rfl) (fun _ _ _ h => h) (Or.inl ⟨by rfl, ?hq8⟩) (unhide HS60) ?_
    case hq8 => (intro w hSw; (try dsimp only at hSw); go_simp) <;> with_reducible rfl
    simp only [Act.put, List.getElem_toArray, List.getElem_cons_zero, List.setIfInBounds_toArray, List.set_cons_zero, List.set_cons_succ]
    refine anyL_take (i := 2) (v := ?vq9) rfl (by kernel_rfl) (by kernel_rfl) (by kernel_rfl) (by kernel_rfl) (fun _ _ _ h => h) (Or.inl ⟨by rfl, ?hq9⟩) (unhide HS60) ?_
    case hq9 => (intro w hSw; (try dsimp only at hSw); go_simp) <;> with_reducible rfl
    simp only [Act.put, List.getElem_toArray, List.getElem_cons_zero, List.getElem_cons_succ, List.setIfInBounds_toArray, List.set_cons_zero, List.set_cons_succ]
    refine anyL_take (i := 3) (v := ?vq10) rfl (by kernel_rfl) (by kernel_rfl) (by kernel_rfl) (by kernel_rfl) (fun _ _ _ h => h) (Or.inl ⟨by rfl, ?hq10⟩) (unhide HS60) ?_
    case hq10 => (intro w hSw; (try dsimp only at hSw); go_simp) <;> with_reducible rfl
    simp only [Act.put, List.getElem_toArray, List.getElem_cons_zero, List.getElem_cons_succ, List.setIfInBounds_toArray, List.set_cons_zero, List.set_cons_succ]
    refine anyL_ready (rs := [1]) (by kernel_rfl) (by simp) ?_
    refine AllL.cons rfl (fun K hK => ?_) AllL.nil
    go_simp
    refine (own7_at a0 cap l y60 L60.b).mono ?_
    rintro y y61 ⟨a61, c61, rfl, j61, x61⟩
    have L61 := L60.on x61
    have HS61 : Hid ((fun w' : World => w'.cell? ⟨gS, 0, none⟩ = some (.int .i64 line) ∧ w'.cell? ⟨gS, 1, none⟩ = some (.int .i64 col)) y61) := hide ⟨(L61.one.cell 0).trans rfl, (L61.one.cell 1).trans rfl⟩
    refine unhide hK _ _ (fun _ => unhide HS61) ?_
    clear hK K x61 L60 HS60
    refine anyL_ready (rs := [4]) (by kernel_rfl) (by simp) ?_
    refine AllL.cons rfl (fun K hK => ?_) AllL.nil
    go_simp
    refine (unhide A1 a61 c61 y61 j61 L61.t).mono ?_
    rintro y y62 ⟨rfl, x62⟩
    have L62 := L61.on x62
    have HS62 : Hid ((fun w' : World => w'.cell? ⟨gS, 0, none⟩ = some (.int .i64 line) ∧ w'.cell? ⟨gS, 1, none⟩ = some (.int .i64 col)) y62) := hide ⟨(L62.one.cell 0).trans rfl, (L62.one.cell 1).trans rfl⟩
    refine unhide hK _ _ (fun _ => unhide HS62) ?_
    clear hK K x62 L61 HS61 j61
    refine anyL_take (i := 5) (v := ?vq11) rfl (by kernel_rfl) (by kernel_rfl) (by kernel_rfl) (by kernel_rfl) (fun _ _ _ h => h) (Or.inl ⟨by rfl, ?hq11⟩) (unhide HS62) ?_
    case hq11 => (intro w hSw; (try dsimp only at hSw); go_simp) <;> with_reducible rfl
    simp only [Act.put, List.getElem_toArray, List.getElem_cons_zero, List.getElem_cons_succ, List.setIfInBounds_toArray, List.set_cons_zero, List.set_cons_succ]
    refine anyL_take (i := 6) (v := ?vq12) rfl (by kernel_rfl) (by kernel_rfl) (by kernel_rfl) (by kernel_rfl) (fun _ _ _ h => h) (Or.inl ⟨by rfl, ?hq12⟩) (unhide HS62) ?_
    case hq12 => (intro w hSw; (try dsimp only at hSw); go_simp) <;> with_reducible rfl
    simp only [Act.put, List.getElem_toArray, List.getElem_cons_zero, List.getElem_cons_succ, List.setIfInBounds_toArray, List.set_cons_zero, List.set_cons_succ]
    refine anyL_take (i := 7) (v := ?vq13) rfl (by kernel_rfl) (by kernel_rfl) (by kernel_rfl) (by kernel_rfl) (fun _ _ _ h => h) (Or.inl ⟨by rfl, ?hq13⟩) (unhide HS62) ?_
    case hq13 => (intro w hSw; (try dsimp only at hSw); go_simp) <;> with_reducible rfl
    simp only [Act.put, List.getElem_toArray, List.getElem_cons_zero, List.getElem_cons_succ, List.setIfInBounds_toArray, List.set_cons_zero, List.set_cons_succ]
    refine anyL_take (i := 8) (v := ?vq14) rfl (by kernel_rfl) (by kernel_rfl) (by kernel_rfl) (by kernel_rfl) (fun _ _ _ h => h) (Or.inl ⟨by rfl, ?hq14⟩) (unhide HS62) ?_
    case hq14 => (intro w hSw; (try dsimp only at hSw); go_simp) <;> with_reducible rfl
    simp only [Act.put, List.getElem_toArray, List.getElem_cons_zero, List.getElem_cons_succ, List.setIfInBounds_toArray, List.set_cons_zero, List.set_cons_succ]
    refine anyL_take (i := 9) (v := ?vq15) rfl (by kernel_rfl) (by kernel_rfl) (by kernel_rfl) (by kernel_rfl) (fun _ _ _ h => h) (Or.inl ⟨by rfl, ?hq15⟩) (unhide HS62) ?_
    case hq15 => (intro w hSw; (try dsimp only at hSw); go_simp) <;> with_reducible rfl
    simp only [Act.put, List.getElem_toArray, List.getElem_cons_zero, List.getElem_cons_succ, List.setIfInBounds_toArray, List.set_cons_zero, List.set_cons_succ]
    refine anyL_done (by kernel_rfl) ?_ _
    clear HS62
    go_wp2_with fail
    have L70 := L62.drew
    have HS70 : Hid ((fun w' : World => w'.cell? ⟨gS, 0, none⟩ = some (.int .i64 line) ∧ w'.cell? ⟨gS, 1, none⟩ = some (.int .i64 col)) y62.drew) := hide ⟨(L70.one.cell 0).trans rfl, (L70.one.cell 1).trans rfl⟩
    refine regionL (S := fun w' => w'.cell? ⟨gS, 0, none⟩ = some (.int .i64 line) ∧ w'.cell? ⟨gS, 1, none⟩ = some (.int .i64 col)) (fun _ => false) (by kernel_rfl) ?_
    clear L62
    generalize y62.drew = y70 at *
    refine anyL_take (i := 0) (v := ?vq16) rfl (by kernel_rfl) (by kernel_rfl) (by kernel_rfl) (by kernel_rfl) (fun _ _ _ h => h) (Or.inl ⟨by rfl, ?hq16⟩) (unhide HS70) ?_
    case hq16 => (intro w hSw; (try dsimp only at hSw); go_simp) <;> with_reducible rfl
    simp only [Act.put, List.getElem_toArray, List.getElem_cons_zero, List.setIfInBounds_toArray, List.set_cons_zero, List.set_cons_succ]
    refine anyL_take (i := 2) (v := ?vq17) rfl (by kernel_rfl) (by kernel_rfl) (by kernel_rfl) (by kernel_rfl) (fun _ _ _ h => h) (Or.inl ⟨by rfl, ?hq17⟩) (unhide HS70) ?_
    case hq17 => (intro w hSw; (try dsimp only at hSw); go_simp) <;> with_reducible rfl
    simp only [Act.put, List.getElem_toArray, List.getElem_cons_zero, List.getElem_cons_succ, List.setIfInBounds_toArray, List.set_cons_zero, List.set_cons_succ]
    refine anyL_take (i := 3) (v := ?vq18) rfl (by kernel_rfl) (by kernel_rfl) (by kernel_rfl) (by kernel_rfl) (fun _ _ _ h => h) (Or.inl ⟨by rfl, ?hq18⟩) (unhide HS70) ?_
    case hq18 => (intro w hSw; (try dsimp only at hSw); go_simp) <;> with_reducible rfl
    simp only [Act.put, List.getElem_toArray, List.getElem_cons_zero, List.getElem_cons_succ, List.setIfInBounds_toArray, List.set_cons_zero, List.set_cons_succ]
    refine anyL_ready (rs := [1]) (by kernel_rfl) (by simp) ?_
    refine AllL.cons rfl (fun K hK => ?_) AllL.nil
    go_simp
    refine (own7_at a0 cap l y70 L70.b).mono ?_
    rintro y y71 ⟨a71, c71, rfl, j71, x71⟩
    have L71 := L70.on x71
    have HS71 : Hid ((fun w' : World => w'.cell? ⟨gS, 0, none⟩ = some (.int .i64 line) ∧ w'.cell? ⟨gS, 1, none⟩ = some (.int .i64 col)) y71) := hide ⟨(L71.one.cell 0).trans rfl, (L71.one.cell 1).trans rfl⟩
    refine unhide hK _ _ (fun _ => unhide HS71) ?_
    clear hK K x71 L70 HS70
    refine anyL_ready (rs := [4]) (by kernel_rfl) (by simp) ?_
    refine AllL.cons rfl (fun K hK => ?_) AllL.nil
    go_simp
    refine (unhide A2 a71 c71 y71 j71 L71.t).mono ?_
    rintro y y72 ⟨rfl, x72⟩
    have L72 := L71.on x72
    have HS72 : Hid ((fun w' : World => w'.cell? ⟨gS, 0, none⟩ = some (.int .i64 line) ∧ w'.cell? ⟨gS, 1, none⟩ = some (.int .i64 col)) y72) := hide ⟨(L72.one.cell 0).trans rfl, (L72.one.cell 1).trans rfl⟩
    refine unhide hK _ _ (fun _ => unhide HS72) ?_
    clear hK K x72 L71 HS71 j71
    refine anyL_take (i := 5) (v := ?vq19) rfl (by kernel_rfl) (by kernel_rfl) (by kernel_rfl) (by kernel_rfl) (fun _ _ _ h => h) (Or.inl ⟨by rfl, ?hq19⟩) (unhide HS72) ?_
    case hq19 => (intro w hSw; (try dsimp only at hSw); go_simp) <;> with_reducible rfl
    simp only [Act.put, List.getElem_toArray, List.getElem_cons_zero, List.getElem_cons_succ, List.setIfInBounds_toArray, List.set_cons_zero, List.set_cons_succ]
    refine anyL_take (i := 6) (v := ?vq20) rfl (by kernel_rfl) (by kernel_rfl) (by kernel_rfl) (by kernel_rfl) (fun _ _ _ h => h) (Or.inl ⟨by rfl, ?hq20⟩) (unhide HS72) ?_
    case hq20 => (intro w hSw; (try dsimp only at hSw); go_simp) <;> with_reducible rfl
    simp only [Act.put, List.getElem_toArray, List.getElem_cons_zero, List.getElem_cons_succ, List.setIfInBounds_toArray, List.set_cons_zero, List.set_cons_succ]
    refine anyL_take (i := 7) (v := ?vq21) rfl (by kernel_rfl) (by kernel_rfl) (by kernel_rfl) (by kernel_rfl) (fun _ _ _ h => h) (Or.inl ⟨by rfl, ?hq21⟩) (unhide HS72) ?_
    case hq21 => (intro w hSw; (try dsimp only at hSw); go_simp) <;> with_reducible rfl
    simp only [Act.put, List.getElem_toArray, List.getElem_cons_zero, List.getElem_cons_succ, List.setIfInBounds_toArray, List.set_cons_zero, List.set_cons_succ]
    refine anyL_take (i := 8) (v := ?vq22) rfl (by kernel_rfl) (by kernel_rfl) (by kernel_rfl) (by kernel_rfl) (fun _ _ _ h => h) (Or.inl ⟨by rfl, ?hq22⟩) (unhide HS72) ?_
    case hq22 => (intro w hSw; (try dsimp only at hSw); go_simp) <;> with_reducible rfl
    simp only [Act.put, List.getElem_toArray, List.getElem_cons_zero, List.getElem_cons_succ, List.setIfInBounds_toArray, List.set_cons_zero, List.set_cons_succ]
    refine anyL_take (i := 9) (v := ?vq23) rfl (by kernel_rfl) (by kernel_rfl) (by kernel_rfl) (by kernel_rfl) (fun _ _ _ h => h) (Or.inl ⟨by rfl, ?hq23⟩) (unhide HS72) ?_
    case hq23 => (intro w hSw; (try dsimp only at hSw); go_simp) <;> with_reducible rfl
    simp only [Act.put, List.getElem_toArray, List.getElem_cons_zero, List.getElem_cons_succ, List.setIfInBounds_toArray, List.set_cons_zero, List.set_cons_succ]
    refine anyL_done (by kernel_rfl) ?_ _
    clear HS72
    rcases unhide HM with ⟨h3, h1, h2, q1, q2⟩ | ⟨c, hc, h3, h1, h2, q1, q2⟩ | ⟨e, hn, h3, h1, h2, q1, q2, pa⟩ | ⟨e, a, b, hn, h3, h1, h2, q1, q2, hab, lo, hi, pa, pb⟩
    · clear HM A1 A2 A3
      subst h3 h1 h2 q1 q2
      go_wp2_with fail
      go_ret
      exact ⟨rfl, L72.d⟩
    · clear HM A1 A2 A3
      subst h3 h1 h2 q1 q2
      have qc : (c == 0) = false := by simpa using hc
      have qd : (c != 0) = true := by simpa using hc
      go_wp2_with fail
      go_ret
      exact ⟨rfl, L72.d⟩
    · clear HM A1 A2 A3
      have pb := pa
      subst h3 h1 h2
      have ALi := hide fun a c X j (_ : Tab X) => Line_at a c l line X j
      rw [hn] at ALi
      unfold liV at ALi
      dsimp only at ALi
      clear hn
      generalize e.2.1 = st at *
      generalize e.2.2.1 = ct at *
      generalize e.2.2.2 = nx at *
      subst q1 q2
      go_wp2_with fail
      have L140 := L72.drew
      have HS140 : Hid ((fun w' : World => w'.cell? ⟨gS, 0, none⟩ = some (.int .i64 line) ∧ w'.cell? ⟨gS, 1, none⟩ = some (.int .i64 col)) y72.drew) := hide ⟨(L140.one.cell 0).trans rfl, (L140.one.cell 1).trans rfl⟩
      refine regionL (S := fun w' => w'.cell? ⟨gS, 0, none⟩ = some (.int .i64 line) ∧ w'.cell? ⟨gS, 1, none⟩ = some (.int .i64 col)) (fun _ => false) (by kernel_rfl) ?_
      clear L72
      generalize y72.drew = y140 at *
      refine anyL_take (i := 0) (v := ?vq24) rfl (by kernel_rfl) (by kernel_rfl) (by kernel_rfl) (by kernel_rfl) (fun _ _ _ h => h) (Or.inl ⟨by rfl, ?hq24⟩) (unhide HS140) ?_
      case hq24 => (intro w hSw; (try dsimp only at hSw); go_simp) <;> with_reducible rfl
      simp only [Act.put, List.getElem_toArray, List.getElem_cons_zero, List.setIfInBounds_toArray, List.set_cons_zero, List.set_cons_succ]
      refine anyL_take (i := 2) (v := ?vq25) rfl (by kernel_rfl) (by kernel_rfl) (by kernel_rfl) (by kernel_rfl) (fun _ _ _ h => h) (Or.inl ⟨by rfl, ?hq25⟩) (unhide HS140) ?_
      case hq25 => (intro w hSw; (try dsimp only at hSw); go_simp) <;> with_reducible rfl
      simp only [Act.put, List.getElem_toArray, List.getElem_cons_zero, List.getElem_cons_succ, List.setIfInBounds_toArray, List.set_cons_zero, List.set_cons_succ]
      refine anyL_take (i := 3) (v := ?vq26) rfl (by kernel_rfl) (by kernel_rfl) (by kernel_rfl) (by kernel_rfl) (fun _ _ _ h => h) (Or.inl ⟨by rfl, ?hq26⟩) (unhide HS140) ?_
      case hq26 => (intro w hSw; (try dsimp only at hSw); go_simp) <;> with_reducible rfl
      simp only [Act.put, List.getElem_toArray, List.getElem_cons_zero, List.getElem_cons_succ, List.setIfInBounds_toArray, List.set_cons_zero, List.set_cons_succ]
      refine anyL_ready (rs := [1]) (by kernel_rfl) (by simp) ?_
      refine AllL.cons rfl (fun K hK => ?_) AllL.nil
      go_simp
      refine (own7_at a0 cap l y140 L140.b).mono ?_
      rintro y y141 ⟨a141, c141, rfl, j141, x141⟩
      have L141 := L140.on x141
      have HS141 : Hid ((fun w' : World => w'.cell? ⟨gS, 0, none⟩ = some (.int .i64 line) ∧ w'.cell? ⟨gS, 1, none⟩ = some (.int .i64 col)) y141) := hide ⟨(L141.one.cell 0).trans rfl, (L141.one.cell 1).trans rfl⟩
      refine unhide hK _ _ (fun _ => unhide HS141) ?_
      clear hK K x141 L140 HS140
      refine anyL_ready (rs := [4]) (by kernel_rfl) (by simp) ?_
      refine AllL.cons rfl (fun K hK => ?_) AllL.nil
      go_simp
      refine (unhide ALi a141 c141 y141 j141 L141.t).mono ?_
      rintro y y142 ⟨rfl, x142⟩
      have L142 := L141.on x142
      have HS142 : Hid ((fun w' : World => w'.cell? ⟨gS, 0, none⟩ = some (.int .i64 line) ∧ w'.cell? ⟨gS, 1, none⟩ = some (.int .i64 col)) y142) := hide ⟨(L142.one.cell 0).trans rfl, (L142.one.cell 1).trans rfl⟩
      refine unhide hK _ _ (fun _ => unhide HS142) ?_
      clear hK K x142 L141 HS141 j141
      refine anyL_take (i := 5) (v := ?vq27) rfl (by kernel_rfl) (by kernel_rfl) (by kernel_rfl) (by kernel_rfl) (fun _ _ _ h => h) (Or.inl ⟨by rfl, ?hq27⟩) (unhide HS142) ?_
      case hq27 => (intro w hSw; (try dsimp only at hSw); go_simp) <;> with_reducible rfl
      simp only [Act.put, List.getElem_toArray, List.getElem_cons_zero, List.getElem_cons_succ, List.setIfInBounds_toArray, List.set_cons_zero, List.set_cons_succ]
      refine anyL_take (i := 6) (v := ?vq28) rfl (by kernel_rfl) (by kernel_rfl) (by kernel_rfl) (by kernel_rfl) (fun _ _ _ h => h) (Or.inl ⟨by rfl, ?hq28⟩) (unhide HS142) ?_
      case hq28 => (intro w hSw; (try dsimp only at hSw); go_simp) <;> with_reducible rfl
      simp only [Act.put, List.getElem_toArray, List.getElem_cons_zero, List.getElem_cons_succ, List.setIfInBounds_toArray, List.set_cons_zero, List.set_cons_succ]
      refine anyL_take (i := 7) (v := ?vq29) rfl (by kernel_rfl) (by kernel_rfl) (by kernel_rfl) (by kernel_rfl) (fun _ _ _ h => h) (Or.inl ⟨by rfl, ?hq29⟩) (unhide HS142) ?_
      case hq29 => (intro w hSw; (try dsimp only at hSw); go_simp) <;> with_reducible rfl
      simp only [Act.put, List.getElem_toArray, List.getElem_cons_zero, List.getElem_cons_succ, List.setIfInBounds_toArray, List.set_cons_zero, List.set_cons_succ]
      refine anyL_take (i := 8) (v := ?vq30) rfl (by kernel_rfl) (by kernel_rfl) (by kernel_rfl) (by kernel_rfl) (fun _ _ _ h => h) (Or.inl ⟨by rfl, ?hq30⟩) (unhide HS142) ?_
      case hq30 => (intro w hSw; (try dsimp only at hSw); go_simp) <;> with_reducible rfl
      simp only [Act.put, List.getElem_toArray, List.getElem_cons_zero, List.getElem_cons_succ, List.setIfInBounds_toArray, List.set_cons_zero, List.set_cons_succ]
      refine anyL_take (i := 9) (v := ?vq31) rfl (by kernel_rfl) (by kernel_rfl) (by kernel_rfl) (by kernel_rfl) (fun _ _ _ h => h) (Or.inl ⟨by rfl, ?hq31⟩) (unhide HS142) ?_
      case hq31 => (intro w hSw; (try dsimp only at hSw); go_simp) <;> with_reducible rfl
      simp only [Act.put, List.getElem_toArray, List.getElem_cons_zero, List.getElem_cons_succ, List.setIfInBounds_toArray, List.set_cons_zero, List.set_cons_succ]
      refine anyL_take (i := 10) (v := ?vq32) rfl (by kernel_rfl) (by kernel_rfl) (by kernel_rfl) (by kernel_rfl) (fun _ _ _ h => h) (Or.inl ⟨by rfl, ?hq32⟩) (unhide HS142) ?_
      case hq32 => (intro w hSw; (try dsimp only at hSw); go_simp) <;> with_reducible rfl
      simp only [Act.put, List.getElem_toArray, List.getElem_cons_zero, List.getElem_cons_succ, List.setIfInBounds_toArray, List.set_cons_zero, List.set_cons_succ]
      refine anyL_take (i := 11) (v := ?vq33) rfl (by kernel_rfl) (by kernel_rfl) (by kernel_rfl) (by kernel_rfl) (fun _ _ _ h => h) (Or.inl ⟨by rfl, ?hq33⟩) (unhide HS142) ?_
      case hq33 => (intro w hSw; (try dsimp only at hSw); go_simp) <;> with_reducible rfl
      simp only [Act.put, List.getElem_toArray, List.getElem_cons_zero, List.getElem_cons_succ, List.setIfInBounds_toArray, List.set_cons_zero, List.set_cons_succ]
      refine anyL_take (i := 12) (v := ?vq34) rfl (by kernel_rfl) (by kernel_rfl) (by kernel_rfl) (by kernel_rfl) (fun _ _ _ h => h) (Or.inl ⟨by rfl, ?hq34⟩) (unhide HS142) ?_
      case hq34 => (intro w hSw; (try dsimp only at hSw); go_simp) <;> with_reducible rfl
      simp only [Act.put, List.getElem_toArray, List.getElem_cons_zero, List.getElem_cons_succ, List.setIfInBounds_toArray, List.set_cons_zero, List.set_cons_succ]
      refine anyL_take (i := 13) (v := ?vq35) rfl (by kernel_rfl) (by kernel_rfl) (by kernel_rfl) (by kernel_rfl) (fun _ _ _ h => h) (Or.inl ⟨by rfl, ?hq35⟩) (unhide HS142) ?_
      case hq35 => (intro w hSw; (try dsimp only at hSw); go_simp) <;> with_reducible rfl
      simp only [Act.put, List.getElem_toArray, List.getElem_cons_zero, List.getElem_cons_succ, List.setIfInBounds_toArray, List.set_cons_zero, List.set_cons_succ]
      refine anyL_done (by kernel_rfl) ?_ _
      clear HS142
      obtain ⟨u1, u2, u4, u5, u6, hwa⟩ := wh_pl pa
      obtain ⟨v1, v2, v4, v5, v6, hwb⟩ := wh_pl pb
      have HWA := hide hwa
      have HWB := hide hwb
      clear hwa hwb pa pb
      go_wp2_with fail
      refine (own7_at a0 cap l y142 L142.b).mono ?_
      rintro y yP ⟨aP, cP, rfl, jP, xP⟩
      have LP := L142.on xP
      clear xP L142
      go_wp2_with fail
      have hwh := Where_at aP cP l (ct : Int) yP jP LP.t
      rw [unhide HWA] at hwh
      refine hwh.mono ?_
      rintro y yP1 ⟨rfl, xP1⟩
      have LP1 := LP.on xP1
      clear xP1 LP hwh jP
      have LP2 := LP1.new 39 #[.int .i64 (ct : Int), .int .i64 u1, .int .i64 u2, .int .i64 line, .int .i64 u4, .int .i64 u5, .int .i64 u6]
      clear LP1
      go_wp2_with fail
      generalize yP1.alloc (.cells #[.int .i64 (ct : Int), .int .i64 u1, .int .i64 u2, .int .i64 line, .int .i64 u4, .int .i64 u5, .int .i64 u6] 39) = yP2 at *
      generalize yP1.heap.size = gP at *
      go_wp2_with fail
      refine (own7_at a0 cap l yP2 LP2.b).mono ?_
      rintro y yQ ⟨aQ, cQ, rfl, jQ, xQ⟩
      have LQ := LP2.on xQ
      clear xQ LP2
      go_wp2_with fail
      have hwh := Where_at aQ cQ l (ct : Int) yQ jQ LQ.t
      rw [unhide HWB] at hwh
      refine hwh.mono ?_
      rintro y yQ1 ⟨rfl, xQ1⟩
      have LQ1 := LQ.on xQ1
      clear xQ1 LQ hwh jQ
      have LQ2 := LQ1.new 39 #[.int .i64 (ct : Int), .int .i64 v1, .int .i64 v2, .int .i64 line, .int .i64 v4, .int .i64 v5, .int .i64 v6]
      clear LQ1
      go_upto_region 17 with fail
      generalize yQ1.alloc (.cells #[.int .i64 (ct : Int), .int .i64 v1, .int .i64 v2, .int .i64 line, .int .i64 v4, .int .i64 v5, .int .i64 v6] 39) = yQ2 at *
      generalize yQ1.heap.size = gQ at *
      have ka : Cls yQ2 gP _ _ := LQ2.two
      have kb : Cls yQ2 gQ _ _ := LQ2.one
      have kS : Cls yQ2 gS _ _ := LQ2.k _ (List.mem_cons_of_mem _ (List.mem_cons_of_mem _ (List.mem_singleton.2 rfl)))
      have cka0 := (ka.cell 0)
      simp only [List.getElem?_toArray, List.getElem?_cons_zero] at cka0
      have cka3 := (ka.cell 3)
      simp only [List.getElem?_toArray, List.getElem?_cons_zero, List.getElem?_cons_succ] at cka3
      have ckb0 := (kb.cell 0)
      simp only [List.getElem?_toArray, List.getElem?_cons_zero] at ckb0
      have ckb3 := (kb.cell 3)
      simp only [List.getElem?_toArray, List.getElem?_cons_zero, List.getElem?_cons_succ] at ckb3
      have ckS0 := (kS.cell 0)
      simp only [List.getElem?_toArray, List.getElem?_cons_zero] at ckS0
      have bel := LQ2.d
      clear LQ2 ka kb kS
      go_wp2_with fail
      go_ret
      exact ⟨rfl, bel⟩
    · clear HM A1 A2 A3
      subst h3 h1 h2
      have ALi := hide fun a c X j (_ : Tab X) => Line_at a c l line X j
      rw [hn] at ALi
      unfold liV at ALi
      dsimp only at ALi
      clear hn
      generalize e.2.1 = st at *
      generalize e.2.2.1 = ct at *
      generalize e.2.2.2 = nx at *
      subst q1 q2
      go_wp2_with fail
      have L140 := L72.drew
      have HS140 : Hid ((fun w' : World => w'.cell? ⟨gS, 0, none⟩ = some (.int .i64 line) ∧ w'.cell? ⟨gS, 1, none⟩ = some (.int .i64 col)) y72.drew) := hide ⟨(L140.one.cell 0).trans rfl, (L140.one.cell 1).trans rfl⟩
      refine regionL (S := fun w' => w'.cell? ⟨gS, 0, none⟩ = some (.int .i64 line) ∧ w'.cell? ⟨gS, 1, none⟩ = some (.int .i64 col)) (fun _ => false) (by kernel_rfl) ?_
      clear L72
      generalize y72.drew = y140 at *
      refine anyL_take (i := 0) (v := ?vq36) rfl (by kernel_rfl) (by kernel_rfl) (by kernel_rfl) (by kernel_rfl) (fun _ _ _ h => h) (Or.inl ⟨by rfl, ?hq36⟩) (unhide HS140) ?_
      case hq36 => (intro w hSw; (try dsimp only at hSw); go_simp) <;> with_reducible rfl
      simp only [Act.put, List.getElem_toArray, List.getElem_cons_zero, List.setIfInBounds_toArray, List.set_cons_zero, List.set_cons_succ]
      refine anyL_take (i := 2) (v := ?vq37) rfl (by kernel_rfl) (by kernel_rfl) (by kernel_rfl) (by kernel_rfl) (fun _ _ _ h => h) (Or.inl ⟨by rfl, ?hq37⟩) (unhide HS140) ?_
      case hq37 => (intro w hSw; (try dsimp only at hSw); go_simp) <;> with_reducible rfl
      simp only [Act.put, List.getElem_toArray, List.getElem_cons_zero, List.getElem_cons_succ, List.setIfInBounds_toArray, List.set_cons_zero, List.set_cons_succ]
      refine anyL_take (i := 3) (v := ?vq38) rfl (by kernel_rfl) (by kernel_rfl) (by kernel_rfl) (by kernel_rfl) (fun _ _ _ h => h) (Or.inl ⟨by rfl, ?hq38⟩) (unhide HS140) ?_
      case hq38 => (intro w hSw; (try dsimp only at hSw); go_simp) <;> with_reducible rfl
      simp only [Act.put, List.getElem_toArray, List.getElem_cons_zero, List.getElem_cons_succ, List.setIfInBounds_toArray, List.set_cons_zero, List.set_cons_succ]
      refine anyL_ready (rs := [1]) (by kernel_rfl) (by simp) ?_
      refine AllL.cons rfl (fun K hK => ?_) AllL.nil
      go_simp
      refine (own7_at a0 cap l y140 L140.b).mono ?_
      rintro y y141 ⟨a141, c141, rfl, j141, x141⟩
      have L141 := L140.on x141
      have HS141 : Hid ((fun w' : World => w'.cell? ⟨gS, 0, none⟩ = some (.int .i64 line) ∧ w'.cell? ⟨gS, 1, none⟩ = some (.int .i64 col)) y141) := hide ⟨(L141.one.cell 0).trans rfl, (L141.one.cell 1).trans rfl⟩
      refine unhide hK _ _ (fun _ => unhide HS141) ?_
      clear hK K x141 L140 HS140
      refine anyL_ready (rs := [4]) (by kernel_rfl) (by simp) ?_
      refine AllL.cons rfl (fun K hK => ?_) AllL.nil
      go_simp
      refine (unhide ALi a141 c141 y141 j141 L141.t).mono ?_
      rintro y y142 ⟨rfl, x142⟩
      have L142 := L141.on x142
      have HS142 : Hid ((fun w' : World => w'.cell? ⟨gS, 0, none⟩ = some (.int .i64 line) ∧ w'.cell? ⟨gS, 1, none⟩ = some (.int .i64 col)) y142) := hide ⟨(L142.one.cell 0).trans rfl, (L142.one.cell 1).trans rfl⟩
      refine unhide hK _ _ (fun _ => unhide HS142) ?_
      clear hK K x142 L141 HS141 j141
      refine anyL_take (i := 5) (v := ?vq39) rfl (by kernel_rfl) (by kernel_rfl) (by kernel_rfl) (by kernel_rfl) (fun _ _ _ h => h) (Or.inl ⟨by rfl, ?hq39⟩) (unhide HS142) ?_
      case hq39 => (intro w hSw; (try dsimp only at hSw); go_simp) <;> with_reducible rfl
      simp only [Act.put, List.getElem_toArray, List.getElem_cons_zero, List.getElem_cons_succ, List.setIfInBounds_toArray, List.set_cons_zero, List.set_cons_succ]
      refine anyL_take (i := 6) (v := ?vq40) rfl (by kernel_rfl) (by kernel_rfl) (by kernel_rfl) (by kernel_rfl) (fun _ _ _ h => h) (Or.inl ⟨by rfl, ?hq40⟩) (unhide HS142) ?_
      case hq40 => (intro w hSw; (try dsimp only at hSw); go_simp) <;> with_reducible rfl
      simp only [Act.put, List.getElem_toArray, List.getElem_cons_zero, List.getElem_cons_succ, List.setIfInBounds_toArray, List.set_cons_zero, List.set_cons_succ]
      refine anyL_take (i := 7) (v := ?vq41) rfl (by kernel_rfl) (by kernel_rfl) (by kernel_rfl) (by kernel_rfl) (fun _ _ _ h => h) (Or.inl ⟨by rfl, ?hq41⟩) (unhide HS142) ?_
      case hq41 => (intro w hSw; (try dsimp only at hSw); go_simp) <;> with_reducible rfl
      simp only [Act.put, List.getElem_toArray, List.getElem_cons_zero, List.getElem_cons_succ, List.setIfInBounds_toArray, List.set_cons_zero, List.set_cons_succ]
      refine anyL_take (i := 8) (v := ?vq42) rfl (by kernel_rfl) (by kernel_rfl) (by kernel_rfl) (by kernel_rfl) (fun _ _ _ h => h) (Or.inl ⟨by rfl, ?hq42⟩) (unhide HS142) ?_
      case hq42 => (intro w hSw; (try dsimp only at hSw); go_simp) <;> with_reducible rfl
      simp only [Act.put, List.getElem_toArray, List.getElem_cons_zero, List.getElem_cons_succ, List.setIfInBounds_toArray, List.set_cons_zero, List.set_cons_succ]
      refine anyL_take (i := 9) (v := ?vq43) rfl (by kernel_rfl) (by kernel_rfl) (by kernel_rfl) (by kernel_rfl) (fun _ _ _ h => h) (Or.inl ⟨by rfl, ?hq43⟩) (unhide HS142) ?_
      case hq43 => (intro w hSw; (try dsimp only at hSw); go_simp) <;> with_reducible rfl
      simp only [Act.put, List.getElem_toArray, List.getElem_cons_zero, List.getElem_cons_succ, List.setIfInBounds_toArray, List.set_cons_zero, List.set_cons_succ]
      refine anyL_take (i := 10) (v := ?vq44) rfl (by kernel_rfl) (by kernel_rfl) (by kernel_rfl) (by kernel_rfl) (fun _ _ _ h => h) (Or.inl ⟨by rfl, ?hq44⟩) (unhide HS142) ?_
      case hq44 => (intro w hSw; (try dsimp only at hSw); go_simp) <;> with_reducible rfl
      simp only [Act.put, List.getElem_toArray, List.getElem_cons_zero, List.getElem_cons_succ, List.setIfInBounds_toArray, List.set_cons_zero, List.set_cons_succ]
      refine anyL_take (i := 11) (v := ?vq45) rfl (by kernel_rfl) (by kernel_rfl) (by kernel_rfl) (by kernel_rfl) (fun _ _ _ h => h) (Or.inl ⟨by rfl, ?hq45⟩) (unhide HS142) ?_
      case hq45 => (intro w hSw; (try dsimp only at hSw); go_simp) <;> with_reducible rfl
      simp only [Act.put, List.getElem_toArray, List.getElem_cons_zero, List.getElem_cons_succ, List.setIfInBounds_toArray, List.set_cons_zero, List.set_cons_succ]
      refine anyL_take (i := 12) (v := ?vq46) rfl (by kernel_rfl) (by kernel_rfl) (by kernel_rfl) (by kernel_rfl) (fun _ _ _ h => h) (Or.inl ⟨by rfl, ?hq46⟩) (unhide HS142) ?_
      case hq46 => (intro w hSw; (try dsimp only at hSw); go_simp) <;> with_reducible rfl
      simp only [Act.put, List.getElem_toArray, List.getElem_cons_zero, List.getElem_cons_succ, List.setIfInBounds_toArray, List.set_cons_zero, List.set_cons_succ]
      refine anyL_take (i := 13) (v := ?vq47) rfl (by kernel_rfl) (by kernel_rfl) (by kernel_rfl) (by kernel_rfl) (fun _ _ _ h => h) (Or.inl ⟨by rfl, ?hq47⟩) (unhide HS142) ?_
      case hq47 => (intro w hSw; (try dsimp only at hSw); go_simp) <;> with_reducible rfl
      simp only [Act.put, List.getElem_toArray, List.getElem_cons_zero, List.getElem_cons_succ, List.setIfInBounds_toArray, List.set_cons_zero, List.set_cons_succ]
      refine anyL_done (by kernel_rfl) ?_ _
      clear HS142
      obtain ⟨u1, u2, u4, u5, u6, hwa⟩ := wh_pl pa
      obtain ⟨v1, v2, v4, v5, v6, hwb⟩ := wh_pl pb
      have HWA := hide hwa
      have HWB := hide hwb
      clear hwa hwb pa pb
      go_wp2_with fail
      refine (own7_at a0 cap l y142 L142.b).mono ?_
      rintro y yP ⟨aP, cP, rfl, jP, xP⟩
      have LP := L142.on xP
      clear xP L142
      go_wp2_with fail
      have hwh := Where_at aP cP l (a : Int) yP jP LP.t
      rw [unhide HWA] at hwh
      refine hwh.mono ?_
      rintro y yP1 ⟨rfl, xP1⟩
      have LP1 := LP.on xP1
      clear xP1 LP hwh jP
      have LP2 := LP1.new 39 #[.int .i64 (a : Int), .int .i64 u1, .int .i64 u2, .int .i64 line, .int .i64 u4, .int .i64 u5, .int .i64 u6]
      clear LP1
      go_wp2_with fail
      generalize yP1.alloc (.cells #[.int .i64 (a : Int), .int .i64 u1, .int .i64 u2, .int .i64 line, .int .i64 u4, .int .i64 u5, .int .i64 u6] 39) = yP2 at *
      generalize yP1.heap.size = gP at *
      go_wp2_with fail
      refine (own7_at a0 cap l yP2 LP2.b).mono ?_
      rintro y yQ ⟨aQ, cQ, rfl, jQ, xQ⟩
      have LQ := LP2.on xQ
      clear xQ LP2
      go_wp2_with fail
      have hwh := Where_at aQ cQ l (b : Int) yQ jQ LQ.t
      rw [unhide HWB] at hwh
      refine hwh.mono ?_
      rintro y yQ1 ⟨rfl, xQ1⟩
      have LQ1 := LQ.on xQ1
      clear xQ1 LQ hwh jQ
      have LQ2 := LQ1.new 39 #[.int .i64 (b : Int), .int .i64 v1, .int .i64 v2, .int .i64 line, .int .i64 v4, .int .i64 v5, .int .i64 v6]
      clear LQ1
      go_upto_region 17 with fail
      generalize yQ1.alloc (.cells #[.int .i64 (b : Int), .int .i64 v1, .int .i64 v2, .int .i64 line, .int .i64 v4, .int .i64 v5, .int .i64 v6] 39) = yQ2 at *
      generalize yQ1.heap.size = gQ at *
      have ka : Cls yQ2 gP _ _ := LQ2.two
      have kb : Cls yQ2 gQ _ _ := LQ2.one
      have kS : Cls yQ2 gS _ _ := LQ2.k _ (List.mem_cons_of_mem _ (List.mem_cons_of_mem _ (List.mem_singleton.2 rfl)))
      have cka0 := (ka.cell 0)
      simp only [List.getElem?_toArray, List.getElem?_cons_zero] at cka0
      have cka3 := (ka.cell 3)
      simp only [List.getElem?_toArray, List.getElem?_cons_zero, List.getElem?_cons_succ] at cka3
      have ckb0 := (kb.cell 0)
      simp only [List.getElem?_toArray, List.getElem?_cons_zero] at ckb0
      have ckb3 := (kb.cell 3)
      simp only [List.getElem?_toArray, List.getElem?_cons_zero, List.getElem?_cons_succ] at ckb3
      have ckS0 := (kS.cell 0)
      simp only [List.getElem?_toArray, List.getElem?_cons_zero] at ckS0
      have bel := LQ2.d
      clear LQ2 ka kb kS
      have t1 : decide ((a : Int) < (b : Int)) = true := decide_eq_true (by omega)
      have t2 : decide ((a : Int) ≥ (st : Int)) = true := decide_eq_true (by omega)
      have t3 : decide ((st : Int) ≤ (a : Int)) = true := decide_eq_true (by omega)
      have t4 : decide ((b : Int) ≤ (nx : Int)) = true := decide_eq_true (by omega)
      go_wp2_with fail
      go_ret
      exact ⟨rfl, bel⟩

end Go.Proofs.YtbnfpcfoeojceaaDoor
