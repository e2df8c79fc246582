/- Layer 7: contracts of lines' size, known, last, Line, Spot. -/
import Derived.Test.YtkdnanlgkedjgabDoorDn21

namespace Go.Proofs.YtkdnanlgkedjgabDoor
open Go.ChangeShapes Go.WideShapes Go.ChangeAt Go.RowKit
def knR (r m : Int) : Int := if isRu r && isRu m then 0 else 3
theorem known_val (r m : Int) : toR r 0 r m (EE []) = knR r m := by
  unfold toR knR
  have hE : EE [] = [e0] := by unfold EE; rw [spots_end (by simp)]; rfl
  cases h1 : isRu r with
  | false => rfl
  | true =>
    cases h2 : isRu m with
    | false => rfl
    | true =>
      have h := at_edge (inc_EE (l := []) (by simp) r) (j := 0) (by rw [hE]; simp) m
      rw [hE] at h ⊢
      have hb : byE r e0 = 0 := by_e0 r
      have hg : [e0].getD 0 e0 = e0 := rfl
      rw [hg, hb] at h
      exact h.2.2.1
theorem isB_nil (w : World) : IsB w none 0 [] := ⟨Nat.le_refl _, by simp, Or.inl rfl, by simp⟩
def liV (o : Option Ln) : Value := match o with | some e => .tuple #[.int .i64 (e.2.1 : Int), .int .i64 (e.2.2.1 : Int), .int .i64 (e.2.2.2 : Int), .int .i64 0] | none => .tuple #[.int .i64 0, .int .i64 0, .int .i64 0, .int .i64 2]
set_option maxRecDepth 100000 in
theorem Line_at (a0 : Option Addr) (cap : Nat) (l : List Int) (k : Int) (w : World) (hB : IsB w a0 cap l) :
    Calls Tryd.prog 49 #[.slice a0 l.length cap, .int .i64 k] w fun y w' => y = .returned (liV (nbr l k)) ∧ Below w.heap.size w w' := by
  have k1 := number_at a0 cap l k w hB
  cases hn : nbr l k with
  | none =>
    rw [hn] at k1
    unfold nbV lnV at k1
    go_enter Tryd.func49, Tryd.ntmps49
    go_wp2_with fail
    refine k1.mono ?_
    rintro y w1 ⟨rfl, b1⟩
    go_wp2_with fail
    refine bodyPost_ret (v := .tuple #[.int .i64 0, .int .i64 0, .int .i64 0, .int .i64 2]) (by simp [results, Tryd.results49, go_sem]) rfl ?_
    exact ⟨rfl, b1.alloc b1.size _⟩
  | some e =>
    rw [hn] at k1
    unfold nbV lnV at k1
    have hnE := hide hn
    clear hn
    go_enter Tryd.func49, Tryd.ntmps49
    go_wp2_with fail
    refine k1.mono ?_
    rintro y w1 ⟨rfl, b1⟩
    have kL := Cls.new w1 114 #[.int .i64 (e.2.1 : Int), .int .i64 (e.2.2.1 : Int), .int .i64 (e.2.2.2 : Int)]
    have b2 := b1.alloc (o := .cells #[.int .i64 (e.2.1 : Int), .int .i64 (e.2.2.1 : Int), .int .i64 (e.2.2.2 : Int)] 114) b1.size
    go_wp2_with fail
    have HS : Hid ((fun w' : World => w'.cell? ⟨w1.heap.size, 0, none⟩ = some (.int .i64 (e.2.1 : Int)) ∧ w'.cell? ⟨w1.heap.size, 1, none⟩ = some (.int .i64 (e.2.2.1 : Int)) ∧ w'.cell? ⟨w1.heap.size, 2, none⟩ = some (.int .i64 (e.2.2.2 : Int))) (w1.alloc (.cells #[.int .i64 (e.2.1 : Int), .int .i64 (e.2.2.1 : Int), .int .i64 (e.2.2.2 : Int)] 114)).drew) := hide ⟨(kL.cell 0).trans rfl, (kL.cell 1).trans rfl, (kL.cell 2).trans rfl⟩
    refine regionL (S := fun w' => w'.cell? ⟨w1.heap.size, 0, none⟩ = some (.int .i64 (e.2.1 : Int)) ∧ w'.cell? ⟨w1.heap.size, 1, none⟩ = some (.int .i64 (e.2.2.1 : Int)) ∧ w'.cell? ⟨w1.heap.size, 2, none⟩ = some (.int .i64 (e.2.2.2 : Int))) (fun _ => false) (by kernel_rfl) ?_
    have b3 : Below w.heap.size w (w1.alloc (.cells #[.int .i64 (e.2.1 : Int), .int .i64 (e.2.2.1 : Int), .int .i64 (e.2.2.2 : Int)] 114)).drew := b2.trans (ch_drew (N := w.heap.size) (n := 0) _).1
    generalize (w1.alloc (.cells #[.int .i64 (e.2.1 : Int), .int .i64 (e.2.2.1 : Int), .int .i64 (e.2.2.2 : Int)] 114)).drew = w3 at *
    refine anyL_take (i := 0) (v := ?v0) rfl (by kernel_rfl) (by kernel_rfl) (by kernel_rfl) (by kernel_rfl) (fun _ _ _ h => h) (Or.inl ⟨by rfl, ?h0⟩) (unhide HS) ?_
    case h0 => (intro w hSw; (try dsimp only at hSw); go_simp) <;> with_reducible rfl
    simp only [Act.put, List.getElem_toArray, List.getElem_cons_zero, List.setIfInBounds_toArray, List.set_cons_zero, List.set_cons_succ]
    refine anyL_take (i := 1) (v := ?v1) rfl (by kernel_rfl) (by kernel_rfl) (by kernel_rfl) (by kernel_rfl) (fun _ _ _ h => h) (Or.inl ⟨by rfl, ?h1⟩) (unhide HS) ?_
    case h1 => (intro w hSw; (try dsimp only at hSw); go_simp) <;> with_reducible rfl
    simp only [Act.put, List.getElem_toArray, List.getElem_cons_zero, List.getElem_cons_succ, List.setIfInBounds_toArray, List.set_cons_zero, List.set_cons_succ]
    refine anyL_take (i := 2) (v := ?v2) rfl (by kernel_rfl) (by kernel_rfl) (by kernel_rfl) (by kernel_rfl) (fun _ _ _ h => h) (Or.inl ⟨by rfl, ?h2⟩) (unhide HS) ?_
    case h2 => (intro w hSw; (try dsimp only at hSw); go_simp) <;> with_reducible rfl
    simp only [Act.put, List.getElem_toArray, List.getElem_cons_zero, List.getElem_cons_succ, List.setIfInBounds_toArray, List.set_cons_zero, List.set_cons_succ]
    refine anyL_take (i := 3) (v := ?v3) rfl (by kernel_rfl) (by kernel_rfl) (by kernel_rfl) (by kernel_rfl) (fun _ _ _ h => h) (Or.inl ⟨by rfl, ?h3⟩) (unhide HS) ?_
    case h3 => (intro w hSw; (try dsimp only at hSw); go_simp) <;> with_reducible rfl
    simp only [Act.put, List.getElem_toArray, List.getElem_cons_zero, List.getElem_cons_succ, List.setIfInBounds_toArray, List.set_cons_zero, List.set_cons_succ]
    refine anyL_take (i := 4) (v := ?v4) rfl (by kernel_rfl) (by kernel_rfl) (by kernel_rfl) (by kernel_rfl) (fun _ _ _ h => h) (Or.inl ⟨by rfl, ?h4⟩) (unhide HS) ?_
    case h4 => (intro w hSw; (try dsimp only at hSw); go_simp) <;> with_reducible rfl
    simp only [Act.put, List.getElem_toArray, List.getElem_cons_zero, List.getElem_cons_succ, List.setIfInBounds_toArray, List.set_cons_zero, List.set_cons_succ]
    refine anyL_take (i := 5) (v := ?v5) rfl (by kernel_rfl) (by kernel_rfl) (by kernel_rfl) (by kernel_rfl) (fun _ _ _ h => h) (Or.inl ⟨by rfl, ?h5⟩) (unhide HS) ?_
    case h5 => (intro w hSw; (try dsimp only at hSw); go_simp) <;> with_reducible rfl
    simp only [Act.put, List.getElem_toArray, List.getElem_cons_zero, List.getElem_cons_succ, List.setIfInBounds_toArray, List.set_cons_zero, List.set_cons_succ]
    refine anyL_take (i := 6) (v := ?v6) rfl (by kernel_rfl) (by kernel_rfl) (by kernel_rfl) (by kernel_rfl) (fun _ _ _ h => h) (Or.inl ⟨by rfl, ?h6⟩) (unhide HS) ?_
    case h6 => (intro w hSw; (try dsimp only at hSw); go_simp) <;> with_reducible rfl
    simp only [Act.put, List.getElem_toArray, List.getElem_cons_zero, List.getElem_cons_succ, List.setIfInBounds_toArray, List.set_cons_zero, List.set_cons_succ]
    refine anyL_take (i := 7) (v := ?v7) rfl (by kernel_rfl) (by kernel_rfl) (by kernel_rfl) (by kernel_rfl) (fun _ _ _ h => h) (Or.inl ⟨by rfl, ?h7⟩) (unhide HS) ?_
    case h7 => (intro w hSw; (try dsimp only at hSw); go_simp) <;> with_reducible rfl
    simp only [Act.put, List.getElem_toArray, List.getElem_cons_zero, List.getElem_cons_succ, List.setIfInBounds_toArray, List.set_cons_zero, List.set_cons_succ]
    refine anyL_take (i := 8) (v := ?v8) rfl (by kernel_rfl) (by kernel_rfl) (by kernel_rfl) (by kernel_rfl) (fun _ _ _ h => h) (Or.inl ⟨by rfl, ?h8⟩) (unhide HS) ?_
    case h8 => (intro w hSw; (try dsimp only at hSw); go_simp) <;> with_reducible rfl
    simp only [Act.put, List.getElem_toArray, List.getElem_cons_zero, List.getElem_cons_succ, List.setIfInBounds_toArray, List.set_cons_zero, List.set_cons_succ]
    refine anyL_take (i := 9) (v := ?v9) rfl (by kernel_rfl) (by kernel_rfl) (by kernel_rfl) (by kernel_rfl) (fun _ _ _ h => h) (Or.inl ⟨by rfl, ?h9⟩) (unhide HS) ?_
    case h9 => (intro w hSw; (try dsimp only at hSw); go_simp) <;> with_reducible rfl
    simp only [Act.put, List.getElem_toArray, List.getElem_cons_zero, List.getElem_cons_succ, List.setIfInBounds_toArray, List.set_cons_zero, List.set_cons_succ]
    refine anyL_done (by kernel_rfl) ?_ _
    go_wp2_with fail
    refine bodyPost_ret (v := .tuple #[.int .i64 (e.2.1 : Int), .int .i64 (e.2.2.1 : Int), .int .i64 (e.2.2.2 : Int), .int .i64 0]) (by simp [results, Tryd.results49]) rfl ?_
    exact ⟨rfl, b3⟩

/-- Spot's answer -/
def spV (l : List Int) (place r : Int) : Value := if isRu r then (if place < 0 ∨ (l.length : Int) < place then .tuple #[.agg #[.int .i64 0, .int .i64 0], .int .i64 2] else .tuple #[.agg #[.int .i64 ((lnOf l (flr l place.toNat)).1 : Int), .int .i64 (colE l (flr l place.toNat) r : Int)], .int .i64 0]) else .tuple #[.agg #[.int .i64 0, .int .i64 0], .int .i64 3]
end Go.Proofs.YtkdnanlgkedjgabDoor
