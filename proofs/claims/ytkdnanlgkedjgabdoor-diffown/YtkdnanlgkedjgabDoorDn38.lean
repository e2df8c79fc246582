/- Layer 13: sizes, and measure. -/
import Derived.Test.YtkdnanlgkedjgabDoorDn37

namespace Go.Proofs.YtkdnanlgkedjgabDoor
open Go.ChangeShapes Go.WideShapes Go.ChangeAt Go.RowKit
attribute [local go_sem] Oper.semAt_some

def frN (o : Dop) : Nat := if o.k = 1 ∨ o.k = 3 then o.n.toNat else 0
def toN (o : Dop) : Nat := if o.k = 1 then o.n.toNat else if o.k = 2 then o.t.length else 0
def frD (d : List Dop) : Nat := (d.map frN).sum
def toD (d : List Dop) : Nat := (d.map toN).sum
theorem sumD_take (f : Dop → Nat) (d : List Dop) {k : Nat} (hk : k < d.length) : ((d.take (k + 1)).map f).sum = ((d.take k).map f).sum + f (d.getD k opZ) := by
  rw [List.take_add_one, List.getElem?_eq_getElem hk, Option.toList_some, List.map_append, List.sum_append]
  simp [List.getD_eq_getElem?_getD, List.getElem?_eq_getElem hk]
def satD (n : Nat) : Nat := min n 268435457
set_option maxRecDepth 100000 in
theorem moreI_at (z y M : Int) (w : World) (h0 : 0 ≤ z) (h1 : z ≤ 268435457) (h2 : 0 ≤ y) (hM : M = min (z + min y 268435457) 268435457) : Calls Tryd.prog 51 #[.int .i64 z, .int .i64 y] w fun e w' => e = .returned (.int .i64 M) ∧ w' = w := by
  have HM := hide hM
  have hw : wrap64 (z + min y 268435457) = z + min y 268435457 := wrapD _ (by omega) (by omega)
  by_cases h3 : y ≤ 268435457
  · rw [Int.min_eq_left h3] at hw
    have H := hide (And.intro h0 (And.intro h1 (And.intro h2 h3)))
    clear hM h0 h1 h2
    go_enter Tryd.func51, Tryd.ntmps51
    go_wp2_with fail
    all_goals
      refine bodyPost_ret (results_tmp rfl _ _ _) rfl ⟨?_, rfl⟩
      have := unhide HM
      have := unhide H
      exact congrArg (fun x => Ending.returned (.int .i64 x)) (by omega)
  · have h3' : 268435457 < y := by omega
    rw [Int.min_eq_right (by omega)] at hw
    have H := hide (And.intro h0 (And.intro h1 (And.intro h2 h3)))
    clear hM h0 h1 h2 h3
    go_enter Tryd.func51, Tryd.ntmps51
    go_wp2_with fail
    all_goals
      refine bodyPost_ret (results_tmp rfl _ _ _) rfl ⟨?_, rfl⟩
      have := unhide HM
      have := unhide H
      exact congrArg (fun x => Ending.returned (.int .i64 x)) (by omega)
theorem more_at (s n : Nat) (w : World) (hs : s ≤ 268435457) : Calls Tryd.prog 51 #[.int .i64 (s : Int), .int .i64 (n : Int)] w fun y w' => y = .returned (.int .i64 (satD (s + n) : Int)) ∧ w' = w :=
  moreI_at (s : Int) (n : Int) _ w (by omega) (by omega) (by omega) (by unfold satD; omega)
/-- sizes in a block of their own -/
def IsZ (X : World) (g : Nat) (f t : Nat) : Prop := Cls X g 44 #[.int .i64 (f : Int), .int .i64 (t : Int)]
theorem IsZ.cells {X : World} {g f t : Nat} (h : IsZ X g f t) : X.cell? ⟨g, 0, none⟩ = some (.int .i64 (f : Int)) ∧ X.cell? ⟨g, 1, none⟩ = some (.int .i64 (t : Int)) ∧ X.frozen? ⟨g, 0, none⟩ = false ∧ X.frozen? ⟨g, 1, none⟩ = false :=
  ⟨(Cls.cell h 0).trans rfl, (Cls.cell h 1).trans rfl, Cls.frozen h 0, Cls.frozen h 1⟩
theorem IsZ.set0 {X : World} {g f t : Nat} (h : IsZ X g f t) (n : Nat) : IsZ (X.setCell ⟨g, 0, none⟩ (.int .i64 (n : Int))) g n t := by
  show Cls _ _ _ _
  have := Cls.set h 0 (.int .i64 (n : Int))
  simpa only [List.setIfInBounds_toArray, List.set_cons_zero, List.set_cons_succ] using this
theorem IsZ.set1 {X : World} {g f t : Nat} (h : IsZ X g f t) (n : Nat) : IsZ (X.setCell ⟨g, 1, none⟩ (.int .i64 (n : Int))) g f n := by
  show Cls _ _ _ _
  have := Cls.set h 1 (.int .i64 (n : Int))
  simpa only [List.setIfInBounds_toArray, List.set_cons_zero, List.set_cons_succ] using this
set_option maxRecDepth 100000 in
set_option maxHeartbeats 1000000 in
theorem zput_at (g f t n : Nat) (s : ByteArray) (X : World) (h : IsZ X g f t) (ht : t ≤ 268435457) (hs : s.size = n) :
    Calls Tryd.prog 33 #[.pointer (some ⟨g, 0, none⟩), .string s] X fun y X' => y = .returned (.tuple #[]) ∧ IsZ X' g f (satD (t + n)) ∧ Below g X X' := by
  have HM := hide (more_at t n X ht)
  obtain ⟨c0, c1, f0, f1⟩ := h.cells
  have HR := hide (h.set1 (satD (t + n)))
  have HB := hide ((Below.refl g X).setCell (p := ⟨g, 1, none⟩) (Nat.le_refl _) (.int .i64 (satD (t + n) : Int)))
  generalize satD (t + n) = M at *
  clear h ht c0 f0
  go_enter Tryd.func33, Tryd.ntmps33
  go_wp2_with fail
  refine (unhide HM).mono ?_
  rintro y X' ⟨rfl, rfl⟩
  dsimp only
  clear HM
  go_wp2_with fail
  exact bodyPost_end (v := .tuple #[]) (results_none Tryd.results33 _ _ _) rfl ⟨rfl, unhide HR, unhide HB⟩
set_option maxRecDepth 100000 in
set_option maxHeartbeats 1000000 in
theorem zdrop_at (g f t n : Nat) (X : World) (h : IsZ X g f t) (ht : f ≤ 268435457) :
    Calls Tryd.prog 34 #[.pointer (some ⟨g, 0, none⟩), .int .i64 (n : Int)] X fun y X' => y = .returned (.tuple #[]) ∧ IsZ X' g (satD (f + n)) t ∧ Below g X X' := by
  have HM := hide (more_at f n X ht)
  obtain ⟨c0, c1, f0, f1⟩ := h.cells
  have HR := hide (h.set0 (satD (f + n)))
  have HB := hide ((Below.refl g X).setCell (p := ⟨g, 0, none⟩) (Nat.le_refl _) (.int .i64 (satD (f + n) : Int)))
  generalize satD (f + n) = M at *
  clear h ht c1 f1
  go_enter Tryd.func34, Tryd.ntmps34
  go_wp2_with fail
  refine (unhide HM).mono ?_
  rintro y X' ⟨rfl, rfl⟩
  dsimp only
  clear HM
  go_wp2_with fail
  exact bodyPost_end (v := .tuple #[]) (results_none Tryd.results34 _ _ _) rfl ⟨rfl, unhide HR, unhide HB⟩
set_option maxRecDepth 100000 in
set_option maxHeartbeats 2000000 in
theorem zkeep_at (g f t n : Nat) (X : World) (h : IsZ X g f t) (hf : f ≤ 268435457) (ht : t ≤ 268435457) :
    Calls Tryd.prog 32 #[.pointer (some ⟨g, 0, none⟩), .int .i64 (n : Int)] X fun y X' => y = .returned (.tuple #[]) ∧ IsZ X' g (satD (f + n)) (satD (t + n)) ∧ Below g X X' := by
  have HM := hide fun (Y : World) => more_at f n Y hf
  have HN := hide fun (Y : World) => more_at t n Y ht
  have hz : IsZ X.drew g f t := h
  obtain ⟨c0, c1, f0, f1⟩ := hz.cells
  obtain ⟨_, e1, _, k1⟩ := (hz.set0 (satD (f + n))).cells
  have HS0 := hide (And.intro c0 c1)
  have HR := hide ((hz.set0 (satD (f + n))).set1 (satD (t + n)))
  have HB := hide ((((Below.refl g X).drew).setCell (p := ⟨g, 0, none⟩) (Nat.le_refl _) (.int .i64 (satD (f + n) : Int))).setCell (p := ⟨g, 1, none⟩) (Nat.le_refl _) (.int .i64 (satD (t + n) : Int)))
  generalize satD (f + n) = M at *
  generalize satD (t + n) = M' at *
  clear h hf ht hz
  go_enter Tryd.func32, Tryd.ntmps32
  go_wp2_with fail
  refine regionL (S := fun w' => w'.cell? ⟨g, 0, none⟩ = some (.int .i64 (f : Int)) ∧ w'.cell? ⟨g, 1, none⟩ = some (.int .i64 (t : Int))) (fun i => i == 1 || i == 16 || i == 17 || i == 18 || i == 19) (by kernel_rfl) ?_
  generalize X.drew = Z at *
  refine anyL_free (i := 1) (v := ?vzkf0) rfl (by kernel_rfl) (by kernel_rfl) (by kernel_rfl) rfl (fun _ _ _ h => h) (Or.inl ⟨by rfl, ?hzkf0⟩) ?_
  case hzkf0 => (intro w hSw; go_simp) <;> with_reducible rfl
  simp only [Act.put, List.getElem_toArray, List.getElem_cons_zero, List.getElem_cons_succ, List.setIfInBounds_toArray, List.set_cons_zero, List.set_cons_succ]
  refine anyL_take2 (i := 0) (v := ?vzk1) rfl (by kernel_rfl) (by kernel_rfl) (by kernel_rfl) (by kernel_rfl) (fun _ _ _ h => h) (Or.inl ⟨by rfl, ?hzk1⟩) (unhide HS0) ?_
  case hzk1 => (intro w hSw; (try dsimp only at hSw); go_simp) <;> with_reducible rfl
  simp only [Act.put, List.getElem_toArray, List.getElem_cons_zero, List.setIfInBounds_toArray, List.set_cons_zero, List.set_cons_succ]
  refine anyL_take2 (i := 2) (v := ?vzk2) rfl (by kernel_rfl) (by kernel_rfl) (by kernel_rfl) (by kernel_rfl) (fun _ _ _ h => h) (Or.inl ⟨by rfl, ?hzk2⟩) (unhide HS0) ?_
  case hzk2 => (intro w hSw; (try dsimp only at hSw); go_simp) <;> with_reducible rfl
  simp only [Act.put, List.getElem_toArray, List.getElem_cons_zero, List.getElem_cons_succ, List.setIfInBounds_toArray, List.set_cons_zero, List.set_cons_succ]
  refine anyL_take2 (i := 3) (v := ?vzk3) rfl (by kernel_rfl) (by kernel_rfl) (by kernel_rfl) (by kernel_rfl) (fun _ _ _ h => h) (Or.inl ⟨by rfl, ?hzk3⟩) (unhide HS0) ?_
  case hzk3 => (intro w hSw; (try dsimp only at hSw); go_simp) <;> with_reducible rfl
  simp only [Act.put, List.getElem_toArray, List.getElem_cons_zero, List.getElem_cons_succ, List.setIfInBounds_toArray, List.set_cons_zero, List.set_cons_succ]
  refine anyL_take2 (i := 4) (v := ?vzk4) rfl (by kernel_rfl) (by kernel_rfl) (by kernel_rfl) (by kernel_rfl) (fun _ _ _ h => h) (Or.inl ⟨by rfl, ?hzk4⟩) (unhide HS0) ?_
  case hzk4 => (intro w hSw; (try dsimp only at hSw); go_simp) <;> with_reducible rfl
  simp only [Act.put, List.getElem_toArray, List.getElem_cons_zero, List.getElem_cons_succ, List.setIfInBounds_toArray, List.set_cons_zero, List.set_cons_succ]
  refine anyL_take2 (i := 5) (v := ?vzk5) rfl (by kernel_rfl) (by kernel_rfl) (by kernel_rfl) (by kernel_rfl) (fun _ _ _ h => h) (Or.inl ⟨by rfl, ?hzk5⟩) (unhide HS0) ?_
  case hzk5 => (intro w hSw; (try dsimp only at hSw); go_simp) <;> with_reducible rfl
  simp only [Act.put, List.getElem_toArray, List.getElem_cons_zero, List.getElem_cons_succ, List.setIfInBounds_toArray, List.set_cons_zero, List.set_cons_succ]
  refine anyL_take2 (i := 6) (v := ?vzk6) rfl (by kernel_rfl) (by kernel_rfl) (by kernel_rfl) (by kernel_rfl) (fun _ _ _ h => h) (Or.inl ⟨by rfl, ?hzk6⟩) (unhide HS0) ?_
  case hzk6 => (intro w hSw; (try dsimp only at hSw); go_simp) <;> with_reducible rfl
  simp only [Act.put, List.getElem_toArray, List.getElem_cons_zero, List.getElem_cons_succ, List.setIfInBounds_toArray, List.set_cons_zero, List.set_cons_succ]
  refine anyL_take2 (i := 8) (v := ?vzk7) rfl (by kernel_rfl) (by kernel_rfl) (by kernel_rfl) (by kernel_rfl) (fun _ _ _ h => h) (Or.inl ⟨by rfl, ?hzk7⟩) (unhide HS0) ?_
  case hzk7 => (intro w hSw; (try dsimp only at hSw); go_simp) <;> with_reducible rfl
  simp only [Act.put, List.getElem_toArray, List.getElem_cons_zero, List.getElem_cons_succ, List.setIfInBounds_toArray, List.set_cons_zero, List.set_cons_succ]
  refine anyL_take2 (i := 9) (v := ?vzk8) rfl (by kernel_rfl) (by kernel_rfl) (by kernel_rfl) (by kernel_rfl) (fun _ _ _ h => h) (Or.inl ⟨by rfl, ?hzk8⟩) (unhide HS0) ?_
  case hzk8 => (intro w hSw; (try dsimp only at hSw); go_simp) <;> with_reducible rfl
  simp only [Act.put, List.getElem_toArray, List.getElem_cons_zero, List.getElem_cons_succ, List.setIfInBounds_toArray, List.set_cons_zero, List.set_cons_succ]
  refine anyL_take2 (i := 10) (v := ?vzk9) rfl (by kernel_rfl) (by kernel_rfl) (by kernel_rfl) (by kernel_rfl) (fun _ _ _ h => h) (Or.inl ⟨by rfl, ?hzk9⟩) (unhide HS0) ?_
  case hzk9 => (intro w hSw; (try dsimp only at hSw); go_simp) <;> with_reducible rfl
  simp only [Act.put, List.getElem_toArray, List.getElem_cons_zero, List.getElem_cons_succ, List.setIfInBounds_toArray, List.set_cons_zero, List.set_cons_succ]
  refine anyL_take2 (i := 11) (v := ?vzk10) rfl (by kernel_rfl) (by kernel_rfl) (by kernel_rfl) (by kernel_rfl) (fun _ _ _ h => h) (Or.inl ⟨by rfl, ?hzk10⟩) (unhide HS0) ?_
  case hzk10 => (intro w hSw; (try dsimp only at hSw); go_simp) <;> with_reducible rfl
  simp only [Act.put, List.getElem_toArray, List.getElem_cons_zero, List.getElem_cons_succ, List.setIfInBounds_toArray, List.set_cons_zero, List.set_cons_succ]
  refine anyL_take2 (i := 12) (v := ?vzk11) rfl (by kernel_rfl) (by kernel_rfl) (by kernel_rfl) (by kernel_rfl) (fun _ _ _ h => h) (Or.inl ⟨by rfl, ?hzk11⟩) (unhide HS0) ?_
  case hzk11 => (intro w hSw; (try dsimp only at hSw); go_simp) <;> with_reducible rfl
  simp only [Act.put, List.getElem_toArray, List.getElem_cons_zero, List.getElem_cons_succ, List.setIfInBounds_toArray, List.set_cons_zero, List.set_cons_succ]
  refine anyL_ready (rs := [7]) (by kernel_rfl) (by simp) ?_
  refine AllL.cons rfl (fun K hK => ?_) AllL.nil
  go_simp
  refine (unhide HM _).mono ?_
  rintro e w' ⟨rfl, rfl⟩
  refine unhide hK _ _ (fun _ => unhide HS0) ?_
  clear hK K
  refine anyL_ready (rs := [13]) (by kernel_rfl) (by simp) ?_
  refine AllL.cons rfl (fun K hK => ?_) AllL.nil
  go_simp
  refine (unhide HN _).mono ?_
  rintro e w' ⟨rfl, rfl⟩
  refine unhide hK _ _ (fun _ => unhide HS0) ?_
  clear hK K
  refine anyL_take2 (i := 14) (v := ?vzk12) rfl (by kernel_rfl) (by kernel_rfl) (by kernel_rfl) (by kernel_rfl) (fun _ _ _ h => h) (Or.inl ⟨by rfl, ?hzk12⟩) (unhide HS0) ?_
  case hzk12 => (intro w hSw; (try dsimp only at hSw); go_simp) <;> with_reducible rfl
  simp only [Act.put, List.getElem_toArray, List.getElem_cons_zero, List.getElem_cons_succ, List.setIfInBounds_toArray, List.set_cons_zero, List.set_cons_succ]
  refine anyL_take2 (i := 15) (v := ?vzk13) rfl (by kernel_rfl) (by kernel_rfl) (by kernel_rfl) (by kernel_rfl) (fun _ _ _ h => h) (Or.inl ⟨by rfl, ?hzk13⟩) (unhide HS0) ?_
  case hzk13 => (intro w hSw; (try dsimp only at hSw); go_simp) <;> with_reducible rfl
  simp only [Act.put, List.getElem_toArray, List.getElem_cons_zero, List.getElem_cons_succ, List.setIfInBounds_toArray, List.set_cons_zero, List.set_cons_succ]
  refine anyL_ready (rs := [16]) (by kernel_rfl) (by simp) ?_
  refine AllL.cons rfl (fun K hK => ?_) AllL.nil
  go_simp
  refine unhide hK _ _ (fun h => by cases h) ?_
  clear hK K
  refine anyL_free (i := 17) (v := ?vzkf14) rfl (by kernel_rfl) (by kernel_rfl) (by kernel_rfl) rfl (fun _ _ _ h => h) (Or.inl ⟨by rfl, ?hzkf14⟩) ?_
  case hzkf14 => (intro w hSw; go_simp) <;> with_reducible rfl
  simp only [Act.put, List.getElem_toArray, List.getElem_cons_zero, List.getElem_cons_succ, List.setIfInBounds_toArray, List.set_cons_zero, List.set_cons_succ]
  refine anyL_free (i := 18) (v := ?vzkf15) rfl (by kernel_rfl) (by kernel_rfl) (by kernel_rfl) rfl (fun _ _ _ h => h) (Or.inl ⟨by rfl, ?hzkf15⟩) ?_
  case hzkf15 => (intro w hSw; go_simp) <;> with_reducible rfl
  simp only [Act.put, List.getElem_toArray, List.getElem_cons_zero, List.getElem_cons_succ, List.setIfInBounds_toArray, List.set_cons_zero, List.set_cons_succ]
  refine anyL_ready (rs := [19]) (by kernel_rfl) (by simp) ?_
  refine AllL.cons rfl (fun K hK => ?_) AllL.nil
  go_simp
  refine unhide hK _ _ (fun h => by cases h) ?_
  clear hK K
  refine anyL_done (by kernel_rfl) ?_ _
  exact bodyPost_end (v := .tuple #[]) (results_none Tryd.results32 _ _ _) rfl ⟨rfl, unhide HR, unhide HB⟩

end Go.Proofs.YtkdnanlgkedjgabDoor
