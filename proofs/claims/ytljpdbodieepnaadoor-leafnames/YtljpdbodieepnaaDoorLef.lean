/- Layer 8: a leaf in memory; the contracts of leaf's of, New, border, Len, place, Bytes. -/
import Derived.Test.YtljpdbodieepnaaDoorWof
import Derived.Test.YtljpdbodieepnaaDoorWva
import Derived.Test.YtljpdbodieepnaaDoorStpC
import Derived.Test.YtljpdbodieepnaaDoorLat
namespace Go.Proofs.YtljpdbodieepnaaDoor
open Go.ChangeShapes Go.WideShapes Go.ChangeAt Go.RowKit
attribute [local go_sem] Oper.semAt_some

/-- the cells of a leaf of these bytes -/
def leafC (l : List Int) : Array Value := #[.string (strOfNums l), .int .i64 (szL l).b, .int .i64 (szL l).r, .int .i64 (szL l).u, .int .i64 (szL l).e, .string (strOfNums (l.take 3)), .string (strOfNums (tail3 l))]
/-- a leaf of these bytes lies at g -/
def IsLf (W : World) (g : Nat) (l : List Int) : Prop := W.heap[g]? = some (.cells (leafC l) 58 (0, 0))
theorem IsLf.lt {W : World} {g : Nat} {l : List Int} (h : IsLf W g l) : g < W.heap.size := (Array.getElem?_eq_some_iff.1 h).1
theorem IsLf.below {W W' : World} {g N : Nat} {l : List Int} (h : IsLf W g l) (hb : Below N W W') (hg : g < N) : IsLf W' g l := (hb.block g hg).trans h
theorem IsLf.on {W W' : World} {g : Nat} {l : List Int} (h : IsLf W g l) (hb : Below W.heap.size W W') : IsLf W' g l := h.below hb h.lt
theorem IsLf.text {W : World} {g : Nat} {l : List Int} (h : IsLf W g l) : W.cell? ⟨g, 0, none⟩ = some (.string (strOfNums l)) := by simp [World.cell?, show W.heap[g]? = _ from h, leafC]
theorem IsLf.cell {W : World} {g : Nat} {l : List Int} (h : IsLf W g l) (i : Nat) : W.cell? ⟨g, i, none⟩ = (leafC l)[i]? := by simp [World.cell?, show W.heap[g]? = _ from h]
theorem drewW (w : World) : Below w.heap.size w w.drew := (Below.refl _ _).drew

set_option maxRecDepth 100000 in
set_option maxHeartbeats 2000000 in
theorem of_at (a0 : Option Addr) (cap : Nat) (l : List Int) (w : World) (hB : IsN w a0 cap l) (hl : l.length ≤ 268435456) (hW : Wt w) :
    Calls Tryd.prog 26 #[.slice a0 l.length cap] w fun y w' => ∃ g, y = .returned (.pointer (some ⟨g, 0, none⟩)) ∧ IsLf w' g l ∧ w.heap.size ≤ g ∧ Below w.heap.size w w' := by
  go_enter Tryd.func26, Tryd.ntmps26
  go_wp2_with fail
  have x0 := drewW w
  have hB0 := hB.below x0 (Nat.le_refl _)
  have hW0 := hW.below x0
  have HS0 : Hid ((fun w' : World => (convert 26 9 (.slice a0 l.length cap)).run Tryd.prog w' = .ok (.string (strOfNums l)) w') w.drew) := hide (str_bs w.drew a0 cap l hB0.1.2.2.1)
  refine regionL (S := fun w' => (convert 26 9 (.slice a0 l.length cap)).run Tryd.prog w' = .ok (.string (strOfNums l)) w') (fun _ => false) (by kernel_rfl) ?_
  generalize w.drew = y0 at *
  refine anyL_take (i := 0) (v := ?va) rfl (by kernel_rfl) (by kernel_rfl) (by kernel_rfl) (by kernel_rfl) (fun _ _ _ h => h) (Or.inl ⟨by rfl, ?ha⟩) (unhide HS0) ?_
  case ha => (intro w hSw; (try dsimp only at hSw); go_simp) <;> with_reducible rfl
  simp only [Act.put, List.getElem_toArray, List.getElem_cons_zero, List.setIfInBounds_toArray, List.set_cons_zero, List.set_cons_succ]
  refine anyL_take (i := 1) (v := ?vb) rfl (by kernel_rfl) (by kernel_rfl) (by kernel_rfl) (by kernel_rfl) (fun _ _ _ h => h) (Or.inl ⟨by rfl, ?hb⟩) (unhide HS0) ?_
  case hb => (intro w hSw; (try dsimp only at hSw); go_simp) <;> with_reducible rfl
  simp only [Act.put, List.getElem_toArray, List.getElem_cons_zero, List.getElem_cons_succ, List.setIfInBounds_toArray, List.set_cons_zero, List.set_cons_succ]
  refine anyL_take (i := 2) (v := ?vc) rfl (by kernel_rfl) (by kernel_rfl) (by kernel_rfl) (by kernel_rfl) (fun _ _ _ h => h) (Or.inl ⟨by rfl, ?hc⟩) (unhide HS0) ?_
  case hc => (intro w hSw; (try dsimp only at hSw); go_simp) <;> with_reducible rfl
  simp only [Act.put, List.getElem_toArray, List.getElem_cons_zero, List.getElem_cons_succ, List.setIfInBounds_toArray, List.set_cons_zero, List.set_cons_succ]
  refine anyL_ready (rs := [3]) (by kernel_rfl) (by simp) ?_
  refine AllL.cons rfl (fun K hK => ?_) AllL.nil
  go_simp
  have hof := Of_at a0 cap l y0 hB0 hl hW0
  unfold weV at hof
  refine hof.mono ?_
  rintro y y1 ⟨rfl, x1⟩
  have hB1 := hB0.below x1 (Nat.le_refl _)
  have HS1 : Hid ((fun w' : World => (convert 26 9 (.slice a0 l.length cap)).run Tryd.prog w' = .ok (.string (strOfNums l)) w') y1) := hide (str_bs y1 a0 cap l hB1.1.2.2.1)
  refine unhide hK _ _ (fun _ => unhide HS1) ?_
  clear hK K hof
  refine anyL_take (i := 4) (v := ?vd) rfl (by kernel_rfl) (by kernel_rfl) (by kernel_rfl) (by kernel_rfl) (fun _ _ _ h => h) (Or.inl ⟨by rfl, ?hd⟩) (unhide HS1) ?_
  case hd => (intro w hSw; (try dsimp only at hSw); go_simp) <;> with_reducible rfl
  simp only [Act.put, List.getElem_toArray, List.getElem_cons_zero, List.getElem_cons_succ, List.setIfInBounds_toArray, List.set_cons_zero, List.set_cons_succ]
  have x2 := (Below.refl y1.heap.size y1).alloc (Nat.le_refl _) (.cells (leafC l) 58)
  have k2 : IsLf (y1.alloc (.cells (leafC l) 58)) y1.heap.size l := push_get y1 _
  have hB2 := hB1.below x2 (Nat.le_refl _)
  have HS2 : Hid ((fun w' : World => (convert 26 9 (.slice a0 l.length cap)).run Tryd.prog w' = .ok (.string (strOfNums l)) w') (y1.alloc (.cells (leafC l) 58))) := hide (str_bs _ a0 cap l hB2.1.2.2.1)
  have b2 : Below w.heap.size w (y1.alloc (.cells (leafC l) 58)) := (x0.trans (x1.mono x0.size)).trans (x2.mono (Nat.le_trans x0.size x1.size))
  have z2 : w.heap.size ≤ y1.heap.size := Nat.le_trans x0.size x1.size
  unfold leafC at x2 HS2 b2
  refine anyL_ready (rs := [5]) (by kernel_rfl) (by simp) ?_
  refine AllL.cons rfl (fun K hK => ?_) AllL.nil
  go_simp
  refine unhide hK _ _ (fun _ => unhide HS2) ?_
  clear hK K
  refine anyL_take (i := 6) (v := ?ve) rfl (by kernel_rfl) (by kernel_rfl) (by kernel_rfl) (by kernel_rfl) (fun _ _ _ h => h) (Or.inl ⟨by rfl, ?he⟩) (unhide HS2) ?_
  case he => (intro w hSw; (try dsimp only at hSw); go_simp) <;> with_reducible rfl
  simp only [Act.put, List.getElem_toArray, List.getElem_cons_zero, List.getElem_cons_succ, List.setIfInBounds_toArray, List.set_cons_zero, List.set_cons_succ]
  refine anyL_done (by kernel_rfl) ?_ _
  go_wp2_with fail
  go_ret
  exact ⟨_, rfl, k2, z2, b2⟩

set_option maxRecDepth 100000 in
theorem New_at (a0 : Option Addr) (cap : Nat) (l : List Int) (w : World) (hB : IsN w a0 cap l) (hW : Wt w) (hl : l.length ≤ 4096) :
    Calls Tryd.prog 9 #[.slice a0 l.length cap] w fun y w' => ∃ g, y = .returned (.tuple #[.pointer (some ⟨g, 0, none⟩), .int .i64 0]) ∧ IsLf w' g l ∧ w.heap.size ≤ g ∧ Below w.heap.size w w' := by
  have t1 : decide ((l.length : Int) > 4096) = false := decide_eq_false (by omega)
  have t2 : decide ((4096 : Int) < (l.length : Int)) = false := decide_eq_false (by omega)
  have t3 : decide (4096 < l.length) = false := decide_eq_false (by omega)
  go_enter Tryd.func9, Tryd.ntmps9
  go_wp2_with fail
  refine (of_at a0 cap l w hB (by omega) hW).mono ?_
  rintro y w1 ⟨g, rfl, k1, z1, x1⟩
  go_wp2_with fail
  refine bodyPost_ret (results_tmp2 rfl _ _ _) rfl ?_
  exact ⟨g, rfl, k1, z1, x1⟩
set_option maxRecDepth 100000 in
theorem NewLong_at (a0 : Option Addr) (cap n : Nat) (w : World) (hl : 4096 < n) :
    Calls Tryd.prog 9 #[.slice a0 n cap] w fun y w' => y = .returned (.tuple #[.pointer none, .int .i64 5]) ∧ w' = w := by
  have t1 : decide ((n : Int) > 4096) = true := decide_eq_true (by omega)
  have t2 : decide ((4096 : Int) < (n : Int)) = true := decide_eq_true (by omega)
  have t3 : decide (4096 < n) = true := decide_eq_true (by omega)
  go_enter Tryd.func9, Tryd.ntmps9
  go_wp2_with fail
  refine bodyPost_ret (results_tmp2 rfl _ _ _) rfl ?_
  exact ⟨rfl, rfl⟩

/-- where the leaf ends that begins at a place -/
def bdr (l : List Int) (b m : Nat) : Nat := if l.length - b ≤ m then l.length else if m < 4 then b + m else flr l (b + m)
set_option maxRecDepth 100000 in
theorem border_at (a0 : Option Addr) (cap : Nat) (l : List Int) (b m : Nat) (w : World) (hB : IsB w a0 cap l) (hT : Tab w) (hb : b ≤ l.length) (hm : m ≤ 4096) :
    Calls Tryd.prog 27 #[.slice a0 l.length cap, .int .i64 (b : Int), .int .i64 (m : Int)] w fun y w' => y = .returned (.int .i64 (bdr l b m : Int)) ∧ Below w.heap.size w w' := by
  have hlen := hB.2.1
  go_enter Tryd.func27, Tryd.ntmps27
  by_cases h1 : l.length - b ≤ m
  · have HV : Hid (bdr l b m = l.length) := hide (by unfold bdr; rw [if_pos h1])
    have t1 : decide ((l.length : Int) - (b : Int) ≤ (m : Int)) = true := decide_eq_true (by omega)
    go_wp2_with fail
    go_ret
    exact ⟨ret_int (by rw [unhide HV]), Below.refl _ _⟩
  · have t1 : decide ((l.length : Int) - (b : Int) ≤ (m : Int)) = false := decide_eq_false (by omega)
    by_cases h2 : m < 4
    · have HV : Hid (bdr l b m = b + m) := hide (by unfold bdr; rw [if_neg h1, if_pos h2])
      have t2 : decide ((m : Int) < 4) = true := decide_eq_true (by omega)
      have t2' : decide (m < 4) = true := decide_eq_true h2
      clear h1
      go_wp2_with fail
      go_ret
      exact ⟨ret_int (by rw [unhide HV]; omega), Below.refl _ _⟩
    · have hbm : b + m ≤ l.length := by omega
      have HV : Hid (bdr l b m = flr l (b + m)) := hide (by unfold bdr; rw [if_neg h1, if_neg h2])
      have t2 : decide ((m : Int) < 4) = false := decide_eq_false (by omega)
      have t2' : decide (m < 4) = false := decide_eq_false h2
      have hF := Floor_at a0 cap ((b : Int) + (m : Int)) l w hB hT
      have hv : floorV l ((b : Int) + (m : Int)) = .tuple #[.int .i64 (flr l (b + m)), .int .i64 0] := by
        unfold floorV
        rw [if_neg (by omega), show ((b : Int) + (m : Int)).toNat = b + m by omega]
      rw [hv] at hF
      clear h1 hv h2
      go_wp2_with fail
      refine hF.mono ?_
      rintro y w1 ⟨rfl, x1⟩
      go_wp2_with fail
      go_ret
      exact ⟨ret_int (by rw [unhide HV]), x1⟩

set_option maxRecDepth 100000 in
theorem LenL_at (g : Nat) (l : List Int) (w : World) (h : IsLf w g l) :
    Calls Tryd.prog 19 #[.pointer (some ⟨g, 0, none⟩)] w fun y w' => y = .returned (.int .i64 (l.length : Int)) ∧ w' = w := by
  have c := h.text
  have hs := strOfNums_size l
  have HS := hide hs
  clear hs
  go_enter Tryd.func19, Tryd.ntmps19
  go_wp2_with fail
  go_ret
  exact ⟨ret_int (by rw [unhide HS]), rfl⟩
theorem LenN_at (w : World) : Calls Tryd.prog 19 #[.pointer none] w fun y w' => y = .returned (.int .i64 0) ∧ w' = w := by
  go_enter Tryd.func19, Tryd.ntmps19
  go_wp2_with fail
  go_ret
  exact ⟨rfl, rfl⟩
theorem BytesN_at (w : World) : Calls Tryd.prog 14 #[.pointer none] w fun y w' => y = .returned (.slice none 0 0) ∧ w' = w := by
  go_enter Tryd.func14, Tryd.ntmps14
  go_wp2_with fail
  go_ret
  exact ⟨rfl, rfl⟩
set_option maxRecDepth 100000 in
theorem BytesL_at (g : Nat) (l : List Int) (w : World) (h : IsLf w g l) (hl : ∀ x ∈ l, 0 ≤ x ∧ x ≤ 255) (hn : l.length ≤ 140737488351232) :
    Calls Tryd.prog 14 #[.pointer (some ⟨g, 0, none⟩)] w fun y w' => ∃ c, y = .returned (.slice (some ⟨w.heap.size, 0, none⟩) l.length c) ∧ IsN w' (some ⟨w.heap.size, 0, none⟩) c l ∧ Below w.heap.size w w' := by
  have c := h.text
  obtain ⟨c1, w1, r1, k1, x1, _⟩ := toBytes w l hl hn
  have R1 := hide r1
  go_enter Tryd.func14, Tryd.ntmps14
  go_wp2_with fail
  go_ret
  exact ⟨_, rfl, k1, x1⟩

end Go.Proofs.YtljpdbodieepnaaDoor
