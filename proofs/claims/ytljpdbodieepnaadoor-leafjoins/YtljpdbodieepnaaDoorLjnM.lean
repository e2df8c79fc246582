/- Layer 8: a leaf in memory; the contracts of leaf's of, New, border, Len, place, Bytes. · Layer 8: the contracts of leaf's place, Before, Weld, and of a nil leaf. · Layer 8: the contract of leaf's Cut. · Layer 8: the walk of leaf's Cut. · Layer 8: the laws' own beginning (fixed), and a nil leaf (LeafNil). · Layer 8: the contracts of a leaf's Weld and of the laws' is. · Layer 8: the contracts of leaf's Join. · LeafJoins: the walk. -/
import Derived.Test.YtljpdbodieepnaaDoorWof
import Derived.Test.YtljpdbodieepnaaDoorWva
import Derived.Test.YtljpdbodieepnaaDoorStpC
import Derived.Test.YtljpdbodieepnaaDoorLat
import Derived.Deep.AppendLies
import Derived.Deep.Cut
import Derived.Test.YtljpdbodieepnaaDoorRw8
import Derived.Test.YtljpdbodieepnaaDoorOwnR
import Derived.Test.YtljpdbodieepnaaDoorRwx
import Derived.Deep.AppendSrc

section
namespace Go.Proofs.YtljpdbodieepnaaDoor
open Go.ChangeShapes Go.WideShapes Go.ChangeAt Go.RowKit
attribute [local go_sem] Oper.semAt_some

/-- the cells of a leaf of these bytes -/
def leafC (l : List Int) : Array Value := #[.string (strOfNums l), .int .i64 (szL l).b, .int .i64 (szL l).r, .int .i64 (szL l).u, .int .i64 (szL l).e, .string (strOfNums (l.take 3)), .string (strOfNums (tail3 l))]
/-- a leaf of these bytes lies at g -/
def IsLf (W : World) (g : Nat) (l : List Int) : Prop := W.heap[g]? = some (.cells (leafC l) 58 (0, 0))
theorem IsLf.lt {W : World} {g : Nat} {l : List Int} (h : IsLf W g l) : g < W.heap.size := (Array.getElem?_eq_some_iff.1 h).1
theorem IsLf.below {W W' : World} {g N : Nat} {l : List Int} (h : IsLf W g l) (hb : Below N W W') (hg : g < N) : IsLf W' g l := (hb.block g hg).trans h
theorem IsLf.on {W W' : World} {g : Nat} {l : List Int} (h : IsLf W g l) (hb : Below W.heap.size W W') : IsLf W' g l := h.below hb h.lt
theorem IsLf.text {W : World} {g : Nat} {l : List Int} (h : IsLf W g l) : W.cell? ⟨g, 0, none⟩ = some (.string (strOfNums l)) := by simp [World.cell?, show W.heap[g]? = _ from h, leafC]
theorem IsLf.cell {W : World} {g : Nat} {l : List Int} (h : IsLf W g l) (i : Nat) : W.cell? ⟨g, i, none⟩ = (leafC l)[i]? := by simp [World.cell?, show W.heap[g]? = _ from h]
theorem drewW (w : World) : Below w.heap.size w w.drew := (Below.refl _ _).drew

set_option maxRecDepth 100000 in
set_option maxHeartbeats 2000000 in
theorem of_at (a0 : Option Addr) (cap : Nat) (l : List Int) (w : World) (hB : IsN w a0 cap l) (hl : l.length ≤ 268435456) (hW : Wt w) :
    Calls Tryd.prog 26 #[.slice a0 l.length cap] w fun y w' => ∃ g, y = .returned (.pointer (some ⟨g, 0, none⟩)) ∧ IsLf w' g l ∧ w.heap.size ≤ g ∧ Below w.heap.size w w' := by
  go_enter Tryd.func26, Tryd.ntmps26
  go_wp2_with fail
  have x0 := drewW w
  have hB0 := hB.below x0 (Nat.le_refl _)
  have hW0 := hW.below x0
  have HS0 : Hid ((fun w' : World => (convert 26 9 (.slice a0 l.length cap)).run Tryd.prog w' = .ok (.string (strOfNums l)) w') w.drew) := hide (str_bs w.drew a0 cap l hB0.1.2.2.1)
  refine regionL (S := fun w' => (convert 26 9 (.slice a0 l.length cap)).run Tryd.prog w' = .ok (.string (strOfNums l)) w') (fun _ => false) (by kernel_rfl) ?_
  generalize w.drew = y0 at *
  refine anyL_take (i := 0) (v := ?va) rfl (by kernel_rfl) (by kernel_rfl) (by kernel_rfl) (by kernel_rfl) (fun _ _ _ h => h) (Or.inl ⟨by rfl, ?ha⟩) (unhide HS0) ?_
  case ha => (intro w hSw; (try dsimp only at hSw); go_simp) <;> with_reducible rfl
  simp only [Act.put, List.getElem_toArray, List.getElem_cons_zero, List.setIfInBounds_toArray, List.set_cons_zero, List.set_cons_succ]
  refine anyL_take (i := 1) (v := ?vb) rfl (by kernel_rfl) (by kernel_rfl) (by kernel_rfl) (by kernel_rfl) (fun _ _ _ h => h) (Or.inl ⟨by rfl, ?hb⟩) (unhide HS0) ?_
  case hb => (intro w hSw; (try dsimp only at hSw); go_simp) <;> with_reducible rfl
  simp only [Act.put, List.getElem_toArray, List.getElem_cons_zero, List.getElem_cons_succ, List.setIfInBounds_toArray, List.set_cons_zero, List.set_cons_succ]
  refine anyL_take (i := 2) (v := ?vc) rfl (by kernel_rfl) (by kernel_rfl) (by kernel_rfl) (by kernel_rfl) (fun _ _ _ h => h) (Or.inl ⟨by rfl, ?hc⟩) (unhide HS0) ?_
  case hc => (intro w hSw; (try dsimp only at hSw); go_simp) <;> with_reducible rfl
  simp only [Act.put, List.getElem_toArray, List.getElem_cons_zero, List.getElem_cons_succ, List.setIfInBounds_toArray, List.set_cons_zero, List.set_cons_succ]
  refine anyL_ready (rs := [3]) (by kernel_rfl) (by simp) ?_
  refine AllL.cons rfl (fun K hK => ?_) AllL.nil
  go_simp
  have hof := Of_at a0 cap l y0 hB0 hl hW0
  unfold weV at hof
  refine hof.mono ?_
  rintro y y1 ⟨rfl, x1⟩
  have hB1 := hB0.below x1 (Nat.le_refl _)
  have HS1 : Hid ((fun w' : World => (convert 26 9 (.slice a0 l.length cap)).run Tryd.prog w' = .ok (.string (strOfNums l)) w') y1) := hide (str_bs y1 a0 cap l hB1.1.2.2.1)
  refine unhide hK _ _ (fun _ => unhide HS1) ?_
  clear hK K hof
  refine anyL_take (i := 4) (v := ?vd) rfl (by kernel_rfl) (by kernel_rfl) (by kernel_rfl) (by kernel_rfl) (fun _ _ _ h => h) (Or.inl ⟨by rfl, ?hd⟩) (unhide HS1) ?_
  case hd => (intro w hSw; (try dsimp only at hSw); go_simp) <;> with_reducible rfl
  simp only [Act.put, List.getElem_toArray, List.getElem_cons_zero, List.getElem_cons_succ, List.setIfInBounds_toArray, List.set_cons_zero, List.set_cons_succ]
  have x2 := (Below.refl y1.heap.size y1).alloc (Nat.le_refl _) (.cells (leafC l) 58)
  have k2 : IsLf (y1.alloc (.cells (leafC l) 58)) y1.heap.size l := push_get y1 _
  have hB2 := hB1.below x2 (Nat.le_refl _)
  have HS2 : Hid ((fun w' : World => (convert 26 9 (.slice a0 l.length cap)).run Tryd.prog w' = .ok (.string (strOfNums l)) w') (y1.alloc (.cells (leafC l) 58))) := hide (str_bs _ a0 cap l hB2.1.2.2.1)
  have b2 : Below w.heap.size w (y1.alloc (.cells (leafC l) 58)) := (x0.trans (x1.mono x0.size)).trans (x2.mono (Nat.le_trans x0.size x1.size))
  have z2 : w.heap.size ≤ y1.heap.size := Nat.le_trans x0.size x1.size
  unfold leafC at x2 HS2 b2
  refine anyL_ready (rs := [5]) (by kernel_rfl) (by simp) ?_
  refine AllL.cons rfl (fun K hK => ?_) AllL.nil
  go_simp
  refine unhide hK _ _ (fun _ => unhide HS2) ?_
  clear hK K
  refine anyL_take (i := 6) (v := ?ve) rfl (by kernel_rfl) (by kernel_rfl) (by kernel_rfl) (by kernel_rfl) (fun _ _ _ h => h) (Or.inl ⟨by rfl, ?he⟩) (unhide HS2) ?_
  case he => (intro w hSw; (try dsimp only at hSw); go_simp) <;> with_reducible rfl
  simp only [Act.put, List.getElem_toArray, List.getElem_cons_zero, List.getElem_cons_succ, List.setIfInBounds_toArray, List.set_cons_zero, List.set_cons_succ]
  refine anyL_done (by kernel_rfl) ?_ _
  go_wp2_with fail
  go_ret
  exact ⟨_, rfl, k2, z2, b2⟩

set_option maxRecDepth 100000 in
theorem New_at (a0 : Option Addr) (cap : Nat) (l : List Int) (w : World) (hB : IsN w a0 cap l) (hW : Wt w) (hl : l.length ≤ 4096) :
    Calls Tryd.prog 9 #[.slice a0 l.length cap] w fun y w' => ∃ g, y = .returned (.tuple #[.pointer (some ⟨g, 0, none⟩), .int .i64 0]) ∧ IsLf w' g l ∧ w.heap.size ≤ g ∧ Below w.heap.size w w' := by
  have t1 : decide ((l.length : Int) > 4096) = false := decide_eq_false (by omega)
  have t2 : decide ((4096 : Int) < (l.length : Int)) = false := decide_eq_false (by omega)
  have t3 : decide (4096 < l.length) = false := decide_eq_false (by omega)
  go_enter Tryd.func9, Tryd.ntmps9
  go_wp2_with fail
  refine (of_at a0 cap l w hB (by omega) hW).mono ?_
  rintro y w1 ⟨g, rfl, k1, z1, x1⟩
  go_wp2_with fail
  refine bodyPost_ret (results_tmp2 rfl _ _ _) rfl ?_
  exact ⟨g, rfl, k1, z1, x1⟩
set_option maxRecDepth 100000 in
theorem NewLong_at (a0 : Option Addr) (cap n : Nat) (w : World) (hl : 4096 < n) :
    Calls Tryd.prog 9 #[.slice a0 n cap] w fun y w' => y = .returned (.tuple #[.pointer none, .int .i64 5]) ∧ w' = w := by
  have t1 : decide ((n : Int) > 4096) = true := decide_eq_true (by omega)
  have t2 : decide ((4096 : Int) < (n : Int)) = true := decide_eq_true (by omega)
  have t3 : decide (4096 < n) = true := decide_eq_true (by omega)
  go_enter Tryd.func9, Tryd.ntmps9
  go_wp2_with fail
  refine bodyPost_ret (results_tmp2 rfl _ _ _) rfl ?_
  exact ⟨rfl, rfl⟩

/-- where the leaf ends that begins at a place -/
def bdr (l : List Int) (b m : Nat) : Nat := if l.length - b ≤ m then l.length else if m < 4 then b + m else flr l (b + m)
set_option maxRecDepth 100000 in
theorem border_at (a0 : Option Addr) (cap : Nat) (l : List Int) (b m : Nat) (w : World) (hB : IsB w a0 cap l) (hT : Tab w) (hb : b ≤ l.length) (hm : m ≤ 4096) :
    Calls Tryd.prog 27 #[.slice a0 l.length cap, .int .i64 (b : Int), .int .i64 (m : Int)] w fun y w' => y = .returned (.int .i64 (bdr l b m : Int)) ∧ Below w.heap.size w w' := by
  have hlen := hB.2.1
  go_enter Tryd.func27, Tryd.ntmps27
  by_cases h1 : l.length - b ≤ m
  · have HV : Hid (bdr l b m = l.length) := hide (by unfold bdr; rw [if_pos h1])
    have t1 : decide ((l.length : Int) - (b : Int) ≤ (m : Int)) = true := decide_eq_true (by omega)
    go_wp2_with fail
    go_ret
    exact ⟨ret_int (by rw [unhide HV]), Below.refl _ _⟩
  · have t1 : decide ((l.length : Int) - (b : Int) ≤ (m : Int)) = false := decide_eq_false (by omega)
    by_cases h2 : m < 4
    · have HV : Hid (bdr l b m = b + m) := hide (by unfold bdr; rw [if_neg h1, if_pos h2])
      have t2 : decide ((m : Int) < 4) = true := decide_eq_true (by omega)
      have t2' : decide (m < 4) = true := decide_eq_true h2
      clear h1
      go_wp2_with fail
      go_ret
      exact ⟨ret_int (by rw [unhide HV]; omega), Below.refl _ _⟩
    · have hbm : b + m ≤ l.length := by omega
      have HV : Hid (bdr l b m = flr l (b + m)) := hide (by unfold bdr; rw [if_neg h1, if_neg h2])
      have t2 : decide ((m : Int) < 4) = false := decide_eq_false (by omega)
      have t2' : decide (m < 4) = false := decide_eq_false h2
      have hF := Floor_at a0 cap ((b : Int) + (m : Int)) l w hB hT
      have hv : floorV l ((b : Int) + (m : Int)) = .tuple #[.int .i64 (flr l (b + m)), .int .i64 0] := by
        unfold floorV
        rw [if_neg (by omega), show ((b : Int) + (m : Int)).toNat = b + m by omega]
      rw [hv] at hF
      clear h1 hv h2
      go_wp2_with fail
      refine hF.mono ?_
      rintro y w1 ⟨rfl, x1⟩
      go_wp2_with fail
      go_ret
      exact ⟨ret_int (by rw [unhide HV]), x1⟩

set_option maxRecDepth 100000 in
theorem LenL_at (g : Nat) (l : List Int) (w : World) (h : IsLf w g l) :
    Calls Tryd.prog 19 #[.pointer (some ⟨g, 0, none⟩)] w fun y w' => y = .returned (.int .i64 (l.length : Int)) ∧ w' = w := by
  have c := h.text
  have hs := strOfNums_size l
  have HS := hide hs
  clear hs
  go_enter Tryd.func19, Tryd.ntmps19
  go_wp2_with fail
  go_ret
  exact ⟨ret_int (by rw [unhide HS]), rfl⟩
theorem LenN_at (w : World) : Calls Tryd.prog 19 #[.pointer none] w fun y w' => y = .returned (.int .i64 0) ∧ w' = w := by
  go_enter Tryd.func19, Tryd.ntmps19
  go_wp2_with fail
  go_ret
  exact ⟨rfl, rfl⟩
theorem BytesN_at (w : World) : Calls Tryd.prog 14 #[.pointer none] w fun y w' => y = .returned (.slice none 0 0) ∧ w' = w := by
  go_enter Tryd.func14, Tryd.ntmps14
  go_wp2_with fail
  go_ret
  exact ⟨rfl, rfl⟩
set_option maxRecDepth 100000 in
theorem BytesL_at (g : Nat) (l : List Int) (w : World) (h : IsLf w g l) (hl : ∀ x ∈ l, 0 ≤ x ∧ x ≤ 255) (hn : l.length ≤ 140737488351232) :
    Calls Tryd.prog 14 #[.pointer (some ⟨g, 0, none⟩)] w fun y w' => ∃ c, y = .returned (.slice (some ⟨w.heap.size, 0, none⟩) l.length c) ∧ IsN w' (some ⟨w.heap.size, 0, none⟩) c l ∧ Below w.heap.size w w' := by
  have c := h.text
  obtain ⟨c1, w1, r1, k1, x1, _⟩ := toBytes w l hl hn
  have R1 := hide r1
  go_enter Tryd.func14, Tryd.ntmps14
  go_wp2_with fail
  go_ret
  exact ⟨_, rfl, k1, x1⟩

end Go.Proofs.YtljpdbodieepnaaDoor
end

section
namespace Go.Proofs.YtljpdbodieepnaaDoor
open Go.ChangeShapes Go.WideShapes Go.ChangeAt Go.RowKit
attribute [local go_sem] Oper.semAt_some

def plR (l : List Int) (n : Int) : Int := if n < 0 ∨ (l.length : Int) < n then 2 else 0
set_option maxRecDepth 100000 in
theorem place_at (g : Nat) (l : List Int) (n : Int) (w : World) (h : IsLf w g l) :
    Calls Tryd.prog 33 #[.pointer (some ⟨g, 0, none⟩), .int .i64 n] w fun y w' => y = .returned (.int .i64 (plR l n)) ∧ w' = w := by
  have c := h.text
  have hs := strOfNums_size l
  go_enter Tryd.func33, Tryd.ntmps33
  by_cases h1 : n < 0
  · have HV : Hid (plR l n = 2) := hide (by unfold plR; rw [if_pos (Or.inl h1)])
    have t1 : decide (n < 0) = true := decide_eq_true h1
    go_wp2_with fail
    go_ret
    exact ⟨ret_int (by rw [unhide HV]), rfl⟩
  · have t1 : decide (n < 0) = false := decide_eq_false h1
    by_cases h2 : (l.length : Int) < n
    · have HV : Hid (plR l n = 2) := hide (by unfold plR; rw [if_pos (Or.inr h2)])
      have t2 : decide (n > (l.length : Int)) = true := decide_eq_true (by omega)
      have t3 : decide ((l.length : Int) < n) = true := decide_eq_true h2
      go_wp2_with fail
      go_ret
      exact ⟨ret_int (by rw [unhide HV]), rfl⟩
    · have HV : Hid (plR l n = 0) := hide (by unfold plR; rw [if_neg (by omega)])
      have t2 : decide (n > (l.length : Int)) = false := decide_eq_false (by omega)
      have t3 : decide ((l.length : Int) < n) = false := decide_eq_false h2
      clear h1
      go_wp2_with fail
      go_ret
      exact ⟨ret_int (by rw [unhide HV]), rfl⟩
theorem placeN_at (n : Int) (w : World) : Calls Tryd.prog 33 #[.pointer none, .int .i64 n] w fun y w' => y = .returned (.int .i64 1) ∧ w' = w := by
  go_enter Tryd.func33, Tryd.ntmps33
  go_wp2_with fail
  go_ret
  exact ⟨rfl, rfl⟩

def z6 : Array Value := #[.int .i64 0, .int .i64 0, .int .i64 0, .int .i64 0, .string ⟨#[]⟩, .string ⟨#[]⟩]
set_option maxRecDepth 100000 in
theorem BeforeN_at (n : Int) (w : World) :
    Calls Tryd.prog 21 #[.pointer none, .int .i64 n] w fun y w' => y = .returned (.tuple #[.agg z6, .int .i64 1]) ∧ Below w.heap.size w w' := by
  have b0 := (Below.refl w.heap.size w).alloc (Nat.le_refl _) (.cells z6 40)
  have g0 := push_get w (.cells z6 40)
  unfold z6 at b0 g0
  obtain ⟨c0, c1, c2, c3, c4, c5, f⟩ := cells6 g0
  have f0 := f 0
  have f1 := f 1
  have f2 := f 2
  have f3 := f 3
  have f4 := f 4
  have f5 := f 5
  clear f
  have xf := box6_all g0 (.int .i64 0) (.int .i64 0) (.int .i64 0) (.int .i64 0) (.string ⟨#[]⟩) (.string ⟨#[]⟩)
  have bf := below6 b0 (Nat.le_refl _) (.int .i64 0) (.int .i64 0) (.int .i64 0) (.int .i64 0) (.string ⟨#[]⟩) (.string ⟨#[]⟩)
  go_enter Tryd.func21, Tryd.ntmps21
  go_wp2_with fail
  generalize w.alloc (.cells #[.int .i64 0, .int .i64 0, .int .i64 0, .int .i64 0, .string ⟨#[]⟩, .string ⟨#[]⟩] 40) = w1 at *
  refine (placeN_at n w1).mono ?_
  rintro y w2 ⟨rfl, rfl⟩
  go_wp2_with fail
  generalize ((((((w2.setCell ⟨w.heap.size, 0, none⟩ (.int .i64 0)).setCell ⟨w.heap.size, 1, none⟩ (.int .i64 0)).setCell ⟨w.heap.size, 2, none⟩ (.int .i64 0)).setCell ⟨w.heap.size, 3, none⟩ (.int .i64 0)).setCell ⟨w.heap.size, 4, none⟩ (.string ⟨#[]⟩)).setCell ⟨w.heap.size, 5, none⟩ (.string ⟨#[]⟩)) = wf at *
  obtain ⟨q0, q1, q2, q3, q4, q5, _⟩ := cells6 xf
  refine bodyPost_ret (v := .tuple #[.agg #[.int .i64 0, .int .i64 0, .int .i64 0, .int .i64 0, .string ⟨#[]⟩, .string ⟨#[]⟩], .int .i64 1]) (by simp [results, Tryd.results21, go_sem, q0, q1, q2, q3, q4, q5]) rfl ⟨rfl, bf⟩

set_option maxRecDepth 100000 in
set_option maxHeartbeats 2000000 in
theorem Before_at (g n : Nat) (l : List Int) (w : World) (h : IsLf w g l) (hl : ∀ x ∈ l, 0 ≤ x ∧ x ≤ 255) (h4 : l.length ≤ 4096) (hn : n ≤ l.length) (hW : Wt w) :
    Calls Tryd.prog 21 #[.pointer (some ⟨g, 0, none⟩), .int .i64 (n : Int)] w fun y w' => y = .returned (.tuple #[weV (ofL (l.take n)), .int .i64 0]) ∧ Below w.heap.size w w' := by
  have b0 := (Below.refl w.heap.size w).alloc (Nat.le_refl _) (.cells z6 40)
  have g0 := push_get w (.cells z6 40)
  have k0 := h.on b0
  have W0 := hW.below b0
  unfold z6 at b0 g0 k0 W0
  have z0 : w.heap.size < (w.alloc (.cells #[.int .i64 0, .int .i64 0, .int .i64 0, .int .i64 0, .string ⟨#[]⟩, .string ⟨#[]⟩] 40)).heap.size := by simp
  go_enter Tryd.func21, Tryd.ntmps21
  go_wp2_with fail
  generalize w.alloc (.cells #[.int .i64 0, .int .i64 0, .int .i64 0, .int .i64 0, .string ⟨#[]⟩, .string ⟨#[]⟩] 40) = w1 at *
  have hp := place_at g l (n : Int) w1 k0
  rw [show plR l (n : Int) = 0 by unfold plR; rw [if_neg (by omega)]] at hp
  refine hp.mono ?_
  rintro y w2 ⟨rfl, rfl⟩
  have c := k0.text
  have hs := strOfNums_size l
  have hex : (strOfNums l).extract 0 n = strOfNums (l.take n) := by rw [str_extract]; simp
  have htl : (l.take n).length = n := by simp; omega
  obtain ⟨c3, w3, r3, k3, x3, zz⟩ := toBytes w2 (l.take n) (fun x hx => hl x (List.mem_of_mem_take hx)) (by omega)
  have R3 := r3
  rw [← hex, htl] at R3
  have HTL := hide htl
  have HK := hide k3
  clear hp r3 hex k3
  have b3 := b0.trans (x3.mono b0.size)
  have g3 : w3.heap[w.heap.size]? = _ := (x3.block w.heap.size z0).trans g0
  have hOf := Of_at (some ⟨w2.heap.size, 0, none⟩) c3 (l.take n) w3 (unhide HK) (by omega) (W0.below x3)
  rw [show weV (ofL (l.take n)) = .agg #[.int .i64 (szL (l.take n)).b, .int .i64 (szL (l.take n)).r, .int .i64 (szL (l.take n)).u, .int .i64 (szL (l.take n)).e, .string (strOfNums ((l.take n).take 3)), .string (strOfNums (tail3 (l.take n)))] from rfl] at hOf
  rw [htl] at hOf
  have HO : Hid (weV (ofL (l.take n)) = .agg #[.int .i64 (szL (l.take n)).b, .int .i64 (szL (l.take n)).r, .int .i64 (szL (l.take n)).u, .int .i64 (szL (l.take n)).e, .string (strOfNums ((l.take n).take 3)), .string (strOfNums (tail3 (l.take n)))]) := hide rfl
  generalize strOfNums ((l.take n).take 3) = sh at *
  generalize strOfNums (tail3 (l.take n)) = st at *
  generalize (szL (l.take n)).b = zb at *
  generalize (szL (l.take n)).r = zr at *
  generalize (szL (l.take n)).u = zu at *
  generalize (szL (l.take n)).e = ze at *
  clear htl
  go_wp2_with fail
  refine hOf.mono ?_
  rintro y w4 ⟨rfl, x4⟩
  have b4 := b3.trans (x4.mono b3.size)
  have g4 : w4.heap[w.heap.size]? = _ := (x4.block w.heap.size (Nat.lt_of_lt_of_le z0 x3.size)).trans g3
  obtain ⟨c0, c1, c2, c3', c4, c5, f⟩ := cells6 g4
  have f0 := f 0
  have f1 := f 1
  have f2 := f 2
  have f3 := f 3
  have f4 := f 4
  have f5 := f 5
  clear f hOf hs c R3 zz hl h hW k0 W0 x3 g0 g3 b0 b3 z0 x4 HK HTL hn h4
  have xf := box6_all g4 (.int .i64 zb) (.int .i64 zr) (.int .i64 zu) (.int .i64 ze) (.string sh) (.string st)
  have bf := below6 b4 (Nat.le_refl _) (.int .i64 zb) (.int .i64 zr) (.int .i64 zu) (.int .i64 ze) (.string sh) (.string st)
  go_wp2_with fail
  generalize ((((((w4.setCell ⟨w.heap.size, 0, none⟩ (.int .i64 zb)).setCell ⟨w.heap.size, 1, none⟩ (.int .i64 zr)).setCell ⟨w.heap.size, 2, none⟩ (.int .i64 zu)).setCell ⟨w.heap.size, 3, none⟩ (.int .i64 ze)).setCell ⟨w.heap.size, 4, none⟩ (.string sh)).setCell ⟨w.heap.size, 5, none⟩ (.string st)) = wf at *
  obtain ⟨q0, q1, q2, q3, q4, q5, _⟩ := cells6 xf
  refine bodyPost_ret (v := .tuple #[.agg #[.int .i64 zb, .int .i64 zr, .int .i64 zu, .int .i64 ze, .string sh, .string st], .int .i64 0]) (by simp [results, Tryd.results21, go_sem, q0, q1, q2, q3, q4, q5]) rfl ⟨by rw [unhide HO], bf⟩

set_option maxRecDepth 100000 in
theorem SplitN_at (n : Int) (w : World) :
    Calls Tryd.prog 22 #[.pointer none, .int .i64 n] w fun y w' => y = .returned (.tuple #[.pointer none, .pointer none, .int .i64 1]) ∧ w' = w := by
  go_enter Tryd.func22, Tryd.ntmps22
  go_wp2_with fail
  refine (placeN_at n w).mono ?_
  rintro y w2 ⟨rfl, rfl⟩
  go_wp2_with fail
  refine bodyPost_ret (v := .tuple #[.pointer none, .pointer none, .int .i64 1]) (by simp [results, Tryd.results22, go_sem]) rfl ⟨rfl, rfl⟩
set_option maxRecDepth 100000 in
theorem WeldN_at (w : World) (hW : Wt w) :
    Calls Tryd.prog 15 #[.pointer none] w fun y w' => y = .returned (.agg z6) ∧ Below w.heap.size w w' := by
  have b0 := (Below.refl w.heap.size w).alloc (Nat.le_refl _) (.cells z6 40)
  have g0 := push_get w (.cells z6 40)
  have W0 := hW.below b0
  unfold z6 at b0 g0 W0
  have z0 : w.heap.size < (w.alloc (.cells #[.int .i64 0, .int .i64 0, .int .i64 0, .int .i64 0, .string ⟨#[]⟩, .string ⟨#[]⟩] 40)).heap.size := by simp
  go_enter Tryd.func15, Tryd.ntmps15
  go_wp2_with fail
  generalize w.alloc (.cells #[.int .i64 0, .int .i64 0, .int .i64 0, .int .i64 0, .string ⟨#[]⟩, .string ⟨#[]⟩] 40) = w1 at *
  have hOf := Of_at none 0 [] w1 ⟨⟨Nat.le_refl _, by simp, Or.inl rfl, by simp⟩, fun _ => rfl⟩ (by simp) W0
  rw [show weV (ofL []) = .agg #[.int .i64 0, .int .i64 0, .int .i64 0, .int .i64 0, .string ⟨#[]⟩, .string ⟨#[]⟩] by rfl, show ([] : List Int).length = 0 from rfl] at hOf
  refine hOf.mono ?_
  rintro y w4 ⟨rfl, x4⟩
  have b4 := b0.trans (x4.mono b0.size)
  have g4 : w4.heap[w.heap.size]? = _ := (x4.block w.heap.size z0).trans g0
  obtain ⟨c0, c1, c2, c3, c4, c5, f⟩ := cells6 g4
  have f0 := f 0
  have f1 := f 1
  have f2 := f 2
  have f3 := f 3
  have f4 := f 4
  have f5 := f 5
  clear f hOf
  have xf := box6_all g4 (.int .i64 0) (.int .i64 0) (.int .i64 0) (.int .i64 0) (.string ⟨#[]⟩) (.string ⟨#[]⟩)
  have bf := below6 b4 (Nat.le_refl _) (.int .i64 0) (.int .i64 0) (.int .i64 0) (.int .i64 0) (.string ⟨#[]⟩) (.string ⟨#[]⟩)
  go_wp2_with fail
  generalize ((((((w4.setCell ⟨w.heap.size, 0, none⟩ (.int .i64 0)).setCell ⟨w.heap.size, 1, none⟩ (.int .i64 0)).setCell ⟨w.heap.size, 2, none⟩ (.int .i64 0)).setCell ⟨w.heap.size, 3, none⟩ (.int .i64 0)).setCell ⟨w.heap.size, 4, none⟩ (.string ⟨#[]⟩)).setCell ⟨w.heap.size, 5, none⟩ (.string ⟨#[]⟩)) = wf at *
  obtain ⟨q0, q1, q2, q3, q4, q5, _⟩ := cells6 xf
  refine bodyPost_ret (v := .agg #[.int .i64 0, .int .i64 0, .int .i64 0, .int .i64 0, .string ⟨#[]⟩, .string ⟨#[]⟩]) (by simp [results, Tryd.results15, go_sem, q0, q1, q2, q3, q4, q5]) rfl ⟨rfl, bf⟩

end Go.Proofs.YtljpdbodieepnaaDoor
end

section
namespace Go.Proofs.YtljpdbodieepnaaDoor
open Go.ChangeShapes Go.WideShapes Go.ChangeAt Go.RowKit
attribute [local go_sem] Oper.semAt_some

set_option maxRecDepth 100000 in
theorem info_lf : ∃ i, Tryd.prog.info? 22 = some i ∧ i.zero = some (.pointer none) ∧ i.size = 1 ∧ i.bytes = 8 := by
  refine ⟨_, rfl, ?_, ?_, ?_⟩ <;> rfl
theorem push_lf (W : World) (B n : Nat) (v : Value) (xs : List Value) (x : Nat) (ty : TypeId) (h : W.ownsRow B 22 1 v n xs) (hn : n ≤ 4194304) (hB : B ≤ W.heap.size) :
    ∃ g c W', (Builtin.append_ #[27, 27] ty #[v, .slice (some ⟨W.heap.size, 0, none⟩) 1 1]).run Tryd.prog (W.alloc (.cells #[.pointer (some ⟨x, 0, none⟩)] 22)) = .ok (.slice (some ⟨g, 0, none⟩) (n + 1) c) W' ∧
      W'.ownsRow B 22 1 (.slice (some ⟨g, 0, none⟩) (n + 1) c) (n + 1) (xs ++ [.pointer (some ⟨x, 0, none⟩)]) ∧ W.grownBy W' v.ownBlock ∧ Below B W W' := by
  obtain ⟨i, hi, hz, hs, hby⟩ := info_lf
  have hr := World.ownsRow.alloc h (.cells #[.pointer (some ⟨x, 0, none⟩)] 22)
  obtain ⟨g, c, W', hrun, ho, hg, _, _⟩ := run_append_lies (P := Tryd.prog) (W.alloc (.cells #[.pointer (some ⟨x, 0, none⟩)] 22)) 27 ty B 22 i (.pointer none) 1 8 Tryd.underlying27 hi hz hs hby rfl (by decide)
    v n xs hr ⟨W.heap.size, 0, none⟩ 1 1 [.pointer (some ⟨x, 0, none⟩)] rfl
    (fun j u hj => by
      cases j with
      | zero => simp at hj; subst hj; rw [Addr.add_lit]; exact (World.cell?_alloc_mark W _ _ (0, 0) 0).trans rfl
      | succ j => simp at hj)
    (fun u hu => by simp at hu; subst hu; rfl) (by decide) (by unfold maxLen; omega) (by omega) (by simp; omega) _ rfl
  have ha := World.grownBy_alloc W (.cells #[.pointer (some ⟨x, 0, none⟩)] 22) none
  have hb : Below B W W' := ((Below.refl B W).alloc hB _).grown hg (by simp; omega) (fun k hk => (hr.lt k hk).1)
  refine ⟨g, c, W', hrun, ho, ⟨hg.os.trans ha.os, hg.tape.trans ha.tape, hg.output.trans ha.output, Nat.le_trans ha.size hg.size, fun k hk hne => ?_⟩, hb⟩
  exact (hg.block k (Nat.lt_of_lt_of_le hk ha.size) hne).trans (ha.block k hk (by simp))
theorem flr_ge3 (l : List Int) (p : Nat) : p ≤ flr l p + 3 := by unfold flr; split <;> (try split) <;> (try split) <;> omega
theorem bdr_in {l : List Int} {b m : Nat} (hb : b < l.length) (hm : 1 ≤ m) : b < bdr l b m ∧ bdr l b m ≤ l.length := by
  unfold bdr
  split
  · omega
  · split
    · omega
    · have h1 := flr_ge3 l (b + m)
      have h2 := flr_le l (b + m)
      omega
def pcA (l : List Int) (m : Nat) : Nat → Nat → List (List Int)
  | 0, _ => []
  | f + 1, b => if b < l.length then (l.take (bdr l b m)).drop b :: pcA l m f (bdr l b m) else []
/-- the bytes of Cut's leaves -/
def pcs (l : List Int) (m : Nat) : List (List Int) := pcA l m l.length 0
theorem pcA_end {l : List Int} {m b : Nat} (h : ¬ b < l.length) : ∀ f, pcA l m f b = []
  | 0 => rfl
  | f + 1 => by unfold pcA; rw [if_neg h]
def ptrs (gs : List Nat) : List Value := gs.map fun g => .pointer (some ⟨g, 0, none⟩)
theorem ptrs_snoc (gs : List Nat) (g : Nat) : ptrs (gs ++ [g]) = ptrs gs ++ [.pointer (some ⟨g, 0, none⟩)] := by simp [ptrs]
/-- leaves of these bytes lie there -/
def Lvs (W : World) (B : Nat) (gs : List Nat) (ps : List (List Int)) : Prop := gs.length = ps.length ∧ ∀ i, i < gs.length → IsLf W (gs.getD i 0) (ps.getD i []) ∧ B ≤ gs.getD i 0
theorem Lvs.on {W W' : World} {B : Nat} {gs : List Nat} {ps : List (List Int)} (h : Lvs W B gs ps) (hb : Below W.heap.size W W') : Lvs W' B gs ps := ⟨h.1, fun i hi => ⟨(h.2 i hi).1.on hb, (h.2 i hi).2⟩⟩
theorem Lvs.snoc {W : World} {B g : Nat} {gs : List Nat} {ps : List (List Int)} {p : List Int} (h : Lvs W B gs ps) (hg : IsLf W g p) (hB : B ≤ g) : Lvs W B (gs ++ [g]) (ps ++ [p]) := by
  refine ⟨by simp [h.1], fun i hi => ?_⟩
  rw [List.length_append, List.length_singleton] at hi
  rcases Nat.lt_or_ge i gs.length with hlt | hge
  · rw [List.getD_eq_getElem?_getD, List.getElem?_append_left hlt, ← List.getD_eq_getElem?_getD, List.getD_eq_getElem?_getD (l := ps ++ [p]), List.getElem?_append_left (by rw [← h.1]; exact hlt), ← List.getD_eq_getElem?_getD]
    exact h.2 i hlt
  · obtain rfl : i = gs.length := by omega
    have e1 : (gs ++ [g]).getD gs.length 0 = g := by simp
    have e2 : (ps ++ [p]).getD gs.length [] = p := by rw [h.1]; simp
    rw [e1, e2]
    exact ⟨hg, hB⟩
/-- leaves outlast what is done to a row that is none of them -/
theorem Lvs.kept {W W' : World} {B : Nat} {gs : List Nat} {ps : List (List Int)} {row : Option Nat} (h : Lvs W B gs ps) (hg : W.grownBy W' row) (hne : ∀ i, i < gs.length → some (gs.getD i 0) ≠ row) : Lvs W' B gs ps :=
  ⟨h.1, fun i hi => ⟨(hg.block _ (h.2 i hi).1.lt (fun e => hne i hi e)).trans (h.2 i hi).1, (h.2 i hi).2⟩⟩
theorem lies_piece {w : World} {g off : Nat} {l : List Int} (hL : Lies w g off l) {b e : Nat} (he : e ≤ l.length) : Lies w g (off + b) ((l.take e).drop b) := fun i hi => by
  rw [List.length_drop, List.length_take] at hi
  have := hL (b + i) (by omega)
  rw [show off + (b + i) = off + b + i by omega] at this
  rw [getD_drop', show (l.take e).getD (b + i) 0 = l.getD (b + i) 0 by rw [List.getD_eq_getElem?_getD, List.getElem?_take_of_lt (by omega), ← List.getD_eq_getElem?_getD]]
  exact this

end Go.Proofs.YtljpdbodieepnaaDoor
end

section
namespace Go.Proofs.YtljpdbodieepnaaDoor
open Go.ChangeShapes Go.WideShapes Go.ChangeAt Go.RowKit
attribute [local go_sem] Oper.semAt_some

theorem of_is (g off cap n : Nat) (p : List Int) (w : World) (hn : n = p.length) (hB : IsN w (some ⟨g, off, none⟩) cap p) (hl : p.length ≤ 268435456) (hW : Wt w) :
    Calls Tryd.prog 26 #[.slice (some ⟨g, off, none⟩) n cap] w fun y w' => ∃ g, y = .returned (.pointer (some ⟨g, 0, none⟩)) ∧ IsLf w' g p ∧ w.heap.size ≤ g ∧ Below w.heap.size w w' := by
  subst hn
  exact of_at _ cap p w hB hl hW
theorem lvs_apart {W : World} {B B' n : Nat} {gs : List Nat} {ps : List (List Int)} {v : Value} {xs : List Value} (h : Lvs W B gs ps) (o : W.ownsRow B' 22 1 v n xs) : ∀ i, i < gs.length → some (gs.getD i 0) ≠ v.ownBlock := fun i hi e => by
  have hf := (h.2 i hi).1
  rcases o.2 with ⟨rfl, _⟩ | ⟨g, c, cur, rfl, _, hg, _⟩
  · cases e
  · have e' : gs.getD i 0 = g := by simpa [Value.ownBlock] using e
    rw [e'] at hf
    have := hg.symm.trans hf
    simp at this
structure CuI (w : World) (l : List Int) (m b : Nat) (gs : List Nat) (v : Value) (X : World) : Prop where
  p : ∃ (pre : List (List Int)) (f : Nat), pcs l m = pre ++ pcA l m f b ∧ l.length - b ≤ f ∧ Lvs X w.heap.size gs pre ∧ pre.length ≤ b
  o : X.ownsRow w.heap.size 22 1 v gs.length (ptrs gs)

set_option maxRecDepth 100000 in
set_option maxHeartbeats 4000000 in
theorem Cut_at (a0 : Option Addr) (cap : Nat) (l : List Int) (m : Nat) (w : World) (hB : IsN w a0 cap l) (hW : Wt w) (h1 : 1 ≤ m) (h2 : m ≤ 4096) (hl : l.length ≤ 1048576) :
    Calls Tryd.prog 10 #[.slice a0 l.length cap, .int .i64 (m : Int)] w fun y w' => ∃ v gs, y = .returned (.tuple #[v, .int .i64 0]) ∧ w'.ownsRow w.heap.size 22 1 v gs.length (ptrs gs) ∧ Lvs w' w.heap.size gs (pcs l m) ∧ Below w.heap.size w w' := by
  have t1 : decide ((m : Int) < 1) = false := decide_eq_false (by omega)
  have t2 : decide ((m : Int) > 4096) = false := decide_eq_false (by omega)
  have t3 : decide ((4096 : Int) < (m : Int)) = false := decide_eq_false (by omega)
  have t3' : decide (4096 < m) = false := decide_eq_false (by omega)
  have t1' : decide (m < 1) = false := decide_eq_false (by omega)
  have t4 : decide ((l.length : Int) > 268435456) = false := decide_eq_false (by omega)
  have t5 : decide ((268435456 : Int) < (l.length : Int)) = false := decide_eq_false (by omega)
  have t5' : decide (268435456 < l.length) = false := decide_eq_false (by omega)
  have HB := hide (And.intro hB hW)
  have hcap := hB.1.1
  have HLB := hide hB.1.2.2.2
  clear hB hW
  go_enter Tryd.func10, Tryd.ntmps10
  go_wp2_with fail
  clear t1 t2 t3 t3' t1' t4 t5 t5'
  go_loopw [6, 7, 8] (fun v s e wx => ∃ (b : Nat) (gs : List Nat), b ≤ l.length ∧ s = .int .i64 (b : Int) ∧ (∃ z, e = z) ∧ Hid (CuI w l m b gs v wx) ∧ Below w.heap.size w wx) (fun _ s _ _ => l.length - (intOf s).toNat)
  case atStart => exact ⟨0, [], Nat.zero_le _, rfl, ⟨_, rfl⟩, hide ⟨⟨[], l.length, rfl, by omega, ⟨rfl, fun i h => by cases h⟩, Nat.le_refl _⟩, ⟨rfl, Or.inl ⟨rfl, rfl⟩⟩⟩, Below.refl _ _⟩
  case round =>
    obtain ⟨b, gs, hb, rfl, ⟨z, rfl⟩, HI, hbl⟩ := hrel
    by_cases hlt : b < l.length
    · have t1 : decide ((b : Int) < (l.length : Int)) = true := decide_eq_true (by omega)
      have hBx := (unhide HB).1.below hbl (Nat.le_refl _)
      have hWx : Wt wr := (unhide HB).2.below hbl
      obtain ⟨g, off, rfl⟩ : ∃ g off, a0 = some ⟨g, off, none⟩ := by
        rcases hBx.1.2.2.1 with h3 | ⟨g, off, e, _⟩
        · rw [h3] at hlt; simp at hlt
        · exact ⟨g, off, e⟩
      obtain ⟨e1, e2⟩ := bdr_in hlt h1
      have hbd := border_at (some ⟨g, off, none⟩) cap l b m wr hBx.1 hWx.1 hb h2
      have HE : Hid (bdr l b m = bdr l b m) := hide rfl
      have HP : Hid (∀ (pre : List (List Int)) f, pcs l m = pre ++ pcA l m f b → l.length - b ≤ f → ∃ f', pcs l m = (pre ++ [(l.take (bdr l b m)).drop b]) ++ pcA l m f' (bdr l b m) ∧ l.length - bdr l b m ≤ f') := hide (fun pre f h3 h4 => by
        obtain ⟨f', rfl⟩ : ∃ f', f = f' + 1 := ⟨f - 1, by omega⟩
        refine ⟨f', ?_, by omega⟩
        rw [h3]
        conv => lhs; unfold pcA
        rw [if_pos hlt]
        simp)
      clear HE
      generalize bdr l b m = e at *
      go_wp2_with fail
      refine hbd.mono ?_
      rintro y w1 ⟨rfl, x1⟩
      have b1 := hbl.trans (x1.mono hbl.size)
      have hB1 := (unhide HB).1.below b1 (Nat.le_refl _)
      have hL1 : Lies w1 g off l := by
        rcases hB1.1.2.2.1 with h3 | ⟨g', off', e', hL⟩
        · rw [h3] at hlt; simp at hlt
        · cases e'; exact hL
      have hpl : ((l.take e).drop b).length = e - b := by rw [List.length_drop, List.length_take]; omega
      have hpN : IsN w1 (some ⟨g, off + b, none⟩) (cap - b) ((l.take e).drop b) := ⟨⟨by omega, by omega, Or.inr ⟨g, off + b, rfl, lies_piece hL1 e2⟩, fun x hx => unhide HLB x (List.mem_of_mem_take (List.mem_of_mem_drop hx))⟩, fun h => by cases h⟩
      have hof := of_is g (off + b) (cap - b) (e - b) ((l.take e).drop b) w1 hpl.symm hpN (by omega) ((unhide HB).2.below b1)
      clear hbd hpN hL1 hB1 hBx hWx
      have HPL := hide hpl
      clear hpl
      have s1 : (e : Int) - (b : Int) = ((e - b : Nat) : Int) := by omega
      go_wp2_with fail
      refine hof.mono ?_
      rintro y w2 ⟨gp, rfl, k2, zg, x2⟩
      have b2 := b1.trans (x2.mono b1.size)
      obtain ⟨pre, f, p1, p2, p3, p4⟩ := (unhide HI).p
      have o2 : w2.ownsRow w.heap.size 22 1 _ gs.length (ptrs gs) := ((unhide HI).o.kept (row := none) ⟨x1.os, x1.tape, x1.output, x1.size, fun j hj _ => x1.block j hj⟩ (Classical.em _)).kept (row := none) ⟨x2.os, x2.tape, x2.output, x2.size, fun j hj _ => x2.block j hj⟩ (Classical.em _)
      have hgl : gs.length ≤ 1048576 := by have := p3.1; omega
      have l2 := ((p3.on x1).on x2).snoc k2 (Nat.le_trans b1.size zg)
      have hap := lvs_apart l2 o2
      obtain ⟨g2, c2, w3, r3, o3, gr3, y3⟩ := push_lf w2 w.heap.size _ _ _ gp 27 o2 (by omega) b2.size
      obtain ⟨f', q1, q2⟩ := unhide HP pre f p1 p2
      have HI3 : Hid (CuI w l m e (gs ++ [gp]) (.slice (some ⟨g2, 0, none⟩) (gs.length + 1) c2) w3) := hide ⟨⟨_, f', q1, q2, l2.kept gr3 hap, by rw [List.length_append, List.length_singleton]; omega⟩, by rw [List.length_append, List.length_singleton, ptrs_snoc]; exact o3⟩
      have b3 := b2.trans y3
      have R3 := hide r3
      clear r3 o3 gr3 y3 o2 l2 hap p1 p2 p3 p4 q1 q2 k2 zg x1 x2 b1 b2 hof HI HP HPL
      go_wp2_with (at_builtin; refine wpList_append_known rfl _ _ 27 27 rfl _ _ rfl rfl _ _ (unhide R3) ?_)
      go_roundw
      case rel => exact ⟨e, gs ++ [gp], e2, rfl, ⟨_, rfl⟩, HI3, b3⟩
      case measure => simp [intOf]; omega
    · obtain rfl : b = l.length := by omega
      obtain ⟨pre, f, p1, _, p3, _⟩ := (unhide HI).p
      rw [pcA_end hlt, List.append_nil] at p1
      have HF := hide (And.intro p1 (And.intro p3 (unhide HI).o))
      clear p1 p3 HI
      have t1 : decide ((l.length : Int) < (l.length : Int)) = false := decide_eq_false (by omega)
      go_wp2_with fail
      refine bodyPost_ret (results_tmp2 rfl _ _ _) rfl ?_
      refine ⟨_, gs, rfl, (unhide HF).2.2, ?_, hbl⟩
      rw [(unhide HF).1]
      exact (unhide HF).2.1

end Go.Proofs.YtljpdbodieepnaaDoor
end

section
namespace Go.Proofs.YtljpdbodieepnaaDoor
open Go.ChangeShapes Go.WideShapes Go.ChangeAt Go.RowKit
attribute [local go_sem] Oper.semAt_some

def lA : List Int := [195, 169, 13]
def lB : List Int := [97, 240, 159, 152, 128, 98, 99]
theorem lA_in : ∀ x ∈ lA, 0 ≤ x ∧ x ≤ 255 := by decide
theorem lB_in : ∀ x ∈ lB, 0 ≤ x ∧ x ≤ 255 := by decide
theorem lB_pcs : pcs lB 4 = [[97], [240, 159, 152, 128], [98, 99]] := by decide
theorem lA_bef : weV (ofL (lA.take 1)) = .agg #[.int .i64 1, .int .i64 1, .int .i64 1, .int .i64 0, .string ⟨#[195]⟩, .string ⟨#[195]⟩] := by
  have : ofL (lA.take 1) = ⟨⟨1, 1, 1, 0⟩, [195], [195]⟩ := by decide
  rw [this]; rfl
theorem Lvs.three {W : World} {B : Nat} {gs : List Nat} {a b c : List Int} (h : Lvs W B gs [a, b, c]) : ∃ x y z, gs = [x, y, z] ∧ IsLf W x a ∧ IsLf W y b ∧ IsLf W z c := by
  have h1 := h.1
  match gs, h1 with
  | [x, y, z], _ => exact ⟨x, y, z, rfl, (h.2 0 (by simp)).1, (h.2 1 (by simp)).1, (h.2 2 (by simp)).1⟩
theorem own_three {W : World} {B : Nat} {v : Value} {x y z : Nat} (h : W.ownsRow B 22 1 v 3 (ptrs [x, y, z])) : ∃ g c, v = .slice (some ⟨g, 0, none⟩) 3 c ∧ g < W.heap.size ∧ W.cell? ⟨g, 0, none⟩ = some (.pointer (some ⟨x, 0, none⟩)) ∧ W.cell? ⟨g, 1, none⟩ = some (.pointer (some ⟨y, 0, none⟩)) ∧ W.cell? ⟨g, 2, none⟩ = some (.pointer (some ⟨z, 0, none⟩)) := by
  have hc := h
  rcases h.2 with ⟨rfl, hz⟩ | ⟨g, cap, cur, rfl, _, hg, _⟩
  · cases hz
  · have c0 := World.ownsRow.cells hc rfl 0 (.pointer (some ⟨x, 0, none⟩)) rfl
    have c1 := World.ownsRow.cells hc rfl 1 (.pointer (some ⟨y, 0, none⟩)) rfl
    have c2 := World.ownsRow.cells hc rfl 2 (.pointer (some ⟨z, 0, none⟩)) rfl
    rw [Addr.add_lit, Nat.zero_add] at c0 c1 c2
    exact ⟨g, cap, rfl, (Array.getElem?_eq_some_iff.1 hg).1, c0, c1, c2⟩

set_option maxRecDepth 100000 in
set_option maxHeartbeats 4000000 in
theorem fixed8_at (w : World) (hW : Wt w) : Calls Tryd.prog 11 #[] w fun y w' => y = .returned (.bool true) ∧ Below w.heap.size w w' := by
  have hcv := conv_litW w #[.int .u8 195, .int .u8 169, .int .u8 13] 3
  go_enter Tryd.func11, Tryd.ntmps11
  go_wp2_with fail
  clear hcv
  have b1 : Below w.heap.size w (w.alloc (.cells #[.int .u8 195, .int .u8 169, .int .u8 13] 5 (3, 4))) := (Below.refl _ _).alloc (Nat.le_refl _) _
  have i1 : IsB (w.alloc (.cells #[.int .u8 195, .int .u8 169, .int .u8 13] 5 (3, 4))) (some ⟨w.heap.size, 0, none⟩) 3 lA := lit_isW w lA (3, 4) (by decide) (by decide)
  generalize (w.alloc (.cells #[.int .u8 195, .int .u8 169, .int .u8 13] 5 (3, 4))) = w1 at *
  have hN := New_at (some ⟨w.heap.size, 0, none⟩) 3 lA w1 ⟨i1, fun e => by cases e⟩ (hW.below b1) (by decide)
  rw [show lA.length = 3 from rfl] at hN
  refine hN.mono ?_
  rintro y w2 ⟨gA, rfl, kA, _, x2⟩
  have b2 := b1.trans (x2.mono b1.size)
  clear i1 b1 x2 hN
  dsimp only
  have hcv := conv_litW w2 #[.int .u8 97, .int .u8 240, .int .u8 159, .int .u8 152, .int .u8 128, .int .u8 98, .int .u8 99] 7
  go_wp2_with fail
  clear hcv
  have x3 : Below w2.heap.size w2 (w2.alloc (.cells #[.int .u8 97, .int .u8 240, .int .u8 159, .int .u8 152, .int .u8 128, .int .u8 98, .int .u8 99] 5 (7, 8))) := (Below.refl _ _).alloc (Nat.le_refl _) _
  have i3 : IsB (w2.alloc (.cells #[.int .u8 97, .int .u8 240, .int .u8 159, .int .u8 152, .int .u8 128, .int .u8 98, .int .u8 99] 5 (7, 8))) (some ⟨w2.heap.size, 0, none⟩) 7 lB := lit_isW w2 lB (7, 8) (by decide) (by decide)
  have b3 := b2.trans (x3.mono b2.size)
  have kA3 := kA.on x3
  generalize (w2.alloc (.cells #[.int .u8 97, .int .u8 240, .int .u8 159, .int .u8 152, .int .u8 128, .int .u8 98, .int .u8 99] 5 (7, 8))) = w3 at *
  have hC := Cut_at (some ⟨w2.heap.size, 0, none⟩) 7 lB 4 w3 ⟨i3, fun e => by cases e⟩ (hW.below b3) (by decide) (by decide) (by decide)
  rw [show lB.length = 7 from rfl, lB_pcs, show ((4 : Nat) : Int) = 4 from rfl] at hC
  refine hC.mono ?_
  rintro y w4 ⟨v, gs, rfl, o4, l4, x4⟩
  obtain ⟨px, py, pz, rfl, k0, k1, k2⟩ := l4.three
  obtain ⟨gc, cc, rfl, zc, d0, d1, d2⟩ := own_three o4
  have b4 := b3.trans (x4.mono b3.size)
  have kA4 := kA3.on x4
  clear i3 b3 x4 x3 b2 kA kA3 hC l4 o4
  dsimp only
  go_wp2_with fail
  have hBf := Before_at gA 1 lA w4 kA4 lA_in (by decide) (by decide) (hW.below b4)
  rw [lA_bef, show ((1 : Nat) : Int) = 1 from rfl] at hBf
  refine hBf.mono ?_
  rintro y w5 ⟨rfl, x5⟩
  have b5 := b4.trans (x5.mono b4.size)
  have kA5 := kA4.on x5
  have k05 := k0.on x5
  have k15 := k1.on x5
  have k25 := k2.on x5
  have d05 := (x5.cell (p := ⟨gc, 0, none⟩) zc).trans d0
  have d15 := (x5.cell (p := ⟨gc, 1, none⟩) zc).trans d1
  have d25 := (x5.cell (p := ⟨gc, 2, none⟩) zc).trans d2
  have zc5 := Nat.lt_of_lt_of_le zc x5.size
  clear hBf x5 b4 kA4 k0 k1 k2 d0 d1 d2 zc
  dsimp only
  have x6 : Below w5.heap.size w5 (w5.alloc (.cells #[.int .i64 1, .int .i64 1, .int .i64 1, .int .i64 0, .string ⟨#[195]⟩, .string ⟨#[195]⟩] 40)) := (Below.refl _ _).alloc (Nat.le_refl _) _
  have g6 := push_get w5 (.cells #[.int .i64 1, .int .i64 1, .int .i64 1, .int .i64 0, .string ⟨#[195]⟩, .string ⟨#[195]⟩] 40)
  go_wp2_with fail
  have b6 := b5.trans (x6.mono b5.size)
  have kA6 := kA5.on x6
  have k06 := k05.on x6
  have k16 := k15.on x6
  have k26 := k25.on x6
  have d06 := (x6.cell (p := ⟨gc, 0, none⟩) zc5).trans d05
  have d16 := (x6.cell (p := ⟨gc, 1, none⟩) zc5).trans d15
  have d26 := (x6.cell (p := ⟨gc, 2, none⟩) zc5).trans d25
  have zc6 := Nat.lt_of_lt_of_le zc5 x6.size
  have zw6 : w5.heap.size < (w5.alloc (.cells #[.int .i64 1, .int .i64 1, .int .i64 1, .int .i64 0, .string ⟨#[195]⟩, .string ⟨#[195]⟩] 40)).heap.size := by simp
  clear x6 b5 kA5 k05 k15 k25 d05 d15 d25 zc5
  generalize w5.alloc (.cells #[.int .i64 1, .int .i64 1, .int .i64 1, .int .i64 0, .string ⟨#[195]⟩, .string ⟨#[195]⟩] 40) = w6 at *
  generalize w5.heap.size = gw at *
  have hL := LenL_at gA lA w6 kA6
  rw [show ((lA.length : Nat) : Int) = 3 from rfl] at hL
  refine hL.mono ?_
  rintro y w6' ⟨rfl, rfl⟩
  clear hL
  dsimp only
  go_wp2_with fail
  have hBy := BytesL_at gA lA w6' kA6 lA_in (by decide)
  rw [show lA.length = 3 from rfl] at hBy
  refine hBy.mono ?_
  rintro y w7 ⟨c7, rfl, n7, x7⟩
  have b7 := b6.trans (x7.mono b6.size)
  have k07 := k06.on x7
  have k17 := k16.on x7
  have k27 := k26.on x7
  have d07 := (x7.cell (p := ⟨gc, 0, none⟩) zc6).trans d06
  have d17 := (x7.cell (p := ⟨gc, 1, none⟩) zc6).trans d16
  have d27 := (x7.cell (p := ⟨gc, 2, none⟩) zc6).trans d26
  have g7 : w7.heap[gw]? = _ := (x7.block gw zw6).trans g6
  obtain ⟨_, _, _, _, e4, _, _⟩ := cells6 g7
  have kst := str_bs w7 (some ⟨w6'.heap.size, 0, none⟩) c7 lA n7.1.2.2.1
  rw [show lA.length = 3 from rfl, show strOfNums lA = ⟨#[195, 169, 13]⟩ from rfl] at kst
  have h0 := LenL_at px [97] w7 k07
  have h1 := LenL_at py [240, 159, 152, 128] w7 k17
  have h2 := LenL_at pz [98, 99] w7 k27
  rw [show (([97] : List Int).length : Int) = 1 from rfl] at h0
  rw [show (([240, 159, 152, 128] : List Int).length : Int) = 4 from rfl] at h1
  rw [show (([98, 99] : List Int).length : Int) = 2 from rfl] at h2
  have H0 := hide h0
  have H1 := hide h1
  have H2 := hide h2
  clear hBy n7 x7 b6 kA6 k06 k16 k26 d06 d16 d26 zc6 g6 g7 zw6 k07 k17 k27 h0 h1 h2
  dsimp only
  go_wp2_with fail
  refine (unhide H0).mono ?_
  rintro y w8 ⟨rfl, rfl⟩
  dsimp only
  go_wp2_with fail
  refine (unhide H1).mono ?_
  rintro y w9 ⟨rfl, rfl⟩
  dsimp only
  go_wp2_with fail
  refine (unhide H2).mono ?_
  rintro y w10 ⟨rfl, rfl⟩
  dsimp only
  go_wp2_with fail
  go_ret
  exact ⟨rfl, b7⟩

end Go.Proofs.YtljpdbodieepnaaDoor
end

section
namespace Go.Proofs.YtljpdbodieepnaaDoor
open Go.ChangeShapes Go.WideShapes Go.ChangeAt Go.RowKit
attribute [local go_sem] Oper.semAt_some

theorem we_of (l : List Int) : weV (ofL l) = .agg #[.int .i64 (szL l).b, .int .i64 (szL l).r, .int .i64 (szL l).u, .int .i64 (szL l).e, .string (strOfNums (l.take 3)), .string (strOfNums (tail3 l))] := rfl
set_option maxRecDepth 100000 in
theorem WeldL_at (g : Nat) (l : List Int) (w : World) (h : IsLf w g l) :
    Calls Tryd.prog 15 #[.pointer (some ⟨g, 0, none⟩)] w fun y w' => y = .returned (weV (ofL l)) ∧ Below w.heap.size w w' := by
  have b0 := (Below.refl w.heap.size w).alloc (Nat.le_refl _) (.cells #[.int .i64 0, .int .i64 0, .int .i64 0, .int .i64 0, .string ⟨#[]⟩, .string ⟨#[]⟩] 40)
  have g0 := push_get w (.cells #[.int .i64 0, .int .i64 0, .int .i64 0, .int .i64 0, .string ⟨#[]⟩, .string ⟨#[]⟩] 40)
  have k0 := h.on b0
  have e1 := (k0.cell 1).trans (show _ = some (Value.int .i64 (szL l).b) from rfl)
  have e2 := (k0.cell 2).trans (show _ = some (Value.int .i64 (szL l).r) from rfl)
  have e3 := (k0.cell 3).trans (show _ = some (Value.int .i64 (szL l).u) from rfl)
  have e4 := (k0.cell 4).trans (show _ = some (Value.int .i64 (szL l).e) from rfl)
  have e5 := (k0.cell 5).trans (show _ = some (Value.string (strOfNums (l.take 3))) from rfl)
  have e6 := (k0.cell 6).trans (show _ = some (Value.string (strOfNums (tail3 l))) from rfl)
  have HV := hide (we_of l)
  clear h k0
  generalize (szL l).b = zb at *
  generalize (szL l).r = zr at *
  generalize (szL l).u = zu at *
  generalize (szL l).e = ze at *
  generalize strOfNums (l.take 3) = sh at *
  generalize strOfNums (tail3 l) = st at *
  obtain ⟨c0, c1, c2, c3, c4, c5, f⟩ := cells6 g0
  have f0 := f 0
  have f1 := f 1
  have f2 := f 2
  have f3 := f 3
  have f4 := f 4
  have f5 := f 5
  clear f
  have bf := (Below.refl w.heap.size w).alloc (Nat.le_refl _) (.cells #[.int .i64 zb, .int .i64 zr, .int .i64 zu, .int .i64 ze, .string sh, .string st] 40)
  go_enter Tryd.func15, Tryd.ntmps15
  go_wp2_with fail
  refine bodyPost_ret (v := .agg #[.int .i64 zb, .int .i64 zr, .int .i64 zu, .int .i64 ze, .string sh, .string st]) (by simp [results, Tryd.results15, go_sem]) rfl ⟨by rw [unhide HV], bf⟩

set_option maxRecDepth 100000 in
set_option maxHeartbeats 4000000 in
theorem is_at (g : Nat) (a0 : Option Addr) (cap : Nat) (l : List Int) (w : World) (h : IsLf w g l) (hB : IsB w a0 cap l) (hl : l.length ≤ 1048576) :
    Calls Tryd.prog 13 #[.pointer (some ⟨g, 0, none⟩), .slice a0 l.length cap] w fun y w' => y = .returned (.bool true) ∧ Below w.heap.size w w' := by
  have HB := hide hB
  have HF := hide h
  have HLB := hide hB.2.2.2
  have x0 := (Below.refl w.heap.size w).drew
  go_enter Tryd.func13, Tryd.ntmps13
  go_wp2_with fail
  have HS0 : Hid ((fun w' : World => (convert 26 9 (.slice a0 l.length cap)).run Tryd.prog w' = .ok (.string (strOfNums l)) w') w.drew) := hide (str_bs _ a0 cap l ((unhide HB).below x0 (Nat.le_refl _)).2.2.1)
  refine regionL (S := fun w' => (convert 26 9 (.slice a0 l.length cap)).run Tryd.prog w' = .ok (.string (strOfNums l)) w') (fun _ => false) (by kernel_rfl) ?_
  have k0 := (unhide HF).on x0
  generalize w.drew = y0 at *
  clear h hB
  refine anyL_take (i := 0) (v := ?vi0) rfl (by kernel_rfl) (by kernel_rfl) (by kernel_rfl) (by kernel_rfl) (fun _ _ _ h => h) (Or.inl ⟨by rfl, ?hi0⟩) (unhide HS0) ?_
  case hi0 => (intro w hSw; (try dsimp only at hSw); go_simp) <;> with_reducible rfl
  simp only [Act.put, List.getElem_toArray, List.getElem_cons_zero, List.setIfInBounds_toArray, List.set_cons_zero, List.set_cons_succ]
  refine anyL_take (i := 1) (v := ?vi1) rfl (by kernel_rfl) (by kernel_rfl) (by kernel_rfl) (by kernel_rfl) (fun _ _ _ h => h) (Or.inl ⟨by rfl, ?hi1⟩) (unhide HS0) ?_
  case hi1 => (intro w hSw; (try dsimp only at hSw); go_simp) <;> with_reducible rfl
  simp only [Act.put, List.getElem_toArray, List.getElem_cons_zero, List.getElem_cons_succ, List.setIfInBounds_toArray, List.set_cons_zero, List.set_cons_succ]
  refine anyL_take (i := 2) (v := ?vi2) rfl (by kernel_rfl) (by kernel_rfl) (by kernel_rfl) (by kernel_rfl) (fun _ _ _ h => h) (Or.inl ⟨by rfl, ?hi2⟩) (unhide HS0) ?_
  case hi2 => (intro w hSw; (try dsimp only at hSw); go_simp) <;> with_reducible rfl
  simp only [Act.put, List.getElem_toArray, List.getElem_cons_zero, List.getElem_cons_succ, List.setIfInBounds_toArray, List.set_cons_zero, List.set_cons_succ]
  refine anyL_take (i := 3) (v := ?vi3) rfl (by kernel_rfl) (by kernel_rfl) (by kernel_rfl) (by kernel_rfl) (fun _ _ _ h => h) (Or.inl ⟨by rfl, ?hi3⟩) (unhide HS0) ?_
  case hi3 => (intro w hSw; (try dsimp only at hSw); go_simp) <;> with_reducible rfl
  simp only [Act.put, List.getElem_toArray, List.getElem_cons_zero, List.getElem_cons_succ, List.setIfInBounds_toArray, List.set_cons_zero, List.set_cons_succ]
  refine anyL_take (i := 5) (v := ?vi5) rfl (by kernel_rfl) (by kernel_rfl) (by kernel_rfl) (by kernel_rfl) (fun _ _ _ h => h) (Or.inl ⟨by rfl, ?hi5⟩) (unhide HS0) ?_
  case hi5 => (intro w hSw; (try dsimp only at hSw); go_simp) <;> with_reducible rfl
  simp only [Act.put, List.getElem_toArray, List.getElem_cons_zero, List.getElem_cons_succ, List.setIfInBounds_toArray, List.set_cons_zero, List.set_cons_succ]
  refine anyL_take (i := 6) (v := ?vi6) rfl (by kernel_rfl) (by kernel_rfl) (by kernel_rfl) (by kernel_rfl) (fun _ _ _ h => h) (Or.inl ⟨by rfl, ?hi6⟩) (unhide HS0) ?_
  case hi6 => (intro w hSw; (try dsimp only at hSw); go_simp) <;> with_reducible rfl
  simp only [Act.put, List.getElem_toArray, List.getElem_cons_zero, List.getElem_cons_succ, List.setIfInBounds_toArray, List.set_cons_zero, List.set_cons_succ]
  refine anyL_ready (rs := [4]) (by kernel_rfl) (by simp) ?_
  refine AllL.cons rfl (fun K hK => ?_) AllL.nil
  go_simp
  refine (LenL_at g l y0 k0).mono ?_
  rintro e y1 ⟨rfl, rfl⟩
  refine unhide hK _ _ (fun _ => unhide HS0) ?_
  clear hK K
  refine anyL_take (i := 7) (v := ?vi7) rfl (by kernel_rfl) (by kernel_rfl) (by kernel_rfl) (by kernel_rfl) (fun _ _ _ h => h) (Or.inl ⟨by rfl, ?hi7⟩) (unhide HS0) ?_
  case hi7 => (intro w hSw; (try dsimp only at hSw); go_simp) <;> with_reducible rfl
  simp only [Act.put, List.getElem_toArray, List.getElem_cons_zero, List.getElem_cons_succ, List.setIfInBounds_toArray, List.set_cons_zero, List.set_cons_succ]
  refine anyL_take (i := 8) (v := ?vi8) rfl (by kernel_rfl) (by kernel_rfl) (by kernel_rfl) (by kernel_rfl) (fun _ _ _ h => h) (Or.inl ⟨by rfl, ?hi8⟩) (unhide HS0) ?_
  case hi8 => (intro w hSw; (try dsimp only at hSw); go_simp) <;> with_reducible rfl
  simp only [Act.put, List.getElem_toArray, List.getElem_cons_zero, List.getElem_cons_succ, List.setIfInBounds_toArray, List.set_cons_zero, List.set_cons_succ]
  refine anyL_take (i := 9) (v := ?vi9) rfl (by kernel_rfl) (by kernel_rfl) (by kernel_rfl) (by kernel_rfl) (fun _ _ _ h => h) (Or.inl ⟨by rfl, ?hi9⟩) (unhide HS0) ?_
  case hi9 => (intro w hSw; (try dsimp only at hSw); go_simp) <;> with_reducible rfl
  simp only [Act.put, List.getElem_toArray, List.getElem_cons_zero, List.getElem_cons_succ, List.setIfInBounds_toArray, List.set_cons_zero, List.set_cons_succ]
  refine anyL_take (i := 10) (v := ?vi10) rfl (by kernel_rfl) (by kernel_rfl) (by kernel_rfl) (by kernel_rfl) (fun _ _ _ h => h) (Or.inl ⟨by rfl, ?hi10⟩) (unhide HS0) ?_
  case hi10 => (intro w hSw; (try dsimp only at hSw); go_simp) <;> with_reducible rfl
  simp only [Act.put, List.getElem_toArray, List.getElem_cons_zero, List.getElem_cons_succ, List.setIfInBounds_toArray, List.set_cons_zero, List.set_cons_succ]
  refine anyL_take (i := 13) (v := ?vi13) rfl (by kernel_rfl) (by kernel_rfl) (by kernel_rfl) (by kernel_rfl) (fun _ _ _ h => h) (Or.inl ⟨by rfl, ?hi13⟩) (unhide HS0) ?_
  case hi13 => (intro w hSw; (try dsimp only at hSw); go_simp) <;> with_reducible rfl
  simp only [Act.put, List.getElem_toArray, List.getElem_cons_zero, List.getElem_cons_succ, List.setIfInBounds_toArray, List.set_cons_zero, List.set_cons_succ]
  refine anyL_take (i := 14) (v := ?vi14) rfl (by kernel_rfl) (by kernel_rfl) (by kernel_rfl) (by kernel_rfl) (fun _ _ _ h => h) (Or.inl ⟨by rfl, ?hi14⟩) (unhide HS0) ?_
  case hi14 => (intro w hSw; (try dsimp only at hSw); go_simp) <;> with_reducible rfl
  simp only [Act.put, List.getElem_toArray, List.getElem_cons_zero, List.getElem_cons_succ, List.setIfInBounds_toArray, List.set_cons_zero, List.set_cons_succ]
  refine anyL_ready (rs := [11]) (by kernel_rfl) (by simp) ?_
  refine AllL.cons rfl (fun K hK => ?_) AllL.nil
  go_simp
  refine (BytesL_at g l y1 k0 (unhide HLB) (by omega)).mono ?_
  rintro e y2 ⟨c2, rfl, n2, x2⟩
  have x02 := x0.trans (x2.mono x0.size)
  have HS2 : Hid ((fun w' : World => (convert 26 9 (.slice a0 l.length cap)).run Tryd.prog w' = .ok (.string (strOfNums l)) w') y2) := hide (str_bs _ a0 cap l ((unhide HB).below x02 (Nat.le_refl _)).2.2.1)
  have kst := str_bs y2 (some ⟨y1.heap.size, 0, none⟩) c2 l n2.1.2.2.1
  refine unhide hK _ _ (fun _ => unhide HS2) ?_
  have k2 := k0.on x2
  clear hK K HS0 n2 x2 k0
  refine anyL_ready (rs := [12]) (by kernel_rfl) (by simp) ?_
  refine AllL.cons rfl (fun K hK => ?_) AllL.nil
  go_simp
  refine unhide hK _ _ (fun _ => unhide HS2) ?_
  clear hK K kst
  refine anyL_take (i := 15) (v := ?vi15) rfl (by kernel_rfl) (by kernel_rfl) (by kernel_rfl) (by kernel_rfl) (fun _ _ _ h => h) (Or.inl ⟨by rfl, ?hi15⟩) (unhide HS2) ?_
  case hi15 => (intro w hSw; (try dsimp only at hSw); go_simp) <;> with_reducible rfl
  simp only [Act.put, List.getElem_toArray, List.getElem_cons_zero, List.getElem_cons_succ, List.setIfInBounds_toArray, List.set_cons_zero, List.set_cons_succ]
  refine anyL_take (i := 16) (v := ?vi16) rfl (by kernel_rfl) (by kernel_rfl) (by kernel_rfl) (by kernel_rfl) (fun _ _ _ h => h) (Or.inl ⟨by rfl, ?hi16⟩) (unhide HS2) ?_
  case hi16 => (intro w hSw; (try dsimp only at hSw); go_simp) <;> with_reducible rfl
  simp only [Act.put, List.getElem_toArray, List.getElem_cons_zero, List.getElem_cons_succ, List.setIfInBounds_toArray, List.set_cons_zero, List.set_cons_succ]
  refine anyL_take (i := 17) (v := ?vi17) rfl (by kernel_rfl) (by kernel_rfl) (by kernel_rfl) (by kernel_rfl) (fun _ _ _ h => h) (Or.inl ⟨by rfl, ?hi17⟩) (unhide HS2) ?_
  case hi17 => (intro w hSw; (try dsimp only at hSw); go_simp) <;> with_reducible rfl
  simp only [Act.put, List.getElem_toArray, List.getElem_cons_zero, List.getElem_cons_succ, List.setIfInBounds_toArray, List.set_cons_zero, List.set_cons_succ]
  refine anyL_take (i := 18) (v := ?vi18) rfl (by kernel_rfl) (by kernel_rfl) (by kernel_rfl) (by kernel_rfl) (fun _ _ _ h => h) (Or.inl ⟨by rfl, ?hi18⟩) (unhide HS2) ?_
  case hi18 => (intro w hSw; (try dsimp only at hSw); go_simp) <;> with_reducible rfl
  simp only [Act.put, List.getElem_toArray, List.getElem_cons_zero, List.getElem_cons_succ, List.setIfInBounds_toArray, List.set_cons_zero, List.set_cons_succ]
  refine anyL_take (i := 20) (v := ?vi20) rfl (by kernel_rfl) (by kernel_rfl) (by kernel_rfl) (by kernel_rfl) (fun _ _ _ h => h) (Or.inl ⟨by rfl, ?hi20⟩) (unhide HS2) ?_
  case hi20 => (intro w hSw; (try dsimp only at hSw); go_simp) <;> with_reducible rfl
  simp only [Act.put, List.getElem_toArray, List.getElem_cons_zero, List.getElem_cons_succ, List.setIfInBounds_toArray, List.set_cons_zero, List.set_cons_succ]
  have hw := WeldL_at g l y2 k2
  rw [we_of] at hw
  refine anyL_ready (rs := [19]) (by kernel_rfl) (by simp) ?_
  refine AllL.cons rfl (fun K hK => ?_) AllL.nil
  go_simp
  refine hw.mono ?_
  rintro e y3 ⟨rfl, x3⟩
  have x03 := x02.trans (x3.mono x02.size)
  have HS3 : Hid ((fun w' : World => (convert 26 9 (.slice a0 l.length cap)).run Tryd.prog w' = .ok (.string (strOfNums l)) w') y3) := hide (str_bs _ a0 cap l ((unhide HB).below x03 (Nat.le_refl _)).2.2.1)
  refine unhide hK _ _ (fun _ => unhide HS3) ?_
  clear hK K HS2 x3 hw k2 x02
  have ho := ROf_at a0 cap l y3 ((unhide HB).below x03 (Nat.le_refl _)) hl
  rw [we_of] at ho
  refine anyL_ready (rs := [21]) (by kernel_rfl) (by simp) ?_
  refine AllL.cons rfl (fun K hK => ?_) AllL.nil
  go_simp
  refine ho.mono ?_
  rintro e y4 ⟨rfl, x4⟩
  have x04 := x03.trans (x4.mono x03.size)
  have HS4 : Hid ((fun w' : World => (convert 26 9 (.slice a0 l.length cap)).run Tryd.prog w' = .ok (.string (strOfNums l)) w') y4) := hide (str_bs _ a0 cap l ((unhide HB).below x04 (Nat.le_refl _)).2.2.1)
  refine unhide hK _ _ (fun _ => unhide HS4) ?_
  clear hK K HS3 x4 ho x03
  refine anyL_take (i := 22) (v := ?vi22) rfl (by kernel_rfl) (by kernel_rfl) (by kernel_rfl) (by kernel_rfl) (fun _ _ _ h => h) (Or.inl ⟨by rfl, ?hi22⟩) (unhide HS4) ?_
  case hi22 => (intro w hSw; (try dsimp only at hSw); go_simp) <;> with_reducible rfl
  simp only [Act.put, List.getElem_toArray, List.getElem_cons_zero, List.getElem_cons_succ, List.setIfInBounds_toArray, List.set_cons_zero, List.set_cons_succ]
  refine anyL_take (i := 23) (v := ?vi23) rfl (by kernel_rfl) (by kernel_rfl) (by kernel_rfl) (by kernel_rfl) (fun _ _ _ h => h) (Or.inl ⟨by rfl, ?hi23⟩) (unhide HS4) ?_
  case hi23 => (intro w hSw; (try dsimp only at hSw); go_simp) <;> with_reducible rfl
  simp only [Act.put, List.getElem_toArray, List.getElem_cons_zero, List.getElem_cons_succ, List.setIfInBounds_toArray, List.set_cons_zero, List.set_cons_succ]
  refine anyL_take (i := 24) (v := ?vi24) rfl (by kernel_rfl) (by kernel_rfl) (by kernel_rfl) (by kernel_rfl) (fun _ _ _ h => h) (Or.inl ⟨by rfl, ?hi24⟩) (unhide HS4) ?_
  case hi24 => (intro w hSw; (try dsimp only at hSw); go_simp) <;> with_reducible rfl
  simp only [Act.put, List.getElem_toArray, List.getElem_cons_zero, List.getElem_cons_succ, List.setIfInBounds_toArray, List.set_cons_zero, List.set_cons_succ]
  refine anyL_done (by kernel_rfl) ?_ _
  go_wp2_with fail
  go_ret
  exact ⟨rfl, x04⟩

end Go.Proofs.YtljpdbodieepnaaDoor
end

section
namespace Go.Proofs.YtljpdbodieepnaaDoor
open Go.ChangeShapes Go.WideShapes Go.ChangeAt Go.RowKit
attribute [local go_sem] Oper.semAt_some

set_option maxRecDepth 100000 in
theorem JoinN_at (p q : Value) (w : World) (hp : p = .pointer none ∨ ∃ g, p = .pointer (some ⟨g, 0, none⟩)) (h : p = .pointer none ∨ q = .pointer none) (hq : q = .pointer none ∨ ∃ g, q = .pointer (some ⟨g, 0, none⟩)) :
    Calls Tryd.prog 23 #[p, q] w fun y w' => y = .returned (.tuple #[.pointer none, .int .i64 1]) ∧ w' = w := by
  rcases hp with rfl | ⟨ga, rfl⟩
  · rcases hq with rfl | ⟨gb, rfl⟩
    · go_enter Tryd.func23, Tryd.ntmps23
      go_wp2_with fail
      refine bodyPost_ret (results_tmp2 rfl _ _ _) rfl ⟨rfl, rfl⟩
    · go_enter Tryd.func23, Tryd.ntmps23
      go_wp2_with fail
      refine bodyPost_ret (results_tmp2 rfl _ _ _) rfl ⟨rfl, rfl⟩
  · rcases h with h | rfl
    · cases h
    · go_enter Tryd.func23, Tryd.ntmps23
      go_wp2_with fail
      refine bodyPost_ret (results_tmp2 rfl _ _ _) rfl ⟨rfl, rfl⟩
set_option maxRecDepth 100000 in
set_option maxHeartbeats 4000000 in
theorem JoinL_at (ga gb : Nat) (a b : List Int) (w : World) (ha : IsLf w ga a) (hb : IsLf w gb b) (hla : ∀ x ∈ a, 0 ≤ x ∧ x ≤ 255) (hlb : ∀ x ∈ b, 0 ≤ x ∧ x ≤ 255) (hW : Wt w) (hn : a.length + b.length ≤ 4096) :
    Calls Tryd.prog 23 #[.pointer (some ⟨ga, 0, none⟩), .pointer (some ⟨gb, 0, none⟩)] w fun y w' => ∃ g, y = .returned (.tuple #[.pointer (some ⟨g, 0, none⟩), .int .i64 0]) ∧ IsLf w' g (a ++ b) ∧ Below w.heap.size w w' := by
  have x0 := (Below.refl w.heap.size w).drew
  have hap := str_app a b
  have hsa := strOfNums_size a
  have hsb := strOfNums_size b
  have hcat : ¬ 9223372036854775807 < a.length + b.length := by omega
  have hin : ∀ x ∈ a ++ b, 0 ≤ x ∧ x ≤ 255 := fun x hx => by
    rcases List.mem_append.1 hx with h | h
    · exact hla x h
    · exact hlb x h
  have HIN := hide hin
  clear hin hla hlb
  go_enter Tryd.func23, Tryd.ntmps23
  go_wp2_with fail
  have HS0 : Hid ((fun w' : World => w'.cell? ⟨ga, 0, none⟩ = some (.string (strOfNums a)) ∧ w'.cell? ⟨gb, 0, none⟩ = some (.string (strOfNums b))) w.drew) := hide ⟨(ha.on x0).text, (hb.on x0).text⟩
  refine regionL (S := fun w' => w'.cell? ⟨ga, 0, none⟩ = some (.string (strOfNums a)) ∧ w'.cell? ⟨gb, 0, none⟩ = some (.string (strOfNums b))) (fun _ => false) (by kernel_rfl) ?_
  have hW0 := hW.below x0
  have HFF := hide fun (X : World) (h : Below w.heap.size w X) => And.intro (ha.below h ha.lt).text (hb.below h hb.lt).text
  clear ha hb hW
  generalize w.drew = y0 at *
  refine anyL_take (i := 0) (v := ?vj0) rfl (by kernel_rfl) (by kernel_rfl) (by kernel_rfl) (by kernel_rfl) (fun _ _ _ h => h) (Or.inl ⟨by rfl, ?hj0⟩) (unhide HS0) ?_
  case hj0 => (intro w hSw; (try dsimp only at hSw); go_simp) <;> with_reducible rfl
  simp only [Act.put, List.getElem_toArray, List.getElem_cons_zero, List.setIfInBounds_toArray, List.set_cons_zero, List.set_cons_succ]
  refine anyL_take (i := 1) (v := ?vj1) rfl (by kernel_rfl) (by kernel_rfl) (by kernel_rfl) (by kernel_rfl) (fun _ _ _ h => h) (Or.inl ⟨by rfl, ?hj1⟩) (unhide HS0) ?_
  case hj1 => (intro w hSw; (try dsimp only at hSw); go_simp) <;> with_reducible rfl
  simp only [Act.put, List.getElem_toArray, List.getElem_cons_zero, List.getElem_cons_succ, List.setIfInBounds_toArray, List.set_cons_zero, List.set_cons_succ]
  refine anyL_take (i := 2) (v := ?vj2) rfl (by kernel_rfl) (by kernel_rfl) (by kernel_rfl) (by kernel_rfl) (fun _ _ _ h => h) (Or.inl ⟨by rfl, ?hj2⟩) (unhide HS0) ?_
  case hj2 => (intro w hSw; (try dsimp only at hSw); go_simp) <;> with_reducible rfl
  simp only [Act.put, List.getElem_toArray, List.getElem_cons_zero, List.getElem_cons_succ, List.setIfInBounds_toArray, List.set_cons_zero, List.set_cons_succ]
  refine anyL_take (i := 3) (v := ?vj3) rfl (by kernel_rfl) (by kernel_rfl) (by kernel_rfl) (by kernel_rfl) (fun _ _ _ h => h) (Or.inl ⟨by rfl, ?hj3⟩) (unhide HS0) ?_
  case hj3 => (intro w hSw; (try dsimp only at hSw); go_simp) <;> with_reducible rfl
  simp only [Act.put, List.getElem_toArray, List.getElem_cons_zero, List.getElem_cons_succ, List.setIfInBounds_toArray, List.set_cons_zero, List.set_cons_succ]
  refine anyL_take (i := 4) (v := ?vj4) rfl (by kernel_rfl) (by kernel_rfl) (by kernel_rfl) (by kernel_rfl) (fun _ _ _ h => h) (Or.inl ⟨by rfl, ?hj4⟩) (unhide HS0) ?_
  case hj4 => (intro w hSw; (try dsimp only at hSw); go_simp) <;> with_reducible rfl
  simp only [Act.put, List.getElem_toArray, List.getElem_cons_zero, List.getElem_cons_succ, List.setIfInBounds_toArray, List.set_cons_zero, List.set_cons_succ]
  refine anyL_take (i := 5) (v := ?vj5) rfl (by kernel_rfl) (by kernel_rfl) (by kernel_rfl) (by kernel_rfl) (fun _ _ _ h => h) (Or.inl ⟨by rfl, ?hj5⟩) (unhide HS0) ?_
  case hj5 => (intro w hSw; (try dsimp only at hSw); go_simp) <;> with_reducible rfl
  simp only [Act.put, List.getElem_toArray, List.getElem_cons_zero, List.getElem_cons_succ, List.setIfInBounds_toArray, List.set_cons_zero, List.set_cons_succ]
  refine anyL_take (i := 6) (v := ?vj6) rfl (by kernel_rfl) (by kernel_rfl) (by kernel_rfl) (by kernel_rfl) (fun _ _ _ h => h) (Or.inl ⟨by rfl, ?hj6⟩) (unhide HS0) ?_
  case hj6 => (intro w hSw; (try dsimp only at hSw); go_simp) <;> with_reducible rfl
  simp only [Act.put, List.getElem_toArray, List.getElem_cons_zero, List.getElem_cons_succ, List.setIfInBounds_toArray, List.set_cons_zero, List.set_cons_succ]
  refine anyL_take (i := 7) (v := ?vj7) rfl (by kernel_rfl) (by kernel_rfl) (by kernel_rfl) (by kernel_rfl) (fun _ _ _ h => h) (Or.inl ⟨by rfl, ?hj7⟩) (unhide HS0) ?_
  case hj7 => (intro w hSw; (try dsimp only at hSw); go_simp) <;> with_reducible rfl
  simp only [Act.put, List.getElem_toArray, List.getElem_cons_zero, List.getElem_cons_succ, List.setIfInBounds_toArray, List.set_cons_zero, List.set_cons_succ]
  refine anyL_take (i := 8) (v := ?vj8) rfl (by kernel_rfl) (by kernel_rfl) (by kernel_rfl) (by kernel_rfl) (fun _ _ _ h => h) (Or.inl ⟨by rfl, ?hj8⟩) (unhide HS0) ?_
  case hj8 => (intro w hSw; (try dsimp only at hSw); go_simp) <;> with_reducible rfl
  simp only [Act.put, List.getElem_toArray, List.getElem_cons_zero, List.getElem_cons_succ, List.setIfInBounds_toArray, List.set_cons_zero, List.set_cons_succ]
  obtain ⟨c1, y1, r1, n1, x1, _⟩ := toBytes y0 (a ++ b) (unhide HIN) (by rw [List.length_append]; omega)
  rw [List.length_append] at r1
  have x01 := x0.trans (x1.mono x0.size)
  refine anyL_ready (rs := [9]) (by kernel_rfl) (by simp) ?_
  refine AllL.cons rfl (fun K hK => ?_) AllL.nil
  go_simp
  refine unhide hK _ _ (fun _ => unhide HFF _ x01) ?_
  clear hK K r1
  have hN := New_at (some ⟨y0.heap.size, 0, none⟩) c1 (a ++ b) y1 n1 (hW0.below x1) (by rw [List.length_append]; omega)
  rw [List.length_append] at hN
  refine anyL_ready (rs := [10]) (by kernel_rfl) (by simp) ?_
  refine AllL.cons rfl (fun K hK => ?_) AllL.nil
  go_simp
  refine hN.mono ?_
  rintro e y2 ⟨g, rfl, k2, _, x2⟩
  have x02 := x01.trans (x2.mono x01.size)
  refine unhide hK _ _ (fun _ => unhide HFF _ x02) ?_
  clear hK K
  refine anyL_take (i := 11) (v := ?vj11) rfl (by kernel_rfl) (by kernel_rfl) (by kernel_rfl) (by kernel_rfl) (fun _ _ _ h => h) (Or.inl ⟨by rfl, ?hj11⟩) (unhide HFF _ x02) ?_
  case hj11 => (intro w hSw; (try dsimp only at hSw); go_simp) <;> with_reducible rfl
  simp only [Act.put, List.getElem_toArray, List.getElem_cons_zero, List.getElem_cons_succ, List.setIfInBounds_toArray, List.set_cons_zero, List.set_cons_succ]
  refine anyL_take (i := 12) (v := ?vj12) rfl (by kernel_rfl) (by kernel_rfl) (by kernel_rfl) (by kernel_rfl) (fun _ _ _ h => h) (Or.inl ⟨by rfl, ?hj12⟩) (unhide HFF _ x02) ?_
  case hj12 => (intro w hSw; (try dsimp only at hSw); go_simp) <;> with_reducible rfl
  simp only [Act.put, List.getElem_toArray, List.getElem_cons_zero, List.getElem_cons_succ, List.setIfInBounds_toArray, List.set_cons_zero, List.set_cons_succ]
  refine anyL_take (i := 13) (v := ?vj13) rfl (by kernel_rfl) (by kernel_rfl) (by kernel_rfl) (by kernel_rfl) (fun _ _ _ h => h) (Or.inl ⟨by rfl, ?hj13⟩) (unhide HFF _ x02) ?_
  case hj13 => (intro w hSw; (try dsimp only at hSw); go_simp) <;> with_reducible rfl
  simp only [Act.put, List.getElem_toArray, List.getElem_cons_zero, List.getElem_cons_succ, List.setIfInBounds_toArray, List.set_cons_zero, List.set_cons_succ]
  refine anyL_take (i := 14) (v := ?vj14) rfl (by kernel_rfl) (by kernel_rfl) (by kernel_rfl) (by kernel_rfl) (fun _ _ _ h => h) (Or.inl ⟨by rfl, ?hj14⟩) (unhide HFF _ x02) ?_
  case hj14 => (intro w hSw; (try dsimp only at hSw); go_simp) <;> with_reducible rfl
  simp only [Act.put, List.getElem_toArray, List.getElem_cons_zero, List.getElem_cons_succ, List.setIfInBounds_toArray, List.set_cons_zero, List.set_cons_succ]
  refine anyL_done (by kernel_rfl) ?_ _
  go_wp2_with fail
  refine bodyPost_ret (results_tmp2 rfl _ _ _) rfl ?_
  exact ⟨g, rfl, k2, x02⟩
set_option maxRecDepth 100000 in
set_option maxHeartbeats 4000000 in
theorem JoinX_at (ga gb : Nat) (a b : List Int) (w : World) (ha : IsLf w ga a) (hb : IsLf w gb b) (hla : ∀ x ∈ a, 0 ≤ x ∧ x ≤ 255) (hlb : ∀ x ∈ b, 0 ≤ x ∧ x ≤ 255) (hW : Wt w) (na : a.length ≤ 4096) (nb : b.length ≤ 4096) (hn : 4096 < a.length + b.length) :
    Calls Tryd.prog 23 #[.pointer (some ⟨ga, 0, none⟩), .pointer (some ⟨gb, 0, none⟩)] w fun y w' => y = .returned (.tuple #[.pointer none, .int .i64 5]) ∧ Below w.heap.size w w' := by
  have x0 := (Below.refl w.heap.size w).drew
  have hap := str_app a b
  have hsa := strOfNums_size a
  have hsb := strOfNums_size b
  have hcat : ¬ 9223372036854775807 < a.length + b.length := by omega
  have hin : ∀ x ∈ a ++ b, 0 ≤ x ∧ x ≤ 255 := fun x hx => by
    rcases List.mem_append.1 hx with h | h
    · exact hla x h
    · exact hlb x h
  have HIN := hide hin
  clear hin hla hlb
  go_enter Tryd.func23, Tryd.ntmps23
  go_wp2_with fail
  have HS0 : Hid ((fun w' : World => w'.cell? ⟨ga, 0, none⟩ = some (.string (strOfNums a)) ∧ w'.cell? ⟨gb, 0, none⟩ = some (.string (strOfNums b))) w.drew) := hide ⟨(ha.on x0).text, (hb.on x0).text⟩
  refine regionL (S := fun w' => w'.cell? ⟨ga, 0, none⟩ = some (.string (strOfNums a)) ∧ w'.cell? ⟨gb, 0, none⟩ = some (.string (strOfNums b))) (fun _ => false) (by kernel_rfl) ?_
  have hW0 := hW.below x0
  have HFF := hide fun (X : World) (h : Below w.heap.size w X) => And.intro (ha.below h ha.lt).text (hb.below h hb.lt).text
  clear ha hb hW
  generalize w.drew = y0 at *
  refine anyL_take (i := 0) (v := ?vj0) rfl (by kernel_rfl) (by kernel_rfl) (by kernel_rfl) (by kernel_rfl) (fun _ _ _ h => h) (Or.inl ⟨by rfl, ?hj0⟩) (unhide HS0) ?_
  case hj0 => (intro w hSw; (try dsimp only at hSw); go_simp) <;> with_reducible rfl
  simp only [Act.put, List.getElem_toArray, List.getElem_cons_zero, List.setIfInBounds_toArray, List.set_cons_zero, List.set_cons_succ]
  refine anyL_take (i := 1) (v := ?vj1) rfl (by kernel_rfl) (by kernel_rfl) (by kernel_rfl) (by kernel_rfl) (fun _ _ _ h => h) (Or.inl ⟨by rfl, ?hj1⟩) (unhide HS0) ?_
  case hj1 => (intro w hSw; (try dsimp only at hSw); go_simp) <;> with_reducible rfl
  simp only [Act.put, List.getElem_toArray, List.getElem_cons_zero, List.getElem_cons_succ, List.setIfInBounds_toArray, List.set_cons_zero, List.set_cons_succ]
  refine anyL_take (i := 2) (v := ?vj2) rfl (by kernel_rfl) (by kernel_rfl) (by kernel_rfl) (by kernel_rfl) (fun _ _ _ h => h) (Or.inl ⟨by rfl, ?hj2⟩) (unhide HS0) ?_
  case hj2 => (intro w hSw; (try dsimp only at hSw); go_simp) <;> with_reducible rfl
  simp only [Act.put, List.getElem_toArray, List.getElem_cons_zero, List.getElem_cons_succ, List.setIfInBounds_toArray, List.set_cons_zero, List.set_cons_succ]
  refine anyL_take (i := 3) (v := ?vj3) rfl (by kernel_rfl) (by kernel_rfl) (by kernel_rfl) (by kernel_rfl) (fun _ _ _ h => h) (Or.inl ⟨by rfl, ?hj3⟩) (unhide HS0) ?_
  case hj3 => (intro w hSw; (try dsimp only at hSw); go_simp) <;> with_reducible rfl
  simp only [Act.put, List.getElem_toArray, List.getElem_cons_zero, List.getElem_cons_succ, List.setIfInBounds_toArray, List.set_cons_zero, List.set_cons_succ]
  refine anyL_take (i := 4) (v := ?vj4) rfl (by kernel_rfl) (by kernel_rfl) (by kernel_rfl) (by kernel_rfl) (fun _ _ _ h => h) (Or.inl ⟨by rfl, ?hj4⟩) (unhide HS0) ?_
  case hj4 => (intro w hSw; (try dsimp only at hSw); go_simp) <;> with_reducible rfl
  simp only [Act.put, List.getElem_toArray, List.getElem_cons_zero, List.getElem_cons_succ, List.setIfInBounds_toArray, List.set_cons_zero, List.set_cons_succ]
  refine anyL_take (i := 5) (v := ?vj5) rfl (by kernel_rfl) (by kernel_rfl) (by kernel_rfl) (by kernel_rfl) (fun _ _ _ h => h) (Or.inl ⟨by rfl, ?hj5⟩) (unhide HS0) ?_
  case hj5 => (intro w hSw; (try dsimp only at hSw); go_simp) <;> with_reducible rfl
  simp only [Act.put, List.getElem_toArray, List.getElem_cons_zero, List.getElem_cons_succ, List.setIfInBounds_toArray, List.set_cons_zero, List.set_cons_succ]
  refine anyL_take (i := 6) (v := ?vj6) rfl (by kernel_rfl) (by kernel_rfl) (by kernel_rfl) (by kernel_rfl) (fun _ _ _ h => h) (Or.inl ⟨by rfl, ?hj6⟩) (unhide HS0) ?_
  case hj6 => (intro w hSw; (try dsimp only at hSw); go_simp) <;> with_reducible rfl
  simp only [Act.put, List.getElem_toArray, List.getElem_cons_zero, List.getElem_cons_succ, List.setIfInBounds_toArray, List.set_cons_zero, List.set_cons_succ]
  refine anyL_take (i := 7) (v := ?vj7) rfl (by kernel_rfl) (by kernel_rfl) (by kernel_rfl) (by kernel_rfl) (fun _ _ _ h => h) (Or.inl ⟨by rfl, ?hj7⟩) (unhide HS0) ?_
  case hj7 => (intro w hSw; (try dsimp only at hSw); go_simp) <;> with_reducible rfl
  simp only [Act.put, List.getElem_toArray, List.getElem_cons_zero, List.getElem_cons_succ, List.setIfInBounds_toArray, List.set_cons_zero, List.set_cons_succ]
  refine anyL_take (i := 8) (v := ?vj8) rfl (by kernel_rfl) (by kernel_rfl) (by kernel_rfl) (by kernel_rfl) (fun _ _ _ h => h) (Or.inl ⟨by rfl, ?hj8⟩) (unhide HS0) ?_
  case hj8 => (intro w hSw; (try dsimp only at hSw); go_simp) <;> with_reducible rfl
  simp only [Act.put, List.getElem_toArray, List.getElem_cons_zero, List.getElem_cons_succ, List.setIfInBounds_toArray, List.set_cons_zero, List.set_cons_succ]
  obtain ⟨c1, y1, r1, n1, x1, _⟩ := toBytes y0 (a ++ b) (unhide HIN) (by rw [List.length_append]; omega)
  rw [List.length_append] at r1
  have x01 := x0.trans (x1.mono x0.size)
  refine anyL_ready (rs := [9]) (by kernel_rfl) (by simp) ?_
  refine AllL.cons rfl (fun K hK => ?_) AllL.nil
  go_simp
  refine unhide hK _ _ (fun _ => unhide HFF _ x01) ?_
  clear hK K r1
  refine anyL_ready (rs := [10]) (by kernel_rfl) (by simp) ?_
  refine AllL.cons rfl (fun K hK => ?_) AllL.nil
  go_simp
  refine (NewLong_at (some ⟨y0.heap.size, 0, none⟩) c1 (a.length + b.length) y1 hn).mono ?_
  rintro e y2 ⟨rfl, rfl⟩
  have x02 := x01
  refine unhide hK _ _ (fun _ => unhide HFF _ x02) ?_
  clear hK K
  refine anyL_take (i := 11) (v := ?vj11) rfl (by kernel_rfl) (by kernel_rfl) (by kernel_rfl) (by kernel_rfl) (fun _ _ _ h => h) (Or.inl ⟨by rfl, ?hj11⟩) (unhide HFF _ x02) ?_
  case hj11 => (intro w hSw; (try dsimp only at hSw); go_simp) <;> with_reducible rfl
  simp only [Act.put, List.getElem_toArray, List.getElem_cons_zero, List.getElem_cons_succ, List.setIfInBounds_toArray, List.set_cons_zero, List.set_cons_succ]
  refine anyL_take (i := 12) (v := ?vj12) rfl (by kernel_rfl) (by kernel_rfl) (by kernel_rfl) (by kernel_rfl) (fun _ _ _ h => h) (Or.inl ⟨by rfl, ?hj12⟩) (unhide HFF _ x02) ?_
  case hj12 => (intro w hSw; (try dsimp only at hSw); go_simp) <;> with_reducible rfl
  simp only [Act.put, List.getElem_toArray, List.getElem_cons_zero, List.getElem_cons_succ, List.setIfInBounds_toArray, List.set_cons_zero, List.set_cons_succ]
  refine anyL_take (i := 13) (v := ?vj13) rfl (by kernel_rfl) (by kernel_rfl) (by kernel_rfl) (by kernel_rfl) (fun _ _ _ h => h) (Or.inl ⟨by rfl, ?hj13⟩) (unhide HFF _ x02) ?_
  case hj13 => (intro w hSw; (try dsimp only at hSw); go_simp) <;> with_reducible rfl
  simp only [Act.put, List.getElem_toArray, List.getElem_cons_zero, List.getElem_cons_succ, List.setIfInBounds_toArray, List.set_cons_zero, List.set_cons_succ]
  refine anyL_take (i := 14) (v := ?vj14) rfl (by kernel_rfl) (by kernel_rfl) (by kernel_rfl) (by kernel_rfl) (fun _ _ _ h => h) (Or.inl ⟨by rfl, ?hj14⟩) (unhide HFF _ x02) ?_
  case hj14 => (intro w hSw; (try dsimp only at hSw); go_simp) <;> with_reducible rfl
  simp only [Act.put, List.getElem_toArray, List.getElem_cons_zero, List.getElem_cons_succ, List.setIfInBounds_toArray, List.set_cons_zero, List.set_cons_succ]
  refine anyL_done (by kernel_rfl) ?_ _
  go_wp2_with fail
  refine bodyPost_ret (results_tmp2 rfl _ _ _) rfl ?_
  exact ⟨rfl, x02⟩

end Go.Proofs.YtljpdbodieepnaaDoor
end

section
namespace Go.Proofs.YtljpdbodieepnaaDoor
open Go.ChangeShapes Go.WideShapes Go.ChangeAt Go.RowKit
attribute [local go_sem] Oper.semAt_some

theorem appL {W : World} {B : Nat} {v : Value} {l m : List Int} {a0 : Option Addr} {cap : Nat} (ty : TypeId) (h : Own W B v l) (hB : B ≤ W.heap.size) (hm : IsB W a0 cap m) (hb : l.length + m.length ≤ 268435456) :
    ∃ v' W', (Builtin.append_ #[26, 26] ty #[v, .slice a0 m.length cap]).run Tryd.prog W = .ok v' W' ∧ Own W' B v' (l ++ m) ∧ Below B W W' := by
  obtain ⟨i, hi, hz, hs, hby⟩ := info_u8
  rcases Nat.eq_zero_or_pos m.length with h0 | h0
  · obtain rfl : m = [] := List.length_eq_zero_iff.1 h0
    have hsrc : Src Tryd.prog i.size 26 (.slice a0 0 cap) 0 [] W := by
      cases a0 with
      | none => exact Src.ofNil W Tryd.underlying26 cap
      | some x => exact Src.ofSlice W Tryd.underlying26 x 0 cap [] (by simp) (fun j u h => by simp at h) (fun u h => by cases h)
    refine ⟨v, W, ?_, by simpa using h, Below.refl _ _⟩
    rcases h.2 with ⟨rfl, h0⟩ | ⟨g, c, cur, rfl, hB, hg, hle, hm, hsz, htk⟩
    · simp [Builtin.append_, run_underlying Tryd.underlying26, sizeOf, typeInfo, hi, hsrc.len, hsrc.cells]
    · have := run_append_room_src (P := Tryd.prog) W 26 26 ty 5 i Tryd.underlying26 hi g 0 l.length c (.slice a0 0 cap) 0 [] hsrc (by omega) (fun j hj => absurd hj (Nat.not_lt_zero _)) (fun j hj => absurd hj (Nat.not_lt_zero _))
      simpa [World.setCells] using this
  · rcases hm.2.2.1 with h' | ⟨g, off, rfl, hL⟩
    · rw [h'] at h0; cases h0
    · obtain ⟨g', k, W', hrun, ho, hg, _, _⟩ := run_append_lies (P := Tryd.prog) W 26 ty B 5 i _ 1 1 Tryd.underlying26 hi hz hs hby rfl (by decide) v l.length (l.map (Value.int .u8)) h ⟨g, off, none⟩ m.length cap (m.map (Value.int .u8)) (by simp)
        (fun j u hj => by
          rw [Addr.add_lit]
          obtain ⟨x, hx, rfl⟩ : ∃ x, m[j]? = some x ∧ Value.int .u8 x = u := by simpa using hj
          have hjl : j < m.length := (List.getElem?_eq_some_iff.1 hx).1
          have := (hL j hjl).1
          simpa [List.getD, hx] using this) (fun u hu => by obtain ⟨x, _, rfl⟩ := List.mem_map.1 hu; rfl) h0 (by unfold maxLen; omega) (by omega) hB _ rfl
      exact ⟨_, W', hrun, by simpa [Own] using ho, (Below.refl B W).grown hg hB (fun k hk => (World.ownsRow.lt h k hk).1)⟩

theorem own_isN {W : World} {B : Nat} {v : Value} {l : List Int} (h : Own W B v l) (hl : ∀ x ∈ l, 0 ≤ x ∧ x ≤ 255) (hn : l.length ≤ 140737488351232) : ∃ a c, v = .slice a l.length c ∧ IsN W a c l := by
  have hc := h
  rcases h.2 with ⟨rfl, h0⟩ | ⟨g, cap, cur, rfl, _, hg, hle, _⟩
  · exact ⟨none, 0, by rw [h0], ⟨by omega, hn, Or.inl (List.length_eq_zero_iff.1 h0), hl⟩, fun _ => rfl⟩
  · exact ⟨_, cap, rfl, ⟨hle, hn, Or.inr ⟨g, 0, rfl, hc.lies hl⟩, hl⟩, fun e => by cases e⟩
/-- what New answers -/
def PX (W : World) (p : Value) (l : List Int) : Prop := (p = .pointer none ∧ 4096 < l.length) ∨ ∃ g, p = .pointer (some ⟨g, 0, none⟩) ∧ IsLf W g l ∧ l.length ≤ 4096
theorem PX.on {W W' : World} {p : Value} {l : List Int} (h : PX W p l) (hb : Below W.heap.size W W') : PX W' p l := by
  rcases h with h | ⟨g, h1, h2, h3⟩
  · exact Or.inl h
  · exact Or.inr ⟨g, h1, h2.on hb, h3⟩
theorem NewP_at (a0 : Option Addr) (cap : Nat) (l : List Int) (w : World) (hB : IsN w a0 cap l) (hW : Wt w) :
    Calls Tryd.prog 9 #[.slice a0 l.length cap] w fun y w' => ∃ p e, y = .returned (.tuple #[p, .int .i64 e]) ∧ PX w' p l ∧ Below w.heap.size w w' := by
  by_cases h : l.length ≤ 4096
  · refine (New_at a0 cap l w hB hW h).mono ?_
    rintro y w1 ⟨g, rfl, k, _, x⟩
    exact ⟨_, _, rfl, Or.inr ⟨g, rfl, k, h⟩, x⟩
  · refine (NewLong_at a0 cap l.length w (by omega)).mono ?_
    rintro y w1 ⟨rfl, rfl⟩
    exact ⟨_, _, rfl, Or.inl ⟨rfl, by omega⟩, Below.refl _ _⟩

set_option maxRecDepth 100000 in
set_option maxHeartbeats 8000000 in
theorem LeafJoins_any (a0 : Option Addr) (cap : Nat) (a : List Int) (b0 : Option Addr) (capb : Nat) (b : List Int) (w : World) (hA : IsN w a0 cap a) (hB : IsN w b0 capb b) (hW : Wt w) :
    Calls Tryd.prog 7 #[.slice a0 a.length cap, .slice b0 b.length capb] w fun e w' => e = .returned (.bool true) ∧ Below w.heap.size w w' := by
  have HLA := hide hA.1.2.2.2
  have HLB := hide hB.1.2.2.2
  have hna := hA.1.2.1
  have hnb := hB.1.2.1
  have HAB := hide (And.intro hA (And.intro hB hW))
  clear hA hB hW
  go_enter Tryd.func7, Tryd.ntmps7
  go_wp2_with fail
  refine (fixed8_at w (unhide HAB).2.2).mono ?_
  rintro e w1 ⟨rfl, b1⟩
  obtain ⟨v2, w2, r2, o2, x2⟩ := run_copy_own w1 a0 cap a 26 ((unhide HAB).1.below b1 (Nat.le_refl _)).1
  obtain ⟨a2, c2, rfl, n2⟩ := own_isN o2 (unhide HLA) hna
  have b2 := b1.trans (x2.mono b1.size)
  have R2 := hide r2
  clear r2 o2 x2 b1
  dsimp only
  go_wp2_with (at_builtin; refine wpList_append_known rfl _ _ 26 26 rfl _ _ rfl rfl _ _ (unhide R2) ?_)
  refine (NewP_at a2 c2 a w2 n2 ((unhide HAB).2.2.below b2)).mono ?_
  rintro e w3 ⟨px, ex, rfl, kx, x3⟩
  have b3 := b2.trans (x3.mono b2.size)
  clear n2 x3 b2 R2
  dsimp only
  obtain ⟨v4, w4, r4, o4, x4⟩ := run_copy_own w3 b0 capb b 26 ((unhide HAB).2.1.below b3 (Nat.le_refl _)).1
  obtain ⟨a4, c4, rfl, n4⟩ := own_isN o4 (unhide HLB) hnb
  have b4 := b3.trans (x4.mono b3.size)
  have kx4 := kx.on x4
  have R4 := hide r4
  clear r4 o4 x4 b3 kx
  go_wp2_with (at_builtin; refine wpList_append_known rfl _ _ 26 26 rfl _ _ rfl rfl _ _ (unhide R4) ?_)
  refine (NewP_at a4 c4 b w4 n4 ((unhide HAB).2.2.below b4)).mono ?_
  rintro e w5 ⟨py, ey, rfl, ky, x5⟩
  have b5 := b4.trans (x5.mono b4.size)
  have kx5 := kx4.on x5
  clear n4 x5 b4 kx4 R4
  dsimp only
  have hpx : px = .pointer none ∨ ∃ g, px = .pointer (some ⟨g, 0, none⟩) := by
    rcases kx5 with ⟨h, _⟩ | ⟨g, h, _⟩
    · exact Or.inl h
    · exact Or.inr ⟨g, h⟩
  have hpy : py = .pointer none ∨ ∃ g, py = .pointer (some ⟨g, 0, none⟩) := by
    rcases ky with ⟨h, _⟩ | ⟨g, h, _⟩
    · exact Or.inl h
    · exact Or.inr ⟨g, h⟩
  have HJ1 := hide fun X => JoinN_at (.pointer none) py X (Or.inl rfl) (Or.inl rfl) hpy
  have HJ2 := hide fun X => JoinN_at px (.pointer none) X hpx (Or.inr rfl) (Or.inl rfl)
  by_cases hno : px = .pointer none ∨ py = .pointer none
  · have HJ0 := hide fun X => JoinN_at px py X hpx hno hpy
    go_wp2_with fail
    refine (unhide HJ0 w5).mono ?_
    rintro e w6 ⟨rfl, rfl⟩
    dsimp only
    go_wp2_with fail
    refine (unhide HJ1 w6).mono ?_
    rintro e w7 ⟨rfl, rfl⟩
    dsimp only
    go_wp2_with fail
    refine (unhide HJ2 w7).mono ?_
    rintro e w8 ⟨rfl, rfl⟩
    dsimp only
    clear HJ0 HJ1 HJ2 kx5 ky
    rcases hno with rfl | rfl
    · clear hpx hpy
      go_wp2_with fail
      go_ret
      exact ⟨rfl, b5⟩
    · clear hpy
      rcases hpx with rfl | ⟨gx, rfl⟩
      · go_wp2_with fail
        go_ret
        exact ⟨rfl, b5⟩
      · go_wp2_with fail
        go_ret
        exact ⟨rfl, b5⟩
  · have h3 : (∃ g, px = .pointer (some ⟨g, 0, none⟩) ∧ IsLf w5 g a ∧ a.length ≤ 4096) ∧ ∃ g, py = .pointer (some ⟨g, 0, none⟩) ∧ IsLf w5 g b ∧ b.length ≤ 4096 := by
      refine ⟨?_, ?_⟩
      · rcases kx5 with ⟨h, _⟩ | h
        · exact absurd (Or.inl h) hno
        · exact h
      · rcases ky with ⟨h, _⟩ | h
        · exact absurd (Or.inr h) hno
        · exact h
    obtain ⟨⟨gx, rfl, fx, la⟩, gy, rfl, fy, lb⟩ := h3
    have hWx := (unhide HAB).2.2.below b5
    clear kx5 ky hno hpx hpy hna hnb
    by_cases hn : a.length + b.length ≤ 4096
    · have hJ := JoinL_at gx gy a b w5 fx fy (unhide HLA) (unhide HLB) hWx hn
      go_wp2_with fail
      refine hJ.mono ?_
      rintro e w6 ⟨gl, rfl, fl, x6⟩
      have b6 := b5.trans (x6.mono b5.size)
      have fx6 := fx.on x6
      have fy6 := fy.on x6
      clear hJ x6 b5 fx fy hWx
      dsimp only
      go_wp2_with fail
      refine (unhide HJ1 w6).mono ?_
      rintro e w7 ⟨rfl, rfl⟩
      dsimp only
      go_wp2_with fail
      refine (unhide HJ2 w7).mono ?_
      rintro e w8 ⟨rfl, rfl⟩
      dsimp only
      clear HJ1 HJ2
      have t1 : decide ((a.length : Int) + (b.length : Int) > 4096) = false := decide_eq_false (by omega)
      have t2 : decide ((4096 : Int) < (a.length : Int) + (b.length : Int)) = false := decide_eq_false (by omega)
      have t3 : decide (4096 < a.length + b.length) = false := decide_eq_false (by omega)
      obtain ⟨v9, w9, r9, o9, x9⟩ := run_copy_own w8 a0 cap a 26 ((unhide HAB).1.below b6 (Nat.le_refl _)).1
      have b9 := b6.trans (x9.mono b6.size)
      have R9 := hide r9
      obtain ⟨v10, w10, r10, o10, x10⟩ := appL 26 o9 x9.size ((unhide HAB).2.1.below b9 (Nat.le_refl _)).1 (by omega)
      have R10 := hide r10
      have x910 := x9.trans x10
      have b10 := b6.trans (x910.mono b6.size)
      have hin : ∀ x ∈ a ++ b, 0 ≤ x ∧ x ≤ 255 := fun x hx => by
        rcases List.mem_append.1 hx with h | h
        · exact unhide HLA x h
        · exact unhide HLB x h
      obtain ⟨a11, c11, rfl, n11⟩ := own_isN o10 hin (by rw [List.length_append]; omega)
      have fl10 := fl.on x910
      have fx10 := fx6.on x910
      have fy10 := fy6.on x910
      have hi1 := is_at gl a11 c11 (a ++ b) w10 fl10 n11.1 (by rw [List.length_append]; omega)
      rw [List.length_append] at hi1 R10
      have HI1 := hide hi1
      clear r9 r10 o9 o10 x9 x10 b9 hin n11 fl fx6 fy6 b6 x910 fl10 hi1
      go_wp2_with (first | (at_builtin; refine wpList_append_known rfl _ _ 26 26 rfl _ _ rfl rfl _ _ (unhide R9) ?_; clear R9) | (at_builtin; refine wpList_append_known rfl _ _ 26 26 rfl _ _ rfl rfl _ _ (unhide R10) ?_))
      refine (unhide HI1).mono ?_
      rintro e w11 ⟨rfl, x11⟩
      have b11 := b10.trans (x11.mono b10.size)
      have fx11 := fx10.on x11
      have fy11 := fy10.on x11
      clear HI1 x11 b10 fx10 fy10
      dsimp only
      go_wp2_with fail
      refine (is_at gx a0 cap a w11 fx11 ((unhide HAB).1.below b11 (Nat.le_refl _)).1 (by omega)).mono ?_
      rintro e w12 ⟨rfl, x12⟩
      have b12 := b11.trans (x12.mono b11.size)
      have fy12 := fy11.on x12
      clear x12 b11 fx11 fy11
      dsimp only
      go_wp2_with fail
      refine (is_at gy b0 capb b w12 fy12 ((unhide HAB).2.1.below b12 (Nat.le_refl _)).1 (by omega)).mono ?_
      rintro e w13 ⟨rfl, x13⟩
      have b13 := b12.trans (x13.mono b12.size)
      clear x13 b12 fy12
      dsimp only
      go_wp2_with fail
      go_ret
      exact ⟨rfl, b13⟩
    · have hJ := JoinX_at gx gy a b w5 fx fy (unhide HLA) (unhide HLB) hWx la lb (by omega)
      go_wp2_with fail
      refine hJ.mono ?_
      rintro e w6 ⟨rfl, x6⟩
      have b6 := b5.trans (x6.mono b5.size)
      have fx6 := fx.on x6
      have fy6 := fy.on x6
      clear hJ x6 b5 fx fy hWx
      dsimp only
      go_wp2_with fail
      refine (unhide HJ1 w6).mono ?_
      rintro e w7 ⟨rfl, rfl⟩
      dsimp only
      go_wp2_with fail
      refine (unhide HJ2 w7).mono ?_
      rintro e w8 ⟨rfl, rfl⟩
      dsimp only
      clear HJ1 HJ2
      have t1 : decide ((a.length : Int) + (b.length : Int) > 4096) = true := decide_eq_true (by omega)
      have t2 : decide ((4096 : Int) < (a.length : Int) + (b.length : Int)) = true := decide_eq_true (by omega)
      have t3 : decide (4096 < a.length + b.length) = true := decide_eq_true (by omega)
      have HI1 := hide (is_at gx a0 cap a w8 fx6 ((unhide HAB).1.below b6 (Nat.le_refl _)).1 (by omega))
      clear fx6 hn
      go_wp2_with fail
      refine (unhide HI1).mono ?_
      rintro e w12 ⟨rfl, x12⟩
      have b12 := b6.trans (x12.mono b6.size)
      have fy12 := fy6.on x12
      clear x12 b6 fy6 HI1
      dsimp only
      go_wp2_with fail
      refine (is_at gy b0 capb b w12 fy12 ((unhide HAB).2.1.below b12 (Nat.le_refl _)).1 (by omega)).mono ?_
      rintro e w13 ⟨rfl, x13⟩
      have b13 := b12.trans (x13.mono b12.size)
      clear x13 b12 fy12
      dsimp only
      go_wp2_with fail
      go_ret
      exact ⟨rfl, b13⟩

end Go.Proofs.YtljpdbodieepnaaDoor
end
