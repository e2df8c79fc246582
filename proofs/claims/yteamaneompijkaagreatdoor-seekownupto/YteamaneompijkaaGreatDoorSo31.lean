/- Layer 8: a leaf in memory; the contracts of leaf's of, New, border, Len, place, Bytes. · Layer 8: the contracts of leaf's place, Before, Weld, and of a nil leaf. · Layer 8: the contract of leaf's Split; Split and Before of no place (written by wip/tools/spl.py). · Layer 8: the contract of leaf's Cut. · Layer 8: the walk of leaf's Cut. · Layer 8: the laws' own beginning (fixed), and a nil leaf (LeafNil). · Layer 5: the document's units and Sizes. · Layer 5: the document's Sizes. · Layer 5: the document's head, tail and Of. · Layer 5: the document's Of. · Layer 8: the contracts of a leaf's Weld and of the laws' is. · Layer 8: the contracts of leaf's Join. · LeafJoins: the walk. · Layer 8: what lies there (leaves, boxes of Welds); parts of bytes. -/
import Derived.Test.YteamaneompijkaaGreatDoorSo24
import Derived.Test.YteamaneompijkaaGreatDoorSo25
import Derived.Test.YteamaneompijkaaGreatDoorSo05
import Derived.Test.YteamaneompijkaaGreatDoorSo10
import Derived.Deep.AppendLies
import Derived.Deep.Cut
import Derived.Test.YteamaneompijkaaGreatDoorSo30
import Derived.Test.YteamaneompijkaaGreatDoorSo09
import Derived.RangeFuncBox
import Derived.Maps.AppendAt
import Derived.Lib.SlBytesConst
import Derived.Test.YteamaneompijkaaGreatDoorSo01
import Derived.Deep.AppendSrc
namespace Go.Proofs.YteamaneompijkaaGreatDoor
open Go.ChangeShapes Go.WideShapes Go.ChangeAt Go.RowKit
set_option maxRecDepth 100000
set_option maxHeartbeats 8000000
section
attribute [local go_sem] Oper.semAt_some
def leafC (l : List Int) : Array Value := #[.string (strOfNums l), .int .i64 (szL l).b, .int .i64 (szL l).r, .int .i64 (szL l).u, .int .i64 (szL l).e, .string (strOfNums (l.take 3)), .string (strOfNums (tail3 l))]
def IsLf (W : World) (g : Nat) (l : List Int) : Prop := W.heap[g]? = some (.cells (leafC l) 191 (0, 0))
theorem IsLf.lt {W : World} {g : Nat} {l : List Int} (h : IsLf W g l) : g < W.heap.size := (Array.getElem?_eq_some_iff.1 h).1
theorem IsLf.below {W W' : World} {g N : Nat} {l : List Int} (h : IsLf W g l) (hb : Below N W W') (hg : g < N) : IsLf W' g l := (hb.block g hg).trans h
theorem IsLf.on {W W' : World} {g : Nat} {l : List Int} (h : IsLf W g l) (hb : Below W.heap.size W W') : IsLf W' g l := h.below hb h.lt
theorem IsLf.text {W : World} {g : Nat} {l : List Int} (h : IsLf W g l) : W.cell? ⟨g, 0, none⟩ = some (.string (strOfNums l)) := by simp [World.cell?, show W.heap[g]? = _ from h, leafC]
theorem IsLf.cell {W : World} {g : Nat} {l : List Int} (h : IsLf W g l) (i : Nat) : W.cell? ⟨g, i, none⟩ = (leafC l)[i]? := by simp [World.cell?, show W.heap[g]? = _ from h]
theorem drewW (w : World) : Below w.heap.size w w.drew := (Below.refl _ _).drew
theorem of_at (a0 : Option Addr) (cap : Nat) (l : List Int) (w : World) (hB : IsN w a0 cap l) (hl : l.length ≤ 268435456) (hW : Wt w) :
    Calls Tryz.prog 117 #[.slice a0 l.length cap] w fun y w' => ∃ g, y = .returned (.pointer (some ⟨g, 0, none⟩)) ∧ IsLf w' g l ∧ w.heap.size ≤ g ∧ Below w.heap.size w w' := by
  go_enter Tryz.func117, Tryz.ntmps117
  go_wp2_with fail
  have x0 := drewW w
  have hB0 := hB.below x0 (Nat.le_refl _)
  have hW0 := hW.below x0
  have HS0 : Hid ((fun w' : World => (convert 30 9 (.slice a0 l.length cap)).run Tryz.prog w' = .ok (.string (strOfNums l)) w') w.drew) := hide (str_bs w.drew a0 cap l hB0.1.2.2.1)
  refine regionL (S := fun w' => (convert 30 9 (.slice a0 l.length cap)).run Tryz.prog w' = .ok (.string (strOfNums l)) w') (fun _ => false) (by kernel_rfl) ?_
  generalize w.drew = y0 at *
  refine anyL_take (i := 0) (v := ?va) rfl (by kernel_rfl) (by kernel_rfl) (by kernel_rfl) (by kernel_rfl) (fun _ _ _ h => h) (Or.inl ⟨by rfl, ?ha⟩) (unhide HS0) ?_
  case ha => (intro w hSw; (try dsimp only at hSw); go_simp) <;> with_reducible rfl
  simp only [Act.put, List.getElem_toArray, List.getElem_cons_zero, List.setIfInBounds_toArray, List.set_cons_zero, List.set_cons_succ]
  refine anyL_take (i := 1) (v := ?vb) rfl (by kernel_rfl) (by kernel_rfl) (by kernel_rfl) (by kernel_rfl) (fun _ _ _ h => h) (Or.inl ⟨by rfl, ?hb⟩) (unhide HS0) ?_
  case hb => (intro w hSw; (try dsimp only at hSw); go_simp) <;> with_reducible rfl
  simp only [Act.put, List.getElem_toArray, List.getElem_cons_zero, List.getElem_cons_succ, List.setIfInBounds_toArray, List.set_cons_zero, List.set_cons_succ]
  refine anyL_take (i := 2) (v := ?vc) rfl (by kernel_rfl) (by kernel_rfl) (by kernel_rfl) (by kernel_rfl) (fun _ _ _ h => h) (Or.inl ⟨by rfl, ?hc⟩) (unhide HS0) ?_
  case hc => (intro w hSw; (try dsimp only at hSw); go_simp) <;> with_reducible rfl
  simp only [Act.put, List.getElem_toArray, List.getElem_cons_zero, List.getElem_cons_succ, List.setIfInBounds_toArray, List.set_cons_zero, List.set_cons_succ]
  refine anyL_ready (rs := [3]) (by kernel_rfl) (by simp) ?_
  refine AllL.cons rfl (fun K hK => ?_) AllL.nil
  go_simp
  have hof := Of_at a0 cap l y0 hB0 hl hW0
  unfold weV at hof
  refine hof.mono ?_
  rintro y y1 ⟨rfl, x1⟩
  have hB1 := hB0.below x1 (Nat.le_refl _)
  have HS1 : Hid ((fun w' : World => (convert 30 9 (.slice a0 l.length cap)).run Tryz.prog w' = .ok (.string (strOfNums l)) w') y1) := hide (str_bs y1 a0 cap l hB1.1.2.2.1)
  refine unhide hK _ _ (fun _ => unhide HS1) ?_
  clear hK K hof
  refine anyL_take (i := 4) (v := ?vd) rfl (by kernel_rfl) (by kernel_rfl) (by kernel_rfl) (by kernel_rfl) (fun _ _ _ h => h) (Or.inl ⟨by rfl, ?hd⟩) (unhide HS1) ?_
  case hd => (intro w hSw; (try dsimp only at hSw); go_simp) <;> with_reducible rfl
  simp only [Act.put, List.getElem_toArray, List.getElem_cons_zero, List.getElem_cons_succ, List.setIfInBounds_toArray, List.set_cons_zero, List.set_cons_succ]
  have x2 := (Below.refl y1.heap.size y1).alloc (Nat.le_refl _) (.cells (leafC l) 191)
  have k2 : IsLf (y1.alloc (.cells (leafC l) 191)) y1.heap.size l := push_get y1 _
  have hB2 := hB1.below x2 (Nat.le_refl _)
  have HS2 : Hid ((fun w' : World => (convert 30 9 (.slice a0 l.length cap)).run Tryz.prog w' = .ok (.string (strOfNums l)) w') (y1.alloc (.cells (leafC l) 191))) := hide (str_bs _ a0 cap l hB2.1.2.2.1)
  have b2 : Below w.heap.size w (y1.alloc (.cells (leafC l) 191)) := (x0.trans (x1.mono x0.size)).trans (x2.mono (Nat.le_trans x0.size x1.size))
  have z2 : w.heap.size ≤ y1.heap.size := Nat.le_trans x0.size x1.size
  unfold leafC at x2 HS2 b2
  refine anyL_ready (rs := [5]) (by kernel_rfl) (by simp) ?_
  refine AllL.cons rfl (fun K hK => ?_) AllL.nil
  go_simp
  refine unhide hK _ _ (fun _ => unhide HS2) ?_
  clear hK K
  refine anyL_take (i := 6) (v := ?ve) rfl (by kernel_rfl) (by kernel_rfl) (by kernel_rfl) (by kernel_rfl) (fun _ _ _ h => h) (Or.inl ⟨by rfl, ?he⟩) (unhide HS2) ?_
  case he => (intro w hSw; (try dsimp only at hSw); go_simp) <;> with_reducible rfl
  simp only [Act.put, List.getElem_toArray, List.getElem_cons_zero, List.getElem_cons_succ, List.setIfInBounds_toArray, List.set_cons_zero, List.set_cons_succ]
  refine anyL_done (by kernel_rfl) ?_ _
  go_wp2_with fail
  go_ret
  exact ⟨_, rfl, k2, z2, b2⟩
theorem New_at (a0 : Option Addr) (cap : Nat) (l : List Int) (w : World) (hB : IsN w a0 cap l) (hW : Wt w) (hl : l.length ≤ 4096) :
    Calls Tryz.prog 121 #[.slice a0 l.length cap] w fun y w' => ∃ g, y = .returned (.tuple #[.pointer (some ⟨g, 0, none⟩), .int .i64 0]) ∧ IsLf w' g l ∧ w.heap.size ≤ g ∧ Below w.heap.size w w' := by
  have t1 : decide ((l.length : Int) > 4096) = false := decide_eq_false (by omega)
  have t2 : decide ((4096 : Int) < (l.length : Int)) = false := decide_eq_false (by omega)
  have t3 : decide (4096 < l.length) = false := decide_eq_false (by omega)
  go_enter Tryz.func121, Tryz.ntmps121
  go_wp2_with fail
  refine (of_at a0 cap l w hB (by omega) hW).mono ?_
  rintro y w1 ⟨g, rfl, k1, z1, x1⟩
  go_wp2_with fail
  refine bodyPost_ret (results_tmp2 rfl _ _ _) rfl ?_
  exact ⟨g, rfl, k1, z1, x1⟩
def bdr (l : List Int) (b m : Nat) : Nat := if l.length - b ≤ m then l.length else if m < 4 then b + m else flr l (b + m)
theorem border_at (a0 : Option Addr) (cap : Nat) (l : List Int) (b m : Nat) (w : World) (hB : IsB w a0 cap l) (hT : Tab w) (hb : b ≤ l.length) (hm : m ≤ 4096) :
    Calls Tryz.prog 116 #[.slice a0 l.length cap, .int .i64 (b : Int), .int .i64 (m : Int)] w fun y w' => y = .returned (.int .i64 (bdr l b m : Int)) ∧ Below w.heap.size w w' := by
  have hlen := hB.2.1
  go_enter Tryz.func116, Tryz.ntmps116
  by_cases h1 : l.length - b ≤ m
  · have HV : Hid (bdr l b m = l.length) := hide (by unfold bdr; rw [if_pos h1])
    have t1 : decide ((l.length : Int) - (b : Int) ≤ (m : Int)) = true := decide_eq_true (by omega)
    go_wp2_with fail
    go_ret
    exact ⟨ret_int (by rw [unhide HV]), Below.refl _ _⟩
  · have t1 : decide ((l.length : Int) - (b : Int) ≤ (m : Int)) = false := decide_eq_false (by omega)
    by_cases h2 : m < 4
    · have HV : Hid (bdr l b m = b + m) := hide (by unfold bdr; rw [if_neg h1, if_pos h2])
      have t2 : decide ((m : Int) < 4) = true := decide_eq_true (by omega)
      have t2' : decide (m < 4) = true := decide_eq_true h2
      clear h1
      go_wp2_with fail
      go_ret
      exact ⟨ret_int (by rw [unhide HV]; omega), Below.refl _ _⟩
    · have hbm : b + m ≤ l.length := by omega
      have HV : Hid (bdr l b m = flr l (b + m)) := hide (by unfold bdr; rw [if_neg h1, if_neg h2])
      have t2 : decide ((m : Int) < 4) = false := decide_eq_false (by omega)
      have t2' : decide (m < 4) = false := decide_eq_false h2
      have hF := Floor_at a0 cap ((b : Int) + (m : Int)) l w hB hT
      have hv : floorV l ((b : Int) + (m : Int)) = .tuple #[.int .i64 (flr l (b + m)), .int .i64 0] := by
        unfold floorV
        rw [if_neg (by omega), show ((b : Int) + (m : Int)).toNat = b + m by omega]
      rw [hv] at hF
      clear h1 hv h2
      go_wp2_with fail
      refine hF.mono ?_
      rintro y w1 ⟨rfl, x1⟩
      go_wp2_with fail
      go_ret
      exact ⟨ret_int (by rw [unhide HV]), x1⟩
theorem LenL_at (g : Nat) (l : List Int) (w : World) (h : IsLf w g l) :
    Calls Tryz.prog 95 #[.pointer (some ⟨g, 0, none⟩)] w fun y w' => y = .returned (.int .i64 (l.length : Int)) ∧ w' = w := by
  have c := h.text
  have hs := strOfNums_size l
  have HS := hide hs
  clear hs
  go_enter Tryz.func95, Tryz.ntmps95
  go_wp2_with fail
  go_ret
  exact ⟨ret_int (by rw [unhide HS]), rfl⟩
end
section
attribute [local go_sem] Oper.semAt_some
def plR (l : List Int) (n : Int) : Int := if n < 0 ∨ (l.length : Int) < n then 2 else 0
theorem place_at (g : Nat) (l : List Int) (n : Int) (w : World) (h : IsLf w g l) :
    Calls Tryz.prog 133 #[.pointer (some ⟨g, 0, none⟩), .int .i64 n] w fun y w' => y = .returned (.int .i64 (plR l n)) ∧ w' = w := by
  have c := h.text
  have hs := strOfNums_size l
  go_enter Tryz.func133, Tryz.ntmps133
  by_cases h1 : n < 0
  · have HV : Hid (plR l n = 2) := hide (by unfold plR; rw [if_pos (Or.inl h1)])
    have t1 : decide (n < 0) = true := decide_eq_true h1
    go_wp2_with fail
    go_ret
    exact ⟨ret_int (by rw [unhide HV]), rfl⟩
  · have t1 : decide (n < 0) = false := decide_eq_false h1
    by_cases h2 : (l.length : Int) < n
    · have HV : Hid (plR l n = 2) := hide (by unfold plR; rw [if_pos (Or.inr h2)])
      have t2 : decide (n > (l.length : Int)) = true := decide_eq_true (by omega)
      have t3 : decide ((l.length : Int) < n) = true := decide_eq_true h2
      go_wp2_with fail
      go_ret
      exact ⟨ret_int (by rw [unhide HV]), rfl⟩
    · have HV : Hid (plR l n = 0) := hide (by unfold plR; rw [if_neg (by omega)])
      have t2 : decide (n > (l.length : Int)) = false := decide_eq_false (by omega)
      have t3 : decide ((l.length : Int) < n) = false := decide_eq_false h2
      clear h1
      go_wp2_with fail
      go_ret
      exact ⟨ret_int (by rw [unhide HV]), rfl⟩
def z6 : Array Value := #[.int .i64 0, .int .i64 0, .int .i64 0, .int .i64 0, .string ⟨#[]⟩, .string ⟨#[]⟩]
theorem Before_at (g n : Nat) (l : List Int) (w : World) (h : IsLf w g l) (hl : ∀ x ∈ l, 0 ≤ x ∧ x ≤ 255) (h4 : l.length ≤ 4096) (hn : n ≤ l.length) (hW : Wt w) :
    Calls Tryz.prog 115 #[.pointer (some ⟨g, 0, none⟩), .int .i64 (n : Int)] w fun y w' => y = .returned (.tuple #[weV (ofL (l.take n)), .int .i64 0]) ∧ Below w.heap.size w w' := by
  have b0 := (Below.refl w.heap.size w).alloc (Nat.le_refl _) (.cells z6 47)
  have g0 := push_get w (.cells z6 47)
  have k0 := h.on b0
  have W0 := hW.below b0
  unfold z6 at b0 g0 k0 W0
  have z0 : w.heap.size < (w.alloc (.cells #[.int .i64 0, .int .i64 0, .int .i64 0, .int .i64 0, .string ⟨#[]⟩, .string ⟨#[]⟩] 47)).heap.size := by simp
  go_enter Tryz.func115, Tryz.ntmps115
  go_wp2_with fail
  generalize w.alloc (.cells #[.int .i64 0, .int .i64 0, .int .i64 0, .int .i64 0, .string ⟨#[]⟩, .string ⟨#[]⟩] 47) = w1 at *
  have hp := place_at g l (n : Int) w1 k0
  rw [show plR l (n : Int) = 0 by unfold plR; rw [if_neg (by omega)]] at hp
  refine hp.mono ?_
  rintro y w2 ⟨rfl, rfl⟩
  have c := k0.text
  have hs := strOfNums_size l
  have hex : (strOfNums l).extract 0 n = strOfNums (l.take n) := by rw [str_extract]; simp
  have htl : (l.take n).length = n := by simp; omega
  obtain ⟨c3, w3, r3, k3, x3, zz⟩ := toBytes w2 (l.take n) (fun x hx => hl x (List.mem_of_mem_take hx)) (by omega)
  have R3 := r3
  rw [← hex, htl] at R3
  have HTL := hide htl
  have HK := hide k3
  clear hp r3 hex k3
  have b3 := b0.trans (x3.mono b0.size)
  have g3 : w3.heap[w.heap.size]? = _ := (x3.block w.heap.size z0).trans g0
  have hOf := Of_at (some ⟨w2.heap.size, 0, none⟩) c3 (l.take n) w3 (unhide HK) (by omega) (W0.below x3)
  rw [show weV (ofL (l.take n)) = .agg #[.int .i64 (szL (l.take n)).b, .int .i64 (szL (l.take n)).r, .int .i64 (szL (l.take n)).u, .int .i64 (szL (l.take n)).e, .string (strOfNums ((l.take n).take 3)), .string (strOfNums (tail3 (l.take n)))] from rfl] at hOf
  rw [htl] at hOf
  have HO : Hid (weV (ofL (l.take n)) = .agg #[.int .i64 (szL (l.take n)).b, .int .i64 (szL (l.take n)).r, .int .i64 (szL (l.take n)).u, .int .i64 (szL (l.take n)).e, .string (strOfNums ((l.take n).take 3)), .string (strOfNums (tail3 (l.take n)))]) := hide rfl
  generalize strOfNums ((l.take n).take 3) = sh at *
  generalize strOfNums (tail3 (l.take n)) = st at *
  generalize (szL (l.take n)).b = zb at *
  generalize (szL (l.take n)).r = zr at *
  generalize (szL (l.take n)).u = zu at *
  generalize (szL (l.take n)).e = ze at *
  clear htl
  go_wp2_with fail
  refine hOf.mono ?_
  rintro y w4 ⟨rfl, x4⟩
  have b4 := b3.trans (x4.mono b3.size)
  have g4 : w4.heap[w.heap.size]? = _ := (x4.block w.heap.size (Nat.lt_of_lt_of_le z0 x3.size)).trans g3
  obtain ⟨c0, c1, c2, c3', c4, c5, f⟩ := cells6 g4
  have f0 := f 0
  have f1 := f 1
  have f2 := f 2
  have f3 := f 3
  have f4 := f 4
  have f5 := f 5
  clear f hOf hs c R3 zz hl h hW k0 W0 x3 g0 g3 b0 b3 z0 x4 HK HTL hn h4
  have xf := box6_all g4 (.int .i64 zb) (.int .i64 zr) (.int .i64 zu) (.int .i64 ze) (.string sh) (.string st)
  have bf := below6 b4 (Nat.le_refl _) (.int .i64 zb) (.int .i64 zr) (.int .i64 zu) (.int .i64 ze) (.string sh) (.string st)
  go_wp2_with fail
  generalize ((((((w4.setCell ⟨w.heap.size, 0, none⟩ (.int .i64 zb)).setCell ⟨w.heap.size, 1, none⟩ (.int .i64 zr)).setCell ⟨w.heap.size, 2, none⟩ (.int .i64 zu)).setCell ⟨w.heap.size, 3, none⟩ (.int .i64 ze)).setCell ⟨w.heap.size, 4, none⟩ (.string sh)).setCell ⟨w.heap.size, 5, none⟩ (.string st)) = wf at *
  obtain ⟨q0, q1, q2, q3, q4, q5, _⟩ := cells6 xf
  refine bodyPost_ret (v := .tuple #[.agg #[.int .i64 zb, .int .i64 zr, .int .i64 zu, .int .i64 ze, .string sh, .string st], .int .i64 0]) (by simp [results, Tryz.results115, go_sem, q0, q1, q2, q3, q4, q5]) rfl ⟨by rw [unhide HO], bf⟩
end
section
attribute [local go_sem] Oper.semAt_some
theorem Split_at (g n : Nat) (l : List Int) (w : World) (h : IsLf w g l) (hl : ∀ x ∈ l, 0 ≤ x ∧ x ≤ 255) (h4 : l.length ≤ 4096) (hn : n ≤ l.length) (hW : Wt w) :
    Calls Tryz.prog 135 #[.pointer (some ⟨g, 0, none⟩), .int .i64 (n : Int)] w fun y w' => ∃ ga gb, y = .returned (.tuple #[.pointer (some ⟨ga, 0, none⟩), .pointer (some ⟨gb, 0, none⟩), .int .i64 0]) ∧ IsLf w' ga (l.take n) ∧ IsLf w' gb (l.drop n) ∧ Below w.heap.size w w' := by
  have hs := strOfNums_size l
  have hexA : (strOfNums l).extract 0 n = strOfNums (l.take n) := by rw [str_extract]; simp
  have hexB : (strOfNums l).extract n l.length = strOfNums (l.drop n) := by rw [str_extract, List.take_of_length_le (by simp)]
  have HIA := hide (fun x (hx : x ∈ l.take n) => hl x (List.mem_of_mem_take hx))
  have HIB := hide (fun x (hx : x ∈ l.drop n) => hl x (List.mem_of_mem_drop hx))
  have lA : (l.take n).length ≤ 4096 := by simp; omega
  have lB : (l.drop n).length ≤ 4096 := by simp; omega
  have HWW := hide fun (X : World) (h : Below w.heap.size w X) => hW.below h
  have hp := place_at g l (n : Int) w h
  rw [show plR l (n : Int) = 0 by unfold plR; rw [if_neg (by omega)]] at hp
  have HFF := hide fun (X : World) (hx : Below w.heap.size w X) => (h.below hx h.lt).text
  clear hW h
  generalize l.take n = A at *
  generalize l.drop n = B at *
  go_enter Tryz.func135, Tryz.ntmps135
  go_wp2_with fail
  refine hp.mono ?_
  rintro y w2 ⟨rfl, rfl⟩
  clear hp
  go_wp2_with fail
  have D0 := (Below.refl w2.heap.size w2).drew
  refine regionL (S := fun w' => w'.cell? ⟨g, 0, none⟩ = some (.string (strOfNums l))) (fun _ => false) (by kernel_rfl) ?_
  generalize w2.drew = y0 at *
  refine anyL_take (i := 0) (v := ?vq0) rfl (by kernel_rfl) (by kernel_rfl) (by kernel_rfl) (by kernel_rfl) (fun _ _ _ h => h) (Or.inl ⟨by rfl, ?hq0⟩) (unhide HFF _ D0) ?_
  case hq0 => (intro w hSw; (try dsimp only at hSw); go_simp) <;> with_reducible rfl
  simp only [Act.put, List.getElem_toArray, List.getElem_cons_zero, List.setIfInBounds_toArray, List.set_cons_zero, List.set_cons_succ]
  refine anyL_take (i := 1) (v := ?vq1) rfl (by kernel_rfl) (by kernel_rfl) (by kernel_rfl) (by kernel_rfl) (fun _ _ _ h => h) (Or.inl ⟨by rfl, ?hq1⟩) (unhide HFF _ D0) ?_
  case hq1 => (intro w hSw; (try dsimp only at hSw); go_simp) <;> with_reducible rfl
  simp only [Act.put, List.getElem_toArray, List.getElem_cons_zero, List.getElem_cons_succ, List.setIfInBounds_toArray, List.set_cons_zero, List.set_cons_succ]
  refine anyL_take (i := 2) (v := ?vq2) rfl (by kernel_rfl) (by kernel_rfl) (by kernel_rfl) (by kernel_rfl) (fun _ _ _ h => h) (Or.inl ⟨by rfl, ?hq2⟩) (unhide HFF _ D0) ?_
  case hq2 => (intro w hSw; (try dsimp only at hSw); go_simp) <;> with_reducible rfl
  simp only [Act.put, List.getElem_toArray, List.getElem_cons_zero, List.getElem_cons_succ, List.setIfInBounds_toArray, List.set_cons_zero, List.set_cons_succ]
  refine anyL_take (i := 3) (v := ?vq3) rfl (by kernel_rfl) (by kernel_rfl) (by kernel_rfl) (by kernel_rfl) (fun _ _ _ h => h) (Or.inl ⟨by rfl, ?hq3⟩) (unhide HFF _ D0) ?_
  case hq3 => (intro w hSw; (try dsimp only at hSw); go_simp) <;> with_reducible rfl
  simp only [Act.put, List.getElem_toArray, List.getElem_cons_zero, List.getElem_cons_succ, List.setIfInBounds_toArray, List.set_cons_zero, List.set_cons_succ]
  refine anyL_take (i := 4) (v := ?vq4) rfl (by kernel_rfl) (by kernel_rfl) (by kernel_rfl) (by kernel_rfl) (fun _ _ _ h => h) (Or.inl ⟨by rfl, ?hq4⟩) (unhide HFF _ D0) ?_
  case hq4 => (intro w hSw; (try dsimp only at hSw); go_simp) <;> with_reducible rfl
  simp only [Act.put, List.getElem_toArray, List.getElem_cons_zero, List.getElem_cons_succ, List.setIfInBounds_toArray, List.set_cons_zero, List.set_cons_succ]
  refine anyL_take (i := 5) (v := ?vq5) rfl (by kernel_rfl) (by kernel_rfl) (by kernel_rfl) (by kernel_rfl) (fun _ _ _ h => h) (Or.inl ⟨by rfl, ?hq5⟩) (unhide HFF _ D0) ?_
  case hq5 => (intro w hSw; (try dsimp only at hSw); go_simp) <;> with_reducible rfl
  simp only [Act.put, List.getElem_toArray, List.getElem_cons_zero, List.getElem_cons_succ, List.setIfInBounds_toArray, List.set_cons_zero, List.set_cons_succ]
  refine anyL_take (i := 8) (v := ?vq6) rfl (by kernel_rfl) (by kernel_rfl) (by kernel_rfl) (by kernel_rfl) (fun _ _ _ h => h) (Or.inl ⟨by rfl, ?hq6⟩) (unhide HFF _ D0) ?_
  case hq6 => (intro w hSw; (try dsimp only at hSw); go_simp) <;> with_reducible rfl
  simp only [Act.put, List.getElem_toArray, List.getElem_cons_zero, List.getElem_cons_succ, List.setIfInBounds_toArray, List.set_cons_zero, List.set_cons_succ]
  refine anyL_take (i := 9) (v := ?vq7) rfl (by kernel_rfl) (by kernel_rfl) (by kernel_rfl) (by kernel_rfl) (fun _ _ _ h => h) (Or.inl ⟨by rfl, ?hq7⟩) (unhide HFF _ D0) ?_
  case hq7 => (intro w hSw; (try dsimp only at hSw); go_simp) <;> with_reducible rfl
  simp only [Act.put, List.getElem_toArray, List.getElem_cons_zero, List.getElem_cons_succ, List.setIfInBounds_toArray, List.set_cons_zero, List.set_cons_succ]
  refine anyL_take (i := 10) (v := ?vq8) rfl (by kernel_rfl) (by kernel_rfl) (by kernel_rfl) (by kernel_rfl) (fun _ _ _ h => h) (Or.inl ⟨by rfl, ?hq8⟩) (unhide HFF _ D0) ?_
  case hq8 => (intro w hSw; (try dsimp only at hSw); go_simp) <;> with_reducible rfl
  simp only [Act.put, List.getElem_toArray, List.getElem_cons_zero, List.getElem_cons_succ, List.setIfInBounds_toArray, List.set_cons_zero, List.set_cons_succ]
  refine anyL_take (i := 11) (v := ?vq9) rfl (by kernel_rfl) (by kernel_rfl) (by kernel_rfl) (by kernel_rfl) (fun _ _ _ h => h) (Or.inl ⟨by rfl, ?hq9⟩) (unhide HFF _ D0) ?_
  case hq9 => (intro w hSw; (try dsimp only at hSw); go_simp) <;> with_reducible rfl
  simp only [Act.put, List.getElem_toArray, List.getElem_cons_zero, List.getElem_cons_succ, List.setIfInBounds_toArray, List.set_cons_zero, List.set_cons_succ]
  refine anyL_take (i := 12) (v := ?vq10) rfl (by kernel_rfl) (by kernel_rfl) (by kernel_rfl) (by kernel_rfl) (fun _ _ _ h => h) (Or.inl ⟨by rfl, ?hq10⟩) (unhide HFF _ D0) ?_
  case hq10 => (intro w hSw; (try dsimp only at hSw); go_simp) <;> with_reducible rfl
  simp only [Act.put, List.getElem_toArray, List.getElem_cons_zero, List.getElem_cons_succ, List.setIfInBounds_toArray, List.set_cons_zero, List.set_cons_succ]
  refine anyL_take (i := 13) (v := ?vq11) rfl (by kernel_rfl) (by kernel_rfl) (by kernel_rfl) (by kernel_rfl) (fun _ _ _ h => h) (Or.inl ⟨by rfl, ?hq11⟩) (unhide HFF _ D0) ?_
  case hq11 => (intro w hSw; (try dsimp only at hSw); go_simp) <;> with_reducible rfl
  simp only [Act.put, List.getElem_toArray, List.getElem_cons_zero, List.getElem_cons_succ, List.setIfInBounds_toArray, List.set_cons_zero, List.set_cons_succ]
  refine anyL_ready (rs := [6, 14]) (by kernel_rfl) (by simp) ?_
  refine AllL.cons rfl (fun K hK => ?_) (AllL.cons rfl (fun K hK => ?_) AllL.nil)
  · obtain ⟨c1, y1, r1, m1, x1, _⟩ := toBytes y0 A (unhide HIA) (by omega)
    go_simp
    have D1 := D0.trans (x1.mono D0.size)
    refine unhide hK _ _ (fun _ => unhide HFF _ D1) ?_
    clear hK K r1
    refine anyL_ready (rs := [7, 14]) (by kernel_rfl) (by simp) ?_
    refine AllL.cons rfl (fun K hK => ?_) (AllL.cons rfl (fun K hK => ?_) AllL.nil)
    · have hO2 := of_at (some ⟨y0.heap.size, 0, none⟩) c1 A y1 m1 (by omega) (unhide HWW _ D1)
      go_simp
      refine hO2.mono ?_
      rintro e y2 ⟨g2, rfl, k2, _, x2⟩
      have D2 := D1.trans (x2.mono D1.size)
      refine unhide hK _ _ (fun _ => unhide HFF _ D2) ?_
      clear hK K hO2
      refine anyL_ready (rs := [14]) (by kernel_rfl) (by simp) ?_
      refine AllL.cons rfl (fun K hK => ?_) AllL.nil
      obtain ⟨c3, y3, r3, m3, x3, _⟩ := toBytes y2 B (unhide HIB) (by omega)
      go_simp
      have kA3 := k2.on x3
      have D3 := D2.trans (x3.mono D2.size)
      refine unhide hK _ _ (fun _ => unhide HFF _ D3) ?_
      clear hK K r3
      refine anyL_ready (rs := [15]) (by kernel_rfl) (by simp) ?_
      refine AllL.cons rfl (fun K hK => ?_) AllL.nil
      have hO4 := of_at (some ⟨y2.heap.size, 0, none⟩) c3 B y3 m3 (by omega) (unhide HWW _ D3)
      go_simp
      refine hO4.mono ?_
      rintro e y4 ⟨g4, rfl, k4, _, x4⟩
      have kA4 := kA3.on x4
      have D4 := D3.trans (x4.mono D3.size)
      refine unhide hK _ _ (fun _ => unhide HFF _ D4) ?_
      clear hK K hO4
      refine anyL_take (i := 16) (v := ?vq12) rfl (by kernel_rfl) (by kernel_rfl) (by kernel_rfl) (by kernel_rfl) (fun _ _ _ h => h) (Or.inl ⟨by rfl, ?hq12⟩) (unhide HFF _ D4) ?_
      case hq12 => (intro w hSw; (try dsimp only at hSw); go_simp) <;> with_reducible rfl
      simp only [Act.put, List.getElem_toArray, List.getElem_cons_zero, List.getElem_cons_succ, List.setIfInBounds_toArray, List.set_cons_zero, List.set_cons_succ]
      refine anyL_take (i := 17) (v := ?vq13) rfl (by kernel_rfl) (by kernel_rfl) (by kernel_rfl) (by kernel_rfl) (fun _ _ _ h => h) (Or.inl ⟨by rfl, ?hq13⟩) (unhide HFF _ D4) ?_
      case hq13 => (intro w hSw; (try dsimp only at hSw); go_simp) <;> with_reducible rfl
      simp only [Act.put, List.getElem_toArray, List.getElem_cons_zero, List.getElem_cons_succ, List.setIfInBounds_toArray, List.set_cons_zero, List.set_cons_succ]
      refine anyL_take (i := 18) (v := ?vq14) rfl (by kernel_rfl) (by kernel_rfl) (by kernel_rfl) (by kernel_rfl) (fun _ _ _ h => h) (Or.inl ⟨by rfl, ?hq14⟩) (unhide HFF _ D4) ?_
      case hq14 => (intro w hSw; (try dsimp only at hSw); go_simp) <;> with_reducible rfl
      simp only [Act.put, List.getElem_toArray, List.getElem_cons_zero, List.getElem_cons_succ, List.setIfInBounds_toArray, List.set_cons_zero, List.set_cons_succ]
      refine anyL_done (by kernel_rfl) ?_ _
      go_wp2_with fail
      refine bodyPost_ret (v := .tuple #[.pointer (some ⟨g2, 0, none⟩), .pointer (some ⟨g4, 0, none⟩), .int .i64 0]) (by simp [results, Tryz.results135, go_sem]) rfl ⟨g2, g4, rfl, kA4, k4, D4⟩
    · obtain ⟨c5, y5, r5, m5, x5, _⟩ := toBytes y1 B (unhide HIB) (by omega)
      go_simp
      have nA5 := m1.below x5 (Nat.le_refl _)
      have D5 := D1.trans (x5.mono D1.size)
      refine unhide hK _ _ (fun _ => unhide HFF _ D5) ?_
      clear hK K r5
      refine anyL_ready (rs := [7]) (by kernel_rfl) (by simp) ?_
      refine AllL.cons rfl (fun K hK => ?_) AllL.nil
      have hO6 := of_at (some ⟨y0.heap.size, 0, none⟩) c1 A y5 nA5 (by omega) (unhide HWW _ D5)
      go_simp
      refine hO6.mono ?_
      rintro e y6 ⟨g6, rfl, k6, _, x6⟩
      have nB6 := m5.below x6 (Nat.le_refl _)
      have D6 := D5.trans (x6.mono D5.size)
      refine unhide hK _ _ (fun _ => unhide HFF _ D6) ?_
      clear hK K hO6
      refine anyL_ready (rs := [15]) (by kernel_rfl) (by simp) ?_
      refine AllL.cons rfl (fun K hK => ?_) AllL.nil
      have hO7 := of_at (some ⟨y1.heap.size, 0, none⟩) c5 B y6 nB6 (by omega) (unhide HWW _ D6)
      go_simp
      refine hO7.mono ?_
      rintro e y7 ⟨g7, rfl, k7, _, x7⟩
      have kA7 := k6.on x7
      have D7 := D6.trans (x7.mono D6.size)
      refine unhide hK _ _ (fun _ => unhide HFF _ D7) ?_
      clear hK K hO7
      refine anyL_take (i := 16) (v := ?vq15) rfl (by kernel_rfl) (by kernel_rfl) (by kernel_rfl) (by kernel_rfl) (fun _ _ _ h => h) (Or.inl ⟨by rfl, ?hq15⟩) (unhide HFF _ D7) ?_
      case hq15 => (intro w hSw; (try dsimp only at hSw); go_simp) <;> with_reducible rfl
      simp only [Act.put, List.getElem_toArray, List.getElem_cons_zero, List.getElem_cons_succ, List.setIfInBounds_toArray, List.set_cons_zero, List.set_cons_succ]
      refine anyL_take (i := 17) (v := ?vq16) rfl (by kernel_rfl) (by kernel_rfl) (by kernel_rfl) (by kernel_rfl) (fun _ _ _ h => h) (Or.inl ⟨by rfl, ?hq16⟩) (unhide HFF _ D7) ?_
      case hq16 => (intro w hSw; (try dsimp only at hSw); go_simp) <;> with_reducible rfl
      simp only [Act.put, List.getElem_toArray, List.getElem_cons_zero, List.getElem_cons_succ, List.setIfInBounds_toArray, List.set_cons_zero, List.set_cons_succ]
      refine anyL_take (i := 18) (v := ?vq17) rfl (by kernel_rfl) (by kernel_rfl) (by kernel_rfl) (by kernel_rfl) (fun _ _ _ h => h) (Or.inl ⟨by rfl, ?hq17⟩) (unhide HFF _ D7) ?_
      case hq17 => (intro w hSw; (try dsimp only at hSw); go_simp) <;> with_reducible rfl
      simp only [Act.put, List.getElem_toArray, List.getElem_cons_zero, List.getElem_cons_succ, List.setIfInBounds_toArray, List.set_cons_zero, List.set_cons_succ]
      refine anyL_done (by kernel_rfl) ?_ _
      go_wp2_with fail
      refine bodyPost_ret (v := .tuple #[.pointer (some ⟨g6, 0, none⟩), .pointer (some ⟨g7, 0, none⟩), .int .i64 0]) (by simp [results, Tryz.results135, go_sem]) rfl ⟨g6, g7, rfl, kA7, k7, D7⟩
  · obtain ⟨c8, y8, r8, m8, x8, _⟩ := toBytes y0 B (unhide HIB) (by omega)
    go_simp
    have D8 := D0.trans (x8.mono D0.size)
    refine unhide hK _ _ (fun _ => unhide HFF _ D8) ?_
    clear hK K r8
    refine anyL_ready (rs := [6]) (by kernel_rfl) (by simp) ?_
    refine AllL.cons rfl (fun K hK => ?_) AllL.nil
    obtain ⟨c9, y9, r9, m9, x9, _⟩ := toBytes y8 A (unhide HIA) (by omega)
    go_simp
    have nB9 := m8.below x9 (Nat.le_refl _)
    have D9 := D8.trans (x9.mono D8.size)
    refine unhide hK _ _ (fun _ => unhide HFF _ D9) ?_
    clear hK K r9
    refine anyL_ready (rs := [7]) (by kernel_rfl) (by simp) ?_
    refine AllL.cons rfl (fun K hK => ?_) AllL.nil
    have hO10 := of_at (some ⟨y8.heap.size, 0, none⟩) c9 A y9 m9 (by omega) (unhide HWW _ D9)
    go_simp
    refine hO10.mono ?_
    rintro e y10 ⟨g10, rfl, k10, _, x10⟩
    have nB10 := nB9.below x10 (Nat.le_refl _)
    have D10 := D9.trans (x10.mono D9.size)
    refine unhide hK _ _ (fun _ => unhide HFF _ D10) ?_
    clear hK K hO10
    refine anyL_ready (rs := [15]) (by kernel_rfl) (by simp) ?_
    refine AllL.cons rfl (fun K hK => ?_) AllL.nil
    have hO11 := of_at (some ⟨y0.heap.size, 0, none⟩) c8 B y10 nB10 (by omega) (unhide HWW _ D10)
    go_simp
    refine hO11.mono ?_
    rintro e y11 ⟨g11, rfl, k11, _, x11⟩
    have kA11 := k10.on x11
    have D11 := D10.trans (x11.mono D10.size)
    refine unhide hK _ _ (fun _ => unhide HFF _ D11) ?_
    clear hK K hO11
    refine anyL_take (i := 16) (v := ?vq18) rfl (by kernel_rfl) (by kernel_rfl) (by kernel_rfl) (by kernel_rfl) (fun _ _ _ h => h) (Or.inl ⟨by rfl, ?hq18⟩) (unhide HFF _ D11) ?_
    case hq18 => (intro w hSw; (try dsimp only at hSw); go_simp) <;> with_reducible rfl
    simp only [Act.put, List.getElem_toArray, List.getElem_cons_zero, List.getElem_cons_succ, List.setIfInBounds_toArray, List.set_cons_zero, List.set_cons_succ]
    refine anyL_take (i := 17) (v := ?vq19) rfl (by kernel_rfl) (by kernel_rfl) (by kernel_rfl) (by kernel_rfl) (fun _ _ _ h => h) (Or.inl ⟨by rfl, ?hq19⟩) (unhide HFF _ D11) ?_
    case hq19 => (intro w hSw; (try dsimp only at hSw); go_simp) <;> with_reducible rfl
    simp only [Act.put, List.getElem_toArray, List.getElem_cons_zero, List.getElem_cons_succ, List.setIfInBounds_toArray, List.set_cons_zero, List.set_cons_succ]
    refine anyL_take (i := 18) (v := ?vq20) rfl (by kernel_rfl) (by kernel_rfl) (by kernel_rfl) (by kernel_rfl) (fun _ _ _ h => h) (Or.inl ⟨by rfl, ?hq20⟩) (unhide HFF _ D11) ?_
    case hq20 => (intro w hSw; (try dsimp only at hSw); go_simp) <;> with_reducible rfl
    simp only [Act.put, List.getElem_toArray, List.getElem_cons_zero, List.getElem_cons_succ, List.setIfInBounds_toArray, List.set_cons_zero, List.set_cons_succ]
    refine anyL_done (by kernel_rfl) ?_ _
    go_wp2_with fail
    refine bodyPost_ret (v := .tuple #[.pointer (some ⟨g10, 0, none⟩), .pointer (some ⟨g11, 0, none⟩), .int .i64 0]) (by simp [results, Tryz.results135, go_sem]) rfl ⟨g10, g11, rfl, kA11, k11, D11⟩
end
section
attribute [local go_sem] Oper.semAt_some
theorem info_lf : ∃ i, Tryz.prog.info? 160 = some i ∧ i.zero = some (.pointer none) ∧ i.size = 1 ∧ i.bytes = 8 := by
  refine ⟨_, rfl, ?_, ?_, ?_⟩ <;> rfl
theorem push_lf (W : World) (B n : Nat) (v : Value) (xs : List Value) (x : Nat) (ty : TypeId) (h : W.ownsRow B 160 1 v n xs) (hn : n ≤ 1099511627776) (hB : B ≤ W.heap.size) :
    ∃ g c W', (Builtin.append_ #[156, 156] ty #[v, .slice (some ⟨W.heap.size, 0, none⟩) 1 1]).run Tryz.prog (W.alloc (.cells #[.pointer (some ⟨x, 0, none⟩)] 160)) = .ok (.slice (some ⟨g, 0, none⟩) (n + 1) c) W' ∧
      W'.ownsRow B 160 1 (.slice (some ⟨g, 0, none⟩) (n + 1) c) (n + 1) (xs ++ [.pointer (some ⟨x, 0, none⟩)]) ∧ W.grownBy W' v.ownBlock ∧ Below B W W' := by
  obtain ⟨i, hi, hz, hs, hby⟩ := info_lf
  have hr := World.ownsRow.alloc h (.cells #[.pointer (some ⟨x, 0, none⟩)] 160)
  obtain ⟨g, c, W', hrun, ho, hg, _, _⟩ := run_append_lies (P := Tryz.prog) (W.alloc (.cells #[.pointer (some ⟨x, 0, none⟩)] 160)) 156 ty B 160 i (.pointer none) 1 8 Tryz.underlying156 hi hz hs hby rfl (by decide)
    v n xs hr ⟨W.heap.size, 0, none⟩ 1 1 [.pointer (some ⟨x, 0, none⟩)] rfl
    (fun j u hj => by
      cases j with
      | zero => simp at hj; subst hj; rw [Addr.add_lit]; exact (World.cell?_alloc_mark W _ _ (0, 0) 0).trans rfl
      | succ j => simp at hj)
    (fun u hu => by simp at hu; subst hu; rfl) (by decide) (by unfold maxLen; omega) (by omega) (by simp; omega) _ rfl
  have ha := World.grownBy_alloc W (.cells #[.pointer (some ⟨x, 0, none⟩)] 160) none
  have hb : Below B W W' := ((Below.refl B W).alloc hB _).grown hg (by simp; omega) (fun k hk => (hr.lt k hk).1)
  refine ⟨g, c, W', hrun, ho, ⟨hg.os.trans ha.os, hg.tape.trans ha.tape, hg.output.trans ha.output, Nat.le_trans ha.size hg.size, fun k hk hne => ?_⟩, hb⟩
  exact (hg.block k (Nat.lt_of_lt_of_le hk ha.size) hne).trans (ha.block k hk (by simp))
theorem flr_ge3 (l : List Int) (p : Nat) : p ≤ flr l p + 3 := by unfold flr; split <;> (try split) <;> (try split) <;> omega
theorem bdr_in {l : List Int} {b m : Nat} (hb : b < l.length) (hm : 1 ≤ m) : b < bdr l b m ∧ bdr l b m ≤ l.length := by
  unfold bdr
  split
  · omega
  · split
    · omega
    · have h1 := flr_ge3 l (b + m)
      have h2 := flr_le l (b + m)
      omega
def pcA (l : List Int) (m : Nat) : Nat → Nat → List (List Int)
  | 0, _ => []
  | f + 1, b => if b < l.length then (l.take (bdr l b m)).drop b :: pcA l m f (bdr l b m) else []
def pcs (l : List Int) (m : Nat) : List (List Int) := pcA l m l.length 0
theorem pcA_end {l : List Int} {m b : Nat} (h : ¬ b < l.length) : ∀ f, pcA l m f b = []
  | 0 => rfl
  | f + 1 => by unfold pcA; rw [if_neg h]
def ptrs (gs : List Nat) : List Value := gs.map fun g => .pointer (some ⟨g, 0, none⟩)
theorem ptrs_snoc (gs : List Nat) (g : Nat) : ptrs (gs ++ [g]) = ptrs gs ++ [.pointer (some ⟨g, 0, none⟩)] := by simp [ptrs]
def Lvs (W : World) (B : Nat) (gs : List Nat) (ps : List (List Int)) : Prop := gs.length = ps.length ∧ ∀ i, i < gs.length → IsLf W (gs.getD i 0) (ps.getD i []) ∧ B ≤ gs.getD i 0
theorem Lvs.on {W W' : World} {B : Nat} {gs : List Nat} {ps : List (List Int)} (h : Lvs W B gs ps) (hb : Below W.heap.size W W') : Lvs W' B gs ps := ⟨h.1, fun i hi => ⟨(h.2 i hi).1.on hb, (h.2 i hi).2⟩⟩
theorem Lvs.snoc {W : World} {B g : Nat} {gs : List Nat} {ps : List (List Int)} {p : List Int} (h : Lvs W B gs ps) (hg : IsLf W g p) (hB : B ≤ g) : Lvs W B (gs ++ [g]) (ps ++ [p]) := by
  refine ⟨by simp [h.1], fun i hi => ?_⟩
  rw [List.length_append, List.length_singleton] at hi
  rcases Nat.lt_or_ge i gs.length with hlt | hge
  · rw [List.getD_eq_getElem?_getD, List.getElem?_append_left hlt, ← List.getD_eq_getElem?_getD, List.getD_eq_getElem?_getD (l := ps ++ [p]), List.getElem?_append_left (by rw [← h.1]; exact hlt), ← List.getD_eq_getElem?_getD]
    exact h.2 i hlt
  · obtain rfl : i = gs.length := by omega
    have e1 : (gs ++ [g]).getD gs.length 0 = g := by simp
    have e2 : (ps ++ [p]).getD gs.length [] = p := by rw [h.1]; simp
    rw [e1, e2]
    exact ⟨hg, hB⟩
theorem Lvs.kept {W W' : World} {B : Nat} {gs : List Nat} {ps : List (List Int)} {row : Option Nat} (h : Lvs W B gs ps) (hg : W.grownBy W' row) (hne : ∀ i, i < gs.length → some (gs.getD i 0) ≠ row) : Lvs W' B gs ps :=
  ⟨h.1, fun i hi => ⟨(hg.block _ (h.2 i hi).1.lt (fun e => hne i hi e)).trans (h.2 i hi).1, (h.2 i hi).2⟩⟩
theorem lies_piece {w : World} {g off : Nat} {l : List Int} (hL : Lies w g off l) {b e : Nat} (he : e ≤ l.length) : Lies w g (off + b) ((l.take e).drop b) := fun i hi => by
  rw [List.length_drop, List.length_take] at hi
  have := hL (b + i) (by omega)
  rw [show off + (b + i) = off + b + i by omega] at this
  rw [getD_drop', show (l.take e).getD (b + i) 0 = l.getD (b + i) 0 by rw [List.getD_eq_getElem?_getD, List.getElem?_take_of_lt (by omega), ← List.getD_eq_getElem?_getD]]
  exact this
end
section
attribute [local go_sem] Oper.semAt_some
theorem of_is (g off cap n : Nat) (p : List Int) (w : World) (hn : n = p.length) (hB : IsN w (some ⟨g, off, none⟩) cap p) (hl : p.length ≤ 268435456) (hW : Wt w) :
    Calls Tryz.prog 117 #[.slice (some ⟨g, off, none⟩) n cap] w fun y w' => ∃ g, y = .returned (.pointer (some ⟨g, 0, none⟩)) ∧ IsLf w' g p ∧ w.heap.size ≤ g ∧ Below w.heap.size w w' := by
  subst hn
  exact of_at _ cap p w hB hl hW
theorem lvs_apart {W : World} {B B' n : Nat} {gs : List Nat} {ps : List (List Int)} {v : Value} {xs : List Value} (h : Lvs W B gs ps) (o : W.ownsRow B' 160 1 v n xs) : ∀ i, i < gs.length → some (gs.getD i 0) ≠ v.ownBlock := fun i hi e => by
  have hf := (h.2 i hi).1
  rcases o.2 with ⟨rfl, _⟩ | ⟨g, c, cur, rfl, _, hg, _⟩
  · cases e
  · have e' : gs.getD i 0 = g := by simpa [Value.ownBlock] using e
    rw [e'] at hf
    have := hg.symm.trans hf
    simp at this
structure CuI (w : World) (l : List Int) (m b : Nat) (gs : List Nat) (v : Value) (X : World) : Prop where
  p : ∃ (pre : List (List Int)) (f : Nat), pcs l m = pre ++ pcA l m f b ∧ l.length - b ≤ f ∧ Lvs X w.heap.size gs pre ∧ pre.length ≤ b
  o : X.ownsRow w.heap.size 160 1 v gs.length (ptrs gs)
theorem Cut_at (a0 : Option Addr) (cap : Nat) (l : List Int) (m : Nat) (w : World) (hB : IsN w a0 cap l) (hW : Wt w) (h1 : 1 ≤ m) (h2 : m ≤ 4096) (hl : l.length ≤ 268435456) :
    Calls Tryz.prog 90 #[.slice a0 l.length cap, .int .i64 (m : Int)] w fun y w' => ∃ v gs, y = .returned (.tuple #[v, .int .i64 0]) ∧ w'.ownsRow w.heap.size 160 1 v gs.length (ptrs gs) ∧ Lvs w' w.heap.size gs (pcs l m) ∧ Below w.heap.size w w' := by
  have t1 : decide ((m : Int) < 1) = false := decide_eq_false (by omega)
  have t2 : decide ((m : Int) > 4096) = false := decide_eq_false (by omega)
  have t3 : decide ((4096 : Int) < (m : Int)) = false := decide_eq_false (by omega)
  have t3' : decide (4096 < m) = false := decide_eq_false (by omega)
  have t1' : decide (m < 1) = false := decide_eq_false (by omega)
  have t4 : decide ((l.length : Int) > 268435456) = false := decide_eq_false (by omega)
  have t5 : decide ((268435456 : Int) < (l.length : Int)) = false := decide_eq_false (by omega)
  have t5' : decide (268435456 < l.length) = false := decide_eq_false (by omega)
  have HB := hide (And.intro hB hW)
  have hcap := hB.1.1
  have HLB := hide hB.1.2.2.2
  clear hB hW
  go_enter Tryz.func90, Tryz.ntmps90
  go_wp2_with fail
  clear t1 t2 t3 t3' t1' t4 t5 t5'
  go_loopw [6, 7, 8] (fun v s e wx => ∃ (b : Nat) (gs : List Nat), b ≤ l.length ∧ s = .int .i64 (b : Int) ∧ (∃ z, e = z) ∧ Hid (CuI w l m b gs v wx) ∧ Below w.heap.size w wx) (fun _ s _ _ => l.length - (intOf s).toNat)
  case atStart => exact ⟨0, [], Nat.zero_le _, rfl, ⟨_, rfl⟩, hide ⟨⟨[], l.length, rfl, by omega, ⟨rfl, fun i h => by cases h⟩, Nat.le_refl _⟩, ⟨rfl, Or.inl ⟨rfl, rfl⟩⟩⟩, Below.refl _ _⟩
  case round =>
    obtain ⟨b, gs, hb, rfl, ⟨z, rfl⟩, HI, hbl⟩ := hrel
    by_cases hlt : b < l.length
    · have t1 : decide ((b : Int) < (l.length : Int)) = true := decide_eq_true (by omega)
      have hBx := (unhide HB).1.below hbl (Nat.le_refl _)
      have hWx : Wt wr := (unhide HB).2.below hbl
      obtain ⟨g, off, rfl⟩ : ∃ g off, a0 = some ⟨g, off, none⟩ := by
        rcases hBx.1.2.2.1 with h3 | ⟨g, off, e, _⟩
        · rw [h3] at hlt; simp at hlt
        · exact ⟨g, off, e⟩
      obtain ⟨e1, e2⟩ := bdr_in hlt h1
      have hbd := border_at (some ⟨g, off, none⟩) cap l b m wr hBx.1 hWx.1 hb h2
      have HE : Hid (bdr l b m = bdr l b m) := hide rfl
      have HP : Hid (∀ (pre : List (List Int)) f, pcs l m = pre ++ pcA l m f b → l.length - b ≤ f → ∃ f', pcs l m = (pre ++ [(l.take (bdr l b m)).drop b]) ++ pcA l m f' (bdr l b m) ∧ l.length - bdr l b m ≤ f') := hide (fun pre f h3 h4 => by
        obtain ⟨f', rfl⟩ : ∃ f', f = f' + 1 := ⟨f - 1, by omega⟩
        refine ⟨f', ?_, by omega⟩
        rw [h3]
        conv => lhs; unfold pcA
        rw [if_pos hlt]
        simp)
      clear HE
      generalize bdr l b m = e at *
      go_wp2_with fail
      refine hbd.mono ?_
      rintro y w1 ⟨rfl, x1⟩
      have b1 := hbl.trans (x1.mono hbl.size)
      have hB1 := (unhide HB).1.below b1 (Nat.le_refl _)
      have hL1 : Lies w1 g off l := by
        rcases hB1.1.2.2.1 with h3 | ⟨g', off', e', hL⟩
        · rw [h3] at hlt; simp at hlt
        · cases e'; exact hL
      have hpl : ((l.take e).drop b).length = e - b := by rw [List.length_drop, List.length_take]; omega
      have hpN : IsN w1 (some ⟨g, off + b, none⟩) (cap - b) ((l.take e).drop b) := ⟨⟨by omega, by omega, Or.inr ⟨g, off + b, rfl, lies_piece hL1 e2⟩, fun x hx => unhide HLB x (List.mem_of_mem_take (List.mem_of_mem_drop hx))⟩, fun h => by cases h⟩
      have hof := of_is g (off + b) (cap - b) (e - b) ((l.take e).drop b) w1 hpl.symm hpN (by omega) ((unhide HB).2.below b1)
      clear hbd hpN hL1 hB1 hBx hWx
      have HPL := hide hpl
      clear hpl
      have s1 : (e : Int) - (b : Int) = ((e - b : Nat) : Int) := by omega
      go_wp2_with fail
      refine hof.mono ?_
      rintro y w2 ⟨gp, rfl, k2, zg, x2⟩
      have b2 := b1.trans (x2.mono b1.size)
      obtain ⟨pre, f, p1, p2, p3, p4⟩ := (unhide HI).p
      have o2 : w2.ownsRow w.heap.size 160 1 _ gs.length (ptrs gs) := ((unhide HI).o.kept (row := none) ⟨x1.os, x1.tape, x1.output, x1.size, fun j hj _ => x1.block j hj⟩ (Classical.em _)).kept (row := none) ⟨x2.os, x2.tape, x2.output, x2.size, fun j hj _ => x2.block j hj⟩ (Classical.em _)
      have hgl : gs.length ≤ 268435456 := by have := p3.1; omega
      have l2 := ((p3.on x1).on x2).snoc k2 (Nat.le_trans b1.size zg)
      have hap := lvs_apart l2 o2
      obtain ⟨g2, c2, w3, r3, o3, gr3, y3⟩ := push_lf w2 w.heap.size _ _ _ gp 156 o2 (by omega) b2.size
      obtain ⟨f', q1, q2⟩ := unhide HP pre f p1 p2
      have HI3 : Hid (CuI w l m e (gs ++ [gp]) (.slice (some ⟨g2, 0, none⟩) (gs.length + 1) c2) w3) := hide ⟨⟨_, f', q1, q2, l2.kept gr3 hap, by rw [List.length_append, List.length_singleton]; omega⟩, by rw [List.length_append, List.length_singleton, ptrs_snoc]; exact o3⟩
      have b3 := b2.trans y3
      have R3 := hide r3
      clear r3 o3 gr3 y3 o2 l2 hap p1 p2 p3 p4 q1 q2 k2 zg x1 x2 b1 b2 hof HI HP HPL
      go_wp2_with (at_builtin; refine wpList_append_known rfl _ _ 156 156 rfl _ _ rfl rfl _ _ (unhide R3) ?_)
      go_roundw
      case rel => exact ⟨e, gs ++ [gp], e2, rfl, ⟨_, rfl⟩, HI3, b3⟩
      case measure => simp [intOf]; omega
    · obtain rfl : b = l.length := by omega
      obtain ⟨pre, f, p1, _, p3, _⟩ := (unhide HI).p
      rw [pcA_end hlt, List.append_nil] at p1
      have HF := hide (And.intro p1 (And.intro p3 (unhide HI).o))
      clear p1 p3 HI
      have t1 : decide ((l.length : Int) < (l.length : Int)) = false := decide_eq_false (by omega)
      go_wp2_with fail
      refine bodyPost_ret (results_tmp2 rfl _ _ _) rfl ?_
      refine ⟨_, gs, rfl, (unhide HF).2.2, ?_, hbl⟩
      rw [(unhide HF).1]
      exact (unhide HF).2.1
end
section
attribute [local go_sem] Oper.semAt_some
end
section
attribute [local go_sem] Oper.semAt_some
def H4 (W : World) (g : Nat) (t : TypeId) (x y z u : Value) : Prop := W.heap[g]? = some (.cells #[x, y, z, u] t (0, 0))
theorem ends_snoc (a : List Int) (x : Int) : endsN (a ++ [x]) = endsN a + (if (x = 10 ∧ ¬ a.getLast? = some 13) ∨ x = 13 then 1 else 0) := by
  unfold endsN
  rw [crlf_app, List.count_append, List.count_append]
  have h0 : crlf [x] = 0 := by simp [crlf]
  rw [h0]
  have h1 : ([x].count 13 : Int) = if x = 13 then 1 else 0 := by by_cases h : x = 13 <;> simp [h]
  have h2 : ([x].count 10 : Int) = if x = 10 then 1 else 0 := by by_cases h : x = 10 <;> simp [h]
  simp only [Int.natCast_add, h1, h2, List.head?_cons, Option.some.injEq]
  by_cases e1 : x = 13
  · subst e1; simp; omega
  · by_cases e2 : x = 10
    · subst e2
      by_cases e3 : a.getLast? = some 13 <;> simp [e3] <;> omega
    · simp [e1, e2]
end
section
attribute [local go_sem] Oper.semAt_some
end
section
attribute [local go_sem] Oper.semAt_some
end
section
attribute [local go_sem] Oper.semAt_some
end
section
attribute [local go_sem] Oper.semAt_some
theorem we_of (l : List Int) : weV (ofL l) = .agg #[.int .i64 (szL l).b, .int .i64 (szL l).r, .int .i64 (szL l).u, .int .i64 (szL l).e, .string (strOfNums (l.take 3)), .string (strOfNums (tail3 l))] := rfl
theorem WeldL_at (g : Nat) (l : List Int) (w : World) (h : IsLf w g l) :
    Calls Tryz.prog 190 #[.pointer (some ⟨g, 0, none⟩)] w fun y w' => y = .returned (weV (ofL l)) ∧ Below w.heap.size w w' := by
  have b0 := (Below.refl w.heap.size w).alloc (Nat.le_refl _) (.cells #[.int .i64 0, .int .i64 0, .int .i64 0, .int .i64 0, .string ⟨#[]⟩, .string ⟨#[]⟩] 47)
  have g0 := push_get w (.cells #[.int .i64 0, .int .i64 0, .int .i64 0, .int .i64 0, .string ⟨#[]⟩, .string ⟨#[]⟩] 47)
  have k0 := h.on b0
  have e1 := (k0.cell 1).trans (show _ = some (Value.int .i64 (szL l).b) from rfl)
  have e2 := (k0.cell 2).trans (show _ = some (Value.int .i64 (szL l).r) from rfl)
  have e3 := (k0.cell 3).trans (show _ = some (Value.int .i64 (szL l).u) from rfl)
  have e4 := (k0.cell 4).trans (show _ = some (Value.int .i64 (szL l).e) from rfl)
  have e5 := (k0.cell 5).trans (show _ = some (Value.string (strOfNums (l.take 3))) from rfl)
  have e6 := (k0.cell 6).trans (show _ = some (Value.string (strOfNums (tail3 l))) from rfl)
  have HV := hide (we_of l)
  clear h k0
  generalize (szL l).b = zb at *
  generalize (szL l).r = zr at *
  generalize (szL l).u = zu at *
  generalize (szL l).e = ze at *
  generalize strOfNums (l.take 3) = sh at *
  generalize strOfNums (tail3 l) = st at *
  obtain ⟨c0, c1, c2, c3, c4, c5, f⟩ := cells6 g0
  have f0 := f 0
  have f1 := f 1
  have f2 := f 2
  have f3 := f 3
  have f4 := f 4
  have f5 := f 5
  clear f
  have bf := (Below.refl w.heap.size w).alloc (Nat.le_refl _) (.cells #[.int .i64 zb, .int .i64 zr, .int .i64 zu, .int .i64 ze, .string sh, .string st] 47)
  go_enter Tryz.func190, Tryz.ntmps190
  go_wp2_with fail
  refine bodyPost_ret (v := .agg #[.int .i64 zb, .int .i64 zr, .int .i64 zu, .int .i64 ze, .string sh, .string st]) (by simp [results, Tryz.results190, go_sem]) rfl ⟨by rw [unhide HV], bf⟩
end
section
attribute [local go_sem] Oper.semAt_some
theorem JoinL_at (ga gb : Nat) (a b : List Int) (w : World) (ha : IsLf w ga a) (hb : IsLf w gb b) (hla : ∀ x ∈ a, 0 ≤ x ∧ x ≤ 255) (hlb : ∀ x ∈ b, 0 ≤ x ∧ x ≤ 255) (hW : Wt w) (hn : a.length + b.length ≤ 4096) :
    Calls Tryz.prog 96 #[.pointer (some ⟨ga, 0, none⟩), .pointer (some ⟨gb, 0, none⟩)] w fun y w' => ∃ g, y = .returned (.tuple #[.pointer (some ⟨g, 0, none⟩), .int .i64 0]) ∧ IsLf w' g (a ++ b) ∧ Below w.heap.size w w' := by
  have x0 := (Below.refl w.heap.size w).drew
  have hap := str_app a b
  have hsa := strOfNums_size a
  have hsb := strOfNums_size b
  have hcat : ¬ 9223372036854775807 < a.length + b.length := by omega
  have hin : ∀ x ∈ a ++ b, 0 ≤ x ∧ x ≤ 255 := fun x hx => by
    rcases List.mem_append.1 hx with h | h
    · exact hla x h
    · exact hlb x h
  have HIN := hide hin
  clear hin hla hlb
  go_enter Tryz.func96, Tryz.ntmps96
  go_wp2_with fail
  have HS0 : Hid ((fun w' : World => w'.cell? ⟨ga, 0, none⟩ = some (.string (strOfNums a)) ∧ w'.cell? ⟨gb, 0, none⟩ = some (.string (strOfNums b))) w.drew) := hide ⟨(ha.on x0).text, (hb.on x0).text⟩
  refine regionL (S := fun w' => w'.cell? ⟨ga, 0, none⟩ = some (.string (strOfNums a)) ∧ w'.cell? ⟨gb, 0, none⟩ = some (.string (strOfNums b))) (fun _ => false) (by kernel_rfl) ?_
  have hW0 := hW.below x0
  have HFF := hide fun (X : World) (h : Below w.heap.size w X) => And.intro (ha.below h ha.lt).text (hb.below h hb.lt).text
  clear ha hb hW
  generalize w.drew = y0 at *
  refine anyL_take (i := 0) (v := ?vj0) rfl (by kernel_rfl) (by kernel_rfl) (by kernel_rfl) (by kernel_rfl) (fun _ _ _ h => h) (Or.inl ⟨by rfl, ?hj0⟩) (unhide HS0) ?_
  case hj0 => (intro w hSw; (try dsimp only at hSw); go_simp) <;> with_reducible rfl
  simp only [Act.put, List.getElem_toArray, List.getElem_cons_zero, List.setIfInBounds_toArray, List.set_cons_zero, List.set_cons_succ]
  refine anyL_take (i := 1) (v := ?vj1) rfl (by kernel_rfl) (by kernel_rfl) (by kernel_rfl) (by kernel_rfl) (fun _ _ _ h => h) (Or.inl ⟨by rfl, ?hj1⟩) (unhide HS0) ?_
  case hj1 => (intro w hSw; (try dsimp only at hSw); go_simp) <;> with_reducible rfl
  simp only [Act.put, List.getElem_toArray, List.getElem_cons_zero, List.getElem_cons_succ, List.setIfInBounds_toArray, List.set_cons_zero, List.set_cons_succ]
  refine anyL_take (i := 2) (v := ?vj2) rfl (by kernel_rfl) (by kernel_rfl) (by kernel_rfl) (by kernel_rfl) (fun _ _ _ h => h) (Or.inl ⟨by rfl, ?hj2⟩) (unhide HS0) ?_
  case hj2 => (intro w hSw; (try dsimp only at hSw); go_simp) <;> with_reducible rfl
  simp only [Act.put, List.getElem_toArray, List.getElem_cons_zero, List.getElem_cons_succ, List.setIfInBounds_toArray, List.set_cons_zero, List.set_cons_succ]
  refine anyL_take (i := 3) (v := ?vj3) rfl (by kernel_rfl) (by kernel_rfl) (by kernel_rfl) (by kernel_rfl) (fun _ _ _ h => h) (Or.inl ⟨by rfl, ?hj3⟩) (unhide HS0) ?_
  case hj3 => (intro w hSw; (try dsimp only at hSw); go_simp) <;> with_reducible rfl
  simp only [Act.put, List.getElem_toArray, List.getElem_cons_zero, List.getElem_cons_succ, List.setIfInBounds_toArray, List.set_cons_zero, List.set_cons_succ]
  refine anyL_take (i := 4) (v := ?vj4) rfl (by kernel_rfl) (by kernel_rfl) (by kernel_rfl) (by kernel_rfl) (fun _ _ _ h => h) (Or.inl ⟨by rfl, ?hj4⟩) (unhide HS0) ?_
  case hj4 => (intro w hSw; (try dsimp only at hSw); go_simp) <;> with_reducible rfl
  simp only [Act.put, List.getElem_toArray, List.getElem_cons_zero, List.getElem_cons_succ, List.setIfInBounds_toArray, List.set_cons_zero, List.set_cons_succ]
  refine anyL_take (i := 5) (v := ?vj5) rfl (by kernel_rfl) (by kernel_rfl) (by kernel_rfl) (by kernel_rfl) (fun _ _ _ h => h) (Or.inl ⟨by rfl, ?hj5⟩) (unhide HS0) ?_
  case hj5 => (intro w hSw; (try dsimp only at hSw); go_simp) <;> with_reducible rfl
  simp only [Act.put, List.getElem_toArray, List.getElem_cons_zero, List.getElem_cons_succ, List.setIfInBounds_toArray, List.set_cons_zero, List.set_cons_succ]
  refine anyL_take (i := 6) (v := ?vj6) rfl (by kernel_rfl) (by kernel_rfl) (by kernel_rfl) (by kernel_rfl) (fun _ _ _ h => h) (Or.inl ⟨by rfl, ?hj6⟩) (unhide HS0) ?_
  case hj6 => (intro w hSw; (try dsimp only at hSw); go_simp) <;> with_reducible rfl
  simp only [Act.put, List.getElem_toArray, List.getElem_cons_zero, List.getElem_cons_succ, List.setIfInBounds_toArray, List.set_cons_zero, List.set_cons_succ]
  refine anyL_take (i := 7) (v := ?vj7) rfl (by kernel_rfl) (by kernel_rfl) (by kernel_rfl) (by kernel_rfl) (fun _ _ _ h => h) (Or.inl ⟨by rfl, ?hj7⟩) (unhide HS0) ?_
  case hj7 => (intro w hSw; (try dsimp only at hSw); go_simp) <;> with_reducible rfl
  simp only [Act.put, List.getElem_toArray, List.getElem_cons_zero, List.getElem_cons_succ, List.setIfInBounds_toArray, List.set_cons_zero, List.set_cons_succ]
  refine anyL_take (i := 8) (v := ?vj8) rfl (by kernel_rfl) (by kernel_rfl) (by kernel_rfl) (by kernel_rfl) (fun _ _ _ h => h) (Or.inl ⟨by rfl, ?hj8⟩) (unhide HS0) ?_
  case hj8 => (intro w hSw; (try dsimp only at hSw); go_simp) <;> with_reducible rfl
  simp only [Act.put, List.getElem_toArray, List.getElem_cons_zero, List.getElem_cons_succ, List.setIfInBounds_toArray, List.set_cons_zero, List.set_cons_succ]
  obtain ⟨c1, y1, r1, n1, x1, _⟩ := toBytes y0 (a ++ b) (unhide HIN) (by rw [List.length_append]; omega)
  rw [List.length_append] at r1
  have x01 := x0.trans (x1.mono x0.size)
  refine anyL_ready (rs := [9]) (by kernel_rfl) (by simp) ?_
  refine AllL.cons rfl (fun K hK => ?_) AllL.nil
  go_simp
  refine unhide hK _ _ (fun _ => unhide HFF _ x01) ?_
  clear hK K r1
  have hN := New_at (some ⟨y0.heap.size, 0, none⟩) c1 (a ++ b) y1 n1 (hW0.below x1) (by rw [List.length_append]; omega)
  rw [List.length_append] at hN
  refine anyL_ready (rs := [10]) (by kernel_rfl) (by simp) ?_
  refine AllL.cons rfl (fun K hK => ?_) AllL.nil
  go_simp
  refine hN.mono ?_
  rintro e y2 ⟨g, rfl, k2, _, x2⟩
  have x02 := x01.trans (x2.mono x01.size)
  refine unhide hK _ _ (fun _ => unhide HFF _ x02) ?_
  clear hK K
  refine anyL_take (i := 11) (v := ?vj11) rfl (by kernel_rfl) (by kernel_rfl) (by kernel_rfl) (by kernel_rfl) (fun _ _ _ h => h) (Or.inl ⟨by rfl, ?hj11⟩) (unhide HFF _ x02) ?_
  case hj11 => (intro w hSw; (try dsimp only at hSw); go_simp) <;> with_reducible rfl
  simp only [Act.put, List.getElem_toArray, List.getElem_cons_zero, List.getElem_cons_succ, List.setIfInBounds_toArray, List.set_cons_zero, List.set_cons_succ]
  refine anyL_take (i := 12) (v := ?vj12) rfl (by kernel_rfl) (by kernel_rfl) (by kernel_rfl) (by kernel_rfl) (fun _ _ _ h => h) (Or.inl ⟨by rfl, ?hj12⟩) (unhide HFF _ x02) ?_
  case hj12 => (intro w hSw; (try dsimp only at hSw); go_simp) <;> with_reducible rfl
  simp only [Act.put, List.getElem_toArray, List.getElem_cons_zero, List.getElem_cons_succ, List.setIfInBounds_toArray, List.set_cons_zero, List.set_cons_succ]
  refine anyL_take (i := 13) (v := ?vj13) rfl (by kernel_rfl) (by kernel_rfl) (by kernel_rfl) (by kernel_rfl) (fun _ _ _ h => h) (Or.inl ⟨by rfl, ?hj13⟩) (unhide HFF _ x02) ?_
  case hj13 => (intro w hSw; (try dsimp only at hSw); go_simp) <;> with_reducible rfl
  simp only [Act.put, List.getElem_toArray, List.getElem_cons_zero, List.getElem_cons_succ, List.setIfInBounds_toArray, List.set_cons_zero, List.set_cons_succ]
  refine anyL_take (i := 14) (v := ?vj14) rfl (by kernel_rfl) (by kernel_rfl) (by kernel_rfl) (by kernel_rfl) (fun _ _ _ h => h) (Or.inl ⟨by rfl, ?hj14⟩) (unhide HFF _ x02) ?_
  case hj14 => (intro w hSw; (try dsimp only at hSw); go_simp) <;> with_reducible rfl
  simp only [Act.put, List.getElem_toArray, List.getElem_cons_zero, List.getElem_cons_succ, List.setIfInBounds_toArray, List.set_cons_zero, List.set_cons_succ]
  refine anyL_done (by kernel_rfl) ?_ _
  go_wp2_with fail
  refine bodyPost_ret (results_tmp2 rfl _ _ _) rfl ?_
  exact ⟨g, rfl, k2, x02⟩
end
section
attribute [local go_sem] Oper.semAt_some
end
section
attribute [local go_sem] Oper.semAt_some
theorem IsB.takeP {w : World} {a0 : Option Addr} {cap : Nat} {l : List Int} {n : Nat} (h : IsB w a0 cap l) : IsB w a0 cap (l.take n) := by
  obtain ⟨h1, h2, h3, h4⟩ := h
  refine ⟨by simp; omega, by simp; omega, ?_, fun x hx => h4 x (List.mem_of_mem_take hx)⟩
  rcases h3 with h3 | ⟨g', off', rfl, hL⟩
  · exact Or.inl (by rw [h3]; simp)
  · exact Or.inr ⟨g', off', rfl, hL.take n⟩
end
end Go.Proofs.YteamaneompijkaaGreatDoor
