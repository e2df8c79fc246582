/- Layer 13: fits; the writer. · Layer 13, the document's Valid. · Layer 13, the document's Lens. · Layer 13: Apply. · Layer 13: the lister and Changes (written by wip/tools/dmo.py). -/
import Derived.Test.YtkdnanlgkedjgabDoorDn40
import Derived.Lib.AppendStr
import Derived.Test.YtkdnanlgkedjgabDoorDn37
import Derived.Test.YtkdnanlgkedjgabDoorDn41
import Derived.Deep.QuietTactic
import Derived.BigQuiet
import Derived.WalkSmall

section
namespace Go.Proofs.YtkdnanlgkedjgabDoor
open Go.ChangeShapes Go.WideShapes Go.ChangeAt Go.RowKit
attribute [local go_sem] Oper.semAt_some

/-- what fits says -/
def fitE (d : List Dop) (n : Nat) : Int := if valB d then (if frD d = n then 0 else 131) else 130
theorem fit_cases (d : List Dop) (n : Nat) : (valB d = false ∧ fitE d n = 130) ∨ (valB d = true ∧ frD d ≠ n ∧ fitE d n = 131 ∧ ((frD d : Int) != (n : Int)) = true ∧ (frD d == n) = false) ∨ (valB d = true ∧ frD d = n ∧ fitE d n = 0) := by
  unfold fitE
  cases valB d with
  | false => exact .inl ⟨rfl, by simp⟩
  | true =>
    by_cases h : frD d = n
    · exact .inr (.inr ⟨rfl, h, by simp [h]⟩)
    · exact .inr (.inl ⟨rfl, h, by simp [h], by simp; omega, by simpa using h⟩)
set_option maxRecDepth 100000 in
set_option maxHeartbeats 1000000 in
theorem fits_at (a0 : Option Addr) (n c0 : Nat) (a : Option Addr) (c : Nat) (d : List Dop) (w : World) (h : IsO w a d) (hl : d.length ≤ 4611686018427387904) :
    Calls Tryd.prog 16 #[.slice a0 n c0, .slice a d.length c] w fun y w' => y = .returned (.int .i64 (fitE d n)) ∧ Below w.heap.size w w' := by
  have HL := hide (Lens_at a c d w h hl)
  clear h hl
  rcases fit_cases d n with ⟨hv, he⟩ | ⟨hv, hf, he, t1, t2⟩ | ⟨hv, hf, he⟩
  · unfold lensV at HL
    rw [hv] at HL
    simp only [Bool.false_eq_true, if_false] at HL
    rw [he]
    clear he hv
    go_enter Tryd.func16, Tryd.ntmps16
    go_wp2_with fail
    refine (unhide HL).mono ?_
    rintro y w1 ⟨rfl, x1⟩
    dsimp only
    clear HL
    go_wp2_with fail
    refine bodyPost_ret (results_tmp rfl _ _ _) rfl ⟨rfl, x1⟩
  · unfold lensV at HL
    rw [hv] at HL
    simp only [if_true] at HL
    rw [he]
    clear he hv
    generalize frD d = F at *
    generalize toD d = T at *
    go_enter Tryd.func16, Tryd.ntmps16
    go_wp2_with fail
    refine (unhide HL).mono ?_
    rintro y w1 ⟨rfl, x1⟩
    dsimp only
    clear HL
    go_wp2_with fail
    refine bodyPost_ret (results_tmp rfl _ _ _) rfl ⟨rfl, x1⟩
  · unfold lensV at HL
    rw [hv] at HL
    simp only [if_true] at HL
    rw [he]
    clear he hv
    rw [hf] at HL
    clear hf
    generalize toD d = T at *
    go_enter Tryd.func16, Tryd.ntmps16
    go_wp2_with fail
    refine (unhide HL).mono ?_
    rintro y w1 ⟨rfl, x1⟩
    dsimp only
    clear HL
    go_wp2_with fail
    refine bodyPost_ret (results_tmp rfl _ _ _) rfl ⟨rfl, x1⟩

theorem IsB.takeD {w : World} {a0 : Option Addr} {cap : Nat} {l : List Int} {n : Nat} (h : IsB w a0 cap l) : IsB w a0 cap (l.take n) := by
  obtain ⟨h1, h2, h3, h4⟩ := h
  refine ⟨by simp; omega, by simp; omega, ?_, fun x hx => h4 x (List.mem_of_mem_take hx)⟩
  rcases h3 with h3 | ⟨g', off', rfl, hL⟩
  · exact Or.inl (by rw [h3]; simp)
  · exact Or.inr ⟨g', off', rfl, hL.take n⟩
theorem IsB.loD {w : World} {a : Option Addr} {cap : Nat} {l : List Int} {n : Nat} (h : IsB w a cap l) : IsB w (if cap = n then a else a.map (·.add n)) (cap - n) (l.drop n) := by
  obtain ⟨h1, h2, h3, h4⟩ := h
  refine ⟨by simp; omega, by simp; omega, ?_, fun x hx => h4 x (List.mem_of_mem_drop hx)⟩
  rcases Nat.lt_or_ge n l.length with hlt | hge
  · rcases h3 with h3 | ⟨g', off', rfl, hL⟩
    · rw [h3] at hlt; simp at hlt
    · rw [if_neg (by omega)]
      exact Or.inr ⟨g', off' + n, by simp [Addr.add_lit], hL.drop n⟩
  · exact Or.inl (by simp; omega)
theorem strCells_nums {t : List Int} (ht : ∀ x ∈ t, 0 ≤ x ∧ x ≤ 255) : Lib.strCells (strOfNums t) = t.map (Value.int .u8) := by
  unfold Lib.strCells strOfNums
  simp only [List.map_map]
  refine List.map_congr_left fun x hx => ?_
  have := ht x hx
  simp
  omega
/-- append(v, s...) where v is the call's own -/
theorem run_more_str (w : World) (B g c : Nat) (l t : List Int) (ty : TypeId) (h : Own w B (.slice (some ⟨g, 0, none⟩) l.length c) l) (ht : ∀ x ∈ t, 0 ≤ x ∧ x ≤ 255) (hB : B ≤ w.heap.size) (hn : l.length + t.length ≤ 140737488355328) :
    ∃ g' c' w', (Builtin.append_ #[22, 9] ty #[.slice (some ⟨g, 0, none⟩) l.length c, .string (strOfNums t)]).run Tryd.prog w = .ok (.slice (some ⟨g', 0, none⟩) (l ++ t).length c') w' ∧
      Own w' B (.slice (some ⟨g', 0, none⟩) (l ++ t).length c') (l ++ t) ∧ w.grownBy w' (some g) ∧ Below B w w' := by
  obtain ⟨i, hi, hz, hs, hby⟩ := info_u8
  have hsz := strOfNums_size t
  obtain ⟨v', w', hr, ho, hg, hiff⟩ := Lib.run_append_own_string (P := Tryd.prog) w B 22 9 ty 5 i Tryd.underlying22 Tryd.underlying9 hi hz hs hby _ l.length _ h (strOfNums t) (by unfold maxLen; omega) (by omega) hB
  rw [hsz, strCells_nums ht] at ho
  have hown : Own w' B v' (l ++ t) := by unfold Own; simpa using ho
  rcases hown.2 with ⟨hv, _⟩ | ⟨g', c', cur, rfl, _⟩
  · have := hiff.1 hv
    cases this.1
  · exact ⟨g', c', w', hr, hown, hg, (Below.refl B w).grown hg hB (fun k e => by cases e; exact (World.ownsRow.lt h g rfl).1)⟩
/-- the writer -/
structure IsW (w X : World) (g : Nat) (l m : List Int) : Prop where
  c : ∃ a c g' c', Cls X g 47 #[.slice a l.length c, .slice (some ⟨g', 0, none⟩) m.length c'] ∧ IsB w a c l ∧ Own X w.heap.size (.slice (some ⟨g', 0, none⟩) m.length c') m
  d : Below w.heap.size w X
  z : w.heap.size ≤ g
theorem IsW.on {w X Y : World} {g : Nat} {l m : List Int} (h : IsW w X g l m) (hb : Below X.heap.size X Y) : IsW w Y g l m := by
  obtain ⟨a, c, g', c', h1, h2, h3⟩ := h.c
  exact ⟨⟨a, c, g', c', h1.below hb h1.lt, h2, rowD_below h3 hb (Nat.le_refl _)⟩, h.d.trans (hb.mono h.d.size), h.z⟩
theorem own_ne {X : World} {B g g' n c' : Nat} {m : List Int} {cs : Array Value} (h1 : Cls X g 47 cs) (h3 : Own X B (.slice (some ⟨g', 0, none⟩) n c') m) : g ≠ g' := by
  obtain ⟨_, cur, hc⟩ := rowD_block h3 (G := g') rfl
  exact typeD_ne h1 hc (by decide)
/-- what waits is shortened -/
theorem IsW.rest {w X : World} {g : Nat} {l m : List Int} {a : Option Addr} {c g' c' : Nat} (h : IsW w X g l m) (h1 : Cls X g 47 #[.slice a l.length c, .slice (some ⟨g', 0, none⟩) m.length c']) (h2 : IsB w a c l) (h3 : Own X w.heap.size (.slice (some ⟨g', 0, none⟩) m.length c') m) (n : Nat) :
    IsW w (X.setCell ⟨g, 0, none⟩ (.slice (if c = n then a else a.map (·.add n)) (l.length - n) (c - n))) g (l.drop n) m :=
  ⟨⟨_, c - n, g', c', by have := h1.set 0 (.slice (if c = n then a else a.map (·.add n)) (l.length - n) (c - n)); rw [List.length_drop]; exact this, h2.loD, rowD_on h3 fun G hG => Below.heap_setCell _ _ _ _ (fun e => own_ne h1 h3 (by cases hG; exact e.symm))⟩, h.d.setCell (p := ⟨g, 0, none⟩) h.z _, h.z⟩
/-- what is written grows -/
theorem IsW.more {w X Y : World} {g : Nat} {l m m' : List Int} {a : Option Addr} {c g' c' g2 c2 : Nat} (h : IsW w X g l m) (h1 : Cls X g 47 #[.slice a l.length c, .slice (some ⟨g', 0, none⟩) m.length c']) (h2 : IsB w a c l) (h3 : Own X w.heap.size (.slice (some ⟨g', 0, none⟩) m.length c') m)
    (hg : X.grownBy Y (some g')) (h4 : Own Y w.heap.size (.slice (some ⟨g2, 0, none⟩) m'.length c2) m') (hb : Below w.heap.size X Y) : Cls Y g 47 #[.slice a l.length c, .slice (some ⟨g', 0, none⟩) m.length c'] ∧ Cls (Y.setCell ⟨g, 1, none⟩ (.slice (some ⟨g2, 0, none⟩) m'.length c2)) g 47 #[.slice a l.length c, .slice (some ⟨g2, 0, none⟩) m'.length c2] ∧
      Own (Y.setCell ⟨g, 1, none⟩ (.slice (some ⟨g2, 0, none⟩) m'.length c2)) w.heap.size (.slice (some ⟨g2, 0, none⟩) m'.length c2) m' ∧ IsW w (Y.setCell ⟨g, 1, none⟩ (.slice (some ⟨g2, 0, none⟩) m'.length c2)) g l m' := by
  have h1' : Cls Y g 47 #[.slice a l.length c, .slice (some ⟨g', 0, none⟩) m.length c'] := h1.same (hg.block g h1.lt (fun e => own_ne h1 h3 (by cases e; rfl)))
  have h4' : Own (Y.setCell ⟨g, 1, none⟩ (.slice (some ⟨g2, 0, none⟩) m'.length c2)) w.heap.size (.slice (some ⟨g2, 0, none⟩) m'.length c2) m' := rowD_on h4 fun G hG => Below.heap_setCell _ _ _ _ (fun e => own_ne h1' h4 (by cases hG; exact e.symm))
  exact ⟨h1', h1'.set 1 _, h4', ⟨a, c, g2, c2, h1'.set 1 _, h2, h4'⟩, (h.d.trans hb).setCell (p := ⟨g, 1, none⟩) h.z _, h.z⟩
set_option maxRecDepth 100000 in
theorem wdrop_at (w X : World) (g : Nat) (l m : List Int) (n : Nat) (h : IsW w X g l m) (hn : n ≤ l.length) :
    Calls Tryd.prog 21 #[.pointer (some ⟨g, 0, none⟩), .int .i64 (n : Int)] X fun y X' => y = .returned (.tuple #[]) ∧ IsW w X' g (l.drop n) m ∧ Below w.heap.size X X' := by
  obtain ⟨a, c, g', c', h1, h2, h3⟩ := h.c
  have c0 := h1.cell 0
  have f0 := h1.frozen 0
  simp only [List.getElem?_toArray, List.getElem?_cons_zero] at c0
  have HR := hide (h.rest h1 h2 h3 n)
  have HBB : Hid (Below w.heap.size X (X.setCell ⟨g, 0, none⟩ (.slice (if c = n then a else a.map (·.add n)) (l.length - n) (c - n)))) := hide ((Below.refl _ _).setCell (p := ⟨g, 0, none⟩) h.z _)
  have hc := h2.1
  have hll := h2.2.1
  clear h h1 h2 h3
  generalize l.length = L at *
  by_cases hcn : c = n
  · subst hcn
    obtain rfl : L = c := by omega
    rw [if_pos rfl, Nat.sub_self] at HR HBB
    go_enter Tryd.func21, Tryd.ntmps21
    go_wp2_with fail
    exact bodyPost_end (v := .tuple #[]) (results_none Tryd.results21 _ _ _) rfl ⟨rfl, unhide HR, unhide HBB⟩
  · rw [if_neg hcn] at HR HBB
    go_enter Tryd.func21, Tryd.ntmps21
    go_wp2_with fail
    exact bodyPost_end (v := .tuple #[]) (results_none Tryd.results21 _ _ _) rfl ⟨rfl, unhide HR, unhide HBB⟩
set_option maxRecDepth 100000 in
theorem wput_at (w X : World) (g : Nat) (l m t : List Int) (h : IsW w X g l m) (ht : ∀ x ∈ t, 0 ≤ x ∧ x ≤ 255) (hn : m.length + t.length ≤ 140737488355328) :
    Calls Tryd.prog 20 #[.pointer (some ⟨g, 0, none⟩), .string (strOfNums t)] X fun y X' => y = .returned (.tuple #[]) ∧ IsW w X' g l (m ++ t) ∧ Below w.heap.size X X' := by
  obtain ⟨a, c, g', c', h1, h2, h3⟩ := h.c
  have c0 := h1.cell 1
  simp only [List.getElem?_toArray, List.getElem?_cons_zero, List.getElem?_cons_succ] at c0
  obtain ⟨g2, c2, Y, r2, o2, gr2, b2⟩ := run_more_str X w.heap.size g' c' m t 22 h3 ht h.d.size hn
  obtain ⟨k1, _, _, hR⟩ := h.more h1 h2 h3 gr2 o2 b2
  have e0 := k1.cell 1
  have f0 := k1.frozen 1
  simp only [List.getElem?_toArray, List.getElem?_cons_zero, List.getElem?_cons_succ] at e0
  have HR := hide hR
  have HBB := hide (b2.setCell (p := ⟨g, 1, none⟩) h.z (.slice (some ⟨g2, 0, none⟩) (m ++ t).length c2))
  have R2 := hide r2
  clear h h1 h2 h3 r2 o2 gr2 b2 k1 hR ht hn
  generalize m.length = M at *
  generalize (m ++ t).length = M2 at *
  generalize strOfNums t = st at *
  go_enter Tryd.func20, Tryd.ntmps20
  go_wp2_with (at_builtin; refine wpList_append_known rfl _ _ 22 9 rfl _ _ rfl rfl _ _ (unhide R2) ?_; clear R2)
  exact bodyPost_end (v := .tuple #[]) (results_none Tryd.results20 _ _ _) rfl ⟨rfl, unhide HR, unhide HBB⟩
/-- append(v, b...) where v is the call's own, and what stays -/
theorem run_moreG (w : World) (B g c : Nat) (l m : List Int) (a0 : Option Addr) (cap : Nat) (ty : TypeId) (h : Own w B (.slice (some ⟨g, 0, none⟩) l.length c) l) (hm : IsB w a0 cap m) (hB : B ≤ w.heap.size) (hn : l.length + m.length ≤ 140737488355328) :
    ∃ g' c' w', (Builtin.append_ #[22, 22] ty #[.slice (some ⟨g, 0, none⟩) l.length c, .slice a0 m.length cap]).run Tryd.prog w = .ok (.slice (some ⟨g', 0, none⟩) (l ++ m).length c') w' ∧
      Own w' B (.slice (some ⟨g', 0, none⟩) (l ++ m).length c') (l ++ m) ∧ w.grownBy w' (some g) ∧ Below B w w' := by
  obtain ⟨i, hi, hz, hs, hby⟩ := info_u8
  have hgB : B ≤ g ∧ g < w.heap.size := World.ownsRow.lt h g rfl
  rcases Nat.eq_zero_or_pos m.length with h0 | h0
  · obtain rfl : m = [] := List.length_eq_zero_iff.1 h0
    have hlc : l.length ≤ c := by
      rcases h.2 with ⟨hv, _⟩ | ⟨g1, cap1, cur, hv, _, _, hc, _⟩
      · cases hv
      · cases hv; exact hc
    rw [List.append_nil]
    refine ⟨g, c, w, ?_, h, grown_refl _ _, Below.refl _ _⟩
    exact run_append_room_src (P := Tryd.prog) w 22 22 ty 5 i Tryd.underlying22 hi g 0 l.length c (.slice a0 0 cap) 0 [] (by rw [hs]; exact src_none _ a0 cap) (by omega) (fun j hj => absurd hj (Nat.not_lt_zero _)) (fun j hj => absurd hj (Nat.not_lt_zero _))
  · rcases hm.2.2.1 with h3 | ⟨g0, off, rfl, hL⟩
    · rw [h3] at h0; cases h0
    obtain ⟨g', c', w', hr, ho, hg, hat, hlt⟩ := run_append_lies (P := Tryd.prog) w 22 ty B 5 i (.int .u8 0) 1 1 Tryd.underlying22 hi hz hs hby rfl (by decide)
      _ l.length (l.map (Value.int .u8)) h ⟨g0, off, none⟩ m.length cap (m.map (Value.int .u8)) (by simp) (src_cells hL) (src_some _ g0 off cap m hL).one h0 (by unfold maxLen; omega) (by omega) hB (w.heap.size) (by omega)
    have hown : Own w' B (.slice (some ⟨g', 0, none⟩) (l.length + m.length) c') (l ++ m) := by
      unfold Own
      simpa using ho
    rw [← List.length_append] at hr hown
    exact ⟨g', c', w', hr, hown, hg, (Below.refl B w).grown hg hB (fun k e => by cases e; exact hgB.1)⟩
set_option maxRecDepth 100000 in
set_option maxHeartbeats 1000000 in
theorem wkeep_at (w X : World) (g : Nat) (l m : List Int) (n : Nat) (h : IsW w X g l m) (hn : n ≤ l.length) (hm : m.length + n ≤ 140737488355328) :
    Calls Tryd.prog 19 #[.pointer (some ⟨g, 0, none⟩), .int .i64 (n : Int)] X fun y X' => y = .returned (.tuple #[]) ∧ IsW w X' g (l.drop n) (m ++ l.take n) ∧ Below w.heap.size X X' := by
  obtain ⟨a, c, g', c', h1, h2, h3⟩ := h.c
  have hln : (l.take n).length = n := by simp; omega
  have h1d : Cls X.drew g 47 #[.slice a l.length c, .slice (some ⟨g', 0, none⟩) m.length c'] := h1.same rfl
  have h3d : Own X.drew w.heap.size (.slice (some ⟨g', 0, none⟩) m.length c') m := rowD_drew h3
  have hd : IsW w X.drew g l m := h.on ((Below.refl _ _).drew)
  obtain ⟨g2, c2, Y, r2, o2, gr2, b2⟩ := run_moreG X.drew w.heap.size g' c' m (l.take n) a c 22 h3d ((h2.takeD).below h.d.drew (Nat.le_refl _)) h.d.size (by rw [hln]; exact hm)
  rw [hln] at r2
  obtain ⟨k1, k2, k3, hR⟩ := hd.more h1d h2 h3d gr2 o2 b2
  have HR := hide (hR.rest k2 h2 k3 n)
  have HBB := hide ((((Below.refl w.heap.size X).drew.trans b2).setCell (p := ⟨g, 1, none⟩) h.z (.slice (some ⟨g2, 0, none⟩) (m ++ l.take n).length c2)).setCell (p := ⟨g, 0, none⟩) h.z (.slice (if c = n then a else a.map (·.add n)) (l.length - n) (c - n)))
  have R2 := hide r2
  have HS0 : Hid (X.drew.cell? ⟨g, 0, none⟩ = some (.slice a l.length c) ∧ X.drew.cell? ⟨g, 1, none⟩ = some (.slice (some ⟨g', 0, none⟩) m.length c')) := hide ⟨h1d.cell 0, h1d.cell 1⟩
  have HS2 : Hid (Y.cell? ⟨g, 0, none⟩ = some (.slice a l.length c) ∧ Y.cell? ⟨g, 1, none⟩ = some (.slice (some ⟨g', 0, none⟩) m.length c')) := hide ⟨k1.cell 0, k1.cell 1⟩
  have e0 : Y.cell? ⟨g, 1, none⟩ = some (.slice (some ⟨g', 0, none⟩) m.length c') := k1.cell 1
  have f0 := k1.frozen 1
  have e1 : (Y.setCell ⟨g, 1, none⟩ (.slice (some ⟨g2, 0, none⟩) (m ++ l.take n).length c2)).cell? ⟨g, 0, none⟩ = some (.slice a l.length c) := k2.cell 0
  have f1 := k2.frozen 0
  have hc := h2.1
  have hll := h2.2.1
  clear h h1 h2 h3 r2 o2 gr2 b2 k1 k2 k3 hR hm h1d h3d hd hln
  generalize l.length = L at *
  generalize m.length = M at *
  generalize (m ++ l.take n).length = M2 at *
  have hnc : n ≤ c := by omega
  go_enter Tryd.func19, Tryd.ntmps19
  go_upto_region 0 with fail
  refine regionL (S := fun w' => w'.cell? ⟨g, 0, none⟩ = some (.slice a L c) ∧ w'.cell? ⟨g, 1, none⟩ = some (.slice (some ⟨g', 0, none⟩) M c')) (fun i => i == 14) (by kernel_rfl) ?_
  refine anyL_take (i := 0) (v := ?vwk0) rfl (by kernel_rfl) (by kernel_rfl) (by kernel_rfl) (by kernel_rfl) (fun _ _ _ h => h) (Or.inl ⟨by rfl, ?hwk0⟩) (unhide HS0) ?_
  case hwk0 => (intro w hSw; (try dsimp only at hSw); go_simp) <;> with_reducible rfl
  simp only [Act.put, List.getElem_toArray, List.getElem_cons_zero, List.setIfInBounds_toArray, List.set_cons_zero, List.set_cons_succ]
  refine anyL_take (i := 1) (v := ?vwk1) rfl (by kernel_rfl) (by kernel_rfl) (by kernel_rfl) (by kernel_rfl) (fun _ _ _ h => h) (Or.inl ⟨by rfl, ?hwk1⟩) (unhide HS0) ?_
  case hwk1 => (intro w hSw; (try dsimp only at hSw); go_simp) <;> with_reducible rfl
  simp only [Act.put, List.getElem_toArray, List.getElem_cons_zero, List.getElem_cons_succ, List.setIfInBounds_toArray, List.set_cons_zero, List.set_cons_succ]
  refine anyL_take (i := 2) (v := ?vwk2) rfl (by kernel_rfl) (by kernel_rfl) (by kernel_rfl) (by kernel_rfl) (fun _ _ _ h => h) (Or.inl ⟨by rfl, ?hwk2⟩) (unhide HS0) ?_
  case hwk2 => (intro w hSw; (try dsimp only at hSw); go_simp) <;> with_reducible rfl
  simp only [Act.put, List.getElem_toArray, List.getElem_cons_zero, List.getElem_cons_succ, List.setIfInBounds_toArray, List.set_cons_zero, List.set_cons_succ]
  refine anyL_take (i := 3) (v := ?vwk3) rfl (by kernel_rfl) (by kernel_rfl) (by kernel_rfl) (by kernel_rfl) (fun _ _ _ h => h) (Or.inl ⟨by rfl, ?hwk3⟩) (unhide HS0) ?_
  case hwk3 => (intro w hSw; (try dsimp only at hSw); go_simp) <;> with_reducible rfl
  simp only [Act.put, List.getElem_toArray, List.getElem_cons_zero, List.getElem_cons_succ, List.setIfInBounds_toArray, List.set_cons_zero, List.set_cons_succ]
  refine anyL_take (i := 4) (v := ?vwk4) rfl (by kernel_rfl) (by kernel_rfl) (by kernel_rfl) (by kernel_rfl) (fun _ _ _ h => h) (Or.inl ⟨by rfl, ?hwk4⟩) (unhide HS0) ?_
  case hwk4 => (intro w hSw; (try dsimp only at hSw); go_simp) <;> with_reducible rfl
  simp only [Act.put, List.getElem_toArray, List.getElem_cons_zero, List.getElem_cons_succ, List.setIfInBounds_toArray, List.set_cons_zero, List.set_cons_succ]
  refine anyL_take (i := 5) (v := ?vwk5) rfl (by kernel_rfl) (by kernel_rfl) (by kernel_rfl) (by kernel_rfl) (fun _ _ _ h => h) (Or.inl ⟨by rfl, ?hwk5⟩) (unhide HS0) ?_
  case hwk5 => (intro w hSw; (try dsimp only at hSw); go_simp) <;> with_reducible rfl
  simp only [Act.put, List.getElem_toArray, List.getElem_cons_zero, List.getElem_cons_succ, List.setIfInBounds_toArray, List.set_cons_zero, List.set_cons_succ]
  refine anyL_take (i := 6) (v := ?vwk6) rfl (by kernel_rfl) (by kernel_rfl) (by kernel_rfl) (by kernel_rfl) (fun _ _ _ h => h) (Or.inl ⟨by rfl, ?hwk6⟩) (unhide HS0) ?_
  case hwk6 => (intro w hSw; (try dsimp only at hSw); go_simp) <;> with_reducible rfl
  simp only [Act.put, List.getElem_toArray, List.getElem_cons_zero, List.getElem_cons_succ, List.setIfInBounds_toArray, List.set_cons_zero, List.set_cons_succ]
  refine anyL_take (i := 7) (v := ?vwk7) rfl (by kernel_rfl) (by kernel_rfl) (by kernel_rfl) (by kernel_rfl) (fun _ _ _ h => h) (Or.inl ⟨by rfl, ?hwk7⟩) (unhide HS0) ?_
  case hwk7 => (intro w hSw; (try dsimp only at hSw); go_simp) <;> with_reducible rfl
  simp only [Act.put, List.getElem_toArray, List.getElem_cons_zero, List.getElem_cons_succ, List.setIfInBounds_toArray, List.set_cons_zero, List.set_cons_succ]
  refine anyL_take (i := 8) (v := ?vwk8) rfl (by kernel_rfl) (by kernel_rfl) (by kernel_rfl) (by kernel_rfl) (fun _ _ _ h => h) (Or.inl ⟨by rfl, ?hwk8⟩) (unhide HS0) ?_
  case hwk8 => (intro w hSw; (try dsimp only at hSw); go_simp) <;> with_reducible rfl
  simp only [Act.put, List.getElem_toArray, List.getElem_cons_zero, List.getElem_cons_succ, List.setIfInBounds_toArray, List.set_cons_zero, List.set_cons_succ]
  refine anyL_take (i := 9) (v := ?vwk9) rfl (by kernel_rfl) (by kernel_rfl) (by kernel_rfl) (by kernel_rfl) (fun _ _ _ h => h) (Or.inl ⟨by rfl, ?hwk9⟩) (unhide HS0) ?_
  case hwk9 => (intro w hSw; (try dsimp only at hSw); go_simp) <;> with_reducible rfl
  simp only [Act.put, List.getElem_toArray, List.getElem_cons_zero, List.getElem_cons_succ, List.setIfInBounds_toArray, List.set_cons_zero, List.set_cons_succ]
  refine anyL_take (i := 10) (v := ?vwk10) rfl (by kernel_rfl) (by kernel_rfl) (by kernel_rfl) (by kernel_rfl) (fun _ _ _ h => h) (Or.inl ⟨by rfl, ?hwk10⟩) (unhide HS0) ?_
  case hwk10 => (intro w hSw; (try dsimp only at hSw); go_simp) <;> with_reducible rfl
  simp only [Act.put, List.getElem_toArray, List.getElem_cons_zero, List.getElem_cons_succ, List.setIfInBounds_toArray, List.set_cons_zero, List.set_cons_succ]
  refine anyL_ready (rs := [11]) (by kernel_rfl) (by simp) ?_
  refine AllL.cons rfl (fun K hK => ?_) AllL.nil
  refine step_append_in rfl _ _ 22 22 rfl _ _ rfl rfl _ _ (unhide R2) ?_
  go_simp
  clear R2
  refine unhide hK _ _ (fun _ => unhide HS2) ?_
  clear hK K
  refine anyL_take (i := 12) (v := ?vwk11) rfl (by kernel_rfl) (by kernel_rfl) (by kernel_rfl) (by kernel_rfl) (fun _ _ _ h => h) (Or.inl ⟨by rfl, ?hwk11⟩) (unhide HS2) ?_
  case hwk11 => (intro w hSw; (try dsimp only at hSw); go_simp) <;> with_reducible rfl
  simp only [Act.put, List.getElem_toArray, List.getElem_cons_zero, List.getElem_cons_succ, List.setIfInBounds_toArray, List.set_cons_zero, List.set_cons_succ]
  refine anyL_take (i := 13) (v := ?vwk12) rfl (by kernel_rfl) (by kernel_rfl) (by kernel_rfl) (by kernel_rfl) (fun _ _ _ h => h) (Or.inl ⟨by rfl, ?hwk12⟩) (unhide HS2) ?_
  case hwk12 => (intro w hSw; (try dsimp only at hSw); go_simp) <;> with_reducible rfl
  simp only [Act.put, List.getElem_toArray, List.getElem_cons_zero, List.getElem_cons_succ, List.setIfInBounds_toArray, List.set_cons_zero, List.set_cons_succ]
  refine anyL_ready (rs := [14]) (by kernel_rfl) (by simp) ?_
  refine AllL.cons rfl (fun K hK => ?_) AllL.nil
  go_simp
  refine unhide hK _ _ (fun h => by cases h) ?_
  clear hK K
  refine anyL_done (by kernel_rfl) ?_ _
  clear e0 f0 HS0 HS2
  generalize Y.setCell ⟨g, 1, none⟩ (.slice (some ⟨g2, 0, none⟩) M2 c2) = Z at *
  by_cases hcn : c = n
  · subst hcn
    obtain rfl : L = c := by omega
    rw [if_pos rfl, Nat.sub_self] at HR HBB
    go_wp2_with fail
    exact bodyPost_end (v := .tuple #[]) (results_none Tryd.results19 _ _ _) rfl ⟨rfl, unhide HR, unhide HBB⟩
  · rw [if_neg hcn] at HR HBB
    go_wp2_with fail
    exact bodyPost_end (v := .tuple #[]) (results_none Tryd.results19 _ _ _) rfl ⟨rfl, unhide HR, unhide HBB⟩

end Go.Proofs.YtkdnanlgkedjgabDoor
end

section
namespace Go.Proofs.YtkdnanlgkedjgabDoor
open Go.ChangeShapes Go.WideShapes Go.ChangeAt Go.RowKit
attribute [local go_sem] Oper.semAt_some

theorem val_pl {d : List Dop} (h : d.all plB = false) : valB d = false := by unfold valB; rw [h]; rfl
theorem val_ap {d : List Dop} (h : apL 7 d = false) : valB d = false := by unfold valB; rw [h]; cases d.all plB <;> rfl
theorem val_lo {d : List Dop} (h : 268435456 < frD d ∨ 268435456 < toD d) : valB d = false := by
  unfold valB; rw [show lonB d = true from decide_eq_true h]; cases d.all plB <;> cases apL 7 d <;> rfl
/-- the tests of one operation that keeps or drops -/
theorem kd_cases (n : Int) (t : List Int) : (n < 1 ∧ decide (n < 1) = true) ∨ (¬ n < 1 ∧ 268435456 < n ∧ decide (n < 1) = false ∧ decide (n > 268435456) = true ∧ decide (268435456 < n) = true) ∨
    (¬ n < 1 ∧ t.isEmpty = false ∧ decide (n < 1) = false ∧ decide (n > 268435456) = false ∧ decide (268435456 < n) = false) ∨
    (¬ n < 1 ∧ n ≤ 268435456 ∧ t.isEmpty = true ∧ decide (n < 1) = false ∧ decide (n > 268435456) = false ∧ decide (268435456 < n) = false) := by
  by_cases h1 : n < 1
  · exact .inl ⟨h1, decide_eq_true h1⟩
  by_cases h2 : 268435456 < n
  · exact .inr (.inl ⟨h1, h2, decide_eq_false h1, decide_eq_true h2, decide_eq_true h2⟩)
  cases h3 : t.isEmpty with
  | false => exact .inr (.inr (.inl ⟨h1, rfl, decide_eq_false h1, decide_eq_false h2, decide_eq_false h2⟩))
  | true => exact .inr (.inr (.inr ⟨h1, by omega, rfl, decide_eq_false h1, decide_eq_false h2, decide_eq_false h2⟩))
theorem put_cases (n : Int) (t : List Int) : (¬ n = 0 ∧ (n != 0) = true) ∨ (n = 0 ∧ (n != 0) = false ∧ t.isEmpty = true) ∨ (n = 0 ∧ (n != 0) = false ∧ t.isEmpty = false) := by
  by_cases h1 : n = 0
  · cases h3 : t.isEmpty with
    | true => exact .inr (.inl ⟨h1, by simp [h1], rfl⟩)
    | false => exact .inr (.inr ⟨h1, by simp [h1], rfl⟩)
  · exact .inl ⟨h1, by simpa using h1⟩
theorem kind_cases (k : Int) : k = 1 ∨ k = 2 ∨ k = 3 ∨ (¬ k = 1 ∧ ¬ k = 2 ∧ ¬ k = 3 ∧ (k == 1) = false ∧ (k == 2) = false ∧ (k == 3) = false ∧ thisN k = 0) := by
  by_cases h1 : k = 1
  · exact .inl h1
  by_cases h2 : k = 2
  · exact .inr (.inl h2)
  by_cases h3 : k = 3
  · exact .inr (.inr (.inl h3))
  refine .inr (.inr (.inr ⟨h1, h2, h3, by simpa using h1, by simpa using h2, by simpa using h3, ?_⟩))
  unfold thisN; simp [h1, h2, h3]
def prM (d : List Dop) (k : Nat) : Int := if k = 0 then 7 else nextN (d.getD (k - 1) opZ).k
theorem prM_s (d : List Dop) (k : Nat) : prM d (k + 1) = nextN (d.getD k opZ).k := by simp [prM]
theorem k_pos {k j n : Nat} (h : k = j + 1) (hl : k < 4611686018427387904) (hn : k < n) : (0 < k ∧ decide (0 < k) = true ∧ decide ((0 : Int) < (k : Int)) = true ∧ decide ((k : Int) > 0) = true ∧ (0 : Int) < (k : Int)) ∧ (j : Int) < (n : Int) ∧ (k : Int) < (n : Int) ∧ (0 : Int) ≤ (j : Int) ∧ wrap64 ((k : Int) - 1) = (j : Int) ∧ (k : Int) - 1 = (j : Int) ∧ wrap64 (j : Int) = (j : Int) :=
  ⟨⟨by omega, decide_eq_true (by omega), decide_eq_true (by omega), decide_eq_true (by omega), by omega⟩, by omega, by omega, by omega, by rw [wrapD _ (by omega) (by omega)]; omega, by omega, wrapD _ (by omega) (by omega)⟩
def VaI (d : List Dop) (k f t : Nat) : Prop := f = frD (d.take k) ∧ t = toD (d.take k) ∧ f ≤ 268435456 ∧ t ≤ 268435456 ∧ (d.take k).all plB = true ∧ apL 7 d = apL (prM d k) (d.drop k) ∧ (k = 0 ∨ (d.getD (k - 1) opZ).k = 1 ∨ (d.getD (k - 1) opZ).k = 2 ∨ (d.getD (k - 1) opZ).k = 3)
end Go.Proofs.YtkdnanlgkedjgabDoor
end

section
namespace Go.Proofs.YtkdnanlgkedjgabDoor
open Go.ChangeShapes Go.WideShapes Go.ChangeAt Go.RowKit
attribute [local go_sem] Oper.semAt_some

theorem apL_kinds : ∀ (m : Int) (d : List Dop), apL m d = true → ∀ o ∈ d, o.k = 1 ∨ o.k = 2 ∨ o.k = 3
  | _, [], _, o, ho => by cases ho
  | m, x :: r, h, o, ho => by
    simp only [apL, Bool.and_eq_true] at h
    rcases List.mem_cons.1 ho with rfl | ho
    · rcases kind_cases o.k with h1 | h1 | h1 | ⟨_, _, _, _, _, _, h1⟩
      · exact .inl h1
      · exact .inr (.inl h1)
      · exact .inr (.inr h1)
      · rw [h1] at h; simp [apB] at h
    · exact apL_kinds _ r h.2 o ho
theorem valB_k {d : List Dop} (h : valB d = true) : ∀ o ∈ d, o.k = 1 ∨ o.k = 2 ∨ o.k = 3 := by
  unfold valB at h
  simp only [Bool.and_eq_true] at h
  exact apL_kinds 7 d h.2.1
/-- what a valid delta's operations are -/
theorem valB_op {d : List Dop} (h : valB d = true) {o : Dop} (ho : o ∈ d) : ((o.k = 1 ∨ o.k = 3) ∧ 1 ≤ o.n ∧ o.t = []) ∨ (o.k = 2 ∧ o.n = 0 ∧ o.t ≠ []) := by
  have hk := valB_k h o ho
  unfold valB at h
  simp only [Bool.and_eq_true] at h
  have hp := List.all_eq_true.1 h.1 o ho
  unfold plB at hp
  rcases hk with h1 | h1 | h1
  · simp [h1] at hp; exact .inl ⟨.inl h1, hp.2, hp.1⟩
  · simp [h1] at hp; exact .inr ⟨h1, hp.2, hp.1⟩
  · simp [h1] at hp; exact .inl ⟨.inr h1, hp.2, hp.1⟩
structure LeI (d : List Dop) (k f t : Nat) : Prop where
  ef : f = frD (d.take k)
  et : t = toD (d.take k)
  z : f ≤ 268435456 ∧ t ≤ 268435456
end Go.Proofs.YtkdnanlgkedjgabDoor
end

section
namespace Go.Proofs.YtkdnanlgkedjgabDoor
open Go.ChangeShapes Go.WideShapes Go.ChangeAt Go.RowKit
attribute [local go_sem] Oper.semAt_some

theorem make_u8D (w : World) (c : Nat) (hc : c ≤ 70368744177664) : ∃ w', (Instr.makeSlice 22 (.int .i64 0) (.int .i64 (c : Int))).run Tryd.prog w = .ok (.slice (some ⟨w.heap.size, 0, none⟩) 0 c) w' ∧ Own w' w.heap.size (.slice (some ⟨w.heap.size, 0, none⟩) 0 c) [] ∧ Below w.heap.size w w' := by
  obtain ⟨i, hi, hz, hs, hby⟩ := info_u8
  obtain ⟨w', h1, h2, h3⟩ := run_make_own (P := Tryd.prog) w w.heap.size 22 5 i (.int .u8 0) 1 Tryd.underlying22 hi hz hs .i64 .i64 c (by rw [hby]; omega) (by unfold maxLen; omega) (Nat.le_refl _)
  exact ⟨w', h1, h2, (Below.refl _ w).grown h3 (Nat.le_refl _) (fun k e => by cases e)⟩
set_option maxRecDepth 100000 in
theorem fldZ (a b : Value) (w : World) : (Instr.field 44 (.agg #[a, b]) 1).run Tryd.prog w = .ok b w := by kernel_rfl
attribute [local go_sem] fldZ
/-- what waits, and what is written, behind one operation more -/
def stW (s : List Int × List Int) (o : Dop) : List Int × List Int := if o.k = 1 then (s.1.drop o.n.toNat, s.2 ++ s.1.take o.n.toNat) else if o.k = 2 then (s.1, s.2 ++ o.t) else (s.1.drop o.n.toNat, s.2)
def runW (b : List Int) (d : List Dop) : List Int × List Int := d.foldl stW (b, [])
def apD (b : List Int) (d : List Dop) : List Int := (runW b d).2
theorem runW_take (b : List Int) (d : List Dop) {k : Nat} (hk : k < d.length) : runW b (d.take (k + 1)) = stW (runW b (d.take k)) (d.getD k opZ) := by
  unfold runW
  rw [List.take_add_one, List.getElem?_eq_getElem hk, Option.toList_some, List.foldl_append]
  simp [List.getD_eq_getElem?_getD, List.getElem?_eq_getElem hk]
/-- lengths, while the delta fits -/
theorem runW_len {b : List Int} {d : List Dop} (hv : valB d = true) (hf : frD d = b.length) : ∀ k, k ≤ d.length → (runW b (d.take k)).1.length + frD (d.take k) = b.length ∧ (runW b (d.take k)).2.length = toD (d.take k)
  | 0, _ => by simp [runW, frD, toD]
  | k + 1, hk => by
    have ih := runW_len hv hf k (by omega)
    have hx := valB_op hv (getD_memD (d := d) (k := k) (by omega))
    have e1 := frD_take d (k := k) (by omega)
    have e2 := toD_take d (k := k) (by omega)
    have e3 := (frD_le d (k + 1)).1
    rw [runW_take b d (by omega)]
    generalize runW b (d.take k) = s at *
    generalize d.getD k opZ = x at *
    obtain ⟨xk, xn, xt⟩ := x
    dsimp only at hx
    rcases hx with ⟨rfl | rfl, hn, rfl⟩ | ⟨rfl, rfl, hn⟩
    · simp [stW, frN, toN] at e1 e2 ⊢; omega
    · simp [stW, frN, toN] at e1 e2 ⊢; omega
    · simp [stW, frN, toN] at e1 e2 ⊢; omega
theorem ap_len {b : List Int} {d : List Dop} (hv : valB d = true) (hf : frD d = b.length) : (apD b d).length = toD d := by
  have := (runW_len hv hf d.length (Nat.le_refl _)).2
  rwa [List.take_length] at this
theorem each_w (a : Option Addr) (c g : Nat) (d : List Dop) (b : List Int) (w X : World) (hO : ∀ Y, Below w.heap.size w Y → IsO Y a d) (hX : IsW w X g b []) (hl : d.length ≤ 4611686018427387904) (hv : valB d = true) (hf : frD d = b.length) (hb : ∀ o ∈ d, TbD o) :
    Calls Tryd.prog 18 #[.slice a d.length c, .func (.func 19) #[.pointer (some ⟨g, 0, none⟩)] #[], .func (.func 20) #[.pointer (some ⟨g, 0, none⟩)] #[], .func (.func 21) #[.pointer (some ⟨g, 0, none⟩)] #[]] X
      fun y X' => y = .returned (.tuple #[]) ∧ IsW w X' g (runW b d).1 (apD b d) := by
  have hz := (valB_nn hv).2
  have := each_at a c w.heap.size d X 19 20 21 (.pointer (some ⟨g, 0, none⟩))
    (fun k Y => IsW w Y g (runW b (d.take k)).1 (runW b (d.take k)).2 ∧ Below w.heap.size X Y)
    (enters_of Tryd.func19 (by kernel_rfl) rfl) (enters_of Tryd.func20 (by kernel_rfl) rfl) (enters_of Tryd.func21 (by kernel_rfl) rfl)
    (fun Y hY => hO Y (hX.d.trans hY)) (fun k Y hY => hY.2) (fun k Y o hY => ⟨hY.1.on ((Below.refl _ _).alloc (Nat.le_refl _) o), hY.2.alloc (Nat.le_trans hX.d.size hY.2.size) o⟩) ⟨hX, Below.refl _ _⟩ hl
    (fun k Y hlt h1 hY => by
      have hx := valB_op hv (getD_memD hlt)
      have hlen := runW_len hv hf k (by omega)
      have e1 := frD_take d hlt
      have e2 := toD_take d hlt
      have e3 := frD_le d (k + 1)
      have htb := hb _ (getD_memD hlt)
      rw [runW_take b d hlt]
      generalize runW b (d.take k) = s at *
      generalize d.getD k opZ = x at *
      obtain ⟨xk, xn, xt⟩ := x
      dsimp only at hx h1
      subst h1
      rcases hx with ⟨_, hn, rfl⟩ | ⟨h2, _⟩
      · obtain ⟨m, rfl⟩ : ∃ m : Nat, xn = (m : Int) := ⟨xn.toNat, by omega⟩
        simp [frN, toN] at e1 e2
        refine (wkeep_at w Y g s.1 s.2 m hY.1 (by omega) (by omega)).mono fun y Z ⟨e, hZ, hW⟩ => ⟨e, ?_, hY.2.trans hW⟩
        simp only [stW, if_true, Int.toNat_natCast]
        exact hZ
      · omega)
    (fun k Y hlt h1 hY => by
      have hx := valB_op hv (getD_memD hlt)
      have hlen := runW_len hv hf k (by omega)
      have e1 := frD_take d hlt
      have e2 := toD_take d hlt
      have e3 := frD_le d (k + 1)
      have htb := hb _ (getD_memD hlt)
      rw [runW_take b d hlt]
      generalize runW b (d.take k) = s at *
      generalize d.getD k opZ = x at *
      obtain ⟨xk, xn, xt⟩ := x
      dsimp only at hx h1
      subst h1
      rcases hx with ⟨h2, _⟩ | ⟨_, hn, hne⟩
      · omega
      · simp [frN, toN] at e1 e2
        refine (wput_at w Y g s.1 s.2 xt hY.1 htb (by omega)).mono fun y Z ⟨e, hZ, hW⟩ => ⟨e, ?_, hY.2.trans hW⟩
        simp only [stW, show ¬ ((2 : Int) = 1) by decide, if_false, if_true]
        exact hZ)
    (fun k Y hlt h1 hY => by
      have hx := valB_op hv (getD_memD hlt)
      have hlen := runW_len hv hf k (by omega)
      have e1 := frD_take d hlt
      have e2 := toD_take d hlt
      have e3 := frD_le d (k + 1)
      have htb := hb _ (getD_memD hlt)
      rw [runW_take b d hlt]
      generalize runW b (d.take k) = s at *
      generalize d.getD k opZ = x at *
      obtain ⟨xk, xn, xt⟩ := x
      dsimp only at hx h1
      subst h1
      rcases hx with ⟨_, hn, rfl⟩ | ⟨h2, _⟩
      · obtain ⟨m, rfl⟩ : ∃ m : Nat, xn = (m : Int) := ⟨xn.toNat, by omega⟩
        simp [frN, toN] at e1 e2
        refine (wdrop_at w Y g s.1 s.2 m hY.1 (by omega)).mono fun y Z ⟨e, hZ, hW⟩ => ⟨e, ?_, hY.2.trans hW⟩
        simp only [stW, show ¬ ((3 : Int) = 1) by decide, show ¬ ((3 : Int) = 2) by decide, if_false, Int.toNat_natCast]
        exact hZ
      · omega)
    (fun k Y hlt h1 h2 h3 _ => by rcases valB_k hv _ (getD_memD hlt) with h | h | h <;> contradiction)
  rw [List.take_length] at this
  exact this.mono fun y Y ⟨e, hY, _⟩ => ⟨e, hY⟩
set_option maxRecDepth 100000 in
set_option maxHeartbeats 1000000 in
theorem Apply_at (a0 : Option Addr) (c0 : Nat) (b : List Int) (a : Option Addr) (c : Nat) (d : List Dop) (w : World) (hb : IsB w a0 c0 b) (h : IsO w a d) (hl : d.length ≤ 4611686018427387904) (ht : ∀ o ∈ d, TbD o) :
    Calls Tryd.prog 6 #[.slice a0 b.length c0, .slice a d.length c] w fun y w' => ∃ v, y = .returned (.tuple #[v, .int .i64 (fitE d b.length)]) ∧ Own w' w.heap.size v (if fitE d b.length = 0 then apD b d else []) ∧ Below w.heap.size w w' := by
  have HF := hide (fits_at a0 b.length c0 a c d w h hl)
  have HM := hide fun (X : World) (hx : Below w.heap.size w X) (hp : valB d = true) => measure_at a c d X (h.below hx (Nat.le_refl _)) hl (valB_nn hp).1
  rcases fit_cases d b.length with ⟨hv, he⟩ | ⟨hv, hf, he, t1, t2⟩ | ⟨hv, hf, he⟩
  · rw [he] at HF ⊢
    rw [if_neg (by decide)]
    clear he hv HM hb h hl ht
    go_enter Tryd.func6, Tryd.ntmps6
    go_wp2_with fail
    refine (unhide HF).mono ?_
    rintro y w1 ⟨rfl, x1⟩
    dsimp only
    clear HF
    go_wp2_with fail
    refine bodyPost_ret (results_tmp2 rfl _ _ _) rfl ⟨.slice none 0 0, rfl, World.ownsRow_nil _ _ _ _, x1⟩
  · rw [he] at HF ⊢
    rw [if_neg (by decide)]
    clear he hv HM hb h hl ht t1 t2 hf
    go_enter Tryd.func6, Tryd.ntmps6
    go_wp2_with fail
    refine (unhide HF).mono ?_
    rintro y w1 ⟨rfl, x1⟩
    dsimp only
    clear HF
    go_wp2_with fail
    refine bodyPost_ret (results_tmp2 rfl _ _ _) rfl ⟨.slice none 0 0, rfl, World.ownsRow_nil _ _ _ _, x1⟩
  · rw [he] at HF ⊢
    rw [if_pos rfl]
    have HM2 := hide fun (X : World) (hx : Below w.heap.size w X) => unhide HM X hx hv
    rw [show satD (toD d) = toD d by have := (valB_nn hv).2; unfold satD; omega] at HM2
    have hT : toD d ≤ 268435456 := (valB_nn hv).2.2
    have HF2 := hide hf
    clear he HM
    generalize satD (frD d) = F at *
    generalize toD d = T at *
    go_enter Tryd.func6, Tryd.ntmps6
    go_wp2_with fail
    refine (unhide HF).mono ?_
    rintro y w1 ⟨rfl, x1⟩
    dsimp only
    have HX1 := hide x1
    have HM3 := hide (unhide HM2 w1 x1)
    clear HF HM2 x1
    go_wp2_with fail
    refine (unhide HM3).mono ?_
    rintro y w2 ⟨rfl, x2⟩
    dsimp only
    clear HM3
    obtain ⟨w3, rm, o3, x3⟩ := make_u8D w2 T (by omega)
    have X2 := (unhide HX1).trans (x2.mono (unhide HX1).size)
    have HX3 := hide (X2.trans (x3.mono X2.size))
    have HO3 : Hid (Own w3 w.heap.size (.slice (some ⟨w2.heap.size, 0, none⟩) 0 T) []) := hide (own_lower o3 X2.size)
    clear HX1 x2 X2 o3 x3
    generalize hg2 : w2.heap.size = g2 at HO3 rm
    clear hg2
    have hW : IsW w (w3.alloc (.cells #[.slice a0 b.length c0, .slice (some ⟨g2, 0, none⟩) 0 T] 47)) w3.heap.size b [] :=
      ⟨⟨a0, c0, g2, T, Cls.new _ _ _, hb, World.ownsRow.alloc (unhide HO3) _⟩, (unhide HX3).alloc (unhide HX3).size _, (unhide HX3).size⟩
    have HE := hide (each_w a c w3.heap.size d b w _ (fun Y hY => h.below hY (Nat.le_refl _)) hW hl hv (unhide HF2) ht)
    clear hW h hb hl ht hv HX3 HO3 hf HF2
    go_upto_region 5 with fail
    clear rm
    generalize w3.alloc (.cells #[.slice a0 b.length c0, .slice (some ⟨g2, 0, none⟩) 0 T] 47) = w4 at *
    generalize w3.heap.size = g at *
    go_wp2_with fail
    refine (unhide HE).mono ?_
    rintro y w5 ⟨rfl, h5⟩
    dsimp only
    obtain ⟨a5, c5, g5, d5, k1, k2, k3⟩ := h5.c
    have e1 : w5.cell? ⟨g, 1, none⟩ = some (.slice (some ⟨g5, 0, none⟩) (apD b d).length d5) := k1.cell 1
    have HOw := hide k3
    have HXX := hide h5.d
    clear HE k1 k2 k3 h5
    go_wp2_with fail
    refine bodyPost_ret (results_tmp2 rfl _ _ _) rfl ⟨_, rfl, unhide HOw, unhide HXX⟩

end Go.Proofs.YtkdnanlgkedjgabDoor
end

section
namespace Go.Proofs.YtkdnanlgkedjgabDoor
open Go.ChangeShapes Go.WideShapes Go.ChangeAt Go.RowKit
attribute [local go_sem] Oper.semAt_some

/-- the change that stands here: the last one if it ends here, else a new one -/
def herL (m : Nat) (cs : List Dop) : List Dop := if cs.getLast?.map Dop.n = some (m : Int) then cs else cs ++ [⟨m, m, []⟩]
def upL (f : Dop → Dop) (l : List Dop) : List Dop := l.dropLast ++ (l.getLast?.map f).toList
theorem upL_snoc (f : Dop → Dop) (e : List Dop) (x : Dop) : upL f (e ++ [x]) = e ++ [f x] := by simp [upL]
def stL (s : Nat × List Dop) (o : Dop) : Nat × List Dop := if o.k = 1 then (s.1 + o.n.toNat, s.2) else if o.k = 2 then (s.1, upL (fun x => ⟨x.k, x.n, o.t⟩) (herL s.1 s.2)) else (s.1 + o.n.toNat, upL (fun x => ⟨x.k, x.n + o.n.toNat, x.t⟩) (herL s.1 s.2))
def runL (d : List Dop) : Nat × List Dop := d.foldl stL (0, [])
theorem runL_take (d : List Dop) {k : Nat} (hk : k < d.length) : runL (d.take (k + 1)) = stL (runL (d.take k)) (d.getD k opZ) := by
  unfold runL
  rw [List.take_add_one, List.foldl_append]
  simp [List.getElem?_eq_getElem hk, List.getD]
set_option maxRecDepth 100000 in
theorem info_ch : ∃ i, Tryd.prog.info? 57 = some i ∧ i.zero = some (.agg #[.int .i64 0, .int .i64 0, .string ⟨#[]⟩]) ∧ i.size = 3 ∧ i.bytes = 32 := by
  refine ⟨_, rfl, ?_, ?_, ?_⟩ <;> rfl
/-- one more change -/
theorem push_ch (W : World) (B n : Nat) (v : Value) (xs : List Value) (a b : Int) (s : ByteArray) (ty : TypeId) (h : W.ownsRow B 57 3 v n xs) (hn : n ≤ 1099511627776) (hB : B ≤ W.heap.size) :
    ∃ g k W', (Builtin.append_ #[53, 53] ty #[v, .slice (some ⟨W.heap.size, 0, none⟩) 1 1]).run Tryd.prog (W.alloc (.cells #[.int .i64 a, .int .i64 b, .string s] 57)) = .ok (.slice (some ⟨g, 0, none⟩) (n + 1) k) W' ∧
      W'.ownsRow B 57 3 (.slice (some ⟨g, 0, none⟩) (n + 1) k) (n + 1) (xs ++ [.int .i64 a, .int .i64 b, .string s]) ∧ W.grownBy W' v.ownBlock ∧ Below B W W' := by
  obtain ⟨i, hi, hz, hs, hby⟩ := info_ch
  have hr := World.ownsRow.alloc h (.cells #[.int .i64 a, .int .i64 b, .string s] 57)
  obtain ⟨c0, c1, c2⟩ := three_nwD W (.int .i64 a) (.int .i64 b) (.string s) (t := 57)
  obtain ⟨g, k, W', hrun, ho, hg, _, _⟩ := run_append_lies (P := Tryd.prog) (W.alloc (.cells #[.int .i64 a, .int .i64 b, .string s] 57)) 53 ty B 57 i (.agg #[.int .i64 0, .int .i64 0, .string ⟨#[]⟩]) 3 32 Tryd.underlying53 hi hz hs hby rfl (by decide)
    v n xs hr ⟨W.heap.size, 0, none⟩ 1 1 [.int .i64 a, .int .i64 b, .string s] rfl
    (fun j u hj => by
      match j with
      | 0 => simp at hj; subst hj; rw [Addr.add_lit]; exact c0
      | 1 => simp at hj; subst hj; rw [Addr.add_lit]; exact c1
      | 2 => simp at hj; subst hj; rw [Addr.add_lit]; exact c2
      | j + 3 => simp at hj)
    (fun u hu => by simp at hu; rcases hu with rfl | rfl | rfl <;> rfl) (by decide) (by unfold maxLen; omega) (by omega) (by simp; omega) _ rfl
  have ha := World.grownBy_alloc W (.cells #[.int .i64 a, .int .i64 b, .string s] 57) none
  refine ⟨g, k, W', hrun, ho, ⟨hg.os.trans ha.os, hg.tape.trans ha.tape, hg.output.trans ha.output, Nat.le_trans ha.size hg.size, fun k hk hne => ?_⟩, ((Below.refl B W).alloc hB _).grown hg (by simp; omega) (fun k hk => (hr.lt k hk).1)⟩
  exact (hg.block k (Nat.lt_of_lt_of_le hk ha.size) hne).trans (ha.block k hk (by simp))
/-- the lister: its place, its changes (in a row of the call's own) -/
structure IsLv (B : Nat) (w X : World) (g m : Nat) (v : Value) (cs : List Dop) : Prop where
  a : Cls X g 74 #[.int .i64 (m : Int), v]
  r : X.ownsRow B 57 3 v cs.length (opsV cs)
  d : Below B w X
  z : B ≤ g
  b : B ≤ w.heap.size
theorem IsLv.on {B : Nat} {w X Y : World} {g m : Nat} {v : Value} {cs : List Dop} (h : IsLv B w X g m v cs) (hb : Below X.heap.size X Y) : IsLv B w Y g m v cs :=
  ⟨h.a.below hb h.a.lt, rowD_below h.r hb (Nat.le_refl _), h.d.trans (hb.mono (Nat.le_trans h.b h.d.size)), h.z, h.b⟩
theorem IsLv.ne {B : Nat} {w X : World} {g m : Nat} {v : Value} {cs : List Dop} (h : IsLv B w X g m v cs) {G : Nat} (hG : v.ownBlock = some G) : g ≠ G := by
  obtain ⟨_, cur, hc⟩ := rowD_block h.r hG
  exact typeD_ne h.a hc (by decide)
/-- a cell of the changes is written -/
theorem IsLv.put {B : Nat} {w X : World} {g m G c : Nat} {cs cs' : List Dop} (h : IsLv B w X g m (.slice (some ⟨G, 0, none⟩) cs.length c) cs) (j : Nat) (u : Value) (he : (opsV cs).set j u = opsV cs') (hl : cs'.length = cs.length) : IsLv B w (X.setCell ⟨G, j, none⟩ u) g m (.slice (some ⟨G, 0, none⟩) cs'.length c) cs' := by
  have hne := h.ne (G := G) rfl
  have hr := rowD_set h.r j u
  have hB := (rowD_block h.r (G := G) rfl).1
  rw [he] at hr
  refine ⟨?_, by rw [hl]; exact hr, h.d.setCell (p := ⟨G, j, none⟩) hB u, h.z, h.b⟩
  rw [hl]
  exact h.a.other ⟨G, j, none⟩ u hne
theorem IsLv.goes {B : Nat} {w X : World} {g m : Nat} {v : Value} {cs : List Dop} (h : IsLv B w X g m v cs) (m' : Nat) : IsLv B w (X.setCell ⟨g, 0, none⟩ (.int .i64 (m' : Int))) g m' v cs := by
  refine ⟨h.a.set 0 (.int .i64 (m' : Int)), rowD_on h.r fun G hG => ?_, h.d.setCell (p := ⟨g, 0, none⟩) h.z _, h.z, h.b⟩
  exact Below.heap_setCell X ⟨g, 0, none⟩ _ G (fun e => h.ne hG e.symm)
theorem ls_push {B : Nat} {w X : World} {g m : Nat} {v : Value} {cs : List Dop} (h : IsLv B w X g m v cs) (hn : cs.length ≤ 1073741824) :
    ∃ G k W2, (Builtin.append_ #[53, 53] 53 #[v, .slice (some ⟨X.heap.size, 0, none⟩) 1 1]).run Tryd.prog (X.alloc (.cells #[.int .i64 (m : Int), .int .i64 (m : Int), .string ⟨#[]⟩] 57)) = .ok (.slice (some ⟨G, 0, none⟩) (cs.length + 1) k) W2 ∧
      Cls (X.alloc (.cells #[.int .i64 (m : Int), .int .i64 (m : Int), .string ⟨#[]⟩] 57)) g 74 #[.int .i64 (m : Int), v] ∧ Cls W2 g 74 #[.int .i64 (m : Int), v] ∧
      IsLv B w (W2.setCell ⟨g, 1, none⟩ (.slice (some ⟨G, 0, none⟩) (cs.length + 1) k)) g m (.slice (some ⟨G, 0, none⟩) (cs.length + 1) k) (cs ++ [⟨m, m, []⟩]) ∧ Below B X (W2.setCell ⟨g, 1, none⟩ (.slice (some ⟨G, 0, none⟩) (cs.length + 1) k)) := by
  obtain ⟨G, k, W2, r2, o2, gr2, b2⟩ := push_ch X B cs.length v (opsV cs) (m : Int) (m : Int) ⟨#[]⟩ 53 h.r (by omega) (Nat.le_trans h.b h.d.size)
  have ba : Below X.heap.size X (X.alloc (.cells #[.int .i64 (m : Int), .int .i64 (m : Int), .string ⟨#[]⟩] 57)) := (Below.refl _ _).alloc (Nat.le_refl _) _
  have hgb : W2.heap[g]? = X.heap[g]? := gr2.block g h.a.lt (fun e => h.ne e.symm rfl)
  have k1 : Cls W2 g 74 #[.int .i64 (m : Int), v] := h.a.same hgb
  have he : opsV cs ++ [.int .i64 (m : Int), .int .i64 (m : Int), .string ⟨#[]⟩] = opsV (cs ++ [⟨m, m, []⟩]) := by rw [opsV_app, opsV_one]; rfl
  rw [he] at o2
  refine ⟨G, k, W2, r2, h.a.below ba h.a.lt, k1, ⟨k1.set 1 _, ?_, (h.d.trans b2).setCell (p := ⟨g, 1, none⟩) h.z _, h.z, h.b⟩, b2.setCell (p := ⟨g, 1, none⟩) h.z _⟩
  have hne : g ≠ G := by
    obtain ⟨_, cur, hc⟩ := rowD_block o2 (G := G) rfl
    exact typeD_ne k1 hc (by decide)
  have o3 : W2.ownsRow B 57 3 (.slice (some ⟨G, 0, none⟩) (cs.length + 1) k) (cs ++ [(⟨m, m, []⟩ : Dop)]).length (opsV (cs ++ [⟨m, m, []⟩])) := by
    rw [show (cs ++ [(⟨m, m, []⟩ : Dop)]).length = cs.length + 1 by simp]; exact o2
  refine rowD_on o3 fun G' hG => ?_
  obtain rfl : G = G' := by simpa [Value.ownBlock] using hG
  exact Below.heap_setCell W2 ⟨g, 1, none⟩ _ G (fun e => hne e.symm)
/-- keep -/
theorem lkeep_at (B : Nat) (w X : World) (g m n : Nat) (v : Value) (cs : List Dop) (h : IsLv B w X g m v cs) (hn : m + n ≤ 4611686018427387904) :
    Calls Tryd.prog 36 #[.pointer (some ⟨g, 0, none⟩), .int .i64 (n : Int)] X fun y X' => y = .returned (.tuple #[]) ∧ IsLv B w X' g (m + n) v cs := by
  have HR := hide (h.goes (m + n))
  have c0 : X.cell? ⟨g, 0, none⟩ = some (.int .i64 (m : Int)) := h.a.cell 0
  have f0 := h.a.frozen 0
  have e1 : wrap64 ((m : Int) + (n : Int)) = ((m + n : Nat) : Int) := by rw [wrapD _ (by omega) (by omega)]; omega
  clear h
  generalize m + n = M at *
  go_enter Tryd.func36, Tryd.ntmps36
  go_wp2_with fail
  exact bodyPost_end (v := .tuple #[]) (results_none Tryd.results36 _ _ _) rfl ⟨rfl, unhide HR⟩
theorem her_cases (m : Nat) (cs : List Dop) : (cs = [] ∧ herL m cs = [⟨m, m, []⟩]) ∨ (∃ e x, cs = e ++ [x] ∧ ¬ x.n = (m : Int) ∧ herL m cs = cs ++ [⟨m, m, []⟩]) ∨ (∃ e x, cs = e ++ [x] ∧ x.n = (m : Int) ∧ herL m cs = cs) := by
  by_cases hc : cs = []
  · subst hc; exact .inl ⟨rfl, rfl⟩
  · obtain ⟨e, x, rfl⟩ := list_snoc hc
    by_cases hx : x.n = (m : Int)
    · exact .inr (.inr ⟨e, x, rfl, hx, by simp [herL, hx]⟩)
    · exact .inr (.inl ⟨e, x, rfl, hx, by simp [herL, hx]⟩)
set_option maxRecDepth 100000 in
set_option maxHeartbeats 1000000 in
theorem here_at (B : Nat) (w X : World) (g m : Nat) (v : Value) (cs : List Dop) (h : IsLv B w X g m v cs) (hn : cs.length ≤ 1073741820) :
    Calls Tryd.prog 55 #[.pointer (some ⟨g, 0, none⟩)] X fun y X' => ∃ G c e x, herL m cs = e ++ [x] ∧ x.n = (m : Int) ∧ y = .returned (.pointer (some ⟨G, e.length * 3, none⟩)) ∧ IsLv B w X' g m (.slice (some ⟨G, 0, none⟩) (e.length + 1) c) (e ++ [x]) := by
  have HD := hide fun (n : Nat) => h.on (Y := X.drewN n) (below_drewN (Below.refl _ _) n)
  have HQ : Hid (∀ e x, herL m cs = e ++ [x] → e.length ≤ 1073741824) := hide fun e x hH => by
    have := congrArg List.length hH
    unfold herL at this
    split at this <;> simp at this <;> omega
  obtain ⟨av, cv, rfl, hcv⟩ := rowD_form h.r
  have c0 : X.cell? ⟨g, 0, none⟩ = some (.int .i64 (m : Int)) := h.a.cell 0
  obtain ⟨N, hN⟩ : ∃ N, N = cs.length := ⟨_, rfl⟩
  have c1 : X.cell? ⟨g, 1, none⟩ = some (.slice av N cv) := by rw [hN]; exact h.a.cell 1
  rcases her_cases m cs with ⟨hcs, hH⟩ | ⟨e, x, hcs, hx, hH⟩ | ⟨e, x, hcs, hx, hH⟩
  · have t1 : ((N : Int) == 0) = true := by rw [hN, hcs]; rfl
    have HH : Hid (herL m cs = cs ++ [⟨m, m, []⟩]) := hide (by rw [hH, hcs]; rfl)
    rw [← hN] at HD
    clear h hcv hcs hH hN
    go_enter Tryd.func55, Tryd.ntmps55
    go_upto_region 2 with fail
    go_quiet (fail)
    have HI1 := hide (unhide HD nq)
    clear HD
    generalize X.drewN nq = wc at *
    clear c0 c1
    go_upto_if 26 with fail
    go_cut [0] (fun v wz => v = .pointer (some ⟨g, 0, none⟩) ∧ Hid (∃ G c e x, herL m cs = e ++ [x] ∧ x.n = (m : Int) ∧ IsLv B w wz g m (.slice (some ⟨G, 0, none⟩) (e.length + 1) c) (e ++ [x])))
    case first =>
      obtain ⟨G, k, W2, r2, kA, k1, hI2, b2⟩ := ls_push ((unhide HI1).on (Y := wc.drew) (Below.refl _ _).drew) (by omega)
      have k0 := ((unhide HI1).on (Y := wc.drew) (Below.refl _ _).drew).a
      have R2 := hide r2
      have HR : Hid (∃ G' c e x, herL m cs = e ++ [x] ∧ x.n = (m : Int) ∧ IsLv B w (W2.setCell ⟨g, 1, none⟩ (.slice (some ⟨G, 0, none⟩) (cs.length + 1) k)) g m (.slice (some ⟨G', 0, none⟩) (e.length + 1) c) (e ++ [x])) :=
        hide ⟨G, k, cs, ⟨m, m, []⟩, unhide HH, rfl, hI2⟩
      have HS0 : Hid (wc.drew.cell? ⟨g, 0, none⟩ = some (.int .i64 (m : Int)) ∧ wc.drew.cell? ⟨g, 1, none⟩ = some (.slice av N cv)) := hide ⟨k0.cell 0, k0.cell 1⟩
      have HSA : Hid ((wc.drew.alloc (.cells #[.int .i64 (m : Int), .int .i64 (m : Int), .string ⟨#[]⟩] 57)).cell? ⟨g, 0, none⟩ = some (.int .i64 (m : Int)) ∧ (wc.drew.alloc (.cells #[.int .i64 (m : Int), .int .i64 (m : Int), .string ⟨#[]⟩] 57)).cell? ⟨g, 1, none⟩ = some (.slice av N cv)) := hide ⟨kA.cell 0, kA.cell 1⟩
      have HS2 : Hid (W2.cell? ⟨g, 0, none⟩ = some (.int .i64 (m : Int)) ∧ W2.cell? ⟨g, 1, none⟩ = some (.slice av N cv)) := hide ⟨k1.cell 0, k1.cell 1⟩
      have e0 : W2.cell? ⟨g, 1, none⟩ = some (.slice av N cv) := k1.cell 1
      have f0 := k1.frozen 1
      clear HI1 hn r2 kA k1 hI2 b2 k0 HH HQ
      generalize cs.length + 1 = M2 at *
      go_upto_region 3 with fail
      refine regionL (S := fun w' => w'.cell? ⟨g, 0, none⟩ = some (.int .i64 (m : Int)) ∧ w'.cell? ⟨g, 1, none⟩ = some (.slice av N cv)) (fun i => i == 18) (by kernel_rfl) ?_
      refine anyL_take (i := 0) (v := ?vpa10) rfl (by kernel_rfl) (by kernel_rfl) (by kernel_rfl) (by kernel_rfl) (fun _ _ _ h => h) (Or.inl ⟨by rfl, ?hpa10⟩) (unhide HS0) ?_
      case hpa10 => (intro w hSw; (try dsimp only at hSw); go_simp) <;> with_reducible rfl
      simp only [Act.put, List.getElem_toArray, List.getElem_cons_zero, List.setIfInBounds_toArray, List.set_cons_zero, List.set_cons_succ]
      refine anyL_take (i := 1) (v := ?vpa11) rfl (by kernel_rfl) (by kernel_rfl) (by kernel_rfl) (by kernel_rfl) (fun _ _ _ h => h) (Or.inl ⟨by rfl, ?hpa11⟩) (unhide HS0) ?_
      case hpa11 => (intro w hSw; (try dsimp only at hSw); go_simp) <;> with_reducible rfl
      simp only [Act.put, List.getElem_toArray, List.getElem_cons_zero, List.getElem_cons_succ, List.setIfInBounds_toArray, List.set_cons_zero, List.set_cons_succ]
      refine anyL_take (i := 2) (v := ?vpa12) rfl (by kernel_rfl) (by kernel_rfl) (by kernel_rfl) (by kernel_rfl) (fun _ _ _ h => h) (Or.inl ⟨by rfl, ?hpa12⟩) (unhide HS0) ?_
      case hpa12 => (intro w hSw; (try dsimp only at hSw); go_simp) <;> with_reducible rfl
      simp only [Act.put, List.getElem_toArray, List.getElem_cons_zero, List.getElem_cons_succ, List.setIfInBounds_toArray, List.set_cons_zero, List.set_cons_succ]
      refine anyL_take (i := 3) (v := ?vpa13) rfl (by kernel_rfl) (by kernel_rfl) (by kernel_rfl) (by kernel_rfl) (fun _ _ _ h => h) (Or.inl ⟨by rfl, ?hpa13⟩) (unhide HS0) ?_
      case hpa13 => (intro w hSw; (try dsimp only at hSw); go_simp) <;> with_reducible rfl
      simp only [Act.put, List.getElem_toArray, List.getElem_cons_zero, List.getElem_cons_succ, List.setIfInBounds_toArray, List.set_cons_zero, List.set_cons_succ]
      refine anyL_take (i := 4) (v := ?vpa14) rfl (by kernel_rfl) (by kernel_rfl) (by kernel_rfl) (by kernel_rfl) (fun _ _ _ h => h) (Or.inl ⟨by rfl, ?hpa14⟩) (unhide HS0) ?_
      case hpa14 => (intro w hSw; (try dsimp only at hSw); go_simp) <;> with_reducible rfl
      simp only [Act.put, List.getElem_toArray, List.getElem_cons_zero, List.getElem_cons_succ, List.setIfInBounds_toArray, List.set_cons_zero, List.set_cons_succ]
      refine anyL_take (i := 5) (v := ?vpa15) rfl (by kernel_rfl) (by kernel_rfl) (by kernel_rfl) (by kernel_rfl) (fun _ _ _ h => h) (Or.inl ⟨by rfl, ?hpa15⟩) (unhide HS0) ?_
      case hpa15 => (intro w hSw; (try dsimp only at hSw); go_simp) <;> with_reducible rfl
      simp only [Act.put, List.getElem_toArray, List.getElem_cons_zero, List.getElem_cons_succ, List.setIfInBounds_toArray, List.set_cons_zero, List.set_cons_succ]
      refine anyL_take (i := 6) (v := ?vpa16) rfl (by kernel_rfl) (by kernel_rfl) (by kernel_rfl) (by kernel_rfl) (fun _ _ _ h => h) (Or.inl ⟨by rfl, ?hpa16⟩) (unhide HS0) ?_
      case hpa16 => (intro w hSw; (try dsimp only at hSw); go_simp) <;> with_reducible rfl
      simp only [Act.put, List.getElem_toArray, List.getElem_cons_zero, List.getElem_cons_succ, List.setIfInBounds_toArray, List.set_cons_zero, List.set_cons_succ]
      refine anyL_take (i := 7) (v := ?vpa17) rfl (by kernel_rfl) (by kernel_rfl) (by kernel_rfl) (by kernel_rfl) (fun _ _ _ h => h) (Or.inl ⟨by rfl, ?hpa17⟩) (unhide HS0) ?_
      case hpa17 => (intro w hSw; (try dsimp only at hSw); go_simp) <;> with_reducible rfl
      simp only [Act.put, List.getElem_toArray, List.getElem_cons_zero, List.getElem_cons_succ, List.setIfInBounds_toArray, List.set_cons_zero, List.set_cons_succ]
      refine anyL_take (i := 8) (v := ?vpa18) rfl (by kernel_rfl) (by kernel_rfl) (by kernel_rfl) (by kernel_rfl) (fun _ _ _ h => h) (Or.inl ⟨by rfl, ?hpa18⟩) (unhide HS0) ?_
      case hpa18 => (intro w hSw; (try dsimp only at hSw); go_simp) <;> with_reducible rfl
      simp only [Act.put, List.getElem_toArray, List.getElem_cons_zero, List.getElem_cons_succ, List.setIfInBounds_toArray, List.set_cons_zero, List.set_cons_succ]
      refine anyL_take (i := 9) (v := ?vpa19) rfl (by kernel_rfl) (by kernel_rfl) (by kernel_rfl) (by kernel_rfl) (fun _ _ _ h => h) (Or.inl ⟨by rfl, ?hpa19⟩) (unhide HS0) ?_
      case hpa19 => (intro w hSw; (try dsimp only at hSw); go_simp) <;> with_reducible rfl
      simp only [Act.put, List.getElem_toArray, List.getElem_cons_zero, List.getElem_cons_succ, List.setIfInBounds_toArray, List.set_cons_zero, List.set_cons_succ]
      refine anyL_take (i := 10) (v := ?vpa110) rfl (by kernel_rfl) (by kernel_rfl) (by kernel_rfl) (by kernel_rfl) (fun _ _ _ h => h) (Or.inl ⟨by rfl, ?hpa110⟩) (unhide HS0) ?_
      case hpa110 => (intro w hSw; (try dsimp only at hSw); go_simp) <;> with_reducible rfl
      simp only [Act.put, List.getElem_toArray, List.getElem_cons_zero, List.getElem_cons_succ, List.setIfInBounds_toArray, List.set_cons_zero, List.set_cons_succ]
      refine anyL_take (i := 11) (v := ?vpa111) rfl (by kernel_rfl) (by kernel_rfl) (by kernel_rfl) (by kernel_rfl) (fun _ _ _ h => h) (Or.inl ⟨by rfl, ?hpa111⟩) (unhide HS0) ?_
      case hpa111 => (intro w hSw; (try dsimp only at hSw); go_simp) <;> with_reducible rfl
      simp only [Act.put, List.getElem_toArray, List.getElem_cons_zero, List.getElem_cons_succ, List.setIfInBounds_toArray, List.set_cons_zero, List.set_cons_succ]
      refine anyL_take (i := 12) (v := ?vpa112) rfl (by kernel_rfl) (by kernel_rfl) (by kernel_rfl) (by kernel_rfl) (fun _ _ _ h => h) (Or.inl ⟨by rfl, ?hpa112⟩) (unhide HS0) ?_
      case hpa112 => (intro w hSw; (try dsimp only at hSw); go_simp) <;> with_reducible rfl
      simp only [Act.put, List.getElem_toArray, List.getElem_cons_zero, List.getElem_cons_succ, List.setIfInBounds_toArray, List.set_cons_zero, List.set_cons_succ]
      refine anyL_take (i := 13) (v := ?vpa113) rfl (by kernel_rfl) (by kernel_rfl) (by kernel_rfl) (by kernel_rfl) (fun _ _ _ h => h) (Or.inl ⟨by rfl, ?hpa113⟩) (unhide HS0) ?_
      case hpa113 => (intro w hSw; (try dsimp only at hSw); go_simp) <;> with_reducible rfl
      simp only [Act.put, List.getElem_toArray, List.getElem_cons_zero, List.getElem_cons_succ, List.setIfInBounds_toArray, List.set_cons_zero, List.set_cons_succ]
      refine anyL_ready (rs := [14]) (by kernel_rfl) (by simp) ?_
      refine AllL.cons rfl (fun K hK => ?_) AllL.nil
      go_simp
      refine unhide hK _ _ (fun _ => unhide HSA) ?_
      clear hK K
      refine anyL_ready (rs := [15]) (by kernel_rfl) (by simp) ?_
      refine AllL.cons rfl (fun K hK => ?_) AllL.nil
      refine step_append_in rfl _ _ 53 53 rfl _ _ rfl rfl _ _ (unhide R2) ?_
      go_simp
      clear R2
      refine unhide hK _ _ (fun _ => unhide HS2) ?_
      clear hK K
      refine anyL_take (i := 16) (v := ?vpa114) rfl (by kernel_rfl) (by kernel_rfl) (by kernel_rfl) (by kernel_rfl) (fun _ _ _ h => h) (Or.inl ⟨by rfl, ?hpa114⟩) (unhide HS2) ?_
      case hpa114 => (intro w hSw; (try dsimp only at hSw); go_simp) <;> with_reducible rfl
      simp only [Act.put, List.getElem_toArray, List.getElem_cons_zero, List.getElem_cons_succ, List.setIfInBounds_toArray, List.set_cons_zero, List.set_cons_succ]
      refine anyL_take (i := 17) (v := ?vpa115) rfl (by kernel_rfl) (by kernel_rfl) (by kernel_rfl) (by kernel_rfl) (fun _ _ _ h => h) (Or.inl ⟨by rfl, ?hpa115⟩) (unhide HS2) ?_
      case hpa115 => (intro w hSw; (try dsimp only at hSw); go_simp) <;> with_reducible rfl
      simp only [Act.put, List.getElem_toArray, List.getElem_cons_zero, List.getElem_cons_succ, List.setIfInBounds_toArray, List.set_cons_zero, List.set_cons_succ]
      refine anyL_ready (rs := [18]) (by kernel_rfl) (by simp) ?_
      refine AllL.cons rfl (fun K hK => ?_) AllL.nil
      go_simp
      refine unhide hK _ _ (fun h => by cases h) ?_
      clear hK K
      refine anyL_done (by kernel_rfl) ?_ _
      go_wp2_with fail
      go_meet
      case rel => exact ⟨rfl, HR⟩
    case rest =>
      obtain ⟨rfl, HR⟩ := hcut
      clear HI1
      obtain ⟨G, c, e, x, hH, hx, hi⟩ := unhide HR
      have c1 : wc.cell? ⟨g, 1, none⟩ = some (.slice (some ⟨G, 0, none⟩) (e.length + 1) c) := hi.a.cell 1
      have hq : e.length ≤ 1073741824 := unhide HQ e x hH
      have HF := hide fun (n : Nat) => (⟨G, c, e, x, hH, hx, rfl, hi.on (Y := wc.drewN n) (below_drewN (Below.refl _ _) n)⟩ : ∃ G' c' e' x', herL m cs = e' ++ [x'] ∧ x'.n = (m : Int) ∧ (.returned (.pointer (some ⟨G, e.length * 3, none⟩)) : Ending) = .returned (.pointer (some ⟨G', e'.length * 3, none⟩)) ∧ IsLv B w (wc.drewN n) g m (.slice (some ⟨G', 0, none⟩) (e'.length + 1) c') (e' ++ [x']))
      obtain ⟨e1, e2, e3, t9, t9', hlt⟩ := last_arith hq
      have hcc : e.length + 1 ≤ c := by obtain ⟨_, _, he, hc⟩ := rowD_form hi.r; simp at he; obtain ⟨_, rfl⟩ := he; simpa using hc
      clear HR hi hH hx hq HQ
      generalize e.length = q at *
      generalize hQ1 : q + 1 = Q1 at *
      have hq1 : q < Q1 := by omega
      clear hQ1
      go_upto_region 4 with fail
      go_quiet (fail)
      go_wp2_with fail
      refine bodyPost_ret (results_tmp rfl _ _ _) rfl ?_
      exact unhide HF _
  · obtain ⟨l0, l1, l2⟩ := opsV_last e x
    have hr := h.r
    have hle : N = e.length + 1 := by rw [hN, hcs]; simp
    have t1 : ((N : Int) == 0) = false := by rw [hle]; simp; omega
    have hlt' : e.length < N := by omega
    obtain ⟨G0, c, he, hG⟩ := rowD_some hr (by omega)
    simp only [Value.slice.injEq] at he
    obtain ⟨rfl, -, -⟩ := he
    rw [hcs] at hr
    obtain ⟨m1, z1⟩ := rowD_cell (n := (e ++ [x]).length) hr l1
    obtain ⟨e1, e2, e3, t9, t9', hlt⟩ := last_arith (m := e.length) (by omega)
    have HH := hide hH
    rw [← hle] at e1 hlt
    have t2 : (x.n != (m : Int)) = true := by simpa using hx
    rw [← hN] at HD
    clear h hr l0 l1 l2 z1 hcs hH hx t9 t9' e2 hcv hle hN
    obtain ⟨xk, xn, xt⟩ := x
    dsimp only at *
    generalize e.length = q at *
    go_enter Tryd.func55, Tryd.ntmps55
    go_upto_region 2 with fail
    go_quiet (fail)
    clear e1 e3 hlt hlt' t1 t2 m1 c1 hG
    generalize (some (⟨G0, 0, none⟩ : Addr)) = av at *
    have HI1 := hide (unhide HD nq)
    clear HD
    generalize X.drewN nq = wc at *
    clear c0
    go_upto_if 26 with fail
    go_cut [0] (fun v wz => v = .pointer (some ⟨g, 0, none⟩) ∧ Hid (∃ G c e x, herL m cs = e ++ [x] ∧ x.n = (m : Int) ∧ IsLv B w wz g m (.slice (some ⟨G, 0, none⟩) (e.length + 1) c) (e ++ [x])))
    case first =>
      obtain ⟨G, k, W2, r2, kA, k1, hI2, b2⟩ := ls_push ((unhide HI1).on (Y := wc.drew) (Below.refl _ _).drew) (by omega)
      have k0 := ((unhide HI1).on (Y := wc.drew) (Below.refl _ _).drew).a
      have R2 := hide r2
      have HR : Hid (∃ G' c e x, herL m cs = e ++ [x] ∧ x.n = (m : Int) ∧ IsLv B w (W2.setCell ⟨g, 1, none⟩ (.slice (some ⟨G, 0, none⟩) (cs.length + 1) k)) g m (.slice (some ⟨G', 0, none⟩) (e.length + 1) c) (e ++ [x])) :=
        hide ⟨G, k, cs, ⟨m, m, []⟩, unhide HH, rfl, hI2⟩
      have HS0 : Hid (wc.drew.cell? ⟨g, 0, none⟩ = some (.int .i64 (m : Int)) ∧ wc.drew.cell? ⟨g, 1, none⟩ = some (.slice av N cv)) := hide ⟨k0.cell 0, k0.cell 1⟩
      have HSA : Hid ((wc.drew.alloc (.cells #[.int .i64 (m : Int), .int .i64 (m : Int), .string ⟨#[]⟩] 57)).cell? ⟨g, 0, none⟩ = some (.int .i64 (m : Int)) ∧ (wc.drew.alloc (.cells #[.int .i64 (m : Int), .int .i64 (m : Int), .string ⟨#[]⟩] 57)).cell? ⟨g, 1, none⟩ = some (.slice av N cv)) := hide ⟨kA.cell 0, kA.cell 1⟩
      have HS2 : Hid (W2.cell? ⟨g, 0, none⟩ = some (.int .i64 (m : Int)) ∧ W2.cell? ⟨g, 1, none⟩ = some (.slice av N cv)) := hide ⟨k1.cell 0, k1.cell 1⟩
      have e0 : W2.cell? ⟨g, 1, none⟩ = some (.slice av N cv) := k1.cell 1
      have f0 := k1.frozen 1
      clear HI1 hn r2 kA k1 hI2 b2 k0 HH HQ
      generalize cs.length + 1 = M2 at *
      go_upto_region 3 with fail
      refine regionL (S := fun w' => w'.cell? ⟨g, 0, none⟩ = some (.int .i64 (m : Int)) ∧ w'.cell? ⟨g, 1, none⟩ = some (.slice av N cv)) (fun i => i == 18) (by kernel_rfl) ?_
      refine anyL_take (i := 0) (v := ?vpa216) rfl (by kernel_rfl) (by kernel_rfl) (by kernel_rfl) (by kernel_rfl) (fun _ _ _ h => h) (Or.inl ⟨by rfl, ?hpa216⟩) (unhide HS0) ?_
      case hpa216 => (intro w hSw; (try dsimp only at hSw); go_simp) <;> with_reducible rfl
      simp only [Act.put, List.getElem_toArray, List.getElem_cons_zero, List.setIfInBounds_toArray, List.set_cons_zero, List.set_cons_succ]
      refine anyL_take (i := 1) (v := ?vpa217) rfl (by kernel_rfl) (by kernel_rfl) (by kernel_rfl) (by kernel_rfl) (fun _ _ _ h => h) (Or.inl ⟨by rfl, ?hpa217⟩) (unhide HS0) ?_
      case hpa217 => (intro w hSw; (try dsimp only at hSw); go_simp) <;> with_reducible rfl
      simp only [Act.put, List.getElem_toArray, List.getElem_cons_zero, List.getElem_cons_succ, List.setIfInBounds_toArray, List.set_cons_zero, List.set_cons_succ]
      refine anyL_take (i := 2) (v := ?vpa218) rfl (by kernel_rfl) (by kernel_rfl) (by kernel_rfl) (by kernel_rfl) (fun _ _ _ h => h) (Or.inl ⟨by rfl, ?hpa218⟩) (unhide HS0) ?_
      case hpa218 => (intro w hSw; (try dsimp only at hSw); go_simp) <;> with_reducible rfl
      simp only [Act.put, List.getElem_toArray, List.getElem_cons_zero, List.getElem_cons_succ, List.setIfInBounds_toArray, List.set_cons_zero, List.set_cons_succ]
      refine anyL_take (i := 3) (v := ?vpa219) rfl (by kernel_rfl) (by kernel_rfl) (by kernel_rfl) (by kernel_rfl) (fun _ _ _ h => h) (Or.inl ⟨by rfl, ?hpa219⟩) (unhide HS0) ?_
      case hpa219 => (intro w hSw; (try dsimp only at hSw); go_simp) <;> with_reducible rfl
      simp only [Act.put, List.getElem_toArray, List.getElem_cons_zero, List.getElem_cons_succ, List.setIfInBounds_toArray, List.set_cons_zero, List.set_cons_succ]
      refine anyL_take (i := 4) (v := ?vpa220) rfl (by kernel_rfl) (by kernel_rfl) (by kernel_rfl) (by kernel_rfl) (fun _ _ _ h => h) (Or.inl ⟨by rfl, ?hpa220⟩) (unhide HS0) ?_
      case hpa220 => (intro w hSw; (try dsimp only at hSw); go_simp) <;> with_reducible rfl
      simp only [Act.put, List.getElem_toArray, List.getElem_cons_zero, List.getElem_cons_succ, List.setIfInBounds_toArray, List.set_cons_zero, List.set_cons_succ]
      refine anyL_take (i := 5) (v := ?vpa221) rfl (by kernel_rfl) (by kernel_rfl) (by kernel_rfl) (by kernel_rfl) (fun _ _ _ h => h) (Or.inl ⟨by rfl, ?hpa221⟩) (unhide HS0) ?_
      case hpa221 => (intro w hSw; (try dsimp only at hSw); go_simp) <;> with_reducible rfl
      simp only [Act.put, List.getElem_toArray, List.getElem_cons_zero, List.getElem_cons_succ, List.setIfInBounds_toArray, List.set_cons_zero, List.set_cons_succ]
      refine anyL_take (i := 6) (v := ?vpa222) rfl (by kernel_rfl) (by kernel_rfl) (by kernel_rfl) (by kernel_rfl) (fun _ _ _ h => h) (Or.inl ⟨by rfl, ?hpa222⟩) (unhide HS0) ?_
      case hpa222 => (intro w hSw; (try dsimp only at hSw); go_simp) <;> with_reducible rfl
      simp only [Act.put, List.getElem_toArray, List.getElem_cons_zero, List.getElem_cons_succ, List.setIfInBounds_toArray, List.set_cons_zero, List.set_cons_succ]
      refine anyL_take (i := 7) (v := ?vpa223) rfl (by kernel_rfl) (by kernel_rfl) (by kernel_rfl) (by kernel_rfl) (fun _ _ _ h => h) (Or.inl ⟨by rfl, ?hpa223⟩) (unhide HS0) ?_
      case hpa223 => (intro w hSw; (try dsimp only at hSw); go_simp) <;> with_reducible rfl
      simp only [Act.put, List.getElem_toArray, List.getElem_cons_zero, List.getElem_cons_succ, List.setIfInBounds_toArray, List.set_cons_zero, List.set_cons_succ]
      refine anyL_take (i := 8) (v := ?vpa224) rfl (by kernel_rfl) (by kernel_rfl) (by kernel_rfl) (by kernel_rfl) (fun _ _ _ h => h) (Or.inl ⟨by rfl, ?hpa224⟩) (unhide HS0) ?_
      case hpa224 => (intro w hSw; (try dsimp only at hSw); go_simp) <;> with_reducible rfl
      simp only [Act.put, List.getElem_toArray, List.getElem_cons_zero, List.getElem_cons_succ, List.setIfInBounds_toArray, List.set_cons_zero, List.set_cons_succ]
      refine anyL_take (i := 9) (v := ?vpa225) rfl (by kernel_rfl) (by kernel_rfl) (by kernel_rfl) (by kernel_rfl) (fun _ _ _ h => h) (Or.inl ⟨by rfl, ?hpa225⟩) (unhide HS0) ?_
      case hpa225 => (intro w hSw; (try dsimp only at hSw); go_simp) <;> with_reducible rfl
      simp only [Act.put, List.getElem_toArray, List.getElem_cons_zero, List.getElem_cons_succ, List.setIfInBounds_toArray, List.set_cons_zero, List.set_cons_succ]
      refine anyL_take (i := 10) (v := ?vpa226) rfl (by kernel_rfl) (by kernel_rfl) (by kernel_rfl) (by kernel_rfl) (fun _ _ _ h => h) (Or.inl ⟨by rfl, ?hpa226⟩) (unhide HS0) ?_
      case hpa226 => (intro w hSw; (try dsimp only at hSw); go_simp) <;> with_reducible rfl
      simp only [Act.put, List.getElem_toArray, List.getElem_cons_zero, List.getElem_cons_succ, List.setIfInBounds_toArray, List.set_cons_zero, List.set_cons_succ]
      refine anyL_take (i := 11) (v := ?vpa227) rfl (by kernel_rfl) (by kernel_rfl) (by kernel_rfl) (by kernel_rfl) (fun _ _ _ h => h) (Or.inl ⟨by rfl, ?hpa227⟩) (unhide HS0) ?_
      case hpa227 => (intro w hSw; (try dsimp only at hSw); go_simp) <;> with_reducible rfl
      simp only [Act.put, List.getElem_toArray, List.getElem_cons_zero, List.getElem_cons_succ, List.setIfInBounds_toArray, List.set_cons_zero, List.set_cons_succ]
      refine anyL_take (i := 12) (v := ?vpa228) rfl (by kernel_rfl) (by kernel_rfl) (by kernel_rfl) (by kernel_rfl) (fun _ _ _ h => h) (Or.inl ⟨by rfl, ?hpa228⟩) (unhide HS0) ?_
      case hpa228 => (intro w hSw; (try dsimp only at hSw); go_simp) <;> with_reducible rfl
      simp only [Act.put, List.getElem_toArray, List.getElem_cons_zero, List.getElem_cons_succ, List.setIfInBounds_toArray, List.set_cons_zero, List.set_cons_succ]
      refine anyL_take (i := 13) (v := ?vpa229) rfl (by kernel_rfl) (by kernel_rfl) (by kernel_rfl) (by kernel_rfl) (fun _ _ _ h => h) (Or.inl ⟨by rfl, ?hpa229⟩) (unhide HS0) ?_
      case hpa229 => (intro w hSw; (try dsimp only at hSw); go_simp) <;> with_reducible rfl
      simp only [Act.put, List.getElem_toArray, List.getElem_cons_zero, List.getElem_cons_succ, List.setIfInBounds_toArray, List.set_cons_zero, List.set_cons_succ]
      refine anyL_ready (rs := [14]) (by kernel_rfl) (by simp) ?_
      refine AllL.cons rfl (fun K hK => ?_) AllL.nil
      go_simp
      refine unhide hK _ _ (fun _ => unhide HSA) ?_
      clear hK K
      refine anyL_ready (rs := [15]) (by kernel_rfl) (by simp) ?_
      refine AllL.cons rfl (fun K hK => ?_) AllL.nil
      refine step_append_in rfl _ _ 53 53 rfl _ _ rfl rfl _ _ (unhide R2) ?_
      go_simp
      clear R2
      refine unhide hK _ _ (fun _ => unhide HS2) ?_
      clear hK K
      refine anyL_take (i := 16) (v := ?vpa230) rfl (by kernel_rfl) (by kernel_rfl) (by kernel_rfl) (by kernel_rfl) (fun _ _ _ h => h) (Or.inl ⟨by rfl, ?hpa230⟩) (unhide HS2) ?_
      case hpa230 => (intro w hSw; (try dsimp only at hSw); go_simp) <;> with_reducible rfl
      simp only [Act.put, List.getElem_toArray, List.getElem_cons_zero, List.getElem_cons_succ, List.setIfInBounds_toArray, List.set_cons_zero, List.set_cons_succ]
      refine anyL_take (i := 17) (v := ?vpa231) rfl (by kernel_rfl) (by kernel_rfl) (by kernel_rfl) (by kernel_rfl) (fun _ _ _ h => h) (Or.inl ⟨by rfl, ?hpa231⟩) (unhide HS2) ?_
      case hpa231 => (intro w hSw; (try dsimp only at hSw); go_simp) <;> with_reducible rfl
      simp only [Act.put, List.getElem_toArray, List.getElem_cons_zero, List.getElem_cons_succ, List.setIfInBounds_toArray, List.set_cons_zero, List.set_cons_succ]
      refine anyL_ready (rs := [18]) (by kernel_rfl) (by simp) ?_
      refine AllL.cons rfl (fun K hK => ?_) AllL.nil
      go_simp
      refine unhide hK _ _ (fun h => by cases h) ?_
      clear hK K
      refine anyL_done (by kernel_rfl) ?_ _
      go_wp2_with fail
      go_meet
      case rel => exact ⟨rfl, HR⟩
    case rest =>
      obtain ⟨rfl, HR⟩ := hcut
      clear HI1
      obtain ⟨G, c, e, x, hH, hx, hi⟩ := unhide HR
      have c1 : wc.cell? ⟨g, 1, none⟩ = some (.slice (some ⟨G, 0, none⟩) (e.length + 1) c) := hi.a.cell 1
      have hq : e.length ≤ 1073741824 := unhide HQ e x hH
      have HF := hide fun (n : Nat) => (⟨G, c, e, x, hH, hx, rfl, hi.on (Y := wc.drewN n) (below_drewN (Below.refl _ _) n)⟩ : ∃ G' c' e' x', herL m cs = e' ++ [x'] ∧ x'.n = (m : Int) ∧ (.returned (.pointer (some ⟨G, e.length * 3, none⟩)) : Ending) = .returned (.pointer (some ⟨G', e'.length * 3, none⟩)) ∧ IsLv B w (wc.drewN n) g m (.slice (some ⟨G', 0, none⟩) (e'.length + 1) c') (e' ++ [x']))
      obtain ⟨e1, e2, e3, t9, t9', hlt⟩ := last_arith hq
      have hcc : e.length + 1 ≤ c := by obtain ⟨_, _, he, hc⟩ := rowD_form hi.r; simp at he; obtain ⟨_, rfl⟩ := he; simpa using hc
      clear HR hi hH hx hq HQ
      generalize e.length = q at *
      generalize hQ1 : q + 1 = Q1 at *
      have hq1 : q < Q1 := by omega
      clear hQ1
      go_upto_region 4 with fail
      go_quiet (fail)
      go_wp2_with fail
      refine bodyPost_ret (results_tmp rfl _ _ _) rfl ?_
      exact unhide HF _
  · obtain ⟨l0, l1, l2⟩ := opsV_last e x
    have hr := h.r
    have hle : N = e.length + 1 := by rw [hN, hcs]; simp
    have t1 : ((N : Int) == 0) = false := by rw [hle]; simp; omega
    have hlt' : e.length < N := by omega
    obtain ⟨G, c, he, hG⟩ := rowD_some hr (by omega)
    simp only [Value.slice.injEq] at he
    obtain ⟨rfl, -, -⟩ := he
    rw [hcs] at hr
    obtain ⟨m1, z1⟩ := rowD_cell (n := (e ++ [x]).length) hr l1
    obtain ⟨e1, e2, e3, t9, t9', hlt⟩ := last_arith (m := e.length) (by omega)
    have hi : IsLv B w X g m (.slice (some ⟨G, 0, none⟩) (e.length + 1) cv) (e ++ [x]) := by
      rw [← hN, hle, hcs] at h
      exact h
    have HY : Hid (∀ n, ∃ G c e x, herL m cs = e ++ [x] ∧ x.n = (m : Int) ∧ IsLv B w (X.drewN n) g m (.slice (some ⟨G, 0, none⟩) (e.length + 1) c) (e ++ [x])) := hide fun n => ⟨G, cv, e, x, hH.trans hcs, hx, hi.on (below_drewN (Below.refl _ _) n)⟩
    clear hi
    rw [← hle] at e1 hlt
    have t2 : (x.n != (m : Int)) = false := by simpa using hx
    rw [← hN] at HD
    clear h hr l0 l1 l2 z1 hcs hH hx t9 t9' e2 hcv hle hN
    generalize x.n = xn at *
    generalize e.length = q at *
    go_enter Tryd.func55, Tryd.ntmps55
    go_upto_region 2 with fail
    go_quiet (fail)
    clear e1 e3 hlt hlt' t1 t2 m1
    have HR : Hid (∃ G c e x, herL m cs = e ++ [x] ∧ x.n = (m : Int) ∧ IsLv B w (X.drewN nq) g m (.slice (some ⟨G, 0, none⟩) (e.length + 1) c) (e ++ [x])) := hide (unhide HY nq)
    clear HY
    have HI1 := hide (unhide HD nq)
    clear HD
    generalize X.drewN nq = wc at *
    clear c0 c1
    go_upto_if 26 with fail
    go_cut [0] (fun v wz => v = .pointer (some ⟨g, 0, none⟩) ∧ Hid (∃ G c e x, herL m cs = e ++ [x] ∧ x.n = (m : Int) ∧ IsLv B w wz g m (.slice (some ⟨G, 0, none⟩) (e.length + 1) c) (e ++ [x])))
    case first =>
      go_wp2_with fail
      go_meet
      case rel => exact ⟨rfl, HR⟩
    case rest =>
      obtain ⟨rfl, HR⟩ := hcut
      clear HI1
      obtain ⟨G, c, e, x, hH, hx, hi⟩ := unhide HR
      have c1 : wc.cell? ⟨g, 1, none⟩ = some (.slice (some ⟨G, 0, none⟩) (e.length + 1) c) := hi.a.cell 1
      have hq : e.length ≤ 1073741824 := unhide HQ e x hH
      have HF := hide fun (n : Nat) => (⟨G, c, e, x, hH, hx, rfl, hi.on (Y := wc.drewN n) (below_drewN (Below.refl _ _) n)⟩ : ∃ G' c' e' x', herL m cs = e' ++ [x'] ∧ x'.n = (m : Int) ∧ (.returned (.pointer (some ⟨G, e.length * 3, none⟩)) : Ending) = .returned (.pointer (some ⟨G', e'.length * 3, none⟩)) ∧ IsLv B w (wc.drewN n) g m (.slice (some ⟨G', 0, none⟩) (e'.length + 1) c') (e' ++ [x']))
      obtain ⟨e1, e2, e3, t9, t9', hlt⟩ := last_arith hq
      have hcc : e.length + 1 ≤ c := by obtain ⟨_, _, he, hc⟩ := rowD_form hi.r; simp at he; obtain ⟨_, rfl⟩ := he; simpa using hc
      clear HR hi hH hx hq HQ
      generalize e.length = q at *
      generalize hQ1 : q + 1 = Q1 at *
      have hq1 : q < Q1 := by omega
      clear hQ1
      go_upto_region 4 with fail
      go_quiet (fail)
      go_wp2_with fail
      refine bodyPost_ret (results_tmp rfl _ _ _) rfl ?_
      exact unhide HF _

set_option maxRecDepth 100000 in
theorem lput_at (B : Nat) (w X : World) (g m : Nat) (v : Value) (cs : List Dop) (t : List Int) (h : IsLv B w X g m v cs) (hn : cs.length ≤ 1073741820) :
    Calls Tryd.prog 37 #[.pointer (some ⟨g, 0, none⟩), .string (strOfNums t)] X fun y X' => y = .returned (.tuple #[]) ∧ ∃ v', IsLv B w X' g m v' (upL (fun x => ⟨x.k, x.n, t⟩) (herL m cs)) := by
  have HH := hide (here_at B w X g m v cs h hn)
  clear h
  go_enter Tryd.func37, Tryd.ntmps37
  go_wp2_with fail
  refine (unhide HH).mono ?_
  rintro y Y ⟨G, c, e, x, hH, hx, rfl, hi⟩
  dsimp only
  clear HH
  have HEQ : Hid (upL (fun x => ⟨x.k, x.n, t⟩) (herL m cs) = e ++ [(⟨x.k, x.n, t⟩ : Dop)]) := hide (by rw [hH, upL_snoc])
  obtain ⟨l0, l1, l2⟩ := opsV_last e x
  have hi' : IsLv B w Y g m (.slice (some ⟨G, 0, none⟩) (e ++ [x]).length c) (e ++ [x]) := by simpa using hi
  obtain ⟨m1, z1⟩ := rowD_cell (n := (e ++ [x]).length) hi'.r l2
  have HR := hide (hi'.put (e.length * 3 + 2) (.string (strOfNums t)) (opsV_set2 e x t) (by simp))
  clear hi hi' l0 l1 l2 hH hx
  generalize (e ++ [(⟨x.k, x.n, t⟩ : Dop)]).length = L at *
  generalize e ++ [(⟨x.k, x.n, t⟩ : Dop)] = E at *
  generalize e.length * 3 = q at *
  generalize strOfNums t = st at *
  go_wp2_with fail
  exact bodyPost_end (v := .tuple #[]) (results_none Tryd.results37 _ _ _) rfl ⟨rfl, _, by rw [unhide HEQ]; exact unhide HR⟩
set_option maxRecDepth 100000 in
theorem ldrop_at (B : Nat) (w X : World) (g m n : Nat) (v : Value) (cs : List Dop) (h : IsLv B w X g m v cs) (hn : cs.length ≤ 1073741820) (hm : m + n ≤ 4611686018427387904) :
    Calls Tryd.prog 38 #[.pointer (some ⟨g, 0, none⟩), .int .i64 (n : Int)] X fun y X' => y = .returned (.tuple #[]) ∧ ∃ v', IsLv B w X' g (m + n) v' (upL (fun x => ⟨x.k, x.n + n, x.t⟩) (herL m cs)) := by
  have HH := hide (here_at B w X g m v cs h hn)
  have e1 : wrap64 ((m : Int) + (n : Int)) = ((m + n : Nat) : Int) := by rw [wrapD _ (by omega) (by omega)]; omega
  have HM : Hid ((m : Int) + (n : Int) = ((m + n : Nat) : Int)) := hide (by omega)
  clear h hm
  generalize m + n = M at *
  go_enter Tryd.func38, Tryd.ntmps38
  go_wp2_with fail
  refine (unhide HH).mono ?_
  rintro y Y ⟨G, c, e, x, hH, hx, rfl, hi⟩
  dsimp only
  clear HH
  have HEQ : Hid (upL (fun x => ⟨x.k, x.n + n, x.t⟩) (herL m cs) = e ++ [(⟨x.k, (M : Int), x.t⟩ : Dop)]) := hide (by rw [hH, upL_snoc, hx, unhide HM])
  obtain ⟨l0, l1, l2⟩ := opsV_last e x
  have hi' : IsLv B w Y g m (.slice (some ⟨G, 0, none⟩) (e ++ [x]).length c) (e ++ [x]) := by simpa using hi
  obtain ⟨m1, z1⟩ := rowD_cell (n := (e ++ [x]).length) hi'.r l1
  rw [hx] at m1
  have hR := hi'.put (e.length * 3 + 1) (.int .i64 (M : Int)) (opsV_set1 e x (M : Int)) (by simp)
  have HR := hide (hR.goes M)
  have c0 : (Y.setCell ⟨G, e.length * 3 + 1, none⟩ (.int .i64 (M : Int))).cell? ⟨g, 0, none⟩ = some (.int .i64 (m : Int)) := hR.a.cell 0
  have f0 := hR.a.frozen 0
  clear hi hi' l0 l1 l2 hH hx hR HM
  generalize (e ++ [(⟨x.k, (M : Int), x.t⟩ : Dop)]).length = L at *
  generalize e ++ [(⟨x.k, (M : Int), x.t⟩ : Dop)] = E at *
  generalize e.length * 3 = q at *
  go_upto_region 1 with fail
  clear m1 z1
  generalize Y.setCell ⟨G, q + 1, none⟩ (.int .i64 (M : Int)) = Z at *
  go_wp2_with fail
  exact bodyPost_end (v := .tuple #[]) (results_none Tryd.results38 _ _ _) rfl ⟨rfl, _, by rw [unhide HEQ]; exact unhide HR⟩

end Go.Proofs.YtkdnanlgkedjgabDoor
end
