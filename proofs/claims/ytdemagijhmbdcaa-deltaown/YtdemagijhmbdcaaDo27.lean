/- Layer 13: fits; the writer. · Layer 13: Apply. -/
import Derived.Test.YtdemagijhmbdcaaDo20
import Derived.Lib.AppendStr
import Derived.Test.YtdemagijhmbdcaaDo15
import Derived.Test.YtdemagijhmbdcaaDo22

section
namespace Go.Proofs.Ytdemagijhmbdcaa
open Go.ChangeShapes Go.WideShapes Go.ChangeAt Go.RowKit
attribute [local go_sem] Oper.semAt_some

/-- what fits says -/
def fitE (d : List Dop) (n : Nat) : Int := if valB d then (if frD d = n then 0 else 131) else 130
theorem fit_cases (d : List Dop) (n : Nat) : (valB d = false ∧ fitE d n = 130) ∨ (valB d = true ∧ frD d ≠ n ∧ fitE d n = 131 ∧ ((frD d : Int) != (n : Int)) = true ∧ (frD d == n) = false) ∨ (valB d = true ∧ frD d = n ∧ fitE d n = 0) := by
  unfold fitE
  cases valB d with
  | false => exact .inl ⟨rfl, by simp⟩
  | true =>
    by_cases h : frD d = n
    · exact .inr (.inr ⟨rfl, h, by simp [h]⟩)
    · exact .inr (.inl ⟨rfl, h, by simp [h], by simp; omega, by simpa using h⟩)
set_option maxRecDepth 100000 in
set_option maxHeartbeats 1000000 in
theorem fits_at (a0 : Option Addr) (n c0 : Nat) (a : Option Addr) (c : Nat) (d : List Dop) (w : World) (h : IsO w a d) (hl : d.length ≤ 4611686018427387904) :
    Calls Try.prog 24 #[.slice a0 n c0, .slice a d.length c] w fun y w' => y = .returned (.int .i64 (fitE d n)) ∧ Below w.heap.size w w' := by
  have HL := hide (Lens_at a c d w h hl)
  clear h hl
  rcases fit_cases d n with ⟨hv, he⟩ | ⟨hv, hf, he, t1, t2⟩ | ⟨hv, hf, he⟩
  · unfold lensV at HL
    rw [hv] at HL
    simp only [Bool.false_eq_true, if_false] at HL
    rw [he]
    clear he hv
    go_enter Try.func24, Try.ntmps24
    go_wp2_with fail
    refine (unhide HL).mono ?_
    rintro y w1 ⟨rfl, x1⟩
    dsimp only
    clear HL
    go_wp2_with fail
    refine bodyPost_ret (results_tmp rfl _ _ _) rfl ⟨rfl, x1⟩
  · unfold lensV at HL
    rw [hv] at HL
    simp only [if_true] at HL
    rw [he]
    clear he hv
    generalize frD d = F at *
    generalize toD d = T at *
    go_enter Try.func24, Try.ntmps24
    go_wp2_with fail
    refine (unhide HL).mono ?_
    rintro y w1 ⟨rfl, x1⟩
    dsimp only
    clear HL
    go_wp2_with fail
    refine bodyPost_ret (results_tmp rfl _ _ _) rfl ⟨rfl, x1⟩
  · unfold lensV at HL
    rw [hv] at HL
    simp only [if_true] at HL
    rw [he]
    clear he hv
    rw [hf] at HL
    clear hf
    generalize toD d = T at *
    go_enter Try.func24, Try.ntmps24
    go_wp2_with fail
    refine (unhide HL).mono ?_
    rintro y w1 ⟨rfl, x1⟩
    dsimp only
    clear HL
    go_wp2_with fail
    refine bodyPost_ret (results_tmp rfl _ _ _) rfl ⟨rfl, x1⟩

theorem IsB.takeD {w : World} {a0 : Option Addr} {cap : Nat} {l : List Int} {n : Nat} (h : IsB w a0 cap l) : IsB w a0 cap (l.take n) := by
  obtain ⟨h1, h2, h3, h4⟩ := h
  refine ⟨by simp; omega, by simp; omega, ?_, fun x hx => h4 x (List.mem_of_mem_take hx)⟩
  rcases h3 with h3 | ⟨g', off', rfl, hL⟩
  · exact Or.inl (by rw [h3]; simp)
  · exact Or.inr ⟨g', off', rfl, hL.take n⟩
theorem IsB.loD {w : World} {a : Option Addr} {cap : Nat} {l : List Int} {n : Nat} (h : IsB w a cap l) : IsB w (if cap = n then a else a.map (·.add n)) (cap - n) (l.drop n) := by
  obtain ⟨h1, h2, h3, h4⟩ := h
  refine ⟨by simp; omega, by simp; omega, ?_, fun x hx => h4 x (List.mem_of_mem_drop hx)⟩
  rcases Nat.lt_or_ge n l.length with hlt | hge
  · rcases h3 with h3 | ⟨g', off', rfl, hL⟩
    · rw [h3] at hlt; simp at hlt
    · rw [if_neg (by omega)]
      exact Or.inr ⟨g', off' + n, by simp [Addr.add_lit], hL.drop n⟩
  · exact Or.inl (by simp; omega)
theorem strCells_nums {t : List Int} (ht : ∀ x ∈ t, 0 ≤ x ∧ x ≤ 255) : Lib.strCells (strOfNums t) = t.map (Value.int .u8) := by
  unfold Lib.strCells strOfNums
  simp only [List.map_map]
  refine List.map_congr_left fun x hx => ?_
  have := ht x hx
  simp
  omega
/-- append(v, s...) where v is the call's own -/
theorem run_more_str (w : World) (B g c : Nat) (l t : List Int) (ty : TypeId) (h : Own w B (.slice (some ⟨g, 0, none⟩) l.length c) l) (ht : ∀ x ∈ t, 0 ≤ x ∧ x ≤ 255) (hB : B ≤ w.heap.size) (hn : l.length + t.length ≤ 140737488355328) :
    ∃ g' c' w', (Builtin.append_ #[22, 9] ty #[.slice (some ⟨g, 0, none⟩) l.length c, .string (strOfNums t)]).run Try.prog w = .ok (.slice (some ⟨g', 0, none⟩) (l ++ t).length c') w' ∧
      Own w' B (.slice (some ⟨g', 0, none⟩) (l ++ t).length c') (l ++ t) ∧ w.grownBy w' (some g) ∧ Below B w w' := by
  obtain ⟨i, hi, hz, hs, hby⟩ := info_u8
  have hsz := strOfNums_size t
  obtain ⟨v', w', hr, ho, hg, hiff⟩ := Lib.run_append_own_string (P := Try.prog) w B 22 9 ty 5 i Try.underlying22 Try.underlying9 hi hz hs hby _ l.length _ h (strOfNums t) (by unfold maxLen; omega) (by omega) hB
  rw [hsz, strCells_nums ht] at ho
  have hown : Own w' B v' (l ++ t) := by unfold Own; simpa using ho
  rcases hown.2 with ⟨hv, _⟩ | ⟨g', c', cur, rfl, _⟩
  · have := hiff.1 hv
    cases this.1
  · exact ⟨g', c', w', hr, hown, hg, (Below.refl B w).grown hg hB (fun k e => by cases e; exact (World.ownsRow.lt h g rfl).1)⟩
/-- the writer -/
structure IsW (w X : World) (g : Nat) (l m : List Int) : Prop where
  c : ∃ a c g' c', Cls X g 64 #[.slice a l.length c, .slice (some ⟨g', 0, none⟩) m.length c'] ∧ IsB w a c l ∧ Own X w.heap.size (.slice (some ⟨g', 0, none⟩) m.length c') m
  d : Below w.heap.size w X
  z : w.heap.size ≤ g
theorem IsW.on {w X Y : World} {g : Nat} {l m : List Int} (h : IsW w X g l m) (hb : Below X.heap.size X Y) : IsW w Y g l m := by
  obtain ⟨a, c, g', c', h1, h2, h3⟩ := h.c
  exact ⟨⟨a, c, g', c', h1.below hb h1.lt, h2, rowD_below h3 hb (Nat.le_refl _)⟩, h.d.trans (hb.mono h.d.size), h.z⟩
theorem own_ne {X : World} {B g g' n c' : Nat} {m : List Int} {cs : Array Value} (h1 : Cls X g 64 cs) (h3 : Own X B (.slice (some ⟨g', 0, none⟩) n c') m) : g ≠ g' := by
  obtain ⟨_, cur, hc⟩ := rowD_block h3 (G := g') rfl
  exact typeD_ne h1 hc (by decide)
/-- what waits is shortened -/
theorem IsW.rest {w X : World} {g : Nat} {l m : List Int} {a : Option Addr} {c g' c' : Nat} (h : IsW w X g l m) (h1 : Cls X g 64 #[.slice a l.length c, .slice (some ⟨g', 0, none⟩) m.length c']) (h2 : IsB w a c l) (h3 : Own X w.heap.size (.slice (some ⟨g', 0, none⟩) m.length c') m) (n : Nat) :
    IsW w (X.setCell ⟨g, 0, none⟩ (.slice (if c = n then a else a.map (·.add n)) (l.length - n) (c - n))) g (l.drop n) m :=
  ⟨⟨_, c - n, g', c', by have := h1.set 0 (.slice (if c = n then a else a.map (·.add n)) (l.length - n) (c - n)); rw [List.length_drop]; exact this, h2.loD, rowD_on h3 fun G hG => Below.heap_setCell _ _ _ _ (fun e => own_ne h1 h3 (by cases hG; exact e.symm))⟩, h.d.setCell (p := ⟨g, 0, none⟩) h.z _, h.z⟩
/-- what is written grows -/
theorem IsW.more {w X Y : World} {g : Nat} {l m m' : List Int} {a : Option Addr} {c g' c' g2 c2 : Nat} (h : IsW w X g l m) (h1 : Cls X g 64 #[.slice a l.length c, .slice (some ⟨g', 0, none⟩) m.length c']) (h2 : IsB w a c l) (h3 : Own X w.heap.size (.slice (some ⟨g', 0, none⟩) m.length c') m)
    (hg : X.grownBy Y (some g')) (h4 : Own Y w.heap.size (.slice (some ⟨g2, 0, none⟩) m'.length c2) m') (hb : Below w.heap.size X Y) : Cls Y g 64 #[.slice a l.length c, .slice (some ⟨g', 0, none⟩) m.length c'] ∧ Cls (Y.setCell ⟨g, 1, none⟩ (.slice (some ⟨g2, 0, none⟩) m'.length c2)) g 64 #[.slice a l.length c, .slice (some ⟨g2, 0, none⟩) m'.length c2] ∧
      Own (Y.setCell ⟨g, 1, none⟩ (.slice (some ⟨g2, 0, none⟩) m'.length c2)) w.heap.size (.slice (some ⟨g2, 0, none⟩) m'.length c2) m' ∧ IsW w (Y.setCell ⟨g, 1, none⟩ (.slice (some ⟨g2, 0, none⟩) m'.length c2)) g l m' := by
  have h1' : Cls Y g 64 #[.slice a l.length c, .slice (some ⟨g', 0, none⟩) m.length c'] := h1.same (hg.block g h1.lt (fun e => own_ne h1 h3 (by cases e; rfl)))
  have h4' : Own (Y.setCell ⟨g, 1, none⟩ (.slice (some ⟨g2, 0, none⟩) m'.length c2)) w.heap.size (.slice (some ⟨g2, 0, none⟩) m'.length c2) m' := rowD_on h4 fun G hG => Below.heap_setCell _ _ _ _ (fun e => own_ne h1' h4 (by cases hG; exact e.symm))
  exact ⟨h1', h1'.set 1 _, h4', ⟨a, c, g2, c2, h1'.set 1 _, h2, h4'⟩, (h.d.trans hb).setCell (p := ⟨g, 1, none⟩) h.z _, h.z⟩
set_option maxRecDepth 100000 in
theorem wdrop_at (w X : World) (g : Nat) (l m : List Int) (n : Nat) (h : IsW w X g l m) (hn : n ≤ l.length) :
    Calls Try.prog 29 #[.pointer (some ⟨g, 0, none⟩), .int .i64 (n : Int)] X fun y X' => y = .returned (.tuple #[]) ∧ IsW w X' g (l.drop n) m ∧ Below w.heap.size X X' := by
  obtain ⟨a, c, g', c', h1, h2, h3⟩ := h.c
  have c0 := h1.cell 0
  have f0 := h1.frozen 0
  simp only [List.getElem?_toArray, List.getElem?_cons_zero] at c0
  have HR := hide (h.rest h1 h2 h3 n)
  have HBB : Hid (Below w.heap.size X (X.setCell ⟨g, 0, none⟩ (.slice (if c = n then a else a.map (·.add n)) (l.length - n) (c - n)))) := hide ((Below.refl _ _).setCell (p := ⟨g, 0, none⟩) h.z _)
  have hc := h2.1
  have hll := h2.2.1
  clear h h1 h2 h3
  generalize l.length = L at *
  by_cases hcn : c = n
  · subst hcn
    obtain rfl : L = c := by omega
    rw [if_pos rfl, Nat.sub_self] at HR HBB
    go_enter Try.func29, Try.ntmps29
    go_wp2_with fail
    exact bodyPost_end (v := .tuple #[]) (results_none Try.results29 _ _ _) rfl ⟨rfl, unhide HR, unhide HBB⟩
  · rw [if_neg hcn] at HR HBB
    go_enter Try.func29, Try.ntmps29
    go_wp2_with fail
    exact bodyPost_end (v := .tuple #[]) (results_none Try.results29 _ _ _) rfl ⟨rfl, unhide HR, unhide HBB⟩
set_option maxRecDepth 100000 in
theorem wput_at (w X : World) (g : Nat) (l m t : List Int) (h : IsW w X g l m) (ht : ∀ x ∈ t, 0 ≤ x ∧ x ≤ 255) (hn : m.length + t.length ≤ 140737488355328) :
    Calls Try.prog 28 #[.pointer (some ⟨g, 0, none⟩), .string (strOfNums t)] X fun y X' => y = .returned (.tuple #[]) ∧ IsW w X' g l (m ++ t) ∧ Below w.heap.size X X' := by
  obtain ⟨a, c, g', c', h1, h2, h3⟩ := h.c
  have c0 := h1.cell 1
  simp only [List.getElem?_toArray, List.getElem?_cons_zero, List.getElem?_cons_succ] at c0
  obtain ⟨g2, c2, Y, r2, o2, gr2, b2⟩ := run_more_str X w.heap.size g' c' m t 22 h3 ht h.d.size hn
  obtain ⟨k1, _, _, hR⟩ := h.more h1 h2 h3 gr2 o2 b2
  have e0 := k1.cell 1
  have f0 := k1.frozen 1
  simp only [List.getElem?_toArray, List.getElem?_cons_zero, List.getElem?_cons_succ] at e0
  have HR := hide hR
  have HBB := hide (b2.setCell (p := ⟨g, 1, none⟩) h.z (.slice (some ⟨g2, 0, none⟩) (m ++ t).length c2))
  have R2 := hide r2
  clear h h1 h2 h3 r2 o2 gr2 b2 k1 hR ht hn
  generalize m.length = M at *
  generalize (m ++ t).length = M2 at *
  generalize strOfNums t = st at *
  go_enter Try.func28, Try.ntmps28
  go_wp2_with (at_builtin; refine wpList_append_known rfl _ _ 22 9 rfl _ _ rfl rfl _ _ (unhide R2) ?_; clear R2)
  exact bodyPost_end (v := .tuple #[]) (results_none Try.results28 _ _ _) rfl ⟨rfl, unhide HR, unhide HBB⟩
/-- append(v, b...) where v is the call's own, and what stays -/
theorem run_moreG (w : World) (B g c : Nat) (l m : List Int) (a0 : Option Addr) (cap : Nat) (ty : TypeId) (h : Own w B (.slice (some ⟨g, 0, none⟩) l.length c) l) (hm : IsB w a0 cap m) (hB : B ≤ w.heap.size) (hn : l.length + m.length ≤ 140737488355328) :
    ∃ g' c' w', (Builtin.append_ #[22, 22] ty #[.slice (some ⟨g, 0, none⟩) l.length c, .slice a0 m.length cap]).run Try.prog w = .ok (.slice (some ⟨g', 0, none⟩) (l ++ m).length c') w' ∧
      Own w' B (.slice (some ⟨g', 0, none⟩) (l ++ m).length c') (l ++ m) ∧ w.grownBy w' (some g) ∧ Below B w w' := by
  obtain ⟨i, hi, hz, hs, hby⟩ := info_u8
  have hgB : B ≤ g ∧ g < w.heap.size := World.ownsRow.lt h g rfl
  rcases Nat.eq_zero_or_pos m.length with h0 | h0
  · obtain rfl : m = [] := List.length_eq_zero_iff.1 h0
    have hlc : l.length ≤ c := by
      rcases h.2 with ⟨hv, _⟩ | ⟨g1, cap1, cur, hv, _, _, hc, _⟩
      · cases hv
      · cases hv; exact hc
    rw [List.append_nil]
    refine ⟨g, c, w, ?_, h, grown_refl _ _, Below.refl _ _⟩
    exact run_append_room_src (P := Try.prog) w 22 22 ty 5 i Try.underlying22 hi g 0 l.length c (.slice a0 0 cap) 0 [] (by rw [hs]; exact src_none _ a0 cap) (by omega) (fun j hj => absurd hj (Nat.not_lt_zero _)) (fun j hj => absurd hj (Nat.not_lt_zero _))
  · rcases hm.2.2.1 with h3 | ⟨g0, off, rfl, hL⟩
    · rw [h3] at h0; cases h0
    obtain ⟨g', c', w', hr, ho, hg, hat, hlt⟩ := run_append_lies (P := Try.prog) w 22 ty B 5 i (.int .u8 0) 1 1 Try.underlying22 hi hz hs hby rfl (by decide)
      _ l.length (l.map (Value.int .u8)) h ⟨g0, off, none⟩ m.length cap (m.map (Value.int .u8)) (by simp) (src_cells hL) (src_some _ g0 off cap m hL).one h0 (by unfold maxLen; omega) (by omega) hB (w.heap.size) (by omega)
    have hown : Own w' B (.slice (some ⟨g', 0, none⟩) (l.length + m.length) c') (l ++ m) := by
      unfold Own
      simpa using ho
    rw [← List.length_append] at hr hown
    exact ⟨g', c', w', hr, hown, hg, (Below.refl B w).grown hg hB (fun k e => by cases e; exact hgB.1)⟩
set_option maxRecDepth 100000 in
set_option maxHeartbeats 1000000 in
theorem wkeep_at (w X : World) (g : Nat) (l m : List Int) (n : Nat) (h : IsW w X g l m) (hn : n ≤ l.length) (hm : m.length + n ≤ 140737488355328) :
    Calls Try.prog 27 #[.pointer (some ⟨g, 0, none⟩), .int .i64 (n : Int)] X fun y X' => y = .returned (.tuple #[]) ∧ IsW w X' g (l.drop n) (m ++ l.take n) ∧ Below w.heap.size X X' := by
  obtain ⟨a, c, g', c', h1, h2, h3⟩ := h.c
  have hln : (l.take n).length = n := by simp; omega
  have h1d : Cls X.drew g 64 #[.slice a l.length c, .slice (some ⟨g', 0, none⟩) m.length c'] := h1.same rfl
  have h3d : Own X.drew w.heap.size (.slice (some ⟨g', 0, none⟩) m.length c') m := rowD_drew h3
  have hd : IsW w X.drew g l m := h.on ((Below.refl _ _).drew)
  obtain ⟨g2, c2, Y, r2, o2, gr2, b2⟩ := run_moreG X.drew w.heap.size g' c' m (l.take n) a c 22 h3d ((h2.takeD).below h.d.drew (Nat.le_refl _)) h.d.size (by rw [hln]; exact hm)
  rw [hln] at r2
  obtain ⟨k1, k2, k3, hR⟩ := hd.more h1d h2 h3d gr2 o2 b2
  have HR := hide (hR.rest k2 h2 k3 n)
  have HBB := hide ((((Below.refl w.heap.size X).drew.trans b2).setCell (p := ⟨g, 1, none⟩) h.z (.slice (some ⟨g2, 0, none⟩) (m ++ l.take n).length c2)).setCell (p := ⟨g, 0, none⟩) h.z (.slice (if c = n then a else a.map (·.add n)) (l.length - n) (c - n)))
  have R2 := hide r2
  have HS0 : Hid (X.drew.cell? ⟨g, 0, none⟩ = some (.slice a l.length c) ∧ X.drew.cell? ⟨g, 1, none⟩ = some (.slice (some ⟨g', 0, none⟩) m.length c')) := hide ⟨h1d.cell 0, h1d.cell 1⟩
  have HS2 : Hid (Y.cell? ⟨g, 0, none⟩ = some (.slice a l.length c) ∧ Y.cell? ⟨g, 1, none⟩ = some (.slice (some ⟨g', 0, none⟩) m.length c')) := hide ⟨k1.cell 0, k1.cell 1⟩
  have e0 : Y.cell? ⟨g, 1, none⟩ = some (.slice (some ⟨g', 0, none⟩) m.length c') := k1.cell 1
  have f0 := k1.frozen 1
  have e1 : (Y.setCell ⟨g, 1, none⟩ (.slice (some ⟨g2, 0, none⟩) (m ++ l.take n).length c2)).cell? ⟨g, 0, none⟩ = some (.slice a l.length c) := k2.cell 0
  have f1 := k2.frozen 0
  have hc := h2.1
  have hll := h2.2.1
  clear h h1 h2 h3 r2 o2 gr2 b2 k1 k2 k3 hR hm h1d h3d hd hln
  generalize l.length = L at *
  generalize m.length = M at *
  generalize (m ++ l.take n).length = M2 at *
  have hnc : n ≤ c := by omega
  go_enter Try.func27, Try.ntmps27
  go_upto_region 0 with fail
  refine regionL (S := fun w' => w'.cell? ⟨g, 0, none⟩ = some (.slice a L c) ∧ w'.cell? ⟨g, 1, none⟩ = some (.slice (some ⟨g', 0, none⟩) M c')) (fun i => i == 14) (by kernel_rfl) ?_
  refine anyL_take (i := 0) (v := ?vwk0) rfl (by kernel_rfl) (by kernel_rfl) (by kernel_rfl) (by kernel_rfl) (fun _ _ _ h => h) (Or.inl ⟨by rfl, ?hwk0⟩) (unhide HS0) ?_
  case hwk0 => (intro w hSw; (try dsimp only at hSw); go_simp) <;> with_reducible rfl
  simp only [Act.put, List.getElem_toArray, List.getElem_cons_zero, List.setIfInBounds_toArray, List.set_cons_zero, List.set_cons_succ]
  refine anyL_take (i := 1) (v := ?vwk1) rfl (by kernel_rfl) (by kernel_rfl) (by kernel_rfl) (by kernel_rfl) (fun _ _ _ h => h) (Or.inl ⟨by rfl, ?hwk1⟩) (unhide HS0) ?_
  case hwk1 => (intro w hSw; (try dsimp only at hSw); go_simp) <;> with_reducible rfl
  simp only [Act.put, List.getElem_toArray, List.getElem_cons_zero, List.getElem_cons_succ, List.setIfInBounds_toArray, List.set_cons_zero, List.set_cons_succ]
  refine anyL_take (i := 2) (v := ?vwk2) rfl (by kernel_rfl) (by kernel_rfl) (by kernel_rfl) (by kernel_rfl) (fun _ _ _ h => h) (Or.inl ⟨by rfl, ?hwk2⟩) (unhide HS0) ?_
  case hwk2 => (intro w hSw; (try dsimp only at hSw); go_simp) <;> with_reducible rfl
  simp only [Act.put, List.getElem_toArray, List.getElem_cons_zero, List.getElem_cons_succ, List.setIfInBounds_toArray, List.set_cons_zero, List.set_cons_succ]
  refine anyL_take (i := 3) (v := ?vwk3) rfl (by kernel_rfl) (by kernel_rfl) (by kernel_rfl) (by kernel_rfl) (fun _ _ _ h => h) (Or.inl ⟨by rfl, ?hwk3⟩) (unhide HS0) ?_
  case hwk3 => (intro w hSw; (try dsimp only at hSw); go_simp) <;> with_reducible rfl
  simp only [Act.put, List.getElem_toArray, List.getElem_cons_zero, List.getElem_cons_succ, List.setIfInBounds_toArray, List.set_cons_zero, List.set_cons_succ]
  refine anyL_take (i := 4) (v := ?vwk4) rfl (by kernel_rfl) (by kernel_rfl) (by kernel_rfl) (by kernel_rfl) (fun _ _ _ h => h) (Or.inl ⟨by rfl, ?hwk4⟩) (unhide HS0) ?_
  case hwk4 => (intro w hSw; (try dsimp only at hSw); go_simp) <;> with_reducible rfl
  simp only [Act.put, List.getElem_toArray, List.getElem_cons_zero, List.getElem_cons_succ, List.setIfInBounds_toArray, List.set_cons_zero, List.set_cons_succ]
  refine anyL_take (i := 5) (v := ?vwk5) rfl (by kernel_rfl) (by kernel_rfl) (by kernel_rfl) (by kernel_rfl) (fun _ _ _ h => h) (Or.inl ⟨by rfl, ?hwk5⟩) (unhide HS0) ?_
  case hwk5 => (intro w hSw; (try dsimp only at hSw); go_simp) <;> with_reducible rfl
  simp only [Act.put, List.getElem_toArray, List.getElem_cons_zero, List.getElem_cons_succ, List.setIfInBounds_toArray, List.set_cons_zero, List.set_cons_succ]
  refine anyL_take (i := 6) (v := ?vwk6) rfl (by kernel_rfl) (by kernel_rfl) (by kernel_rfl) (by kernel_rfl) (fun _ _ _ h => h) (Or.inl ⟨by rfl, ?hwk6⟩) (unhide HS0) ?_
  case hwk6 => (intro w hSw; (try dsimp only at hSw); go_simp) <;> with_reducible rfl
  simp only [Act.put, List.getElem_toArray, List.getElem_cons_zero, List.getElem_cons_succ, List.setIfInBounds_toArray, List.set_cons_zero, List.set_cons_succ]
  refine anyL_take (i := 7) (v := ?vwk7) rfl (by kernel_rfl) (by kernel_rfl) (by kernel_rfl) (by kernel_rfl) (fun _ _ _ h => h) (Or.inl ⟨by rfl, ?hwk7⟩) (unhide HS0) ?_
  case hwk7 => (intro w hSw; (try dsimp only at hSw); go_simp) <;> with_reducible rfl
  simp only [Act.put, List.getElem_toArray, List.getElem_cons_zero, List.getElem_cons_succ, List.setIfInBounds_toArray, List.set_cons_zero, List.set_cons_succ]
  refine anyL_take (i := 8) (v := ?vwk8) rfl (by kernel_rfl) (by kernel_rfl) (by kernel_rfl) (by kernel_rfl) (fun _ _ _ h => h) (Or.inl ⟨by rfl, ?hwk8⟩) (unhide HS0) ?_
  case hwk8 => (intro w hSw; (try dsimp only at hSw); go_simp) <;> with_reducible rfl
  simp only [Act.put, List.getElem_toArray, List.getElem_cons_zero, List.getElem_cons_succ, List.setIfInBounds_toArray, List.set_cons_zero, List.set_cons_succ]
  refine anyL_take (i := 9) (v := ?vwk9) rfl (by kernel_rfl) (by kernel_rfl) (by kernel_rfl) (by kernel_rfl) (fun _ _ _ h => h) (Or.inl ⟨by rfl, ?hwk9⟩) (unhide HS0) ?_
  case hwk9 => (intro w hSw; (try dsimp only at hSw); go_simp) <;> with_reducible rfl
  simp only [Act.put, List.getElem_toArray, List.getElem_cons_zero, List.getElem_cons_succ, List.setIfInBounds_toArray, List.set_cons_zero, List.set_cons_succ]
  refine anyL_take (i := 10) (v := ?vwk10) rfl (by kernel_rfl) (by kernel_rfl) (by kernel_rfl) (by kernel_rfl) (fun _ _ _ h => h) (Or.inl ⟨by rfl, ?hwk10⟩) (unhide HS0) ?_
  case hwk10 => (intro w hSw; (try dsimp only at hSw); go_simp) <;> with_reducible rfl
  simp only [Act.put, List.getElem_toArray, List.getElem_cons_zero, List.getElem_cons_succ, List.setIfInBounds_toArray, List.set_cons_zero, List.set_cons_succ]
  refine anyL_ready (rs := [11]) (by kernel_rfl) (by simp) ?_
  refine AllL.cons rfl (fun K hK => ?_) AllL.nil
  refine step_append_in rfl _ _ 22 22 rfl _ _ rfl rfl _ _ (unhide R2) ?_
  go_simp
  clear R2
  refine unhide hK _ _ (fun _ => unhide HS2) ?_
  clear hK K
  refine anyL_take (i := 12) (v := ?vwk11) rfl (by kernel_rfl) (by kernel_rfl) (by kernel_rfl) (by kernel_rfl) (fun _ _ _ h => h) (Or.inl ⟨by rfl, ?hwk11⟩) (unhide HS2) ?_
  case hwk11 => (intro w hSw; (try dsimp only at hSw); go_simp) <;> with_reducible rfl
  simp only [Act.put, List.getElem_toArray, List.getElem_cons_zero, List.getElem_cons_succ, List.setIfInBounds_toArray, List.set_cons_zero, List.set_cons_succ]
  refine anyL_take (i := 13) (v := ?vwk12) rfl (by kernel_rfl) (by kernel_rfl) (by kernel_rfl) (by kernel_rfl) (fun _ _ _ h => h) (Or.inl ⟨by rfl, ?hwk12⟩) (unhide HS2) ?_
  case hwk12 => (intro w hSw; (try dsimp only at hSw); go_simp) <;> with_reducible rfl
  simp only [Act.put, List.getElem_toArray, List.getElem_cons_zero, List.getElem_cons_succ, List.setIfInBounds_toArray, List.set_cons_zero, List.set_cons_succ]
  refine anyL_ready (rs := [14]) (by kernel_rfl) (by simp) ?_
  refine AllL.cons rfl (fun K hK => ?_) AllL.nil
  go_simp
  refine unhide hK _ _ (fun h => by cases h) ?_
  clear hK K
  refine anyL_done (by kernel_rfl) ?_ _
  clear e0 f0 HS0 HS2
  generalize Y.setCell ⟨g, 1, none⟩ (.slice (some ⟨g2, 0, none⟩) M2 c2) = Z at *
  by_cases hcn : c = n
  · subst hcn
    obtain rfl : L = c := by omega
    rw [if_pos rfl, Nat.sub_self] at HR HBB
    go_wp2_with fail
    exact bodyPost_end (v := .tuple #[]) (results_none Try.results27 _ _ _) rfl ⟨rfl, unhide HR, unhide HBB⟩
  · rw [if_neg hcn] at HR HBB
    go_wp2_with fail
    exact bodyPost_end (v := .tuple #[]) (results_none Try.results27 _ _ _) rfl ⟨rfl, unhide HR, unhide HBB⟩

end Go.Proofs.Ytdemagijhmbdcaa
end

section
namespace Go.Proofs.Ytdemagijhmbdcaa
open Go.ChangeShapes Go.WideShapes Go.ChangeAt Go.RowKit
attribute [local go_sem] Oper.semAt_some

theorem make_u8D (w : World) (c : Nat) (hc : c ≤ 70368744177664) : ∃ w', (Instr.makeSlice 22 (.int .i64 0) (.int .i64 (c : Int))).run Try.prog w = .ok (.slice (some ⟨w.heap.size, 0, none⟩) 0 c) w' ∧ Own w' w.heap.size (.slice (some ⟨w.heap.size, 0, none⟩) 0 c) [] ∧ Below w.heap.size w w' := by
  obtain ⟨i, hi, hz, hs, hby⟩ := info_u8
  obtain ⟨w', h1, h2, h3⟩ := run_make_own (P := Try.prog) w w.heap.size 22 5 i (.int .u8 0) 1 Try.underlying22 hi hz hs .i64 .i64 c (by rw [hby]; omega) (by unfold maxLen; omega) (Nat.le_refl _)
  exact ⟨w', h1, h2, (Below.refl _ w).grown h3 (Nat.le_refl _) (fun k e => by cases e)⟩
set_option maxRecDepth 100000 in
theorem fldZ (a b : Value) (w : World) : (Instr.field 61 (.agg #[a, b]) 1).run Try.prog w = .ok b w := by kernel_rfl
attribute [local go_sem] fldZ
/-- what waits, and what is written, behind one operation more -/
def stW (s : List Int × List Int) (o : Dop) : List Int × List Int := if o.k = 1 then (s.1.drop o.n.toNat, s.2 ++ s.1.take o.n.toNat) else if o.k = 2 then (s.1, s.2 ++ o.t) else (s.1.drop o.n.toNat, s.2)
def runW (b : List Int) (d : List Dop) : List Int × List Int := d.foldl stW (b, [])
def apD (b : List Int) (d : List Dop) : List Int := (runW b d).2
theorem runW_take (b : List Int) (d : List Dop) {k : Nat} (hk : k < d.length) : runW b (d.take (k + 1)) = stW (runW b (d.take k)) (d.getD k opZ) := by
  unfold runW
  rw [List.take_add_one, List.getElem?_eq_getElem hk, Option.toList_some, List.foldl_append]
  simp [List.getD_eq_getElem?_getD, List.getElem?_eq_getElem hk]
/-- lengths, while the delta fits -/
theorem runW_len {b : List Int} {d : List Dop} (hv : valB d = true) (hf : frD d = b.length) : ∀ k, k ≤ d.length → (runW b (d.take k)).1.length + frD (d.take k) = b.length ∧ (runW b (d.take k)).2.length = toD (d.take k)
  | 0, _ => by simp [runW, frD, toD]
  | k + 1, hk => by
    have ih := runW_len hv hf k (by omega)
    have hx := valB_op hv (getD_memD (d := d) (k := k) (by omega))
    have e1 := frD_take d (k := k) (by omega)
    have e2 := toD_take d (k := k) (by omega)
    have e3 := (frD_le d (k + 1)).1
    rw [runW_take b d (by omega)]
    generalize runW b (d.take k) = s at *
    generalize d.getD k opZ = x at *
    obtain ⟨xk, xn, xt⟩ := x
    dsimp only at hx
    rcases hx with ⟨rfl | rfl, hn, rfl⟩ | ⟨rfl, rfl, hn⟩
    · simp [stW, frN, toN] at e1 e2 ⊢; omega
    · simp [stW, frN, toN] at e1 e2 ⊢; omega
    · simp [stW, frN, toN] at e1 e2 ⊢; omega
theorem ap_len {b : List Int} {d : List Dop} (hv : valB d = true) (hf : frD d = b.length) : (apD b d).length = toD d := by
  have := (runW_len hv hf d.length (Nat.le_refl _)).2
  rwa [List.take_length] at this
theorem each_w (a : Option Addr) (c g : Nat) (d : List Dop) (b : List Int) (w X : World) (hO : ∀ Y, Below w.heap.size w Y → IsO Y a d) (hX : IsW w X g b []) (hl : d.length ≤ 4611686018427387904) (hv : valB d = true) (hf : frD d = b.length) (hb : ∀ o ∈ d, TbD o) :
    Calls Try.prog 26 #[.slice a d.length c, .func (.func 27) #[.pointer (some ⟨g, 0, none⟩)] #[], .func (.func 28) #[.pointer (some ⟨g, 0, none⟩)] #[], .func (.func 29) #[.pointer (some ⟨g, 0, none⟩)] #[]] X
      fun y X' => y = .returned (.tuple #[]) ∧ IsW w X' g (runW b d).1 (apD b d) := by
  have hz := (valB_nn hv).2
  have := each_at a c w.heap.size d X 27 28 29 (.pointer (some ⟨g, 0, none⟩))
    (fun k Y => IsW w Y g (runW b (d.take k)).1 (runW b (d.take k)).2 ∧ Below w.heap.size X Y)
    (enters_of Try.func27 (by kernel_rfl) rfl) (enters_of Try.func28 (by kernel_rfl) rfl) (enters_of Try.func29 (by kernel_rfl) rfl)
    (fun Y hY => hO Y (hX.d.trans hY)) (fun k Y hY => hY.2) (fun k Y o hY => ⟨hY.1.on ((Below.refl _ _).alloc (Nat.le_refl _) o), hY.2.alloc (Nat.le_trans hX.d.size hY.2.size) o⟩) ⟨hX, Below.refl _ _⟩ hl
    (fun k Y hlt h1 hY => by
      have hx := valB_op hv (getD_memD hlt)
      have hlen := runW_len hv hf k (by omega)
      have e1 := frD_take d hlt
      have e2 := toD_take d hlt
      have e3 := frD_le d (k + 1)
      have htb := hb _ (getD_memD hlt)
      rw [runW_take b d hlt]
      generalize runW b (d.take k) = s at *
      generalize d.getD k opZ = x at *
      obtain ⟨xk, xn, xt⟩ := x
      dsimp only at hx h1
      subst h1
      rcases hx with ⟨_, hn, rfl⟩ | ⟨h2, _⟩
      · obtain ⟨m, rfl⟩ : ∃ m : Nat, xn = (m : Int) := ⟨xn.toNat, by omega⟩
        simp [frN, toN] at e1 e2
        refine (wkeep_at w Y g s.1 s.2 m hY.1 (by omega) (by omega)).mono fun y Z ⟨e, hZ, hW⟩ => ⟨e, ?_, hY.2.trans hW⟩
        simp only [stW, if_true, Int.toNat_natCast]
        exact hZ
      · omega)
    (fun k Y hlt h1 hY => by
      have hx := valB_op hv (getD_memD hlt)
      have hlen := runW_len hv hf k (by omega)
      have e1 := frD_take d hlt
      have e2 := toD_take d hlt
      have e3 := frD_le d (k + 1)
      have htb := hb _ (getD_memD hlt)
      rw [runW_take b d hlt]
      generalize runW b (d.take k) = s at *
      generalize d.getD k opZ = x at *
      obtain ⟨xk, xn, xt⟩ := x
      dsimp only at hx h1
      subst h1
      rcases hx with ⟨h2, _⟩ | ⟨_, hn, hne⟩
      · omega
      · simp [frN, toN] at e1 e2
        refine (wput_at w Y g s.1 s.2 xt hY.1 htb (by omega)).mono fun y Z ⟨e, hZ, hW⟩ => ⟨e, ?_, hY.2.trans hW⟩
        simp only [stW, show ¬ ((2 : Int) = 1) by decide, if_false, if_true]
        exact hZ)
    (fun k Y hlt h1 hY => by
      have hx := valB_op hv (getD_memD hlt)
      have hlen := runW_len hv hf k (by omega)
      have e1 := frD_take d hlt
      have e2 := toD_take d hlt
      have e3 := frD_le d (k + 1)
      have htb := hb _ (getD_memD hlt)
      rw [runW_take b d hlt]
      generalize runW b (d.take k) = s at *
      generalize d.getD k opZ = x at *
      obtain ⟨xk, xn, xt⟩ := x
      dsimp only at hx h1
      subst h1
      rcases hx with ⟨_, hn, rfl⟩ | ⟨h2, _⟩
      · obtain ⟨m, rfl⟩ : ∃ m : Nat, xn = (m : Int) := ⟨xn.toNat, by omega⟩
        simp [frN, toN] at e1 e2
        refine (wdrop_at w Y g s.1 s.2 m hY.1 (by omega)).mono fun y Z ⟨e, hZ, hW⟩ => ⟨e, ?_, hY.2.trans hW⟩
        simp only [stW, show ¬ ((3 : Int) = 1) by decide, show ¬ ((3 : Int) = 2) by decide, if_false, Int.toNat_natCast]
        exact hZ
      · omega)
    (fun k Y hlt h1 h2 h3 _ => by rcases valB_k hv _ (getD_memD hlt) with h | h | h <;> contradiction)
  rw [List.take_length] at this
  exact this.mono fun y Y ⟨e, hY, _⟩ => ⟨e, hY⟩
set_option maxRecDepth 100000 in
set_option maxHeartbeats 1000000 in
theorem Apply_at (a0 : Option Addr) (c0 : Nat) (b : List Int) (a : Option Addr) (c : Nat) (d : List Dop) (w : World) (hb : IsB w a0 c0 b) (h : IsO w a d) (hl : d.length ≤ 4611686018427387904) (ht : ∀ o ∈ d, TbD o) :
    Calls Try.prog 10 #[.slice a0 b.length c0, .slice a d.length c] w fun y w' => ∃ v, y = .returned (.tuple #[v, .int .i64 (fitE d b.length)]) ∧ Own w' w.heap.size v (if fitE d b.length = 0 then apD b d else []) ∧ Below w.heap.size w w' := by
  have HF := hide (fits_at a0 b.length c0 a c d w h hl)
  have HM := hide fun (X : World) (hx : Below w.heap.size w X) (hp : valB d = true) => measure_at a c d X (h.below hx (Nat.le_refl _)) hl (valB_nn hp).1
  rcases fit_cases d b.length with ⟨hv, he⟩ | ⟨hv, hf, he, t1, t2⟩ | ⟨hv, hf, he⟩
  · rw [he] at HF ⊢
    rw [if_neg (by decide)]
    clear he hv HM hb h hl ht
    go_enter Try.func10, Try.ntmps10
    go_wp2_with fail
    refine (unhide HF).mono ?_
    rintro y w1 ⟨rfl, x1⟩
    dsimp only
    clear HF
    go_wp2_with fail
    refine bodyPost_ret (results_tmp2 rfl _ _ _) rfl ⟨.slice none 0 0, rfl, World.ownsRow_nil _ _ _ _, x1⟩
  · rw [he] at HF ⊢
    rw [if_neg (by decide)]
    clear he hv HM hb h hl ht t1 t2 hf
    go_enter Try.func10, Try.ntmps10
    go_wp2_with fail
    refine (unhide HF).mono ?_
    rintro y w1 ⟨rfl, x1⟩
    dsimp only
    clear HF
    go_wp2_with fail
    refine bodyPost_ret (results_tmp2 rfl _ _ _) rfl ⟨.slice none 0 0, rfl, World.ownsRow_nil _ _ _ _, x1⟩
  · rw [he] at HF ⊢
    rw [if_pos rfl]
    have HM2 := hide fun (X : World) (hx : Below w.heap.size w X) => unhide HM X hx hv
    rw [show satD (toD d) = toD d by have := (valB_nn hv).2; unfold satD; omega] at HM2
    have hT : toD d ≤ 268435456 := (valB_nn hv).2.2
    have HF2 := hide hf
    clear he HM
    generalize satD (frD d) = F at *
    generalize toD d = T at *
    go_enter Try.func10, Try.ntmps10
    go_wp2_with fail
    refine (unhide HF).mono ?_
    rintro y w1 ⟨rfl, x1⟩
    dsimp only
    have HX1 := hide x1
    have HM3 := hide (unhide HM2 w1 x1)
    clear HF HM2 x1
    go_wp2_with fail
    refine (unhide HM3).mono ?_
    rintro y w2 ⟨rfl, x2⟩
    dsimp only
    clear HM3
    obtain ⟨w3, rm, o3, x3⟩ := make_u8D w2 T (by omega)
    have X2 := (unhide HX1).trans (x2.mono (unhide HX1).size)
    have HX3 := hide (X2.trans (x3.mono X2.size))
    have HO3 : Hid (Own w3 w.heap.size (.slice (some ⟨w2.heap.size, 0, none⟩) 0 T) []) := hide (own_lower o3 X2.size)
    clear HX1 x2 X2 o3 x3
    generalize hg2 : w2.heap.size = g2 at HO3 rm
    clear hg2
    have hW : IsW w (w3.alloc (.cells #[.slice a0 b.length c0, .slice (some ⟨g2, 0, none⟩) 0 T] 64)) w3.heap.size b [] :=
      ⟨⟨a0, c0, g2, T, Cls.new _ _ _, hb, World.ownsRow.alloc (unhide HO3) _⟩, (unhide HX3).alloc (unhide HX3).size _, (unhide HX3).size⟩
    have HE := hide (each_w a c w3.heap.size d b w _ (fun Y hY => h.below hY (Nat.le_refl _)) hW hl hv (unhide HF2) ht)
    clear hW h hb hl ht hv HX3 HO3 hf HF2
    go_upto_region 5 with fail
    clear rm
    generalize w3.alloc (.cells #[.slice a0 b.length c0, .slice (some ⟨g2, 0, none⟩) 0 T] 64) = w4 at *
    generalize w3.heap.size = g at *
    go_wp2_with fail
    refine (unhide HE).mono ?_
    rintro y w5 ⟨rfl, h5⟩
    dsimp only
    obtain ⟨a5, c5, g5, d5, k1, k2, k3⟩ := h5.c
    have e1 : w5.cell? ⟨g, 1, none⟩ = some (.slice (some ⟨g5, 0, none⟩) (apD b d).length d5) := k1.cell 1
    have HOw := hide k3
    have HXX := hide h5.d
    clear HE k1 k2 k3 h5
    go_wp2_with fail
    refine bodyPost_ret (results_tmp2 rfl _ _ _) rfl ⟨_, rfl, unhide HOw, unhide HXX⟩

end Go.Proofs.Ytdemagijhmbdcaa
end
