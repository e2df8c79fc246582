/- The walk of ScanOwn. -/
import Derived.Test.YtpgipahlhbkjjaaDoorOw4
namespace Go.Proofs.YtpgipahlhbkjjaaDoor
open Go.ChangeShapes Go.WideShapes Go.ChangeAt Go.RowKit

set_option maxRecDepth 100000 in
set_option maxHeartbeats 8000000 in
theorem ScanOwn_any (a0 : Option Addr) (cap : Nat) (ls : List (List Int)) (w : World) (hB : IsBB w a0 ls) (hu : bulkL ls + ls.length ≤ 1048576) (hT : Tab w) :
    Calls Tryd.prog 4 #[.slice a0 ls.length cap] w fun e w' => e = .returned (.bool true) ∧ Below w.heap.size w w' := by
  have hz := hT.size
  go_enter Tryd.func4, Tryd.ntmps4
  go_wp2_with fail
  refine (awake4_any w hT).mono ?_
  rintro e w1 ⟨rfl, b1⟩
  have z1 := b1.size
  dsimp only
  go_wp2_with fail
  refine (New_at w1).mono ?_
  rintro e w2 ⟨gs, rfl, hgs, s2, b2⟩
  have z2 := b2.size
  have hgs2 := s2.lt
  dsimp only
  go_wp2_with fail
  refine (New_at w2).mono ?_
  rintro e w2' ⟨gt, rfl, hgt, t2, b2'⟩
  have z2' := b2'.size
  have hgt2 := t2.lt
  have b3 : Below w2'.heap.size w2' (w2'.alloc (.cells #[.slice none 0 0, .int .i64 0] 28)) := (Below.refl _ _).alloc (Nat.le_refl _) _
  have z3 : (w2'.alloc (.cells #[.slice none 0 0, .int .i64 0] 28)).heap.size = w2'.heap.size + 1 := by simp
  have hPo : Po gs gt w2'.heap.size (w2'.heap.size + 1) [] 0 none 0 w (w2'.alloc (.cells #[.slice none 0 0, .int .i64 0] 28)) :=
    ⟨⟨(s2.below b2' hgs2).below b3 (by omega), alloc_get w2' _, ⟨by simp, by simp, Or.inl rfl, by simp⟩, Or.inl rfl, (fun x hx => by cases hx), ((b1.trans (b2.mono z1)).trans (b2'.mono (by omega))).trans (b3.mono (by omega)), ⟨by omega, by omega⟩, ⟨by omega, by omega, by omega⟩, by omega⟩, t2.below b3 hgt2, by omega, by omega, ⟨by omega, by omega⟩⟩
  have HP := hide hPo
  have HB := hide hB
  have HT := hide hT
  clear hPo s2 t2 b1 b2 b2' b3 hB hT
  dsimp only
  generalize hR : w.heap.size = R at *
  generalize hG : w2'.heap.size = G at *
  have TB : Hid (∀ w', Below w.heap.size w w' → Tab w') := hide (fun w' hb => (unhide HT).below hb (by omega))
  go_wp2_with fail
  generalize (w2'.alloc (.cells #[.slice none 0 0, .int .i64 0] 28)) = w3 at *
  go_loopw [6] (fun i wx => ∃ (k : Nat) (h : List Int) (fd : Int) (aH : Option Addr) (cH : Nat), i = .int .i64 k ∧ k ≤ ls.length ∧ (h.length : Int) ≤ fd ∧ fd ≤ 1048576 * (k : Int) ∧ Hid (Po gs gt G (G + 1) h fd aH cH w wx)) (fun i _ => ls.length - (intOf i).toNat)
  case atStart => exact ⟨0, [], 0, none, 0, rfl, Nat.zero_le _, by decide, by decide, HP⟩
  case round =>
    obtain ⟨k, h, fd, aH, cH, rfl, hk, hfl, hf1, HX⟩ := hrel
    obtain ⟨wo, hwo⟩ : ∃ wo, wo = wr := ⟨_, rfl⟩
    subst hwo
    have hf0 : 0 ≤ fd := by omega
    by_cases hlt : k < ls.length
    · obtain ⟨gp, offp, A, C, rfl, hgp, hcp, hrB⟩ := IsBB.at4 (unhide HB) hlt
      have hbl : (ls.getD k []).length ≤ bulkL ls := le_sum (List.mem_map.2 ⟨_, by simp [List.getD, List.getElem?_eq_getElem hlt], rfl⟩)
      generalize ls.getD k [] = r at *
      have UP : Hid (∀ w', Below w.heap.size w w' → w'.cell? ⟨gp, offp + k, none⟩ = some (.slice A r.length C) ∧ IsB w' A C r) := hide (fun w' hb => ⟨(hb.cell (p := ⟨gp, offp + k, none⟩) hgp).trans hcp, hrB.below hb (Nat.le_refl _)⟩)
      have hbx := (unhide HX).py.below
      have hcx := (unhide UP _ hbx).1
      have hkl : (k : Int) < (ls.length : Int) := by omega
      have hl3 : h.length ≤ 3 := (unhide HX).py.sca.2.1
      obtain ⟨hi1, hi2, hi3⟩ := (unhide HX).py.hi
      have hi4 := (unhide HX).hi
      have hh := (unhide HX).py.hel
      have HRB := hide hrB.2.2.2
      have hca : (wo.alloc (.cells #[] 5)).cell? ⟨gp, offp + k, none⟩ = some (.slice A r.length C) := (((Below.refl wo.heap.size wo).alloc (Nat.le_refl _) _).cell (p := ⟨gp, offp + k, none⟩) (Nat.lt_of_lt_of_le hgp hbx.size)).trans hcx
      clear hcp hrB
      obtain ⟨v4, w4, r4, o4, b4⟩ := run_copy_own wo A C r 26 (unhide UP _ hbx).2
      obtain ⟨v5, w5, r5, o5, b5⟩ := o4.push2 170 187 (by omega) b4.size
      obtain ⟨a5, c5, rfl, i5⟩ := o5.isB (fun x hx => by
        rcases List.mem_append.1 hx with hx | hx
        · exact unhide HRB x hx
        · simp at hx; omega) (by simp; omega)
      have hl5 : (r ++ [(170 : Int), 187]).length = r.length + 2 := by simp
      rw [hl5] at r5
      have k5 := o5.blk
      obtain ⟨g, rfl⟩ : ∃ g, a5 = some ⟨g, 0, none⟩ := by
        rcases o5.2 with ⟨e, _⟩ | ⟨g', _, _, e, _⟩
        · injection e with _ e2 _; simp at e2
        · cases e; exact ⟨g', rfl⟩
      have kg := k5 _ rfl
      simp only at kg
      have bb5 : Below wo.heap.size wo w5 := b4.trans b5
      have hc5 := i5.1
      rw [hl5] at hc5
      have z5 := bb5.size
      have R4 := hide r4
      have R5 := hide r5
      have O5 : Hid (w5.ownsRow wo.heap.size 5 1 (.slice (some ⟨g, 0, none⟩) (r.length + 2) c5) (r.length + 2) ((r ++ [170, 187]).map (Value.int .u8))) := hide (by have := o5; unfold Own at this; rw [hl5] at this; exact this)
      have HB5 := hide bb5
      have I5 : Hid (IsB w5 (some ⟨g, 0, none⟩) c5 r) := hide (by have := i5.take (n := r.length) (by simp); simpa using this)
      have S5 := hide ((unhide HX).py.sca.below bb5 (unhide HX).py.sca.lt)
      have D5 := hide (hbx.trans (bb5.mono hbx.size))
      have hnc : (r.length : Int) ≤ (c5 : Int) := by omega
      clear r4 r5 o4 o5 b4 b5 i5 bb5 k5
      go_wp2_with (at_builtin; first
        | (refine wpList_append_known rfl _ _ 26 26 rfl _ _ rfl rfl _ _ (unhide R4) ?_; clear R4)
        | (refine wpList_append_known rfl _ _ 26 26 rfl _ _ rfl rfl _ _ (unhide R5) ?_; clear R5))
      refine (Feed_at gs h r fd (some ⟨g, 0, none⟩) c5 w5 (unhide S5) hh (unhide TB _ (unhide D5)) (unhide I5) (fun x hx => by cases hx; exact ⟨kg.2, by show g ≠ gs; omega⟩) (by omega) hf0 (by omega)).mono ?_
      rintro e w6 ⟨v6, rfl, o6, s6, f6⟩
      have z6 := f6.size
      have hsl := scanS_len (h := h) (b := r) hh
      have hHel : Hel (scanS h r).2 := scanS_hel r hh
      have d6 : Below w.heap.size w w6 := (unhide D5).trans ((f6.mono (unhide D5).size).below (unhide HX).py.lo.1)
      have o56 := row_same (W' := w6) (unhide O5) (fun k hk hk' => f6.block k hk' (by omega))
      have q0 : w6.cell? ⟨g, r.length, none⟩ = some (.int .u8 170) := by rw [World.ownsRow.cellAt o56 r.length (by omega)]; simp
      have q1 : w6.cell? ⟨g, r.length + 1, none⟩ = some (.int .u8 187) := by rw [World.ownsRow.cellAt o56 (r.length + 1) (by omega)]; simp
      have i6 : IsB w6 (some ⟨g, 0, none⟩) c5 r := IsB.scf (B := w5.heap.size) (g := gs) (unhide I5) f6 (fun x hx => by cases hx; exact ⟨kg.2, by show g ≠ gs; omega⟩)
      have kf : ∀ m, (convert 26 9 (.slice (some ⟨g, 0, none⟩) r.length c5)).run Tryd.prog (w6.drewN m) = .ok (.string (strOfNums r)) (w6.drewN m) := fun m => str_bs (w6.drewN m) _ c5 r i6.2.2.1
      have kb : ∀ m, (convert 26 9 (.slice A r.length C)).run Tryd.prog (w6.drewN m) = .ok (.string (strOfNums r)) (w6.drewN m) := fun m => str_bs (w6.drewN m) _ C r (unhide UP _ d6).2.2.2.1
      have hcx6 := (unhide UP _ d6).1
      have O6 := hide o6
      have S6 := hide s6
      have F6 := hide f6
      have D6 := hide d6
      have P6 := hide o56
      have hn1 : (r.length : Int) < ((r.length + 2 : Nat) : Int) := by omega
      have hn2 : (r.length : Int) + 1 < ((r.length + 2 : Nat) : Int) := by omega
      have hn3 : (r.length : Int) < (r.length : Int) + 2 := by omega
      have hn4 : (r.length : Int) + 1 < (r.length : Int) + 2 := by omega
      clear o6 s6 f6 d6 o56 i6 hca hcx hbx S5 I5 O5
      dsimp only
      go_wp2_with fail
      go_quiet (fail)
      go_wp2_with fail
      clear q0 q1 kf kb hcx6 hn1 hn2 hn3 hn4
      go_loopw [70] (fun i wx => ∃ (j : Nat) (xs : List Value), j ≤ r.length + 2 ∧ i = .int .i64 j ∧ Hid (wx.ownsRow wo.heap.size 5 1 (.slice (some ⟨g, 0, none⟩) (r.length + 2) c5) (r.length + 2) xs) ∧ Hid (Scf w6.heap.size g w6 wx)) (fun i _ => r.length + 2 - (intOf i).toNat)
      case atStart => exact ⟨0, _, Nat.zero_le _, rfl, P6, hide ((Scf.refl _ _ w6).drewN _)⟩
      case round =>
        obtain ⟨j, xs, hj, rfl, ho, hf⟩ := hrel
        by_cases hlt2 : j < r.length + 2
        · obtain ⟨xj, cj⟩ : ∃ xj, wr.cell? ⟨g, j, none⟩ = some xj := ⟨_, (World.ownsRow.cellAt (unhide ho) j (by omega)).trans (List.getElem?_eq_getElem (by have := (unhide ho).1; omega))⟩
          have fj := World.ownsRow.frozenAt (unhide ho) j
          have ST := hide (World.ownsRow.stored (unhide ho) j (.int .u8 120)).1
          have SF := hide ((unhide hf).set j (.int .u8 120))
          have hji : (j : Int) < ((r.length + 2 : Nat) : Int) := by omega
          have hji2 : (j : Int) < (r.length : Int) + 2 := by omega
          clear ho hf
          go_wp2_with fail
          exact ⟨⟨j + 1, _, by omega, by go_num, ST, SF⟩, by simp [intOf]; omega⟩
        · obtain rfl : j = r.length + 2 := by omega
          obtain ⟨w7, hw7⟩ : ∃ w7, w7 = wr := ⟨_, rfl⟩
          subst hw7
          clear ho
          have hgw : wo.heap.size ≤ g := kg.1
          have z7 := (unhide hf).size
          have d7 : Below w.heap.size w w7 := (unhide D6).trans (((unhide hf).mono (unhide D6).size).below (by have := (unhide HX).py.below.size; omega))
          obtain ⟨a8, c8, w8, r8, i8, k8, b8⟩ := copy_new w7 A C r (unhide UP _ d7).2
          have z8 := b8.size
          obtain ⟨_, t8, _, _, _, _, d8⟩ := (unhide HX).mid (unhide HB5) (unhide F6) (unhide hf) hgw b8
          have hca7 : (w7.alloc (.cells #[] 5)).cell? ⟨gp, offp + k, none⟩ = some (.slice A r.length C) := (((Below.refl w7.heap.size w7).alloc (Nat.le_refl _) _).cell (p := ⟨gp, offp + k, none⟩) (Nat.lt_of_lt_of_le hgp d7.size)).trans (unhide UP _ d7).1
          have R8 := hide r8
          have B8 := hide b8
          have I8 := hide i8
          have K8 := hide k8
          have T8 := hide t8
          have D8 := hide d8
          clear r8 b8 i8 k8 t8 d8 d7
          have hlx : ¬ (((r.length + 2 : Nat) : Int) < (r.length : Int) + 2) := by omega
          go_wp2_with (at_builtin; refine wpList_append_known rfl _ _ 26 26 rfl _ _ rfl rfl _ _ (unhide R8) ?_)
          clear hca7 hlx
          refine (Feed_at gt h r fd a8 c8 w8 (unhide T8) hh (unhide TB _ (unhide D8)) (unhide I8) (fun x hx => by have := unhide K8 x hx; omega) (by omega) hf0 (by omega)).mono ?_
          rintro e w9 ⟨v9, rfl, o9, s9, f9⟩
          have z9 := f9.size
          obtain ⟨i9, d9, x9⟩ := (unhide HX).mid6 (unhide HB5) (unhide F6) (unhide hf) hgw (unhide B8) f9
          obtain ⟨ab, kb9, rfl, _, t9, m9⟩ := o9.at
          obtain ⟨c90, c91, _, _⟩ := cells2 x9
          have HS0 : Hid (w9.drew.cell? ⟨G, 0, none⟩ = some (.slice aH h.length cH) ∧ w9.drew.cell? ⟨G, 1, none⟩ = some (.int .i64 (fd - (h.length : Int))) ∧ w9.drew.cell? ⟨gp, offp + k, none⟩ = some (.slice A r.length C)) := hide ⟨c90, c91, (unhide UP _ d9).1⟩
          have HRF := hide (RFeedS_at aH cH h (fd - (h.length : Int)) A C r w9.drew (show IsB w9.drew aH cH h from i9) (show IsB w9.drew A C r from (unhide UP _ d9).2) (by omega) (by omega) (by omega) hh)
          have S9 := hide s9
          have F9 := hide f9
          have T9 := hide t9
          have M9 := hide m9
          have X9 := hide x9
          have D9 := hide (show Below w.heap.size w w9.drew from Below.drewN d9 1)
          have DD9 : Hid (Below w9.heap.size w9 w9.drew) := hide (Below.drewN (Below.refl _ _) 1)
          have zd9 : w9.drew.heap.size = w9.heap.size := rfl
          clear s9 f9 t9 m9 o9 x9 c90 c91 d9 i9 R8 I8 K8 T8 D8
          dsimp only
          go_upto_region 20 with fail
          refine regionL (S := fun w' => w'.cell? ⟨G, 0, none⟩ = some (.slice aH h.length cH) ∧ w'.cell? ⟨G, 1, none⟩ = some (.int .i64 (fd - (h.length : Int))) ∧ w'.cell? ⟨gp, offp + k, none⟩ = some (.slice A r.length C)) (fun i => i == 7 || i == 8 || i == 9 || i == 10) (by kernel_rfl) ?_
          generalize w9.drew = wd at *
          refine anyL_take (i := 0) (v := ?v0) rfl (by kernel_rfl) (by kernel_rfl) (by kernel_rfl) (by kernel_rfl) (fun _ _ _ h => h) (Or.inl ⟨by rfl, ?h0⟩) (unhide HS0) ?_
          case h0 => (intro w hSw; (try dsimp only at hSw); go_simp) <;> with_reducible rfl
          simp only [Act.put, List.getElem_toArray, List.getElem_cons_zero, List.setIfInBounds_toArray, List.set_cons_zero, List.set_cons_succ]
          refine anyL_take (i := 1) (v := ?v1) rfl (by kernel_rfl) (by kernel_rfl) (by kernel_rfl) (by kernel_rfl) (fun _ _ _ h => h) (Or.inl ⟨by rfl, ?h1⟩) (unhide HS0) ?_
          case h1 => (intro w hSw; (try dsimp only at hSw); go_simp) <;> with_reducible rfl
          simp only [Act.put, List.getElem_toArray, List.getElem_cons_zero, List.getElem_cons_succ, List.setIfInBounds_toArray, List.set_cons_zero, List.set_cons_succ]
          refine anyL_take (i := 2) (v := ?v2) rfl (by kernel_rfl) (by kernel_rfl) (by kernel_rfl) (by kernel_rfl) (fun _ _ _ h => h) (Or.inl ⟨by rfl, ?h2⟩) (unhide HS0) ?_
          case h2 => (intro w hSw; (try dsimp only at hSw); go_simp) <;> with_reducible rfl
          simp only [Act.put, List.getElem_toArray, List.getElem_cons_zero, List.getElem_cons_succ, List.setIfInBounds_toArray, List.set_cons_zero, List.set_cons_succ]
          refine anyL_take (i := 3) (v := ?v3) rfl (by kernel_rfl) (by kernel_rfl) (by kernel_rfl) (by kernel_rfl) (fun _ _ _ h => h) (Or.inl ⟨by rfl, ?h3⟩) (unhide HS0) ?_
          case h3 => (intro w hSw; (try dsimp only at hSw); go_simp) <;> with_reducible rfl
          simp only [Act.put, List.getElem_toArray, List.getElem_cons_zero, List.getElem_cons_succ, List.setIfInBounds_toArray, List.set_cons_zero, List.set_cons_succ]
          refine anyL_take (i := 4) (v := ?v4) rfl (by kernel_rfl) (by kernel_rfl) (by kernel_rfl) (by kernel_rfl) (fun _ _ _ h => h) (Or.inl ⟨by rfl, ?h4⟩) (unhide HS0) ?_
          case h4 => (intro w hSw; (try dsimp only at hSw); go_simp) <;> with_reducible rfl
          simp only [Act.put, List.getElem_toArray, List.getElem_cons_zero, List.getElem_cons_succ, List.setIfInBounds_toArray, List.set_cons_zero, List.set_cons_succ]
          refine anyL_ready (rs := [5]) (by kernel_rfl) (by simp) ?_
          refine AllL.cons rfl (fun K hK => ?_) AllL.nil
          go_simp
          refine (unhide HRF).mono ?_
          rintro e w10 ⟨a10, c10, v10, rfl, i10, o10, b10, k10⟩
          simp only [Int.sub_add_cancel]
          have z10 := b10.size
          have b10' : Below w9.heap.size w9 w10 := (unhide DD9).trans (b10.mono (by omega))
          have x10 := (b10'.block G (by omega)).trans (unhide X9)
          obtain ⟨c70, c71, f70, f71⟩ := cells2 x10
          have HS7 : Hid (w10.cell? ⟨G, 0, none⟩ = some (.slice aH h.length cH) ∧ w10.cell? ⟨G, 1, none⟩ = some (.int .i64 (fd - (h.length : Int))) ∧ w10.cell? ⟨gp, offp + k, none⟩ = some (.slice A r.length C)) := hide ⟨c70, c71, (b10.cell (p := ⟨gp, offp + k, none⟩) (by show gp < _; have := (unhide D9).size; omega)).trans (unhide HS0).2.2⟩
          have c71' : (w10.setCell ⟨G, 0, none⟩ (.slice a10 (scanS h r).2.length c10)).cell? ⟨G, 1, none⟩ = some (.int .i64 (fd - (h.length : Int))) := by rw [cell_set (by rw [c70]; rfl), if_neg (by omega)]; exact c71
          have f71' : (w10.setCell ⟨G, 0, none⟩ (.slice a10 (scanS h r).2.length c10)).frozen? ⟨G, 1, none⟩ = false := by rw [frozen_set]; exact f71
          obtain ⟨aw, k11, rfl, _, t10, m10⟩ := o10.at
          obtain ⟨l1, l2, l3⟩ := Po.lists (Sv := .slice a10 (scanS h r).2.length c10) (Pv := .int .i64 (fd + (r.length : Int) - ((scanS h r).2.length : Int))) (unhide HX) (unhide HB5) (unhide O6) (unhide F6) (unhide hf) kg (unhide B8) (unhide T9) (unhide M9) (unhide F9) b10' t10 (fun x hx => by have := m10 x hx; omega)
          have L1 := hide l1
          have L2 := hide l2
          have L3 := hide l3
          have I10 := hide i10
          have B10 := hide b10'
          have K10 : Hid (∀ x, a10 = some x → w9.heap.size ≤ x.block ∧ x.block < w10.heap.size) := hide (fun x hx => by have := k10 x hx; omega)
          have M10 : Hid (∀ x, aw = some x → w9.heap.size ≤ x.block ∧ x.block < w10.heap.size) := hide (fun x hx => by have := m10 x hx; omega)
          clear o10 i10 b10 k10 HRF x10 t10 m10 l1 l2 l3 b10'
          try dsimp only
          refine unhide hK _ _ (fun _ => unhide HS7) ?_
          clear hK K
          refine anyL_take (i := 6) (v := ?v6) rfl (by kernel_rfl) (by kernel_rfl) (by kernel_rfl) (by kernel_rfl) (fun _ _ _ h => h) (Or.inl ⟨by rfl, ?h6⟩) (unhide HS7) ?_
          case h6 => (intro w hSw; (try dsimp only at hSw); go_simp) <;> with_reducible rfl
          simp only [Act.put, List.getElem_toArray, List.getElem_cons_zero, List.getElem_cons_succ, List.setIfInBounds_toArray, List.set_cons_zero, List.set_cons_succ]
          refine anyL_free (i := 7) (v := ?v7) rfl (by kernel_rfl) (by kernel_rfl) (by kernel_rfl) rfl (fun _ _ _ h => h) (Or.inl ⟨by rfl, ?h7⟩) ?_
          case h7 => (intro w hSw; (try dsimp only at hSw); go_simp) <;> with_reducible rfl
          simp only [Act.put, List.getElem_toArray, List.getElem_cons_zero, List.getElem_cons_succ, List.setIfInBounds_toArray, List.set_cons_zero, List.set_cons_succ]
          refine anyL_free (i := 8) (v := ?v8) rfl (by kernel_rfl) (by kernel_rfl) (by kernel_rfl) rfl (fun _ _ _ h => h) (Or.inl ⟨by rfl, ?h8⟩) ?_
          case h8 => (intro w hSw; (try dsimp only at hSw); go_simp) <;> with_reducible rfl
          simp only [Act.put, List.getElem_toArray, List.getElem_cons_zero, List.getElem_cons_succ, List.setIfInBounds_toArray, List.set_cons_zero, List.set_cons_succ]
          refine anyL_ready (rs := [9]) (by kernel_rfl) (by simp) ?_
          refine AllL.cons rfl (fun K hK => ?_) AllL.nil
          go_simp
          refine unhide hK _ _ (fun h => absurd h (by decide)) ?_
          clear hK K
          refine anyL_ready (rs := [10]) (by kernel_rfl) (by simp) ?_
          refine AllL.cons rfl (fun K hK => ?_) AllL.nil
          go_simp
          refine unhide hK _ _ (fun h => absurd h (by decide)) ?_
          clear hK K
          refine anyL_done (by kernel_rfl) ?_ _
          clear c70 c71 f70 f71 c71' f71' HS0 HS7
          obtain ⟨w11, hw11⟩ : ∃ w11, w11 = (w10.setCell ⟨G, 0, none⟩ (.slice a10 (scanS h r).2.length c10)).setCell ⟨G, 1, none⟩ (.int .i64 (fd + (r.length : Int) - ((scanS h r).2.length : Int))) := ⟨_, rfl⟩
          have z11 : w11.heap.size = w10.heap.size := by rw [hw11, size_set, size_set]
          rw [← hw11] at L1 L2 L3 ⊢
          have HW11 := hide hw11
          clear hw11
          obtain ⟨aa, ka, hv6, _, ta, ma⟩ := (unhide L1).at
          subst hv6
          have TA := hide ta
          have MA := hide ma
          clear ta ma
          try dsimp only
          go_wp2_with fail
          refine (Same4_at aa aw _ _ (scanS h r).1 _ (unhide TA) (unhide L3) (by omega)).mono ?_
          rintro e w12 ⟨rfl, n12, rfl⟩
          dsimp only
          have L2' : Hid (TrisAt (w11.drewN n12) ab (scanS h r).1) := hide (unhide L2)
          have L3' : Hid (TrisAt (w11.drewN n12) aw (scanS h r).1) := hide (unhide L3)
          have G12 : Hid (w11.grownBy (w11.drewN n12) none) := hide ⟨rfl, rfl, rfl, Nat.le_refl _, fun _ _ _ => rfl⟩
          have A12 : Hid (RT w5.heap.size (.slice aa (scanS h r).1.length ka) (scanS h r).1 (w11.drewN n12)) := hide (unhide L1)
          have z12 : (w11.drewN n12).heap.size = w11.heap.size := rfl
          generalize w11.drewN n12 = w12 at *
          clear L1 L2 L3 TA
          go_wp2_with fail
          refine (Same4_at ab aw _ _ (scanS h r).1 _ (unhide L2') (unhide L3') (by omega)).mono ?_
          rintro e w13 ⟨rfl, n13, rfl⟩
          dsimp only
          have L2 : Hid (TrisAt (w12.drewN n13) ab (scanS h r).1) := hide (unhide L2')
          have L3 : Hid (TrisAt (w12.drewN n13) aw (scanS h r).1) := hide (unhide L3')
          have G13 : Hid (w11.grownBy (w12.drewN n13) none) := hide ⟨(unhide G12).os, (unhide G12).tape, (unhide G12).output, (unhide G12).size, (unhide G12).block⟩
          have A13 : Hid (RT w5.heap.size (.slice aa (scanS h r).1.length ka) (scanS h r).1 (w12.drewN n13)) := hide (unhide A12)
          have z13 : (w12.drewN n13).heap.size = w11.heap.size := z12
          generalize w12.drewN n13 = w13 at *
          clear L2' L3' G12 A12
          go_wp2_with fail
          have hrow : Hid (∀ x, (Value.slice aa (scanS h r).1.length ka).ownBlock = some x → w5.heap.size ≤ x ∧ x < w6.heap.size) := hide (fun x hx => (unhide O6).lt x hx)
          have hL := hide (unhide hf)
          clear hf
          go_loopw [106] (fun i wx => ∃ (j : Nat) (us : List Tri), j ≤ (scanS h r).1.length ∧ us.length = (scanS h r).1.length ∧ i = .int .i64 j ∧ Hid (RT w5.heap.size (.slice aa (scanS h r).1.length ka) us wx) ∧ Hid (w11.grownBy wx (Value.slice aa (scanS h r).1.length ka).ownBlock)) (fun i _ => (scanS h r).1.length - (intOf i).toNat)
          case atStart => exact ⟨0, _, Nat.zero_le _, rfl, rfl, A13, hide (grown_none (unhide G13) _)⟩
          case round =>
            obtain ⟨j, us, hj, hul, rfl, ho, hg⟩ := hrel
            by_cases hlt3 : j < (scanS h r).1.length
            · obtain ⟨ga, rfl, _⟩ := (unhide ho).form (by omega)
              have ho' : RT w5.heap.size (.slice (some ⟨ga, 0, none⟩) us.length ka) us wr := by rw [hul]; exact unhide ho
              have hs' := ho'.set (-1, 0, false) (k := j) (by omega)
              rw [hul] at hs'
              obtain ⟨q1, q2, q3⟩ := ho'.cells (k := j) (by omega)
              have f0 := World.ownsRow.frozenAt ho' (j * 3)
              have f1 := World.ownsRow.frozenAt ho' (j * 3 + 1)
              have f2 := World.ownsRow.frozenAt ho' (j * 3 + 2)
              obtain ⟨y1, e1⟩ := Option.isSome_iff_exists.1 q1
              obtain ⟨y2, e2⟩ := Option.isSome_iff_exists.1 q2
              obtain ⟨y3, e3⟩ := Option.isSome_iff_exists.1 q3
              have HS := hide hs'
              have HG : Hid (w11.grownBy (((wr.setCell ⟨ga, j * 3, none⟩ (.int .i32 (-1))).setCell ⟨ga, j * 3 + 1, none⟩ (.int .i64 0)).setCell ⟨ga, j * 3 + 2, none⟩ (.bool false)) (some ga)) := hide (grown_trans (grown_trans (grown_trans (unhide hg) (grown_set _ ga _ _) (fun k e => Or.inl (by cases e; rfl))) (grown_set _ ga _ _) (fun k e => Or.inl (by cases e; rfl))) (grown_set _ ga _ _) (fun k e => Or.inl (by cases e; rfl)))
              have hul' := hide (show (us.set j (-1, 0, false)).length = (scanS h r).1.length by rw [List.length_set]; exact hul)
              clear hs' ho' q1 q2 q3 ho hg hul
              have hji : (j : Int) < ((scanS h r).1.length : Int) := by omega
              generalize (scanS h r).1.length = N at *
              go_wp2_with fail
              exact ⟨⟨j + 1, _, hlt3, unhide hul', by go_num, HS, HG⟩, by simp [intOf]; omega⟩
            · obtain rfl : j = (scanS h r).1.length := by omega
              have hnl : ¬ (((scanS h r).1.length : Int) < ((scanS h r).1.length : Int)) := by omega
              go_wp2_with fail
              have hul0 := hide hul
              clear hul hnl
              go_loopw [9, 14] (fun v i wx => ∃ (j : Nat) (us : List Tri), j ≤ 40 ∧ Hid (us.length = (scanS h r).1.length + j) ∧ i = .int .i64 j ∧ Hid (RT w5.heap.size v us wx) ∧ Hid (v.ownBlock = (Value.slice aa (scanS h r).1.length ka).ownBlock ∨ ∃ g, v.ownBlock = some g ∧ w11.heap.size ≤ g) ∧ Hid (w11.grownBy wx (Value.slice aa (scanS h r).1.length ka).ownBlock)) (fun _ i _ => 40 - (intOf i).toNat)
              case atStart => exact ⟨0, us, by omega, hul0, rfl, ho, hide (Or.inl rfl), hg⟩
              case round =>
                clear ho hg hul0
                obtain ⟨j, us', hj4, hul4, rfl, ho, hvb, hg⟩ := hrel
                by_cases hlt4 : j < 40
                · have hul5 := unhide hul4
                  have zg := (unhide hg).size
                  obtain ⟨g14, k14, w14, r14, o14, gg14, hb14⟩ := (unhide ho).pushl (-2) 0 false (by omega) (by omega)
                  have hga := World.grownBy_alloc wr (.cells #[.int .i32 (-2), .int .i64 ((0 : Nat) : Int), .bool false] 42) none
                  have G14 : Hid (w11.grownBy w14 (Value.slice aa (scanS h r).1.length ka).ownBlock) := hide (grownO_trans (grownO_trans (unhide hg) hga (fun k e => by cases e)) gg14 (fun k e => by
                    rcases unhide hvb with h' | ⟨g', h', h''⟩
                    · left; rw [← h']; exact e
                    · right; rw [h'] at e; cases e; exact h''))
                  have V14 : Hid ((Value.slice (some ⟨g14, 0, none⟩) (us'.length + 1) k14).ownBlock = (Value.slice aa (scanS h r).1.length ka).ownBlock ∨ ∃ g, (Value.slice (some ⟨g14, 0, none⟩) (us'.length + 1) k14).ownBlock = some g ∧ w11.heap.size ≤ g) := hide (by
                    rcases hb14 with h' | h'
                    · rcases unhide hvb with q | ⟨g', q, q'⟩
                      · left; rw [← q, h']; rfl
                      · right; rw [h'] at q; cases q; exact ⟨g14, rfl, q'⟩
                    · right; exact ⟨g14, rfl, by omega⟩)
                  have O14 := hide o14
                  have R14 := hide r14
                  have U14 : Hid ((us' ++ [((-2 : Int), 0, false)]).length = (scanS h r).1.length + (j + 1)) := hide (by simp; omega)
                  clear r14 o14 gg14 hb14 hga ho hvb hg hul4 hul5 zg
                  have hji : (j : Int) < 40 := by omega
                  go_wp2_with (at_builtin; refine wpList_append_known rfl _ _ 30 30 rfl _ _ rfl rfl _ _ (unhide R14) ?_)
                  exact ⟨⟨j + 1, _, by omega, U14, by go_num, O14, V14, G14⟩, by simp [intOf]; omega⟩
                · obtain rfl : j = 40 := by omega
                  obtain ⟨w15, hw15⟩ : ∃ w15, w15 = wr := ⟨_, rfl⟩
                  subst hw15
                  have L2e := hide (tris_kept (unhide L2) (show w13.grownBy w15 (Value.slice aa (scanS h r).1.length ka).ownBlock from ⟨(unhide hg).os.trans (unhide G13).os.symm, (unhide hg).tape.trans (unhide G13).tape.symm, (unhide hg).output.trans (unhide G13).output.symm, by have := (unhide hg).size; omega, fun k hk hne => ((unhide hg).block k (by omega) hne).trans ((unhide G13).block k (by omega) (by simp)).symm⟩) (fun x hx => by
                    have := unhide M9 x hx
                    refine ⟨by omega, fun e => ?_⟩
                    have := unhide hrow _ e.symm
                    omega))
                  have L3e := hide (tris_kept (unhide L3) (show w13.grownBy w15 (Value.slice aa (scanS h r).1.length ka).ownBlock from ⟨(unhide hg).os.trans (unhide G13).os.symm, (unhide hg).tape.trans (unhide G13).tape.symm, (unhide hg).output.trans (unhide G13).output.symm, by have := (unhide hg).size; omega, fun k hk hne => ((unhide hg).block k (by omega) hne).trans ((unhide G13).block k (by omega) (by simp)).symm⟩) (fun x hx => by
                    have := unhide M10 x hx
                    refine ⟨by omega, fun e => ?_⟩
                    have := unhide hrow _ e.symm
                    omega))
                  have HPn : Hid (Po gs gt G (G + 1) (scanS h r).2 (fd + (r.length : Int)) a10 c10 w w15) := hide (Po.next (unhide HX) (unhide HB5) (unhide S6) (unhide F6) (unhide hL) hgw (unhide B8) (unhide S9) (unhide F9) (unhide B10) (unhide I10) (unhide K10) hHel (row := (Value.slice aa (scanS h r).1.length ka).ownBlock) (unhide hrow) (by rw [← unhide HW11]; exact unhide hg))
                  have hfl' : ((scanS h r).2.length : Int) ≤ fd + (r.length : Int) := by omega
                  have hf1' : fd + (r.length : Int) ≤ 1048576 * ((k + 1 : Nat) : Int) := by omega
                  clear ho hvb hg hul4 L2 L3
                  go_wp2_with fail
                  refine (Same4_at ab aw _ _ (scanS h r).1 _ (unhide L2e) (unhide L3e) (by omega)).mono ?_
                  rintro e w16 ⟨rfl, n16, rfl⟩
                  dsimp only
                  have HPe : Hid (Po gs gt G (G + 1) (scanS h r).2 (fd + (r.length : Int)) a10 c10 w (w15.drewN n16)) := hide (by
                    have p := unhide HPn
                    have bd : Below w15.heap.size w15 (w15.drewN n16) := Below.drewN (Below.refl _ _) n16
                    exact ⟨p.py.on bd, p.sct, p.lo, p.hi, p.ne⟩)
                  go_wp2_with fail
                  exact ⟨⟨k + 1, (scanS h r).2, fd + (r.length : Int), a10, c10, by go_num, hlt, hfl', hf1', HPe⟩, by simp [intOf]; omega⟩
    · obtain rfl : k = ls.length := by omega
      obtain ⟨c0, _, _, _⟩ := cells2 (unhide HX).py.box
      go_wp2_with fail
      go_quiet (first
        | (go_at_call 13; exact Calls.quiet_of_same (Held_at gs h fd _ (show Sca (World.drewN wo _) gs h fd from (unhide HX).py.sca)))
        | (go_at_call 13; exact Calls.quiet_of_same (Held_at gt h fd _ (show Sca (World.drewN wo _) gt h fd from (unhide HX).sct))))
      go_wp2_with fail
      go_ret
      exact ⟨rfl, Below.drewN (unhide HX).py.below _⟩
end Go.Proofs.YtpgipahlhbkjjaaDoor
