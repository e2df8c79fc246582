/- The walk of ScanPieces. -/
import Derived.Test.YthpbgeaajehlkaaDoorPieD
import Derived.Test.YthpbgeaajehlkaaDoorPieE
import Derived.Test.YthpbgeaajehlkaaDoorPieF
import Derived.Deep.CutRange
namespace Go.Proofs.YthpbgeaajehlkaaDoor
open Go.ChangeShapes Go.WideShapes Go.ChangeAt Go.RowKit

theorem fn_nil (g : Nat) (W : World) : (binOp BinOp.eql 42 (.func (.func 26) #[] #[.pointer (some ⟨g, 0, none⟩)]) .nilFunc).run Tryd.prog W = .ok (.bool false) W := by kernel_rfl
def onlyN (Q : Exit → Act → World → Prop) : Exit → Act → World → Prop
  | .normal, a, w => Q .normal a w
  | _, _, _ => False
theorem wp_onlyN {P : Program} {c : Code} {Q : Exit → Act → World → Prop} {a : Act} {w : World} (h : c.wp P (onlyN Q) a w) : c.wp P Q a w :=
  wp_mono h (fun e a w h => by cases e <;> first | exact h | exact h.elim)

set_option maxRecDepth 100000 in
set_option maxHeartbeats 4000000 in
theorem ScanPieces_any (a0 : Option Addr) (cap : Nat) (ls : List (List Int)) (w : World) (hB : IsBB w a0 ls) (hu : bulkL ls + ls.length ≤ 1048576) (hT : Tab w) :
    Calls Tryd.prog 4 #[.slice a0 ls.length cap] w fun e w' => e = .returned (.bool true) ∧ Below w.heap.size w w' := by
  refine (callsIn_wide (n := 3)).1 ?_
  have hz := hT.size
  refine callsIn_of_wp_marks Tryd.func4 rfl trivial ?_ rfl
  simp only [Tryd.ntmps4, List.size_toArray, List.length_cons, List.length_nil, Nat.reduceAdd, Nat.reduceSub, Array.replicate_succ, Array.replicate_zero, List.push_toArray, List.append_toArray, List.nil_append, List.cons_append]
  refine wpIn_wide.2 ?_
  have b0 : Below w.heap.size w (w.alloc (.cells #[.bool false] 4)) := (Below.refl _ _).alloc (Nat.le_refl _) _
  have bR0 := Boxed.new w 4 (.bool false)
  have z0 : w.heap.size < (w.alloc (.cells #[.bool false] 4)).heap.size := bR0.lt
  have HA := hide (awake4_any (w.alloc (.cells #[.bool false] 4)) (hT.below b0 hz))
  go_wp2_with fail
  refine (unhide HA).mono ?_
  rintro e w1 ⟨rfl, b1⟩
  generalize (w.alloc (.cells #[.bool false] 4)) = w0 at *
  clear HA
  have z1 := b1.size
  have bR1 := box_same bR0 (b1.block _ z0)
  have bb1 := b0.trans (b1.mono b0.size)
  dsimp only
  go_wp2_with fail
  refine (New_at w1).mono ?_
  rintro e w2 ⟨gs, rfl, hgs, s2, b2⟩
  have z2 := b2.size
  have hgs2 := s2.lt
  have bR2 := box_same bR1 (b2.block _ (by omega))
  have bb2 := bb1.trans (b2.mono (by omega))
  have bG3 := Boxed.new w2 30 (.slice none 0 0)
  have b3 : Below w2.heap.size w2 (w2.alloc (.cells #[.slice none 0 0] 30)) := (Below.refl _ _).alloc (Nat.le_refl _) _
  have z3 : (w2.alloc (.cells #[.slice none 0 0] 30)).heap.size = w2.heap.size + 1 := by simp
  have hPc : Pc w.heap.size w2.heap.size gs (w2.heap.size + 1) [] (.slice none 0 0) (.slice none 0 0) w (w2.alloc (.cells #[.slice none 0 0] 30)) :=
    ⟨s2.below b3 hgs2, World.ownsRow_nil _ _ _ _, RT.nil _ _, bG3, box_same bR2 (b3.block _ (by omega)), bb2.trans (b3.mono (by omega)), ⟨by omega, by omega, by omega⟩, ⟨by omega, by omega, by omega⟩, ⟨by omega, by omega, by omega⟩, by omega⟩
  have HP := hide hPc
  have HB := hide hB
  have HT := hide hT
  clear hPc s2 bG3 b3 bR2 bR1 bR0 bb2 bb1 b0 b1 b2 hB hT
  generalize hR : w.heap.size = R at *
  generalize hG : w2.heap.size = G at *
  dsimp only
  go_wp2_with fail
  generalize (w2.alloc (.cells #[.slice none 0 0] 30)) = w3 at *
  have hbulk := pcs_len ls
  go_loopw [4, 6] (fun va i wx => ∃ (k : Nat) (vg : Value), i = .int .i64 k ∧ k ≤ ls.length ∧ Hid (Pc R G gs (G + 1) (pcs ls k) va vg w wx)) (fun _ i _ => ls.length - (intOf i).toNat)
  case atStart => exact ⟨0, _, rfl, Nat.zero_le _, by rw [pcs_zero]; exact HP⟩
  case round =>
    obtain ⟨k, vg, rfl, hk, HX⟩ := hrel
    by_cases hlt : k < ls.length
    · have hbk := hbulk k
      have hbk1 := hbulk (k + 1)
      have hps := pcs_succ hlt
      have hpl : (pcs ls (k + 1)).length = (pcs ls k).length + (ls.getD k []).length := by rw [hps]; simp
      have HPS := hide hps
      clear hps
      have hHel : Hel (scanS [] (pcs ls k)).2 := scanS_hel _ (Or.inl rfl)
      have HBY := hide (pcs_bytes (unhide HB).bytes (k + 1) (by omega))
      have hlT := (unhide HX).lenT
      generalize pcs ls k = p at *
      obtain ⟨ag, cg, rfl, hcg, tg, kg⟩ := (unhide HX).got.at
      have hbx := (unhide HX).below
      rw [← hR] at hz
      obtain ⟨gp, offp, A, C, rfl, hgp, hcp, hrB⟩ := (unhide HB).at hlt
      generalize ls.getD k [] = r at *
      have UP : Hid (∀ w', Below R w w' → w'.cell? ⟨gp, offp + k, none⟩ = some (.slice A r.length C) ∧ IsB w' A C r) := hide (fun w' hb => ⟨(hb.cell (p := ⟨gp, offp + k, none⟩) (by show gp < R; omega)).trans hcp, hrB.below hb (by omega)⟩)
      have TB : Hid (∀ w', Below R w w' → Tab w') := hide (fun w' hb => (unhide HT).below hb (by omega))
      rw [hR] at hbx
      have XD : Hid (Pc R G gs (G + 1) p u4 _ w wr.drew) := hide ((unhide HX).on (Below.drewN (Below.refl _ _) 1))
      have hbd : Below R w wr.drew := Below.drewN hbx 1
      obtain ⟨lo1, lo2, lo3⟩ := (unhide HX).lo
      obtain ⟨hi1, hi2, hi3⟩ := (unhide HX).hi
      obtain ⟨ne1, ne2, ne3⟩ := (unhide HX).ne
      rw [hR] at lo1 lo2 lo3
      have HS0 : Hid (wr.drew.cell? ⟨G, 0, none⟩ = some (.slice ag (scanS [] p).1.length cg) ∧ wr.drew.cell? ⟨gp, offp + k, none⟩ = some (.slice A r.length C)) := hide ⟨(unhide XD).bg.cell, (unhide UP _ hbd).1⟩
      clear hcp hrB HX hbx tg kg
      have hkl : (k : Int) < (ls.length : Int) := by omega
      go_upto_region 9 with fail
      refine wp_onlyN ?_
      refine regionL (S := fun w' => w'.cell? ⟨G, 0, none⟩ = some (.slice ag (scanS [] p).1.length cg) ∧ w'.cell? ⟨gp, offp + k, none⟩ = some (.slice A r.length C)) (fun i => i == 10) (by kernel_rfl) ?_
      generalize wr.drew = wd at *
      have hzd := hbd.size
      have hGd := (unhide XD).bg.lt
      obtain ⟨a2, c2, w2, r2, i2, k2, b2⟩ := copy_new wd A C r (unhide UP _ hbd).2
      have z2' := b2.size
      have X2 := hide ((unhide XD).on b2)
      have bb2 := hbd.trans (b2.mono (by omega))
      have ba : Below wd.heap.size wd (wd.alloc (.cells #[] 5)) := (Below.refl _ _).alloc (Nat.le_refl _) _
      have HSa : Hid ((wd.alloc (.cells #[] 5)).cell? ⟨G, 0, none⟩ = some (.slice ag (scanS [] p).1.length cg) ∧ (wd.alloc (.cells #[] 5)).cell? ⟨gp, offp + k, none⟩ = some (.slice A r.length C)) := hide ⟨(ba.cell (p := ⟨G, 0, none⟩) hGd).trans (unhide HS0).1, (ba.cell (p := ⟨gp, offp + k, none⟩) (by show gp < _; omega)).trans (unhide HS0).2⟩
      have HS2 : Hid (w2.cell? ⟨G, 0, none⟩ = some (.slice ag (scanS [] p).1.length cg) ∧ w2.cell? ⟨gp, offp + k, none⟩ = some (.slice A r.length C)) := hide ⟨(unhide X2).bg.cell, (unhide UP _ bb2).1⟩
      have R2 := hide r2
      have I2 := hide i2
      have K2 := hide k2
      have hsl : gs < w2.heap.size := (unhide X2).sca.lt
      clear r2 i2 k2 ba
      refine anyL_take (i := 0) (v := ?v0) rfl (by kernel_rfl) (by kernel_rfl) (by kernel_rfl) (by kernel_rfl) (fun _ _ _ h => h) (Or.inl ⟨by rfl, ?h0⟩) (unhide HS0) ?_
      case h0 => (intro w hSw; (try dsimp only at hSw); go_simp) <;> with_reducible rfl
      simp only [Act.put, List.getElem_toArray, List.getElem_cons_zero, List.setIfInBounds_toArray, List.set_cons_zero, List.set_cons_succ]
      refine anyL_take (i := 1) (v := ?v1) rfl (by kernel_rfl) (by kernel_rfl) (by kernel_rfl) (by kernel_rfl) (fun _ _ _ h => h) (Or.inl ⟨by rfl, ?h1⟩) (unhide HS0) ?_
      case h1 => (intro w hSw; (try dsimp only at hSw); go_simp) <;> with_reducible rfl
      simp only [Act.put, List.getElem_toArray, List.getElem_cons_zero, List.getElem_cons_succ, List.setIfInBounds_toArray, List.set_cons_zero, List.set_cons_succ]
      refine anyL_take (i := 3) (v := ?v3) rfl (by kernel_rfl) (by kernel_rfl) (by kernel_rfl) (by kernel_rfl) (fun _ _ _ h => h) (Or.inl ⟨by rfl, ?h3⟩) (unhide HS0) ?_
      case h3 => (intro w hSw; (try dsimp only at hSw); go_simp) <;> with_reducible rfl
      simp only [Act.put, List.getElem_toArray, List.getElem_cons_zero, List.getElem_cons_succ, List.setIfInBounds_toArray, List.set_cons_zero, List.set_cons_succ]
      refine anyL_take (i := 4) (v := ?v4) rfl (by kernel_rfl) (by kernel_rfl) (by kernel_rfl) (by kernel_rfl) (fun _ _ _ h => h) (Or.inl ⟨by rfl, ?h4⟩) (unhide HS0) ?_
      case h4 => (intro w hSw; (try dsimp only at hSw); go_simp) <;> with_reducible rfl
      simp only [Act.put, List.getElem_toArray, List.getElem_cons_zero, List.getElem_cons_succ, List.setIfInBounds_toArray, List.set_cons_zero, List.set_cons_succ]
      refine anyL_take (i := 5) (v := ?v5) rfl (by kernel_rfl) (by kernel_rfl) (by kernel_rfl) (by kernel_rfl) (fun _ _ _ h => h) (Or.inl ⟨by rfl, ?h5⟩) (unhide HS0) ?_
      case h5 => (intro w hSw; (try dsimp only at hSw); go_simp) <;> with_reducible rfl
      simp only [Act.put, List.getElem_toArray, List.getElem_cons_zero, List.getElem_cons_succ, List.setIfInBounds_toArray, List.set_cons_zero, List.set_cons_succ]
      refine anyL_take (i := 6) (v := ?v6) rfl (by kernel_rfl) (by kernel_rfl) (by kernel_rfl) (by kernel_rfl) (fun _ _ _ h => h) (Or.inl ⟨by rfl, ?h6⟩) (unhide HS0) ?_
      case h6 => (intro w hSw; (try dsimp only at hSw); go_simp) <;> with_reducible rfl
      simp only [Act.put, List.getElem_toArray, List.getElem_cons_zero, List.getElem_cons_succ, List.setIfInBounds_toArray, List.set_cons_zero, List.set_cons_succ]
      refine anyL_ready (rs := [2]) (by kernel_rfl) (by simp) ?_
      refine AllL.cons rfl (fun K hK => ?_) AllL.nil
      go_simp
      refine unhide hK _ _ (fun _ => unhide HSa) ?_
      clear hK K
      refine anyL_ready (rs := [7]) (by kernel_rfl) (by simp) ?_
      refine AllL.cons rfl (fun K hK => ?_) AllL.nil
      refine step_append_in rfl _ _ 26 26 rfl _ _ rfl rfl _ _ (unhide R2) ?_
      refine unhide hK _ _ (fun _ => unhide HS2) ?_
      clear hK K
      simp only [Act.put, List.getElem_toArray, List.getElem_cons_zero, List.getElem_cons_succ, List.setIfInBounds_toArray, List.set_cons_zero, List.set_cons_succ]
      refine anyL_ready (rs := [8]) (by kernel_rfl) (by simp) ?_
      refine AllL.cons rfl (fun K hK => ?_) AllL.nil
      go_simp
      refine (Feed_at gs (scanS [] p).2 r _ a2 c2 w2 (unhide X2).sca hHel (unhide TB _ bb2) (unhide I2) (fun x hx => by have := unhide K2 x hx; omega) (by omega) (by omega) (by omega)).mono ?_
      rintro e w3' ⟨v3, rfl, r3, s3, f3⟩
      have z3' := f3.size
      have hlT2 := scanS_len (b := r) hHel
      obtain ⟨a3, c3, rfl, _, t3, _⟩ := r3.at
      have bb3 : Below R w w3' := bb2.trans ((f3.mono (by omega)).below (by omega))
      have rg := (unhide X2).row f3
      obtain ⟨v4, w4, r4, o4, x4, g4⟩ := append_tris (c := c3) 30 rg (by omega) t3 (by omega)
      obtain ⟨a4, c4, rfl, _⟩ := o4.at
      rw [List.length_append] at r4 o4
      obtain ⟨m1, m2, m3, m4, m5, m6⟩ := (unhide X2).mid f3 x4 g4 (.slice a4 ((scanS [] p).1.length + (scanS (scanS [] p).2 r).1.length) c4)
      rw [hR] at m5
      have cG3 : w3'.cell? ⟨G, 0, none⟩ = some (.slice ag (scanS [] p).1.length cg) := (box_same (unhide X2).bg (f3.block G (by omega) (by omega))).cell
      have HS3 : Hid (w3'.cell? ⟨G, 0, none⟩ = some (.slice ag (scanS [] p).1.length cg) ∧ w3'.cell? ⟨gp, offp + k, none⟩ = some (.slice A r.length C)) := hide ⟨cG3, (unhide UP _ bb3).1⟩
      have z4 := x4.size
      have cG4 := m1.cell
      have fG4 := m1.frozen
      have HS4 : Hid (w4.cell? ⟨G, 0, none⟩ = some (.slice ag (scanS [] p).1.length cg) ∧ w4.cell? ⟨gp, offp + k, none⟩ = some (.slice A r.length C)) := hide ⟨cG4, (unhide UP _ (bb3.trans (x4.mono (by omega)))).1⟩
      have R4 := hide r4
      clear r4
      dsimp only
      refine unhide hK _ _ (fun _ => unhide HS3) ?_
      clear hK K
      refine anyL_ready (rs := [9]) (by kernel_rfl) (by simp) ?_
      refine AllL.cons rfl (fun K hK => ?_) AllL.nil
      refine step_append_in rfl _ _ 30 30 rfl _ _ rfl rfl _ _ (unhide R4) ?_
      refine unhide hK _ _ (fun _ => unhide HS4) ?_
      clear hK K
      simp only [Act.put, List.getElem_toArray, List.getElem_cons_zero, List.getElem_cons_succ, List.setIfInBounds_toArray, List.set_cons_zero, List.set_cons_succ]
      refine anyL_ready (rs := [10]) (by kernel_rfl) (by simp) ?_
      refine AllL.cons rfl (fun K hK => ?_) AllL.nil
      go_simp
      refine unhide hK _ _ (fun h => absurd h (by decide)) ?_
      clear hK K
      refine anyL_done (by kernel_rfl) ?_ _
      unfold onlyN
      dsimp only
      have HBY' : Hid (∀ x ∈ p ++ r, 0 ≤ x ∧ x ≤ 255) := by rw [← unhide HPS]; exact HBY
      have hpr : (p ++ r).length ≤ 1048576 := by rw [← unhide HPS]; omega
      obtain ⟨v6, w6, r6, o6, x6, g6⟩ := append_bytes (a0 := A) (cap := C) 26 m4 m6 (unhide UP _ m5).2 (by rw [← List.length_append]; omega)
      have X6 := hide ((unhide X2).next f3 x4 g4 s3 o4 o6 x6 g6)
      have hcu5 := (unhide UP _ m5).1
      generalize (w4.setCell ⟨G, 0, none⟩ (.slice a4 ((scanS [] p).1.length + (scanS (scanS [] p).2 r).1.length) c4)) = w5 at *
      obtain ⟨a6, c6, rfl, i6⟩ := o6.isB (unhide HBY') (by omega)
      have R6 := hide r6
      have hH6 : Hel (scanS [] (p ++ r)).2 := scanS_hel _ (Or.inl rfl)
      have hl6 := hH6.len
      have S6 := hide (unhide X6).sca
      clear r6 o6 x6 g6 i6 m1 m2 m3 m4 cG3 cG4 fG4 HS0 HSa HS2 HS3 HS4 R2 R4 s3 o4 f3 t3 rg hlT2
      have e1 : ((((p ++ r).length : Int) - ((scanS [] (p ++ r)).2.length : Int) + ((scanS [] (p ++ r)).2.length : Int)) != ((p ++ r).length : Int)) = false := by rw [bne_eq_false_iff_eq]; omega
      have e1' : (((p ++ r).length : Int) - ((scanS [] (p ++ r)).2.length : Int) + ((scanS [] (p ++ r)).2.length : Int)) = ((p ++ r).length : Int) := by omega
      have e2 : decide (((scanS [] (p ++ r)).2.length : Int) < 0) = false := decide_eq_false (by omega)
      have e3 : decide (((scanS [] (p ++ r)).2.length : Int) > 3) = false := decide_eq_false (by omega)
      have e3' : decide ((3 : Int) < ((scanS [] (p ++ r)).2.length : Int)) = false := decide_eq_false (by omega)
      have hsc : (scanS [] (p ++ r)).2.length ≤ (p ++ r).length := by
        have := scanS_len (h := []) (b := p ++ r) (Or.inl rfl)
        simp only [List.length_nil] at this
        omega
      generalize (scanS [] (p ++ r)).2 = H6 at S6 e1 e1' e2 e3 e3' hl6 hH6 hsc
      generalize hL6 : (p ++ r).length = L6 at *
      have HL6 := hide hL6
      clear hL6
      go_wp2_with (first
        | (at_builtin; refine wpList_append_known rfl _ _ 26 26 rfl _ _ rfl rfl _ _ (unhide R6) ?_; clear R6)
        | (go_at_call 15; refine (Place_at gs H6 _ _ (unhide S6) (by omega) (by omega)).mono ?_; rintro e w7 ⟨rfl, n7, rfl⟩; dsimp only; have S7 := hide ((unhide S6).drewN n7); clear S6)
        | (go_at_call 16; refine (Held_at gs H6 _ _ (unhide S7)).mono ?_; rintro e w8 ⟨rfl, rfl⟩; dsimp only))
      exact ⟨⟨k + 1, _, rfl, by omega, hide (by rw [unhide HPS]; exact (unhide X6).on (Below.drewN (Below.refl _ _) n7))⟩, by simp [intOf]; omega⟩
    · obtain rfl : k = ls.length := by omega
      have hbk := hbulk ls.length
      have hHel : Hel (scanS [] (pcs ls ls.length)).2 := scanS_hel _ (Or.inl rfl)
      have HBY := hide (pcs_bytes (unhide HB).bytes ls.length (Nat.le_refl _))
      have hlT := (unhide HX).lenT
      have hst : stepsL (pcs ls ls.length) = (scanS [] (pcs ls ls.length)).1 ++ List.replicate (scanS [] (pcs ls ls.length)).2.length badT := by
        have := scanS_steps (pcs ls ls.length) (h := []) (Or.inl rfl) []
        simp only [List.nil_append, List.append_nil] at this
        rw [this]
        congr 1
        rcases hHel with e | hp
        · rw [e, stepsL_nil]; rfl
        · exact steps_prop hp
      have HST := hide hst
      clear hst
      generalize pcs ls ls.length = p at *
      obtain ⟨ag, cg, rfl, hcg, tg, kg⟩ := (unhide HX).got.at
      obtain ⟨aa, ca, rfl, _⟩ := (unhide HX).all.isB (unhide HBY) (by omega)
      have hbx := (unhide HX).below
      rw [hR] at hbx
      have TB : Hid (∀ w', Below R w w' → Tab w') := hide (fun w' hb => (unhide HT).below hb (by omega))
      have XD : Hid (Pc R G gs (G + 1) p _ _ w wr.drew) := hide ((unhide HX).on (Below.drewN (Below.refl _ _) 1))
      have hbd : Below R w wr.drew := Below.drewN hbx 1
      obtain ⟨lo1, lo2, lo3⟩ := (unhide HX).lo
      obtain ⟨hi1, hi2, hi3⟩ := (unhide HX).hi
      obtain ⟨ne1, ne2, ne3⟩ := (unhide HX).ne
      rw [hR] at lo1 lo2 lo3
      have HS0 : Hid (wr.drew.cell? ⟨G, 0, none⟩ = some (.slice ag (scanS [] p).1.length cg)) := hide (unhide XD).bg.cell
      clear HX hbx tg kg
      go_upto_region 13 with fail
      refine wp_onlyN ?_
      refine regionL (S := fun w' => w'.cell? ⟨G, 0, none⟩ = some (.slice ag (scanS [] p).1.length cg)) (fun i => i == 4) (by kernel_rfl) ?_
      generalize wr.drew = wd at *
      have hzd := hbd.size
      have hsl : gs < wd.heap.size := (unhide XD).sca.lt
      have htop := (unhide XD).top
      refine anyL_take (i := 0) (v := ?y0) rfl (by kernel_rfl) (by kernel_rfl) (by kernel_rfl) (by kernel_rfl) (fun _ _ _ h => h) (Or.inl ⟨by rfl, ?e0⟩) (unhide HS0) ?_
      case e0 => (intro w hSw; (try dsimp only at hSw); go_simp) <;> with_reducible rfl
      simp only [Act.put, List.getElem_toArray, List.getElem_cons_zero, List.setIfInBounds_toArray, List.set_cons_zero, List.set_cons_succ]
      refine anyL_take (i := 1) (v := ?y1) rfl (by kernel_rfl) (by kernel_rfl) (by kernel_rfl) (by kernel_rfl) (fun _ _ _ h => h) (Or.inl ⟨by rfl, ?e1⟩) (unhide HS0) ?_
      case e1 => (intro w hSw; (try dsimp only at hSw); go_simp) <;> with_reducible rfl
      simp only [Act.put, List.getElem_toArray, List.getElem_cons_zero, List.getElem_cons_succ, List.setIfInBounds_toArray, List.set_cons_zero, List.set_cons_succ]
      refine anyL_ready (rs := [2]) (by kernel_rfl) (by simp) ?_
      refine AllL.cons rfl (fun K hK => ?_) AllL.nil
      go_simp
      refine (End_at gs (scanS [] p).2 _ wd (unhide XD).sca).mono ?_
      rintro e w3' ⟨v3, rfl, r3, s3, f3⟩
      have z3' := f3.size
      obtain ⟨a3, c3, rfl, _, t3, _⟩ := r3.at
      have bb3 : Below R w w3' := hbd.trans ((f3.mono (by omega)).below (by omega))
      have rg := (unhide XD).row f3
      obtain ⟨v4, w4, r4, o4, x4, g4⟩ := append_tris (c := c3) 30 rg (by omega) t3 (by simp; omega)
      rw [← unhide HST] at o4
      obtain ⟨a4, c4, rfl, _⟩ := o4.at
      obtain ⟨m1, m2, m3, m4, m5, m6⟩ := (unhide XD).mid f3 x4 g4 (.slice a4 (stepsL p).length c4)
      rw [hR] at m5
      have cG3 : w3'.cell? ⟨G, 0, none⟩ = some (.slice ag (scanS [] p).1.length cg) := (box_same (unhide XD).bg (f3.block G (by omega) (by omega))).cell
      have cG4 := m1.cell
      have fG4 := m1.frozen
      have s5 : Sca (w4.setCell ⟨G, 0, none⟩ (.slice a4 (stepsL p).length c4)) gs [] (p.length : Int) := s3.same (by rw [size_set]; exact x4.size) ((set_same _ _ (Ne.symm ne3)).trans (x4.block gs hi3))
      have o5 : RT (G + 1) (.slice a4 (stepsL p).length c4) (stepsL p) (w4.setCell ⟨G, 0, none⟩ (.slice a4 (stepsL p).length c4)) := o4.same fun k hk _ => set_same _ _ (by omega)
      simp only [List.length_replicate] at r4 ⊢
      have R4 := hide r4
      clear r4
      try dsimp only
      refine unhide hK _ _ (fun _ => cG3) ?_
      clear hK K
      refine anyL_ready (rs := [3]) (by kernel_rfl) (by simp) ?_
      refine AllL.cons rfl (fun K hK => ?_) AllL.nil
      refine step_append_in rfl _ _ 30 30 rfl _ _ rfl rfl _ _ (unhide R4) ?_
      refine unhide hK _ _ (fun _ => cG4) ?_
      clear hK K
      simp only [Act.put, List.getElem_toArray, List.getElem_cons_zero, List.getElem_cons_succ, List.setIfInBounds_toArray, List.set_cons_zero, List.set_cons_succ]
      refine anyL_ready (rs := [4]) (by kernel_rfl) (by simp) ?_
      refine AllL.cons rfl (fun K hK => ?_) AllL.nil
      go_simp
      refine unhide hK _ _ (fun h => absurd h (by decide)) ?_
      clear hK K
      refine anyL_done (by kernel_rfl) ?_ _
      unfold onlyN
      dsimp only
      generalize (w4.setCell ⟨G, 0, none⟩ (.slice a4 (stepsL p).length c4)) = w5 at *
      have S5 := hide s5
      have O5 := hide o5
      have A5 := hide m4
      clear s5 o5 m4 m1 cG3 cG4 fG4 R4 s3 o4 f3 t3 rg HS0 XD x4 g4 r3
      obtain ⟨i5a, i5b⟩ : IsB w5 aa ca p ∧ True := by
        obtain ⟨a', c', e, hi⟩ := (unhide A5).isB (unhide HBY) (by omega)
        cases e
        exact ⟨hi, trivial⟩
      have ba1 : Below w5.heap.size w5 ((w5.alloc (.cells #[.int .i64 0] 3)).alloc (.cells #[.int .i64 0] 3)) := ((Below.refl _ _).alloc (Nat.le_refl _) _).alloc (by simp) _
      have za1 : ((w5.alloc (.cells #[.int .i64 0] 3)).alloc (.cells #[.int .i64 0] 3)).heap.size = w5.heap.size + 2 := by simp
      have bk1 : Boxed ((w5.alloc (.cells #[.int .i64 0] 3)).alloc (.cells #[.int .i64 0] 3)) w5.heap.size 3 (.int .i64 ((0 : Nat) : Int)) := (Boxed.new w5 3 (.int .i64 0)).alloc _
      have bA1 : Boxed ((w5.alloc (.cells #[.int .i64 0] 3)).alloc (.cells #[.int .i64 0] 3)) (w5.heap.size + 1) 3 (.int .i64 ((0 : Nat) : Int)) := by
        have := Boxed.new (w5.alloc (.cells #[.int .i64 0] 3)) 3 (.int .i64 0)
        rw [World.size_alloc] at this
        exact this
      have hAl := hide (All_at aa ca p _ (i5a.below ba1 (Nat.le_refl _)))
      go_wp2_with fail
      refine (unhide hAl).mono ?_
      rintro e w6 ⟨rfl, rfl⟩
      clear hAl
      rw [za1]
      generalize ((w5.alloc (.cells #[.int .i64 0] 3)).alloc (.cells #[.int .i64 0] 3)) = wq at *
      have zz5 := m5.size
      have bS := Boxed.new wq 9 (.string (strOfNums p))
      rw [za1] at bS
      have bq : Below wq.heap.size wq (wq.alloc (.cells #[.string (strOfNums p)] 9)) := (Below.refl _ _).alloc (Nat.le_refl _) _
      have zq : (wq.alloc (.cells #[.string (strOfNums p)] 9)).heap.size = w5.heap.size + 3 := by simp; omega
      have b56 : Below w5.heap.size w5 (wq.alloc (.cells #[.string (strOfNums p)] 9)) := ba1.trans (bq.mono (by omega))
      have bbq : Below R w (wq.alloc (.cells #[.string (strOfNums p)] 9)) := m5.trans (b56.mono (by omega))
      have hPl : Pl R G gs w5.heap.size (w5.heap.size + 1) (w5.heap.size + 2) (G + 1) p (.slice a4 (stepsL p).length c4) w 0 0 (wq.alloc (.cells #[.string (strOfNums p)] 9)) :=
        ⟨bk1.alloc _, bA1.alloc _, box_same m2 (b56.block G (by omega)), box_same m3 (b56.block R (by omega)), bS, (unhide O5).below b56, (unhide S5).below b56 (unhide S5).lt, bbq, ⟨by omega, by omega, by omega, by omega, by omega, by omega⟩⟩
      have hcN := bS.cell
      have hTq := unhide TB _ bbq
      have hsq := (unhide S5).lt
      generalize (wq.alloc (.cells #[.string (strOfNums p)] 9)) = w6 at *
      have HPl := hide hPl
      clear hPl bS bq b56 bk1 bA1 m2 m3 S5 O5 A5 i5a i5b ba1
      generalize hgk : w5.heap.size = gk at *
      have hnf := fn_nil (gk + 2) w6
      dsimp only
      go_wp2_with fail
      have hst := all_stopsQ (gk + 2) p w6 hcN (by omega) hTq (by unfold maxLen; omega) (unhide HBY)
      refine (wpIn_wide (n := 3)).1 ?_
      refine wpIn_rangeFunc_ownH rfl (by decide) (gf := 26) (lb := #[.pointer (some ⟨gk + 2, 0, none⟩)]) rfl trivial (enters_of Tryd.func26 (by kernel_rfl) rfl) hst kq_t (kq_b hTq.size (by omega)) (Below.refl _ _) (fun _ => rfl)
        (plI R G gs gk (gk + 1) (gk + 2) (G + 1) p (.slice a4 (stepsL p).length c4) w) (plX p) (plI_own _ _ _ _ _ _ _ _ _ _ _ (by omega) (by omega)) (fun _ _ _ _ _ h _ _ => h) ⟨0, rfl, Nat.zero_le _, unhide HPl⟩ (plA R G gk (gk + 1) p) (fun x a => plA_own _ _ _ _ _ _ x a) ?assign ?body ?done ?stop
      case assign =>
        intro lo pre x W K hI hK
        exact pie_assign R G gs gk (gk + 1) (gk + 2) (G + 1) p _ w _ _ _ rfl _ _ _ _ _ _ _ _ _ _ _ _ _ _ _ _ _ _ _ _ _ _ _ _ _ _ _ _ _ _ _ _ _ _ _ _ _ _ _ _ _ _ _ _ _ _ _ _ _ _ _ _ _ _ _ _ _ _ _ _ _ _ _ _ _ _ _ _ _ _ _ _ _ _ _ _ _ _ _ _ _ _ _ _ _ _ _ _ _ _ _ _ _ _ _ _ _ _ _ _ _ _ _ _ _ _ _ lo pre x W K hI (by omega) hK
      case body =>
        rintro lo pre ⟨x, hxs⟩ a' W hlo hrr ⟨q, h1, h2, hm⟩ hA hlt2
        have hne : gk ≠ gk + 1 ∧ G ≠ gk + 1 ∧ G ≠ gk ∧ R ≠ gk + 1 ∧ R ≠ gk ∧ gk + 2 ≠ gk + 1 ∧ gk + 2 ≠ gk ∧ gs ≠ gk + 1 ∧ gs ≠ gk := ⟨by omega, by omega, by omega, by omega, by omega, by omega, by omega, by omega, by omega⟩
        by_cases hxq : x = q
        · exact pie_right R G gs gk (gk + 1) (gk + 2) (G + 1) p _ w _ _ _ rfl lo pre x q hxs a' W h1 hm (by omega) (by omega) hne (by omega) hA hlt2 hxq
        · by_cases heq : ((first (p.drop q)).1 = (first (p.drop x)).1 ∧ wid (p.drop q) = wid (p.drop x) ∧ whl (p.drop q) = whl (p.drop x))
          · exact pie_alike R G gs gk (gk + 1) (gk + 2) (G + 1) p _ w _ _ _ rfl lo pre x q hxs a' W h1 hm (by omega) (by omega) hne (by omega) hA hlt2 hxq heq
          · exact pie_other R G gs gk (gk + 1) (gk + 2) (G + 1) p _ w _ _ _ rfl lo pre x q hxs a' W h1 hm (by omega) (by omega) hne (by omega) hA hlt2 hxq heq
      case done =>
        rintro D ys W hD hys ⟨q, h1, h2, hm⟩ hK
        have hq : q = p.length := by
          rcases Nat.lt_or_ge q p.length with h | h
          · rw [hys, spots_cons h] at h1
            have := congrArg List.length h1
            simp at this
          · omega
        have hN : ys.length = (stepsL p).length := by rw [← vals_len, hys]; simp [stepsL]
        rw [hq, hN] at hm
        have k0 := hm.bk.cell
        have q0 := hm.ba.cell
        have g0 := hm.bg.cell
        have r0 := hm.br.cell
        have rf := hm.br.frozen
        have HM := hide hm
        have HK := hide hK
        have hNl := stepsL_len p
        clear hm hK h1 hys hq hN
        generalize (stepsL p).length = N at *
        go_wp2_with (first
          | (go_at_call 16; refine (Held_at gs [] _ _ (unhide HM).sca).mono ?_; rintro e w8 ⟨rfl, rfl⟩; dsimp only)
          | (go_at_call 15; refine (Place_at gs [] _ _ (unhide HM).sca (by omega) (by omega)).mono ?_; rintro e w7 ⟨rfl, n7, rfl⟩; dsimp only))
        have hRD : D ≠ R := by omega
        have hKf : ((w8.drewN n7).setCell ⟨R, 0, none⟩ (.bool true)).heap[D]? = some (.deferred (some [])) := (set_same _ _ hRD).trans (unhide HK)
        have hBf : Below w.heap.size w ((w8.drewN n7).setCell ⟨R, 0, none⟩ (.bool true)) := by
          rw [hR]
          exact (Below.drewN (unhide HM).below n7).setCell (p := ⟨R, 0, none⟩) (Nat.le_refl _) _
        have bRf : Boxed ((w8.drewN n7).setCell ⟨R, 0, none⟩ (.bool true)) R 4 (.bool true) := Boxed.set (.bool true) (show Boxed (w8.drewN n7) R 4 (.bool false) from (unhide HM).br)
        generalize ((w8.drewN n7).setCell ⟨R, 0, none⟩ (.bool true)) = wf at *
        refine ⟨by simp, .inl ⟨_, _, rfl, run_takeDeferred hKf, ?_⟩⟩
        have hcf : (wf.putObj D (.deferred none)).cell? ⟨R, 0, none⟩ = some (.bool true) := (World.cell?_of_block (a := ⟨R, 0, none⟩) (World.putObj_heap_other (fun e => hRD e.symm))).trans bRf.cell
        exact ⟨.bool true, by simp [results, Tryd.results4, go_sem, hcf], rfl, below_put hBf (by omega)⟩
      case stop =>
        rintro D c pre W _ hpre h _
        exact (h hpre).elim
end Go.Proofs.YthpbgeaajehlkaaDoor
