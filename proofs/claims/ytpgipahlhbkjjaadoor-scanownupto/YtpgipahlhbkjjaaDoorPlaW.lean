/- The walk of ScanPlays. -/
import Derived.Test.YtpgipahlhbkjjaaDoorPla
import Derived.Test.YtpgipahlhbkjjaaDoorPlb
import Derived.Test.YtpgipahlhbkjjaaDoorLayF
import Derived.Test.YtpgipahlhbkjjaaDoorLaf
namespace Go.Proofs.YtpgipahlhbkjjaaDoor
open Go.ChangeShapes Go.WideShapes Go.ChangeAt Go.RowKit

theorem box2_set {W : World} {g : Nat} {x y : Value} {t : TypeId} (h : W.heap[g]? = some (.cells #[x, y] t (0, 0))) (u v : Value) : ((W.setCell ⟨g, 0, none⟩ u).setCell ⟨g, 1, none⟩ v).heap[g]? = some (.cells #[u, v] t (0, 0)) := by
  have h1 := heap_setCell_same W g 0 #[x, y] t u h
  exact heap_setCell_same _ g 1 _ t v h1
/-- between the rounds: n₁: where rows of the call's own begin -/
structure Py (gs gr n₁ : Nat) (h : List Int) (fed : Int) (aH : Option Addr) (cH : Nat) (w wx : World) : Prop where
  sca : Sca wx gs h fed
  box : wx.heap[gr]? = some (.cells #[.slice aH h.length cH, .int .i64 (fed - (h.length : Int))] 28 (0, 0))
  held : IsB wx aH cH h
  hel : Hel h
  blk : ∀ x, aH = some x → n₁ ≤ x.block ∧ x.block < wx.heap.size
  below : Below w.heap.size w wx
  lo : w.heap.size ≤ gs ∧ w.heap.size ≤ gr
  hi : gs < n₁ ∧ gr < n₁ ∧ n₁ ≤ wx.heap.size
  ne : gs ≠ gr
theorem Py.on {gs gr n₁ : Nat} {h : List Int} {fed : Int} {aH : Option Addr} {cH : Nat} {w wx w' : World} (p : Py gs gr n₁ h fed aH cH w wx) (hb : Below wx.heap.size wx w') : Py gs gr n₁ h fed aH cH w w' := by
  have hs := hb.size
  obtain ⟨l1, l2⟩ := p.lo
  obtain ⟨h1, h2, h3⟩ := p.hi
  have hz := p.below.size
  exact ⟨p.sca.below hb p.sca.lt, (hb.block gr (by omega)).trans p.box, p.held.below hb (Nat.le_refl _), p.hel, fun x hx => by have := p.blk x hx; omega, p.below.trans (hb.mono hz), p.lo, ⟨h1, h2, by omega⟩, p.ne⟩
/-- what End does to both -/
theorem Py.gone {gs gr n₁ : Nat} {h : List Int} {fed : Int} {aH : Option Addr} {cH : Nat} {w wx w1 w2 : World} (p : Py gs gr n₁ h fed aH cH w wx) (s1 : Sca w1 gs [] fed) (f1 : Scf wx.heap.size gs wx w1) (b2 : Below w1.heap.size w1 w2) :
    w1.heap[gr]? = some (.cells #[.slice aH h.length cH, .int .i64 (fed - (h.length : Int))] 28 (0, 0)) ∧ w2.heap[gr]? = some (.cells #[.slice aH h.length cH, .int .i64 (fed - (h.length : Int))] 28 (0, 0)) ∧
      Py gs gr n₁ [] fed none 0 w ((w2.setCell ⟨gr, 0, none⟩ (.slice none 0 0)).setCell ⟨gr, 1, none⟩ (.int .i64 fed)) := by
  obtain ⟨l1, l2⟩ := p.lo
  obtain ⟨h1, h2, h3⟩ := p.hi
  have hz := p.below.size
  have fs := f1.size
  have bs := b2.size
  have x1 := (f1.block gr (by omega) (Ne.symm p.ne)).trans p.box
  have x2 := (b2.block gr (by omega)).trans x1
  have hsz : ((w2.setCell ⟨gr, 0, none⟩ (.slice none 0 0)).setCell ⟨gr, 1, none⟩ (.int .i64 fed)).heap.size = w2.heap.size := by rw [size_set, size_set]
  refine ⟨x1, x2, ?_, ?_, ⟨by simp, by simp, Or.inl rfl, by simp⟩, Or.inl rfl, (fun x hx => by cases hx), ?_, p.lo, ⟨h1, h2, by rw [hsz]; omega⟩, p.ne⟩
  · exact (s1.below b2 s1.lt).same (by rw [hsz]; exact Nat.le_refl _) (((Scf.refl (gs + 1) gr w2).set 0 _).set 1 _ |>.block gs (Nat.lt_succ_self _) p.ne)
  · rw [box2_set x2]
    simp
  · have b1 : Below w.heap.size w w1 := p.below.trans ((f1.mono hz).below l1)
    have b2' : Below w.heap.size w w2 := b1.trans (b2.mono (by omega))
    exact (b2'.setCell (p := ⟨gr, 0, none⟩) l2 _).setCell (p := ⟨gr, 1, none⟩) l2 _
/-- what Feed does to both -/
theorem Py.fed {gs gr n₁ : Nat} {h : List Int} {fed fed' : Int} {aH a' : Option Addr} {cH c' : Nat} {w wx w1 w2 w3 : World} {H : List Int} {pl : Int} (p : Py gs gr n₁ h fed aH cH w wx) (b1 : Below wx.heap.size wx w1) (s2 : Sca w2 gs H fed') (f2 : Scf w1.heap.size gs w1 w2) (b3 : Below w2.heap.size w2 w3)
    (i3 : IsB w3 a' c' H) (k3 : ∀ x, a' = some x → w2.heap.size ≤ x.block ∧ x.block < w3.heap.size) (hH : Hel H) (hpl : pl = fed' - (H.length : Int)) :
    w3.heap[gr]? = some (.cells #[.slice aH h.length cH, .int .i64 (fed - (h.length : Int))] 28 (0, 0)) ∧
      Py gs gr n₁ H fed' a' c' w ((w3.setCell ⟨gr, 0, none⟩ (.slice a' H.length c')).setCell ⟨gr, 1, none⟩ (.int .i64 pl)) := by
  subst hpl
  obtain ⟨l1, l2⟩ := p.lo
  obtain ⟨h1, h2, h3⟩ := p.hi
  have hz := p.below.size
  have s1 := b1.size
  have fs := f2.size
  have bs := b3.size
  have x2 := (f2.block gr (by omega) (Ne.symm p.ne)).trans ((b1.block gr (by omega)).trans p.box)
  have x3 := (b3.block gr (by omega)).trans x2
  have hsz : ((w3.setCell ⟨gr, 0, none⟩ (.slice a' H.length c')).setCell ⟨gr, 1, none⟩ (.int .i64 (fed' - (H.length : Int)))).heap.size = w3.heap.size := by rw [size_set, size_set]
  have sc : Scf w3.heap.size gr w3 ((w3.setCell ⟨gr, 0, none⟩ (.slice a' H.length c')).setCell ⟨gr, 1, none⟩ (.int .i64 (fed' - (H.length : Int)))) := ((Scf.refl _ gr w3).set 0 _).set 1 _
  refine ⟨x3, ?_, box2_set x3 _ _, i3.scf sc (fun x hx => by have := k3 x hx; omega), hH, (fun x hx => by have := k3 x hx; omega), ?_, p.lo, ⟨h1, h2, by rw [hsz]; omega⟩, p.ne⟩
  · exact (s2.below b3 s2.lt).scf sc (by omega) p.ne
  · have e1 : Below w.heap.size w w2 := (p.below.trans (b1.mono hz)).trans ((f2.mono (by omega)).below l1)
    have e2 : Below w.heap.size w w3 := e1.trans (b3.mono (by omega))
    exact (e2.setCell (p := ⟨gr, 0, none⟩) l2 _).setCell (p := ⟨gr, 1, none⟩) l2 _

set_option maxRecDepth 100000 in
set_option maxHeartbeats 4000000 in
theorem ScanPlays_any (a0 : Option Addr) (cap : Nat) (fs : List (List Int × Bool)) (w : World) (hB : IsFe w a0 fs) (hu : bulkF fs + fs.length ≤ 1048576) (hT : Tab w) :
    Calls Tryd.prog 3 #[.slice a0 fs.length cap] w fun e w' => e = .returned (.bool true) ∧ Below w.heap.size w w' := by
  have hz := hT.size
  go_enter Tryd.func3, Tryd.ntmps3
  go_wp2_with fail
  refine (awake4_any w hT).mono ?_
  rintro e w1 ⟨rfl, b1⟩
  have z1 := b1.size
  dsimp only
  go_wp2_with fail
  refine (New_at w1).mono ?_
  rintro e w2 ⟨gs, rfl, hgs, s2, b2⟩
  have z2 := b2.size
  have hgs2 := s2.lt
  have b3 : Below w2.heap.size w2 (w2.alloc (.cells #[.slice none 0 0, .int .i64 0] 28)) := (Below.refl _ _).alloc (Nat.le_refl _) _
  have z3 : (w2.alloc (.cells #[.slice none 0 0, .int .i64 0] 28)).heap.size = w2.heap.size + 1 := by simp
  have hPy : Py gs w2.heap.size (w2.heap.size + 1) [] 0 none 0 w (w2.alloc (.cells #[.slice none 0 0, .int .i64 0] 28)) :=
    ⟨s2.below b3 hgs2, alloc_get w2 _, ⟨by simp, by simp, Or.inl rfl, by simp⟩, Or.inl rfl, (fun x hx => by cases hx), (b1.trans (b2.mono z1)).trans (b3.mono (by omega)), ⟨by omega, by omega⟩, ⟨by omega, by omega, by omega⟩, by omega⟩
  have HP := hide hPy
  have hgc := cells2 hPy.box
  obtain ⟨d0, d1, _, _⟩ := hgc
  have HB := hide hB
  have HT := hide hT
  clear hPy s2 b1 b2 b3 hB hT
  dsimp only
  generalize hR : w.heap.size = R at *
  generalize hG : w2.heap.size = G at *
  go_wp2_with fail
  generalize (w2.alloc (.cells #[.slice none 0 0, .int .i64 0] 28)) = w3 at *
  have TB : Hid (∀ w', Below w.heap.size w w' → Tab w') := hide (fun w' hb => (unhide HT).below hb (by omega))
  refine (told4_at gs [] 0 _ none 0 none none 0 0 0 [] w3 (unhide HP).sca (Or.inl rfl) (unhide TB _ (unhide HP).below) (unhide HP).held (by decide) (by decide) (by simp) (Or.inl rfl) (Or.inl rfl) (by simp) rfl).mono ?_
  rintro e w4 ⟨rfl, b4⟩
  have HP4 := hide ((unhide HP).on b4)
  clear HP b4 d0 d1
  dsimp only
  go_wp2_with fail
  go_loopw [5, 6, 7] (fun i _ _ wx => ∃ (k : Nat) (h : List Int) (fd : Int) (aH : Option Addr) (cH : Nat), i = .int .i64 k ∧ k ≤ fs.length ∧ (h.length : Int) ≤ fd ∧ fd ≤ 1048576 * (k : Int) ∧ Hid (Py gs G (G + 1) h fd aH cH w wx)) (fun i _ _ _ => fs.length - (intOf i).toNat)
  case atStart => exact ⟨0, [], 0, none, 0, rfl, Nat.zero_le _, by decide, by decide, HP4⟩
  case round =>
    obtain ⟨k, h, fd, aH, cH, rfl, hk, hfl, hf1, HX⟩ := hrel
    have hf0 : 0 ≤ fd := by omega
    by_cases hlt : k < fs.length
    · obtain ⟨gp, offp, A, C, rfl, hgp, hcp, hrB, hcE⟩ := (unhide HB).at hlt
      have hbl := bulkF_at hlt
      generalize (fs.getD k ([], false)).1 = r at *
      generalize (fs.getD k ([], false)).2 = en at *
      have UP : Hid (∀ w', Below w.heap.size w w' → w'.cell? ⟨gp, offp + k * 2, none⟩ = some (.slice A r.length C) ∧ IsB w' A C r) := hide (fun w' hb => ⟨(hb.cell (p := ⟨gp, offp + k * 2, none⟩) hgp).trans hcp, hrB.below hb (Nat.le_refl _)⟩)
      have hbx := (unhide HX).below
      have hcx := (unhide UP _ hbx).1
      have hex : wr.cell? ⟨gp, offp + k * 2 + 1, none⟩ = some (.bool en) := (hbx.cell (p := ⟨gp, offp + k * 2 + 1, none⟩) hgp).trans hcE
      have hkl : (k : Int) < (fs.length : Int) := by omega
      have hl3 : h.length ≤ 3 := (unhide HX).sca.2.1
      obtain ⟨hi1, hi2, hi3⟩ := (unhide HX).hi
      clear hcp hrB hcE hbx
      cases en with
      | true =>
        go_wp2_with fail
        refine (End_at gs h fd _ (unhide HX).sca).mono ?_
        rintro e w5 ⟨v5, rfl, o5, s5, f5⟩
        have z5 := f5.size
        have x5 := (f5.block G (by omega) (Ne.symm (unhide HX).ne)).trans (unhide HX).box
        obtain ⟨c50, c51, _, _⟩ := cells2 x5
        obtain ⟨a5, k5, rfl, _, t5, m5⟩ := o5.at
        simp only [List.length_replicate]
        try dsimp only
        go_wp2_with fail
        refine (REnd_at aH cH h.length _ w5 hl3 (by omega) (by omega)).mono ?_
        rintro e w6 ⟨v6, rfl, o6, b6⟩
        simp only [Int.sub_add_cancel]
        have z6 := b6.size
        obtain ⟨_, x6, P6⟩ := (unhide HX).gone s5 f5 b6
        obtain ⟨c60, c61, f60, f61⟩ := cells2 x6
        obtain ⟨a6, k6, rfl, _, t6, m6⟩ := o6.at
        simp only [List.length_replicate]
        have c61' : (w6.setCell ⟨G, 0, none⟩ (.slice none 0 0)).cell? ⟨G, 1, none⟩ = some (.int .i64 (fd - (h.length : Int))) := by rw [cell_set (by rw [c60]; rfl), if_neg (by omega)]; exact c61
        have f61' : (w6.setCell ⟨G, 0, none⟩ (.slice none 0 0)).frozen? ⟨G, 1, none⟩ = false := by rw [frozen_set]; exact f61
        obtain ⟨d0, d1, _, _⟩ := cells2 P6.box
        have sc : Scf w6.heap.size G w6 ((w6.setCell ⟨G, 0, none⟩ (.slice none 0 0)).setCell ⟨G, 1, none⟩ (.int .i64 fd)) := ((Scf.refl _ G w6).set 0 _).set 1 _
        have T5 := hide ((t5.below b6).same sc.size (fun x hx => sc.block _ (by have := m5 x hx; omega) (by have := m5 x hx; omega)))
        have T6 := hide (t6.same sc.size (fun x hx => sc.block _ (by have := m6 x hx; omega) (by have := m6 x hx; omega)))
        have HP6 := hide P6
        simp only [List.length_nil] at d0 d1
        have hdd : fd = fd - ((([] : List Int).length : Nat) : Int) := by simp
        have HDD := hide hdd
        clear P6 x5 x6 c50 c51 t5 t6 o5 o6 s5 f5 b6 sc hdd m5 m6 HX hcx hex UP
        try dsimp only
        go_wp2_with fail
        clear c60 c61 f60 f61 c61' f61' d0 d1
        generalize ((w6.setCell ⟨G, 0, none⟩ (.slice none 0 0)).setCell ⟨G, 1, none⟩ (.int .i64 fd)) = w7 at *
        refine (told4_at gs [] fd _ none 0 a5 a6 k5 k6 h.length (List.replicate h.length badT) w7 (unhide HP6).sca (Or.inl rfl) (unhide TB _ (unhide HP6).below) (unhide HP6).held hf0 (by omega) (unhide HDD) (unhide T5) (unhide T6) (by simp; omega) (by simp)).mono ?_
        rintro e w8 ⟨rfl, b8⟩
        have HP8 := hide ((unhide HP6).on b8)
        clear b8 HP6 T5 T6
        dsimp only
        go_wp2_with fail
        exact ⟨⟨k + 1, [], fd, none, 0, by go_num, hlt, by simpa using hf0, by omega, HP8⟩, by simp [intOf]; omega⟩
      | false =>
        have hbx := (unhide HX).below
        obtain ⟨a4, c4, w4', r4, i4, k4, b4⟩ := copy_new wr A C r (unhide UP _ hbx).2
        have z4 := b4.size
        have HX4 := hide ((unhide HX).on b4)
        have R4 := hide r4
        have HB4 := hide b4
        have hca : (wr.alloc (.cells #[] 5)).cell? ⟨gp, offp + k * 2, none⟩ = some (.slice A r.length C) := (((Below.refl wr.heap.size wr).alloc (Nat.le_refl _) _).cell (p := ⟨gp, offp + k * 2, none⟩) (Nat.lt_of_lt_of_le hgp hbx.size)).trans hcx
        clear r4 b4
        go_wp2_with (at_builtin; refine wpList_append_known rfl _ _ 26 26 rfl _ _ rfl rfl _ _ (unhide R4) ?_)
        refine (Feed_at gs h r fd a4 c4 w4' (unhide HX4).sca (unhide HX).hel (unhide TB _ (unhide HX4).below) i4 (fun x hx => by have := k4 x hx; omega) (by omega) hf0 (by omega)).mono ?_
        rintro e w6 ⟨v6, rfl, o6, s6, f6⟩
        have z6 := f6.size
        have hh := (unhide HX).hel
        have hsl := scanS_len (h := h) (b := r) hh
        have hHel : Hel (scanS h r).2 := scanS_hel r hh
        obtain ⟨a6, k6, rfl, _, t6, m6⟩ := o6.at
        have x6 := (f6.block G (by omega) (Ne.symm (unhide HX).ne)).trans (unhide HX4).box
        obtain ⟨c60, c61, _, _⟩ := cells2 x6
        have hb6 : Below w.heap.size w w6 := (unhide HX4).below.trans ((f6.mono (unhide HX4).below.size).below (unhide HX).lo.1)
        have HS0 : Hid (w6.drew.cell? ⟨G, 0, none⟩ = some (.slice aH h.length cH) ∧ w6.drew.cell? ⟨G, 1, none⟩ = some (.int .i64 (fd - (h.length : Int))) ∧ w6.drew.cell? ⟨gp, offp + k * 2, none⟩ = some (.slice A r.length C)) := hide ⟨c60, c61, (unhide UP _ hb6).1⟩
        have hh6 : IsB w6 aH cH h := IsB.scf (B := w4'.heap.size) (g := gs) (unhide HX4).held f6 (fun x hx => by have := (unhide HX4).blk x hx; omega)
        have HRF := hide (RFeedS_at aH cH h (fd - (h.length : Int)) A C r w6.drew (show IsB w6.drew aH cH h from hh6) (show IsB w6.drew A C r from (unhide UP _ hb6).2) (by omega) (by omega) (by omega) hh)
        have S6 := hide s6
        have F6 := hide f6
        have T6 := hide t6
        have M6 := hide m6
        have HB6 := hide (show Below w.heap.size w w6.drew from Below.drewN hb6 1)
        have HD6 : Hid (Below w6.heap.size w6 w6.drew) := hide (Below.drewN (Below.refl _ _) 1)
        have zd6 : w6.drew.heap.size = w6.heap.size := rfl
        clear hh6 s6 f6 t6 m6 o6 x6 c60 c61 hb6 hcx hex i4 k4 R4 hca
        dsimp only
        go_upto_region 15 with fail
        refine regionL (S := fun w' => w'.cell? ⟨G, 0, none⟩ = some (.slice aH h.length cH) ∧ w'.cell? ⟨G, 1, none⟩ = some (.int .i64 (fd - (h.length : Int))) ∧ w'.cell? ⟨gp, offp + k * 2, none⟩ = some (.slice A r.length C)) (fun i => i == 8 || i == 9 || i == 10 || i == 11) (by kernel_rfl) ?_
        generalize w6.drew = wd at *
        refine anyL_take (i := 0) (v := ?v0) rfl (by kernel_rfl) (by kernel_rfl) (by kernel_rfl) (by kernel_rfl) (fun _ _ _ h => h) (Or.inl ⟨by rfl, ?h0⟩) (unhide HS0) ?_
        case h0 => (intro w hSw; (try dsimp only at hSw); go_simp) <;> with_reducible rfl
        simp only [Act.put, List.getElem_toArray, List.getElem_cons_zero, List.setIfInBounds_toArray, List.set_cons_zero, List.set_cons_succ]
        refine anyL_take (i := 1) (v := ?v1) rfl (by kernel_rfl) (by kernel_rfl) (by kernel_rfl) (by kernel_rfl) (fun _ _ _ h => h) (Or.inl ⟨by rfl, ?h1⟩) (unhide HS0) ?_
        case h1 => (intro w hSw; (try dsimp only at hSw); go_simp) <;> with_reducible rfl
        simp only [Act.put, List.getElem_toArray, List.getElem_cons_zero, List.getElem_cons_succ, List.setIfInBounds_toArray, List.set_cons_zero, List.set_cons_succ]
        refine anyL_take (i := 2) (v := ?v2) rfl (by kernel_rfl) (by kernel_rfl) (by kernel_rfl) (by kernel_rfl) (fun _ _ _ h => h) (Or.inl ⟨by rfl, ?h2⟩) (unhide HS0) ?_
        case h2 => (intro w hSw; (try dsimp only at hSw); go_simp) <;> with_reducible rfl
        simp only [Act.put, List.getElem_toArray, List.getElem_cons_zero, List.getElem_cons_succ, List.setIfInBounds_toArray, List.set_cons_zero, List.set_cons_succ]
        refine anyL_take (i := 3) (v := ?v3) rfl (by kernel_rfl) (by kernel_rfl) (by kernel_rfl) (by kernel_rfl) (fun _ _ _ h => h) (Or.inl ⟨by rfl, ?h3⟩) (unhide HS0) ?_
        case h3 => (intro w hSw; (try dsimp only at hSw); go_simp) <;> with_reducible rfl
        simp only [Act.put, List.getElem_toArray, List.getElem_cons_zero, List.getElem_cons_succ, List.setIfInBounds_toArray, List.set_cons_zero, List.set_cons_succ]
        refine anyL_take (i := 4) (v := ?v4) rfl (by kernel_rfl) (by kernel_rfl) (by kernel_rfl) (by kernel_rfl) (fun _ _ _ h => h) (Or.inl ⟨by rfl, ?h4⟩) (unhide HS0) ?_
        case h4 => (intro w hSw; (try dsimp only at hSw); go_simp) <;> with_reducible rfl
        simp only [Act.put, List.getElem_toArray, List.getElem_cons_zero, List.getElem_cons_succ, List.setIfInBounds_toArray, List.set_cons_zero, List.set_cons_succ]
        refine anyL_take (i := 5) (v := ?v5) rfl (by kernel_rfl) (by kernel_rfl) (by kernel_rfl) (by kernel_rfl) (fun _ _ _ h => h) (Or.inl ⟨by rfl, ?h5⟩) (unhide HS0) ?_
        case h5 => (intro w hSw; (try dsimp only at hSw); go_simp) <;> with_reducible rfl
        simp only [Act.put, List.getElem_toArray, List.getElem_cons_zero, List.getElem_cons_succ, List.setIfInBounds_toArray, List.set_cons_zero, List.set_cons_succ]
        refine anyL_ready (rs := [6]) (by kernel_rfl) (by simp) ?_
        refine AllL.cons rfl (fun K hK => ?_) AllL.nil
        go_simp
        refine (unhide HRF).mono ?_
        rintro e w7 ⟨a7, c7, v7, rfl, i7, o7, b7, k7⟩
        simp only [Int.sub_add_cancel]
        obtain ⟨x7, P7⟩ := Py.fed (w1 := w4') (w2 := w6) (w3 := w7) (pl := fd + (r.length : Int) - ((scanS h r).2.length : Int)) (unhide HX) (unhide HB4) (unhide S6) (unhide F6) ((unhide HD6).trans (b7.mono (by omega))) i7 (fun x hx => by have := k7 x hx; omega) hHel (by omega)
        have z7 := b7.size
        obtain ⟨c70, c71, f70, f71⟩ := cells2 x7
        have HS7 : Hid (w7.cell? ⟨G, 0, none⟩ = some (.slice aH h.length cH) ∧ w7.cell? ⟨G, 1, none⟩ = some (.int .i64 (fd - (h.length : Int))) ∧ w7.cell? ⟨gp, offp + k * 2, none⟩ = some (.slice A r.length C)) := hide ⟨c70, c71, (b7.cell (p := ⟨gp, offp + k * 2, none⟩) (by show gp < _; have := (unhide HB6).size; omega)).trans (unhide HS0).2.2⟩
        have c71' : (w7.setCell ⟨G, 0, none⟩ (.slice a7 (scanS h r).2.length c7)).cell? ⟨G, 1, none⟩ = some (.int .i64 (fd - (h.length : Int))) := by rw [cell_set (by rw [c70]; rfl), if_neg (by omega)]; exact c71
        have f71' : (w7.setCell ⟨G, 0, none⟩ (.slice a7 (scanS h r).2.length c7)).frozen? ⟨G, 1, none⟩ = false := by rw [frozen_set]; exact f71
        obtain ⟨a8, k8, rfl, _, t8, m8⟩ := o7.at
        have sc : Scf w7.heap.size G w7 ((w7.setCell ⟨G, 0, none⟩ (.slice a7 (scanS h r).2.length c7)).setCell ⟨G, 1, none⟩ (.int .i64 (fd + (r.length : Int) - ((scanS h r).2.length : Int)))) := ((Scf.refl _ G w7).set 0 _).set 1 _
        have T6' := hide ((((unhide T6).below (unhide HD6)).below (b7.mono (by omega))).same sc.size (fun x hx => sc.block _ (by have := unhide M6 x hx; omega) (by have := unhide M6 x hx; omega)))
        have T8 := hide (t8.same sc.size (fun x hx => sc.block _ (by have := m8 x hx; omega) (by have := m8 x hx; omega)))
        have HP7 := hide P7
        obtain ⟨d0, d1, _, _⟩ := cells2 P7.box
        clear o7 i7 b7 k7 HRF P7 x7 t8 m8 sc
        try dsimp only
        refine unhide hK _ _ (fun _ => unhide HS7) ?_
        clear hK K
        refine anyL_take (i := 7) (v := ?v7) rfl (by kernel_rfl) (by kernel_rfl) (by kernel_rfl) (by kernel_rfl) (fun _ _ _ h => h) (Or.inl ⟨by rfl, ?h7⟩) (unhide HS7) ?_
        case h7 => (intro w hSw; (try dsimp only at hSw); go_simp) <;> with_reducible rfl
        simp only [Act.put, List.getElem_toArray, List.getElem_cons_zero, List.getElem_cons_succ, List.setIfInBounds_toArray, List.set_cons_zero, List.set_cons_succ]
        refine anyL_free (i := 8) (v := ?v8) rfl (by kernel_rfl) (by kernel_rfl) (by kernel_rfl) rfl (fun _ _ _ h => h) (Or.inl ⟨by rfl, ?h8⟩) ?_
        case h8 => (intro w hSw; (try dsimp only at hSw); go_simp) <;> with_reducible rfl
        simp only [Act.put, List.getElem_toArray, List.getElem_cons_zero, List.getElem_cons_succ, List.setIfInBounds_toArray, List.set_cons_zero, List.set_cons_succ]
        refine anyL_free (i := 9) (v := ?v9) rfl (by kernel_rfl) (by kernel_rfl) (by kernel_rfl) rfl (fun _ _ _ h => h) (Or.inl ⟨by rfl, ?h9⟩) ?_
        case h9 => (intro w hSw; (try dsimp only at hSw); go_simp) <;> with_reducible rfl
        simp only [Act.put, List.getElem_toArray, List.getElem_cons_zero, List.getElem_cons_succ, List.setIfInBounds_toArray, List.set_cons_zero, List.set_cons_succ]
        refine anyL_ready (rs := [10]) (by kernel_rfl) (by simp) ?_
        refine AllL.cons rfl (fun K hK => ?_) AllL.nil
        go_simp
        refine unhide hK _ _ (fun h => absurd h (by decide)) ?_
        clear hK K
        refine anyL_ready (rs := [11]) (by kernel_rfl) (by simp) ?_
        refine AllL.cons rfl (fun K hK => ?_) AllL.nil
        go_simp
        refine unhide hK _ _ (fun h => absurd h (by decide)) ?_
        clear hK K
        refine anyL_done (by kernel_rfl) ?_ _
        clear c70 c71 f70 f71 c71' f71'
        have HTL : Hid ((scanS h r).1.length ≤ 4194304) := hide (by omega)
        have hfl' : ((scanS h r).2.length : Int) ≤ fd + (r.length : Int) := by omega
        have hf1' : fd + (r.length : Int) ≤ 1048576 * ((k + 1 : Nat) : Int) := by omega
        try dsimp only
        go_wp2_with fail
        clear d0 d1
        generalize ((w7.setCell ⟨G, 0, none⟩ (.slice a7 (scanS h r).2.length c7)).setCell ⟨G, 1, none⟩ (.int .i64 (fd + (r.length : Int) - ((scanS h r).2.length : Int)))) = w8 at *
        refine (told4_at gs (scanS h r).2 (fd + (r.length : Int)) _ a7 c7 a6 a8 k6 k8 (scanS h r).1.length (scanS h r).1 w8 (unhide HP7).sca hHel (unhide TB _ (unhide HP7).below) (unhide HP7).held (by omega) (by omega) rfl (unhide T6') (unhide T8) (unhide HTL) rfl).mono ?_
        rintro e w9 ⟨rfl, b9⟩
        have HP9 := hide ((unhide HP7).on b9)
        clear b9 HP7 T6' T8
        dsimp only
        go_wp2_with fail
        exact ⟨⟨k + 1, (scanS h r).2, fd + (r.length : Int), a7, c7, by go_num, hlt, hfl', hf1', HP9⟩, by simp [intOf]; omega⟩
    · obtain rfl : k = fs.length := by omega
      go_wp2_with fail
      go_ret
      exact ⟨rfl, (unhide HX).below⟩
end Go.Proofs.YtpgipahlhbkjjaaDoor
