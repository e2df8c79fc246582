/- The walk of WeldBytes. -/
import Derived.Test.YtniafnilgohgdabDoorWmc
import Derived.Test.YtniafnilgohgdabDoorWfx
namespace Go.Proofs.YtniafnilgohgdabDoor
open Go.ChangeShapes Go.WideShapes Go.ChangeAt Go.RowKit

theorem isN_none (W : World) : IsN W none 0 [] := ⟨⟨Nat.le_refl _, Nat.zero_le _, Or.inl rfl, fun _ h => by cases h⟩, fun _ => rfl⟩
theorem take_one {l : List Int} {k : Nat} (h : k < l.length) : l.take k ++ [l.getD k 0] = l.take (k + 1) := by
  rw [List.take_add_one, List.getD_eq_getElem?_getD, List.getElem?_eq_getElem h]
  rfl

theorem IsN.one {W : World} {g off cap k : Nat} {l : List Int} (h : IsN W (some ⟨g, off, none⟩) cap l) (hL : Lies W g off l) (hk : k < l.length) : IsN W (some ⟨g, off + k, none⟩) (cap - k) [l.getD k 0] := by
  refine ⟨⟨by have := h.1.1; simp; omega, by simp, Or.inr ⟨g, off + k, rfl, fun i hi => ?_⟩, fun y hy => ?_⟩, fun e => by cases e⟩
  · obtain rfl : i = 0 := by simpa using hi
    exact hL k hk
  · obtain rfl : y = l.getD k 0 := by simpa using hy
    exact (hL k hk).2
theorem IsN.upto {W : World} {g off cap k : Nat} {l : List Int} (h : IsN W (some ⟨g, off, none⟩) cap l) (hL : Lies W g off l) (hk : k ≤ l.length) : IsN W (some ⟨g, off, none⟩) cap (l.take k) := by
  have h1 := h.1.1
  have h2 := h.1.2.1
  exact ⟨⟨by simp; omega, by simp; omega, Or.inr ⟨g, off, rfl, hL.take k⟩, fun y hy => h.1.2.2.2 y (List.mem_of_mem_take hy)⟩, fun e => by cases e⟩

set_option maxRecDepth 100000 in
set_option maxHeartbeats 8000000 in
theorem WeldBytes_any (a0 : Option Addr) (cA : Nat) (l : List Int) (w : World) (hA : IsN w a0 cA l) (hW : Wt w) :
    Calls Tryd.prog 3 #[.slice a0 l.length cA] w fun y w' => y = .returned (.bool true) ∧ Below w.heap.size w w' := by
  have lA := hA.1.1
  go_enter Tryd.func3, Tryd.ntmps3
  go_wp2_with fail
  refine (fixed5_at w hW).mono ?_
  rintro y w1 ⟨rfl, b1⟩
  dsimp only
  by_cases hlong : (268435456 : Int) < (l.length : Int)
  · go_wp2_with fail
    go_ret
    exact ⟨rfl, b1⟩
  have hn : l.length ≤ 268435456 := by omega
  have IA : Hid (∀ W, Below w.heap.size w W → IsN W a0 cA l) := hide (fun W hb => hA.below hb (Nat.le_refl _))
  have WW : Hid (∀ W, Below w.heap.size w W → Wt W) := hide (fun W hb => hW.below hb)
  have HB := hide hA.1.2.2.2
  clear hA hW
  go_wp2_with fail
  refine (Of_at none 0 [] w1 (isN_none _) (by simp) (unhide WW _ b1)).mono ?_
  unfold weV
  rintro y w2 ⟨rfl, q2⟩
  have b2 := b1.trans (q2.mono b1.size)
  clear q2 b1
  dsimp only
  have q3 : Below w2.heap.size w2 (w2.alloc (.cells #[.int .i64 (ofL []).z.b, .int .i64 (ofL []).z.r, .int .i64 (ofL []).z.u, .int .i64 (ofL []).z.e, .string (strOfNums (ofL []).h), .string (strOfNums (ofL []).t)] 27)) := (Below.refl _ _).alloc (Nat.le_refl _) _
  have xw := push_get w2 (.cells #[.int .i64 (ofL []).z.b, .int .i64 (ofL []).z.r, .int .i64 (ofL []).z.u, .int .i64 (ofL []).z.e, .string (strOfNums (ofL []).h), .string (strOfNums (ofL []).t)] 27)
  have zw : w2.heap.size < (w2.alloc (.cells #[.int .i64 (ofL []).z.b, .int .i64 (ofL []).z.r, .int .i64 (ofL []).z.u, .int .i64 (ofL []).z.e, .string (strOfNums (ofL []).h), .string (strOfNums (ofL []).t)] 27)).heap.size := by rw [World.size_alloc]; omega
  go_upto_region 6 with fail
  generalize (w2.alloc (.cells #[.int .i64 (ofL []).z.b, .int .i64 (ofL []).z.r, .int .i64 (ofL []).z.u, .int .i64 (ofL []).z.e, .string (strOfNums (ofL []).h), .string (strOfNums (ofL []).t)] 27)) = w3 at *
  have B2 := hide b2
  obtain ⟨gw, hgw⟩ : ∃ gw, gw = w2.heap.size := ⟨_, rfl⟩
  rw [← hgw] at xw zw ⊢
  have hgw' : w2.heap.size ≤ gw := by omega
  clear hgw b2
  go_wp2_with fail
  go_loopw [19] (fun i wx => ∃ (k : Nat), k ≤ l.length ∧ i = .int .i64 k ∧ Hid (wx.heap[gw]? = some (.cells #[.int .i64 (ofL (l.take k)).z.b, .int .i64 (ofL (l.take k)).z.r, .int .i64 (ofL (l.take k)).z.u, .int .i64 (ofL (l.take k)).z.e, .string (strOfNums (ofL (l.take k)).h), .string (strOfNums (ofL (l.take k)).t)] 27 (0, 0))) ∧ Hid (Below w2.heap.size w2 wx) ∧ gw < wx.heap.size) (fun i _ => l.length - (intOf i).toNat)
  case atStart => exact ⟨0, Nat.zero_le _, rfl, hide xw, hide q3, zw⟩
  case round =>
    clear xw q3 zw
    obtain ⟨k, hk, rfl, hx, hb, hzz⟩ := hrel
    have bb : Below w.heap.size w wr := (unhide B2).trans ((unhide hb).mono (unhide B2).size)
    by_cases hlt : k < l.length
    · obtain ⟨g, off, rfl, hL, _⟩ := ((unhide IA _ bb).1).2.2.1.lies (by omega)
      have hki : (k : Int) < (l.length : Int) := by omega
      have hkc : k + 1 ≤ cA := by omega
      have hcc : (0 : Int) ≤ (k : Int) + 1 ∧ (k : Int) + 1 ≤ (cA : Int) := by omega
      have hne : ¬ cA = k := by omega
      have g1 : IntKind.i64.wrap ((k : Int) + 1) = (k : Int) + 1 := by rw [IntKind.wrap_i64]; omega
      have LL : ∀ W, Below w.heap.size w W → Lies W g off l := fun W hb => by
        obtain ⟨_, _, e, hL, _⟩ := (unhide IA _ hb).1.2.2.1.lies (by omega)
        injection e with e; injection e with e1 e2; subst e1 e2
        exact hL
      have hbx : ∀ y ∈ [l.getD k 0], 0 ≤ y ∧ y ≤ 255 := ((unhide IA _ bb).one (LL _ bb) hlt).1.2.2.2
      have hbk : ∀ y ∈ l.take k, 0 ≤ y ∧ y ≤ 255 := fun y hy => unhide HB y (List.mem_of_mem_take hy)
      have hj := join_of hbk hbx (by simp; omega)
      rw [take_one hlt] at hj
      obtain ⟨sm, hj⟩ : ∃ sm, joinL (ofL (l.take k)) (ofL [l.getD k 0]) = (ofL (l.take (k + 1)), sm, 0) := ⟨_, hj⟩
      have BX := byw_of hbx
      have BK := byw_of hbk
      have hlen : (l.take (k + 1)).length = k + 1 := by simp; omega
      obtain ⟨eX, hX⟩ : ∃ e, e = ofL [l.getD k 0] := ⟨_, rfl⟩
      obtain ⟨eP, hP⟩ : ∃ e, e = ofL (l.take k) := ⟨_, rfl⟩
      obtain ⟨eN, hN⟩ : ∃ e, e = ofL (l.take (k + 1)) := ⟨_, rfl⟩
      have OX : Hid (∀ W, Below w.heap.size w W → Calls Tryd.prog 5 #[.slice (some ⟨g, off + k, none⟩) 1 (cA - k)] W fun y w' => y = .returned (weV eX) ∧ Below W.heap.size W w') := hide (fun W hb => by rw [hX]; exact Of_at _ _ [l.getD k 0] W ((unhide IA _ hb).one (LL _ hb) hlt) (by simp) (unhide WW _ hb))
      have ON : Hid (∀ W, Below w.heap.size w W → Calls Tryd.prog 5 #[.slice (some ⟨g, off, none⟩) (k + 1) cA] W fun y w' => y = .returned (weV eN) ∧ Below W.heap.size W w') := hide (fun W hb => by
        have := Of_at _ cA (l.take (k + 1)) W ((unhide IA _ hb).upto (LL _ hb) hlt) (by omega) (unhide WW _ hb)
        rw [hlen] at this
        rw [hN]; exact this)
      rw [← hX, ← hP, ← hN] at hj
      rw [← hP] at hx BK
      rw [← hX] at BX
      have JN := hide hj
      have HN := hide hN
      clear hj hbx hbk hL hX hP hN LL hlen
      obtain ⟨c0, c1, c2, c3, c4, c5, _⟩ := cells6 (unhide hx)
      have HS_wd : Hid (wr.drew.cell? ⟨gw, 0, none⟩ = some (.int .i64 eP.z.b) ∧ wr.drew.cell? ⟨gw, 1, none⟩ = some (.int .i64 eP.z.r) ∧ wr.drew.cell? ⟨gw, 2, none⟩ = some (.int .i64 eP.z.u) ∧ wr.drew.cell? ⟨gw, 3, none⟩ = some (.int .i64 eP.z.e) ∧ wr.drew.cell? ⟨gw, 4, none⟩ = some (.string (strOfNums eP.h)) ∧ wr.drew.cell? ⟨gw, 5, none⟩ = some (.string (strOfNums eP.t))) := hide ⟨c0, c1, c2, c3, c4, c5⟩
      have b_wd : Below w.heap.size w wr.drew := Below.drewN bb 1
      have d_wd : Hid (Below wr.heap.size wr wr.drew) := hide (Below.drewN (Below.refl _ _) 1)
      clear c0 c1 c2 c3 c4 c5
      go_upto_region 9 with fail
      go_cut [5, 6] (fun p e wz => e = .int .i64 0 ∧ ∃ gn, p = .pointer (some ⟨gn, 0, none⟩) ∧ Hid (wr.heap.size ≤ gn) ∧ Hid (gn < wz.heap.size) ∧ Hid (wz.heap[gn]? = some (.cells #[.int .i64 eN.z.b, .int .i64 eN.z.r, .int .i64 eN.z.u, .int .i64 eN.z.e, .string (strOfNums eN.h), .string (strOfNums eN.t)] 27 (0, 0))) ∧ Hid (Below wr.heap.size wr wz))
      case first =>
        refine regionL (S := fun w' => w'.cell? ⟨gw, 0, none⟩ = some (.int .i64 eP.z.b) ∧ w'.cell? ⟨gw, 1, none⟩ = some (.int .i64 eP.z.r) ∧ w'.cell? ⟨gw, 2, none⟩ = some (.int .i64 eP.z.u) ∧ w'.cell? ⟨gw, 3, none⟩ = some (.int .i64 eP.z.e) ∧ w'.cell? ⟨gw, 4, none⟩ = some (.string (strOfNums eP.h)) ∧ w'.cell? ⟨gw, 5, none⟩ = some (.string (strOfNums eP.t))) (fun _ => false) (by kernel_rfl) ?_
        generalize wr.drew = wd at *
        refine anyL_take (i := 0) (v := ?vr9x0) rfl (by kernel_rfl) (by kernel_rfl) (by kernel_rfl) (by kernel_rfl) (fun _ _ _ h => h) (Or.inl ⟨by rfl, ?hr9x0⟩) (unhide HS_wd) ?_
        case hr9x0 => (intro w hSw; (try dsimp only at hSw); go_simp) <;> with_reducible rfl
        simp only [Act.put, List.getElem_toArray, List.getElem_cons_zero, List.setIfInBounds_toArray, List.set_cons_zero, List.set_cons_succ]
        refine anyL_take (i := 1) (v := ?vr9x1) rfl (by kernel_rfl) (by kernel_rfl) (by kernel_rfl) (by kernel_rfl) (fun _ _ _ h => h) (Or.inl ⟨by rfl, ?hr9x1⟩) (unhide HS_wd) ?_
        case hr9x1 => (intro w hSw; (try dsimp only at hSw); go_simp) <;> with_reducible rfl
        simp only [Act.put, List.getElem_toArray, List.getElem_cons_zero, List.getElem_cons_succ, List.setIfInBounds_toArray, List.set_cons_zero, List.set_cons_succ]
        refine anyL_take (i := 2) (v := ?vr9x2) rfl (by kernel_rfl) (by kernel_rfl) (by kernel_rfl) (by kernel_rfl) (fun _ _ _ h => h) (Or.inl ⟨by rfl, ?hr9x2⟩) (unhide HS_wd) ?_
        case hr9x2 => (intro w hSw; (try dsimp only at hSw); go_simp) <;> with_reducible rfl
        simp only [Act.put, List.getElem_toArray, List.getElem_cons_zero, List.getElem_cons_succ, List.setIfInBounds_toArray, List.set_cons_zero, List.set_cons_succ]
        refine anyL_take (i := 3) (v := ?vr9x3) rfl (by kernel_rfl) (by kernel_rfl) (by kernel_rfl) (by kernel_rfl) (fun _ _ _ h => h) (Or.inl ⟨by rfl, ?hr9x3⟩) (unhide HS_wd) ?_
        case hr9x3 => (intro w hSw; (try dsimp only at hSw); go_simp) <;> with_reducible rfl
        simp only [Act.put, List.getElem_toArray, List.getElem_cons_zero, List.getElem_cons_succ, List.setIfInBounds_toArray, List.set_cons_zero, List.set_cons_succ]
        refine anyL_take (i := 4) (v := ?vr9x4) rfl (by kernel_rfl) (by kernel_rfl) (by kernel_rfl) (by kernel_rfl) (fun _ _ _ h => h) (Or.inl ⟨by rfl, ?hr9x4⟩) (unhide HS_wd) ?_
        case hr9x4 => (intro w hSw; (try dsimp only at hSw); go_simp) <;> with_reducible rfl
        simp only [Act.put, List.getElem_toArray, List.getElem_cons_zero, List.getElem_cons_succ, List.setIfInBounds_toArray, List.set_cons_zero, List.set_cons_succ]
        refine anyL_take (i := 5) (v := ?vr9x5) rfl (by kernel_rfl) (by kernel_rfl) (by kernel_rfl) (by kernel_rfl) (fun _ _ _ h => h) (Or.inl ⟨by rfl, ?hr9x5⟩) (unhide HS_wd) ?_
        case hr9x5 => (intro w hSw; (try dsimp only at hSw); go_simp) <;> with_reducible rfl
        simp only [Act.put, List.getElem_toArray, List.getElem_cons_zero, List.getElem_cons_succ, List.setIfInBounds_toArray, List.set_cons_zero, List.set_cons_succ]
        refine anyL_ready (rs := [6, 11]) (by kernel_rfl) (by simp) ?_
        refine AllL.cons rfl (fun K hK => ?_) (AllL.cons rfl (fun K hK => ?_) AllL.nil)
        · go_simp
          refine (unhide OX _ b_wd).mono ?_
          unfold weV
          rintro y w1 ⟨rfl, q⟩
          have b_w1 := b_wd.trans (q.mono b_wd.size)
          have d_w1 : Hid (Below wr.heap.size wr w1) := hide ((unhide d_wd).trans (q.mono (unhide d_wd).size))
          have HS_w1 : Hid (w1.cell? ⟨gw, 0, none⟩ = some (.int .i64 eP.z.b) ∧ w1.cell? ⟨gw, 1, none⟩ = some (.int .i64 eP.z.r) ∧ w1.cell? ⟨gw, 2, none⟩ = some (.int .i64 eP.z.u) ∧ w1.cell? ⟨gw, 3, none⟩ = some (.int .i64 eP.z.e) ∧ w1.cell? ⟨gw, 4, none⟩ = some (.string (strOfNums eP.h)) ∧ w1.cell? ⟨gw, 5, none⟩ = some (.string (strOfNums eP.t))) := hide (by
            obtain ⟨c0, c1, c2, c3, c4, c5⟩ := unhide HS_wd
            have hz : gw < wd.heap.size := by have := (unhide d_wd).size; omega
            exact ⟨(q.cell hz).trans c0, (q.cell hz).trans c1, (q.cell hz).trans c2, (q.cell hz).trans c3, (q.cell hz).trans c4, (q.cell hz).trans c5⟩)
          try dsimp only
          refine unhide hK _ _ (fun _ => unhide HS_w1) ?_
          clear hK K q HS_wd b_wd d_wd
          refine anyL_ready (rs := [7, 11]) (by kernel_rfl) (by simp) ?_
          refine AllL.cons rfl (fun K hK => ?_) (AllL.cons rfl (fun K hK => ?_) AllL.nil)
          · go_simp
            refine (Join_at eP eX w1 (unhide WW _ b_w1) BK BX).mono ?_
            rw [unhide JN]
            dsimp only
            unfold weV
            rintro y w2 ⟨rfl, q⟩
            have b_w2 := b_w1.trans (q.mono b_w1.size)
            have d_w2 : Hid (Below wr.heap.size wr w2) := hide ((unhide d_w1).trans (q.mono (unhide d_w1).size))
            have HS_w2 : Hid (w2.cell? ⟨gw, 0, none⟩ = some (.int .i64 eP.z.b) ∧ w2.cell? ⟨gw, 1, none⟩ = some (.int .i64 eP.z.r) ∧ w2.cell? ⟨gw, 2, none⟩ = some (.int .i64 eP.z.u) ∧ w2.cell? ⟨gw, 3, none⟩ = some (.int .i64 eP.z.e) ∧ w2.cell? ⟨gw, 4, none⟩ = some (.string (strOfNums eP.h)) ∧ w2.cell? ⟨gw, 5, none⟩ = some (.string (strOfNums eP.t))) := hide (by
              obtain ⟨c0, c1, c2, c3, c4, c5⟩ := unhide HS_w1
              have hz : gw < w1.heap.size := by have := (unhide d_w1).size; omega
              exact ⟨(q.cell hz).trans c0, (q.cell hz).trans c1, (q.cell hz).trans c2, (q.cell hz).trans c3, (q.cell hz).trans c4, (q.cell hz).trans c5⟩)
            try dsimp only
            refine unhide hK _ _ (fun _ => unhide HS_w2) ?_
            clear hK K q HS_w1 b_w1 d_w1
            refine anyL_take (i := 8) (v := ?vr9x8) rfl (by kernel_rfl) (by kernel_rfl) (by kernel_rfl) (by kernel_rfl) (fun _ _ _ h => h) (Or.inl ⟨by rfl, ?hr9x8⟩) (unhide HS_w2) ?_
            case hr9x8 => (intro w hSw; (try dsimp only at hSw); go_simp) <;> with_reducible rfl
            simp only [Act.put, List.getElem_toArray, List.getElem_cons_zero, List.getElem_cons_succ, List.setIfInBounds_toArray, List.set_cons_zero, List.set_cons_succ]
            refine anyL_take (i := 9) (v := ?vr9x9) rfl (by kernel_rfl) (by kernel_rfl) (by kernel_rfl) (by kernel_rfl) (fun _ _ _ h => h) (Or.inl ⟨by rfl, ?hr9x9⟩) (unhide HS_w2) ?_
            case hr9x9 => (intro w hSw; (try dsimp only at hSw); go_simp) <;> with_reducible rfl
            simp only [Act.put, List.getElem_toArray, List.getElem_cons_zero, List.getElem_cons_succ, List.setIfInBounds_toArray, List.set_cons_zero, List.set_cons_succ]
            refine anyL_take (i := 10) (v := ?vr9x10) rfl (by kernel_rfl) (by kernel_rfl) (by kernel_rfl) (by kernel_rfl) (fun _ _ _ h => h) (Or.inl ⟨by rfl, ?hr9x10⟩) (unhide HS_w2) ?_
            case hr9x10 => (intro w hSw; (try dsimp only at hSw); go_simp) <;> with_reducible rfl
            simp only [Act.put, List.getElem_toArray, List.getElem_cons_zero, List.getElem_cons_succ, List.setIfInBounds_toArray, List.set_cons_zero, List.set_cons_succ]
            refine anyL_ready (rs := [11]) (by kernel_rfl) (by simp) ?_
            refine AllL.cons rfl (fun K hK => ?_) AllL.nil
            go_simp
            have q : Below w2.heap.size w2 (w2.alloc (.cells #[.int .i64 0, .int .i64 0, .int .i64 0, .int .i64 0, .string ⟨#[]⟩, .string ⟨#[]⟩] 27)) := (Below.refl _ _).alloc (Nat.le_refl _) _
            have x0 := push_get w2 (.cells #[.int .i64 0, .int .i64 0, .int .i64 0, .int .i64 0, .string ⟨#[]⟩, .string ⟨#[]⟩] 27)
            have z0 : w2.heap.size < (w2.alloc (.cells #[.int .i64 0, .int .i64 0, .int .i64 0, .int .i64 0, .string ⟨#[]⟩, .string ⟨#[]⟩] 27)).heap.size := by rw [World.size_alloc]; omega
            obtain ⟨w3, hw⟩ : ∃ w', w' = (w2.alloc (.cells #[.int .i64 0, .int .i64 0, .int .i64 0, .int .i64 0, .string ⟨#[]⟩, .string ⟨#[]⟩] 27)) := ⟨_, rfl⟩
            rw [← hw] at q x0 z0 ⊢
            clear hw
            obtain ⟨g4, hg⟩ : ∃ g', g' = w2.heap.size := ⟨_, rfl⟩
            have hg_g4 : Hid (wr.heap.size ≤ g4) := hide (by rw [hg]; exact (unhide d_w2).size)
            have b_w3 := b_w2.trans (q.mono b_w2.size)
            have d_w3 : Hid (Below wr.heap.size wr w3) := hide ((unhide d_w2).trans (q.mono (unhide d_w2).size))
            have HS_w3 : Hid (w3.cell? ⟨gw, 0, none⟩ = some (.int .i64 eP.z.b) ∧ w3.cell? ⟨gw, 1, none⟩ = some (.int .i64 eP.z.r) ∧ w3.cell? ⟨gw, 2, none⟩ = some (.int .i64 eP.z.u) ∧ w3.cell? ⟨gw, 3, none⟩ = some (.int .i64 eP.z.e) ∧ w3.cell? ⟨gw, 4, none⟩ = some (.string (strOfNums eP.h)) ∧ w3.cell? ⟨gw, 5, none⟩ = some (.string (strOfNums eP.t))) := hide (by
              obtain ⟨c0, c1, c2, c3, c4, c5⟩ := unhide HS_w2
              have hz : gw < w2.heap.size := by have := (unhide d_w2).size; omega
              exact ⟨(q.cell hz).trans c0, (q.cell hz).trans c1, (q.cell hz).trans c2, (q.cell hz).trans c3, (q.cell hz).trans c4, (q.cell hz).trans c5⟩)
            rw [← hg] at x0 z0 ⊢
            have x_w3 := hide x0
            have z_w3 := hide z0
            clear q hg x0 z0
            try dsimp only
            refine unhide hK _ _ (fun _ => unhide HS_w3) ?_
            clear hK K HS_w2 b_w2 d_w2
            obtain ⟨c0, c1, c2, c3, c4, c5, f⟩ := cells6 (unhide x_w3)
            have f0 := f 0
            have f1 := f 1
            have f2 := f 2
            have f3 := f 3
            have f4 := f 4
            have f5 := f 5
            clear f
            have xf : Hid (((((((w3.setCell ⟨g4, 0, none⟩ (.int .i64 eN.z.b)).setCell ⟨g4, 1, none⟩ (.int .i64 eN.z.r)).setCell ⟨g4, 2, none⟩ (.int .i64 eN.z.u)).setCell ⟨g4, 3, none⟩ (.int .i64 eN.z.e)).setCell ⟨g4, 4, none⟩ (.string (strOfNums eN.h))).setCell ⟨g4, 5, none⟩ (.string (strOfNums eN.t))).heap[g4]? = some (.cells #[.int .i64 eN.z.b, .int .i64 eN.z.r, .int .i64 eN.z.u, .int .i64 eN.z.e, .string (strOfNums eN.h), .string (strOfNums eN.t)] 27 (0, 0))) := hide (box6_all (unhide x_w3) (.int .i64 eN.z.b) (.int .i64 eN.z.r) (.int .i64 eN.z.u) (.int .i64 eN.z.e) (.string (strOfNums eN.h)) (.string (strOfNums eN.t)))
            have bf : Hid (Below wr.heap.size wr ((((((w3.setCell ⟨g4, 0, none⟩ (.int .i64 eN.z.b)).setCell ⟨g4, 1, none⟩ (.int .i64 eN.z.r)).setCell ⟨g4, 2, none⟩ (.int .i64 eN.z.u)).setCell ⟨g4, 3, none⟩ (.int .i64 eN.z.e)).setCell ⟨g4, 4, none⟩ (.string (strOfNums eN.h))).setCell ⟨g4, 5, none⟩ (.string (strOfNums eN.t)))) := hide (below6 (unhide d_w3) (unhide hg_g4) (.int .i64 eN.z.b) (.int .i64 eN.z.r) (.int .i64 eN.z.u) (.int .i64 eN.z.e) (.string (strOfNums eN.h)) (.string (strOfNums eN.t)))
            have zf : Hid (g4 < ((((((w3.setCell ⟨g4, 0, none⟩ (.int .i64 eN.z.b)).setCell ⟨g4, 1, none⟩ (.int .i64 eN.z.r)).setCell ⟨g4, 2, none⟩ (.int .i64 eN.z.u)).setCell ⟨g4, 3, none⟩ (.int .i64 eN.z.e)).setCell ⟨g4, 4, none⟩ (.string (strOfNums eN.h))).setCell ⟨g4, 5, none⟩ (.string (strOfNums eN.t))).heap.size) := hide (by rw [size_set6]; exact unhide z_w3)
            have SF : Hid (((((((w3.setCell ⟨g4, 0, none⟩ (.int .i64 eN.z.b)).setCell ⟨g4, 1, none⟩ (.int .i64 eN.z.r)).setCell ⟨g4, 2, none⟩ (.int .i64 eN.z.u)).setCell ⟨g4, 3, none⟩ (.int .i64 eN.z.e)).setCell ⟨g4, 4, none⟩ (.string (strOfNums eN.h))).setCell ⟨g4, 5, none⟩ (.string (strOfNums eN.t))).cell? ⟨gw, 0, none⟩ = some (.int .i64 eP.z.b) ∧ ((((((w3.setCell ⟨g4, 0, none⟩ (.int .i64 eN.z.b)).setCell ⟨g4, 1, none⟩ (.int .i64 eN.z.r)).setCell ⟨g4, 2, none⟩ (.int .i64 eN.z.u)).setCell ⟨g4, 3, none⟩ (.int .i64 eN.z.e)).setCell ⟨g4, 4, none⟩ (.string (strOfNums eN.h))).setCell ⟨g4, 5, none⟩ (.string (strOfNums eN.t))).cell? ⟨gw, 1, none⟩ = some (.int .i64 eP.z.r) ∧ ((((((w3.setCell ⟨g4, 0, none⟩ (.int .i64 eN.z.b)).setCell ⟨g4, 1, none⟩ (.int .i64 eN.z.r)).setCell ⟨g4, 2, none⟩ (.int .i64 eN.z.u)).setCell ⟨g4, 3, none⟩ (.int .i64 eN.z.e)).setCell ⟨g4, 4, none⟩ (.string (strOfNums eN.h))).setCell ⟨g4, 5, none⟩ (.string (strOfNums eN.t))).cell? ⟨gw, 2, none⟩ = some (.int .i64 eP.z.u) ∧ ((((((w3.setCell ⟨g4, 0, none⟩ (.int .i64 eN.z.b)).setCell ⟨g4, 1, none⟩ (.int .i64 eN.z.r)).setCell ⟨g4, 2, none⟩ (.int .i64 eN.z.u)).setCell ⟨g4, 3, none⟩ (.int .i64 eN.z.e)).setCell ⟨g4, 4, none⟩ (.string (strOfNums eN.h))).setCell ⟨g4, 5, none⟩ (.string (strOfNums eN.t))).cell? ⟨gw, 3, none⟩ = some (.int .i64 eP.z.e) ∧ ((((((w3.setCell ⟨g4, 0, none⟩ (.int .i64 eN.z.b)).setCell ⟨g4, 1, none⟩ (.int .i64 eN.z.r)).setCell ⟨g4, 2, none⟩ (.int .i64 eN.z.u)).setCell ⟨g4, 3, none⟩ (.int .i64 eN.z.e)).setCell ⟨g4, 4, none⟩ (.string (strOfNums eN.h))).setCell ⟨g4, 5, none⟩ (.string (strOfNums eN.t))).cell? ⟨gw, 4, none⟩ = some (.string (strOfNums eP.h)) ∧ ((((((w3.setCell ⟨g4, 0, none⟩ (.int .i64 eN.z.b)).setCell ⟨g4, 1, none⟩ (.int .i64 eN.z.r)).setCell ⟨g4, 2, none⟩ (.int .i64 eN.z.u)).setCell ⟨g4, 3, none⟩ (.int .i64 eN.z.e)).setCell ⟨g4, 4, none⟩ (.string (strOfNums eN.h))).setCell ⟨g4, 5, none⟩ (.string (strOfNums eN.t))).cell? ⟨gw, 5, none⟩ = some (.string (strOfNums eP.t))) := hide (by
              obtain ⟨c0, c1, c2, c3, c4, c5, _⟩ := cells6 (unhide hx)
              exact ⟨((unhide bf).cell hzz).trans c0, ((unhide bf).cell hzz).trans c1, ((unhide bf).cell hzz).trans c2, ((unhide bf).cell hzz).trans c3, ((unhide bf).cell hzz).trans c4, ((unhide bf).cell hzz).trans c5⟩)
            refine anyL_ready (rs := [12]) (by kernel_rfl) (by simp) ?_
            refine AllL.cons rfl (fun K hK => ?_) AllL.nil
            go_simp
            refine unhide hK _ _ (fun _ => unhide SF) ?_
            clear hK K c0 c1 c2 c3 c4 c5 f0 f1 f2 f3 f4 f5
            refine anyL_take (i := 13) (v := ?vr9x13) rfl (by kernel_rfl) (by kernel_rfl) (by kernel_rfl) (by kernel_rfl) (fun _ _ _ h => h) (Or.inl ⟨by rfl, ?hr9x13⟩) (unhide SF) ?_
            case hr9x13 => (intro w hSw; (try dsimp only at hSw); go_simp) <;> with_reducible rfl
            simp only [Act.put, List.getElem_toArray, List.getElem_cons_zero, List.getElem_cons_succ, List.setIfInBounds_toArray, List.set_cons_zero, List.set_cons_succ]
            refine anyL_done (by kernel_rfl) ?_ _
            go_wp2_with fail
            go_meet
            exact ⟨rfl, g4, rfl, hg_g4, zf, xf, bf⟩
          · go_simp
            have q : Below w1.heap.size w1 (w1.alloc (.cells #[.int .i64 0, .int .i64 0, .int .i64 0, .int .i64 0, .string ⟨#[]⟩, .string ⟨#[]⟩] 27)) := (Below.refl _ _).alloc (Nat.le_refl _) _
            have x0 := push_get w1 (.cells #[.int .i64 0, .int .i64 0, .int .i64 0, .int .i64 0, .string ⟨#[]⟩, .string ⟨#[]⟩] 27)
            have z0 : w1.heap.size < (w1.alloc (.cells #[.int .i64 0, .int .i64 0, .int .i64 0, .int .i64 0, .string ⟨#[]⟩, .string ⟨#[]⟩] 27)).heap.size := by rw [World.size_alloc]; omega
            obtain ⟨w5, hw⟩ : ∃ w', w' = (w1.alloc (.cells #[.int .i64 0, .int .i64 0, .int .i64 0, .int .i64 0, .string ⟨#[]⟩, .string ⟨#[]⟩] 27)) := ⟨_, rfl⟩
            rw [← hw] at q x0 z0 ⊢
            clear hw
            obtain ⟨g6, hg⟩ : ∃ g', g' = w1.heap.size := ⟨_, rfl⟩
            have hg_g6 : Hid (wr.heap.size ≤ g6) := hide (by rw [hg]; exact (unhide d_w1).size)
            have b_w5 := b_w1.trans (q.mono b_w1.size)
            have d_w5 : Hid (Below wr.heap.size wr w5) := hide ((unhide d_w1).trans (q.mono (unhide d_w1).size))
            have HS_w5 : Hid (w5.cell? ⟨gw, 0, none⟩ = some (.int .i64 eP.z.b) ∧ w5.cell? ⟨gw, 1, none⟩ = some (.int .i64 eP.z.r) ∧ w5.cell? ⟨gw, 2, none⟩ = some (.int .i64 eP.z.u) ∧ w5.cell? ⟨gw, 3, none⟩ = some (.int .i64 eP.z.e) ∧ w5.cell? ⟨gw, 4, none⟩ = some (.string (strOfNums eP.h)) ∧ w5.cell? ⟨gw, 5, none⟩ = some (.string (strOfNums eP.t))) := hide (by
              obtain ⟨c0, c1, c2, c3, c4, c5⟩ := unhide HS_w1
              have hz : gw < w1.heap.size := by have := (unhide d_w1).size; omega
              exact ⟨(q.cell hz).trans c0, (q.cell hz).trans c1, (q.cell hz).trans c2, (q.cell hz).trans c3, (q.cell hz).trans c4, (q.cell hz).trans c5⟩)
            rw [← hg] at x0 z0 ⊢
            have x_w5 := hide x0
            have z_w5 := hide z0
            clear q hg x0 z0
            try dsimp only
            refine unhide hK _ _ (fun _ => unhide HS_w5) ?_
            clear hK K HS_w1 b_w1 d_w1
            refine anyL_ready (rs := [7]) (by kernel_rfl) (by simp) ?_
            refine AllL.cons rfl (fun K hK => ?_) AllL.nil
            go_simp
            refine (Join_at eP eX w5 (unhide WW _ b_w5) BK BX).mono ?_
            rw [unhide JN]
            dsimp only
            unfold weV
            rintro y w7 ⟨rfl, q⟩
            have b_w7 := b_w5.trans (q.mono b_w5.size)
            have d_w7 : Hid (Below wr.heap.size wr w7) := hide ((unhide d_w5).trans (q.mono (unhide d_w5).size))
            have HS_w7 : Hid (w7.cell? ⟨gw, 0, none⟩ = some (.int .i64 eP.z.b) ∧ w7.cell? ⟨gw, 1, none⟩ = some (.int .i64 eP.z.r) ∧ w7.cell? ⟨gw, 2, none⟩ = some (.int .i64 eP.z.u) ∧ w7.cell? ⟨gw, 3, none⟩ = some (.int .i64 eP.z.e) ∧ w7.cell? ⟨gw, 4, none⟩ = some (.string (strOfNums eP.h)) ∧ w7.cell? ⟨gw, 5, none⟩ = some (.string (strOfNums eP.t))) := hide (by
              obtain ⟨c0, c1, c2, c3, c4, c5⟩ := unhide HS_w5
              have hz : gw < w5.heap.size := by have := (unhide d_w5).size; omega
              exact ⟨(q.cell hz).trans c0, (q.cell hz).trans c1, (q.cell hz).trans c2, (q.cell hz).trans c3, (q.cell hz).trans c4, (q.cell hz).trans c5⟩)
            have x_w7 : Hid (w7.heap[g6]? = some (.cells #[.int .i64 0, .int .i64 0, .int .i64 0, .int .i64 0, .string ⟨#[]⟩, .string ⟨#[]⟩] 27 (0, 0))) := hide ((q.block g6 (unhide z_w5)).trans (unhide x_w5))
            have z_w7 : Hid (g6 < w7.heap.size) := hide (Nat.lt_of_lt_of_le (unhide z_w5) q.size)
            try dsimp only
            refine unhide hK _ _ (fun _ => unhide HS_w7) ?_
            clear hK K q HS_w5 b_w5 d_w5
            refine anyL_take (i := 8) (v := ?vr9x8) rfl (by kernel_rfl) (by kernel_rfl) (by kernel_rfl) (by kernel_rfl) (fun _ _ _ h => h) (Or.inl ⟨by rfl, ?hr9x8⟩) (unhide HS_w7) ?_
            case hr9x8 => (intro w hSw; (try dsimp only at hSw); go_simp) <;> with_reducible rfl
            simp only [Act.put, List.getElem_toArray, List.getElem_cons_zero, List.getElem_cons_succ, List.setIfInBounds_toArray, List.set_cons_zero, List.set_cons_succ]
            refine anyL_take (i := 9) (v := ?vr9x9) rfl (by kernel_rfl) (by kernel_rfl) (by kernel_rfl) (by kernel_rfl) (fun _ _ _ h => h) (Or.inl ⟨by rfl, ?hr9x9⟩) (unhide HS_w7) ?_
            case hr9x9 => (intro w hSw; (try dsimp only at hSw); go_simp) <;> with_reducible rfl
            simp only [Act.put, List.getElem_toArray, List.getElem_cons_zero, List.getElem_cons_succ, List.setIfInBounds_toArray, List.set_cons_zero, List.set_cons_succ]
            refine anyL_take (i := 10) (v := ?vr9x10) rfl (by kernel_rfl) (by kernel_rfl) (by kernel_rfl) (by kernel_rfl) (fun _ _ _ h => h) (Or.inl ⟨by rfl, ?hr9x10⟩) (unhide HS_w7) ?_
            case hr9x10 => (intro w hSw; (try dsimp only at hSw); go_simp) <;> with_reducible rfl
            simp only [Act.put, List.getElem_toArray, List.getElem_cons_zero, List.getElem_cons_succ, List.setIfInBounds_toArray, List.set_cons_zero, List.set_cons_succ]
            obtain ⟨c0, c1, c2, c3, c4, c5, f⟩ := cells6 (unhide x_w7)
            have f0 := f 0
            have f1 := f 1
            have f2 := f 2
            have f3 := f 3
            have f4 := f 4
            have f5 := f 5
            clear f
            have xf : Hid (((((((w7.setCell ⟨g6, 0, none⟩ (.int .i64 eN.z.b)).setCell ⟨g6, 1, none⟩ (.int .i64 eN.z.r)).setCell ⟨g6, 2, none⟩ (.int .i64 eN.z.u)).setCell ⟨g6, 3, none⟩ (.int .i64 eN.z.e)).setCell ⟨g6, 4, none⟩ (.string (strOfNums eN.h))).setCell ⟨g6, 5, none⟩ (.string (strOfNums eN.t))).heap[g6]? = some (.cells #[.int .i64 eN.z.b, .int .i64 eN.z.r, .int .i64 eN.z.u, .int .i64 eN.z.e, .string (strOfNums eN.h), .string (strOfNums eN.t)] 27 (0, 0))) := hide (box6_all (unhide x_w7) (.int .i64 eN.z.b) (.int .i64 eN.z.r) (.int .i64 eN.z.u) (.int .i64 eN.z.e) (.string (strOfNums eN.h)) (.string (strOfNums eN.t)))
            have bf : Hid (Below wr.heap.size wr ((((((w7.setCell ⟨g6, 0, none⟩ (.int .i64 eN.z.b)).setCell ⟨g6, 1, none⟩ (.int .i64 eN.z.r)).setCell ⟨g6, 2, none⟩ (.int .i64 eN.z.u)).setCell ⟨g6, 3, none⟩ (.int .i64 eN.z.e)).setCell ⟨g6, 4, none⟩ (.string (strOfNums eN.h))).setCell ⟨g6, 5, none⟩ (.string (strOfNums eN.t)))) := hide (below6 (unhide d_w7) (unhide hg_g6) (.int .i64 eN.z.b) (.int .i64 eN.z.r) (.int .i64 eN.z.u) (.int .i64 eN.z.e) (.string (strOfNums eN.h)) (.string (strOfNums eN.t)))
            have zf : Hid (g6 < ((((((w7.setCell ⟨g6, 0, none⟩ (.int .i64 eN.z.b)).setCell ⟨g6, 1, none⟩ (.int .i64 eN.z.r)).setCell ⟨g6, 2, none⟩ (.int .i64 eN.z.u)).setCell ⟨g6, 3, none⟩ (.int .i64 eN.z.e)).setCell ⟨g6, 4, none⟩ (.string (strOfNums eN.h))).setCell ⟨g6, 5, none⟩ (.string (strOfNums eN.t))).heap.size) := hide (by rw [size_set6]; exact unhide z_w7)
            have SF : Hid (((((((w7.setCell ⟨g6, 0, none⟩ (.int .i64 eN.z.b)).setCell ⟨g6, 1, none⟩ (.int .i64 eN.z.r)).setCell ⟨g6, 2, none⟩ (.int .i64 eN.z.u)).setCell ⟨g6, 3, none⟩ (.int .i64 eN.z.e)).setCell ⟨g6, 4, none⟩ (.string (strOfNums eN.h))).setCell ⟨g6, 5, none⟩ (.string (strOfNums eN.t))).cell? ⟨gw, 0, none⟩ = some (.int .i64 eP.z.b) ∧ ((((((w7.setCell ⟨g6, 0, none⟩ (.int .i64 eN.z.b)).setCell ⟨g6, 1, none⟩ (.int .i64 eN.z.r)).setCell ⟨g6, 2, none⟩ (.int .i64 eN.z.u)).setCell ⟨g6, 3, none⟩ (.int .i64 eN.z.e)).setCell ⟨g6, 4, none⟩ (.string (strOfNums eN.h))).setCell ⟨g6, 5, none⟩ (.string (strOfNums eN.t))).cell? ⟨gw, 1, none⟩ = some (.int .i64 eP.z.r) ∧ ((((((w7.setCell ⟨g6, 0, none⟩ (.int .i64 eN.z.b)).setCell ⟨g6, 1, none⟩ (.int .i64 eN.z.r)).setCell ⟨g6, 2, none⟩ (.int .i64 eN.z.u)).setCell ⟨g6, 3, none⟩ (.int .i64 eN.z.e)).setCell ⟨g6, 4, none⟩ (.string (strOfNums eN.h))).setCell ⟨g6, 5, none⟩ (.string (strOfNums eN.t))).cell? ⟨gw, 2, none⟩ = some (.int .i64 eP.z.u) ∧ ((((((w7.setCell ⟨g6, 0, none⟩ (.int .i64 eN.z.b)).setCell ⟨g6, 1, none⟩ (.int .i64 eN.z.r)).setCell ⟨g6, 2, none⟩ (.int .i64 eN.z.u)).setCell ⟨g6, 3, none⟩ (.int .i64 eN.z.e)).setCell ⟨g6, 4, none⟩ (.string (strOfNums eN.h))).setCell ⟨g6, 5, none⟩ (.string (strOfNums eN.t))).cell? ⟨gw, 3, none⟩ = some (.int .i64 eP.z.e) ∧ ((((((w7.setCell ⟨g6, 0, none⟩ (.int .i64 eN.z.b)).setCell ⟨g6, 1, none⟩ (.int .i64 eN.z.r)).setCell ⟨g6, 2, none⟩ (.int .i64 eN.z.u)).setCell ⟨g6, 3, none⟩ (.int .i64 eN.z.e)).setCell ⟨g6, 4, none⟩ (.string (strOfNums eN.h))).setCell ⟨g6, 5, none⟩ (.string (strOfNums eN.t))).cell? ⟨gw, 4, none⟩ = some (.string (strOfNums eP.h)) ∧ ((((((w7.setCell ⟨g6, 0, none⟩ (.int .i64 eN.z.b)).setCell ⟨g6, 1, none⟩ (.int .i64 eN.z.r)).setCell ⟨g6, 2, none⟩ (.int .i64 eN.z.u)).setCell ⟨g6, 3, none⟩ (.int .i64 eN.z.e)).setCell ⟨g6, 4, none⟩ (.string (strOfNums eN.h))).setCell ⟨g6, 5, none⟩ (.string (strOfNums eN.t))).cell? ⟨gw, 5, none⟩ = some (.string (strOfNums eP.t))) := hide (by
              obtain ⟨c0, c1, c2, c3, c4, c5, _⟩ := cells6 (unhide hx)
              exact ⟨((unhide bf).cell hzz).trans c0, ((unhide bf).cell hzz).trans c1, ((unhide bf).cell hzz).trans c2, ((unhide bf).cell hzz).trans c3, ((unhide bf).cell hzz).trans c4, ((unhide bf).cell hzz).trans c5⟩)
            refine anyL_ready (rs := [12]) (by kernel_rfl) (by simp) ?_
            refine AllL.cons rfl (fun K hK => ?_) AllL.nil
            go_simp
            refine unhide hK _ _ (fun _ => unhide SF) ?_
            clear hK K c0 c1 c2 c3 c4 c5 f0 f1 f2 f3 f4 f5
            refine anyL_take (i := 13) (v := ?vr9x13) rfl (by kernel_rfl) (by kernel_rfl) (by kernel_rfl) (by kernel_rfl) (fun _ _ _ h => h) (Or.inl ⟨by rfl, ?hr9x13⟩) (unhide SF) ?_
            case hr9x13 => (intro w hSw; (try dsimp only at hSw); go_simp) <;> with_reducible rfl
            simp only [Act.put, List.getElem_toArray, List.getElem_cons_zero, List.getElem_cons_succ, List.setIfInBounds_toArray, List.set_cons_zero, List.set_cons_succ]
            refine anyL_done (by kernel_rfl) ?_ _
            go_wp2_with fail
            go_meet
            exact ⟨rfl, g6, rfl, hg_g6, zf, xf, bf⟩
        · go_simp
          have q : Below wd.heap.size wd (wd.alloc (.cells #[.int .i64 0, .int .i64 0, .int .i64 0, .int .i64 0, .string ⟨#[]⟩, .string ⟨#[]⟩] 27)) := (Below.refl _ _).alloc (Nat.le_refl _) _
          have x0 := push_get wd (.cells #[.int .i64 0, .int .i64 0, .int .i64 0, .int .i64 0, .string ⟨#[]⟩, .string ⟨#[]⟩] 27)
          have z0 : wd.heap.size < (wd.alloc (.cells #[.int .i64 0, .int .i64 0, .int .i64 0, .int .i64 0, .string ⟨#[]⟩, .string ⟨#[]⟩] 27)).heap.size := by rw [World.size_alloc]; omega
          obtain ⟨w8, hw⟩ : ∃ w', w' = (wd.alloc (.cells #[.int .i64 0, .int .i64 0, .int .i64 0, .int .i64 0, .string ⟨#[]⟩, .string ⟨#[]⟩] 27)) := ⟨_, rfl⟩
          rw [← hw] at q x0 z0 ⊢
          clear hw
          obtain ⟨g9, hg⟩ : ∃ g', g' = wd.heap.size := ⟨_, rfl⟩
          have hg_g9 : Hid (wr.heap.size ≤ g9) := hide (by rw [hg]; exact (unhide d_wd).size)
          have b_w8 := b_wd.trans (q.mono b_wd.size)
          have d_w8 : Hid (Below wr.heap.size wr w8) := hide ((unhide d_wd).trans (q.mono (unhide d_wd).size))
          have HS_w8 : Hid (w8.cell? ⟨gw, 0, none⟩ = some (.int .i64 eP.z.b) ∧ w8.cell? ⟨gw, 1, none⟩ = some (.int .i64 eP.z.r) ∧ w8.cell? ⟨gw, 2, none⟩ = some (.int .i64 eP.z.u) ∧ w8.cell? ⟨gw, 3, none⟩ = some (.int .i64 eP.z.e) ∧ w8.cell? ⟨gw, 4, none⟩ = some (.string (strOfNums eP.h)) ∧ w8.cell? ⟨gw, 5, none⟩ = some (.string (strOfNums eP.t))) := hide (by
            obtain ⟨c0, c1, c2, c3, c4, c5⟩ := unhide HS_wd
            have hz : gw < wd.heap.size := by have := (unhide d_wd).size; omega
            exact ⟨(q.cell hz).trans c0, (q.cell hz).trans c1, (q.cell hz).trans c2, (q.cell hz).trans c3, (q.cell hz).trans c4, (q.cell hz).trans c5⟩)
          rw [← hg] at x0 z0 ⊢
          have x_w8 := hide x0
          have z_w8 := hide z0
          clear q hg x0 z0
          try dsimp only
          refine unhide hK _ _ (fun _ => unhide HS_w8) ?_
          clear hK K HS_wd b_wd d_wd
          refine anyL_ready (rs := [6]) (by kernel_rfl) (by simp) ?_
          refine AllL.cons rfl (fun K hK => ?_) AllL.nil
          go_simp
          refine (unhide OX _ b_w8).mono ?_
          unfold weV
          rintro y w10 ⟨rfl, q⟩
          have b_w10 := b_w8.trans (q.mono b_w8.size)
          have d_w10 : Hid (Below wr.heap.size wr w10) := hide ((unhide d_w8).trans (q.mono (unhide d_w8).size))
          have HS_w10 : Hid (w10.cell? ⟨gw, 0, none⟩ = some (.int .i64 eP.z.b) ∧ w10.cell? ⟨gw, 1, none⟩ = some (.int .i64 eP.z.r) ∧ w10.cell? ⟨gw, 2, none⟩ = some (.int .i64 eP.z.u) ∧ w10.cell? ⟨gw, 3, none⟩ = some (.int .i64 eP.z.e) ∧ w10.cell? ⟨gw, 4, none⟩ = some (.string (strOfNums eP.h)) ∧ w10.cell? ⟨gw, 5, none⟩ = some (.string (strOfNums eP.t))) := hide (by
            obtain ⟨c0, c1, c2, c3, c4, c5⟩ := unhide HS_w8
            have hz : gw < w8.heap.size := by have := (unhide d_w8).size; omega
            exact ⟨(q.cell hz).trans c0, (q.cell hz).trans c1, (q.cell hz).trans c2, (q.cell hz).trans c3, (q.cell hz).trans c4, (q.cell hz).trans c5⟩)
          have x_w10 : Hid (w10.heap[g9]? = some (.cells #[.int .i64 0, .int .i64 0, .int .i64 0, .int .i64 0, .string ⟨#[]⟩, .string ⟨#[]⟩] 27 (0, 0))) := hide ((q.block g9 (unhide z_w8)).trans (unhide x_w8))
          have z_w10 : Hid (g9 < w10.heap.size) := hide (Nat.lt_of_lt_of_le (unhide z_w8) q.size)
          try dsimp only
          refine unhide hK _ _ (fun _ => unhide HS_w10) ?_
          clear hK K q HS_w8 b_w8 d_w8
          refine anyL_ready (rs := [7]) (by kernel_rfl) (by simp) ?_
          refine AllL.cons rfl (fun K hK => ?_) AllL.nil
          go_simp
          refine (Join_at eP eX w10 (unhide WW _ b_w10) BK BX).mono ?_
          rw [unhide JN]
          dsimp only
          unfold weV
          rintro y w11 ⟨rfl, q⟩
          have b_w11 := b_w10.trans (q.mono b_w10.size)
          have d_w11 : Hid (Below wr.heap.size wr w11) := hide ((unhide d_w10).trans (q.mono (unhide d_w10).size))
          have HS_w11 : Hid (w11.cell? ⟨gw, 0, none⟩ = some (.int .i64 eP.z.b) ∧ w11.cell? ⟨gw, 1, none⟩ = some (.int .i64 eP.z.r) ∧ w11.cell? ⟨gw, 2, none⟩ = some (.int .i64 eP.z.u) ∧ w11.cell? ⟨gw, 3, none⟩ = some (.int .i64 eP.z.e) ∧ w11.cell? ⟨gw, 4, none⟩ = some (.string (strOfNums eP.h)) ∧ w11.cell? ⟨gw, 5, none⟩ = some (.string (strOfNums eP.t))) := hide (by
            obtain ⟨c0, c1, c2, c3, c4, c5⟩ := unhide HS_w10
            have hz : gw < w10.heap.size := by have := (unhide d_w10).size; omega
            exact ⟨(q.cell hz).trans c0, (q.cell hz).trans c1, (q.cell hz).trans c2, (q.cell hz).trans c3, (q.cell hz).trans c4, (q.cell hz).trans c5⟩)
          have x_w11 : Hid (w11.heap[g9]? = some (.cells #[.int .i64 0, .int .i64 0, .int .i64 0, .int .i64 0, .string ⟨#[]⟩, .string ⟨#[]⟩] 27 (0, 0))) := hide ((q.block g9 (unhide z_w10)).trans (unhide x_w10))
          have z_w11 : Hid (g9 < w11.heap.size) := hide (Nat.lt_of_lt_of_le (unhide z_w10) q.size)
          try dsimp only
          refine unhide hK _ _ (fun _ => unhide HS_w11) ?_
          clear hK K q HS_w10 b_w10 d_w10
          refine anyL_take (i := 8) (v := ?vr9x8) rfl (by kernel_rfl) (by kernel_rfl) (by kernel_rfl) (by kernel_rfl) (fun _ _ _ h => h) (Or.inl ⟨by rfl, ?hr9x8⟩) (unhide HS_w11) ?_
          case hr9x8 => (intro w hSw; (try dsimp only at hSw); go_simp) <;> with_reducible rfl
          simp only [Act.put, List.getElem_toArray, List.getElem_cons_zero, List.getElem_cons_succ, List.setIfInBounds_toArray, List.set_cons_zero, List.set_cons_succ]
          refine anyL_take (i := 9) (v := ?vr9x9) rfl (by kernel_rfl) (by kernel_rfl) (by kernel_rfl) (by kernel_rfl) (fun _ _ _ h => h) (Or.inl ⟨by rfl, ?hr9x9⟩) (unhide HS_w11) ?_
          case hr9x9 => (intro w hSw; (try dsimp only at hSw); go_simp) <;> with_reducible rfl
          simp only [Act.put, List.getElem_toArray, List.getElem_cons_zero, List.getElem_cons_succ, List.setIfInBounds_toArray, List.set_cons_zero, List.set_cons_succ]
          refine anyL_take (i := 10) (v := ?vr9x10) rfl (by kernel_rfl) (by kernel_rfl) (by kernel_rfl) (by kernel_rfl) (fun _ _ _ h => h) (Or.inl ⟨by rfl, ?hr9x10⟩) (unhide HS_w11) ?_
          case hr9x10 => (intro w hSw; (try dsimp only at hSw); go_simp) <;> with_reducible rfl
          simp only [Act.put, List.getElem_toArray, List.getElem_cons_zero, List.getElem_cons_succ, List.setIfInBounds_toArray, List.set_cons_zero, List.set_cons_succ]
          obtain ⟨c0, c1, c2, c3, c4, c5, f⟩ := cells6 (unhide x_w11)
          have f0 := f 0
          have f1 := f 1
          have f2 := f 2
          have f3 := f 3
          have f4 := f 4
          have f5 := f 5
          clear f
          have xf : Hid (((((((w11.setCell ⟨g9, 0, none⟩ (.int .i64 eN.z.b)).setCell ⟨g9, 1, none⟩ (.int .i64 eN.z.r)).setCell ⟨g9, 2, none⟩ (.int .i64 eN.z.u)).setCell ⟨g9, 3, none⟩ (.int .i64 eN.z.e)).setCell ⟨g9, 4, none⟩ (.string (strOfNums eN.h))).setCell ⟨g9, 5, none⟩ (.string (strOfNums eN.t))).heap[g9]? = some (.cells #[.int .i64 eN.z.b, .int .i64 eN.z.r, .int .i64 eN.z.u, .int .i64 eN.z.e, .string (strOfNums eN.h), .string (strOfNums eN.t)] 27 (0, 0))) := hide (box6_all (unhide x_w11) (.int .i64 eN.z.b) (.int .i64 eN.z.r) (.int .i64 eN.z.u) (.int .i64 eN.z.e) (.string (strOfNums eN.h)) (.string (strOfNums eN.t)))
          have bf : Hid (Below wr.heap.size wr ((((((w11.setCell ⟨g9, 0, none⟩ (.int .i64 eN.z.b)).setCell ⟨g9, 1, none⟩ (.int .i64 eN.z.r)).setCell ⟨g9, 2, none⟩ (.int .i64 eN.z.u)).setCell ⟨g9, 3, none⟩ (.int .i64 eN.z.e)).setCell ⟨g9, 4, none⟩ (.string (strOfNums eN.h))).setCell ⟨g9, 5, none⟩ (.string (strOfNums eN.t)))) := hide (below6 (unhide d_w11) (unhide hg_g9) (.int .i64 eN.z.b) (.int .i64 eN.z.r) (.int .i64 eN.z.u) (.int .i64 eN.z.e) (.string (strOfNums eN.h)) (.string (strOfNums eN.t)))
          have zf : Hid (g9 < ((((((w11.setCell ⟨g9, 0, none⟩ (.int .i64 eN.z.b)).setCell ⟨g9, 1, none⟩ (.int .i64 eN.z.r)).setCell ⟨g9, 2, none⟩ (.int .i64 eN.z.u)).setCell ⟨g9, 3, none⟩ (.int .i64 eN.z.e)).setCell ⟨g9, 4, none⟩ (.string (strOfNums eN.h))).setCell ⟨g9, 5, none⟩ (.string (strOfNums eN.t))).heap.size) := hide (by rw [size_set6]; exact unhide z_w11)
          have SF : Hid (((((((w11.setCell ⟨g9, 0, none⟩ (.int .i64 eN.z.b)).setCell ⟨g9, 1, none⟩ (.int .i64 eN.z.r)).setCell ⟨g9, 2, none⟩ (.int .i64 eN.z.u)).setCell ⟨g9, 3, none⟩ (.int .i64 eN.z.e)).setCell ⟨g9, 4, none⟩ (.string (strOfNums eN.h))).setCell ⟨g9, 5, none⟩ (.string (strOfNums eN.t))).cell? ⟨gw, 0, none⟩ = some (.int .i64 eP.z.b) ∧ ((((((w11.setCell ⟨g9, 0, none⟩ (.int .i64 eN.z.b)).setCell ⟨g9, 1, none⟩ (.int .i64 eN.z.r)).setCell ⟨g9, 2, none⟩ (.int .i64 eN.z.u)).setCell ⟨g9, 3, none⟩ (.int .i64 eN.z.e)).setCell ⟨g9, 4, none⟩ (.string (strOfNums eN.h))).setCell ⟨g9, 5, none⟩ (.string (strOfNums eN.t))).cell? ⟨gw, 1, none⟩ = some (.int .i64 eP.z.r) ∧ ((((((w11.setCell ⟨g9, 0, none⟩ (.int .i64 eN.z.b)).setCell ⟨g9, 1, none⟩ (.int .i64 eN.z.r)).setCell ⟨g9, 2, none⟩ (.int .i64 eN.z.u)).setCell ⟨g9, 3, none⟩ (.int .i64 eN.z.e)).setCell ⟨g9, 4, none⟩ (.string (strOfNums eN.h))).setCell ⟨g9, 5, none⟩ (.string (strOfNums eN.t))).cell? ⟨gw, 2, none⟩ = some (.int .i64 eP.z.u) ∧ ((((((w11.setCell ⟨g9, 0, none⟩ (.int .i64 eN.z.b)).setCell ⟨g9, 1, none⟩ (.int .i64 eN.z.r)).setCell ⟨g9, 2, none⟩ (.int .i64 eN.z.u)).setCell ⟨g9, 3, none⟩ (.int .i64 eN.z.e)).setCell ⟨g9, 4, none⟩ (.string (strOfNums eN.h))).setCell ⟨g9, 5, none⟩ (.string (strOfNums eN.t))).cell? ⟨gw, 3, none⟩ = some (.int .i64 eP.z.e) ∧ ((((((w11.setCell ⟨g9, 0, none⟩ (.int .i64 eN.z.b)).setCell ⟨g9, 1, none⟩ (.int .i64 eN.z.r)).setCell ⟨g9, 2, none⟩ (.int .i64 eN.z.u)).setCell ⟨g9, 3, none⟩ (.int .i64 eN.z.e)).setCell ⟨g9, 4, none⟩ (.string (strOfNums eN.h))).setCell ⟨g9, 5, none⟩ (.string (strOfNums eN.t))).cell? ⟨gw, 4, none⟩ = some (.string (strOfNums eP.h)) ∧ ((((((w11.setCell ⟨g9, 0, none⟩ (.int .i64 eN.z.b)).setCell ⟨g9, 1, none⟩ (.int .i64 eN.z.r)).setCell ⟨g9, 2, none⟩ (.int .i64 eN.z.u)).setCell ⟨g9, 3, none⟩ (.int .i64 eN.z.e)).setCell ⟨g9, 4, none⟩ (.string (strOfNums eN.h))).setCell ⟨g9, 5, none⟩ (.string (strOfNums eN.t))).cell? ⟨gw, 5, none⟩ = some (.string (strOfNums eP.t))) := hide (by
            obtain ⟨c0, c1, c2, c3, c4, c5, _⟩ := cells6 (unhide hx)
            exact ⟨((unhide bf).cell hzz).trans c0, ((unhide bf).cell hzz).trans c1, ((unhide bf).cell hzz).trans c2, ((unhide bf).cell hzz).trans c3, ((unhide bf).cell hzz).trans c4, ((unhide bf).cell hzz).trans c5⟩)
          refine anyL_ready (rs := [12]) (by kernel_rfl) (by simp) ?_
          refine AllL.cons rfl (fun K hK => ?_) AllL.nil
          go_simp
          refine unhide hK _ _ (fun _ => unhide SF) ?_
          clear hK K c0 c1 c2 c3 c4 c5 f0 f1 f2 f3 f4 f5
          refine anyL_take (i := 13) (v := ?vr9x13) rfl (by kernel_rfl) (by kernel_rfl) (by kernel_rfl) (by kernel_rfl) (fun _ _ _ h => h) (Or.inl ⟨by rfl, ?hr9x13⟩) (unhide SF) ?_
          case hr9x13 => (intro w hSw; (try dsimp only at hSw); go_simp) <;> with_reducible rfl
          simp only [Act.put, List.getElem_toArray, List.getElem_cons_zero, List.getElem_cons_succ, List.setIfInBounds_toArray, List.set_cons_zero, List.set_cons_succ]
          refine anyL_done (by kernel_rfl) ?_ _
          go_wp2_with fail
          go_meet
          exact ⟨rfl, g9, rfl, hg_g9, zf, xf, bf⟩
      case rest =>
        obtain ⟨rfl, gn, rfl, hgn, zgn, xgn, bgn⟩ := hcut
        obtain ⟨w8, hw8⟩ : ∃ w8, w8 = wc := ⟨_, rfl⟩
        subst hw8
        have b8 : Below w.heap.size w w8 := bb.trans ((unhide bgn).mono bb.size)
        clear HS_wd b_wd d_wd OX JN BX BK
        go_upto_region 10 with fail
        go_cut [47] (fun c wz => c = .bool false ∧ Hid (Below w8.heap.size w8 wz))
        case first =>
          by_cases h100 : (k : Int) < 100
          · obtain ⟨c0, c1, c2, c3, c4, c5, _⟩ := cells6 (unhide xgn)
            have HS0 : Hid (w8.drew.cell? ⟨gn, 0, none⟩ = some (.int .i64 eN.z.b) ∧ w8.drew.cell? ⟨gn, 1, none⟩ = some (.int .i64 eN.z.r) ∧ w8.drew.cell? ⟨gn, 2, none⟩ = some (.int .i64 eN.z.u) ∧ w8.drew.cell? ⟨gn, 3, none⟩ = some (.int .i64 eN.z.e) ∧ w8.drew.cell? ⟨gn, 4, none⟩ = some (.string (strOfNums eN.h)) ∧ w8.drew.cell? ⟨gn, 5, none⟩ = some (.string (strOfNums eN.t))) := hide ⟨c0, c1, c2, c3, c4, c5⟩
            have bd : Below w.heap.size w w8.drew := Below.drewN b8 1
            have DD : Hid (Below w8.heap.size w8 w8.drew) := hide (Below.drewN (Below.refl _ _) 1)
            have hzn := unhide zgn
            clear c0 c1 c2 c3 c4 c5
            refine regionL (S := fun w' => w'.cell? ⟨gn, 0, none⟩ = some (.int .i64 eN.z.b) ∧ w'.cell? ⟨gn, 1, none⟩ = some (.int .i64 eN.z.r) ∧ w'.cell? ⟨gn, 2, none⟩ = some (.int .i64 eN.z.u) ∧ w'.cell? ⟨gn, 3, none⟩ = some (.int .i64 eN.z.e) ∧ w'.cell? ⟨gn, 4, none⟩ = some (.string (strOfNums eN.h)) ∧ w'.cell? ⟨gn, 5, none⟩ = some (.string (strOfNums eN.t))) (fun _ => false) (by kernel_rfl) ?_
            generalize w8.drew = wd at *
            refine anyL_take (i := 0) (v := ?vr10x0) rfl (by kernel_rfl) (by kernel_rfl) (by kernel_rfl) (by kernel_rfl) (fun _ _ _ h => h) (Or.inl ⟨by rfl, ?hr10x0⟩) (unhide HS0) ?_
            case hr10x0 => (intro w hSw; (try dsimp only at hSw); go_simp) <;> with_reducible rfl
            simp only [Act.put, List.getElem_toArray, List.getElem_cons_zero, List.setIfInBounds_toArray, List.set_cons_zero, List.set_cons_succ]
            refine anyL_take (i := 1) (v := ?vr10x1) rfl (by kernel_rfl) (by kernel_rfl) (by kernel_rfl) (by kernel_rfl) (fun _ _ _ h => h) (Or.inl ⟨by rfl, ?hr10x1⟩) (unhide HS0) ?_
            case hr10x1 => (intro w hSw; (try dsimp only at hSw); go_simp) <;> with_reducible rfl
            simp only [Act.put, List.getElem_toArray, List.getElem_cons_zero, List.getElem_cons_succ, List.setIfInBounds_toArray, List.set_cons_zero, List.set_cons_succ]
            refine anyL_take (i := 2) (v := ?vr10x2) rfl (by kernel_rfl) (by kernel_rfl) (by kernel_rfl) (by kernel_rfl) (fun _ _ _ h => h) (Or.inl ⟨by rfl, ?hr10x2⟩) (unhide HS0) ?_
            case hr10x2 => (intro w hSw; (try dsimp only at hSw); go_simp) <;> with_reducible rfl
            simp only [Act.put, List.getElem_toArray, List.getElem_cons_zero, List.getElem_cons_succ, List.setIfInBounds_toArray, List.set_cons_zero, List.set_cons_succ]
            refine anyL_take (i := 3) (v := ?vr10x3) rfl (by kernel_rfl) (by kernel_rfl) (by kernel_rfl) (by kernel_rfl) (fun _ _ _ h => h) (Or.inl ⟨by rfl, ?hr10x3⟩) (unhide HS0) ?_
            case hr10x3 => (intro w hSw; (try dsimp only at hSw); go_simp) <;> with_reducible rfl
            simp only [Act.put, List.getElem_toArray, List.getElem_cons_zero, List.getElem_cons_succ, List.setIfInBounds_toArray, List.set_cons_zero, List.set_cons_succ]
            refine anyL_take (i := 4) (v := ?vr10x4) rfl (by kernel_rfl) (by kernel_rfl) (by kernel_rfl) (by kernel_rfl) (fun _ _ _ h => h) (Or.inl ⟨by rfl, ?hr10x4⟩) (unhide HS0) ?_
            case hr10x4 => (intro w hSw; (try dsimp only at hSw); go_simp) <;> with_reducible rfl
            simp only [Act.put, List.getElem_toArray, List.getElem_cons_zero, List.getElem_cons_succ, List.setIfInBounds_toArray, List.set_cons_zero, List.set_cons_succ]
            refine anyL_take (i := 5) (v := ?vr10x5) rfl (by kernel_rfl) (by kernel_rfl) (by kernel_rfl) (by kernel_rfl) (fun _ _ _ h => h) (Or.inl ⟨by rfl, ?hr10x5⟩) (unhide HS0) ?_
            case hr10x5 => (intro w hSw; (try dsimp only at hSw); go_simp) <;> with_reducible rfl
            simp only [Act.put, List.getElem_toArray, List.getElem_cons_zero, List.getElem_cons_succ, List.setIfInBounds_toArray, List.set_cons_zero, List.set_cons_succ]
            refine anyL_take (i := 6) (v := ?vr10x6) rfl (by kernel_rfl) (by kernel_rfl) (by kernel_rfl) (by kernel_rfl) (fun _ _ _ h => h) (Or.inl ⟨by rfl, ?hr10x6⟩) (unhide HS0) ?_
            case hr10x6 => (intro w hSw; (try dsimp only at hSw); go_simp) <;> with_reducible rfl
            simp only [Act.put, List.getElem_toArray, List.getElem_cons_zero, List.getElem_cons_succ, List.setIfInBounds_toArray, List.set_cons_zero, List.set_cons_succ]
            refine anyL_take (i := 7) (v := ?vr10x7) rfl (by kernel_rfl) (by kernel_rfl) (by kernel_rfl) (by kernel_rfl) (fun _ _ _ h => h) (Or.inl ⟨by rfl, ?hr10x7⟩) (unhide HS0) ?_
            case hr10x7 => (intro w hSw; (try dsimp only at hSw); go_simp) <;> with_reducible rfl
            simp only [Act.put, List.getElem_toArray, List.getElem_cons_zero, List.getElem_cons_succ, List.setIfInBounds_toArray, List.set_cons_zero, List.set_cons_succ]
            refine anyL_take (i := 8) (v := ?vr10x8) rfl (by kernel_rfl) (by kernel_rfl) (by kernel_rfl) (by kernel_rfl) (fun _ _ _ h => h) (Or.inl ⟨by rfl, ?hr10x8⟩) (unhide HS0) ?_
            case hr10x8 => (intro w hSw; (try dsimp only at hSw); go_simp) <;> with_reducible rfl
            simp only [Act.put, List.getElem_toArray, List.getElem_cons_zero, List.getElem_cons_succ, List.setIfInBounds_toArray, List.set_cons_zero, List.set_cons_succ]
            refine anyL_take (i := 9) (v := ?vr10x9) rfl (by kernel_rfl) (by kernel_rfl) (by kernel_rfl) (by kernel_rfl) (fun _ _ _ h => h) (Or.inl ⟨by rfl, ?hr10x9⟩) (unhide HS0) ?_
            case hr10x9 => (intro w hSw; (try dsimp only at hSw); go_simp) <;> with_reducible rfl
            simp only [Act.put, List.getElem_toArray, List.getElem_cons_zero, List.getElem_cons_succ, List.setIfInBounds_toArray, List.set_cons_zero, List.set_cons_succ]
            refine anyL_take (i := 10) (v := ?vr10x10) rfl (by kernel_rfl) (by kernel_rfl) (by kernel_rfl) (by kernel_rfl) (fun _ _ _ h => h) (Or.inl ⟨by rfl, ?hr10x10⟩) (unhide HS0) ?_
            case hr10x10 => (intro w hSw; (try dsimp only at hSw); go_simp) <;> with_reducible rfl
            simp only [Act.put, List.getElem_toArray, List.getElem_cons_zero, List.getElem_cons_succ, List.setIfInBounds_toArray, List.set_cons_zero, List.set_cons_succ]
            refine anyL_ready (rs := [11]) (by kernel_rfl) (by simp) ?_
            refine AllL.cons rfl (fun K hK => ?_) AllL.nil
            go_simp
            refine (unhide ON _ bd).mono ?_
            unfold weV
            rintro y wf ⟨rfl, q⟩
            have HS1 : Hid (wf.cell? ⟨gn, 0, none⟩ = some (.int .i64 eN.z.b) ∧ wf.cell? ⟨gn, 1, none⟩ = some (.int .i64 eN.z.r) ∧ wf.cell? ⟨gn, 2, none⟩ = some (.int .i64 eN.z.u) ∧ wf.cell? ⟨gn, 3, none⟩ = some (.int .i64 eN.z.e) ∧ wf.cell? ⟨gn, 4, none⟩ = some (.string (strOfNums eN.h)) ∧ wf.cell? ⟨gn, 5, none⟩ = some (.string (strOfNums eN.t))) := hide (by
              obtain ⟨c0, c1, c2, c3, c4, c5⟩ := unhide HS0
              have hz : gn < wd.heap.size := by have := (unhide DD).size; omega
              exact ⟨(q.cell hz).trans c0, (q.cell hz).trans c1, (q.cell hz).trans c2, (q.cell hz).trans c3, (q.cell hz).trans c4, (q.cell hz).trans c5⟩)
            have BF : Hid (Below w8.heap.size w8 wf) := hide ((unhide DD).trans (q.mono (unhide DD).size))
            try dsimp only
            refine unhide hK _ _ (fun _ => unhide HS1) ?_
            clear hK K q
            refine anyL_take (i := 12) (v := .bool false) rfl (by kernel_rfl) (by kernel_rfl) (by kernel_rfl) (by kernel_rfl) (fun _ _ _ h => h) (Or.inl ⟨by rfl, ?hr10x12⟩) (unhide HS1) ?_
            case hr10x12 => (intro w hSw; (try dsimp only at hSw); go_simp)
            simp only [Act.put, List.getElem_toArray, List.getElem_cons_zero, List.getElem_cons_succ, List.setIfInBounds_toArray, List.set_cons_zero, List.set_cons_succ]
            refine anyL_take (i := 13) (v := ?vr10x13) rfl (by kernel_rfl) (by kernel_rfl) (by kernel_rfl) (by kernel_rfl) (fun _ _ _ h => h) (Or.inl ⟨by rfl, ?hr10x13⟩) (unhide HS1) ?_
            case hr10x13 => (intro w hSw; (try dsimp only at hSw); go_simp) <;> with_reducible rfl
            simp only [Act.put, List.getElem_toArray, List.getElem_cons_zero, List.getElem_cons_succ, List.setIfInBounds_toArray, List.set_cons_zero, List.set_cons_succ]
            refine anyL_take (i := 14) (v := ?vr10x14) rfl (by kernel_rfl) (by kernel_rfl) (by kernel_rfl) (by kernel_rfl) (fun _ _ _ h => h) (Or.inl ⟨by rfl, ?hr10x14⟩) (unhide HS1) ?_
            case hr10x14 => (intro w hSw; (try dsimp only at hSw); go_simp) <;> with_reducible rfl
            simp only [Act.put, List.getElem_toArray, List.getElem_cons_zero, List.getElem_cons_succ, List.setIfInBounds_toArray, List.set_cons_zero, List.set_cons_succ]
            refine anyL_done (by kernel_rfl) ?_ _
            go_wp2_with fail
            go_meet
            exact ⟨rfl, BF⟩
          · go_quiet (fail)
            go_wp2_with fail
            go_meet
            exact ⟨rfl, hide (by first | exact Below.drewN (Below.refl _ _) 1 | exact Below.drewN (Below.refl _ _) _ | exact Below.refl _ _)⟩
        case rest =>
          obtain ⟨rfl, bz⟩ := hcut
          obtain ⟨w9, hw9⟩ : ∃ w9, w9 = wc := ⟨_, rfl⟩
          subst hw9
          have hgn' := unhide hgn
          have y9 := ((unhide bz).block gn (unhide zgn)).trans (unhide xgn)
          have t9 : Below wr.heap.size wr w9 := (unhide bgn).trans ((unhide bz).mono (unhide bgn).size)
          have x9 := (t9.block gw hzz).trans (unhide hx)
          obtain ⟨d0, d1, d2, d3, d4, d5, _⟩ := cells6 y9
          obtain ⟨c0, c1, c2, c3, c4, c5, f⟩ := cells6 x9
          have f0 := f 0
          have f1 := f 1
          have f2 := f 2
          have f3 := f 3
          have f4 := f 4
          have f5 := f 5
          have xf := box6_all x9 (.int .i64 eN.z.b) (.int .i64 eN.z.r) (.int .i64 eN.z.u) (.int .i64 eN.z.e) (.string (strOfNums eN.h)) (.string (strOfNums eN.t))
          have tb : Below w2.heap.size w2 w9 := (unhide hb).trans (t9.mono (unhide hb).size)
          have bf := hide (below6 tb hgw' (.int .i64 eN.z.b) (.int .i64 eN.z.r) (.int .i64 eN.z.u) (.int .i64 eN.z.e) (.string (strOfNums eN.h)) (.string (strOfNums eN.t)))
          have zf : Hid (gw < ((((((w9.setCell ⟨gw, 0, none⟩ (.int .i64 eN.z.b)).setCell ⟨gw, 1, none⟩ (.int .i64 eN.z.r)).setCell ⟨gw, 2, none⟩ (.int .i64 eN.z.u)).setCell ⟨gw, 3, none⟩ (.int .i64 eN.z.e)).setCell ⟨gw, 4, none⟩ (.string (strOfNums eN.h))).setCell ⟨gw, 5, none⟩ (.string (strOfNums eN.t))).heap.size) := hide (by rw [size_set6]; have := t9.size; omega)
          have XF : Hid (((((((w9.setCell ⟨gw, 0, none⟩ (.int .i64 eN.z.b)).setCell ⟨gw, 1, none⟩ (.int .i64 eN.z.r)).setCell ⟨gw, 2, none⟩ (.int .i64 eN.z.u)).setCell ⟨gw, 3, none⟩ (.int .i64 eN.z.e)).setCell ⟨gw, 4, none⟩ (.string (strOfNums eN.h))).setCell ⟨gw, 5, none⟩ (.string (strOfNums eN.t))).heap[gw]? = some (.cells #[.int .i64 (ofL (l.take (k + 1))).z.b, .int .i64 (ofL (l.take (k + 1))).z.r, .int .i64 (ofL (l.take (k + 1))).z.u, .int .i64 (ofL (l.take (k + 1))).z.e, .string (strOfNums (ofL (l.take (k + 1))).h), .string (strOfNums (ofL (l.take (k + 1))).t)] 27 (0, 0))) := hide (by rw [← unhide HN]; exact xf)
          clear f ON HN xf tb t9 y9 x9
          go_wp2_with fail
          exact ⟨⟨k + 1, by omega, by go_num, XF, bf, unhide zf⟩, by simp [intOf]; omega⟩
    · obtain rfl : k = l.length := by omega
      have hlx : ¬ ((l.length : Int) < (l.length : Int)) := by omega
      rw [List.take_length] at hx
      have hj1 := join_of (unhide HB) (b := []) (by simp) (by simpa using hn)
      have hj2 := join_of (a := []) (by simp) (unhide HB) (by simpa using hn)
      rw [List.append_nil] at hj1
      rw [List.nil_append] at hj2
      obtain ⟨s1, hj1⟩ : ∃ sm, joinL (ofL l) (ofL []) = (ofL l, sm, 0) := ⟨_, hj1⟩
      obtain ⟨s2, hj2⟩ : ∃ sm, joinL (ofL []) (ofL l) = (ofL l, sm, 0) := ⟨_, hj2⟩
      have BK := byw_of (unhide HB)
      have B0 : Byw (ofL []) := byw_of (by simp)
      obtain ⟨eP, hP⟩ : ∃ e, e = ofL l := ⟨_, rfl⟩
      obtain ⟨e0, h0⟩ : ∃ e, e = ofL ([] : List Int) := ⟨_, rfl⟩
      have O0 : Hid (∀ W, Below w.heap.size w W → Calls Tryd.prog 5 #[.slice none 0 0] W fun y w' => y = .returned (weV e0) ∧ Below W.heap.size W w') := hide (fun W hb => by rw [h0]; exact Of_at none 0 [] W (isN_none _) (by simp) (unhide WW _ hb))
      have OB : Hid (∀ W, Below w.heap.size w W → Calls Tryd.prog 5 #[.slice a0 l.length cA] W fun y w' => y = .returned (weV eP) ∧ Below W.heap.size W w') := hide (fun W hb => by rw [hP]; exact Of_at _ _ l W (unhide IA _ hb) hn (unhide WW _ hb))
      rw [← h0, ← hP] at hj1 hj2
      rw [← hP] at hx BK
      rw [← h0] at B0 ⊢
      have JN := hide hj1
      have J2 := hide hj2
      clear hj1 hj2 h0 hP
      obtain ⟨c0, c1, c2, c3, c4, c5, _⟩ := cells6 (unhide hx)
      have HS_wd : Hid (wr.drew.cell? ⟨gw, 0, none⟩ = some (.int .i64 eP.z.b) ∧ wr.drew.cell? ⟨gw, 1, none⟩ = some (.int .i64 eP.z.r) ∧ wr.drew.cell? ⟨gw, 2, none⟩ = some (.int .i64 eP.z.u) ∧ wr.drew.cell? ⟨gw, 3, none⟩ = some (.int .i64 eP.z.e) ∧ wr.drew.cell? ⟨gw, 4, none⟩ = some (.string (strOfNums eP.h)) ∧ wr.drew.cell? ⟨gw, 5, none⟩ = some (.string (strOfNums eP.t))) := hide ⟨c0, c1, c2, c3, c4, c5⟩
      have b_wd : Below w.heap.size w wr.drew := Below.drewN bb 1
      have d_wd : Hid (Below wr.heap.size wr wr.drew) := hide (Below.drewN (Below.refl _ _) 1)
      clear c0 c1 c2 c3 c4 c5
      go_upto_region 14 with fail
      go_cut [7, 8] (fun p e wz => e = .int .i64 0 ∧ ∃ gn, p = .pointer (some ⟨gn, 0, none⟩) ∧ Hid (wr.heap.size ≤ gn) ∧ Hid (gn < wz.heap.size) ∧ Hid (wz.heap[gn]? = some (.cells #[.int .i64 eP.z.b, .int .i64 eP.z.r, .int .i64 eP.z.u, .int .i64 eP.z.e, .string (strOfNums eP.h), .string (strOfNums eP.t)] 27 (0, 0))) ∧ Hid (Below wr.heap.size wr wz))
      case first =>
        refine regionL (S := fun w' => w'.cell? ⟨gw, 0, none⟩ = some (.int .i64 eP.z.b) ∧ w'.cell? ⟨gw, 1, none⟩ = some (.int .i64 eP.z.r) ∧ w'.cell? ⟨gw, 2, none⟩ = some (.int .i64 eP.z.u) ∧ w'.cell? ⟨gw, 3, none⟩ = some (.int .i64 eP.z.e) ∧ w'.cell? ⟨gw, 4, none⟩ = some (.string (strOfNums eP.h)) ∧ w'.cell? ⟨gw, 5, none⟩ = some (.string (strOfNums eP.t))) (fun _ => false) (by kernel_rfl) ?_
        generalize wr.drew = wd at *
        refine anyL_take (i := 0) (v := ?vr14x0) rfl (by kernel_rfl) (by kernel_rfl) (by kernel_rfl) (by kernel_rfl) (fun _ _ _ h => h) (Or.inl ⟨by rfl, ?hr14x0⟩) (unhide HS_wd) ?_
        case hr14x0 => (intro w hSw; (try dsimp only at hSw); go_simp) <;> with_reducible rfl
        simp only [Act.put, List.getElem_toArray, List.getElem_cons_zero, List.setIfInBounds_toArray, List.set_cons_zero, List.set_cons_succ]
        refine anyL_ready (rs := [1, 6]) (by kernel_rfl) (by simp) ?_
        refine AllL.cons rfl (fun K hK => ?_) (AllL.cons rfl (fun K hK => ?_) AllL.nil)
        · go_simp
          refine (unhide O0 _ b_wd).mono ?_
          unfold weV
          rintro y w12 ⟨rfl, q⟩
          have b_w12 := b_wd.trans (q.mono b_wd.size)
          have d_w12 : Hid (Below wr.heap.size wr w12) := hide ((unhide d_wd).trans (q.mono (unhide d_wd).size))
          have HS_w12 : Hid (w12.cell? ⟨gw, 0, none⟩ = some (.int .i64 eP.z.b) ∧ w12.cell? ⟨gw, 1, none⟩ = some (.int .i64 eP.z.r) ∧ w12.cell? ⟨gw, 2, none⟩ = some (.int .i64 eP.z.u) ∧ w12.cell? ⟨gw, 3, none⟩ = some (.int .i64 eP.z.e) ∧ w12.cell? ⟨gw, 4, none⟩ = some (.string (strOfNums eP.h)) ∧ w12.cell? ⟨gw, 5, none⟩ = some (.string (strOfNums eP.t))) := hide (by
            obtain ⟨c0, c1, c2, c3, c4, c5⟩ := unhide HS_wd
            have hz : gw < wd.heap.size := by have := (unhide d_wd).size; omega
            exact ⟨(q.cell hz).trans c0, (q.cell hz).trans c1, (q.cell hz).trans c2, (q.cell hz).trans c3, (q.cell hz).trans c4, (q.cell hz).trans c5⟩)
          try dsimp only
          refine unhide hK _ _ (fun _ => unhide HS_w12) ?_
          clear hK K q HS_wd b_wd d_wd
          refine anyL_ready (rs := [2, 6]) (by kernel_rfl) (by simp) ?_
          refine AllL.cons rfl (fun K hK => ?_) (AllL.cons rfl (fun K hK => ?_) AllL.nil)
          · go_simp
            refine (Join_at eP e0 w12 (unhide WW _ b_w12) BK B0).mono ?_
            rw [unhide JN]
            dsimp only
            unfold weV
            rintro y w13 ⟨rfl, q⟩
            have b_w13 := b_w12.trans (q.mono b_w12.size)
            have d_w13 : Hid (Below wr.heap.size wr w13) := hide ((unhide d_w12).trans (q.mono (unhide d_w12).size))
            have HS_w13 : Hid (w13.cell? ⟨gw, 0, none⟩ = some (.int .i64 eP.z.b) ∧ w13.cell? ⟨gw, 1, none⟩ = some (.int .i64 eP.z.r) ∧ w13.cell? ⟨gw, 2, none⟩ = some (.int .i64 eP.z.u) ∧ w13.cell? ⟨gw, 3, none⟩ = some (.int .i64 eP.z.e) ∧ w13.cell? ⟨gw, 4, none⟩ = some (.string (strOfNums eP.h)) ∧ w13.cell? ⟨gw, 5, none⟩ = some (.string (strOfNums eP.t))) := hide (by
              obtain ⟨c0, c1, c2, c3, c4, c5⟩ := unhide HS_w12
              have hz : gw < w12.heap.size := by have := (unhide d_w12).size; omega
              exact ⟨(q.cell hz).trans c0, (q.cell hz).trans c1, (q.cell hz).trans c2, (q.cell hz).trans c3, (q.cell hz).trans c4, (q.cell hz).trans c5⟩)
            try dsimp only
            refine unhide hK _ _ (fun _ => unhide HS_w13) ?_
            clear hK K q HS_w12 b_w12 d_w12
            refine anyL_take (i := 3) (v := ?vr14x3) rfl (by kernel_rfl) (by kernel_rfl) (by kernel_rfl) (by kernel_rfl) (fun _ _ _ h => h) (Or.inl ⟨by rfl, ?hr14x3⟩) (unhide HS_w13) ?_
            case hr14x3 => (intro w hSw; (try dsimp only at hSw); go_simp) <;> with_reducible rfl
            simp only [Act.put, List.getElem_toArray, List.getElem_cons_zero, List.getElem_cons_succ, List.setIfInBounds_toArray, List.set_cons_zero, List.set_cons_succ]
            refine anyL_take (i := 4) (v := ?vr14x4) rfl (by kernel_rfl) (by kernel_rfl) (by kernel_rfl) (by kernel_rfl) (fun _ _ _ h => h) (Or.inl ⟨by rfl, ?hr14x4⟩) (unhide HS_w13) ?_
            case hr14x4 => (intro w hSw; (try dsimp only at hSw); go_simp) <;> with_reducible rfl
            simp only [Act.put, List.getElem_toArray, List.getElem_cons_zero, List.getElem_cons_succ, List.setIfInBounds_toArray, List.set_cons_zero, List.set_cons_succ]
            refine anyL_take (i := 5) (v := ?vr14x5) rfl (by kernel_rfl) (by kernel_rfl) (by kernel_rfl) (by kernel_rfl) (fun _ _ _ h => h) (Or.inl ⟨by rfl, ?hr14x5⟩) (unhide HS_w13) ?_
            case hr14x5 => (intro w hSw; (try dsimp only at hSw); go_simp) <;> with_reducible rfl
            simp only [Act.put, List.getElem_toArray, List.getElem_cons_zero, List.getElem_cons_succ, List.setIfInBounds_toArray, List.set_cons_zero, List.set_cons_succ]
            refine anyL_ready (rs := [6]) (by kernel_rfl) (by simp) ?_
            refine AllL.cons rfl (fun K hK => ?_) AllL.nil
            go_simp
            have q : Below w13.heap.size w13 (w13.alloc (.cells #[.int .i64 0, .int .i64 0, .int .i64 0, .int .i64 0, .string ⟨#[]⟩, .string ⟨#[]⟩] 27)) := (Below.refl _ _).alloc (Nat.le_refl _) _
            have x0 := push_get w13 (.cells #[.int .i64 0, .int .i64 0, .int .i64 0, .int .i64 0, .string ⟨#[]⟩, .string ⟨#[]⟩] 27)
            have z0 : w13.heap.size < (w13.alloc (.cells #[.int .i64 0, .int .i64 0, .int .i64 0, .int .i64 0, .string ⟨#[]⟩, .string ⟨#[]⟩] 27)).heap.size := by rw [World.size_alloc]; omega
            obtain ⟨w14, hw⟩ : ∃ w', w' = (w13.alloc (.cells #[.int .i64 0, .int .i64 0, .int .i64 0, .int .i64 0, .string ⟨#[]⟩, .string ⟨#[]⟩] 27)) := ⟨_, rfl⟩
            rw [← hw] at q x0 z0 ⊢
            clear hw
            obtain ⟨g15, hg⟩ : ∃ g', g' = w13.heap.size := ⟨_, rfl⟩
            have hg_g15 : Hid (wr.heap.size ≤ g15) := hide (by rw [hg]; exact (unhide d_w13).size)
            have b_w14 := b_w13.trans (q.mono b_w13.size)
            have d_w14 : Hid (Below wr.heap.size wr w14) := hide ((unhide d_w13).trans (q.mono (unhide d_w13).size))
            have HS_w14 : Hid (w14.cell? ⟨gw, 0, none⟩ = some (.int .i64 eP.z.b) ∧ w14.cell? ⟨gw, 1, none⟩ = some (.int .i64 eP.z.r) ∧ w14.cell? ⟨gw, 2, none⟩ = some (.int .i64 eP.z.u) ∧ w14.cell? ⟨gw, 3, none⟩ = some (.int .i64 eP.z.e) ∧ w14.cell? ⟨gw, 4, none⟩ = some (.string (strOfNums eP.h)) ∧ w14.cell? ⟨gw, 5, none⟩ = some (.string (strOfNums eP.t))) := hide (by
              obtain ⟨c0, c1, c2, c3, c4, c5⟩ := unhide HS_w13
              have hz : gw < w13.heap.size := by have := (unhide d_w13).size; omega
              exact ⟨(q.cell hz).trans c0, (q.cell hz).trans c1, (q.cell hz).trans c2, (q.cell hz).trans c3, (q.cell hz).trans c4, (q.cell hz).trans c5⟩)
            rw [← hg] at x0 z0 ⊢
            have x_w14 := hide x0
            have z_w14 := hide z0
            clear q hg x0 z0
            try dsimp only
            refine unhide hK _ _ (fun _ => unhide HS_w14) ?_
            clear hK K HS_w13 b_w13 d_w13
            obtain ⟨c0, c1, c2, c3, c4, c5, f⟩ := cells6 (unhide x_w14)
            have f0 := f 0
            have f1 := f 1
            have f2 := f 2
            have f3 := f 3
            have f4 := f 4
            have f5 := f 5
            clear f
            have xf : Hid (((((((w14.setCell ⟨g15, 0, none⟩ (.int .i64 eP.z.b)).setCell ⟨g15, 1, none⟩ (.int .i64 eP.z.r)).setCell ⟨g15, 2, none⟩ (.int .i64 eP.z.u)).setCell ⟨g15, 3, none⟩ (.int .i64 eP.z.e)).setCell ⟨g15, 4, none⟩ (.string (strOfNums eP.h))).setCell ⟨g15, 5, none⟩ (.string (strOfNums eP.t))).heap[g15]? = some (.cells #[.int .i64 eP.z.b, .int .i64 eP.z.r, .int .i64 eP.z.u, .int .i64 eP.z.e, .string (strOfNums eP.h), .string (strOfNums eP.t)] 27 (0, 0))) := hide (box6_all (unhide x_w14) (.int .i64 eP.z.b) (.int .i64 eP.z.r) (.int .i64 eP.z.u) (.int .i64 eP.z.e) (.string (strOfNums eP.h)) (.string (strOfNums eP.t)))
            have bf : Hid (Below wr.heap.size wr ((((((w14.setCell ⟨g15, 0, none⟩ (.int .i64 eP.z.b)).setCell ⟨g15, 1, none⟩ (.int .i64 eP.z.r)).setCell ⟨g15, 2, none⟩ (.int .i64 eP.z.u)).setCell ⟨g15, 3, none⟩ (.int .i64 eP.z.e)).setCell ⟨g15, 4, none⟩ (.string (strOfNums eP.h))).setCell ⟨g15, 5, none⟩ (.string (strOfNums eP.t)))) := hide (below6 (unhide d_w14) (unhide hg_g15) (.int .i64 eP.z.b) (.int .i64 eP.z.r) (.int .i64 eP.z.u) (.int .i64 eP.z.e) (.string (strOfNums eP.h)) (.string (strOfNums eP.t)))
            have zf : Hid (g15 < ((((((w14.setCell ⟨g15, 0, none⟩ (.int .i64 eP.z.b)).setCell ⟨g15, 1, none⟩ (.int .i64 eP.z.r)).setCell ⟨g15, 2, none⟩ (.int .i64 eP.z.u)).setCell ⟨g15, 3, none⟩ (.int .i64 eP.z.e)).setCell ⟨g15, 4, none⟩ (.string (strOfNums eP.h))).setCell ⟨g15, 5, none⟩ (.string (strOfNums eP.t))).heap.size) := hide (by rw [size_set6]; exact unhide z_w14)
            have SF : Hid (((((((w14.setCell ⟨g15, 0, none⟩ (.int .i64 eP.z.b)).setCell ⟨g15, 1, none⟩ (.int .i64 eP.z.r)).setCell ⟨g15, 2, none⟩ (.int .i64 eP.z.u)).setCell ⟨g15, 3, none⟩ (.int .i64 eP.z.e)).setCell ⟨g15, 4, none⟩ (.string (strOfNums eP.h))).setCell ⟨g15, 5, none⟩ (.string (strOfNums eP.t))).cell? ⟨gw, 0, none⟩ = some (.int .i64 eP.z.b) ∧ ((((((w14.setCell ⟨g15, 0, none⟩ (.int .i64 eP.z.b)).setCell ⟨g15, 1, none⟩ (.int .i64 eP.z.r)).setCell ⟨g15, 2, none⟩ (.int .i64 eP.z.u)).setCell ⟨g15, 3, none⟩ (.int .i64 eP.z.e)).setCell ⟨g15, 4, none⟩ (.string (strOfNums eP.h))).setCell ⟨g15, 5, none⟩ (.string (strOfNums eP.t))).cell? ⟨gw, 1, none⟩ = some (.int .i64 eP.z.r) ∧ ((((((w14.setCell ⟨g15, 0, none⟩ (.int .i64 eP.z.b)).setCell ⟨g15, 1, none⟩ (.int .i64 eP.z.r)).setCell ⟨g15, 2, none⟩ (.int .i64 eP.z.u)).setCell ⟨g15, 3, none⟩ (.int .i64 eP.z.e)).setCell ⟨g15, 4, none⟩ (.string (strOfNums eP.h))).setCell ⟨g15, 5, none⟩ (.string (strOfNums eP.t))).cell? ⟨gw, 2, none⟩ = some (.int .i64 eP.z.u) ∧ ((((((w14.setCell ⟨g15, 0, none⟩ (.int .i64 eP.z.b)).setCell ⟨g15, 1, none⟩ (.int .i64 eP.z.r)).setCell ⟨g15, 2, none⟩ (.int .i64 eP.z.u)).setCell ⟨g15, 3, none⟩ (.int .i64 eP.z.e)).setCell ⟨g15, 4, none⟩ (.string (strOfNums eP.h))).setCell ⟨g15, 5, none⟩ (.string (strOfNums eP.t))).cell? ⟨gw, 3, none⟩ = some (.int .i64 eP.z.e) ∧ ((((((w14.setCell ⟨g15, 0, none⟩ (.int .i64 eP.z.b)).setCell ⟨g15, 1, none⟩ (.int .i64 eP.z.r)).setCell ⟨g15, 2, none⟩ (.int .i64 eP.z.u)).setCell ⟨g15, 3, none⟩ (.int .i64 eP.z.e)).setCell ⟨g15, 4, none⟩ (.string (strOfNums eP.h))).setCell ⟨g15, 5, none⟩ (.string (strOfNums eP.t))).cell? ⟨gw, 4, none⟩ = some (.string (strOfNums eP.h)) ∧ ((((((w14.setCell ⟨g15, 0, none⟩ (.int .i64 eP.z.b)).setCell ⟨g15, 1, none⟩ (.int .i64 eP.z.r)).setCell ⟨g15, 2, none⟩ (.int .i64 eP.z.u)).setCell ⟨g15, 3, none⟩ (.int .i64 eP.z.e)).setCell ⟨g15, 4, none⟩ (.string (strOfNums eP.h))).setCell ⟨g15, 5, none⟩ (.string (strOfNums eP.t))).cell? ⟨gw, 5, none⟩ = some (.string (strOfNums eP.t))) := hide (by
              obtain ⟨c0, c1, c2, c3, c4, c5, _⟩ := cells6 (unhide hx)
              exact ⟨((unhide bf).cell hzz).trans c0, ((unhide bf).cell hzz).trans c1, ((unhide bf).cell hzz).trans c2, ((unhide bf).cell hzz).trans c3, ((unhide bf).cell hzz).trans c4, ((unhide bf).cell hzz).trans c5⟩)
            refine anyL_ready (rs := [7]) (by kernel_rfl) (by simp) ?_
            refine AllL.cons rfl (fun K hK => ?_) AllL.nil
            go_simp
            refine unhide hK _ _ (fun _ => unhide SF) ?_
            clear hK K c0 c1 c2 c3 c4 c5 f0 f1 f2 f3 f4 f5
            refine anyL_take (i := 8) (v := ?vr14x8) rfl (by kernel_rfl) (by kernel_rfl) (by kernel_rfl) (by kernel_rfl) (fun _ _ _ h => h) (Or.inl ⟨by rfl, ?hr14x8⟩) (unhide SF) ?_
            case hr14x8 => (intro w hSw; (try dsimp only at hSw); go_simp) <;> with_reducible rfl
            simp only [Act.put, List.getElem_toArray, List.getElem_cons_zero, List.getElem_cons_succ, List.setIfInBounds_toArray, List.set_cons_zero, List.set_cons_succ]
            refine anyL_done (by kernel_rfl) ?_ _
            go_wp2_with fail
            go_meet
            exact ⟨rfl, g15, rfl, hg_g15, zf, xf, bf⟩
          · go_simp
            have q : Below w12.heap.size w12 (w12.alloc (.cells #[.int .i64 0, .int .i64 0, .int .i64 0, .int .i64 0, .string ⟨#[]⟩, .string ⟨#[]⟩] 27)) := (Below.refl _ _).alloc (Nat.le_refl _) _
            have x0 := push_get w12 (.cells #[.int .i64 0, .int .i64 0, .int .i64 0, .int .i64 0, .string ⟨#[]⟩, .string ⟨#[]⟩] 27)
            have z0 : w12.heap.size < (w12.alloc (.cells #[.int .i64 0, .int .i64 0, .int .i64 0, .int .i64 0, .string ⟨#[]⟩, .string ⟨#[]⟩] 27)).heap.size := by rw [World.size_alloc]; omega
            obtain ⟨w16, hw⟩ : ∃ w', w' = (w12.alloc (.cells #[.int .i64 0, .int .i64 0, .int .i64 0, .int .i64 0, .string ⟨#[]⟩, .string ⟨#[]⟩] 27)) := ⟨_, rfl⟩
            rw [← hw] at q x0 z0 ⊢
            clear hw
            obtain ⟨g17, hg⟩ : ∃ g', g' = w12.heap.size := ⟨_, rfl⟩
            have hg_g17 : Hid (wr.heap.size ≤ g17) := hide (by rw [hg]; exact (unhide d_w12).size)
            have b_w16 := b_w12.trans (q.mono b_w12.size)
            have d_w16 : Hid (Below wr.heap.size wr w16) := hide ((unhide d_w12).trans (q.mono (unhide d_w12).size))
            have HS_w16 : Hid (w16.cell? ⟨gw, 0, none⟩ = some (.int .i64 eP.z.b) ∧ w16.cell? ⟨gw, 1, none⟩ = some (.int .i64 eP.z.r) ∧ w16.cell? ⟨gw, 2, none⟩ = some (.int .i64 eP.z.u) ∧ w16.cell? ⟨gw, 3, none⟩ = some (.int .i64 eP.z.e) ∧ w16.cell? ⟨gw, 4, none⟩ = some (.string (strOfNums eP.h)) ∧ w16.cell? ⟨gw, 5, none⟩ = some (.string (strOfNums eP.t))) := hide (by
              obtain ⟨c0, c1, c2, c3, c4, c5⟩ := unhide HS_w12
              have hz : gw < w12.heap.size := by have := (unhide d_w12).size; omega
              exact ⟨(q.cell hz).trans c0, (q.cell hz).trans c1, (q.cell hz).trans c2, (q.cell hz).trans c3, (q.cell hz).trans c4, (q.cell hz).trans c5⟩)
            rw [← hg] at x0 z0 ⊢
            have x_w16 := hide x0
            have z_w16 := hide z0
            clear q hg x0 z0
            try dsimp only
            refine unhide hK _ _ (fun _ => unhide HS_w16) ?_
            clear hK K HS_w12 b_w12 d_w12
            refine anyL_ready (rs := [2]) (by kernel_rfl) (by simp) ?_
            refine AllL.cons rfl (fun K hK => ?_) AllL.nil
            go_simp
            refine (Join_at eP e0 w16 (unhide WW _ b_w16) BK B0).mono ?_
            rw [unhide JN]
            dsimp only
            unfold weV
            rintro y w18 ⟨rfl, q⟩
            have b_w18 := b_w16.trans (q.mono b_w16.size)
            have d_w18 : Hid (Below wr.heap.size wr w18) := hide ((unhide d_w16).trans (q.mono (unhide d_w16).size))
            have HS_w18 : Hid (w18.cell? ⟨gw, 0, none⟩ = some (.int .i64 eP.z.b) ∧ w18.cell? ⟨gw, 1, none⟩ = some (.int .i64 eP.z.r) ∧ w18.cell? ⟨gw, 2, none⟩ = some (.int .i64 eP.z.u) ∧ w18.cell? ⟨gw, 3, none⟩ = some (.int .i64 eP.z.e) ∧ w18.cell? ⟨gw, 4, none⟩ = some (.string (strOfNums eP.h)) ∧ w18.cell? ⟨gw, 5, none⟩ = some (.string (strOfNums eP.t))) := hide (by
              obtain ⟨c0, c1, c2, c3, c4, c5⟩ := unhide HS_w16
              have hz : gw < w16.heap.size := by have := (unhide d_w16).size; omega
              exact ⟨(q.cell hz).trans c0, (q.cell hz).trans c1, (q.cell hz).trans c2, (q.cell hz).trans c3, (q.cell hz).trans c4, (q.cell hz).trans c5⟩)
            have x_w18 : Hid (w18.heap[g17]? = some (.cells #[.int .i64 0, .int .i64 0, .int .i64 0, .int .i64 0, .string ⟨#[]⟩, .string ⟨#[]⟩] 27 (0, 0))) := hide ((q.block g17 (unhide z_w16)).trans (unhide x_w16))
            have z_w18 : Hid (g17 < w18.heap.size) := hide (Nat.lt_of_lt_of_le (unhide z_w16) q.size)
            try dsimp only
            refine unhide hK _ _ (fun _ => unhide HS_w18) ?_
            clear hK K q HS_w16 b_w16 d_w16
            refine anyL_take (i := 3) (v := ?vr14x3) rfl (by kernel_rfl) (by kernel_rfl) (by kernel_rfl) (by kernel_rfl) (fun _ _ _ h => h) (Or.inl ⟨by rfl, ?hr14x3⟩) (unhide HS_w18) ?_
            case hr14x3 => (intro w hSw; (try dsimp only at hSw); go_simp) <;> with_reducible rfl
            simp only [Act.put, List.getElem_toArray, List.getElem_cons_zero, List.getElem_cons_succ, List.setIfInBounds_toArray, List.set_cons_zero, List.set_cons_succ]
            refine anyL_take (i := 4) (v := ?vr14x4) rfl (by kernel_rfl) (by kernel_rfl) (by kernel_rfl) (by kernel_rfl) (fun _ _ _ h => h) (Or.inl ⟨by rfl, ?hr14x4⟩) (unhide HS_w18) ?_
            case hr14x4 => (intro w hSw; (try dsimp only at hSw); go_simp) <;> with_reducible rfl
            simp only [Act.put, List.getElem_toArray, List.getElem_cons_zero, List.getElem_cons_succ, List.setIfInBounds_toArray, List.set_cons_zero, List.set_cons_succ]
            refine anyL_take (i := 5) (v := ?vr14x5) rfl (by kernel_rfl) (by kernel_rfl) (by kernel_rfl) (by kernel_rfl) (fun _ _ _ h => h) (Or.inl ⟨by rfl, ?hr14x5⟩) (unhide HS_w18) ?_
            case hr14x5 => (intro w hSw; (try dsimp only at hSw); go_simp) <;> with_reducible rfl
            simp only [Act.put, List.getElem_toArray, List.getElem_cons_zero, List.getElem_cons_succ, List.setIfInBounds_toArray, List.set_cons_zero, List.set_cons_succ]
            obtain ⟨c0, c1, c2, c3, c4, c5, f⟩ := cells6 (unhide x_w18)
            have f0 := f 0
            have f1 := f 1
            have f2 := f 2
            have f3 := f 3
            have f4 := f 4
            have f5 := f 5
            clear f
            have xf : Hid (((((((w18.setCell ⟨g17, 0, none⟩ (.int .i64 eP.z.b)).setCell ⟨g17, 1, none⟩ (.int .i64 eP.z.r)).setCell ⟨g17, 2, none⟩ (.int .i64 eP.z.u)).setCell ⟨g17, 3, none⟩ (.int .i64 eP.z.e)).setCell ⟨g17, 4, none⟩ (.string (strOfNums eP.h))).setCell ⟨g17, 5, none⟩ (.string (strOfNums eP.t))).heap[g17]? = some (.cells #[.int .i64 eP.z.b, .int .i64 eP.z.r, .int .i64 eP.z.u, .int .i64 eP.z.e, .string (strOfNums eP.h), .string (strOfNums eP.t)] 27 (0, 0))) := hide (box6_all (unhide x_w18) (.int .i64 eP.z.b) (.int .i64 eP.z.r) (.int .i64 eP.z.u) (.int .i64 eP.z.e) (.string (strOfNums eP.h)) (.string (strOfNums eP.t)))
            have bf : Hid (Below wr.heap.size wr ((((((w18.setCell ⟨g17, 0, none⟩ (.int .i64 eP.z.b)).setCell ⟨g17, 1, none⟩ (.int .i64 eP.z.r)).setCell ⟨g17, 2, none⟩ (.int .i64 eP.z.u)).setCell ⟨g17, 3, none⟩ (.int .i64 eP.z.e)).setCell ⟨g17, 4, none⟩ (.string (strOfNums eP.h))).setCell ⟨g17, 5, none⟩ (.string (strOfNums eP.t)))) := hide (below6 (unhide d_w18) (unhide hg_g17) (.int .i64 eP.z.b) (.int .i64 eP.z.r) (.int .i64 eP.z.u) (.int .i64 eP.z.e) (.string (strOfNums eP.h)) (.string (strOfNums eP.t)))
            have zf : Hid (g17 < ((((((w18.setCell ⟨g17, 0, none⟩ (.int .i64 eP.z.b)).setCell ⟨g17, 1, none⟩ (.int .i64 eP.z.r)).setCell ⟨g17, 2, none⟩ (.int .i64 eP.z.u)).setCell ⟨g17, 3, none⟩ (.int .i64 eP.z.e)).setCell ⟨g17, 4, none⟩ (.string (strOfNums eP.h))).setCell ⟨g17, 5, none⟩ (.string (strOfNums eP.t))).heap.size) := hide (by rw [size_set6]; exact unhide z_w18)
            have SF : Hid (((((((w18.setCell ⟨g17, 0, none⟩ (.int .i64 eP.z.b)).setCell ⟨g17, 1, none⟩ (.int .i64 eP.z.r)).setCell ⟨g17, 2, none⟩ (.int .i64 eP.z.u)).setCell ⟨g17, 3, none⟩ (.int .i64 eP.z.e)).setCell ⟨g17, 4, none⟩ (.string (strOfNums eP.h))).setCell ⟨g17, 5, none⟩ (.string (strOfNums eP.t))).cell? ⟨gw, 0, none⟩ = some (.int .i64 eP.z.b) ∧ ((((((w18.setCell ⟨g17, 0, none⟩ (.int .i64 eP.z.b)).setCell ⟨g17, 1, none⟩ (.int .i64 eP.z.r)).setCell ⟨g17, 2, none⟩ (.int .i64 eP.z.u)).setCell ⟨g17, 3, none⟩ (.int .i64 eP.z.e)).setCell ⟨g17, 4, none⟩ (.string (strOfNums eP.h))).setCell ⟨g17, 5, none⟩ (.string (strOfNums eP.t))).cell? ⟨gw, 1, none⟩ = some (.int .i64 eP.z.r) ∧ ((((((w18.setCell ⟨g17, 0, none⟩ (.int .i64 eP.z.b)).setCell ⟨g17, 1, none⟩ (.int .i64 eP.z.r)).setCell ⟨g17, 2, none⟩ (.int .i64 eP.z.u)).setCell ⟨g17, 3, none⟩ (.int .i64 eP.z.e)).setCell ⟨g17, 4, none⟩ (.string (strOfNums eP.h))).setCell ⟨g17, 5, none⟩ (.string (strOfNums eP.t))).cell? ⟨gw, 2, none⟩ = some (.int .i64 eP.z.u) ∧ ((((((w18.setCell ⟨g17, 0, none⟩ (.int .i64 eP.z.b)).setCell ⟨g17, 1, none⟩ (.int .i64 eP.z.r)).setCell ⟨g17, 2, none⟩ (.int .i64 eP.z.u)).setCell ⟨g17, 3, none⟩ (.int .i64 eP.z.e)).setCell ⟨g17, 4, none⟩ (.string (strOfNums eP.h))).setCell ⟨g17, 5, none⟩ (.string (strOfNums eP.t))).cell? ⟨gw, 3, none⟩ = some (.int .i64 eP.z.e) ∧ ((((((w18.setCell ⟨g17, 0, none⟩ (.int .i64 eP.z.b)).setCell ⟨g17, 1, none⟩ (.int .i64 eP.z.r)).setCell ⟨g17, 2, none⟩ (.int .i64 eP.z.u)).setCell ⟨g17, 3, none⟩ (.int .i64 eP.z.e)).setCell ⟨g17, 4, none⟩ (.string (strOfNums eP.h))).setCell ⟨g17, 5, none⟩ (.string (strOfNums eP.t))).cell? ⟨gw, 4, none⟩ = some (.string (strOfNums eP.h)) ∧ ((((((w18.setCell ⟨g17, 0, none⟩ (.int .i64 eP.z.b)).setCell ⟨g17, 1, none⟩ (.int .i64 eP.z.r)).setCell ⟨g17, 2, none⟩ (.int .i64 eP.z.u)).setCell ⟨g17, 3, none⟩ (.int .i64 eP.z.e)).setCell ⟨g17, 4, none⟩ (.string (strOfNums eP.h))).setCell ⟨g17, 5, none⟩ (.string (strOfNums eP.t))).cell? ⟨gw, 5, none⟩ = some (.string (strOfNums eP.t))) := hide (by
              obtain ⟨c0, c1, c2, c3, c4, c5, _⟩ := cells6 (unhide hx)
              exact ⟨((unhide bf).cell hzz).trans c0, ((unhide bf).cell hzz).trans c1, ((unhide bf).cell hzz).trans c2, ((unhide bf).cell hzz).trans c3, ((unhide bf).cell hzz).trans c4, ((unhide bf).cell hzz).trans c5⟩)
            refine anyL_ready (rs := [7]) (by kernel_rfl) (by simp) ?_
            refine AllL.cons rfl (fun K hK => ?_) AllL.nil
            go_simp
            refine unhide hK _ _ (fun _ => unhide SF) ?_
            clear hK K c0 c1 c2 c3 c4 c5 f0 f1 f2 f3 f4 f5
            refine anyL_take (i := 8) (v := ?vr14x8) rfl (by kernel_rfl) (by kernel_rfl) (by kernel_rfl) (by kernel_rfl) (fun _ _ _ h => h) (Or.inl ⟨by rfl, ?hr14x8⟩) (unhide SF) ?_
            case hr14x8 => (intro w hSw; (try dsimp only at hSw); go_simp) <;> with_reducible rfl
            simp only [Act.put, List.getElem_toArray, List.getElem_cons_zero, List.getElem_cons_succ, List.setIfInBounds_toArray, List.set_cons_zero, List.set_cons_succ]
            refine anyL_done (by kernel_rfl) ?_ _
            go_wp2_with fail
            go_meet
            exact ⟨rfl, g17, rfl, hg_g17, zf, xf, bf⟩
        · go_simp
          have q : Below wd.heap.size wd (wd.alloc (.cells #[.int .i64 0, .int .i64 0, .int .i64 0, .int .i64 0, .string ⟨#[]⟩, .string ⟨#[]⟩] 27)) := (Below.refl _ _).alloc (Nat.le_refl _) _
          have x0 := push_get wd (.cells #[.int .i64 0, .int .i64 0, .int .i64 0, .int .i64 0, .string ⟨#[]⟩, .string ⟨#[]⟩] 27)
          have z0 : wd.heap.size < (wd.alloc (.cells #[.int .i64 0, .int .i64 0, .int .i64 0, .int .i64 0, .string ⟨#[]⟩, .string ⟨#[]⟩] 27)).heap.size := by rw [World.size_alloc]; omega
          obtain ⟨w19, hw⟩ : ∃ w', w' = (wd.alloc (.cells #[.int .i64 0, .int .i64 0, .int .i64 0, .int .i64 0, .string ⟨#[]⟩, .string ⟨#[]⟩] 27)) := ⟨_, rfl⟩
          rw [← hw] at q x0 z0 ⊢
          clear hw
          obtain ⟨g20, hg⟩ : ∃ g', g' = wd.heap.size := ⟨_, rfl⟩
          have hg_g20 : Hid (wr.heap.size ≤ g20) := hide (by rw [hg]; exact (unhide d_wd).size)
          have b_w19 := b_wd.trans (q.mono b_wd.size)
          have d_w19 : Hid (Below wr.heap.size wr w19) := hide ((unhide d_wd).trans (q.mono (unhide d_wd).size))
          have HS_w19 : Hid (w19.cell? ⟨gw, 0, none⟩ = some (.int .i64 eP.z.b) ∧ w19.cell? ⟨gw, 1, none⟩ = some (.int .i64 eP.z.r) ∧ w19.cell? ⟨gw, 2, none⟩ = some (.int .i64 eP.z.u) ∧ w19.cell? ⟨gw, 3, none⟩ = some (.int .i64 eP.z.e) ∧ w19.cell? ⟨gw, 4, none⟩ = some (.string (strOfNums eP.h)) ∧ w19.cell? ⟨gw, 5, none⟩ = some (.string (strOfNums eP.t))) := hide (by
            obtain ⟨c0, c1, c2, c3, c4, c5⟩ := unhide HS_wd
            have hz : gw < wd.heap.size := by have := (unhide d_wd).size; omega
            exact ⟨(q.cell hz).trans c0, (q.cell hz).trans c1, (q.cell hz).trans c2, (q.cell hz).trans c3, (q.cell hz).trans c4, (q.cell hz).trans c5⟩)
          rw [← hg] at x0 z0 ⊢
          have x_w19 := hide x0
          have z_w19 := hide z0
          clear q hg x0 z0
          try dsimp only
          refine unhide hK _ _ (fun _ => unhide HS_w19) ?_
          clear hK K HS_wd b_wd d_wd
          refine anyL_ready (rs := [1]) (by kernel_rfl) (by simp) ?_
          refine AllL.cons rfl (fun K hK => ?_) AllL.nil
          go_simp
          refine (unhide O0 _ b_w19).mono ?_
          unfold weV
          rintro y w21 ⟨rfl, q⟩
          have b_w21 := b_w19.trans (q.mono b_w19.size)
          have d_w21 : Hid (Below wr.heap.size wr w21) := hide ((unhide d_w19).trans (q.mono (unhide d_w19).size))
          have HS_w21 : Hid (w21.cell? ⟨gw, 0, none⟩ = some (.int .i64 eP.z.b) ∧ w21.cell? ⟨gw, 1, none⟩ = some (.int .i64 eP.z.r) ∧ w21.cell? ⟨gw, 2, none⟩ = some (.int .i64 eP.z.u) ∧ w21.cell? ⟨gw, 3, none⟩ = some (.int .i64 eP.z.e) ∧ w21.cell? ⟨gw, 4, none⟩ = some (.string (strOfNums eP.h)) ∧ w21.cell? ⟨gw, 5, none⟩ = some (.string (strOfNums eP.t))) := hide (by
            obtain ⟨c0, c1, c2, c3, c4, c5⟩ := unhide HS_w19
            have hz : gw < w19.heap.size := by have := (unhide d_w19).size; omega
            exact ⟨(q.cell hz).trans c0, (q.cell hz).trans c1, (q.cell hz).trans c2, (q.cell hz).trans c3, (q.cell hz).trans c4, (q.cell hz).trans c5⟩)
          have x_w21 : Hid (w21.heap[g20]? = some (.cells #[.int .i64 0, .int .i64 0, .int .i64 0, .int .i64 0, .string ⟨#[]⟩, .string ⟨#[]⟩] 27 (0, 0))) := hide ((q.block g20 (unhide z_w19)).trans (unhide x_w19))
          have z_w21 : Hid (g20 < w21.heap.size) := hide (Nat.lt_of_lt_of_le (unhide z_w19) q.size)
          try dsimp only
          refine unhide hK _ _ (fun _ => unhide HS_w21) ?_
          clear hK K q HS_w19 b_w19 d_w19
          refine anyL_ready (rs := [2]) (by kernel_rfl) (by simp) ?_
          refine AllL.cons rfl (fun K hK => ?_) AllL.nil
          go_simp
          refine (Join_at eP e0 w21 (unhide WW _ b_w21) BK B0).mono ?_
          rw [unhide JN]
          dsimp only
          unfold weV
          rintro y w22 ⟨rfl, q⟩
          have b_w22 := b_w21.trans (q.mono b_w21.size)
          have d_w22 : Hid (Below wr.heap.size wr w22) := hide ((unhide d_w21).trans (q.mono (unhide d_w21).size))
          have HS_w22 : Hid (w22.cell? ⟨gw, 0, none⟩ = some (.int .i64 eP.z.b) ∧ w22.cell? ⟨gw, 1, none⟩ = some (.int .i64 eP.z.r) ∧ w22.cell? ⟨gw, 2, none⟩ = some (.int .i64 eP.z.u) ∧ w22.cell? ⟨gw, 3, none⟩ = some (.int .i64 eP.z.e) ∧ w22.cell? ⟨gw, 4, none⟩ = some (.string (strOfNums eP.h)) ∧ w22.cell? ⟨gw, 5, none⟩ = some (.string (strOfNums eP.t))) := hide (by
            obtain ⟨c0, c1, c2, c3, c4, c5⟩ := unhide HS_w21
            have hz : gw < w21.heap.size := by have := (unhide d_w21).size; omega
            exact ⟨(q.cell hz).trans c0, (q.cell hz).trans c1, (q.cell hz).trans c2, (q.cell hz).trans c3, (q.cell hz).trans c4, (q.cell hz).trans c5⟩)
          have x_w22 : Hid (w22.heap[g20]? = some (.cells #[.int .i64 0, .int .i64 0, .int .i64 0, .int .i64 0, .string ⟨#[]⟩, .string ⟨#[]⟩] 27 (0, 0))) := hide ((q.block g20 (unhide z_w21)).trans (unhide x_w21))
          have z_w22 : Hid (g20 < w22.heap.size) := hide (Nat.lt_of_lt_of_le (unhide z_w21) q.size)
          try dsimp only
          refine unhide hK _ _ (fun _ => unhide HS_w22) ?_
          clear hK K q HS_w21 b_w21 d_w21
          refine anyL_take (i := 3) (v := ?vr14x3) rfl (by kernel_rfl) (by kernel_rfl) (by kernel_rfl) (by kernel_rfl) (fun _ _ _ h => h) (Or.inl ⟨by rfl, ?hr14x3⟩) (unhide HS_w22) ?_
          case hr14x3 => (intro w hSw; (try dsimp only at hSw); go_simp) <;> with_reducible rfl
          simp only [Act.put, List.getElem_toArray, List.getElem_cons_zero, List.getElem_cons_succ, List.setIfInBounds_toArray, List.set_cons_zero, List.set_cons_succ]
          refine anyL_take (i := 4) (v := ?vr14x4) rfl (by kernel_rfl) (by kernel_rfl) (by kernel_rfl) (by kernel_rfl) (fun _ _ _ h => h) (Or.inl ⟨by rfl, ?hr14x4⟩) (unhide HS_w22) ?_
          case hr14x4 => (intro w hSw; (try dsimp only at hSw); go_simp) <;> with_reducible rfl
          simp only [Act.put, List.getElem_toArray, List.getElem_cons_zero, List.getElem_cons_succ, List.setIfInBounds_toArray, List.set_cons_zero, List.set_cons_succ]
          refine anyL_take (i := 5) (v := ?vr14x5) rfl (by kernel_rfl) (by kernel_rfl) (by kernel_rfl) (by kernel_rfl) (fun _ _ _ h => h) (Or.inl ⟨by rfl, ?hr14x5⟩) (unhide HS_w22) ?_
          case hr14x5 => (intro w hSw; (try dsimp only at hSw); go_simp) <;> with_reducible rfl
          simp only [Act.put, List.getElem_toArray, List.getElem_cons_zero, List.getElem_cons_succ, List.setIfInBounds_toArray, List.set_cons_zero, List.set_cons_succ]
          obtain ⟨c0, c1, c2, c3, c4, c5, f⟩ := cells6 (unhide x_w22)
          have f0 := f 0
          have f1 := f 1
          have f2 := f 2
          have f3 := f 3
          have f4 := f 4
          have f5 := f 5
          clear f
          have xf : Hid (((((((w22.setCell ⟨g20, 0, none⟩ (.int .i64 eP.z.b)).setCell ⟨g20, 1, none⟩ (.int .i64 eP.z.r)).setCell ⟨g20, 2, none⟩ (.int .i64 eP.z.u)).setCell ⟨g20, 3, none⟩ (.int .i64 eP.z.e)).setCell ⟨g20, 4, none⟩ (.string (strOfNums eP.h))).setCell ⟨g20, 5, none⟩ (.string (strOfNums eP.t))).heap[g20]? = some (.cells #[.int .i64 eP.z.b, .int .i64 eP.z.r, .int .i64 eP.z.u, .int .i64 eP.z.e, .string (strOfNums eP.h), .string (strOfNums eP.t)] 27 (0, 0))) := hide (box6_all (unhide x_w22) (.int .i64 eP.z.b) (.int .i64 eP.z.r) (.int .i64 eP.z.u) (.int .i64 eP.z.e) (.string (strOfNums eP.h)) (.string (strOfNums eP.t)))
          have bf : Hid (Below wr.heap.size wr ((((((w22.setCell ⟨g20, 0, none⟩ (.int .i64 eP.z.b)).setCell ⟨g20, 1, none⟩ (.int .i64 eP.z.r)).setCell ⟨g20, 2, none⟩ (.int .i64 eP.z.u)).setCell ⟨g20, 3, none⟩ (.int .i64 eP.z.e)).setCell ⟨g20, 4, none⟩ (.string (strOfNums eP.h))).setCell ⟨g20, 5, none⟩ (.string (strOfNums eP.t)))) := hide (below6 (unhide d_w22) (unhide hg_g20) (.int .i64 eP.z.b) (.int .i64 eP.z.r) (.int .i64 eP.z.u) (.int .i64 eP.z.e) (.string (strOfNums eP.h)) (.string (strOfNums eP.t)))
          have zf : Hid (g20 < ((((((w22.setCell ⟨g20, 0, none⟩ (.int .i64 eP.z.b)).setCell ⟨g20, 1, none⟩ (.int .i64 eP.z.r)).setCell ⟨g20, 2, none⟩ (.int .i64 eP.z.u)).setCell ⟨g20, 3, none⟩ (.int .i64 eP.z.e)).setCell ⟨g20, 4, none⟩ (.string (strOfNums eP.h))).setCell ⟨g20, 5, none⟩ (.string (strOfNums eP.t))).heap.size) := hide (by rw [size_set6]; exact unhide z_w22)
          have SF : Hid (((((((w22.setCell ⟨g20, 0, none⟩ (.int .i64 eP.z.b)).setCell ⟨g20, 1, none⟩ (.int .i64 eP.z.r)).setCell ⟨g20, 2, none⟩ (.int .i64 eP.z.u)).setCell ⟨g20, 3, none⟩ (.int .i64 eP.z.e)).setCell ⟨g20, 4, none⟩ (.string (strOfNums eP.h))).setCell ⟨g20, 5, none⟩ (.string (strOfNums eP.t))).cell? ⟨gw, 0, none⟩ = some (.int .i64 eP.z.b) ∧ ((((((w22.setCell ⟨g20, 0, none⟩ (.int .i64 eP.z.b)).setCell ⟨g20, 1, none⟩ (.int .i64 eP.z.r)).setCell ⟨g20, 2, none⟩ (.int .i64 eP.z.u)).setCell ⟨g20, 3, none⟩ (.int .i64 eP.z.e)).setCell ⟨g20, 4, none⟩ (.string (strOfNums eP.h))).setCell ⟨g20, 5, none⟩ (.string (strOfNums eP.t))).cell? ⟨gw, 1, none⟩ = some (.int .i64 eP.z.r) ∧ ((((((w22.setCell ⟨g20, 0, none⟩ (.int .i64 eP.z.b)).setCell ⟨g20, 1, none⟩ (.int .i64 eP.z.r)).setCell ⟨g20, 2, none⟩ (.int .i64 eP.z.u)).setCell ⟨g20, 3, none⟩ (.int .i64 eP.z.e)).setCell ⟨g20, 4, none⟩ (.string (strOfNums eP.h))).setCell ⟨g20, 5, none⟩ (.string (strOfNums eP.t))).cell? ⟨gw, 2, none⟩ = some (.int .i64 eP.z.u) ∧ ((((((w22.setCell ⟨g20, 0, none⟩ (.int .i64 eP.z.b)).setCell ⟨g20, 1, none⟩ (.int .i64 eP.z.r)).setCell ⟨g20, 2, none⟩ (.int .i64 eP.z.u)).setCell ⟨g20, 3, none⟩ (.int .i64 eP.z.e)).setCell ⟨g20, 4, none⟩ (.string (strOfNums eP.h))).setCell ⟨g20, 5, none⟩ (.string (strOfNums eP.t))).cell? ⟨gw, 3, none⟩ = some (.int .i64 eP.z.e) ∧ ((((((w22.setCell ⟨g20, 0, none⟩ (.int .i64 eP.z.b)).setCell ⟨g20, 1, none⟩ (.int .i64 eP.z.r)).setCell ⟨g20, 2, none⟩ (.int .i64 eP.z.u)).setCell ⟨g20, 3, none⟩ (.int .i64 eP.z.e)).setCell ⟨g20, 4, none⟩ (.string (strOfNums eP.h))).setCell ⟨g20, 5, none⟩ (.string (strOfNums eP.t))).cell? ⟨gw, 4, none⟩ = some (.string (strOfNums eP.h)) ∧ ((((((w22.setCell ⟨g20, 0, none⟩ (.int .i64 eP.z.b)).setCell ⟨g20, 1, none⟩ (.int .i64 eP.z.r)).setCell ⟨g20, 2, none⟩ (.int .i64 eP.z.u)).setCell ⟨g20, 3, none⟩ (.int .i64 eP.z.e)).setCell ⟨g20, 4, none⟩ (.string (strOfNums eP.h))).setCell ⟨g20, 5, none⟩ (.string (strOfNums eP.t))).cell? ⟨gw, 5, none⟩ = some (.string (strOfNums eP.t))) := hide (by
            obtain ⟨c0, c1, c2, c3, c4, c5, _⟩ := cells6 (unhide hx)
            exact ⟨((unhide bf).cell hzz).trans c0, ((unhide bf).cell hzz).trans c1, ((unhide bf).cell hzz).trans c2, ((unhide bf).cell hzz).trans c3, ((unhide bf).cell hzz).trans c4, ((unhide bf).cell hzz).trans c5⟩)
          refine anyL_ready (rs := [7]) (by kernel_rfl) (by simp) ?_
          refine AllL.cons rfl (fun K hK => ?_) AllL.nil
          go_simp
          refine unhide hK _ _ (fun _ => unhide SF) ?_
          clear hK K c0 c1 c2 c3 c4 c5 f0 f1 f2 f3 f4 f5
          refine anyL_take (i := 8) (v := ?vr14x8) rfl (by kernel_rfl) (by kernel_rfl) (by kernel_rfl) (by kernel_rfl) (fun _ _ _ h => h) (Or.inl ⟨by rfl, ?hr14x8⟩) (unhide SF) ?_
          case hr14x8 => (intro w hSw; (try dsimp only at hSw); go_simp) <;> with_reducible rfl
          simp only [Act.put, List.getElem_toArray, List.getElem_cons_zero, List.getElem_cons_succ, List.setIfInBounds_toArray, List.set_cons_zero, List.set_cons_succ]
          refine anyL_done (by kernel_rfl) ?_ _
          go_wp2_with fail
          go_meet
          exact ⟨rfl, g20, rfl, hg_g20, zf, xf, bf⟩
      case rest =>
        obtain ⟨rfl, g7, rfl, hg7, zg7, xg7, bg7⟩ := hcut
        obtain ⟨wA, hwA⟩ : ∃ wA, wA = wc := ⟨_, rfl⟩
        subst hwA
        have hx0 := unhide hx
        have hx : Hid (wA.heap[gw]? = some (.cells #[.int .i64 eP.z.b, .int .i64 eP.z.r, .int .i64 eP.z.u, .int .i64 eP.z.e, .string (strOfNums eP.h), .string (strOfNums eP.t)] 27 (0, 0))) := hide (((unhide bg7).block gw hzz).trans hx0)
        have bb := bb.trans ((unhide bg7).mono bb.size)
        have hzz : gw < wA.heap.size := by have := (unhide bg7).size; omega
        have JN := J2
        clear HS_wd b_wd d_wd hx0
        obtain ⟨c0, c1, c2, c3, c4, c5, _⟩ := cells6 (unhide hx)
        have HS_wd : Hid (wA.drew.cell? ⟨gw, 0, none⟩ = some (.int .i64 eP.z.b) ∧ wA.drew.cell? ⟨gw, 1, none⟩ = some (.int .i64 eP.z.r) ∧ wA.drew.cell? ⟨gw, 2, none⟩ = some (.int .i64 eP.z.u) ∧ wA.drew.cell? ⟨gw, 3, none⟩ = some (.int .i64 eP.z.e) ∧ wA.drew.cell? ⟨gw, 4, none⟩ = some (.string (strOfNums eP.h)) ∧ wA.drew.cell? ⟨gw, 5, none⟩ = some (.string (strOfNums eP.t))) := hide ⟨c0, c1, c2, c3, c4, c5⟩
        have b_wd : Below w.heap.size w wA.drew := Below.drewN bb 1
        have d_wd : Hid (Below wA.heap.size wA wA.drew) := hide (Below.drewN (Below.refl _ _) 1)
        clear c0 c1 c2 c3 c4 c5
        go_upto_region 15 with fail
        go_cut [9, 10] (fun p e wz => e = .int .i64 0 ∧ ∃ gn, p = .pointer (some ⟨gn, 0, none⟩) ∧ Hid (wA.heap.size ≤ gn) ∧ Hid (gn < wz.heap.size) ∧ Hid (wz.heap[gn]? = some (.cells #[.int .i64 eP.z.b, .int .i64 eP.z.r, .int .i64 eP.z.u, .int .i64 eP.z.e, .string (strOfNums eP.h), .string (strOfNums eP.t)] 27 (0, 0))) ∧ Hid (Below wA.heap.size wA wz))
        case first =>
          refine regionL (S := fun w' => w'.cell? ⟨gw, 0, none⟩ = some (.int .i64 eP.z.b) ∧ w'.cell? ⟨gw, 1, none⟩ = some (.int .i64 eP.z.r) ∧ w'.cell? ⟨gw, 2, none⟩ = some (.int .i64 eP.z.u) ∧ w'.cell? ⟨gw, 3, none⟩ = some (.int .i64 eP.z.e) ∧ w'.cell? ⟨gw, 4, none⟩ = some (.string (strOfNums eP.h)) ∧ w'.cell? ⟨gw, 5, none⟩ = some (.string (strOfNums eP.t))) (fun _ => false) (by kernel_rfl) ?_
          generalize wA.drew = wd at *
          refine anyL_take (i := 1) (v := ?vr15x1) rfl (by kernel_rfl) (by kernel_rfl) (by kernel_rfl) (by kernel_rfl) (fun _ _ _ h => h) (Or.inl ⟨by rfl, ?hr15x1⟩) (unhide HS_wd) ?_
          case hr15x1 => (intro w hSw; (try dsimp only at hSw); go_simp) <;> with_reducible rfl
          simp only [Act.put, List.getElem_toArray, List.getElem_cons_zero, List.getElem_cons_succ, List.setIfInBounds_toArray, List.set_cons_zero, List.set_cons_succ]
          refine anyL_ready (rs := [0, 6]) (by kernel_rfl) (by simp) ?_
          refine AllL.cons rfl (fun K hK => ?_) (AllL.cons rfl (fun K hK => ?_) AllL.nil)
          · go_simp
            refine (unhide O0 _ b_wd).mono ?_
            unfold weV
            rintro y w23 ⟨rfl, q⟩
            have b_w23 := b_wd.trans (q.mono b_wd.size)
            have d_w23 : Hid (Below wA.heap.size wA w23) := hide ((unhide d_wd).trans (q.mono (unhide d_wd).size))
            have HS_w23 : Hid (w23.cell? ⟨gw, 0, none⟩ = some (.int .i64 eP.z.b) ∧ w23.cell? ⟨gw, 1, none⟩ = some (.int .i64 eP.z.r) ∧ w23.cell? ⟨gw, 2, none⟩ = some (.int .i64 eP.z.u) ∧ w23.cell? ⟨gw, 3, none⟩ = some (.int .i64 eP.z.e) ∧ w23.cell? ⟨gw, 4, none⟩ = some (.string (strOfNums eP.h)) ∧ w23.cell? ⟨gw, 5, none⟩ = some (.string (strOfNums eP.t))) := hide (by
              obtain ⟨c0, c1, c2, c3, c4, c5⟩ := unhide HS_wd
              have hz : gw < wd.heap.size := by have := (unhide d_wd).size; omega
              exact ⟨(q.cell hz).trans c0, (q.cell hz).trans c1, (q.cell hz).trans c2, (q.cell hz).trans c3, (q.cell hz).trans c4, (q.cell hz).trans c5⟩)
            try dsimp only
            refine unhide hK _ _ (fun _ => unhide HS_w23) ?_
            clear hK K q HS_wd b_wd d_wd
            refine anyL_ready (rs := [2, 6]) (by kernel_rfl) (by simp) ?_
            refine AllL.cons rfl (fun K hK => ?_) (AllL.cons rfl (fun K hK => ?_) AllL.nil)
            · go_simp
              refine (Join_at e0 eP w23 (unhide WW _ b_w23) B0 BK).mono ?_
              rw [unhide JN]
              dsimp only
              unfold weV
              rintro y w24 ⟨rfl, q⟩
              have b_w24 := b_w23.trans (q.mono b_w23.size)
              have d_w24 : Hid (Below wA.heap.size wA w24) := hide ((unhide d_w23).trans (q.mono (unhide d_w23).size))
              have HS_w24 : Hid (w24.cell? ⟨gw, 0, none⟩ = some (.int .i64 eP.z.b) ∧ w24.cell? ⟨gw, 1, none⟩ = some (.int .i64 eP.z.r) ∧ w24.cell? ⟨gw, 2, none⟩ = some (.int .i64 eP.z.u) ∧ w24.cell? ⟨gw, 3, none⟩ = some (.int .i64 eP.z.e) ∧ w24.cell? ⟨gw, 4, none⟩ = some (.string (strOfNums eP.h)) ∧ w24.cell? ⟨gw, 5, none⟩ = some (.string (strOfNums eP.t))) := hide (by
                obtain ⟨c0, c1, c2, c3, c4, c5⟩ := unhide HS_w23
                have hz : gw < w23.heap.size := by have := (unhide d_w23).size; omega
                exact ⟨(q.cell hz).trans c0, (q.cell hz).trans c1, (q.cell hz).trans c2, (q.cell hz).trans c3, (q.cell hz).trans c4, (q.cell hz).trans c5⟩)
              try dsimp only
              refine unhide hK _ _ (fun _ => unhide HS_w24) ?_
              clear hK K q HS_w23 b_w23 d_w23
              refine anyL_take (i := 3) (v := ?vr15x3) rfl (by kernel_rfl) (by kernel_rfl) (by kernel_rfl) (by kernel_rfl) (fun _ _ _ h => h) (Or.inl ⟨by rfl, ?hr15x3⟩) (unhide HS_w24) ?_
              case hr15x3 => (intro w hSw; (try dsimp only at hSw); go_simp) <;> with_reducible rfl
              simp only [Act.put, List.getElem_toArray, List.getElem_cons_zero, List.getElem_cons_succ, List.setIfInBounds_toArray, List.set_cons_zero, List.set_cons_succ]
              refine anyL_take (i := 4) (v := ?vr15x4) rfl (by kernel_rfl) (by kernel_rfl) (by kernel_rfl) (by kernel_rfl) (fun _ _ _ h => h) (Or.inl ⟨by rfl, ?hr15x4⟩) (unhide HS_w24) ?_
              case hr15x4 => (intro w hSw; (try dsimp only at hSw); go_simp) <;> with_reducible rfl
              simp only [Act.put, List.getElem_toArray, List.getElem_cons_zero, List.getElem_cons_succ, List.setIfInBounds_toArray, List.set_cons_zero, List.set_cons_succ]
              refine anyL_take (i := 5) (v := ?vr15x5) rfl (by kernel_rfl) (by kernel_rfl) (by kernel_rfl) (by kernel_rfl) (fun _ _ _ h => h) (Or.inl ⟨by rfl, ?hr15x5⟩) (unhide HS_w24) ?_
              case hr15x5 => (intro w hSw; (try dsimp only at hSw); go_simp) <;> with_reducible rfl
              simp only [Act.put, List.getElem_toArray, List.getElem_cons_zero, List.getElem_cons_succ, List.setIfInBounds_toArray, List.set_cons_zero, List.set_cons_succ]
              refine anyL_ready (rs := [6]) (by kernel_rfl) (by simp) ?_
              refine AllL.cons rfl (fun K hK => ?_) AllL.nil
              go_simp
              have q : Below w24.heap.size w24 (w24.alloc (.cells #[.int .i64 0, .int .i64 0, .int .i64 0, .int .i64 0, .string ⟨#[]⟩, .string ⟨#[]⟩] 27)) := (Below.refl _ _).alloc (Nat.le_refl _) _
              have x0 := push_get w24 (.cells #[.int .i64 0, .int .i64 0, .int .i64 0, .int .i64 0, .string ⟨#[]⟩, .string ⟨#[]⟩] 27)
              have z0 : w24.heap.size < (w24.alloc (.cells #[.int .i64 0, .int .i64 0, .int .i64 0, .int .i64 0, .string ⟨#[]⟩, .string ⟨#[]⟩] 27)).heap.size := by rw [World.size_alloc]; omega
              obtain ⟨w25, hw⟩ : ∃ w', w' = (w24.alloc (.cells #[.int .i64 0, .int .i64 0, .int .i64 0, .int .i64 0, .string ⟨#[]⟩, .string ⟨#[]⟩] 27)) := ⟨_, rfl⟩
              rw [← hw] at q x0 z0 ⊢
              clear hw
              obtain ⟨g26, hg⟩ : ∃ g', g' = w24.heap.size := ⟨_, rfl⟩
              have hg_g26 : Hid (wA.heap.size ≤ g26) := hide (by rw [hg]; exact (unhide d_w24).size)
              have b_w25 := b_w24.trans (q.mono b_w24.size)
              have d_w25 : Hid (Below wA.heap.size wA w25) := hide ((unhide d_w24).trans (q.mono (unhide d_w24).size))
              have HS_w25 : Hid (w25.cell? ⟨gw, 0, none⟩ = some (.int .i64 eP.z.b) ∧ w25.cell? ⟨gw, 1, none⟩ = some (.int .i64 eP.z.r) ∧ w25.cell? ⟨gw, 2, none⟩ = some (.int .i64 eP.z.u) ∧ w25.cell? ⟨gw, 3, none⟩ = some (.int .i64 eP.z.e) ∧ w25.cell? ⟨gw, 4, none⟩ = some (.string (strOfNums eP.h)) ∧ w25.cell? ⟨gw, 5, none⟩ = some (.string (strOfNums eP.t))) := hide (by
                obtain ⟨c0, c1, c2, c3, c4, c5⟩ := unhide HS_w24
                have hz : gw < w24.heap.size := by have := (unhide d_w24).size; omega
                exact ⟨(q.cell hz).trans c0, (q.cell hz).trans c1, (q.cell hz).trans c2, (q.cell hz).trans c3, (q.cell hz).trans c4, (q.cell hz).trans c5⟩)
              rw [← hg] at x0 z0 ⊢
              have x_w25 := hide x0
              have z_w25 := hide z0
              clear q hg x0 z0
              try dsimp only
              refine unhide hK _ _ (fun _ => unhide HS_w25) ?_
              clear hK K HS_w24 b_w24 d_w24
              obtain ⟨c0, c1, c2, c3, c4, c5, f⟩ := cells6 (unhide x_w25)
              have f0 := f 0
              have f1 := f 1
              have f2 := f 2
              have f3 := f 3
              have f4 := f 4
              have f5 := f 5
              clear f
              have xf : Hid (((((((w25.setCell ⟨g26, 0, none⟩ (.int .i64 eP.z.b)).setCell ⟨g26, 1, none⟩ (.int .i64 eP.z.r)).setCell ⟨g26, 2, none⟩ (.int .i64 eP.z.u)).setCell ⟨g26, 3, none⟩ (.int .i64 eP.z.e)).setCell ⟨g26, 4, none⟩ (.string (strOfNums eP.h))).setCell ⟨g26, 5, none⟩ (.string (strOfNums eP.t))).heap[g26]? = some (.cells #[.int .i64 eP.z.b, .int .i64 eP.z.r, .int .i64 eP.z.u, .int .i64 eP.z.e, .string (strOfNums eP.h), .string (strOfNums eP.t)] 27 (0, 0))) := hide (box6_all (unhide x_w25) (.int .i64 eP.z.b) (.int .i64 eP.z.r) (.int .i64 eP.z.u) (.int .i64 eP.z.e) (.string (strOfNums eP.h)) (.string (strOfNums eP.t)))
              have bf : Hid (Below wA.heap.size wA ((((((w25.setCell ⟨g26, 0, none⟩ (.int .i64 eP.z.b)).setCell ⟨g26, 1, none⟩ (.int .i64 eP.z.r)).setCell ⟨g26, 2, none⟩ (.int .i64 eP.z.u)).setCell ⟨g26, 3, none⟩ (.int .i64 eP.z.e)).setCell ⟨g26, 4, none⟩ (.string (strOfNums eP.h))).setCell ⟨g26, 5, none⟩ (.string (strOfNums eP.t)))) := hide (below6 (unhide d_w25) (unhide hg_g26) (.int .i64 eP.z.b) (.int .i64 eP.z.r) (.int .i64 eP.z.u) (.int .i64 eP.z.e) (.string (strOfNums eP.h)) (.string (strOfNums eP.t)))
              have zf : Hid (g26 < ((((((w25.setCell ⟨g26, 0, none⟩ (.int .i64 eP.z.b)).setCell ⟨g26, 1, none⟩ (.int .i64 eP.z.r)).setCell ⟨g26, 2, none⟩ (.int .i64 eP.z.u)).setCell ⟨g26, 3, none⟩ (.int .i64 eP.z.e)).setCell ⟨g26, 4, none⟩ (.string (strOfNums eP.h))).setCell ⟨g26, 5, none⟩ (.string (strOfNums eP.t))).heap.size) := hide (by rw [size_set6]; exact unhide z_w25)
              have SF : Hid (((((((w25.setCell ⟨g26, 0, none⟩ (.int .i64 eP.z.b)).setCell ⟨g26, 1, none⟩ (.int .i64 eP.z.r)).setCell ⟨g26, 2, none⟩ (.int .i64 eP.z.u)).setCell ⟨g26, 3, none⟩ (.int .i64 eP.z.e)).setCell ⟨g26, 4, none⟩ (.string (strOfNums eP.h))).setCell ⟨g26, 5, none⟩ (.string (strOfNums eP.t))).cell? ⟨gw, 0, none⟩ = some (.int .i64 eP.z.b) ∧ ((((((w25.setCell ⟨g26, 0, none⟩ (.int .i64 eP.z.b)).setCell ⟨g26, 1, none⟩ (.int .i64 eP.z.r)).setCell ⟨g26, 2, none⟩ (.int .i64 eP.z.u)).setCell ⟨g26, 3, none⟩ (.int .i64 eP.z.e)).setCell ⟨g26, 4, none⟩ (.string (strOfNums eP.h))).setCell ⟨g26, 5, none⟩ (.string (strOfNums eP.t))).cell? ⟨gw, 1, none⟩ = some (.int .i64 eP.z.r) ∧ ((((((w25.setCell ⟨g26, 0, none⟩ (.int .i64 eP.z.b)).setCell ⟨g26, 1, none⟩ (.int .i64 eP.z.r)).setCell ⟨g26, 2, none⟩ (.int .i64 eP.z.u)).setCell ⟨g26, 3, none⟩ (.int .i64 eP.z.e)).setCell ⟨g26, 4, none⟩ (.string (strOfNums eP.h))).setCell ⟨g26, 5, none⟩ (.string (strOfNums eP.t))).cell? ⟨gw, 2, none⟩ = some (.int .i64 eP.z.u) ∧ ((((((w25.setCell ⟨g26, 0, none⟩ (.int .i64 eP.z.b)).setCell ⟨g26, 1, none⟩ (.int .i64 eP.z.r)).setCell ⟨g26, 2, none⟩ (.int .i64 eP.z.u)).setCell ⟨g26, 3, none⟩ (.int .i64 eP.z.e)).setCell ⟨g26, 4, none⟩ (.string (strOfNums eP.h))).setCell ⟨g26, 5, none⟩ (.string (strOfNums eP.t))).cell? ⟨gw, 3, none⟩ = some (.int .i64 eP.z.e) ∧ ((((((w25.setCell ⟨g26, 0, none⟩ (.int .i64 eP.z.b)).setCell ⟨g26, 1, none⟩ (.int .i64 eP.z.r)).setCell ⟨g26, 2, none⟩ (.int .i64 eP.z.u)).setCell ⟨g26, 3, none⟩ (.int .i64 eP.z.e)).setCell ⟨g26, 4, none⟩ (.string (strOfNums eP.h))).setCell ⟨g26, 5, none⟩ (.string (strOfNums eP.t))).cell? ⟨gw, 4, none⟩ = some (.string (strOfNums eP.h)) ∧ ((((((w25.setCell ⟨g26, 0, none⟩ (.int .i64 eP.z.b)).setCell ⟨g26, 1, none⟩ (.int .i64 eP.z.r)).setCell ⟨g26, 2, none⟩ (.int .i64 eP.z.u)).setCell ⟨g26, 3, none⟩ (.int .i64 eP.z.e)).setCell ⟨g26, 4, none⟩ (.string (strOfNums eP.h))).setCell ⟨g26, 5, none⟩ (.string (strOfNums eP.t))).cell? ⟨gw, 5, none⟩ = some (.string (strOfNums eP.t))) := hide (by
                obtain ⟨c0, c1, c2, c3, c4, c5, _⟩ := cells6 (unhide hx)
                exact ⟨((unhide bf).cell hzz).trans c0, ((unhide bf).cell hzz).trans c1, ((unhide bf).cell hzz).trans c2, ((unhide bf).cell hzz).trans c3, ((unhide bf).cell hzz).trans c4, ((unhide bf).cell hzz).trans c5⟩)
              refine anyL_ready (rs := [7]) (by kernel_rfl) (by simp) ?_
              refine AllL.cons rfl (fun K hK => ?_) AllL.nil
              go_simp
              refine unhide hK _ _ (fun _ => unhide SF) ?_
              clear hK K c0 c1 c2 c3 c4 c5 f0 f1 f2 f3 f4 f5
              refine anyL_take (i := 8) (v := ?vr15x8) rfl (by kernel_rfl) (by kernel_rfl) (by kernel_rfl) (by kernel_rfl) (fun _ _ _ h => h) (Or.inl ⟨by rfl, ?hr15x8⟩) (unhide SF) ?_
              case hr15x8 => (intro w hSw; (try dsimp only at hSw); go_simp) <;> with_reducible rfl
              simp only [Act.put, List.getElem_toArray, List.getElem_cons_zero, List.getElem_cons_succ, List.setIfInBounds_toArray, List.set_cons_zero, List.set_cons_succ]
              refine anyL_done (by kernel_rfl) ?_ _
              go_wp2_with fail
              go_meet
              exact ⟨rfl, g26, rfl, hg_g26, zf, xf, bf⟩
            · go_simp
              have q : Below w23.heap.size w23 (w23.alloc (.cells #[.int .i64 0, .int .i64 0, .int .i64 0, .int .i64 0, .string ⟨#[]⟩, .string ⟨#[]⟩] 27)) := (Below.refl _ _).alloc (Nat.le_refl _) _
              have x0 := push_get w23 (.cells #[.int .i64 0, .int .i64 0, .int .i64 0, .int .i64 0, .string ⟨#[]⟩, .string ⟨#[]⟩] 27)
              have z0 : w23.heap.size < (w23.alloc (.cells #[.int .i64 0, .int .i64 0, .int .i64 0, .int .i64 0, .string ⟨#[]⟩, .string ⟨#[]⟩] 27)).heap.size := by rw [World.size_alloc]; omega
              obtain ⟨w27, hw⟩ : ∃ w', w' = (w23.alloc (.cells #[.int .i64 0, .int .i64 0, .int .i64 0, .int .i64 0, .string ⟨#[]⟩, .string ⟨#[]⟩] 27)) := ⟨_, rfl⟩
              rw [← hw] at q x0 z0 ⊢
              clear hw
              obtain ⟨g28, hg⟩ : ∃ g', g' = w23.heap.size := ⟨_, rfl⟩
              have hg_g28 : Hid (wA.heap.size ≤ g28) := hide (by rw [hg]; exact (unhide d_w23).size)
              have b_w27 := b_w23.trans (q.mono b_w23.size)
              have d_w27 : Hid (Below wA.heap.size wA w27) := hide ((unhide d_w23).trans (q.mono (unhide d_w23).size))
              have HS_w27 : Hid (w27.cell? ⟨gw, 0, none⟩ = some (.int .i64 eP.z.b) ∧ w27.cell? ⟨gw, 1, none⟩ = some (.int .i64 eP.z.r) ∧ w27.cell? ⟨gw, 2, none⟩ = some (.int .i64 eP.z.u) ∧ w27.cell? ⟨gw, 3, none⟩ = some (.int .i64 eP.z.e) ∧ w27.cell? ⟨gw, 4, none⟩ = some (.string (strOfNums eP.h)) ∧ w27.cell? ⟨gw, 5, none⟩ = some (.string (strOfNums eP.t))) := hide (by
                obtain ⟨c0, c1, c2, c3, c4, c5⟩ := unhide HS_w23
                have hz : gw < w23.heap.size := by have := (unhide d_w23).size; omega
                exact ⟨(q.cell hz).trans c0, (q.cell hz).trans c1, (q.cell hz).trans c2, (q.cell hz).trans c3, (q.cell hz).trans c4, (q.cell hz).trans c5⟩)
              rw [← hg] at x0 z0 ⊢
              have x_w27 := hide x0
              have z_w27 := hide z0
              clear q hg x0 z0
              try dsimp only
              refine unhide hK _ _ (fun _ => unhide HS_w27) ?_
              clear hK K HS_w23 b_w23 d_w23
              refine anyL_ready (rs := [2]) (by kernel_rfl) (by simp) ?_
              refine AllL.cons rfl (fun K hK => ?_) AllL.nil
              go_simp
              refine (Join_at e0 eP w27 (unhide WW _ b_w27) B0 BK).mono ?_
              rw [unhide JN]
              dsimp only
              unfold weV
              rintro y w29 ⟨rfl, q⟩
              have b_w29 := b_w27.trans (q.mono b_w27.size)
              have d_w29 : Hid (Below wA.heap.size wA w29) := hide ((unhide d_w27).trans (q.mono (unhide d_w27).size))
              have HS_w29 : Hid (w29.cell? ⟨gw, 0, none⟩ = some (.int .i64 eP.z.b) ∧ w29.cell? ⟨gw, 1, none⟩ = some (.int .i64 eP.z.r) ∧ w29.cell? ⟨gw, 2, none⟩ = some (.int .i64 eP.z.u) ∧ w29.cell? ⟨gw, 3, none⟩ = some (.int .i64 eP.z.e) ∧ w29.cell? ⟨gw, 4, none⟩ = some (.string (strOfNums eP.h)) ∧ w29.cell? ⟨gw, 5, none⟩ = some (.string (strOfNums eP.t))) := hide (by
                obtain ⟨c0, c1, c2, c3, c4, c5⟩ := unhide HS_w27
                have hz : gw < w27.heap.size := by have := (unhide d_w27).size; omega
                exact ⟨(q.cell hz).trans c0, (q.cell hz).trans c1, (q.cell hz).trans c2, (q.cell hz).trans c3, (q.cell hz).trans c4, (q.cell hz).trans c5⟩)
              have x_w29 : Hid (w29.heap[g28]? = some (.cells #[.int .i64 0, .int .i64 0, .int .i64 0, .int .i64 0, .string ⟨#[]⟩, .string ⟨#[]⟩] 27 (0, 0))) := hide ((q.block g28 (unhide z_w27)).trans (unhide x_w27))
              have z_w29 : Hid (g28 < w29.heap.size) := hide (Nat.lt_of_lt_of_le (unhide z_w27) q.size)
              try dsimp only
              refine unhide hK _ _ (fun _ => unhide HS_w29) ?_
              clear hK K q HS_w27 b_w27 d_w27
              refine anyL_take (i := 3) (v := ?vr15x3) rfl (by kernel_rfl) (by kernel_rfl) (by kernel_rfl) (by kernel_rfl) (fun _ _ _ h => h) (Or.inl ⟨by rfl, ?hr15x3⟩) (unhide HS_w29) ?_
              case hr15x3 => (intro w hSw; (try dsimp only at hSw); go_simp) <;> with_reducible rfl
              simp only [Act.put, List.getElem_toArray, List.getElem_cons_zero, List.getElem_cons_succ, List.setIfInBounds_toArray, List.set_cons_zero, List.set_cons_succ]
              refine anyL_take (i := 4) (v := ?vr15x4) rfl (by kernel_rfl) (by kernel_rfl) (by kernel_rfl) (by kernel_rfl) (fun _ _ _ h => h) (Or.inl ⟨by rfl, ?hr15x4⟩) (unhide HS_w29) ?_
              case hr15x4 => (intro w hSw; (try dsimp only at hSw); go_simp) <;> with_reducible rfl
              simp only [Act.put, List.getElem_toArray, List.getElem_cons_zero, List.getElem_cons_succ, List.setIfInBounds_toArray, List.set_cons_zero, List.set_cons_succ]
              refine anyL_take (i := 5) (v := ?vr15x5) rfl (by kernel_rfl) (by kernel_rfl) (by kernel_rfl) (by kernel_rfl) (fun _ _ _ h => h) (Or.inl ⟨by rfl, ?hr15x5⟩) (unhide HS_w29) ?_
              case hr15x5 => (intro w hSw; (try dsimp only at hSw); go_simp) <;> with_reducible rfl
              simp only [Act.put, List.getElem_toArray, List.getElem_cons_zero, List.getElem_cons_succ, List.setIfInBounds_toArray, List.set_cons_zero, List.set_cons_succ]
              obtain ⟨c0, c1, c2, c3, c4, c5, f⟩ := cells6 (unhide x_w29)
              have f0 := f 0
              have f1 := f 1
              have f2 := f 2
              have f3 := f 3
              have f4 := f 4
              have f5 := f 5
              clear f
              have xf : Hid (((((((w29.setCell ⟨g28, 0, none⟩ (.int .i64 eP.z.b)).setCell ⟨g28, 1, none⟩ (.int .i64 eP.z.r)).setCell ⟨g28, 2, none⟩ (.int .i64 eP.z.u)).setCell ⟨g28, 3, none⟩ (.int .i64 eP.z.e)).setCell ⟨g28, 4, none⟩ (.string (strOfNums eP.h))).setCell ⟨g28, 5, none⟩ (.string (strOfNums eP.t))).heap[g28]? = some (.cells #[.int .i64 eP.z.b, .int .i64 eP.z.r, .int .i64 eP.z.u, .int .i64 eP.z.e, .string (strOfNums eP.h), .string (strOfNums eP.t)] 27 (0, 0))) := hide (box6_all (unhide x_w29) (.int .i64 eP.z.b) (.int .i64 eP.z.r) (.int .i64 eP.z.u) (.int .i64 eP.z.e) (.string (strOfNums eP.h)) (.string (strOfNums eP.t)))
              have bf : Hid (Below wA.heap.size wA ((((((w29.setCell ⟨g28, 0, none⟩ (.int .i64 eP.z.b)).setCell ⟨g28, 1, none⟩ (.int .i64 eP.z.r)).setCell ⟨g28, 2, none⟩ (.int .i64 eP.z.u)).setCell ⟨g28, 3, none⟩ (.int .i64 eP.z.e)).setCell ⟨g28, 4, none⟩ (.string (strOfNums eP.h))).setCell ⟨g28, 5, none⟩ (.string (strOfNums eP.t)))) := hide (below6 (unhide d_w29) (unhide hg_g28) (.int .i64 eP.z.b) (.int .i64 eP.z.r) (.int .i64 eP.z.u) (.int .i64 eP.z.e) (.string (strOfNums eP.h)) (.string (strOfNums eP.t)))
              have zf : Hid (g28 < ((((((w29.setCell ⟨g28, 0, none⟩ (.int .i64 eP.z.b)).setCell ⟨g28, 1, none⟩ (.int .i64 eP.z.r)).setCell ⟨g28, 2, none⟩ (.int .i64 eP.z.u)).setCell ⟨g28, 3, none⟩ (.int .i64 eP.z.e)).setCell ⟨g28, 4, none⟩ (.string (strOfNums eP.h))).setCell ⟨g28, 5, none⟩ (.string (strOfNums eP.t))).heap.size) := hide (by rw [size_set6]; exact unhide z_w29)
              have SF : Hid (((((((w29.setCell ⟨g28, 0, none⟩ (.int .i64 eP.z.b)).setCell ⟨g28, 1, none⟩ (.int .i64 eP.z.r)).setCell ⟨g28, 2, none⟩ (.int .i64 eP.z.u)).setCell ⟨g28, 3, none⟩ (.int .i64 eP.z.e)).setCell ⟨g28, 4, none⟩ (.string (strOfNums eP.h))).setCell ⟨g28, 5, none⟩ (.string (strOfNums eP.t))).cell? ⟨gw, 0, none⟩ = some (.int .i64 eP.z.b) ∧ ((((((w29.setCell ⟨g28, 0, none⟩ (.int .i64 eP.z.b)).setCell ⟨g28, 1, none⟩ (.int .i64 eP.z.r)).setCell ⟨g28, 2, none⟩ (.int .i64 eP.z.u)).setCell ⟨g28, 3, none⟩ (.int .i64 eP.z.e)).setCell ⟨g28, 4, none⟩ (.string (strOfNums eP.h))).setCell ⟨g28, 5, none⟩ (.string (strOfNums eP.t))).cell? ⟨gw, 1, none⟩ = some (.int .i64 eP.z.r) ∧ ((((((w29.setCell ⟨g28, 0, none⟩ (.int .i64 eP.z.b)).setCell ⟨g28, 1, none⟩ (.int .i64 eP.z.r)).setCell ⟨g28, 2, none⟩ (.int .i64 eP.z.u)).setCell ⟨g28, 3, none⟩ (.int .i64 eP.z.e)).setCell ⟨g28, 4, none⟩ (.string (strOfNums eP.h))).setCell ⟨g28, 5, none⟩ (.string (strOfNums eP.t))).cell? ⟨gw, 2, none⟩ = some (.int .i64 eP.z.u) ∧ ((((((w29.setCell ⟨g28, 0, none⟩ (.int .i64 eP.z.b)).setCell ⟨g28, 1, none⟩ (.int .i64 eP.z.r)).setCell ⟨g28, 2, none⟩ (.int .i64 eP.z.u)).setCell ⟨g28, 3, none⟩ (.int .i64 eP.z.e)).setCell ⟨g28, 4, none⟩ (.string (strOfNums eP.h))).setCell ⟨g28, 5, none⟩ (.string (strOfNums eP.t))).cell? ⟨gw, 3, none⟩ = some (.int .i64 eP.z.e) ∧ ((((((w29.setCell ⟨g28, 0, none⟩ (.int .i64 eP.z.b)).setCell ⟨g28, 1, none⟩ (.int .i64 eP.z.r)).setCell ⟨g28, 2, none⟩ (.int .i64 eP.z.u)).setCell ⟨g28, 3, none⟩ (.int .i64 eP.z.e)).setCell ⟨g28, 4, none⟩ (.string (strOfNums eP.h))).setCell ⟨g28, 5, none⟩ (.string (strOfNums eP.t))).cell? ⟨gw, 4, none⟩ = some (.string (strOfNums eP.h)) ∧ ((((((w29.setCell ⟨g28, 0, none⟩ (.int .i64 eP.z.b)).setCell ⟨g28, 1, none⟩ (.int .i64 eP.z.r)).setCell ⟨g28, 2, none⟩ (.int .i64 eP.z.u)).setCell ⟨g28, 3, none⟩ (.int .i64 eP.z.e)).setCell ⟨g28, 4, none⟩ (.string (strOfNums eP.h))).setCell ⟨g28, 5, none⟩ (.string (strOfNums eP.t))).cell? ⟨gw, 5, none⟩ = some (.string (strOfNums eP.t))) := hide (by
                obtain ⟨c0, c1, c2, c3, c4, c5, _⟩ := cells6 (unhide hx)
                exact ⟨((unhide bf).cell hzz).trans c0, ((unhide bf).cell hzz).trans c1, ((unhide bf).cell hzz).trans c2, ((unhide bf).cell hzz).trans c3, ((unhide bf).cell hzz).trans c4, ((unhide bf).cell hzz).trans c5⟩)
              refine anyL_ready (rs := [7]) (by kernel_rfl) (by simp) ?_
              refine AllL.cons rfl (fun K hK => ?_) AllL.nil
              go_simp
              refine unhide hK _ _ (fun _ => unhide SF) ?_
              clear hK K c0 c1 c2 c3 c4 c5 f0 f1 f2 f3 f4 f5
              refine anyL_take (i := 8) (v := ?vr15x8) rfl (by kernel_rfl) (by kernel_rfl) (by kernel_rfl) (by kernel_rfl) (fun _ _ _ h => h) (Or.inl ⟨by rfl, ?hr15x8⟩) (unhide SF) ?_
              case hr15x8 => (intro w hSw; (try dsimp only at hSw); go_simp) <;> with_reducible rfl
              simp only [Act.put, List.getElem_toArray, List.getElem_cons_zero, List.getElem_cons_succ, List.setIfInBounds_toArray, List.set_cons_zero, List.set_cons_succ]
              refine anyL_done (by kernel_rfl) ?_ _
              go_wp2_with fail
              go_meet
              exact ⟨rfl, g28, rfl, hg_g28, zf, xf, bf⟩
          · go_simp
            have q : Below wd.heap.size wd (wd.alloc (.cells #[.int .i64 0, .int .i64 0, .int .i64 0, .int .i64 0, .string ⟨#[]⟩, .string ⟨#[]⟩] 27)) := (Below.refl _ _).alloc (Nat.le_refl _) _
            have x0 := push_get wd (.cells #[.int .i64 0, .int .i64 0, .int .i64 0, .int .i64 0, .string ⟨#[]⟩, .string ⟨#[]⟩] 27)
            have z0 : wd.heap.size < (wd.alloc (.cells #[.int .i64 0, .int .i64 0, .int .i64 0, .int .i64 0, .string ⟨#[]⟩, .string ⟨#[]⟩] 27)).heap.size := by rw [World.size_alloc]; omega
            obtain ⟨w30, hw⟩ : ∃ w', w' = (wd.alloc (.cells #[.int .i64 0, .int .i64 0, .int .i64 0, .int .i64 0, .string ⟨#[]⟩, .string ⟨#[]⟩] 27)) := ⟨_, rfl⟩
            rw [← hw] at q x0 z0 ⊢
            clear hw
            obtain ⟨g31, hg⟩ : ∃ g', g' = wd.heap.size := ⟨_, rfl⟩
            have hg_g31 : Hid (wA.heap.size ≤ g31) := hide (by rw [hg]; exact (unhide d_wd).size)
            have b_w30 := b_wd.trans (q.mono b_wd.size)
            have d_w30 : Hid (Below wA.heap.size wA w30) := hide ((unhide d_wd).trans (q.mono (unhide d_wd).size))
            have HS_w30 : Hid (w30.cell? ⟨gw, 0, none⟩ = some (.int .i64 eP.z.b) ∧ w30.cell? ⟨gw, 1, none⟩ = some (.int .i64 eP.z.r) ∧ w30.cell? ⟨gw, 2, none⟩ = some (.int .i64 eP.z.u) ∧ w30.cell? ⟨gw, 3, none⟩ = some (.int .i64 eP.z.e) ∧ w30.cell? ⟨gw, 4, none⟩ = some (.string (strOfNums eP.h)) ∧ w30.cell? ⟨gw, 5, none⟩ = some (.string (strOfNums eP.t))) := hide (by
              obtain ⟨c0, c1, c2, c3, c4, c5⟩ := unhide HS_wd
              have hz : gw < wd.heap.size := by have := (unhide d_wd).size; omega
              exact ⟨(q.cell hz).trans c0, (q.cell hz).trans c1, (q.cell hz).trans c2, (q.cell hz).trans c3, (q.cell hz).trans c4, (q.cell hz).trans c5⟩)
            rw [← hg] at x0 z0 ⊢
            have x_w30 := hide x0
            have z_w30 := hide z0
            clear q hg x0 z0
            try dsimp only
            refine unhide hK _ _ (fun _ => unhide HS_w30) ?_
            clear hK K HS_wd b_wd d_wd
            refine anyL_ready (rs := [0]) (by kernel_rfl) (by simp) ?_
            refine AllL.cons rfl (fun K hK => ?_) AllL.nil
            go_simp
            refine (unhide O0 _ b_w30).mono ?_
            unfold weV
            rintro y w32 ⟨rfl, q⟩
            have b_w32 := b_w30.trans (q.mono b_w30.size)
            have d_w32 : Hid (Below wA.heap.size wA w32) := hide ((unhide d_w30).trans (q.mono (unhide d_w30).size))
            have HS_w32 : Hid (w32.cell? ⟨gw, 0, none⟩ = some (.int .i64 eP.z.b) ∧ w32.cell? ⟨gw, 1, none⟩ = some (.int .i64 eP.z.r) ∧ w32.cell? ⟨gw, 2, none⟩ = some (.int .i64 eP.z.u) ∧ w32.cell? ⟨gw, 3, none⟩ = some (.int .i64 eP.z.e) ∧ w32.cell? ⟨gw, 4, none⟩ = some (.string (strOfNums eP.h)) ∧ w32.cell? ⟨gw, 5, none⟩ = some (.string (strOfNums eP.t))) := hide (by
              obtain ⟨c0, c1, c2, c3, c4, c5⟩ := unhide HS_w30
              have hz : gw < w30.heap.size := by have := (unhide d_w30).size; omega
              exact ⟨(q.cell hz).trans c0, (q.cell hz).trans c1, (q.cell hz).trans c2, (q.cell hz).trans c3, (q.cell hz).trans c4, (q.cell hz).trans c5⟩)
            have x_w32 : Hid (w32.heap[g31]? = some (.cells #[.int .i64 0, .int .i64 0, .int .i64 0, .int .i64 0, .string ⟨#[]⟩, .string ⟨#[]⟩] 27 (0, 0))) := hide ((q.block g31 (unhide z_w30)).trans (unhide x_w30))
            have z_w32 : Hid (g31 < w32.heap.size) := hide (Nat.lt_of_lt_of_le (unhide z_w30) q.size)
            try dsimp only
            refine unhide hK _ _ (fun _ => unhide HS_w32) ?_
            clear hK K q HS_w30 b_w30 d_w30
            refine anyL_ready (rs := [2]) (by kernel_rfl) (by simp) ?_
            refine AllL.cons rfl (fun K hK => ?_) AllL.nil
            go_simp
            refine (Join_at e0 eP w32 (unhide WW _ b_w32) B0 BK).mono ?_
            rw [unhide JN]
            dsimp only
            unfold weV
            rintro y w33 ⟨rfl, q⟩
            have b_w33 := b_w32.trans (q.mono b_w32.size)
            have d_w33 : Hid (Below wA.heap.size wA w33) := hide ((unhide d_w32).trans (q.mono (unhide d_w32).size))
            have HS_w33 : Hid (w33.cell? ⟨gw, 0, none⟩ = some (.int .i64 eP.z.b) ∧ w33.cell? ⟨gw, 1, none⟩ = some (.int .i64 eP.z.r) ∧ w33.cell? ⟨gw, 2, none⟩ = some (.int .i64 eP.z.u) ∧ w33.cell? ⟨gw, 3, none⟩ = some (.int .i64 eP.z.e) ∧ w33.cell? ⟨gw, 4, none⟩ = some (.string (strOfNums eP.h)) ∧ w33.cell? ⟨gw, 5, none⟩ = some (.string (strOfNums eP.t))) := hide (by
              obtain ⟨c0, c1, c2, c3, c4, c5⟩ := unhide HS_w32
              have hz : gw < w32.heap.size := by have := (unhide d_w32).size; omega
              exact ⟨(q.cell hz).trans c0, (q.cell hz).trans c1, (q.cell hz).trans c2, (q.cell hz).trans c3, (q.cell hz).trans c4, (q.cell hz).trans c5⟩)
            have x_w33 : Hid (w33.heap[g31]? = some (.cells #[.int .i64 0, .int .i64 0, .int .i64 0, .int .i64 0, .string ⟨#[]⟩, .string ⟨#[]⟩] 27 (0, 0))) := hide ((q.block g31 (unhide z_w32)).trans (unhide x_w32))
            have z_w33 : Hid (g31 < w33.heap.size) := hide (Nat.lt_of_lt_of_le (unhide z_w32) q.size)
            try dsimp only
            refine unhide hK _ _ (fun _ => unhide HS_w33) ?_
            clear hK K q HS_w32 b_w32 d_w32
            refine anyL_take (i := 3) (v := ?vr15x3) rfl (by kernel_rfl) (by kernel_rfl) (by kernel_rfl) (by kernel_rfl) (fun _ _ _ h => h) (Or.inl ⟨by rfl, ?hr15x3⟩) (unhide HS_w33) ?_
            case hr15x3 => (intro w hSw; (try dsimp only at hSw); go_simp) <;> with_reducible rfl
            simp only [Act.put, List.getElem_toArray, List.getElem_cons_zero, List.getElem_cons_succ, List.setIfInBounds_toArray, List.set_cons_zero, List.set_cons_succ]
            refine anyL_take (i := 4) (v := ?vr15x4) rfl (by kernel_rfl) (by kernel_rfl) (by kernel_rfl) (by kernel_rfl) (fun _ _ _ h => h) (Or.inl ⟨by rfl, ?hr15x4⟩) (unhide HS_w33) ?_
            case hr15x4 => (intro w hSw; (try dsimp only at hSw); go_simp) <;> with_reducible rfl
            simp only [Act.put, List.getElem_toArray, List.getElem_cons_zero, List.getElem_cons_succ, List.setIfInBounds_toArray, List.set_cons_zero, List.set_cons_succ]
            refine anyL_take (i := 5) (v := ?vr15x5) rfl (by kernel_rfl) (by kernel_rfl) (by kernel_rfl) (by kernel_rfl) (fun _ _ _ h => h) (Or.inl ⟨by rfl, ?hr15x5⟩) (unhide HS_w33) ?_
            case hr15x5 => (intro w hSw; (try dsimp only at hSw); go_simp) <;> with_reducible rfl
            simp only [Act.put, List.getElem_toArray, List.getElem_cons_zero, List.getElem_cons_succ, List.setIfInBounds_toArray, List.set_cons_zero, List.set_cons_succ]
            obtain ⟨c0, c1, c2, c3, c4, c5, f⟩ := cells6 (unhide x_w33)
            have f0 := f 0
            have f1 := f 1
            have f2 := f 2
            have f3 := f 3
            have f4 := f 4
            have f5 := f 5
            clear f
            have xf : Hid (((((((w33.setCell ⟨g31, 0, none⟩ (.int .i64 eP.z.b)).setCell ⟨g31, 1, none⟩ (.int .i64 eP.z.r)).setCell ⟨g31, 2, none⟩ (.int .i64 eP.z.u)).setCell ⟨g31, 3, none⟩ (.int .i64 eP.z.e)).setCell ⟨g31, 4, none⟩ (.string (strOfNums eP.h))).setCell ⟨g31, 5, none⟩ (.string (strOfNums eP.t))).heap[g31]? = some (.cells #[.int .i64 eP.z.b, .int .i64 eP.z.r, .int .i64 eP.z.u, .int .i64 eP.z.e, .string (strOfNums eP.h), .string (strOfNums eP.t)] 27 (0, 0))) := hide (box6_all (unhide x_w33) (.int .i64 eP.z.b) (.int .i64 eP.z.r) (.int .i64 eP.z.u) (.int .i64 eP.z.e) (.string (strOfNums eP.h)) (.string (strOfNums eP.t)))
            have bf : Hid (Below wA.heap.size wA ((((((w33.setCell ⟨g31, 0, none⟩ (.int .i64 eP.z.b)).setCell ⟨g31, 1, none⟩ (.int .i64 eP.z.r)).setCell ⟨g31, 2, none⟩ (.int .i64 eP.z.u)).setCell ⟨g31, 3, none⟩ (.int .i64 eP.z.e)).setCell ⟨g31, 4, none⟩ (.string (strOfNums eP.h))).setCell ⟨g31, 5, none⟩ (.string (strOfNums eP.t)))) := hide (below6 (unhide d_w33) (unhide hg_g31) (.int .i64 eP.z.b) (.int .i64 eP.z.r) (.int .i64 eP.z.u) (.int .i64 eP.z.e) (.string (strOfNums eP.h)) (.string (strOfNums eP.t)))
            have zf : Hid (g31 < ((((((w33.setCell ⟨g31, 0, none⟩ (.int .i64 eP.z.b)).setCell ⟨g31, 1, none⟩ (.int .i64 eP.z.r)).setCell ⟨g31, 2, none⟩ (.int .i64 eP.z.u)).setCell ⟨g31, 3, none⟩ (.int .i64 eP.z.e)).setCell ⟨g31, 4, none⟩ (.string (strOfNums eP.h))).setCell ⟨g31, 5, none⟩ (.string (strOfNums eP.t))).heap.size) := hide (by rw [size_set6]; exact unhide z_w33)
            have SF : Hid (((((((w33.setCell ⟨g31, 0, none⟩ (.int .i64 eP.z.b)).setCell ⟨g31, 1, none⟩ (.int .i64 eP.z.r)).setCell ⟨g31, 2, none⟩ (.int .i64 eP.z.u)).setCell ⟨g31, 3, none⟩ (.int .i64 eP.z.e)).setCell ⟨g31, 4, none⟩ (.string (strOfNums eP.h))).setCell ⟨g31, 5, none⟩ (.string (strOfNums eP.t))).cell? ⟨gw, 0, none⟩ = some (.int .i64 eP.z.b) ∧ ((((((w33.setCell ⟨g31, 0, none⟩ (.int .i64 eP.z.b)).setCell ⟨g31, 1, none⟩ (.int .i64 eP.z.r)).setCell ⟨g31, 2, none⟩ (.int .i64 eP.z.u)).setCell ⟨g31, 3, none⟩ (.int .i64 eP.z.e)).setCell ⟨g31, 4, none⟩ (.string (strOfNums eP.h))).setCell ⟨g31, 5, none⟩ (.string (strOfNums eP.t))).cell? ⟨gw, 1, none⟩ = some (.int .i64 eP.z.r) ∧ ((((((w33.setCell ⟨g31, 0, none⟩ (.int .i64 eP.z.b)).setCell ⟨g31, 1, none⟩ (.int .i64 eP.z.r)).setCell ⟨g31, 2, none⟩ (.int .i64 eP.z.u)).setCell ⟨g31, 3, none⟩ (.int .i64 eP.z.e)).setCell ⟨g31, 4, none⟩ (.string (strOfNums eP.h))).setCell ⟨g31, 5, none⟩ (.string (strOfNums eP.t))).cell? ⟨gw, 2, none⟩ = some (.int .i64 eP.z.u) ∧ ((((((w33.setCell ⟨g31, 0, none⟩ (.int .i64 eP.z.b)).setCell ⟨g31, 1, none⟩ (.int .i64 eP.z.r)).setCell ⟨g31, 2, none⟩ (.int .i64 eP.z.u)).setCell ⟨g31, 3, none⟩ (.int .i64 eP.z.e)).setCell ⟨g31, 4, none⟩ (.string (strOfNums eP.h))).setCell ⟨g31, 5, none⟩ (.string (strOfNums eP.t))).cell? ⟨gw, 3, none⟩ = some (.int .i64 eP.z.e) ∧ ((((((w33.setCell ⟨g31, 0, none⟩ (.int .i64 eP.z.b)).setCell ⟨g31, 1, none⟩ (.int .i64 eP.z.r)).setCell ⟨g31, 2, none⟩ (.int .i64 eP.z.u)).setCell ⟨g31, 3, none⟩ (.int .i64 eP.z.e)).setCell ⟨g31, 4, none⟩ (.string (strOfNums eP.h))).setCell ⟨g31, 5, none⟩ (.string (strOfNums eP.t))).cell? ⟨gw, 4, none⟩ = some (.string (strOfNums eP.h)) ∧ ((((((w33.setCell ⟨g31, 0, none⟩ (.int .i64 eP.z.b)).setCell ⟨g31, 1, none⟩ (.int .i64 eP.z.r)).setCell ⟨g31, 2, none⟩ (.int .i64 eP.z.u)).setCell ⟨g31, 3, none⟩ (.int .i64 eP.z.e)).setCell ⟨g31, 4, none⟩ (.string (strOfNums eP.h))).setCell ⟨g31, 5, none⟩ (.string (strOfNums eP.t))).cell? ⟨gw, 5, none⟩ = some (.string (strOfNums eP.t))) := hide (by
              obtain ⟨c0, c1, c2, c3, c4, c5, _⟩ := cells6 (unhide hx)
              exact ⟨((unhide bf).cell hzz).trans c0, ((unhide bf).cell hzz).trans c1, ((unhide bf).cell hzz).trans c2, ((unhide bf).cell hzz).trans c3, ((unhide bf).cell hzz).trans c4, ((unhide bf).cell hzz).trans c5⟩)
            refine anyL_ready (rs := [7]) (by kernel_rfl) (by simp) ?_
            refine AllL.cons rfl (fun K hK => ?_) AllL.nil
            go_simp
            refine unhide hK _ _ (fun _ => unhide SF) ?_
            clear hK K c0 c1 c2 c3 c4 c5 f0 f1 f2 f3 f4 f5
            refine anyL_take (i := 8) (v := ?vr15x8) rfl (by kernel_rfl) (by kernel_rfl) (by kernel_rfl) (by kernel_rfl) (fun _ _ _ h => h) (Or.inl ⟨by rfl, ?hr15x8⟩) (unhide SF) ?_
            case hr15x8 => (intro w hSw; (try dsimp only at hSw); go_simp) <;> with_reducible rfl
            simp only [Act.put, List.getElem_toArray, List.getElem_cons_zero, List.getElem_cons_succ, List.setIfInBounds_toArray, List.set_cons_zero, List.set_cons_succ]
            refine anyL_done (by kernel_rfl) ?_ _
            go_wp2_with fail
            go_meet
            exact ⟨rfl, g31, rfl, hg_g31, zf, xf, bf⟩
        case rest =>
          obtain ⟨rfl, g9, rfl, hg9, zg9, xg9, bg9⟩ := hcut
          obtain ⟨wB, hwB⟩ : ∃ wB, wB = wc := ⟨_, rfl⟩
          subst hwB
          obtain ⟨c0, c1, c2, c3, c4, c5, _⟩ := cells6 (((unhide bg9).block gw hzz).trans (unhide hx))
          obtain ⟨d0, d1, d2, d3, d4, d5, _⟩ := cells6 (((unhide bg9).block g7 (unhide zg7)).trans (unhide xg7))
          obtain ⟨e0', e1', e2', e3', e4', e5', _⟩ := cells6 (unhide xg9)
          have HS0 : Hid (wB.drew.cell? ⟨gw, 0, none⟩ = some (.int .i64 eP.z.b) ∧ wB.drew.cell? ⟨gw, 1, none⟩ = some (.int .i64 eP.z.r) ∧ wB.drew.cell? ⟨gw, 2, none⟩ = some (.int .i64 eP.z.u) ∧ wB.drew.cell? ⟨gw, 3, none⟩ = some (.int .i64 eP.z.e) ∧ wB.drew.cell? ⟨gw, 4, none⟩ = some (.string (strOfNums eP.h)) ∧ wB.drew.cell? ⟨gw, 5, none⟩ = some (.string (strOfNums eP.t)) ∧ wB.drew.cell? ⟨g7, 0, none⟩ = some (.int .i64 eP.z.b) ∧ wB.drew.cell? ⟨g7, 1, none⟩ = some (.int .i64 eP.z.r) ∧ wB.drew.cell? ⟨g7, 2, none⟩ = some (.int .i64 eP.z.u) ∧ wB.drew.cell? ⟨g7, 3, none⟩ = some (.int .i64 eP.z.e) ∧ wB.drew.cell? ⟨g7, 4, none⟩ = some (.string (strOfNums eP.h)) ∧ wB.drew.cell? ⟨g7, 5, none⟩ = some (.string (strOfNums eP.t)) ∧ wB.drew.cell? ⟨g9, 0, none⟩ = some (.int .i64 eP.z.b) ∧ wB.drew.cell? ⟨g9, 1, none⟩ = some (.int .i64 eP.z.r) ∧ wB.drew.cell? ⟨g9, 2, none⟩ = some (.int .i64 eP.z.u) ∧ wB.drew.cell? ⟨g9, 3, none⟩ = some (.int .i64 eP.z.e) ∧ wB.drew.cell? ⟨g9, 4, none⟩ = some (.string (strOfNums eP.h)) ∧ wB.drew.cell? ⟨g9, 5, none⟩ = some (.string (strOfNums eP.t))) := hide ⟨c0, c1, c2, c3, c4, c5, d0, d1, d2, d3, d4, d5, e0', e1', e2', e3', e4', e5'⟩
          have z3 : gw < wB.heap.size ∧ g7 < wB.heap.size ∧ g9 < wB.heap.size := by have := (unhide bg9).size; have := unhide zg7; have := unhide zg9; omega
          have bd : Below w.heap.size w wB.drew := Below.drewN (bb.trans ((unhide bg9).mono bb.size)) 1
          have zd : wB.drew.heap.size = wB.heap.size := rfl
          clear c0 c1 c2 c3 c4 c5 d0 d1 d2 d3 d4 d5 e0' e1' e2' e3' e4' e5' HS_wd b_wd d_wd
          go_upto_region 16 with fail
          refine regionL (S := fun w' => w'.cell? ⟨gw, 0, none⟩ = some (.int .i64 eP.z.b) ∧ w'.cell? ⟨gw, 1, none⟩ = some (.int .i64 eP.z.r) ∧ w'.cell? ⟨gw, 2, none⟩ = some (.int .i64 eP.z.u) ∧ w'.cell? ⟨gw, 3, none⟩ = some (.int .i64 eP.z.e) ∧ w'.cell? ⟨gw, 4, none⟩ = some (.string (strOfNums eP.h)) ∧ w'.cell? ⟨gw, 5, none⟩ = some (.string (strOfNums eP.t)) ∧ w'.cell? ⟨g7, 0, none⟩ = some (.int .i64 eP.z.b) ∧ w'.cell? ⟨g7, 1, none⟩ = some (.int .i64 eP.z.r) ∧ w'.cell? ⟨g7, 2, none⟩ = some (.int .i64 eP.z.u) ∧ w'.cell? ⟨g7, 3, none⟩ = some (.int .i64 eP.z.e) ∧ w'.cell? ⟨g7, 4, none⟩ = some (.string (strOfNums eP.h)) ∧ w'.cell? ⟨g7, 5, none⟩ = some (.string (strOfNums eP.t)) ∧ w'.cell? ⟨g9, 0, none⟩ = some (.int .i64 eP.z.b) ∧ w'.cell? ⟨g9, 1, none⟩ = some (.int .i64 eP.z.r) ∧ w'.cell? ⟨g9, 2, none⟩ = some (.int .i64 eP.z.u) ∧ w'.cell? ⟨g9, 3, none⟩ = some (.int .i64 eP.z.e) ∧ w'.cell? ⟨g9, 4, none⟩ = some (.string (strOfNums eP.h)) ∧ w'.cell? ⟨g9, 5, none⟩ = some (.string (strOfNums eP.t))) (fun _ => false) (by kernel_rfl) ?_
          generalize wB.drew = wd at *
          refine anyL_take (i := 0) (v := ?vr16x0) rfl (by kernel_rfl) (by kernel_rfl) (by kernel_rfl) (by kernel_rfl) (fun _ _ _ h => h) (Or.inl ⟨by rfl, ?hr16x0⟩) (unhide HS0) ?_
          case hr16x0 => (intro w hSw; (try dsimp only at hSw); go_simp) <;> with_reducible rfl
          simp only [Act.put, List.getElem_toArray, List.getElem_cons_zero, List.setIfInBounds_toArray, List.set_cons_zero, List.set_cons_succ]
          refine anyL_take (i := 1) (v := .bool true) rfl (by kernel_rfl) (by kernel_rfl) (by kernel_rfl) (by kernel_rfl) (fun _ _ _ h => h) (Or.inl ⟨by rfl, ?hr16x1⟩) (unhide HS0) ?_
          case hr16x1 => (intro w hSw; (try dsimp only at hSw); go_simp)
          simp only [Act.put, List.getElem_toArray, List.getElem_cons_zero, List.getElem_cons_succ, List.setIfInBounds_toArray, List.set_cons_zero, List.set_cons_succ]
          refine anyL_take (i := 2) (v := .bool true) rfl (by kernel_rfl) (by kernel_rfl) (by kernel_rfl) (by kernel_rfl) (fun _ _ _ h => h) (Or.inl ⟨by rfl, ?hr16x2⟩) (unhide HS0) ?_
          case hr16x2 => (intro w hSw; (try dsimp only at hSw); go_simp)
          simp only [Act.put, List.getElem_toArray, List.getElem_cons_zero, List.getElem_cons_succ, List.setIfInBounds_toArray, List.set_cons_zero, List.set_cons_succ]
          refine anyL_take (i := 3) (v := ?vr16x3) rfl (by kernel_rfl) (by kernel_rfl) (by kernel_rfl) (by kernel_rfl) (fun _ _ _ h => h) (Or.inl ⟨by rfl, ?hr16x3⟩) (unhide HS0) ?_
          case hr16x3 => (intro w hSw; (try dsimp only at hSw); go_simp) <;> with_reducible rfl
          simp only [Act.put, List.getElem_toArray, List.getElem_cons_zero, List.getElem_cons_succ, List.setIfInBounds_toArray, List.set_cons_zero, List.set_cons_succ]
          refine anyL_take (i := 4) (v := .bool true) rfl (by kernel_rfl) (by kernel_rfl) (by kernel_rfl) (by kernel_rfl) (fun _ _ _ h => h) (Or.inl ⟨by rfl, ?hr16x4⟩) (unhide HS0) ?_
          case hr16x4 => (intro w hSw; (try dsimp only at hSw); go_simp)
          simp only [Act.put, List.getElem_toArray, List.getElem_cons_zero, List.getElem_cons_succ, List.setIfInBounds_toArray, List.set_cons_zero, List.set_cons_succ]
          refine anyL_take (i := 5) (v := .bool true) rfl (by kernel_rfl) (by kernel_rfl) (by kernel_rfl) (by kernel_rfl) (fun _ _ _ h => h) (Or.inl ⟨by rfl, ?hr16x5⟩) (unhide HS0) ?_
          case hr16x5 => (intro w hSw; (try dsimp only at hSw); go_simp)
          simp only [Act.put, List.getElem_toArray, List.getElem_cons_zero, List.getElem_cons_succ, List.setIfInBounds_toArray, List.set_cons_zero, List.set_cons_succ]
          refine anyL_take (i := 6) (v := .bool true) rfl (by kernel_rfl) (by kernel_rfl) (by kernel_rfl) (by kernel_rfl) (fun _ _ _ h => h) (Or.inl ⟨by rfl, ?hr16x6⟩) (unhide HS0) ?_
          case hr16x6 => (intro w hSw; (try dsimp only at hSw); go_simp)
          simp only [Act.put, List.getElem_toArray, List.getElem_cons_zero, List.getElem_cons_succ, List.setIfInBounds_toArray, List.set_cons_zero, List.set_cons_succ]
          refine anyL_take (i := 7) (v := ?vr16x7) rfl (by kernel_rfl) (by kernel_rfl) (by kernel_rfl) (by kernel_rfl) (fun _ _ _ h => h) (Or.inl ⟨by rfl, ?hr16x7⟩) (unhide HS0) ?_
          case hr16x7 => (intro w hSw; (try dsimp only at hSw); go_simp) <;> with_reducible rfl
          simp only [Act.put, List.getElem_toArray, List.getElem_cons_zero, List.getElem_cons_succ, List.setIfInBounds_toArray, List.set_cons_zero, List.set_cons_succ]
          refine anyL_take (i := 8) (v := ?vr16x8) rfl (by kernel_rfl) (by kernel_rfl) (by kernel_rfl) (by kernel_rfl) (fun _ _ _ h => h) (Or.inl ⟨by rfl, ?hr16x8⟩) (unhide HS0) ?_
          case hr16x8 => (intro w hSw; (try dsimp only at hSw); go_simp) <;> with_reducible rfl
          simp only [Act.put, List.getElem_toArray, List.getElem_cons_zero, List.getElem_cons_succ, List.setIfInBounds_toArray, List.set_cons_zero, List.set_cons_succ]
          refine anyL_take (i := 9) (v := .bool true) rfl (by kernel_rfl) (by kernel_rfl) (by kernel_rfl) (by kernel_rfl) (fun _ _ _ h => h) (Or.inl ⟨by rfl, ?hr16x9⟩) (unhide HS0) ?_
          case hr16x9 => (intro w hSw; (try dsimp only at hSw); go_simp)
          simp only [Act.put, List.getElem_toArray, List.getElem_cons_zero, List.getElem_cons_succ, List.setIfInBounds_toArray, List.set_cons_zero, List.set_cons_succ]
          refine anyL_take (i := 10) (v := .bool true) rfl (by kernel_rfl) (by kernel_rfl) (by kernel_rfl) (by kernel_rfl) (fun _ _ _ h => h) (Or.inl ⟨by rfl, ?hr16x10⟩) (unhide HS0) ?_
          case hr16x10 => (intro w hSw; (try dsimp only at hSw); go_simp)
          simp only [Act.put, List.getElem_toArray, List.getElem_cons_zero, List.getElem_cons_succ, List.setIfInBounds_toArray, List.set_cons_zero, List.set_cons_succ]
          refine anyL_take (i := 11) (v := .bool true) rfl (by kernel_rfl) (by kernel_rfl) (by kernel_rfl) (by kernel_rfl) (fun _ _ _ h => h) (Or.inl ⟨by rfl, ?hr16x11⟩) (unhide HS0) ?_
          case hr16x11 => (intro w hSw; (try dsimp only at hSw); go_simp)
          simp only [Act.put, List.getElem_toArray, List.getElem_cons_zero, List.getElem_cons_succ, List.setIfInBounds_toArray, List.set_cons_zero, List.set_cons_succ]
          refine anyL_take (i := 12) (v := ?vr16x12) rfl (by kernel_rfl) (by kernel_rfl) (by kernel_rfl) (by kernel_rfl) (fun _ _ _ h => h) (Or.inl ⟨by rfl, ?hr16x12⟩) (unhide HS0) ?_
          case hr16x12 => (intro w hSw; (try dsimp only at hSw); go_simp) <;> with_reducible rfl
          simp only [Act.put, List.getElem_toArray, List.getElem_cons_zero, List.getElem_cons_succ, List.setIfInBounds_toArray, List.set_cons_zero, List.set_cons_succ]
          refine anyL_take (i := 13) (v := ?vr16x13) rfl (by kernel_rfl) (by kernel_rfl) (by kernel_rfl) (by kernel_rfl) (fun _ _ _ h => h) (Or.inl ⟨by rfl, ?hr16x13⟩) (unhide HS0) ?_
          case hr16x13 => (intro w hSw; (try dsimp only at hSw); go_simp) <;> with_reducible rfl
          simp only [Act.put, List.getElem_toArray, List.getElem_cons_zero, List.getElem_cons_succ, List.setIfInBounds_toArray, List.set_cons_zero, List.set_cons_succ]
          refine anyL_take (i := 14) (v := .bool true) rfl (by kernel_rfl) (by kernel_rfl) (by kernel_rfl) (by kernel_rfl) (fun _ _ _ h => h) (Or.inl ⟨by rfl, ?hr16x14⟩) (unhide HS0) ?_
          case hr16x14 => (intro w hSw; (try dsimp only at hSw); go_simp)
          simp only [Act.put, List.getElem_toArray, List.getElem_cons_zero, List.getElem_cons_succ, List.setIfInBounds_toArray, List.set_cons_zero, List.set_cons_succ]
          refine anyL_take (i := 15) (v := .bool true) rfl (by kernel_rfl) (by kernel_rfl) (by kernel_rfl) (by kernel_rfl) (fun _ _ _ h => h) (Or.inl ⟨by rfl, ?hr16x15⟩) (unhide HS0) ?_
          case hr16x15 => (intro w hSw; (try dsimp only at hSw); go_simp)
          simp only [Act.put, List.getElem_toArray, List.getElem_cons_zero, List.getElem_cons_succ, List.setIfInBounds_toArray, List.set_cons_zero, List.set_cons_succ]
          refine anyL_take (i := 16) (v := .bool true) rfl (by kernel_rfl) (by kernel_rfl) (by kernel_rfl) (by kernel_rfl) (fun _ _ _ h => h) (Or.inl ⟨by rfl, ?hr16x16⟩) (unhide HS0) ?_
          case hr16x16 => (intro w hSw; (try dsimp only at hSw); go_simp)
          simp only [Act.put, List.getElem_toArray, List.getElem_cons_zero, List.getElem_cons_succ, List.setIfInBounds_toArray, List.set_cons_zero, List.set_cons_succ]
          refine anyL_take (i := 17) (v := ?vr16x17) rfl (by kernel_rfl) (by kernel_rfl) (by kernel_rfl) (by kernel_rfl) (fun _ _ _ h => h) (Or.inl ⟨by rfl, ?hr16x17⟩) (unhide HS0) ?_
          case hr16x17 => (intro w hSw; (try dsimp only at hSw); go_simp) <;> with_reducible rfl
          simp only [Act.put, List.getElem_toArray, List.getElem_cons_zero, List.getElem_cons_succ, List.setIfInBounds_toArray, List.set_cons_zero, List.set_cons_succ]
          refine anyL_take (i := 18) (v := ?vr16x18) rfl (by kernel_rfl) (by kernel_rfl) (by kernel_rfl) (by kernel_rfl) (fun _ _ _ h => h) (Or.inl ⟨by rfl, ?hr16x18⟩) (unhide HS0) ?_
          case hr16x18 => (intro w hSw; (try dsimp only at hSw); go_simp) <;> with_reducible rfl
          simp only [Act.put, List.getElem_toArray, List.getElem_cons_zero, List.getElem_cons_succ, List.setIfInBounds_toArray, List.set_cons_zero, List.set_cons_succ]
          refine anyL_ready (rs := [19]) (by kernel_rfl) (by simp) ?_
          refine AllL.cons rfl (fun K hK => ?_) AllL.nil
          go_simp
          refine (unhide OB _ bd).mono ?_
          unfold weV
          rintro y wf ⟨rfl, q⟩
          have HS1 : Hid (wf.cell? ⟨gw, 0, none⟩ = some (.int .i64 eP.z.b) ∧ wf.cell? ⟨gw, 1, none⟩ = some (.int .i64 eP.z.r) ∧ wf.cell? ⟨gw, 2, none⟩ = some (.int .i64 eP.z.u) ∧ wf.cell? ⟨gw, 3, none⟩ = some (.int .i64 eP.z.e) ∧ wf.cell? ⟨gw, 4, none⟩ = some (.string (strOfNums eP.h)) ∧ wf.cell? ⟨gw, 5, none⟩ = some (.string (strOfNums eP.t)) ∧ wf.cell? ⟨g7, 0, none⟩ = some (.int .i64 eP.z.b) ∧ wf.cell? ⟨g7, 1, none⟩ = some (.int .i64 eP.z.r) ∧ wf.cell? ⟨g7, 2, none⟩ = some (.int .i64 eP.z.u) ∧ wf.cell? ⟨g7, 3, none⟩ = some (.int .i64 eP.z.e) ∧ wf.cell? ⟨g7, 4, none⟩ = some (.string (strOfNums eP.h)) ∧ wf.cell? ⟨g7, 5, none⟩ = some (.string (strOfNums eP.t)) ∧ wf.cell? ⟨g9, 0, none⟩ = some (.int .i64 eP.z.b) ∧ wf.cell? ⟨g9, 1, none⟩ = some (.int .i64 eP.z.r) ∧ wf.cell? ⟨g9, 2, none⟩ = some (.int .i64 eP.z.u) ∧ wf.cell? ⟨g9, 3, none⟩ = some (.int .i64 eP.z.e) ∧ wf.cell? ⟨g9, 4, none⟩ = some (.string (strOfNums eP.h)) ∧ wf.cell? ⟨g9, 5, none⟩ = some (.string (strOfNums eP.t))) := hide (by
            obtain ⟨c0, c1, c2, c3, c4, c5, d0, d1, d2, d3, d4, d5, e0, e1, e2, e3, e4, e5⟩ := unhide HS0
            have y1 : gw < wd.heap.size := by omega
            have y2 : g7 < wd.heap.size := by omega
            have y3 : g9 < wd.heap.size := by omega
            exact ⟨(q.cell y1).trans c0, (q.cell y1).trans c1, (q.cell y1).trans c2, (q.cell y1).trans c3, (q.cell y1).trans c4, (q.cell y1).trans c5, (q.cell y2).trans d0, (q.cell y2).trans d1, (q.cell y2).trans d2, (q.cell y2).trans d3, (q.cell y2).trans d4, (q.cell y2).trans d5, (q.cell y3).trans e0, (q.cell y3).trans e1, (q.cell y3).trans e2, (q.cell y3).trans e3, (q.cell y3).trans e4, (q.cell y3).trans e5⟩)
          have bf := bd.trans (q.mono bd.size)
          try dsimp only
          refine unhide hK _ _ (fun _ => unhide HS1) ?_
          clear hK K q
          refine anyL_take (i := 20) (v := .bool true) rfl (by kernel_rfl) (by kernel_rfl) (by kernel_rfl) (by kernel_rfl) (fun _ _ _ h => h) (Or.inl ⟨by rfl, ?hr16x20⟩) (unhide HS1) ?_
          case hr16x20 => (intro w hSw; (try dsimp only at hSw); go_simp)
          simp only [Act.put, List.getElem_toArray, List.getElem_cons_zero, List.getElem_cons_succ, List.setIfInBounds_toArray, List.set_cons_zero, List.set_cons_succ]
          refine anyL_take (i := 21) (v := .bool true) rfl (by kernel_rfl) (by kernel_rfl) (by kernel_rfl) (by kernel_rfl) (fun _ _ _ h => h) (Or.inl ⟨by rfl, ?hr16x21⟩) (unhide HS1) ?_
          case hr16x21 => (intro w hSw; (try dsimp only at hSw); go_simp)
          simp only [Act.put, List.getElem_toArray, List.getElem_cons_zero, List.getElem_cons_succ, List.setIfInBounds_toArray, List.set_cons_zero, List.set_cons_succ]
          refine anyL_take (i := 22) (v := ?vr16x22) rfl (by kernel_rfl) (by kernel_rfl) (by kernel_rfl) (by kernel_rfl) (fun _ _ _ h => h) (Or.inl ⟨by rfl, ?hr16x22⟩) (unhide HS1) ?_
          case hr16x22 => (intro w hSw; (try dsimp only at hSw); go_simp) <;> with_reducible rfl
          simp only [Act.put, List.getElem_toArray, List.getElem_cons_zero, List.getElem_cons_succ, List.setIfInBounds_toArray, List.set_cons_zero, List.set_cons_succ]
          refine anyL_done (by kernel_rfl) ?_ _
          go_wp2_with fail
          go_ret
          exact ⟨rfl, bf⟩
end Go.Proofs.YtniafnilgohgdabDoor
