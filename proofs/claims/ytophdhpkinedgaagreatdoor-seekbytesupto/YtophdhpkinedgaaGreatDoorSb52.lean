/- Layer 10: contracts of seek's Line and At; To of all rulers and modes. -/
import Derived.Test.YtophdhpkinedgaaGreatDoorSb51

namespace Go.Proofs.YtophdhpkinedgaaGreatDoor
open Go.ChangeShapes Go.WideShapes Go.ChangeAt Go.RowKit
attribute [local go_sem] Oper.semAt_some fldS10 fldE10

/-- edges ahead of an edge -/
theorem EE_cut {T : List Int} (hl : ∀ x ∈ T, 0 ≤ x ∧ x ≤ 255) {a : Nat} (ha : a < (EE T).length) : (EE (T.take ((EE T).getD a e0).1)).length = a + 1 ∧ ∀ i, i ≤ a → (EE (T.take ((EE T).getD a e0).1)).getD i e0 = (EE T).getD i e0 := by
  have hk : a ≤ (spots T 0).length := by rw [EE_len] at ha; omega
  obtain ⟨h1, _, h3, _⟩ := adds_of hl hk
  rw [← EE_at ha] at h1 h3
  generalize hx : ((EE T).getD a e0).1 = x at *
  have hlen : (EE (T.take x)).length = a + 1 := by rw [EE_len, h1, List.length_take]; omega
  refine ⟨hlen, fun i hi => ?_⟩
  rw [EE_at (by omega), EE_at (by omega), h1, List.take_take, Nat.min_eq_left hi]
  unfold stE
  exact fold_takeE _ _ (fun y hy => h3 y (by
    rw [show i = min i a by omega, ← List.take_take] at hy
    exact List.mem_of_mem_take hy))
/-- a place within a cut from edge to edge -/
theorem fd_cut {T : List Int} (hl : ∀ x ∈ T, 0 ≤ x ∧ x ≤ 255) {u m col : Int} (hu : isRu u = true) {s e : Nat} (hs : inside T s = false) (he : inside T e = false) (hse : s ≤ e) (hel : e ≤ T.length) (h0 : 0 ≤ col) (h1 : col ≤ (szE u (cutL T s e) : Int)) :
    fdR u col m (EE (cutL T s e)) = fdR u ((szE u (T.take s) : Int) + col) m (EE T) ∧ (fdR u ((szE u (T.take s) : Int) + col) m (EE T) = 0 → (fdE u ((szE u (T.take s) : Int) + col) m (EE T)).1 = s + (fdE u col m (EE (cutL T s e))).1) := by
  obtain ⟨a, a1, a2⟩ := edge_ix hl (p := s) (by omega) hs
  have hd : ∀ x ∈ T.drop s, 0 ≤ x ∧ x ≤ 255 := fun x hx => hl x (List.mem_of_mem_drop hx)
  have hin : inside (T.drop s) (e - s) = false := by rw [inside_drop hs, show s + (e - s) = e by omega]; exact he
  obtain ⟨b, b1, b2⟩ := edge_ix hd (p := e - s) (by rw [List.length_drop]; omega) hin
  have hsz : szE u (T.take s) = byE u ((EE T).getD a e0) := by rw [← a2]; exact sz_take hl hu a1
  obtain ⟨_, f2, f3⟩ := fd_shift (m := m) (r := u) (place := (szE u (T.take s) : Int) + col) hl a1 (by rw [hsz]; omega)
  rw [a2] at f2 f3
  rw [← hsz, show (szE u (T.take s) : Int) + col - (szE u (T.take s) : Int) = col by omega] at f2 f3
  have hC : cutL T s e = (T.drop s).take (e - s) := by unfold cutL; rw [List.drop_take]
  obtain ⟨c1, c2⟩ := EE_cut hd b1
  rw [b2] at c1 c2
  have hlast : (szE u (cutL T s e) : Int) = (byE u ((EE (T.drop s)).getD b e0) : Int) := by
    have hz := sz_take hd hu b1
    rw [b2] at hz
    rw [hC, hz]
  rw [hC]
  obtain ⟨g1, g2⟩ := fd_agree (r := u) (place := col) (m := m) (E := EE (T.drop s)) (F := EE ((T.drop s).take (e - s))) b1 (by omega) (fun i hi => (c2 i hi).symm) (by rw [← hlast]; exact h1)
  rw [← g1, ← g2]
  refine ⟨f2.symm, fun h => ?_⟩
  rw [f3 h]
  show ((EE T).getD a e0).1 + _ = _
  rw [a2]
theorem at_le {T : List Int} (hl : ∀ x ∈ T, 0 ≤ x ∧ x ≤ 255) {u m col : Int} (hu : isRu u = true) (hm : isRu m = true) {i : Nat} (hi : i < (LN T).length) (h0 : 0 ≤ col) (h1 : col ≤ (szE u (cutL T ((LN T).getD i z4).2.1 (lst ((LN T).getD i z4))) : Int)) :
    atR T (i : Int) col u m = fdR u ((szE u (T.take ((LN T).getD i z4).2.1) : Int) + col) m (EE T) ∧ atP T (i : Int) col u m = (fdE u ((szE u (T.take ((LN T).getD i z4).2.1) : Int) + col) m (EE T)).1 := by
  obtain ⟨_, _, k3⟩ := LN_at T hi
  obtain ⟨e1, e2, e3, _, _⟩ := lst_edge hi
  obtain ⟨f1, f2⟩ := fd_cut (m := m) hl hu k3.es e1 e2 e3 h0 h1
  have hn : nbr T (i : Int) = some ((LN T).getD i z4) := by
    unfold nbr
    rw [if_pos ⟨by omega, by omega⟩, Int.toNat_natCast]
  have hc : (isRu u && (isRu 1 && isRu m)) = true := by rw [hu, hm]; rfl
  have hR : toR u col 1 m (EE (cutL T ((LN T).getD i z4).2.1 (lst ((LN T).getD i z4)))) = fdR u ((szE u (T.take ((LN T).getD i z4).2.1) : Int) + col) m (EE T) := by unfold toR; rw [if_pos hc, f1]
  have hP : toP u col 1 m (EE (cutL T ((LN T).getD i z4).2.1 (lst ((LN T).getD i z4)))) = (fdE u col m (EE (cutL T ((LN T).getD i z4).2.1 (lst ((LN T).getD i z4))))).1 := by unfold toP; rw [if_pos hc]; rfl
  have hbC : ∀ x ∈ cutL T ((LN T).getD i z4).2.1 (lst ((LN T).getD i z4)), 0 ≤ x ∧ x ≤ 255 := fun x hx => hl x (List.mem_of_mem_take (List.mem_of_mem_drop hx))
  have hpl : isPl u col (EE (cutL T ((LN T).getD i z4).2.1 (lst ((LN T).getD i z4)))) = true := (isPl_iff (inc_EE hbC u)).2 ⟨h0, by rw [by_last hu]; exact h1⟩
  have h2 : ¬ fdR u ((szE u (T.take ((LN T).getD i z4).2.1) : Int) + col) m (EE T) = 2 := by
    rw [← f1]
    unfold fdR
    rw [hpl]
    simp only [if_true]
    split <;> omega
  unfold atR atP
  rw [hn, hu, hm]
  have hc0 : (col < 0) = False := eq_false (by omega)
  simp only [Bool.and_self, if_true, hc0, if_false, hR, eq_false h2, false_and]
  refine ⟨trivial, ?_⟩
  by_cases hz : fdR u ((szE u (T.take ((LN T).getD i z4).2.1) : Int) + col) m (EE T) = 0
  · rw [if_pos hz, f2 hz, hP]
  · rw [if_neg hz]
    have : fdE u ((szE u (T.take ((LN T).getD i z4).2.1) : Int) + col) m (EE T) = e0 := by unfold fdE; rw [if_neg hz]
    rw [this]
    rfl
theorem at_gt {T : List Int} (hl : ∀ x ∈ T, 0 ≤ x ∧ x ≤ 255) {u m col : Int} (hu : isRu u = true) (hm : isRu m = true) {i : Nat} (hi : i < (LN T).length) (h0 : 0 ≤ col) (h1 : (szE u (cutL T ((LN T).getD i z4).2.1 (lst ((LN T).getD i z4))) : Int) < col) :
    atR T (i : Int) col u m = (if m = 3 then 2 else 0) ∧ atP T (i : Int) col u m = (if m = 3 then 0 else ((LN T).getD i z4).2.2.1) := by
  have hn : nbr T (i : Int) = some ((LN T).getD i z4) := by
    unfold nbr
    rw [if_pos ⟨by omega, by omega⟩, Int.toNat_natCast]
  have hc : (isRu u && (isRu 1 && isRu m)) = true := by rw [hu, hm]; rfl
  have hbC : ∀ x ∈ cutL T ((LN T).getD i z4).2.1 (lst ((LN T).getD i z4)), 0 ≤ x ∧ x ≤ 255 := fun x hx => hl x (List.mem_of_mem_take (List.mem_of_mem_drop hx))
  have hpl : isPl u col (EE (cutL T ((LN T).getD i z4).2.1 (lst ((LN T).getD i z4)))) = false := by
    cases hcc : isPl u col (EE (cutL T ((LN T).getD i z4).2.1 (lst ((LN T).getD i z4)))) with
    | false => rfl
    | true =>
      have := (isPl_iff (inc_EE hbC u)).1 hcc
      rw [by_last hu] at this
      omega
  have hR : toR u col 1 m (EE (cutL T ((LN T).getD i z4).2.1 (lst ((LN T).getD i z4)))) = 2 := by unfold toR fdR; rw [if_pos hc, hpl]; rfl
  unfold atR atP
  rw [hn, hu, hm]
  have hc0 : (col < 0) = False := eq_false (by omega)
  simp only [Bool.and_self, if_true, hc0, if_false, hR, true_and]
  by_cases h3 : m = 3
  · simp [h3]
  · simp [h3]
set_option maxRecDepth 100000 in
theorem ToK10_at (g : Nat) (f place t m : Int) (w : World) (hW : Wt w) (hk : (isRu f && (isRu t && isRu m)) = false) :
    Calls Tryz.prog 16 #[.pointer (some ⟨g, 0, none⟩), .int .i64 f, .int .i64 place, .int .i64 t, .int .i64 m] w fun y w' => y = .returned (.tuple #[.int .i64 0, .int .i64 3]) ∧ Below w.heap.size w w' := by
  have hkn := known10_at f t m w hW.1
  have ek : kn3 f t m = 3 := by unfold kn3; rw [hk]; rfl
  rw [ek] at hkn
  have HK := hide hkn
  clear hkn ek hk hW
  go_enter Tryz.func16, Tryz.ntmps16
  go_wp2_with fail
  refine (unhide HK).mono ?_
  rintro y v1 ⟨rfl, x1⟩
  dsimp only
  go_wp2_with fail
  refine bodyPost_ret (results_tmp2 rfl _ _ _) rfl ?_
  exact ⟨rfl, x1⟩
/-- seek.To answers as rule.To does of the rope's bytes -/
theorem ToA10_at (g : Nat) (o : Option Nd) (f place t m : Int) (w : World) (h : IsRo w g o) (hm : (txtO o).length ≤ 268435456) (hW : Wt w) :
    Calls Tryz.prog 16 #[.pointer (some ⟨g, 0, none⟩), .int .i64 f, .int .i64 place, .int .i64 t, .int .i64 m] w fun y w' => y = .returned (.tuple #[.int .i64 (toP f place t m (EE (txtO o)) : Int), .int .i64 (toR f place t m (EE (txtO o)))]) ∧ Below w.heap.size w w' := by
  cases hk : (isRu f && (isRu t && isRu m)) with
  | true => exact To10_at g o f place t m w h hm hW hk (fun X hx => setP10 g o f place X (h.on hx) hm (hW.below hx) (by rw [Bool.and_eq_true] at hk; exact hk.1))
  | false =>
    have e1 : toP f place t m (EE (txtO o)) = 0 := by unfold toP; rw [hk]; rfl
    have e2 : toR f place t m (EE (txtO o)) = 3 := by unfold toR; rw [hk]; rfl
    rw [e1, e2]
    exact ToK10_at g f place t m w hW hk
set_option maxRecDepth 100000 in
set_option maxHeartbeats 2000000 in
theorem Line10_at (g : Nat) (o : Option Nd) (k : Int) (w : World) (h : IsRo w g o) (hm : (txtO o).length ≤ 268435456) (hW : Wt w) :
    Calls Tryz.prog 29 #[.pointer (some ⟨g, 0, none⟩), .int .i64 k] w fun y w' => y = .returned (liV (nbr (txtO o) k)) ∧ Below w.heap.size w w' := by
  have hc := LN_count (txtO o)
  have hWe := fun (X : World) (hx : Below w.heap.size w X) => Weld9_at g o X (h.on hx)
  rw [weq9] at hWe
  have hz : (szL (txtO o)).e = endsN (txtO o) := rfl
  rw [hz] at hWe
  by_cases h0 : k < 0
  · have e : nbr (txtO o) k = none := by unfold nbr; rw [if_neg (by omega)]
    have d0 : decide (k < 0) = true := decide_eq_true h0
    rw [e]
    unfold liV
    clear h hm hW hWe hc e hz
    go_enter Tryz.func29, Tryz.ntmps29
    go_wp2_with fail
    refine bodyPost_ret (v := .tuple #[.int .i64 0, .int .i64 0, .int .i64 0, .int .i64 2]) (by simp [results, Tryz.results29, go_sem]) rfl ?_
    exact ⟨rfl, Below.refl _ _⟩
  · have d0 : decide (k < 0) = false := decide_eq_false h0
    have HWe := hide hWe
    by_cases h1 : endsN (txtO o) < k
    · have e : nbr (txtO o) k = none := by unfold nbr; rw [if_neg (by omega)]
      have d1 : decide (endsN (txtO o) < k) = true := decide_eq_true h1
      have d2 : decide (k > endsN (txtO o)) = true := decide_eq_true h1
      rw [e]
      unfold liV
      clear h hm hW hWe hc e hz
      generalize endsN (txtO o) = en at *
      generalize (szL (txtO o)).b = zb at *
      generalize (szL (txtO o)).r = zr at *
      generalize (szL (txtO o)).u = zu at *
      go_enter Tryz.func29, Tryz.ntmps29
      go_wp2_with fail
      refine (unhide HWe w (Below.refl _ _)).mono ?_
      rintro y v1 ⟨rfl, x1⟩
      dsimp only
      go_wp2_with fail
      refine bodyPost_ret (v := .tuple #[.int .i64 0, .int .i64 0, .int .i64 0, .int .i64 2]) (by simp [results, Tryz.results29, go_sem]) rfl ?_
      exact ⟨rfl, x1⟩
    · obtain ⟨j, rfl⟩ : ∃ j : Nat, k = (j : Int) := ⟨k.toNat, by omega⟩
      have hj : j < (LN (txtO o)).length := by omega
      have e : nbr (txtO o) (j : Int) = some ((LN (txtO o)).getD j z4) := by unfold nbr; rw [if_pos ⟨by omega, by omega⟩, Int.toNat_natCast]
      have d1 : decide (endsN (txtO o) < (j : Int)) = false := decide_eq_false h1
      have d2 : decide ((j : Int) > endsN (txtO o)) = false := decide_eq_false h1
      have HE := hide fun (X : World) (hx : Below w.heap.size w X) => ending10_at g o j X (h.on hx) hj hm (hW.below hx)
      have HBg := hide fun (X : World) (hx : Below w.heap.size w X) => begin10_at g o j X (h.on hx) hj hm (hW.below hx)
      rw [e]
      unfold liV
      dsimp only
      clear h hm hW hWe hc e hz hj h0 h1
      generalize endsN (txtO o) = en at *
      generalize (szL (txtO o)).b = zb at *
      generalize (szL (txtO o)).r = zr at *
      generalize (szL (txtO o)).u = zu at *
      generalize (((LN (txtO o)).getD j z4).2.1 : Int) = a1 at *
      generalize (((LN (txtO o)).getD j z4).2.2.1 : Int) = a2 at *
      generalize (((LN (txtO o)).getD j z4).2.2.2 : Int) = a3 at *
      go_enter Tryz.func29, Tryz.ntmps29
      go_wp2_with fail
      refine (unhide HWe w (Below.refl _ _)).mono ?_
      rintro y v1 ⟨rfl, x1⟩
      dsimp only
      go_wp2_with fail
      refine (unhide HE v1 x1).mono ?_
      rintro y v2 ⟨rfl, x2⟩
      dsimp only
      have X2 := x1.trans (x2.mono x1.size)
      go_wp2_with fail
      refine (unhide HBg v2 X2).mono ?_
      rintro y v3 ⟨rfl, x3⟩
      dsimp only
      have X3 := X2.trans (x3.mono X2.size)
      go_wp2_with fail
      refine bodyPost_ret (v := .tuple #[.int .i64 a1, .int .i64 a2, .int .i64 a3, .int .i64 0]) (by simp [results, Tryz.results29, go_sem]) rfl ?_
      exact ⟨rfl, X3⟩

end Go.Proofs.YtophdhpkinedgaaGreatDoor
