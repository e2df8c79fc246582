/- Layer 10: contracts of seek's Line and At; To of all rulers and modes. · Layer 10: the contract of seek's At. -/
import Derived.Test.YteamaneompijkaaGreatDoorSo43
namespace Go.Proofs.YteamaneompijkaaGreatDoor
open Go.ChangeShapes Go.WideShapes Go.ChangeAt Go.RowKit
set_option maxRecDepth 100000
set_option maxHeartbeats 8000000
section
attribute [local go_sem] Oper.semAt_some fldS10 fldE10
theorem EE_cut {T : List Int} (hl : ∀ x ∈ T, 0 ≤ x ∧ x ≤ 255) {a : Nat} (ha : a < (EE T).length) : (EE (T.take ((EE T).getD a e0).1)).length = a + 1 ∧ ∀ i, i ≤ a → (EE (T.take ((EE T).getD a e0).1)).getD i e0 = (EE T).getD i e0 := by
  have hk : a ≤ (spots T 0).length := by rw [EE_len] at ha; omega
  obtain ⟨h1, _, h3, _⟩ := adds_of hl hk
  rw [← EE_at ha] at h1 h3
  generalize hx : ((EE T).getD a e0).1 = x at *
  have hlen : (EE (T.take x)).length = a + 1 := by rw [EE_len, h1, List.length_take]; omega
  refine ⟨hlen, fun i hi => ?_⟩
  rw [EE_at (by omega), EE_at (by omega), h1, List.take_take, Nat.min_eq_left hi]
  unfold stE
  exact fold_takeE _ _ (fun y hy => h3 y (by
    rw [show i = min i a by omega, ← List.take_take] at hy
    exact List.mem_of_mem_take hy))
theorem fd_cut {T : List Int} (hl : ∀ x ∈ T, 0 ≤ x ∧ x ≤ 255) {u m col : Int} (hu : isRu u = true) {s e : Nat} (hs : inside T s = false) (he : inside T e = false) (hse : s ≤ e) (hel : e ≤ T.length) (h0 : 0 ≤ col) (h1 : col ≤ (szE u (cutL T s e) : Int)) :
    fdR u col m (EE (cutL T s e)) = fdR u ((szE u (T.take s) : Int) + col) m (EE T) ∧ (fdR u ((szE u (T.take s) : Int) + col) m (EE T) = 0 → (fdE u ((szE u (T.take s) : Int) + col) m (EE T)).1 = s + (fdE u col m (EE (cutL T s e))).1) := by
  obtain ⟨a, a1, a2⟩ := edge_ix hl (p := s) (by omega) hs
  have hd : ∀ x ∈ T.drop s, 0 ≤ x ∧ x ≤ 255 := fun x hx => hl x (List.mem_of_mem_drop hx)
  have hin : inside (T.drop s) (e - s) = false := by rw [inside_drop hs, show s + (e - s) = e by omega]; exact he
  obtain ⟨b, b1, b2⟩ := edge_ix hd (p := e - s) (by rw [List.length_drop]; omega) hin
  have hsz : szE u (T.take s) = byE u ((EE T).getD a e0) := by rw [← a2]; exact sz_take hl hu a1
  obtain ⟨_, f2, f3⟩ := fd_shift (m := m) (r := u) (place := (szE u (T.take s) : Int) + col) hl a1 (by rw [hsz]; omega)
  rw [a2] at f2 f3
  rw [← hsz, show (szE u (T.take s) : Int) + col - (szE u (T.take s) : Int) = col by omega] at f2 f3
  have hC : cutL T s e = (T.drop s).take (e - s) := by unfold cutL; rw [List.drop_take]
  obtain ⟨c1, c2⟩ := EE_cut hd b1
  rw [b2] at c1 c2
  have hlast : (szE u (cutL T s e) : Int) = (byE u ((EE (T.drop s)).getD b e0) : Int) := by
    have hz := sz_take hd hu b1
    rw [b2] at hz
    rw [hC, hz]
  rw [hC]
  obtain ⟨g1, g2⟩ := fd_agree (r := u) (place := col) (m := m) (E := EE (T.drop s)) (F := EE ((T.drop s).take (e - s))) b1 (by omega) (fun i hi => (c2 i hi).symm) (by rw [← hlast]; exact h1)
  rw [← g1, ← g2]
  refine ⟨f2.symm, fun h => ?_⟩
  rw [f3 h]
  show ((EE T).getD a e0).1 + _ = _
  rw [a2]
theorem at_le {T : List Int} (hl : ∀ x ∈ T, 0 ≤ x ∧ x ≤ 255) {u m col : Int} (hu : isRu u = true) (hm : isRu m = true) {i : Nat} (hi : i < (LN T).length) (h0 : 0 ≤ col) (h1 : col ≤ (szE u (cutL T ((LN T).getD i z4).2.1 (lst ((LN T).getD i z4))) : Int)) :
    atR T (i : Int) col u m = fdR u ((szE u (T.take ((LN T).getD i z4).2.1) : Int) + col) m (EE T) ∧ atP T (i : Int) col u m = (fdE u ((szE u (T.take ((LN T).getD i z4).2.1) : Int) + col) m (EE T)).1 := by
  obtain ⟨_, _, k3⟩ := LN_at T hi
  obtain ⟨e1, e2, e3, _, _⟩ := lst_edge hi
  obtain ⟨f1, f2⟩ := fd_cut (m := m) hl hu k3.es e1 e2 e3 h0 h1
  have hn : nbr T (i : Int) = some ((LN T).getD i z4) := by
    unfold nbr
    rw [if_pos ⟨by omega, by omega⟩, Int.toNat_natCast]
  have hc : (isRu u && (isRu 1 && isRu m)) = true := by rw [hu, hm]; rfl
  have hR : toR u col 1 m (EE (cutL T ((LN T).getD i z4).2.1 (lst ((LN T).getD i z4)))) = fdR u ((szE u (T.take ((LN T).getD i z4).2.1) : Int) + col) m (EE T) := by unfold toR; rw [if_pos hc, f1]
  have hP : toP u col 1 m (EE (cutL T ((LN T).getD i z4).2.1 (lst ((LN T).getD i z4)))) = (fdE u col m (EE (cutL T ((LN T).getD i z4).2.1 (lst ((LN T).getD i z4))))).1 := by unfold toP; rw [if_pos hc]; rfl
  have hbC : ∀ x ∈ cutL T ((LN T).getD i z4).2.1 (lst ((LN T).getD i z4)), 0 ≤ x ∧ x ≤ 255 := fun x hx => hl x (List.mem_of_mem_take (List.mem_of_mem_drop hx))
  have hpl : isPl u col (EE (cutL T ((LN T).getD i z4).2.1 (lst ((LN T).getD i z4)))) = true := (isPl_iff (inc_EE hbC u)).2 ⟨h0, by rw [by_last hu]; exact h1⟩
  have h2 : ¬ fdR u ((szE u (T.take ((LN T).getD i z4).2.1) : Int) + col) m (EE T) = 2 := by
    rw [← f1]
    unfold fdR
    rw [hpl]
    simp only [if_true]
    split <;> omega
  unfold atR atP
  rw [hn, hu, hm]
  have hc0 : (col < 0) = False := eq_false (by omega)
  simp only [Bool.and_self, if_true, hc0, if_false, hR, eq_false h2, false_and]
  refine ⟨trivial, ?_⟩
  by_cases hz : fdR u ((szE u (T.take ((LN T).getD i z4).2.1) : Int) + col) m (EE T) = 0
  · rw [if_pos hz, f2 hz, hP]
  · rw [if_neg hz]
    have : fdE u ((szE u (T.take ((LN T).getD i z4).2.1) : Int) + col) m (EE T) = e0 := by unfold fdE; rw [if_neg hz]
    rw [this]
    rfl
theorem at_gt {T : List Int} (hl : ∀ x ∈ T, 0 ≤ x ∧ x ≤ 255) {u m col : Int} (hu : isRu u = true) (hm : isRu m = true) {i : Nat} (hi : i < (LN T).length) (h0 : 0 ≤ col) (h1 : (szE u (cutL T ((LN T).getD i z4).2.1 (lst ((LN T).getD i z4))) : Int) < col) :
    atR T (i : Int) col u m = (if m = 3 then 2 else 0) ∧ atP T (i : Int) col u m = (if m = 3 then 0 else ((LN T).getD i z4).2.2.1) := by
  have hn : nbr T (i : Int) = some ((LN T).getD i z4) := by
    unfold nbr
    rw [if_pos ⟨by omega, by omega⟩, Int.toNat_natCast]
  have hc : (isRu u && (isRu 1 && isRu m)) = true := by rw [hu, hm]; rfl
  have hbC : ∀ x ∈ cutL T ((LN T).getD i z4).2.1 (lst ((LN T).getD i z4)), 0 ≤ x ∧ x ≤ 255 := fun x hx => hl x (List.mem_of_mem_take (List.mem_of_mem_drop hx))
  have hpl : isPl u col (EE (cutL T ((LN T).getD i z4).2.1 (lst ((LN T).getD i z4)))) = false := by
    cases hcc : isPl u col (EE (cutL T ((LN T).getD i z4).2.1 (lst ((LN T).getD i z4)))) with
    | false => rfl
    | true =>
      have := (isPl_iff (inc_EE hbC u)).1 hcc
      rw [by_last hu] at this
      omega
  have hR : toR u col 1 m (EE (cutL T ((LN T).getD i z4).2.1 (lst ((LN T).getD i z4)))) = 2 := by unfold toR fdR; rw [if_pos hc, hpl]; rfl
  unfold atR atP
  rw [hn, hu, hm]
  have hc0 : (col < 0) = False := eq_false (by omega)
  simp only [Bool.and_self, if_true, hc0, if_false, hR, true_and]
  by_cases h3 : m = 3
  · simp [h3]
  · simp [h3]
theorem ToK10_at (g : Nat) (f place t m : Int) (w : World) (hW : Wt w) (hk : (isRu f && (isRu t && isRu m)) = false) :
    Calls Tryz.prog 20 #[.pointer (some ⟨g, 0, none⟩), .int .i64 f, .int .i64 place, .int .i64 t, .int .i64 m] w fun y w' => y = .returned (.tuple #[.int .i64 0, .int .i64 3]) ∧ Below w.heap.size w w' := by
  have hkn := known10_at f t m w hW.1
  have ek : kn3 f t m = 3 := by unfold kn3; rw [hk]; rfl
  rw [ek] at hkn
  have HK := hide hkn
  clear hkn ek hk hW
  go_enter Tryz.func20, Tryz.ntmps20
  go_wp2_with fail
  refine (unhide HK).mono ?_
  rintro y v1 ⟨rfl, x1⟩
  dsimp only
  go_wp2_with fail
  refine bodyPost_ret (results_tmp2 rfl _ _ _) rfl ?_
  exact ⟨rfl, x1⟩
theorem ToA10_at (g : Nat) (o : Option Nd) (f place t m : Int) (w : World) (h : IsRo w g o) (hm : (txtO o).length ≤ 268435456) (hW : Wt w) :
    Calls Tryz.prog 20 #[.pointer (some ⟨g, 0, none⟩), .int .i64 f, .int .i64 place, .int .i64 t, .int .i64 m] w fun y w' => y = .returned (.tuple #[.int .i64 (toP f place t m (EE (txtO o)) : Int), .int .i64 (toR f place t m (EE (txtO o)))]) ∧ Below w.heap.size w w' := by
  cases hk : (isRu f && (isRu t && isRu m)) with
  | true => exact To10_at g o f place t m w h hm hW hk (fun X hx => setP10 g o f place X (h.on hx) hm (hW.below hx) (by rw [Bool.and_eq_true] at hk; exact hk.1))
  | false =>
    have e1 : toP f place t m (EE (txtO o)) = 0 := by unfold toP; rw [hk]; rfl
    have e2 : toR f place t m (EE (txtO o)) = 3 := by unfold toR; rw [hk]; rfl
    rw [e1, e2]
    exact ToK10_at g f place t m w hW hk
theorem Line10_at (g : Nat) (o : Option Nd) (k : Int) (w : World) (h : IsRo w g o) (hm : (txtO o).length ≤ 268435456) (hW : Wt w) :
    Calls Tryz.prog 28 #[.pointer (some ⟨g, 0, none⟩), .int .i64 k] w fun y w' => y = .returned (liV (nbr (txtO o) k)) ∧ Below w.heap.size w w' := by
  have hc := LN_count (txtO o)
  have hWe := fun (X : World) (hx : Below w.heap.size w X) => Weld9_at g o X (h.on hx)
  rw [weq9] at hWe
  have hz : (szL (txtO o)).e = endsN (txtO o) := rfl
  rw [hz] at hWe
  by_cases h0 : k < 0
  · have e : nbr (txtO o) k = none := by unfold nbr; rw [if_neg (by omega)]
    have d0 : decide (k < 0) = true := decide_eq_true h0
    rw [e]
    unfold liV
    clear h hm hW hWe hc e hz
    go_enter Tryz.func28, Tryz.ntmps28
    go_wp2_with fail
    refine bodyPost_ret (v := .tuple #[.int .i64 0, .int .i64 0, .int .i64 0, .int .i64 2]) (by simp [results, Tryz.results28, go_sem]) rfl ?_
    exact ⟨rfl, Below.refl _ _⟩
  · have d0 : decide (k < 0) = false := decide_eq_false h0
    have HWe := hide hWe
    by_cases h1 : endsN (txtO o) < k
    · have e : nbr (txtO o) k = none := by unfold nbr; rw [if_neg (by omega)]
      have d1 : decide (endsN (txtO o) < k) = true := decide_eq_true h1
      have d2 : decide (k > endsN (txtO o)) = true := decide_eq_true h1
      rw [e]
      unfold liV
      clear h hm hW hWe hc e hz
      generalize endsN (txtO o) = en at *
      generalize (szL (txtO o)).b = zb at *
      generalize (szL (txtO o)).r = zr at *
      generalize (szL (txtO o)).u = zu at *
      go_enter Tryz.func28, Tryz.ntmps28
      go_wp2_with fail
      refine (unhide HWe w (Below.refl _ _)).mono ?_
      rintro y v1 ⟨rfl, x1⟩
      dsimp only
      go_wp2_with fail
      refine bodyPost_ret (v := .tuple #[.int .i64 0, .int .i64 0, .int .i64 0, .int .i64 2]) (by simp [results, Tryz.results28, go_sem]) rfl ?_
      exact ⟨rfl, x1⟩
    · obtain ⟨j, rfl⟩ : ∃ j : Nat, k = (j : Int) := ⟨k.toNat, by omega⟩
      have hj : j < (LN (txtO o)).length := by omega
      have e : nbr (txtO o) (j : Int) = some ((LN (txtO o)).getD j z4) := by unfold nbr; rw [if_pos ⟨by omega, by omega⟩, Int.toNat_natCast]
      have d1 : decide (endsN (txtO o) < (j : Int)) = false := decide_eq_false h1
      have d2 : decide ((j : Int) > endsN (txtO o)) = false := decide_eq_false h1
      have HE := hide fun (X : World) (hx : Below w.heap.size w X) => ending10_at g o j X (h.on hx) hj hm (hW.below hx)
      have HBg := hide fun (X : World) (hx : Below w.heap.size w X) => begin10_at g o j X (h.on hx) hj hm (hW.below hx)
      rw [e]
      unfold liV
      dsimp only
      clear h hm hW hWe hc e hz hj h0 h1
      generalize endsN (txtO o) = en at *
      generalize (szL (txtO o)).b = zb at *
      generalize (szL (txtO o)).r = zr at *
      generalize (szL (txtO o)).u = zu at *
      generalize (((LN (txtO o)).getD j z4).2.1 : Int) = a1 at *
      generalize (((LN (txtO o)).getD j z4).2.2.1 : Int) = a2 at *
      generalize (((LN (txtO o)).getD j z4).2.2.2 : Int) = a3 at *
      go_enter Tryz.func28, Tryz.ntmps28
      go_wp2_with fail
      refine (unhide HWe w (Below.refl _ _)).mono ?_
      rintro y v1 ⟨rfl, x1⟩
      dsimp only
      go_wp2_with fail
      refine (unhide HE v1 x1).mono ?_
      rintro y v2 ⟨rfl, x2⟩
      dsimp only
      have X2 := x1.trans (x2.mono x1.size)
      go_wp2_with fail
      refine (unhide HBg v2 X2).mono ?_
      rintro y v3 ⟨rfl, x3⟩
      dsimp only
      have X3 := X2.trans (x3.mono X2.size)
      go_wp2_with fail
      refine bodyPost_ret (v := .tuple #[.int .i64 a1, .int .i64 a2, .int .i64 a3, .int .i64 0]) (by simp [results, Tryz.results28, go_sem]) rfl ?_
      exact ⟨rfl, X3⟩
end
section
attribute [local go_sem] Oper.semAt_some
theorem cells2S {W : World} {g : Nat} {x y : Value} {t : TypeId} (h : W.heap[g]? = some (.cells #[x, y] t (0, 0))) : W.cell? ⟨g, 0, none⟩ = some x ∧ W.cell? ⟨g, 1, none⟩ = some y :=
  ⟨by simp only [World.cell?, h]; rfl, by simp only [World.cell?, h]; rfl⟩
theorem AtK10_at (g : Nat) (line col u m : Int) (w : World) (hW : Wt w) (hk : (isRu u && (isRu u && isRu m)) = false) :
    Calls Tryz.prog 26 #[.pointer (some ⟨g, 0, none⟩), .agg #[.int .i64 line, .int .i64 col], .int .i64 u, .int .i64 m] w fun y w' => y = .returned (.tuple #[.int .i64 0, .int .i64 3]) ∧ Below w.heap.size w w' := by
  have b0 := (Below.refl w.heap.size w).alloc (Nat.le_refl _) (.cells #[.int .i64 line, .int .i64 col] 24)
  have hkn := known10_at u u m _ (hW.below b0).1
  have ek : kn3 u u m = 3 := by unfold kn3; rw [hk]; rfl
  rw [ek] at hkn
  have HK := hide hkn
  clear hkn ek hk hW
  go_enter Tryz.func26, Tryz.ntmps26
  go_upto_region 1 with fail
  generalize w.alloc (.cells #[.int .i64 line, .int .i64 col] 24) = w0 at *
  go_wp2_with fail
  refine (unhide HK).mono ?_
  rintro y v1 ⟨rfl, x1⟩
  dsimp only
  have X1 := b0.trans (x1.mono b0.size)
  clear x1 b0
  go_wp2_with fail
  refine bodyPost_ret (results_tmp2 rfl _ _ _) rfl ?_
  exact ⟨rfl, X1⟩
theorem AtN10_of (g : Nat) (line col u m a b c e : Int) (w : World)
    (HK : Hid (∀ X, Below w.heap.size w X → Calls Tryz.prog 49 #[.int .i64 u, .int .i64 u, .int .i64 m] X fun y w' => y = .returned (.int .i64 0) ∧ Below X.heap.size X w'))
    (HL : Hid (∀ X, Below w.heap.size w X → Calls Tryz.prog 28 #[.pointer (some ⟨g, 0, none⟩), .int .i64 line] X fun y w' => y = .returned (.tuple #[.int .i64 a, .int .i64 b, .int .i64 c, .int .i64 e]) ∧ Below X.heap.size X w')) (h : e = 2 ∨ (e = 0 ∧ col < 0)) :
    Calls Tryz.prog 26 #[.pointer (some ⟨g, 0, none⟩), .agg #[.int .i64 line, .int .i64 col], .int .i64 u, .int .i64 m] w fun y w' => y = .returned (.tuple #[.int .i64 0, .int .i64 2]) ∧ Below w.heap.size w w' := by
  have b0 := (Below.refl w.heap.size w).alloc (Nat.le_refl _) (.cells #[.int .i64 line, .int .i64 col] 24)
  have g0 := push_get w (.cells #[.int .i64 line, .int .i64 col] 24)
  have HH := hide h
  clear h
  go_enter Tryz.func26, Tryz.ntmps26
  go_upto_region 1 with fail
  generalize w.alloc (.cells #[.int .i64 line, .int .i64 col] 24) = w0 at *
  go_wp2_with fail
  refine (unhide HK w0 b0).mono ?_
  rintro y v1 ⟨rfl, x1⟩
  dsimp only
  have X1 := b0.trans (x1.mono b0.size)
  have g1 := bk9_on g0 x1
  clear x1 b0 g0
  obtain ⟨c0, c1⟩ := cells2S g1
  go_wp2_with fail
  refine (unhide HL v1 X1).mono ?_
  rintro y v2 ⟨rfl, x2⟩
  dsimp only
  have X2 := X1.trans (x2.mono X1.size)
  have g2 := bk9_on g1 x2
  clear x2 X1 g1 c0 c1 HK HL
  obtain ⟨c0, c1⟩ := cells2S g2
  rcases unhide HH with rfl | ⟨rfl, hc⟩
  · go_wp2_with fail
    refine bodyPost_ret (results_tmp2 rfl _ _ _) rfl ?_
    exact ⟨rfl, X2⟩
  · have d0 : decide (col < 0) = true := decide_eq_true hc
    go_wp2_with fail
    refine bodyPost_ret (results_tmp2 rfl _ _ _) rfl ?_
    exact ⟨rfl, X2⟩
theorem At10_of (g s c n last : Nat) (line col u m F G E R a0 a1 a2 a3 b0' b1' b2' b3' : Int) (w : World)
    (HK : Hid (∀ X, Below w.heap.size w X → Calls Tryz.prog 49 #[.int .i64 u, .int .i64 u, .int .i64 m] X fun y w' => y = .returned (.int .i64 0) ∧ Below X.heap.size X w'))
    (HL : Hid (∀ X, Below w.heap.size w X → Calls Tryz.prog 28 #[.pointer (some ⟨g, 0, none⟩), .int .i64 line] X fun y w' => y = .returned (.tuple #[.int .i64 (s : Int), .int .i64 (c : Int), .int .i64 (n : Int), .int .i64 0]) ∧ Below X.heap.size X w'))
    (HA1 : Hid (∀ X, Below w.heap.size w X → Calls Tryz.prog 52 #[.func (.func 53) #[.pointer (some ⟨g, 0, none⟩)] #[], .int .i64 (s : Int)] X fun y w' => y = .returned (.agg #[.int .i64 a0, .int .i64 a1, .int .i64 a2, .int .i64 a3]) ∧ Below X.heap.size X w'))
    (HB1 : Hid (∀ X, Below w.heap.size w X → Calls Tryz.prog 51 #[.agg #[.int .i64 a0, .int .i64 a1, .int .i64 a2, .int .i64 a3], .int .i64 u] X fun y w' => y = .returned (.int .i64 F) ∧ Below X.heap.size X w'))
    (HA2 : Hid (∀ X, Below w.heap.size w X → Calls Tryz.prog 52 #[.func (.func 53) #[.pointer (some ⟨g, 0, none⟩)] #[], .int .i64 (last : Int)] X fun y w' => y = .returned (.agg #[.int .i64 b0', .int .i64 b1', .int .i64 b2', .int .i64 b3']) ∧ Below X.heap.size X w'))
    (HB2 : Hid (∀ X, Below w.heap.size w X → Calls Tryz.prog 51 #[.agg #[.int .i64 b0', .int .i64 b1', .int .i64 b2', .int .i64 b3'], .int .i64 u] X fun y w' => y = .returned (.int .i64 (F + G)) ∧ Below X.heap.size X w'))
    (HFi : Hid (col ≤ G → ∀ X, Below w.heap.size w X → Calls Tryz.prog 50 #[.pointer (some ⟨g, 0, none⟩), .int .i64 u, .int .i64 (F + col), .int .i64 m] X fun y w' => y = .returned (.tuple #[.int .i64 E, .int .i64 R]) ∧ Below X.heap.size X w'))
    (h0 : 0 ≤ col) (w1 : wrap64 ((n : Int) - 1) = (n : Int) - 1) (w2 : max (c : Int) ((n : Int) - 1) = (last : Int)) (w3 : wrap64 (F + G - F) = G) (w3' : wrap64 G = G) (w4 : col ≤ G → wrap64 (F + col) = F + col)
    (hgt : G < col → (m = 3 ∧ E = 0 ∧ R = 2) ∨ (¬ m = 3 ∧ E = (c : Int) ∧ R = 0)) :
    Calls Tryz.prog 26 #[.pointer (some ⟨g, 0, none⟩), .agg #[.int .i64 line, .int .i64 col], .int .i64 u, .int .i64 m] w fun y w' => y = .returned (.tuple #[.int .i64 E, .int .i64 R]) ∧ Below w.heap.size w w' := by
  have b0 := (Below.refl w.heap.size w).alloc (Nat.le_refl _) (.cells #[.int .i64 line, .int .i64 col] 24)
  have g0 := push_get w (.cells #[.int .i64 line, .int .i64 col] 24)
  have dc : decide (col < 0) = false := decide_eq_false (by omega)
  have HG := hide hgt
  have H4 := hide w4
  clear hgt w4 h0
  go_enter Tryz.func26, Tryz.ntmps26
  go_upto_region 1 with fail
  generalize w.alloc (.cells #[.int .i64 line, .int .i64 col] 24) = w0 at *
  go_wp2_with fail
  refine (unhide HK w0 b0).mono ?_
  rintro y v1 ⟨rfl, x1⟩
  dsimp only
  have X1 := b0.trans (x1.mono b0.size)
  have g1 := bk9_on g0 x1
  clear x1 b0 g0
  obtain ⟨c0, c1⟩ := cells2S g1
  go_wp2_with fail
  refine (unhide HL v1 X1).mono ?_
  rintro y v2 ⟨rfl, x2⟩
  dsimp only
  have X2 := X1.trans (x2.mono X1.size)
  have g2 := bk9_on g1 x2
  clear x2 X1 g1 c0 c1 HK HL
  obtain ⟨c0, c1⟩ := cells2S g2
  go_wp2_with fail
  refine (unhide HA1 v2 X2).mono ?_
  rintro y v3 ⟨rfl, x3⟩
  dsimp only
  have X3 := X2.trans (x3.mono X2.size)
  have g3 := bk9_on g2 x3
  clear x3 X2 g2 c0 c1 HA1
  go_wp2_with fail
  refine (unhide HB1 v3 X3).mono ?_
  rintro y v4 ⟨rfl, x4⟩
  dsimp only
  have X4 := X3.trans (x4.mono X3.size)
  have g4 := bk9_on g3 x4
  clear x4 X3 g3 HB1
  go_wp2_with fail
  refine (unhide HA2 v4 X4).mono ?_
  rintro y v5 ⟨rfl, x5⟩
  dsimp only
  have X5 := X4.trans (x5.mono X4.size)
  have g5 := bk9_on g4 x5
  clear x5 X4 g4 HA2
  go_wp2_with fail
  refine (unhide HB2 v5 X5).mono ?_
  rintro y v6 ⟨rfl, x6⟩
  dsimp only
  have X6 := X5.trans (x6.mono X5.size)
  have g6 := bk9_on g5 x6
  clear x6 X5 g5 HB2
  obtain ⟨c0, c1⟩ := cells2S g6
  by_cases hle : col ≤ G
  · have d1 : decide (col ≤ G) = true := decide_eq_true hle
    have w4 := unhide H4 hle
    have HF := hide (unhide HFi hle)
    clear HFi HG H4
    go_wp2_with fail
    refine (unhide HF v6 X6).mono ?_
    rintro y v7 ⟨rfl, x7⟩
    dsimp only
    have X7 := X6.trans (x7.mono X6.size)
    clear x7 X6
    go_wp2_with fail
    refine bodyPost_ret (results_tmp2 rfl _ _ _) rfl ?_
    exact ⟨rfl, X7⟩
  · have d1 : decide (col ≤ G) = false := decide_eq_false hle
    have hg := unhide HG (by omega)
    clear HFi HG H4
    rcases hg with ⟨rfl, rfl, rfl⟩ | ⟨hm, rfl, rfl⟩
    · go_wp2_with fail
      refine bodyPost_ret (results_tmp2 rfl _ _ _) rfl ?_
      exact ⟨rfl, X6⟩
    · have e1 : (m == 3) = false := by simpa using hm
      go_wp2_with fail
      refine bodyPost_ret (results_tmp2 rfl _ _ _) rfl ?_
      exact ⟨rfl, X6⟩
theorem AtA10_at (g : Nat) (o : Option Nd) (line col u m : Int) (w : World) (h : IsRo w g o) (hm : (txtO o).length ≤ 268435456) (hW : Wt w) :
    Calls Tryz.prog 26 #[.pointer (some ⟨g, 0, none⟩), .agg #[.int .i64 line, .int .i64 col], .int .i64 u, .int .i64 m] w fun y w' => y = .returned (.tuple #[.int .i64 (atP (txtO o) line col u m : Int), .int .i64 (atR (txtO o) line col u m)]) ∧ Below w.heap.size w w' := by
  have hb := bytes_of h
  cases hk : (isRu u && isRu m) with
  | false =>
    have e1 : atP (txtO o) line col u m = 0 := by unfold atP; rw [hk]; rfl
    have e2 : atR (txtO o) line col u m = 3 := by unfold atR; rw [hk]; rfl
    rw [e1, e2]
    exact AtK10_at g line col u m w hW (by rw [hk, Bool.and_false])
  | true =>
    have hk' := hk
    rw [Bool.and_eq_true] at hk'
    obtain ⟨hu, hmo⟩ := hk'
    have hkn := fun (X : World) (hx : Below w.heap.size w X) => known10_at u u m X (hW.below hx).1
    have ek : kn3 u u m = 0 := by unfold kn3; rw [hu, hmo]; rfl
    rw [ek] at hkn
    have hLi := fun (X : World) (hx : Below w.heap.size w X) => Line10_at g o line X (h.on hx) hm (hW.below hx)
    by_cases hn : nbr (txtO o) line = none
    · have e1 : atP (txtO o) line col u m = 0 := by unfold atP; rw [hk, hn]; rfl
      have e2 : atR (txtO o) line col u m = 2 := by unfold atR; rw [hk, hn]; rfl
      rw [e1, e2]
      rw [hn] at hLi
      exact AtN10_of g line col u m _ _ _ 2 w (hide hkn) (hide hLi) (.inl rfl)
    · have hln : 0 ≤ line ∧ line < ((LN (txtO o)).length : Int) := by
        apply Classical.byContradiction
        intro hh
        exact hn (by unfold nbr; rw [if_neg hh])
      obtain ⟨i, rfl⟩ : ∃ i : Nat, line = (i : Int) := ⟨line.toNat, by omega⟩
      have hi : i < (LN (txtO o)).length := by omega
      have hn' : nbr (txtO o) (i : Int) = some ((LN (txtO o)).getD i z4) := by unfold nbr; rw [if_pos hln, Int.toNat_natCast]
      rw [hn'] at hLi
      by_cases hc : col < 0
      · have e1 : atP (txtO o) (i : Int) col u m = 0 := by unfold atP; rw [hk, hn']; simp only [if_true, eq_true hc]
        have e2 : atR (txtO o) (i : Int) col u m = 2 := by unfold atR; rw [hk, hn']; simp only [if_true, eq_true hc]
        rw [e1, e2]
        exact AtN10_of g (i : Int) col u m _ _ _ 0 w (hide hkn) (hide hLi) (.inr ⟨rfl, hc⟩)
      · obtain ⟨_, _, k3⟩ := LN_at (txtO o) hi
        obtain ⟨l1, l2, l3, _, _⟩ := lst_edge hi
        have hsz := sz_cut hb hu k3.es l1 l2 l3
        have hbt : ∀ n, ∀ x ∈ (txtO o).take n, 0 ≤ x ∧ x ≤ 255 := fun n x hx => hb x (List.mem_of_mem_take hx)
        have z1 := szE_leS (hbt (lst ((LN (txtO o)).getD i z4))) u
        rw [List.length_take] at z1
        have hB : ∀ l : List Int, (∀ x ∈ l, 0 ≤ x ∧ x ≤ 255) → ∀ X, Below w.heap.size w X → Calls Tryz.prog 51 #[.agg #[.int .i64 (szL l).b, .int .i64 (szL l).r, .int .i64 (szL l).u, .int .i64 (szL l).e], .int .i64 u] X fun y w' => y = .returned (.int .i64 (szE u l : Int)) ∧ Below X.heap.size X w' := fun l hl X _ => by
          have := by10_at (szL l) u X
          rw [byZ_is hl hu] at this
          exact this
        have hAh := fun (n : Nat) (hnl : n ≤ (txtO o).length) (X : World) (hx : Below w.heap.size w X) => ahead10_at g o n X (h.on hx) hnl hm (hW.below hx)
        have hB2 := hB _ (hbt (lst ((LN (txtO o)).getD i z4)))
        have hcl : ((txtO o).take (lst ((LN (txtO o)).getD i z4))).drop ((LN (txtO o)).getD i z4).2.1 = cutL (txtO o) ((LN (txtO o)).getD i z4).2.1 (lst ((LN (txtO o)).getD i z4)) := rfl
        rw [hsz, hcl] at hB2
        rw [hsz, hcl] at z1
        push_cast at hB2
        refine At10_of g ((LN (txtO o)).getD i z4).2.1 ((LN (txtO o)).getD i z4).2.2.1 ((LN (txtO o)).getD i z4).2.2.2 (lst ((LN (txtO o)).getD i z4)) (i : Int) col u m (szE u ((txtO o).take ((LN (txtO o)).getD i z4).2.1) : Int) (szE u (cutL (txtO o) ((LN (txtO o)).getD i z4).2.1 (lst ((LN (txtO o)).getD i z4))) : Int) _ _ _ _ _ _ _ _ _ _ w
          (hide hkn) (hide hLi) (hide (hAh _ (by omega))) (hide (hB _ (hbt _))) (hide (hAh _ l3)) (hide hB2) (hide fun hle X hx => ?_) (by omega)
          (wrap_in _ (by omega) (by have := k3.nl; omega)) (by unfold lst; omega) (by rw [show (szE u ((txtO o).take ((LN (txtO o)).getD i z4).2.1) : Int) + (szE u (cutL (txtO o) ((LN (txtO o)).getD i z4).2.1 (lst ((LN (txtO o)).getD i z4))) : Int) - (szE u ((txtO o).take ((LN (txtO o)).getD i z4).2.1) : Int) = (szE u (cutL (txtO o) ((LN (txtO o)).getD i z4).2.1 (lst ((LN (txtO o)).getD i z4))) : Int) by omega]; exact wrap_in _ (by omega) (by omega)) (wrap_in _ (by omega) (by omega)) (fun hle => wrap_in _ (by omega) (by omega)) (fun hgt => ?_)
        · obtain ⟨a1, a2⟩ := at_le (m := m) hb hu hmo hi (by omega) hle
          have := find10_at g o u ((szE u ((txtO o).take ((LN (txtO o)).getD i z4).2.1) : Int) + col) m X (h.on hx) hm (hW.below hx) hu hmo (setP10 g o u _ X (h.on hx) hm (hW.below hx) hu)
          rw [← a1, ← a2] at this
          exact this
        · obtain ⟨a1, a2⟩ := at_gt (m := m) hb hu hmo hi (by omega) hgt
          rw [a1, a2]
          by_cases h3 : m = 3
          · left; exact ⟨h3, by rw [if_pos h3]; rfl, by rw [if_pos h3]⟩
          · right; exact ⟨h3, by rw [if_neg h3], by rw [if_neg h3]⟩
end
end Go.Proofs.YteamaneompijkaaGreatDoor
