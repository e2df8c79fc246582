/- Layer 10: contracts of seek's find and To, settledFrom's given. · Layer 10: an argument that is an Ask: what came in is six numbers. -/
import Derived.Test.YtophdhpkinedgaaGreatDoorMg42
import Derived.OpenShut

section
namespace Go.Proofs.YtophdhpkinedgaaGreatDoor
open Go.ChangeShapes Go.WideShapes Go.ChangeAt Go.RowKit
attribute [local go_sem] Oper.semAt_some fldS10

theorem EE_any {L : List Int} (hl : ∀ x ∈ L, 0 ≤ x ∧ x ≤ 255) (i : Nat) : ((EE L).getD i e0).1 ≤ L.length := by
  by_cases h : i < (EE L).length
  · exact EE_bytes hl h
  · rw [List.getD_eq_getElem?_getD, List.getElem?_eq_none (by omega)]
    exact Nat.zero_le _
theorem fdE_le {L : List Int} (hl : ∀ x ∈ L, 0 ≤ x ∧ x ≤ 255) (u p m : Int) : (fdE u p m (EE L)).1 ≤ L.length := by
  unfold fdE
  split
  · exact EE_any hl _
  · exact Nat.zero_le _
theorem toP_le {L : List Int} (hl : ∀ x ∈ L, 0 ≤ x ∧ x ≤ 255) (u p m : Int) : toP u p 1 m (EE L) ≤ L.length := by
  unfold toP
  split
  · exact fdE_le hl u p m
  · exact Nat.zero_le _
set_option maxRecDepth 100000 in
set_option maxHeartbeats 2000000 in
theorem find10_no (g N : Nat) (u place m szT zb zr zu ze : Int) (zh zt : ByteArray) (w : World)
    (HLen : Hid (∀ X, Below w.heap.size w X → Calls Tryz.prog 31 #[.pointer (some ⟨g, 0, none⟩)] X fun y w' => y = .returned (.int .i64 (N : Int)) ∧ Below X.heap.size X w'))
    (HWe : Hid (∀ X, Below w.heap.size w X → Calls Tryz.prog 24 #[.pointer (some ⟨g, 0, none⟩)] X fun y w' => y = .returned (.agg #[.int .i64 zb, .int .i64 zr, .int .i64 zu, .int .i64 ze, .string zh, .string zt]) ∧ Below X.heap.size X w'))
    (HB1 : Hid (∀ X, Below w.heap.size w X → Calls Tryz.prog 49 #[.agg #[.int .i64 zb, .int .i64 zr, .int .i64 zu, .int .i64 ze], .int .i64 u] X fun y w' => y = .returned (.int .i64 szT) ∧ Below X.heap.size X w'))
    (h0 : place < 0 ∨ szT < place) :
    Calls Tryz.prog 48 #[.pointer (some ⟨g, 0, none⟩), .int .i64 u, .int .i64 place, .int .i64 m] w fun y w' => y = .returned (.tuple #[.int .i64 0, .int .i64 2]) ∧ Below w.heap.size w w' := by
  by_cases h1 : place < 0
  · have d0 : decide (place < 0) = true := decide_eq_true h1
    clear h0 HWe HB1
    go_enter Tryz.func48, Tryz.ntmps48
    go_wp2_with fail
    refine (unhide HLen w (Below.refl _ _)).mono ?_
    rintro y v1 ⟨rfl, x1⟩
    dsimp only
    go_wp2_with fail
    refine bodyPost_ret (results_tmp2 rfl _ _ _) rfl ?_
    exact ⟨rfl, x1⟩
  · have h2 : szT < place := by omega
    have d0 : decide (place < 0) = false := decide_eq_false h1
    have d1 : decide (szT < place) = true := decide_eq_true h2
    have d2 : decide (place > szT) = true := decide_eq_true h2
    clear h0
    go_enter Tryz.func48, Tryz.ntmps48
    go_wp2_with fail
    refine (unhide HLen w (Below.refl _ _)).mono ?_
    rintro y v1 ⟨rfl, x1⟩
    dsimp only
    go_wp2_with fail
    refine (unhide HWe v1 x1).mono ?_
    rintro y v2 ⟨rfl, x2⟩
    dsimp only
    have X2 := x1.trans (x2.mono x1.size)
    go_wp2_with fail
    refine (unhide HB1 v2 X2).mono ?_
    rintro y v3 ⟨rfl, x3⟩
    dsimp only
    have X3 := X2.trans (x3.mono X2.size)
    go_wp2_with fail
    refine bodyPost_ret (results_tmp2 rfl _ _ _) rfl ?_
    exact ⟨rfl, X3⟩
/-- what settledFrom must answer for a ruler that isn't Bytes -/
def SetP (g : Nat) (T : List Int) (u place : Int) (w : World) : Prop := ¬ u = 1 → 0 ≤ place → place ≤ (szE u T : Int) → ∃ near : Nat, NearA T u place near ∧
  ∀ X, Below w.heap.size w X → Calls Tryz.prog 80 #[.func (.func 81) #[.pointer (some ⟨g, 0, none⟩)] #[], .int .i64 (T.length : Int), .int .i64 u, .int .i64 place] X fun y w' => y = .returned (.int .i64 (near : Int)) ∧ Below X.heap.size X w'
theorem find10_at (g : Nat) (o : Option Nd) (u place m : Int) (w : World) (h : IsRo w g o) (hm : (txtO o).length ≤ 268435456) (hW : Wt w) (hu : isRu u = true) (hmo : isRu m = true) (hset : SetP g (txtO o) u place w) :
    Calls Tryz.prog 48 #[.pointer (some ⟨g, 0, none⟩), .int .i64 u, .int .i64 place, .int .i64 m] w fun y w' => y = .returned (.tuple #[.int .i64 ((fdE u place m (EE (txtO o))).1 : Int), .int .i64 (fdR u place m (EE (txtO o)))]) ∧ Below w.heap.size w w' := by
  have hb := bytes_of h
  have hbt : ∀ n, ∀ x ∈ (txtO o).take n, 0 ≤ x ∧ x ≤ 255 := fun n x hx => hb x (List.mem_of_mem_take hx)
  have hLen := fun (X : World) (hx : Below w.heap.size w X) => Len9_at g o X (h.on hx)
  have hWe := fun (X : World) (hx : Below w.heap.size w X) => Weld9_at g o X (h.on hx)
  rw [weq9] at hWe
  have hB : ∀ l : List Int, (∀ x ∈ l, 0 ≤ x ∧ x ≤ 255) → ∀ X, Below w.heap.size w X → Calls Tryz.prog 49 #[.agg #[.int .i64 (szL l).b, .int .i64 (szL l).r, .int .i64 (szL l).u, .int .i64 (szL l).e], .int .i64 u] X fun y w' => y = .returned (.int .i64 (szE u l : Int)) ∧ Below X.heap.size X w' := fun l hl X _ => by
    have := by10_at (szL l) u X
    rw [byZ_is hl hu] at this
    exact this
  by_cases hp : place < 0 ∨ (szE u (txtO o) : Int) < place
  · have hpl : isPl u place (EE (txtO o)) = false := by
      cases hc : isPl u place (EE (txtO o)) with
      | false => rfl
      | true =>
        have := (isPl_iff (inc_EE hb u)).1 hc
        rw [by_last hu] at this
        omega
    have f1 : fdR u place m (EE (txtO o)) = 2 := by unfold fdR; rw [hpl]; rfl
    have f2 : fdE u place m (EE (txtO o)) = e0 := by unfold fdE; rw [f1]; rfl
    rw [f1, f2]
    exact find10_no g _ u place m _ _ _ _ _ _ _ w (hide hLen) (hide hWe) (hide (hB _ hb)) hp
  · have h0 : 0 ≤ place := by omega
    have h1 : place ≤ (szE u (txtO o) : Int) := by omega
    have hz := szE_leS hb u
    obtain ⟨near, hN, hS⟩ : ∃ near : Nat, NearA (txtO o) u place near ∧ (¬ u = 1 → ∀ X, Below w.heap.size w X → Calls Tryz.prog 80 #[.func (.func 81) #[.pointer (some ⟨g, 0, none⟩)] #[], .int .i64 ((txtO o).length : Int), .int .i64 u, .int .i64 place] X fun y w' => y = .returned (.int .i64 (near : Int)) ∧ Below X.heap.size X w') := by
      by_cases hu1 : u = 1
      · exact ⟨place.toNat, .inl ⟨hu1, by omega⟩, fun h => absurd hu1 h⟩
      · obtain ⟨near, a, b⟩ := hset hu1 h0 h1
        exact ⟨near, a, fun _ => b⟩
    obtain ⟨k1, _, _, _⟩ := near_ok hb hu h0 h1 hN
    obtain ⟨f1, f2⟩ := find_ok (m := m) hb hu hmo h0 h1 hN
    have hf := flr_le (txtO o) (near - 4)
    generalize hlo : flr (txtO o) (near - 4) = lo at *
    have hs := szE_leS (hbt lo) u
    rw [List.length_take] at hs
    have hLb : ∀ x ∈ ((txtO o).drop lo).take (min (txtO o).length (near + 4) - lo), 0 ≤ x ∧ x ≤ 255 := fun x hx => hb x (List.mem_of_mem_drop (List.mem_of_mem_take hx))
    have hLl : (((txtO o).drop lo).take (min (txtO o).length (near + 4) - lo)).length ≤ 268435456 := by rw [List.length_take, List.length_drop]; omega
    have hP := toP_le hLb u (place - (szE u ((txtO o).take lo) : Int)) m
    have hBy := fun (X : World) (hx : Below w.heap.size w X) => BytesR9_at g o lo (min (txtO o).length (near + 4)) X (h.on hx) (by omega) (by omega) hm
    have hAh := fun (X : World) (hx : Below w.heap.size w X) => ahead10_at g o lo X (h.on hx) (by omega) hm (hW.below hx)
    rw [szV_eq] at hAh
    generalize ((txtO o).drop lo).take (min (txtO o).length (near + 4) - lo) = L at *
    have hTo := fun (X : World) (a : Option Addr) (c : Nat) (hx : Below w.heap.size w X) (hI : IsB X a c L) => To_at a c L u (place - (szE u ((txtO o).take lo) : Int)) 1 m X hI (hW.below hx).1
    rw [f1] at hTo
    have hFl := fun (X : World) (hx : Below w.heap.size w X) => floor10_at g o (near - 4) X (h.on hx) hb (by omega) hm (hW.below hx)
    rw [hlo] at hFl
    refine (find10_of g (txtO o).length near (near - 4) lo (min (txtO o).length (near + 4)) u place m (szE u (txtO o) : Int) (szE u ((txtO o).take lo) : Int) (toP u (place - (szE u ((txtO o).take lo) : Int)) 1 m (EE L) : Int) (fdR u place m (EE (txtO o))) _ _ _ _ _ _ _ _ _ _ L w
      (hide hLen) (hide hWe) (hide (hB _ hb)) (hide hS) (hide hFl) (hide hBy) (hide hAh) (hide (hB _ (hbt lo))) (hide hTo) (hide hLb) (hide hLl) h0 h1 (fun hu1 => ?_)
      (wrap_in _ (by omega) (by omega)) (by omega) (wrap_in _ (by omega) (by omega)) (by omega) (wrap_in _ (by omega) (by omega)) (wrap_in _ (by omega) (by omega))).mono ?_
    · rcases hN with ⟨_, e⟩ | ⟨e, _⟩
      · exact e
      · exact absurd hu1 e
    · rintro y w' ⟨rfl, b⟩
      refine ⟨?_, b⟩
      by_cases hR : fdR u place m (EE (txtO o)) = 0
      · rw [if_pos hR, ← f2 hR]
        push_cast
        rfl
      · rw [if_neg hR]
        have : fdE u place m (EE (txtO o)) = e0 := by unfold fdE; rw [if_neg hR]
        rw [this]
        rfl
theorem fdE_in {r p m : Int} {E : List Ed} (hE : Inc r E) (h : fdR r p m E = 0) : ∃ i, i < E.length ∧ fdE r p m E = E.getD i e0 := by
  have hp := (fdR_ok h).1
  refine ⟨selI r p m E, selI_lt hE hp, ?_⟩
  unfold fdE
  rw [if_pos h]
theorem To10_at (g : Nat) (o : Option Nd) (f place t m : Int) (w : World) (h : IsRo w g o) (hm : (txtO o).length ≤ 268435456) (hW : Wt w) (hk : (isRu f && (isRu t && isRu m)) = true) (hset : ∀ X, Below w.heap.size w X → SetP g (txtO o) f place X) :
    Calls Tryz.prog 16 #[.pointer (some ⟨g, 0, none⟩), .int .i64 f, .int .i64 place, .int .i64 t, .int .i64 m] w fun y w' => y = .returned (.tuple #[.int .i64 (toP f place t m (EE (txtO o)) : Int), .int .i64 (toR f place t m (EE (txtO o)))]) ∧ Below w.heap.size w w' := by
  have hb := bytes_of h
  have hk' := hk
  rw [Bool.and_eq_true, Bool.and_eq_true] at hk'
  obtain ⟨hf, ht, hmo⟩ := hk'
  have e1 : toP f place t m (EE (txtO o)) = byE t (fdE f place m (EE (txtO o))) := by unfold toP; rw [if_pos hk]
  have e2 : toR f place t m (EE (txtO o)) = fdR f place m (EE (txtO o)) := by unfold toR; rw [if_pos hk]
  rw [e1, e2]
  have hle := fdE_le hb f place m
  have hbt : ∀ x ∈ (txtO o).take (fdE f place m (EE (txtO o))).1, 0 ≤ x ∧ x ≤ 255 := fun x hx => hb x (List.mem_of_mem_take hx)
  have hAh := fun (X : World) (hx : Below w.heap.size w X) => ahead10_at g o (fdE f place m (EE (txtO o))).1 X (h.on hx) hle hm (hW.below hx)
  rw [szV_eq] at hAh
  have hkn := fun (X : World) (hx : Below w.heap.size w X) => known10_at f t m X (hW.below hx).1
  have ek : kn3 f t m = 0 := by unfold kn3; rw [if_pos hk]
  rw [ek] at hkn
  have hV : byZ t (szL ((txtO o).take (fdE f place m (EE (txtO o))).1)) = (byE t (fdE f place m (EE (txtO o))) : Int) := by
    rw [byZ_is hbt ht]
    by_cases hR : fdR f place m (EE (txtO o)) = 0
    · obtain ⟨i, hi, ei⟩ := fdE_in (inc_EE hb f) hR
      rw [ei, sz_take hb ht hi]
    · have : fdE f place m (EE (txtO o)) = e0 := by unfold fdE; rw [if_neg hR]
      rw [this, by_e0, show e0.1 = 0 from rfl, List.take_zero, sz_nil]
  refine To10_of g (fdE f place m (EE (txtO o))).1 f place t m (fdR f place m (EE (txtO o))) _ _ _ _ _ w (hide hkn) (hide fun X hx => find10_at g o f place m X (h.on hx) hm (hW.below hx) hf hmo (hset X hx)) (hide fun _ => hAh) (hide fun X hx => hV ▸ by10_at _ t X) (fun hR => ?_)
  have : fdE f place m (EE (txtO o)) = e0 := by unfold fdE; rw [if_neg hR]
  rw [this, by_e0]
  rfl

end Go.Proofs.YtophdhpkinedgaaGreatDoor
end

section
namespace Go.Proofs.YtophdhpkinedgaaGreatDoor
open Go.ChangeShapes Go.WideShapes Go.ChangeAt Go.RowKit

theorem one_intK {H : Type} {enc : TypeId × Value → H} {P : Program} {W : World} {spare : Nat → Bool} {m : Nat} {t : TypeId} (ht : P.underlying t = some (.int .i64)) {xs : List (DataW H × List MemPlace)} {L : List Value} {i k : Nat} (hi : i < xs.length)
    (h : DataW.trod enc P W 0 spare true m t ((L.drop k).take 1) = xs[i]?) : ∃ n : Int, L[k]? = some (.int .i64 n) ∧ (Lit.int .i64 n).wf = true := by
  rw [List.getElem?_eq_getElem hi] at h
  obtain ⟨n, hn, _, hw⟩ := DataW.trod_int ht h
  refine ⟨n, ?_, hw⟩
  have := congrArg (·[0]?) hn
  simpa [List.getElem?_take, List.getElem?_drop] using this
def AskW (a b c d e f : Int) : Prop := (Lit.int .i64 a).wf = true ∧ (Lit.int .i64 b).wf = true ∧ (Lit.int .i64 c).wf = true ∧ (Lit.int .i64 d).wf = true ∧ (Lit.int .i64 e).wf = true ∧ (Lit.int .i64 f).wf = true
set_option maxRecDepth 100000 in
theorem ask10_of_trod {H : Type} {enc : TypeId × Value → H} {W : World} {v : Value} {d0 : DataW H} {p0 : List MemPlace} {base : Nat} (hv : Value.okWide Tryz.prog W .any base 28 v)
    (h0 : DataW.Trod enc Tryz.prog W 0 (fun _ => true) true 28 v d0 p0) : ∃ a b c d e f : Int, v = .agg #[.int .i64 a, .int .i64 b, .int .i64 c, .int .i64 d, .int .i64 e, .int .i64 f] ∧ AskW a b c d e f := by
  obtain ⟨cs, rfl, hs⟩ := okWide_struct Tryz.underlying28 hv
  obtain ⟨fuel, hf⟩ := h0
  obtain ⟨xs, n, _, _, _, hx, hall⟩ := DataW.trod_struct Tryz.underlying28 hf
  have hs' : cs.size = 6 := hs.trans (by kernel_rfl)
  have hx' : xs.length = 5 := hx
  have hl : cs.toList.length = 6 := by simpa using hs'
  have hc : Tryz.prog.cellsOf 3 = 1 := by kernel_rfl
  have hc2 : Tryz.prog.cellsOf 24 = 2 := by kernel_rfl
  have hc3 : Tryz.prog.cellsOf 25 = 1 := by kernel_rfl
  have hc4 : Tryz.prog.cellsOf 26 = 1 := by kernel_rfl
  have g0 : DataW.trod enc Tryz.prog W 0 (fun _ => true) true n 3 ((cs.toList.drop 0).take (Tryz.prog.cellsOf 3)) = xs[0]? := hall 0 _ rfl
  have g1 : DataW.trod enc Tryz.prog W 0 (fun _ => true) true n 24 ((cs.toList.drop 1).take (Tryz.prog.cellsOf 24)) = xs[1]? := hall 1 _ rfl
  have g2 : DataW.trod enc Tryz.prog W 0 (fun _ => true) true n 25 ((cs.toList.drop 3).take (Tryz.prog.cellsOf 25)) = xs[2]? := hall 2 _ rfl
  have g3 : DataW.trod enc Tryz.prog W 0 (fun _ => true) true n 25 ((cs.toList.drop 4).take (Tryz.prog.cellsOf 25)) = xs[3]? := hall 3 _ rfl
  have g4 : DataW.trod enc Tryz.prog W 0 (fun _ => true) true n 26 ((cs.toList.drop 5).take (Tryz.prog.cellsOf 26)) = xs[4]? := hall 4 _ rfl
  rw [hc2, List.getElem?_eq_getElem (show 1 < xs.length by omega)] at g1
  rw [hc] at g0
  rw [hc3] at g2 g3
  rw [hc4] at g4
  obtain ⟨ys, k, _, _, _, hy, hall2⟩ := DataW.trod_struct Tryz.underlying24 g1
  have hy' : ys.length = 2 := hy
  have j0 : DataW.trod enc Tryz.prog W 0 (fun _ => true) true k 3 ((((cs.toList.drop 1).take 2).drop 0).take (Tryz.prog.cellsOf 3)) = ys[0]? := hall2 0 _ rfl
  have j1 : DataW.trod enc Tryz.prog W 0 (fun _ => true) true k 3 ((((cs.toList.drop 1).take 2).drop 1).take (Tryz.prog.cellsOf 3)) = ys[1]? := hall2 1 _ rfl
  rw [hc] at j0 j1
  obtain ⟨a, e0, w0⟩ := one_intK Tryz.underlying3 (by omega) g0
  obtain ⟨b, e1, w1⟩ := one_intK Tryz.underlying3 (by omega) j0
  obtain ⟨c, e2, w2⟩ := one_intK Tryz.underlying3 (by omega) j1
  obtain ⟨d, e3, w3⟩ := one_intK Tryz.underlying25 (by omega) g2
  obtain ⟨e, e4, w4⟩ := one_intK Tryz.underlying25 (by omega) g3
  obtain ⟨f, e5, w5⟩ := one_intK Tryz.underlying26 (by omega) g4
  refine ⟨a, b, c, d, e, f, ?_, w0, w1, w2, w3, w4, w5⟩
  congr 1
  apply Array.ext'
  apply List.ext_getElem?
  intro i
  match i with
  | 0 => exact e0
  | 1 => rw [show cs.toList[1]? = ((cs.toList.drop 1).take 2)[0]? by simp]; exact e1
  | 2 => rw [show cs.toList[2]? = ((cs.toList.drop 1).take 2)[1]? by simp]; exact e2
  | 3 => exact e3
  | 4 => exact e4
  | 5 => exact e5
  | i + 6 => rw [List.getElem?_eq_none (by omega)]; rfl
end Go.Proofs.YtophdhpkinedgaaGreatDoor
end
