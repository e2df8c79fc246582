/- Layer 10: the contract of seek's At. · Layer 10: an argument that is an Ask: what came in is six numbers. -/
import Derived.Test.YtophdhpkinedgaaGreatDoorSb52
import Derived.Test.YtophdhpkinedgaaGreatDoorSb47
import Derived.OpenShut

section
namespace Go.Proofs.YtophdhpkinedgaaGreatDoor
open Go.ChangeShapes Go.WideShapes Go.ChangeAt Go.RowKit
attribute [local go_sem] Oper.semAt_some

theorem cells2S {W : World} {g : Nat} {x y : Value} {t : TypeId} (h : W.heap[g]? = some (.cells #[x, y] t (0, 0))) : W.cell? ⟨g, 0, none⟩ = some x ∧ W.cell? ⟨g, 1, none⟩ = some y :=
  ⟨by simp only [World.cell?, h]; rfl, by simp only [World.cell?, h]; rfl⟩
set_option maxRecDepth 100000 in
set_option maxHeartbeats 2000000 in
theorem AtK10_at (g : Nat) (line col u m : Int) (w : World) (hW : Wt w) (hk : (isRu u && (isRu u && isRu m)) = false) :
    Calls Tryz.prog 20 #[.pointer (some ⟨g, 0, none⟩), .agg #[.int .i64 line, .int .i64 col], .int .i64 u, .int .i64 m] w fun y w' => y = .returned (.tuple #[.int .i64 0, .int .i64 3]) ∧ Below w.heap.size w w' := by
  have b0 := (Below.refl w.heap.size w).alloc (Nat.le_refl _) (.cells #[.int .i64 line, .int .i64 col] 24)
  have hkn := known10_at u u m _ (hW.below b0).1
  have ek : kn3 u u m = 3 := by unfold kn3; rw [hk]; rfl
  rw [ek] at hkn
  have HK := hide hkn
  clear hkn ek hk hW
  go_enter Tryz.func20, Tryz.ntmps20
  go_upto_region 1 with fail
  generalize w.alloc (.cells #[.int .i64 line, .int .i64 col] 24) = w0 at *
  go_wp2_with fail
  refine (unhide HK).mono ?_
  rintro y v1 ⟨rfl, x1⟩
  dsimp only
  have X1 := b0.trans (x1.mono b0.size)
  clear x1 b0
  go_wp2_with fail
  refine bodyPost_ret (results_tmp2 rfl _ _ _) rfl ?_
  exact ⟨rfl, X1⟩
set_option maxRecDepth 100000 in
set_option maxHeartbeats 4000000 in
/-- At where there is no such line, or the column is below 0 -/
theorem AtN10_of (g : Nat) (line col u m a b c e : Int) (w : World)
    (HK : Hid (∀ X, Below w.heap.size w X → Calls Tryz.prog 47 #[.int .i64 u, .int .i64 u, .int .i64 m] X fun y w' => y = .returned (.int .i64 0) ∧ Below X.heap.size X w'))
    (HL : Hid (∀ X, Below w.heap.size w X → Calls Tryz.prog 29 #[.pointer (some ⟨g, 0, none⟩), .int .i64 line] X fun y w' => y = .returned (.tuple #[.int .i64 a, .int .i64 b, .int .i64 c, .int .i64 e]) ∧ Below X.heap.size X w')) (h : e = 2 ∨ (e = 0 ∧ col < 0)) :
    Calls Tryz.prog 20 #[.pointer (some ⟨g, 0, none⟩), .agg #[.int .i64 line, .int .i64 col], .int .i64 u, .int .i64 m] w fun y w' => y = .returned (.tuple #[.int .i64 0, .int .i64 2]) ∧ Below w.heap.size w w' := by
  have b0 := (Below.refl w.heap.size w).alloc (Nat.le_refl _) (.cells #[.int .i64 line, .int .i64 col] 24)
  have g0 := push_get w (.cells #[.int .i64 line, .int .i64 col] 24)
  have HH := hide h
  clear h
  go_enter Tryz.func20, Tryz.ntmps20
  go_upto_region 1 with fail
  generalize w.alloc (.cells #[.int .i64 line, .int .i64 col] 24) = w0 at *
  go_wp2_with fail
  refine (unhide HK w0 b0).mono ?_
  rintro y v1 ⟨rfl, x1⟩
  dsimp only
  have X1 := b0.trans (x1.mono b0.size)
  have g1 := bk9_on g0 x1
  clear x1 b0 g0
  obtain ⟨c0, c1⟩ := cells2S g1
  go_wp2_with fail
  refine (unhide HL v1 X1).mono ?_
  rintro y v2 ⟨rfl, x2⟩
  dsimp only
  have X2 := X1.trans (x2.mono X1.size)
  have g2 := bk9_on g1 x2
  clear x2 X1 g1 c0 c1 HK HL
  obtain ⟨c0, c1⟩ := cells2S g2
  rcases unhide HH with rfl | ⟨rfl, hc⟩
  · go_wp2_with fail
    refine bodyPost_ret (results_tmp2 rfl _ _ _) rfl ?_
    exact ⟨rfl, X2⟩
  · have d0 : decide (col < 0) = true := decide_eq_true hc
    go_wp2_with fail
    refine bodyPost_ret (results_tmp2 rfl _ _ _) rfl ?_
    exact ⟨rfl, X2⟩
set_option maxRecDepth 100000 in
set_option maxHeartbeats 4000000 in
/-- At of a line, by what its parts answer -/
theorem At10_of (g s c n last : Nat) (line col u m F G E R a0 a1 a2 a3 b0' b1' b2' b3' : Int) (w : World)
    (HK : Hid (∀ X, Below w.heap.size w X → Calls Tryz.prog 47 #[.int .i64 u, .int .i64 u, .int .i64 m] X fun y w' => y = .returned (.int .i64 0) ∧ Below X.heap.size X w'))
    (HL : Hid (∀ X, Below w.heap.size w X → Calls Tryz.prog 29 #[.pointer (some ⟨g, 0, none⟩), .int .i64 line] X fun y w' => y = .returned (.tuple #[.int .i64 (s : Int), .int .i64 (c : Int), .int .i64 (n : Int), .int .i64 0]) ∧ Below X.heap.size X w'))
    (HA1 : Hid (∀ X, Below w.heap.size w X → Calls Tryz.prog 50 #[.func (.func 51) #[.pointer (some ⟨g, 0, none⟩)] #[], .int .i64 (s : Int)] X fun y w' => y = .returned (.agg #[.int .i64 a0, .int .i64 a1, .int .i64 a2, .int .i64 a3]) ∧ Below X.heap.size X w'))
    (HB1 : Hid (∀ X, Below w.heap.size w X → Calls Tryz.prog 49 #[.agg #[.int .i64 a0, .int .i64 a1, .int .i64 a2, .int .i64 a3], .int .i64 u] X fun y w' => y = .returned (.int .i64 F) ∧ Below X.heap.size X w'))
    (HA2 : Hid (∀ X, Below w.heap.size w X → Calls Tryz.prog 50 #[.func (.func 51) #[.pointer (some ⟨g, 0, none⟩)] #[], .int .i64 (last : Int)] X fun y w' => y = .returned (.agg #[.int .i64 b0', .int .i64 b1', .int .i64 b2', .int .i64 b3']) ∧ Below X.heap.size X w'))
    (HB2 : Hid (∀ X, Below w.heap.size w X → Calls Tryz.prog 49 #[.agg #[.int .i64 b0', .int .i64 b1', .int .i64 b2', .int .i64 b3'], .int .i64 u] X fun y w' => y = .returned (.int .i64 (F + G)) ∧ Below X.heap.size X w'))
    (HFi : Hid (col ≤ G → ∀ X, Below w.heap.size w X → Calls Tryz.prog 48 #[.pointer (some ⟨g, 0, none⟩), .int .i64 u, .int .i64 (F + col), .int .i64 m] X fun y w' => y = .returned (.tuple #[.int .i64 E, .int .i64 R]) ∧ Below X.heap.size X w'))
    (h0 : 0 ≤ col) (w1 : wrap64 ((n : Int) - 1) = (n : Int) - 1) (w2 : max (c : Int) ((n : Int) - 1) = (last : Int)) (w3 : wrap64 (F + G - F) = G) (w3' : wrap64 G = G) (w4 : col ≤ G → wrap64 (F + col) = F + col)
    (hgt : G < col → (m = 3 ∧ E = 0 ∧ R = 2) ∨ (¬ m = 3 ∧ E = (c : Int) ∧ R = 0)) :
    Calls Tryz.prog 20 #[.pointer (some ⟨g, 0, none⟩), .agg #[.int .i64 line, .int .i64 col], .int .i64 u, .int .i64 m] w fun y w' => y = .returned (.tuple #[.int .i64 E, .int .i64 R]) ∧ Below w.heap.size w w' := by
  have b0 := (Below.refl w.heap.size w).alloc (Nat.le_refl _) (.cells #[.int .i64 line, .int .i64 col] 24)
  have g0 := push_get w (.cells #[.int .i64 line, .int .i64 col] 24)
  have dc : decide (col < 0) = false := decide_eq_false (by omega)
  have HG := hide hgt
  have H4 := hide w4
  clear hgt w4 h0
  go_enter Tryz.func20, Tryz.ntmps20
  go_upto_region 1 with fail
  generalize w.alloc (.cells #[.int .i64 line, .int .i64 col] 24) = w0 at *
  go_wp2_with fail
  refine (unhide HK w0 b0).mono ?_
  rintro y v1 ⟨rfl, x1⟩
  dsimp only
  have X1 := b0.trans (x1.mono b0.size)
  have g1 := bk9_on g0 x1
  clear x1 b0 g0
  obtain ⟨c0, c1⟩ := cells2S g1
  go_wp2_with fail
  refine (unhide HL v1 X1).mono ?_
  rintro y v2 ⟨rfl, x2⟩
  dsimp only
  have X2 := X1.trans (x2.mono X1.size)
  have g2 := bk9_on g1 x2
  clear x2 X1 g1 c0 c1 HK HL
  obtain ⟨c0, c1⟩ := cells2S g2
  go_wp2_with fail
  refine (unhide HA1 v2 X2).mono ?_
  rintro y v3 ⟨rfl, x3⟩
  dsimp only
  have X3 := X2.trans (x3.mono X2.size)
  have g3 := bk9_on g2 x3
  clear x3 X2 g2 c0 c1 HA1
  go_wp2_with fail
  refine (unhide HB1 v3 X3).mono ?_
  rintro y v4 ⟨rfl, x4⟩
  dsimp only
  have X4 := X3.trans (x4.mono X3.size)
  have g4 := bk9_on g3 x4
  clear x4 X3 g3 HB1
  go_wp2_with fail
  refine (unhide HA2 v4 X4).mono ?_
  rintro y v5 ⟨rfl, x5⟩
  dsimp only
  have X5 := X4.trans (x5.mono X4.size)
  have g5 := bk9_on g4 x5
  clear x5 X4 g4 HA2
  go_wp2_with fail
  refine (unhide HB2 v5 X5).mono ?_
  rintro y v6 ⟨rfl, x6⟩
  dsimp only
  have X6 := X5.trans (x6.mono X5.size)
  have g6 := bk9_on g5 x6
  clear x6 X5 g5 HB2
  obtain ⟨c0, c1⟩ := cells2S g6
  by_cases hle : col ≤ G
  · have d1 : decide (col ≤ G) = true := decide_eq_true hle
    have w4 := unhide H4 hle
    have HF := hide (unhide HFi hle)
    clear HFi HG H4
    go_wp2_with fail
    refine (unhide HF v6 X6).mono ?_
    rintro y v7 ⟨rfl, x7⟩
    dsimp only
    have X7 := X6.trans (x7.mono X6.size)
    clear x7 X6
    go_wp2_with fail
    refine bodyPost_ret (results_tmp2 rfl _ _ _) rfl ?_
    exact ⟨rfl, X7⟩
  · have d1 : decide (col ≤ G) = false := decide_eq_false hle
    have hg := unhide HG (by omega)
    clear HFi HG H4
    rcases hg with ⟨rfl, rfl, rfl⟩ | ⟨hm, rfl, rfl⟩
    · go_wp2_with fail
      refine bodyPost_ret (results_tmp2 rfl _ _ _) rfl ?_
      exact ⟨rfl, X6⟩
    · have e1 : (m == 3) = false := by simpa using hm
      go_wp2_with fail
      refine bodyPost_ret (results_tmp2 rfl _ _ _) rfl ?_
      exact ⟨rfl, X6⟩
/-- seek.At answers as lines.At does of the rope's bytes -/
theorem AtA10_at (g : Nat) (o : Option Nd) (line col u m : Int) (w : World) (h : IsRo w g o) (hm : (txtO o).length ≤ 268435456) (hW : Wt w) :
    Calls Tryz.prog 20 #[.pointer (some ⟨g, 0, none⟩), .agg #[.int .i64 line, .int .i64 col], .int .i64 u, .int .i64 m] w fun y w' => y = .returned (.tuple #[.int .i64 (atP (txtO o) line col u m : Int), .int .i64 (atR (txtO o) line col u m)]) ∧ Below w.heap.size w w' := by
  have hb := bytes_of h
  cases hk : (isRu u && isRu m) with
  | false =>
    have e1 : atP (txtO o) line col u m = 0 := by unfold atP; rw [hk]; rfl
    have e2 : atR (txtO o) line col u m = 3 := by unfold atR; rw [hk]; rfl
    rw [e1, e2]
    exact AtK10_at g line col u m w hW (by rw [hk, Bool.and_false])
  | true =>
    have hk' := hk
    rw [Bool.and_eq_true] at hk'
    obtain ⟨hu, hmo⟩ := hk'
    have hkn := fun (X : World) (hx : Below w.heap.size w X) => known10_at u u m X (hW.below hx).1
    have ek : kn3 u u m = 0 := by unfold kn3; rw [hu, hmo]; rfl
    rw [ek] at hkn
    have hLi := fun (X : World) (hx : Below w.heap.size w X) => Line10_at g o line X (h.on hx) hm (hW.below hx)
    by_cases hn : nbr (txtO o) line = none
    · have e1 : atP (txtO o) line col u m = 0 := by unfold atP; rw [hk, hn]; rfl
      have e2 : atR (txtO o) line col u m = 2 := by unfold atR; rw [hk, hn]; rfl
      rw [e1, e2]
      rw [hn] at hLi
      exact AtN10_of g line col u m _ _ _ 2 w (hide hkn) (hide hLi) (.inl rfl)
    · have hln : 0 ≤ line ∧ line < ((LN (txtO o)).length : Int) := by
        apply Classical.byContradiction
        intro hh
        exact hn (by unfold nbr; rw [if_neg hh])
      obtain ⟨i, rfl⟩ : ∃ i : Nat, line = (i : Int) := ⟨line.toNat, by omega⟩
      have hi : i < (LN (txtO o)).length := by omega
      have hn' : nbr (txtO o) (i : Int) = some ((LN (txtO o)).getD i z4) := by unfold nbr; rw [if_pos hln, Int.toNat_natCast]
      rw [hn'] at hLi
      by_cases hc : col < 0
      · have e1 : atP (txtO o) (i : Int) col u m = 0 := by unfold atP; rw [hk, hn']; simp only [if_true, eq_true hc]
        have e2 : atR (txtO o) (i : Int) col u m = 2 := by unfold atR; rw [hk, hn']; simp only [if_true, eq_true hc]
        rw [e1, e2]
        exact AtN10_of g (i : Int) col u m _ _ _ 0 w (hide hkn) (hide hLi) (.inr ⟨rfl, hc⟩)
      · obtain ⟨_, _, k3⟩ := LN_at (txtO o) hi
        obtain ⟨l1, l2, l3, _, _⟩ := lst_edge hi
        have hsz := sz_cut hb hu k3.es l1 l2 l3
        have hbt : ∀ n, ∀ x ∈ (txtO o).take n, 0 ≤ x ∧ x ≤ 255 := fun n x hx => hb x (List.mem_of_mem_take hx)
        have z1 := szE_leS (hbt (lst ((LN (txtO o)).getD i z4))) u
        rw [List.length_take] at z1
        have hB : ∀ l : List Int, (∀ x ∈ l, 0 ≤ x ∧ x ≤ 255) → ∀ X, Below w.heap.size w X → Calls Tryz.prog 49 #[.agg #[.int .i64 (szL l).b, .int .i64 (szL l).r, .int .i64 (szL l).u, .int .i64 (szL l).e], .int .i64 u] X fun y w' => y = .returned (.int .i64 (szE u l : Int)) ∧ Below X.heap.size X w' := fun l hl X _ => by
          have := by10_at (szL l) u X
          rw [byZ_is hl hu] at this
          exact this
        have hAh := fun (n : Nat) (hnl : n ≤ (txtO o).length) (X : World) (hx : Below w.heap.size w X) => ahead10_at g o n X (h.on hx) hnl hm (hW.below hx)
        have hB2 := hB _ (hbt (lst ((LN (txtO o)).getD i z4)))
        have hcl : ((txtO o).take (lst ((LN (txtO o)).getD i z4))).drop ((LN (txtO o)).getD i z4).2.1 = cutL (txtO o) ((LN (txtO o)).getD i z4).2.1 (lst ((LN (txtO o)).getD i z4)) := rfl
        rw [hsz, hcl] at hB2
        rw [hsz, hcl] at z1
        push_cast at hB2
        refine At10_of g ((LN (txtO o)).getD i z4).2.1 ((LN (txtO o)).getD i z4).2.2.1 ((LN (txtO o)).getD i z4).2.2.2 (lst ((LN (txtO o)).getD i z4)) (i : Int) col u m (szE u ((txtO o).take ((LN (txtO o)).getD i z4).2.1) : Int) (szE u (cutL (txtO o) ((LN (txtO o)).getD i z4).2.1 (lst ((LN (txtO o)).getD i z4))) : Int) _ _ _ _ _ _ _ _ _ _ w
          (hide hkn) (hide hLi) (hide (hAh _ (by omega))) (hide (hB _ (hbt _))) (hide (hAh _ l3)) (hide hB2) (hide fun hle X hx => ?_) (by omega)
          (wrap_in _ (by omega) (by have := k3.nl; omega)) (by unfold lst; omega) (by rw [show (szE u ((txtO o).take ((LN (txtO o)).getD i z4).2.1) : Int) + (szE u (cutL (txtO o) ((LN (txtO o)).getD i z4).2.1 (lst ((LN (txtO o)).getD i z4))) : Int) - (szE u ((txtO o).take ((LN (txtO o)).getD i z4).2.1) : Int) = (szE u (cutL (txtO o) ((LN (txtO o)).getD i z4).2.1 (lst ((LN (txtO o)).getD i z4))) : Int) by omega]; exact wrap_in _ (by omega) (by omega)) (wrap_in _ (by omega) (by omega)) (fun hle => wrap_in _ (by omega) (by omega)) (fun hgt => ?_)
        · obtain ⟨a1, a2⟩ := at_le (m := m) hb hu hmo hi (by omega) hle
          have := find10_at g o u ((szE u ((txtO o).take ((LN (txtO o)).getD i z4).2.1) : Int) + col) m X (h.on hx) hm (hW.below hx) hu hmo (setP10 g o u _ X (h.on hx) hm (hW.below hx) hu)
          rw [← a1, ← a2] at this
          exact this
        · obtain ⟨a1, a2⟩ := at_gt (m := m) hb hu hmo hi (by omega) hgt
          rw [a1, a2]
          by_cases h3 : m = 3
          · left; exact ⟨h3, by rw [if_pos h3]; rfl, by rw [if_pos h3]⟩
          · right; exact ⟨h3, by rw [if_neg h3], by rw [if_neg h3]⟩

end Go.Proofs.YtophdhpkinedgaaGreatDoor
end

section
namespace Go.Proofs.YtophdhpkinedgaaGreatDoor
open Go.ChangeShapes Go.WideShapes Go.ChangeAt Go.RowKit

theorem one_intK {H : Type} {enc : TypeId × Value → H} {P : Program} {W : World} {spare : Nat → Bool} {m : Nat} {t : TypeId} (ht : P.underlying t = some (.int .i64)) {xs : List (DataW H × List MemPlace)} {L : List Value} {i k : Nat} (hi : i < xs.length)
    (h : DataW.trod enc P W 0 spare true m t ((L.drop k).take 1) = xs[i]?) : ∃ n : Int, L[k]? = some (.int .i64 n) ∧ (Lit.int .i64 n).wf = true := by
  rw [List.getElem?_eq_getElem hi] at h
  obtain ⟨n, hn, _, hw⟩ := DataW.trod_int ht h
  refine ⟨n, ?_, hw⟩
  have := congrArg (·[0]?) hn
  simpa [List.getElem?_take, List.getElem?_drop] using this
def AskW (a b c d e f : Int) : Prop := (Lit.int .i64 a).wf = true ∧ (Lit.int .i64 b).wf = true ∧ (Lit.int .i64 c).wf = true ∧ (Lit.int .i64 d).wf = true ∧ (Lit.int .i64 e).wf = true ∧ (Lit.int .i64 f).wf = true
set_option maxRecDepth 100000 in
theorem ask10_of_trod {H : Type} {enc : TypeId × Value → H} {W : World} {v : Value} {d0 : DataW H} {p0 : List MemPlace} {base : Nat} (hv : Value.okWide Tryz.prog W .any base 28 v)
    (h0 : DataW.Trod enc Tryz.prog W 0 (fun _ => true) true 28 v d0 p0) : ∃ a b c d e f : Int, v = .agg #[.int .i64 a, .int .i64 b, .int .i64 c, .int .i64 d, .int .i64 e, .int .i64 f] ∧ AskW a b c d e f := by
  obtain ⟨cs, rfl, hs⟩ := okWide_struct Tryz.underlying28 hv
  obtain ⟨fuel, hf⟩ := h0
  obtain ⟨xs, n, _, _, _, hx, hall⟩ := DataW.trod_struct Tryz.underlying28 hf
  have hs' : cs.size = 6 := hs.trans (by kernel_rfl)
  have hx' : xs.length = 5 := hx
  have hl : cs.toList.length = 6 := by simpa using hs'
  have hc : Tryz.prog.cellsOf 3 = 1 := by kernel_rfl
  have hc2 : Tryz.prog.cellsOf 24 = 2 := by kernel_rfl
  have hc3 : Tryz.prog.cellsOf 25 = 1 := by kernel_rfl
  have hc4 : Tryz.prog.cellsOf 26 = 1 := by kernel_rfl
  have g0 : DataW.trod enc Tryz.prog W 0 (fun _ => true) true n 3 ((cs.toList.drop 0).take (Tryz.prog.cellsOf 3)) = xs[0]? := hall 0 _ rfl
  have g1 : DataW.trod enc Tryz.prog W 0 (fun _ => true) true n 24 ((cs.toList.drop 1).take (Tryz.prog.cellsOf 24)) = xs[1]? := hall 1 _ rfl
  have g2 : DataW.trod enc Tryz.prog W 0 (fun _ => true) true n 25 ((cs.toList.drop 3).take (Tryz.prog.cellsOf 25)) = xs[2]? := hall 2 _ rfl
  have g3 : DataW.trod enc Tryz.prog W 0 (fun _ => true) true n 25 ((cs.toList.drop 4).take (Tryz.prog.cellsOf 25)) = xs[3]? := hall 3 _ rfl
  have g4 : DataW.trod enc Tryz.prog W 0 (fun _ => true) true n 26 ((cs.toList.drop 5).take (Tryz.prog.cellsOf 26)) = xs[4]? := hall 4 _ rfl
  rw [hc2, List.getElem?_eq_getElem (show 1 < xs.length by omega)] at g1
  rw [hc] at g0
  rw [hc3] at g2 g3
  rw [hc4] at g4
  obtain ⟨ys, k, _, _, _, hy, hall2⟩ := DataW.trod_struct Tryz.underlying24 g1
  have hy' : ys.length = 2 := hy
  have j0 : DataW.trod enc Tryz.prog W 0 (fun _ => true) true k 3 ((((cs.toList.drop 1).take 2).drop 0).take (Tryz.prog.cellsOf 3)) = ys[0]? := hall2 0 _ rfl
  have j1 : DataW.trod enc Tryz.prog W 0 (fun _ => true) true k 3 ((((cs.toList.drop 1).take 2).drop 1).take (Tryz.prog.cellsOf 3)) = ys[1]? := hall2 1 _ rfl
  rw [hc] at j0 j1
  obtain ⟨a, e0, w0⟩ := one_intK Tryz.underlying3 (by omega) g0
  obtain ⟨b, e1, w1⟩ := one_intK Tryz.underlying3 (by omega) j0
  obtain ⟨c, e2, w2⟩ := one_intK Tryz.underlying3 (by omega) j1
  obtain ⟨d, e3, w3⟩ := one_intK Tryz.underlying25 (by omega) g2
  obtain ⟨e, e4, w4⟩ := one_intK Tryz.underlying25 (by omega) g3
  obtain ⟨f, e5, w5⟩ := one_intK Tryz.underlying26 (by omega) g4
  refine ⟨a, b, c, d, e, f, ?_, w0, w1, w2, w3, w4, w5⟩
  congr 1
  apply Array.ext'
  apply List.ext_getElem?
  intro i
  match i with
  | 0 => exact e0
  | 1 => rw [show cs.toList[1]? = ((cs.toList.drop 1).take 2)[0]? by simp]; exact e1
  | 2 => rw [show cs.toList[2]? = ((cs.toList.drop 1).take 2)[1]? by simp]; exact e2
  | 3 => exact e3
  | 4 => exact e4
  | 5 => exact e5
  | i + 6 => rw [List.getElem?_eq_none (by omega)]; rfl
end Go.Proofs.YtophdhpkinedgaaGreatDoor
end
