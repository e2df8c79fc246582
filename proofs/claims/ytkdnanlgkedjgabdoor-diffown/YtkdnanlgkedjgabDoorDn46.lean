/- Layer 19, plain: what the calls of wakes answer. · Layer 19: the law's own, long and wakes. · The document's answer for layer 2: how many bytes the encoding has that begins at a place (galleyref02.at, in, Long). · Plain: the document's table over four bytes tells how long the encoding is that begins there. · The document's answer for layer 2: Inside, Of, Edge, At, Before, Floor, Ceil. · The document's answer for layer 2: Of, At, Before, Floor, Ceil. · Layer 19: the document's answer: Edges, Steps. · Layer 19: DiffMetric: the walk. -/
import Derived.Test.YtkdnanlgkedjgabDoorDn45
import Derived.Test.YtkdnanlgkedjgabDoorDn41
import Derived.Test.YtkdnanlgkedjgabDoorDn08

section
namespace Go.Proofs.YtkdnanlgkedjgabDoor

section
variable {α : Type} [DecidableEq α]
/-- lcs, mids by a bound -/
def lcsF : Nat → List α → List α → Nat
  | 0, _, _ => 0
  | _ + 1, [], _ => 0
  | _ + 1, _ :: _, [] => 0
  | n + 1, a :: x, b :: y => if a = b then lcsF n x y + 1 else max (lcsF n x (b :: y)) (lcsF n (a :: x) y)
theorem lcsF_is : ∀ (n : Nat) (x y : List α), x.length + y.length < n → lcsF n x y = lcs x y
  | 0, _, _, h => by omega
  | n + 1, [], y, _ => by simp [lcsF, lcs]
  | n + 1, a :: x, [], _ => by simp [lcsF, lcs]
  | n + 1, a :: x, b :: y, h => by
    simp only [List.length_cons] at h
    unfold lcsF
    by_cases e : a = b
    · subst e; rw [if_pos rfl, lcs_same, lcsF_is n x y (by omega)]
    · rw [if_neg e, lcs_ne e, lcsF_is n x (b :: y) (by simp; omega), lcsF_is n (a :: x) y (by simp; omega)]
def midsF : Nat → List α → List α → Nat → Nat → List (Nat × Nat)
  | 0, _, _, _, _ => []
  | _ + 1, [], _, _, _ => []
  | _ + 1, _ :: _, [], _, _ => []
  | n + 1, a :: x, b :: y, i, j => if a = b then (i, j) :: midsF n x y (i + 1) (j + 1) else if lcsF (n + 1) (a :: x) y ≤ lcsF (n + 1) x (b :: y) then midsF n x (b :: y) (i + 1) j else midsF n (a :: x) y i (j + 1)
theorem midsF_is : ∀ (n : Nat) (x y : List α) (i j : Nat), x.length + y.length < n → midsF n x y i j = mids x y i j
  | 0, _, _, _, _, h => by omega
  | n + 1, [], y, _, _, _ => by simp [midsF, mids]
  | n + 1, a :: x, [], _, _, _ => by simp [midsF, mids]
  | n + 1, a :: x, b :: y, i, j, h => by
    simp only [List.length_cons] at h
    unfold midsF
    by_cases e : a = b
    · subst e; rw [if_pos rfl, mids_same, midsF_is n x y _ _ (by omega)]
    · rw [if_neg e, lcsF_is (n + 1) (a :: x) y (by simp; omega), lcsF_is (n + 1) x (b :: y) (by simp; omega)]
      by_cases g : lcs (a :: x) y ≤ lcs x (b :: y)
      · rw [if_pos g, mids_up e g, midsF_is n x (b :: y) _ _ (by simp; omega)]
      · rw [if_neg g, mids_on e g, midsF_is n (a :: x) y _ _ (by simp; omega)]
def runsF (x y : List α) : List (Nat × Nat × Nat) :=
  let h := sameH x y
  let t := sameH (x.drop h).reverse (y.drop h).reverse
  let x' := (x.drop h).take ((x.drop h).length - t)
  let y' := (y.drop h).take ((y.drop h).length - t)
  [(0, 0, h)] ++ (midsF (x'.length + y'.length + 1) x' y' h h).map (fun p => (p.1, p.2, 1)) ++ [(h + x'.length, h + y'.length, t)]
theorem runsF_is (x y : List α) : runsF x y = runsL x y := by
  unfold runsF runsL
  simp only []
  rw [midsF_is _ _ _ _ _ (Nat.lt_succ_self _)]
end
def kitT : List Int := [107, 105, 116, 116, 101, 110]
def sitT : List Int := [115, 105, 116, 116, 105, 110, 103]
def abcT : List Int := [97, 98, 99]
def abxT : List Int := [97, 98, 120, 99]
def abnT : List Int := [97, 10, 98, 10, 99]
def acnT : List Int := [97, 10, 99]
def d4T : List Dop := [⟨1, 1, []⟩, ⟨2, 0, [195, 169]⟩, ⟨3, 1, []⟩, ⟨1, 1, []⟩]
theorem wk_kit : cutS kitT = [0, 1, 2, 3, 4, 5, 6] := by decide
theorem wk_sit : cutS sitT = [0, 1, 2, 3, 4, 5, 6, 7] := by decide
theorem wk_abc : cutS abcT = [0, 1, 2, 3] := by decide
theorem wk_abx : cutS abxT = [0, 1, 2, 3, 4] := by decide
theorem wk_abn : cutN abnT = [0, 2, 4, 5] := by decide
theorem wk_acn : cutN acnT = [0, 2, 3] := by decide
theorem wk_1 : aloN cutS kitT sitT = 5 := by
  unfold aloN
  rw [wk_kit, wk_sit, ← lcsF_is 14 _ _ (by decide)]
  decide
theorem wk_2 : leastD abcT abxT (cutS abcT) (cutS abxT) = [⟨1, 2, []⟩, ⟨2, 0, [120]⟩, ⟨1, 1, []⟩] := by
  unfold leastD
  rw [wk_abc, wk_abx, ← runsF_is]
  decide
theorem wk_3 : leastD abnT acnT (cutN abnT) (cutN acnT) = [⟨1, 2, []⟩, ⟨3, 2, []⟩, ⟨1, 1, []⟩] := by
  unfold leastD
  rw [wk_abn, wk_acn, ← runsF_is]
  decide
theorem wk_4 : costN abcT d4T = (2, 0) := by decide
end Go.Proofs.YtkdnanlgkedjgabDoor
end

section
namespace Go.Proofs.YtkdnanlgkedjgabDoor
open Go.ChangeShapes Go.WideShapes Go.ChangeAt Go.RowKit
attribute [local go_sem] Oper.semAt_some

set_option maxRecDepth 100000 in
set_option maxHeartbeats 2000000 in
theorem RSameD_at (a : Option Addr) (c : Nat) (d : List Dop) (a' : Option Addr) (c' : Nat) (e : List Dop) (w : World) (h : IsO w a d) (h' : IsO w a' e) (hl : d.length ≤ 4611686018427387904) (_hl' : e.length ≤ 4611686018427387904) (hb : ∀ o ∈ d, TbD o) (hb' : ∀ o ∈ e, TbD o) :
    Calls Tryd.prog 14 #[.slice a d.length c, .slice a' e.length c'] w fun y w' => y = .returned (.bool (decide (d = e))) ∧ Below w.heap.size w w' := by
  have HO := hide fun (X : World) (hx : Below w.heap.size w X) => h.below hx (Nat.le_refl _)
  have HO' := hide fun (X : World) (hx : Below w.heap.size w X) => h'.below hx (Nat.le_refl _)
  by_cases hlen : d.length = e.length
  case neg =>
    have HV : Hid (decide (d = e) = false) := hide (decide_eq_false fun he => hlen (by rw [he]))
    have t1 : ((d.length : Int) != (e.length : Int)) = true := by simp; omega
    have t2 : ¬ d.length = e.length := hlen
    have t3 : (d.length == e.length) = false := by simpa using hlen
    clear h h' hb hb' hlen HO HO'
    rw [unhide HV]
    go_enter Tryd.func14, Tryd.ntmps14
    go_wp2_with fail
    refine bodyPost_ret (results_tmp rfl _ _ _) rfl ⟨rfl, Below.refl _ _⟩
  obtain ⟨V, hV⟩ : ∃ V, V = decide (d = e) := ⟨_, rfl⟩
  rw [← hV]
  have HV := hide hV
  have HL := hide hlen
  have HBB := hide (And.intro hb hb')
  obtain ⟨N, hN⟩ : ∃ N, N = d.length := ⟨_, rfl⟩
  have hN' : N = e.length := by rw [hN, hlen]
  have HN := hide (And.intro hN hN')
  rw [← hN, ← hN']
  have hNl : N ≤ 4611686018427387904 := by omega
  clear h h' hb hb' hlen hV hN hN' hl
  go_enter Tryd.func14, Tryd.ntmps14
  go_wp2_with fail
  go_loopw [5] (fun v5 wx => (∃ k : Nat, v5 = .int .i64 (k : Int) ∧ k ≤ N ∧ Hid (d.take k = e.take k)) ∧ Hid (Below w.heap.size w wx)) (fun v5 _ => N - (intOf v5).toNat)
  case atStart => exact ⟨⟨0, rfl, Nat.zero_le _, hide rfl⟩, hide (Below.refl _ _)⟩
  case round =>
    obtain ⟨⟨k, rfl, hk, HK⟩, HB⟩ := hrel
    by_cases hlt : k < N
    · have t1 : decide ((k : Int) < (N : Int)) = true := decide_eq_true (by omega)
      have hd1 : k < d.length := by rw [← (unhide HN).1]; exact hlt
      have he1 : k < e.length := by rw [← (unhide HN).2]; exact hlt
      obtain ⟨g, off, rfl, hg, c0, c1, c2⟩ := (unhide HO wr (unhide HB)).three hd1
      obtain ⟨g', off', rfl, hg', e0, e1, e2⟩ := (unhide HO' wr (unhide HB)).three he1
      have HQ := hide (op_neq ((unhide HBB).1 _ (getD_memE hd1)) ((unhide HBB).2 _ (getD_memE he1)))
      have HTK := hide (take_eqD hd1 he1 (unhide HK))
      have HNE : Hid (d.getD k opZ ≠ e.getD k opZ → d ≠ e) := hide fun h1 h2 => h1 (by rw [h2])
      generalize d.getD k opZ = x at *
      generalize e.getD k opZ = y at *
      obtain ⟨xk, xn, xt⟩ := x
      obtain ⟨yk, yn, yt⟩ := y
      dsimp only at c0 c1 c2 e0 e1 e2 HQ
      generalize hst : strOfNums xt = st at *
      generalize hsu : strOfNums yt = su at *
      have HST := hide hst
      have HSU := hide hsu
      clear hst hsu
      clear hd1 he1 hg hg' HK
      have HB1 := hide (unhide HB).drew
      clear HB
      rcases unhide HQ with hxy | ⟨hxy, hq⟩
      · have HK2 := hide (unhide HTK hxy)
        cases hxy
        have hst : st = su := by rw [← unhide HST, ← unhide HSU]
        subst hst
        clear HTK HNE HQ HST HSU
        go_upto_region 6 with fail
        go_region
        go_wp2_with fail
        go_roundw
        case rel => exact ⟨⟨k + 1, by go_num, hlt, HK2⟩, HB1⟩
        case measure => simp [intOf]; omega
      · have HV2 : Hid (V = false) := hide (by rw [unhide HV]; exact decide_eq_false (unhide HNE hxy))
        clear HTK HNE HQ hxy HST HSU
        rcases hq with hq | ⟨rfl, hq⟩ | ⟨rfl, rfl, hq⟩
        all_goals
          go_upto_region 6 with fail
          go_region
          go_wp2_with fail
          rw [unhide HV2]
          refine bodyPost_ret (results_tmp rfl _ _ _) rfl ⟨rfl, unhide HB1⟩
    · obtain rfl : k = N := by omega
      have t1 : decide ((k : Int) < (k : Int)) = false := decide_eq_false (by omega)
      have HV2 : Hid (V = true) := hide (by
        rw [unhide HV]
        refine decide_eq_true ?_
        have := unhide HK
        rw [(unhide HN).1, List.take_length, ← (unhide HN).1, (unhide HN).2, List.take_length] at this
        exact this)
      clear HK hk
      go_wp2_with fail
      rw [unhide HV2]
      refine bodyPost_ret (results_tmp rfl _ _ _) rfl ⟨rfl, unhide HB⟩
theorem lit_isOD (X : World) (ds : List Dop) (cs : Array Value) (h : cs.toList = opsV ds) : IsO (X.alloc (.cells cs 41)) (some ⟨X.heap.size, 0, none⟩) ds := by
  refine Or.inr ⟨_, _, rfl, by simp, fun k hk => ?_⟩
  have f : ∀ j, (X.alloc (.cells cs 41)).cell? ⟨X.heap.size, j, none⟩ = cs[j]? := fun j => World.cell?_alloc_mark X _ _ (0, 0) j
  have g : ∀ j, j < 3 → cs[k * 3 + j]? = (opL (ds.getD k opZ))[j]? := fun j hj => by
    rw [← opsV_get ds k j hk hj, ← h, Array.getElem?_toList]
  refine ⟨?_, ?_, ?_⟩
  · rw [Nat.zero_add, f]; exact g 0 (by decide)
  · rw [Nat.zero_add, f]; exact g 1 (by decide)
  · rw [Nat.zero_add, f]; exact g 2 (by decide)
set_option maxRecDepth 100000 in
theorem own19_at (a0 : Option Addr) (cap : Nat) (l : List Int) (w : World) (hB : IsB w a0 cap l) :
    Calls Tryd.prog 7 #[.slice a0 l.length cap] w fun e w' => ∃ a' c', e = .returned (.slice a' l.length c') ∧ IsB w' a' c' l ∧ Below w.heap.size w w' := by
  obtain ⟨a1, c1, w1, r1, x1, y1, z1⟩ := run_copy w a0 cap l 22 hB
  have R1 := hide r1
  clear r1
  go_enter Tryd.func7, Tryd.ntmps7
  go_wp2_with (at_builtin; refine wpList_append_known rfl _ _ 22 22 rfl _ _ rfl rfl _ _ (unhide R1) ?_)
  go_ret
  exact ⟨a1, c1, rfl, ⟨x1, hB.2.1, y1, hB.2.2.2⟩, z1⟩
theorem long19_at (a : Option Addr) (n c : Nat) (a' : Option Addr) (n' c' : Nat) (w : World) : Calls Tryd.prog 8 #[.slice a n c, .slice a' n' c'] w fun e w' => e = .returned (.bool (decide (700 < n ∨ 700 < n'))) ∧ w' = w := by
  by_cases h : 700 < n
  · have t1 : decide ((n : Int) > 700) = true := decide_eq_true (by omega)
    rw [decide_eq_true (Or.inl h)]
    go_enter Tryd.func8, Tryd.ntmps8
    go_wp2_with fail
    go_ret
    exact ⟨rfl, rfl⟩
  · have t1 : decide ((n : Int) > 700) = false := decide_eq_false (by omega)
    by_cases h' : 700 < n'
    · have t2 : decide ((n' : Int) > 700) = true := decide_eq_true (by omega)
      rw [decide_eq_true (Or.inr h')]
      go_enter Tryd.func8, Tryd.ntmps8
      go_wp2_with fail
      go_ret
      exact ⟨rfl, rfl⟩
    · have t2 : decide ((n' : Int) > 700) = false := decide_eq_false (by omega)
      rw [decide_eq_false (by omega : ¬ (700 < n ∨ 700 < n'))]
      go_enter Tryd.func8, Tryd.ntmps8
      go_wp2_with fail
      go_ret
      exact ⟨rfl, rfl⟩
/-- bytes written out -/
theorem lit_isBD (X : World) (l : List Int) (m : Nat × Nat) (hb : ∀ x ∈ l, 0 ≤ x ∧ x ≤ 255) (hl : l.length ≤ 140737488351232) : IsB (X.alloc (.cells (l.map (Value.int .u8)).toArray 5 m)) (some ⟨X.heap.size, 0, none⟩) l.length l := by
  refine IsB.of (fun i hi => ⟨?_, ?_⟩) (Nat.le_refl _) hl
  · rw [Nat.zero_add]
    refine (World.cell?_alloc_mark X _ 5 m i).trans ?_
    simp [List.getD, List.getElem?_eq_getElem hi]
  · have := hb _ (List.getElem_mem hi)
    simpa [List.getD, List.getElem?_eq_getElem hi] using this
theorem conv_litD (w : World) (C : Array Value) (n : Nat) : (convert 22 22 (.slice (some ⟨w.heap.size, 0, none⟩) n n)).run Tryd.prog (w.alloc (.cells C 5)) = .ok (.slice (some ⟨w.heap.size, 0, none⟩) n n) (w.alloc (.cells C 5 (C.size, C.size + 1))) :=
  Lib.run_convert_bytes_const w 22 5 C n n Tryd.underlying22 Tryd.underlying5
set_option maxRecDepth 100000 in
set_option maxHeartbeats 8000000 in
theorem wakes19_at (w : World) (hT : Tab w) : Calls Tryd.prog 5 #[] w fun e w' => e = .returned (.bool true) ∧ Below w.heap.size w w' := by
  have HT := hide hT
  have b1 := (Below.refl w.heap.size w).alloc (Nat.le_refl _) (.cells (kitT.map (Value.int .u8)).toArray 5 (6, 7))
  have b2 := b1.alloc b1.size (.cells (sitT.map (Value.int .u8)).toArray 5 (7, 8))
  have i1 := (lit_isBD w kitT (6, 7) (by decide) (by decide)).below ((Below.refl _ _).alloc (Nat.le_refl _) (.cells (sitT.map (Value.int .u8)).toArray 5 (7, 8))) (Nat.le_refl _)
  have i2 := lit_isBD (w.alloc (.cells (kitT.map (Value.int .u8)).toArray 5 (6, 7))) sitT (7, 8) (by decide) (by decide)
  have HD := hide (Distance_at _ _ kitT _ _ sitT _ i1 i2 (hT.below b2 hT.size))
  have HB2 := hide b2
  rw [World.size_alloc] at HD
  clear b1 b2 i1 i2 hT
  have cv1 := conv_litD w #[.int .u8 107, .int .u8 105, .int .u8 116, .int .u8 116, .int .u8 101, .int .u8 110] 6
  have cv2 := conv_litD (w.alloc (.cells #[.int .u8 107, .int .u8 105, .int .u8 116, .int .u8 116, .int .u8 101, .int .u8 110] 5 (6, 7))) #[.int .u8 115, .int .u8 105, .int .u8 116, .int .u8 116, .int .u8 105, .int .u8 110, .int .u8 103] 7
  rw [World.size_alloc] at cv2
  simp only [List.size_toArray, List.length_cons, List.length_nil, Nat.reduceAdd] at cv1 cv2
  go_enter Tryd.func5, Tryd.ntmps5
  go_wp2_with fail
  refine (unhide HD).mono ?_
  rintro y w1 ⟨hb1, ⟨hno, _⟩ | ⟨_, _, rfl⟩⟩
  · exact absurd ⟨by rw [wk_kit]; decide, by rw [wk_sit]; decide⟩ hno
  rw [wk_1]
  dsimp only
  have HB3 := hide ((unhide HB2).trans (hb1.mono (unhide HB2).size))
  clear HD HB2 hb1
  have b4 := (unhide HB3).alloc (unhide HB3).size (.cells (abcT.map (Value.int .u8)).toArray 5 (3, 4))
  have b5 := b4.alloc b4.size (.cells (abxT.map (Value.int .u8)).toArray 5 (4, 5))
  have i3 := (lit_isBD w1 abcT (3, 4) (by decide) (by decide)).below ((Below.refl _ _).alloc (Nat.le_refl _) (.cells (abxT.map (Value.int .u8)).toArray 5 (4, 5))) (Nat.le_refl _)
  have i4 := lit_isBD (w1.alloc (.cells (abcT.map (Value.int .u8)).toArray 5 (3, 4))) abxT (4, 5) (by decide) (by decide)
  have HL := hide (Least_at _ _ abcT _ _ abxT _ i3 i4 ((unhide HT).below b5 (unhide HT).size) (by decide) (by decide))
  have HB5 := hide b5
  rw [World.size_alloc] at HL
  clear b4 b5 i3 i4 HB3 cv1 cv2
  have cv1 := conv_litD w1 #[.int .u8 97, .int .u8 98, .int .u8 99] 3
  have cv2 := conv_litD (w1.alloc (.cells #[.int .u8 97, .int .u8 98, .int .u8 99] 5 (3, 4))) #[.int .u8 97, .int .u8 98, .int .u8 120, .int .u8 99] 4
  rw [World.size_alloc] at cv2
  simp only [List.size_toArray, List.length_cons, List.length_nil, Nat.reduceAdd] at cv1 cv2
  go_wp2_with fail
  refine (unhide HL).mono ?_
  rintro y w2 ⟨hb2, ⟨hno, _⟩ | ⟨_, _, v3, rfl, ho3⟩⟩
  · exact absurd ⟨by rw [wk_abc]; decide, by rw [wk_abx]; decide⟩ hno
  rw [wk_2] at ho3
  obtain ⟨a3, c3, rfl, hi3, _⟩ := own_isOE ho3
  dsimp only
  have HB6 := hide ((unhide HB5).trans (hb2.mono (unhide HB5).size))
  have HO3 := hide hi3
  clear HL HB5 hb2 ho3 hi3
  have b7 := (unhide HB6).alloc (unhide HB6).size (.cells (abnT.map (Value.int .u8)).toArray 5 (5, 6))
  have b8 := b7.alloc b7.size (.cells (acnT.map (Value.int .u8)).toArray 5 (3, 4))
  have e7 := (Below.refl w2.heap.size w2).alloc (Nat.le_refl _) (.cells (abnT.map (Value.int .u8)).toArray 5 (5, 6))
  have e8 := e7.alloc e7.size (.cells (acnT.map (Value.int .u8)).toArray 5 (3, 4))
  have i5 := (lit_isBD w2 abnT (5, 6) (by decide) (by decide)).below ((Below.refl _ _).alloc (Nat.le_refl _) (.cells (acnT.map (Value.int .u8)).toArray 5 (3, 4))) (Nat.le_refl _)
  have i6 := lit_isBD (w2.alloc (.cells (abnT.map (Value.int .u8)).toArray 5 (5, 6))) acnT (3, 4) (by decide) (by decide)
  have HL := hide (LinesD_at _ _ abnT _ _ acnT _ i5 i6 (by decide) (by decide))
  have HB8 := hide b8
  have HE8 := hide e8
  rw [World.size_alloc] at HL
  clear b7 b8 e7 e8 i5 i6 HB6 cv1 cv2
  have cv1 := conv_litD w2 #[.int .u8 97, .int .u8 10, .int .u8 98, .int .u8 10, .int .u8 99] 5
  have cv2 := conv_litD (w2.alloc (.cells #[.int .u8 97, .int .u8 10, .int .u8 98, .int .u8 10, .int .u8 99] 5 (5, 6))) #[.int .u8 97, .int .u8 10, .int .u8 99] 3
  rw [World.size_alloc] at cv2
  simp only [List.size_toArray, List.length_cons, List.length_nil, Nat.reduceAdd] at cv1 cv2
  go_wp2_with fail
  refine (unhide HL).mono ?_
  rintro y w3 ⟨hb3, ⟨hno, _⟩ | ⟨_, _, v5, rfl, ho5⟩⟩
  · exact absurd ⟨by rw [wk_abn]; decide, by rw [wk_acn]; decide⟩ hno
  rw [wk_3] at ho5
  obtain ⟨a5, c5, rfl, hi5, _⟩ := own_isOE ho5
  dsimp only
  have HB9 := hide ((unhide HB8).trans (hb3.mono (unhide HB8).size))
  have HE9 := hide ((unhide HE8).trans (hb3.mono (unhide HE8).size))
  have HO5 := hide hi5
  have HO4 := hide ((unhide HO3).below (unhide HE9) (Nat.le_refl _))
  clear HL HB8 HE8 hb3 ho5 hi5 HO3
  have b10 := (unhide HB9).alloc (unhide HB9).size (.cells (abcT.map (Value.int .u8)).toArray 5 (3, 4))
  have e10 := (Below.refl w3.heap.size w3).alloc (Nat.le_refl _) (.cells (abcT.map (Value.int .u8)).toArray 5 (3, 4))
  have b11 := b10.alloc b10.size (.cells (opsV d4T).toArray 41)
  have e11 := e10.alloc e10.size (.cells (opsV d4T).toArray 41)
  have i7 := (lit_isBD w3 abcT (3, 4) (by decide) (by decide)).below ((Below.refl _ _).alloc (Nat.le_refl _) (.cells (opsV d4T).toArray 41)) (Nat.le_refl _)
  have i8 := lit_isOD (w3.alloc (.cells (abcT.map (Value.int .u8)).toArray 5 (3, 4))) d4T (opsV d4T).toArray (by simp)
  have HC := hide (Cost_at _ _ abcT _ 4 d4T _ i7 ((unhide HT).below b11 (unhide HT).size) i8 (by decide) (by unfold TbD; decide) (by decide))
  rw [wk_4, World.size_alloc] at HC
  have HB11 := hide b11
  have HE11 := hide e11
  clear b10 e10 b11 e11 i7 i8 HB9 cv1 cv2
  have cv1 := conv_litD w3 #[.int .u8 97, .int .u8 98, .int .u8 99] 3
  simp only [List.size_toArray, List.length_cons, List.length_nil, Nat.reduceAdd] at cv1
  go_wp2_with fail
  refine (unhide HC).mono ?_
  rintro y w4 ⟨rfl, hb4⟩
  dsimp only
  have HB12 := hide ((unhide HB11).trans (hb4.mono (unhide HB11).size))
  have E12 := (unhide HE11).trans (hb4.mono (unhide HE11).size)
  have HO6 := hide ((unhide HO4).below E12 (Nat.le_refl _))
  have HO7 := hide ((unhide HO5).below E12 (Nat.le_refl _))
  clear HC HB11 HE11 hb4 E12 HO4 HO5 cv1
  have b13 := (unhide HB12).alloc (unhide HB12).size (.cells (opsV [⟨1, 2, []⟩, ⟨2, 0, [120]⟩, ⟨1, 1, []⟩]).toArray 41)
  have e13 := (Below.refl w4.heap.size w4).alloc (Nat.le_refl _) (.cells (opsV [⟨1, 2, []⟩, ⟨2, 0, [120]⟩, ⟨1, 1, []⟩]).toArray 41)
  have i9 := lit_isOD w4 [⟨1, 2, []⟩, ⟨2, 0, [120]⟩, ⟨1, 1, []⟩] (opsV [⟨1, 2, []⟩, ⟨2, 0, [120]⟩, ⟨1, 1, []⟩]).toArray (by simp)
  have HS := hide (RSameD_at a3 c3 [⟨1, 2, []⟩, ⟨2, 0, [120]⟩, ⟨1, 1, []⟩] _ 3 [⟨1, 2, []⟩, ⟨2, 0, [120]⟩, ⟨1, 1, []⟩] _ ((unhide HO6).below e13 (Nat.le_refl _)) i9 (by decide) (by decide) (by unfold TbD; decide) (by unfold TbD; decide))
  rw [decide_eq_true rfl] at HS
  have HB13 := hide b13
  have HO8 := hide ((unhide HO7).below e13 (Nat.le_refl _))
  clear b13 e13 i9 HB12 HO6 HO7
  go_wp2_with fail
  refine (unhide HS).mono ?_
  rintro y w5 ⟨rfl, hb5⟩
  dsimp only
  have HB14 := hide ((unhide HB13).trans (hb5.mono (unhide HB13).size))
  have HO9 := hide ((unhide HO8).below hb5 (Nat.le_refl _))
  clear HS HB13 HO8 hb5
  have b15 := (unhide HB14).alloc (unhide HB14).size (.cells (opsV [⟨1, 2, []⟩, ⟨3, 2, []⟩, ⟨1, 1, []⟩]).toArray 41)
  have e15 := (Below.refl w5.heap.size w5).alloc (Nat.le_refl _) (.cells (opsV [⟨1, 2, []⟩, ⟨3, 2, []⟩, ⟨1, 1, []⟩]).toArray 41)
  have i9 := lit_isOD w5 [⟨1, 2, []⟩, ⟨3, 2, []⟩, ⟨1, 1, []⟩] (opsV [⟨1, 2, []⟩, ⟨3, 2, []⟩, ⟨1, 1, []⟩]).toArray (by simp)
  have HS := hide (RSameD_at a5 c5 [⟨1, 2, []⟩, ⟨3, 2, []⟩, ⟨1, 1, []⟩] _ 3 [⟨1, 2, []⟩, ⟨3, 2, []⟩, ⟨1, 1, []⟩] _ ((unhide HO9).below e15 (Nat.le_refl _)) i9 (by decide) (by decide) (by unfold TbD; decide) (by unfold TbD; decide))
  rw [decide_eq_true rfl] at HS
  have HB15 := hide b15
  clear b15 e15 i9 HB14 HO9
  go_wp2_with fail
  refine (unhide HS).mono ?_
  rintro y w6 ⟨rfl, hb6⟩
  dsimp only
  have HB16 := hide ((unhide HB15).trans (hb6.mono (unhide HB15).size))
  clear HS HB15 hb6
  go_wp2_with fail
  exact bodyPost_ret (results_tmp rfl _ _ _) rfl ⟨rfl, unhide HB16⟩
end Go.Proofs.YtkdnanlgkedjgabDoor
end

section
namespace Go.Proofs.YtkdnanlgkedjgabDoor
open Go.ChangeShapes Go.WideShapes Go.ChangeAt Go.RowKit

def byt (l : List Int) (p : Nat) : Int := if p < l.length then l.getD p 0 else -1
def rng (x lo hi : Int) : Bool := decide (lo ≤ x ∧ x ≤ hi)
theorem rng_t {x lo hi : Int} (h1 : lo ≤ x) (h2 : x ≤ hi) : rng x lo hi = true := decide_eq_true ⟨h1, h2⟩
theorem rng_f {x lo hi : Int} (h : x < lo ∨ hi < x) : rng x lo hi = false := decide_eq_false (by omega)

theorem at_at (a0 : Option Addr) (cap : Nat) (l : List Int) (i : Int) {v : Int} (w : World) (hB : IsB w a0 cap l) (h0 : 0 ≤ i) (hv : byt l i.toNat = v) :
    Calls Tryd.prog 60 #[.slice a0 l.length cap, .int .i64 i] w fun e w' => e = .returned (.int .i64 v) ∧ w' = w := by
  obtain ⟨n, rfl⟩ : ∃ n : Nat, i = n := ⟨i.toNat, by omega⟩
  rw [Int.toNat_natCast] at hv
  subst hv
  have d0 : decide ((n : Int) < 0) = false := decide_eq_false (by omega)
  by_cases hn : n < l.length
  · rw [byt, if_pos hn]
    obtain ⟨h1, h2, h3, _⟩ := hB
    obtain ⟨g, off, rfl, hL, hg⟩ := h3.lies (by omega)
    obtain ⟨hc, x0, x1⟩ := hL n hn
    generalize hx : l.getD n 0 = x at hc x0 x1
    clear hx
    have hlt : ¬ (l.length : Int) ≤ (n : Int) := by omega
    go_enter Tryd.func60, Tryd.ntmps60
    go_wp2
    go_ret
    exact ⟨rfl, rfl⟩
  · rw [byt, if_neg hn]
    have hlt : (l.length : Int) ≤ (n : Int) := by omega
    go_enter Tryd.func60, Tryd.ntmps60
    go_wp2
    go_ret
    exact ⟨rfl, rfl⟩

theorem in_at (x lo hi : Int) {v : Bool} (w : World) (hv : rng x lo hi = v) :
    Calls Tryd.prog 61 #[.int .i64 x, .int .i64 lo, .int .i64 hi] w fun e w' => e = .returned (.bool v) ∧ w' = w := by
  subst hv
  by_cases h : lo ≤ x
  · have d0 : decide (lo ≤ x) = true := decide_eq_true h
    have e : rng x lo hi = decide (x ≤ hi) := by simp [rng, h]
    rw [e]
    go_enter Tryd.func61, Tryd.ntmps61
    go_wp2
    all_goals go_ret
    all_goals exact ⟨rfl, rfl⟩
  · have d0 : decide (lo ≤ x) = false := decide_eq_false h
    have e : rng x lo hi = false := by simp [rng, h]
    rw [e]
    go_enter Tryd.func61, Tryd.ntmps61
    go_wp2
    all_goals go_ret
    all_goals exact ⟨rfl, rfl⟩

/-- the document's table, over the four bytes from a place on -/
def tbl (x y z w : Int) : Nat :=
  if rng x 0 127 then 1 else if rng x 194 223 && rng y 128 191 then 2
  else if rng z 128 191 && ((x == 224) && rng y 160 191 || rng x 225 236 && rng y 128 191 || (x == 237) && rng y 128 159 || rng x 238 239 && rng y 128 191) then 3
  else if rng z 128 191 && rng w 128 191 && ((x == 240) && rng y 144 191 || rng x 241 243 && rng y 128 191 || (x == 244) && rng y 128 143) then 4 else 0

set_option maxHeartbeats 1000000 in
theorem Long_a (a0 : Option Addr) (cap p : Nat) (l : List Int) (x y z v : Int) (w : World) (hB : IsB w a0 cap l) (hp : p ≤ l.length) (hx : byt l (p : Int).toNat = x) (hy : byt l ((p : Int) + 1).toNat = y) (hz : byt l ((p : Int) + 2).toNat = z) (hv : byt l ((p : Int) + 3).toNat = v) (hlo : 0 ≤ x) (hhi : x ≤ 127) :
    Calls Tryd.prog 46 #[.slice a0 l.length cap, .int .i64 p] w fun e w' => e = .returned (.int .i64 (tbl x y z v)) ∧ w' = w := by
  have hl : l.length ≤ 140737488351232 := by obtain ⟨h1, h2, _⟩ := hB; omega
  have x0 : rng x 0 127 = true := rng_t (by omega) (by omega)
  have x1 : rng x 194 223 = false := rng_f (by omega)
  have x2 : rng x 225 236 = false := rng_f (by omega)
  have x3 : rng x 238 239 = false := rng_f (by omega)
  have x4 : rng x 241 243 = false := rng_f (by omega)
  have e224 : (x == 224) = false := by rw [beq_eq_false_iff_ne]; omega
  have e237 : (x == 237) = false := by rw [beq_eq_false_iff_ne]; omega
  have e240 : (x == 240) = false := by rw [beq_eq_false_iff_ne]; omega
  have e244 : (x == 244) = false := by rw [beq_eq_false_iff_ne]; omega
  rw [show tbl x y z v = 1 by clear hx hy hz hv; simp [tbl, *]]
  go_enter Tryd.func46, Tryd.ntmps46
  go_wp2_with (first
    | (go_at_call 60; refine (at_at a0 cap l _ _ hB (by omega) (by assumption)).mono ?_; rintro e w' ⟨rfl, rfl⟩)
    | (go_at_call 61; refine (in_at _ _ _ _ (by assumption)).mono ?_; rintro e w' ⟨rfl, rfl⟩))
  go_ret
  exact ⟨rfl, rfl⟩

set_option maxHeartbeats 1000000 in
theorem Long_b (a0 : Option Addr) (cap p : Nat) (l : List Int) (x y z v : Int) (w : World) (hB : IsB w a0 cap l) (hp : p ≤ l.length) (hx : byt l (p : Int).toNat = x) (hy : byt l ((p : Int) + 1).toNat = y) (hz : byt l ((p : Int) + 2).toNat = z) (hv : byt l ((p : Int) + 3).toNat = v) (hlo : 194 ≤ x) (hhi : x ≤ 223) :
    Calls Tryd.prog 46 #[.slice a0 l.length cap, .int .i64 p] w fun e w' => e = .returned (.int .i64 (tbl x y z v)) ∧ w' = w := by
  have hl : l.length ≤ 140737488351232 := by obtain ⟨h1, h2, _⟩ := hB; omega
  have x0 : rng x 0 127 = false := rng_f (by omega)
  have x1 : rng x 194 223 = true := rng_t (by omega) (by omega)
  have x2 : rng x 225 236 = false := rng_f (by omega)
  have x3 : rng x 238 239 = false := rng_f (by omega)
  have x4 : rng x 241 243 = false := rng_f (by omega)
  have e224 : (x == 224) = false := by rw [beq_eq_false_iff_ne]; omega
  have e237 : (x == 237) = false := by rw [beq_eq_false_iff_ne]; omega
  have e240 : (x == 240) = false := by rw [beq_eq_false_iff_ne]; omega
  have e244 : (x == 244) = false := by rw [beq_eq_false_iff_ne]; omega
  cases hyt : rng y 128 191 with
  | true =>
    rw [show tbl x y z v = 2 by clear hx hy hz hv; simp [tbl, *]]
    go_enter Tryd.func46, Tryd.ntmps46
    go_wp2_with (first
      | (go_at_call 60; refine (at_at a0 cap l _ _ hB (by omega) (by assumption)).mono ?_; rintro e w' ⟨rfl, rfl⟩)
      | (go_at_call 61; refine (in_at _ _ _ _ (by assumption)).mono ?_; rintro e w' ⟨rfl, rfl⟩))
    go_ret
    exact ⟨rfl, rfl⟩
  | false =>
    cases hzt : rng z 128 191 with
    | false =>
      rw [show tbl x y z v = 0 by clear hx hy hz hv; simp [tbl, *]]
      go_enter Tryd.func46, Tryd.ntmps46
      go_wp2_with (first
        | (go_at_call 60; refine (at_at a0 cap l _ _ hB (by omega) (by assumption)).mono ?_; rintro e w' ⟨rfl, rfl⟩)
        | (go_at_call 61; refine (in_at _ _ _ _ (by assumption)).mono ?_; rintro e w' ⟨rfl, rfl⟩))
      go_ret
      exact ⟨rfl, rfl⟩
    | true =>
      cases hvt : rng v 128 191 with
      | false =>
        rw [show tbl x y z v = 0 by clear hx hy hz hv; simp [tbl, *]]
        go_enter Tryd.func46, Tryd.ntmps46
        go_wp2_with (first
          | (go_at_call 60; refine (at_at a0 cap l _ _ hB (by omega) (by assumption)).mono ?_; rintro e w' ⟨rfl, rfl⟩)
          | (go_at_call 61; refine (in_at _ _ _ _ (by assumption)).mono ?_; rintro e w' ⟨rfl, rfl⟩))
        go_ret
        exact ⟨rfl, rfl⟩
      | true =>
        rw [show tbl x y z v = 0 by clear hx hy hz hv; simp [tbl, *]]
        go_enter Tryd.func46, Tryd.ntmps46
        go_wp2_with (first
          | (go_at_call 60; refine (at_at a0 cap l _ _ hB (by omega) (by assumption)).mono ?_; rintro e w' ⟨rfl, rfl⟩)
          | (go_at_call 61; refine (in_at _ _ _ _ (by assumption)).mono ?_; rintro e w' ⟨rfl, rfl⟩))
        go_ret
        exact ⟨rfl, rfl⟩

set_option maxHeartbeats 1000000 in
theorem Long_c (a0 : Option Addr) (cap p : Nat) (l : List Int) (x y z v : Int) (w : World) (hB : IsB w a0 cap l) (hp : p ≤ l.length) (hx : byt l (p : Int).toNat = x) (hy : byt l ((p : Int) + 1).toNat = y) (hz : byt l ((p : Int) + 2).toNat = z) (hv : byt l ((p : Int) + 3).toNat = v) (hlo : 224 ≤ x) (hhi : x ≤ 224) :
    Calls Tryd.prog 46 #[.slice a0 l.length cap, .int .i64 p] w fun e w' => e = .returned (.int .i64 (tbl x y z v)) ∧ w' = w := by
  have hl : l.length ≤ 140737488351232 := by obtain ⟨h1, h2, _⟩ := hB; omega
  have x0 : rng x 0 127 = false := rng_f (by omega)
  have x1 : rng x 194 223 = false := rng_f (by omega)
  have x2 : rng x 225 236 = false := rng_f (by omega)
  have x3 : rng x 238 239 = false := rng_f (by omega)
  have x4 : rng x 241 243 = false := rng_f (by omega)
  have e224 : (x == 224) = true := by rw [beq_iff_eq]; omega
  have e237 : (x == 237) = false := by rw [beq_eq_false_iff_ne]; omega
  have e240 : (x == 240) = false := by rw [beq_eq_false_iff_ne]; omega
  have e244 : (x == 244) = false := by rw [beq_eq_false_iff_ne]; omega
  cases hyt : rng y 160 191 with
  | false =>
    cases hzt : rng z 128 191 with
    | false =>
      rw [show tbl x y z v = 0 by clear hx hy hz hv; simp [tbl, *]]
      go_enter Tryd.func46, Tryd.ntmps46
      go_wp2_with (first
        | (go_at_call 60; refine (at_at a0 cap l _ _ hB (by omega) (by assumption)).mono ?_; rintro e w' ⟨rfl, rfl⟩)
        | (go_at_call 61; refine (in_at _ _ _ _ (by assumption)).mono ?_; rintro e w' ⟨rfl, rfl⟩))
      go_ret
      exact ⟨rfl, rfl⟩
    | true =>
      cases hvt : rng v 128 191 with
      | false =>
        rw [show tbl x y z v = 0 by clear hx hy hz hv; simp [tbl, *]]
        go_enter Tryd.func46, Tryd.ntmps46
        go_wp2_with (first
          | (go_at_call 60; refine (at_at a0 cap l _ _ hB (by omega) (by assumption)).mono ?_; rintro e w' ⟨rfl, rfl⟩)
          | (go_at_call 61; refine (in_at _ _ _ _ (by assumption)).mono ?_; rintro e w' ⟨rfl, rfl⟩))
        go_ret
        exact ⟨rfl, rfl⟩
      | true =>
        rw [show tbl x y z v = 0 by clear hx hy hz hv; simp [tbl, *]]
        go_enter Tryd.func46, Tryd.ntmps46
        go_wp2_with (first
          | (go_at_call 60; refine (at_at a0 cap l _ _ hB (by omega) (by assumption)).mono ?_; rintro e w' ⟨rfl, rfl⟩)
          | (go_at_call 61; refine (in_at _ _ _ _ (by assumption)).mono ?_; rintro e w' ⟨rfl, rfl⟩))
        go_ret
        exact ⟨rfl, rfl⟩
  | true =>
    cases hzt : rng z 128 191 with
    | false =>
      rw [show tbl x y z v = 0 by clear hx hy hz hv; simp [tbl, *]]
      go_enter Tryd.func46, Tryd.ntmps46
      go_wp2_with (first
        | (go_at_call 60; refine (at_at a0 cap l _ _ hB (by omega) (by assumption)).mono ?_; rintro e w' ⟨rfl, rfl⟩)
        | (go_at_call 61; refine (in_at _ _ _ _ (by assumption)).mono ?_; rintro e w' ⟨rfl, rfl⟩))
      go_ret
      exact ⟨rfl, rfl⟩
    | true =>
      rw [show tbl x y z v = 3 by clear hx hy hz hv; simp [tbl, *]]
      go_enter Tryd.func46, Tryd.ntmps46
      go_wp2_with (first
        | (go_at_call 60; refine (at_at a0 cap l _ _ hB (by omega) (by assumption)).mono ?_; rintro e w' ⟨rfl, rfl⟩)
        | (go_at_call 61; refine (in_at _ _ _ _ (by assumption)).mono ?_; rintro e w' ⟨rfl, rfl⟩))
      go_ret
      exact ⟨rfl, rfl⟩

set_option maxHeartbeats 1000000 in
theorem Long_d (a0 : Option Addr) (cap p : Nat) (l : List Int) (x y z v : Int) (w : World) (hB : IsB w a0 cap l) (hp : p ≤ l.length) (hx : byt l (p : Int).toNat = x) (hy : byt l ((p : Int) + 1).toNat = y) (hz : byt l ((p : Int) + 2).toNat = z) (hv : byt l ((p : Int) + 3).toNat = v) (hlo : 225 ≤ x) (hhi : x ≤ 236) :
    Calls Tryd.prog 46 #[.slice a0 l.length cap, .int .i64 p] w fun e w' => e = .returned (.int .i64 (tbl x y z v)) ∧ w' = w := by
  have hl : l.length ≤ 140737488351232 := by obtain ⟨h1, h2, _⟩ := hB; omega
  have x0 : rng x 0 127 = false := rng_f (by omega)
  have x1 : rng x 194 223 = false := rng_f (by omega)
  have x2 : rng x 225 236 = true := rng_t (by omega) (by omega)
  have x3 : rng x 238 239 = false := rng_f (by omega)
  have x4 : rng x 241 243 = false := rng_f (by omega)
  have e224 : (x == 224) = false := by rw [beq_eq_false_iff_ne]; omega
  have e237 : (x == 237) = false := by rw [beq_eq_false_iff_ne]; omega
  have e240 : (x == 240) = false := by rw [beq_eq_false_iff_ne]; omega
  have e244 : (x == 244) = false := by rw [beq_eq_false_iff_ne]; omega
  cases hyt : rng y 128 191 with
  | false =>
    cases hzt : rng z 128 191 with
    | false =>
      rw [show tbl x y z v = 0 by clear hx hy hz hv; simp [tbl, *]]
      go_enter Tryd.func46, Tryd.ntmps46
      go_wp2_with (first
        | (go_at_call 60; refine (at_at a0 cap l _ _ hB (by omega) (by assumption)).mono ?_; rintro e w' ⟨rfl, rfl⟩)
        | (go_at_call 61; refine (in_at _ _ _ _ (by assumption)).mono ?_; rintro e w' ⟨rfl, rfl⟩))
      go_ret
      exact ⟨rfl, rfl⟩
    | true =>
      cases hvt : rng v 128 191 with
      | false =>
        rw [show tbl x y z v = 0 by clear hx hy hz hv; simp [tbl, *]]
        go_enter Tryd.func46, Tryd.ntmps46
        go_wp2_with (first
          | (go_at_call 60; refine (at_at a0 cap l _ _ hB (by omega) (by assumption)).mono ?_; rintro e w' ⟨rfl, rfl⟩)
          | (go_at_call 61; refine (in_at _ _ _ _ (by assumption)).mono ?_; rintro e w' ⟨rfl, rfl⟩))
        go_ret
        exact ⟨rfl, rfl⟩
      | true =>
        rw [show tbl x y z v = 0 by clear hx hy hz hv; simp [tbl, *]]
        go_enter Tryd.func46, Tryd.ntmps46
        go_wp2_with (first
          | (go_at_call 60; refine (at_at a0 cap l _ _ hB (by omega) (by assumption)).mono ?_; rintro e w' ⟨rfl, rfl⟩)
          | (go_at_call 61; refine (in_at _ _ _ _ (by assumption)).mono ?_; rintro e w' ⟨rfl, rfl⟩))
        go_ret
        exact ⟨rfl, rfl⟩
  | true =>
    cases hzt : rng z 128 191 with
    | false =>
      rw [show tbl x y z v = 0 by clear hx hy hz hv; simp [tbl, *]]
      go_enter Tryd.func46, Tryd.ntmps46
      go_wp2_with (first
        | (go_at_call 60; refine (at_at a0 cap l _ _ hB (by omega) (by assumption)).mono ?_; rintro e w' ⟨rfl, rfl⟩)
        | (go_at_call 61; refine (in_at _ _ _ _ (by assumption)).mono ?_; rintro e w' ⟨rfl, rfl⟩))
      go_ret
      exact ⟨rfl, rfl⟩
    | true =>
      rw [show tbl x y z v = 3 by clear hx hy hz hv; simp [tbl, *]]
      go_enter Tryd.func46, Tryd.ntmps46
      go_wp2_with (first
        | (go_at_call 60; refine (at_at a0 cap l _ _ hB (by omega) (by assumption)).mono ?_; rintro e w' ⟨rfl, rfl⟩)
        | (go_at_call 61; refine (in_at _ _ _ _ (by assumption)).mono ?_; rintro e w' ⟨rfl, rfl⟩))
      go_ret
      exact ⟨rfl, rfl⟩

set_option maxHeartbeats 1000000 in
theorem Long_e (a0 : Option Addr) (cap p : Nat) (l : List Int) (x y z v : Int) (w : World) (hB : IsB w a0 cap l) (hp : p ≤ l.length) (hx : byt l (p : Int).toNat = x) (hy : byt l ((p : Int) + 1).toNat = y) (hz : byt l ((p : Int) + 2).toNat = z) (hv : byt l ((p : Int) + 3).toNat = v) (hlo : 237 ≤ x) (hhi : x ≤ 237) :
    Calls Tryd.prog 46 #[.slice a0 l.length cap, .int .i64 p] w fun e w' => e = .returned (.int .i64 (tbl x y z v)) ∧ w' = w := by
  have hl : l.length ≤ 140737488351232 := by obtain ⟨h1, h2, _⟩ := hB; omega
  have x0 : rng x 0 127 = false := rng_f (by omega)
  have x1 : rng x 194 223 = false := rng_f (by omega)
  have x2 : rng x 225 236 = false := rng_f (by omega)
  have x3 : rng x 238 239 = false := rng_f (by omega)
  have x4 : rng x 241 243 = false := rng_f (by omega)
  have e224 : (x == 224) = false := by rw [beq_eq_false_iff_ne]; omega
  have e237 : (x == 237) = true := by rw [beq_iff_eq]; omega
  have e240 : (x == 240) = false := by rw [beq_eq_false_iff_ne]; omega
  have e244 : (x == 244) = false := by rw [beq_eq_false_iff_ne]; omega
  cases hyt : rng y 128 159 with
  | false =>
    cases hzt : rng z 128 191 with
    | false =>
      rw [show tbl x y z v = 0 by clear hx hy hz hv; simp [tbl, *]]
      go_enter Tryd.func46, Tryd.ntmps46
      go_wp2_with (first
        | (go_at_call 60; refine (at_at a0 cap l _ _ hB (by omega) (by assumption)).mono ?_; rintro e w' ⟨rfl, rfl⟩)
        | (go_at_call 61; refine (in_at _ _ _ _ (by assumption)).mono ?_; rintro e w' ⟨rfl, rfl⟩))
      go_ret
      exact ⟨rfl, rfl⟩
    | true =>
      cases hvt : rng v 128 191 with
      | false =>
        rw [show tbl x y z v = 0 by clear hx hy hz hv; simp [tbl, *]]
        go_enter Tryd.func46, Tryd.ntmps46
        go_wp2_with (first
          | (go_at_call 60; refine (at_at a0 cap l _ _ hB (by omega) (by assumption)).mono ?_; rintro e w' ⟨rfl, rfl⟩)
          | (go_at_call 61; refine (in_at _ _ _ _ (by assumption)).mono ?_; rintro e w' ⟨rfl, rfl⟩))
        go_ret
        exact ⟨rfl, rfl⟩
      | true =>
        rw [show tbl x y z v = 0 by clear hx hy hz hv; simp [tbl, *]]
        go_enter Tryd.func46, Tryd.ntmps46
        go_wp2_with (first
          | (go_at_call 60; refine (at_at a0 cap l _ _ hB (by omega) (by assumption)).mono ?_; rintro e w' ⟨rfl, rfl⟩)
          | (go_at_call 61; refine (in_at _ _ _ _ (by assumption)).mono ?_; rintro e w' ⟨rfl, rfl⟩))
        go_ret
        exact ⟨rfl, rfl⟩
  | true =>
    cases hzt : rng z 128 191 with
    | false =>
      rw [show tbl x y z v = 0 by clear hx hy hz hv; simp [tbl, *]]
      go_enter Tryd.func46, Tryd.ntmps46
      go_wp2_with (first
        | (go_at_call 60; refine (at_at a0 cap l _ _ hB (by omega) (by assumption)).mono ?_; rintro e w' ⟨rfl, rfl⟩)
        | (go_at_call 61; refine (in_at _ _ _ _ (by assumption)).mono ?_; rintro e w' ⟨rfl, rfl⟩))
      go_ret
      exact ⟨rfl, rfl⟩
    | true =>
      rw [show tbl x y z v = 3 by clear hx hy hz hv; simp [tbl, *]]
      go_enter Tryd.func46, Tryd.ntmps46
      go_wp2_with (first
        | (go_at_call 60; refine (at_at a0 cap l _ _ hB (by omega) (by assumption)).mono ?_; rintro e w' ⟨rfl, rfl⟩)
        | (go_at_call 61; refine (in_at _ _ _ _ (by assumption)).mono ?_; rintro e w' ⟨rfl, rfl⟩))
      go_ret
      exact ⟨rfl, rfl⟩

set_option maxHeartbeats 1000000 in
theorem Long_f (a0 : Option Addr) (cap p : Nat) (l : List Int) (x y z v : Int) (w : World) (hB : IsB w a0 cap l) (hp : p ≤ l.length) (hx : byt l (p : Int).toNat = x) (hy : byt l ((p : Int) + 1).toNat = y) (hz : byt l ((p : Int) + 2).toNat = z) (hv : byt l ((p : Int) + 3).toNat = v) (hlo : 238 ≤ x) (hhi : x ≤ 239) :
    Calls Tryd.prog 46 #[.slice a0 l.length cap, .int .i64 p] w fun e w' => e = .returned (.int .i64 (tbl x y z v)) ∧ w' = w := by
  have hl : l.length ≤ 140737488351232 := by obtain ⟨h1, h2, _⟩ := hB; omega
  have x0 : rng x 0 127 = false := rng_f (by omega)
  have x1 : rng x 194 223 = false := rng_f (by omega)
  have x2 : rng x 225 236 = false := rng_f (by omega)
  have x3 : rng x 238 239 = true := rng_t (by omega) (by omega)
  have x4 : rng x 241 243 = false := rng_f (by omega)
  have e224 : (x == 224) = false := by rw [beq_eq_false_iff_ne]; omega
  have e237 : (x == 237) = false := by rw [beq_eq_false_iff_ne]; omega
  have e240 : (x == 240) = false := by rw [beq_eq_false_iff_ne]; omega
  have e244 : (x == 244) = false := by rw [beq_eq_false_iff_ne]; omega
  cases hyt : rng y 128 191 with
  | false =>
    cases hzt : rng z 128 191 with
    | false =>
      rw [show tbl x y z v = 0 by clear hx hy hz hv; simp [tbl, *]]
      go_enter Tryd.func46, Tryd.ntmps46
      go_wp2_with (first
        | (go_at_call 60; refine (at_at a0 cap l _ _ hB (by omega) (by assumption)).mono ?_; rintro e w' ⟨rfl, rfl⟩)
        | (go_at_call 61; refine (in_at _ _ _ _ (by assumption)).mono ?_; rintro e w' ⟨rfl, rfl⟩))
      go_ret
      exact ⟨rfl, rfl⟩
    | true =>
      cases hvt : rng v 128 191 with
      | false =>
        rw [show tbl x y z v = 0 by clear hx hy hz hv; simp [tbl, *]]
        go_enter Tryd.func46, Tryd.ntmps46
        go_wp2_with (first
          | (go_at_call 60; refine (at_at a0 cap l _ _ hB (by omega) (by assumption)).mono ?_; rintro e w' ⟨rfl, rfl⟩)
          | (go_at_call 61; refine (in_at _ _ _ _ (by assumption)).mono ?_; rintro e w' ⟨rfl, rfl⟩))
        go_ret
        exact ⟨rfl, rfl⟩
      | true =>
        rw [show tbl x y z v = 0 by clear hx hy hz hv; simp [tbl, *]]
        go_enter Tryd.func46, Tryd.ntmps46
        go_wp2_with (first
          | (go_at_call 60; refine (at_at a0 cap l _ _ hB (by omega) (by assumption)).mono ?_; rintro e w' ⟨rfl, rfl⟩)
          | (go_at_call 61; refine (in_at _ _ _ _ (by assumption)).mono ?_; rintro e w' ⟨rfl, rfl⟩))
        go_ret
        exact ⟨rfl, rfl⟩
  | true =>
    cases hzt : rng z 128 191 with
    | false =>
      rw [show tbl x y z v = 0 by clear hx hy hz hv; simp [tbl, *]]
      go_enter Tryd.func46, Tryd.ntmps46
      go_wp2_with (first
        | (go_at_call 60; refine (at_at a0 cap l _ _ hB (by omega) (by assumption)).mono ?_; rintro e w' ⟨rfl, rfl⟩)
        | (go_at_call 61; refine (in_at _ _ _ _ (by assumption)).mono ?_; rintro e w' ⟨rfl, rfl⟩))
      go_ret
      exact ⟨rfl, rfl⟩
    | true =>
      rw [show tbl x y z v = 3 by clear hx hy hz hv; simp [tbl, *]]
      go_enter Tryd.func46, Tryd.ntmps46
      go_wp2_with (first
        | (go_at_call 60; refine (at_at a0 cap l _ _ hB (by omega) (by assumption)).mono ?_; rintro e w' ⟨rfl, rfl⟩)
        | (go_at_call 61; refine (in_at _ _ _ _ (by assumption)).mono ?_; rintro e w' ⟨rfl, rfl⟩))
      go_ret
      exact ⟨rfl, rfl⟩

set_option maxHeartbeats 1000000 in
theorem Long_g (a0 : Option Addr) (cap p : Nat) (l : List Int) (x y z v : Int) (w : World) (hB : IsB w a0 cap l) (hp : p ≤ l.length) (hx : byt l (p : Int).toNat = x) (hy : byt l ((p : Int) + 1).toNat = y) (hz : byt l ((p : Int) + 2).toNat = z) (hv : byt l ((p : Int) + 3).toNat = v) (hlo : 240 ≤ x) (hhi : x ≤ 240) :
    Calls Tryd.prog 46 #[.slice a0 l.length cap, .int .i64 p] w fun e w' => e = .returned (.int .i64 (tbl x y z v)) ∧ w' = w := by
  have hl : l.length ≤ 140737488351232 := by obtain ⟨h1, h2, _⟩ := hB; omega
  have x0 : rng x 0 127 = false := rng_f (by omega)
  have x1 : rng x 194 223 = false := rng_f (by omega)
  have x2 : rng x 225 236 = false := rng_f (by omega)
  have x3 : rng x 238 239 = false := rng_f (by omega)
  have x4 : rng x 241 243 = false := rng_f (by omega)
  have e224 : (x == 224) = false := by rw [beq_eq_false_iff_ne]; omega
  have e237 : (x == 237) = false := by rw [beq_eq_false_iff_ne]; omega
  have e240 : (x == 240) = true := by rw [beq_iff_eq]; omega
  have e244 : (x == 244) = false := by rw [beq_eq_false_iff_ne]; omega
  cases hyt : rng y 144 191 with
  | false =>
    cases hzt : rng z 128 191 with
    | false =>
      rw [show tbl x y z v = 0 by clear hx hy hz hv; simp [tbl, *]]
      go_enter Tryd.func46, Tryd.ntmps46
      go_wp2_with (first
        | (go_at_call 60; refine (at_at a0 cap l _ _ hB (by omega) (by assumption)).mono ?_; rintro e w' ⟨rfl, rfl⟩)
        | (go_at_call 61; refine (in_at _ _ _ _ (by assumption)).mono ?_; rintro e w' ⟨rfl, rfl⟩))
      go_ret
      exact ⟨rfl, rfl⟩
    | true =>
      cases hvt : rng v 128 191 with
      | false =>
        rw [show tbl x y z v = 0 by clear hx hy hz hv; simp [tbl, *]]
        go_enter Tryd.func46, Tryd.ntmps46
        go_wp2_with (first
          | (go_at_call 60; refine (at_at a0 cap l _ _ hB (by omega) (by assumption)).mono ?_; rintro e w' ⟨rfl, rfl⟩)
          | (go_at_call 61; refine (in_at _ _ _ _ (by assumption)).mono ?_; rintro e w' ⟨rfl, rfl⟩))
        go_ret
        exact ⟨rfl, rfl⟩
      | true =>
        rw [show tbl x y z v = 0 by clear hx hy hz hv; simp [tbl, *]]
        go_enter Tryd.func46, Tryd.ntmps46
        go_wp2_with (first
          | (go_at_call 60; refine (at_at a0 cap l _ _ hB (by omega) (by assumption)).mono ?_; rintro e w' ⟨rfl, rfl⟩)
          | (go_at_call 61; refine (in_at _ _ _ _ (by assumption)).mono ?_; rintro e w' ⟨rfl, rfl⟩))
        go_ret
        exact ⟨rfl, rfl⟩
  | true =>
    cases hzt : rng z 128 191 with
    | false =>
      rw [show tbl x y z v = 0 by clear hx hy hz hv; simp [tbl, *]]
      go_enter Tryd.func46, Tryd.ntmps46
      go_wp2_with (first
        | (go_at_call 60; refine (at_at a0 cap l _ _ hB (by omega) (by assumption)).mono ?_; rintro e w' ⟨rfl, rfl⟩)
        | (go_at_call 61; refine (in_at _ _ _ _ (by assumption)).mono ?_; rintro e w' ⟨rfl, rfl⟩))
      go_ret
      exact ⟨rfl, rfl⟩
    | true =>
      cases hvt : rng v 128 191 with
      | false =>
        rw [show tbl x y z v = 0 by clear hx hy hz hv; simp [tbl, *]]
        go_enter Tryd.func46, Tryd.ntmps46
        go_wp2_with (first
          | (go_at_call 60; refine (at_at a0 cap l _ _ hB (by omega) (by assumption)).mono ?_; rintro e w' ⟨rfl, rfl⟩)
          | (go_at_call 61; refine (in_at _ _ _ _ (by assumption)).mono ?_; rintro e w' ⟨rfl, rfl⟩))
        go_ret
        exact ⟨rfl, rfl⟩
      | true =>
        rw [show tbl x y z v = 4 by clear hx hy hz hv; simp [tbl, *]]
        go_enter Tryd.func46, Tryd.ntmps46
        go_wp2_with (first
          | (go_at_call 60; refine (at_at a0 cap l _ _ hB (by omega) (by assumption)).mono ?_; rintro e w' ⟨rfl, rfl⟩)
          | (go_at_call 61; refine (in_at _ _ _ _ (by assumption)).mono ?_; rintro e w' ⟨rfl, rfl⟩))
        go_ret
        exact ⟨rfl, rfl⟩

set_option maxHeartbeats 1000000 in
theorem Long_h (a0 : Option Addr) (cap p : Nat) (l : List Int) (x y z v : Int) (w : World) (hB : IsB w a0 cap l) (hp : p ≤ l.length) (hx : byt l (p : Int).toNat = x) (hy : byt l ((p : Int) + 1).toNat = y) (hz : byt l ((p : Int) + 2).toNat = z) (hv : byt l ((p : Int) + 3).toNat = v) (hlo : 241 ≤ x) (hhi : x ≤ 243) :
    Calls Tryd.prog 46 #[.slice a0 l.length cap, .int .i64 p] w fun e w' => e = .returned (.int .i64 (tbl x y z v)) ∧ w' = w := by
  have hl : l.length ≤ 140737488351232 := by obtain ⟨h1, h2, _⟩ := hB; omega
  have x0 : rng x 0 127 = false := rng_f (by omega)
  have x1 : rng x 194 223 = false := rng_f (by omega)
  have x2 : rng x 225 236 = false := rng_f (by omega)
  have x3 : rng x 238 239 = false := rng_f (by omega)
  have x4 : rng x 241 243 = true := rng_t (by omega) (by omega)
  have e224 : (x == 224) = false := by rw [beq_eq_false_iff_ne]; omega
  have e237 : (x == 237) = false := by rw [beq_eq_false_iff_ne]; omega
  have e240 : (x == 240) = false := by rw [beq_eq_false_iff_ne]; omega
  have e244 : (x == 244) = false := by rw [beq_eq_false_iff_ne]; omega
  cases hyt : rng y 128 191 with
  | false =>
    cases hzt : rng z 128 191 with
    | false =>
      rw [show tbl x y z v = 0 by clear hx hy hz hv; simp [tbl, *]]
      go_enter Tryd.func46, Tryd.ntmps46
      go_wp2_with (first
        | (go_at_call 60; refine (at_at a0 cap l _ _ hB (by omega) (by assumption)).mono ?_; rintro e w' ⟨rfl, rfl⟩)
        | (go_at_call 61; refine (in_at _ _ _ _ (by assumption)).mono ?_; rintro e w' ⟨rfl, rfl⟩))
      go_ret
      exact ⟨rfl, rfl⟩
    | true =>
      cases hvt : rng v 128 191 with
      | false =>
        rw [show tbl x y z v = 0 by clear hx hy hz hv; simp [tbl, *]]
        go_enter Tryd.func46, Tryd.ntmps46
        go_wp2_with (first
          | (go_at_call 60; refine (at_at a0 cap l _ _ hB (by omega) (by assumption)).mono ?_; rintro e w' ⟨rfl, rfl⟩)
          | (go_at_call 61; refine (in_at _ _ _ _ (by assumption)).mono ?_; rintro e w' ⟨rfl, rfl⟩))
        go_ret
        exact ⟨rfl, rfl⟩
      | true =>
        rw [show tbl x y z v = 0 by clear hx hy hz hv; simp [tbl, *]]
        go_enter Tryd.func46, Tryd.ntmps46
        go_wp2_with (first
          | (go_at_call 60; refine (at_at a0 cap l _ _ hB (by omega) (by assumption)).mono ?_; rintro e w' ⟨rfl, rfl⟩)
          | (go_at_call 61; refine (in_at _ _ _ _ (by assumption)).mono ?_; rintro e w' ⟨rfl, rfl⟩))
        go_ret
        exact ⟨rfl, rfl⟩
  | true =>
    cases hzt : rng z 128 191 with
    | false =>
      rw [show tbl x y z v = 0 by clear hx hy hz hv; simp [tbl, *]]
      go_enter Tryd.func46, Tryd.ntmps46
      go_wp2_with (first
        | (go_at_call 60; refine (at_at a0 cap l _ _ hB (by omega) (by assumption)).mono ?_; rintro e w' ⟨rfl, rfl⟩)
        | (go_at_call 61; refine (in_at _ _ _ _ (by assumption)).mono ?_; rintro e w' ⟨rfl, rfl⟩))
      go_ret
      exact ⟨rfl, rfl⟩
    | true =>
      cases hvt : rng v 128 191 with
      | false =>
        rw [show tbl x y z v = 0 by clear hx hy hz hv; simp [tbl, *]]
        go_enter Tryd.func46, Tryd.ntmps46
        go_wp2_with (first
          | (go_at_call 60; refine (at_at a0 cap l _ _ hB (by omega) (by assumption)).mono ?_; rintro e w' ⟨rfl, rfl⟩)
          | (go_at_call 61; refine (in_at _ _ _ _ (by assumption)).mono ?_; rintro e w' ⟨rfl, rfl⟩))
        go_ret
        exact ⟨rfl, rfl⟩
      | true =>
        rw [show tbl x y z v = 4 by clear hx hy hz hv; simp [tbl, *]]
        go_enter Tryd.func46, Tryd.ntmps46
        go_wp2_with (first
          | (go_at_call 60; refine (at_at a0 cap l _ _ hB (by omega) (by assumption)).mono ?_; rintro e w' ⟨rfl, rfl⟩)
          | (go_at_call 61; refine (in_at _ _ _ _ (by assumption)).mono ?_; rintro e w' ⟨rfl, rfl⟩))
        go_ret
        exact ⟨rfl, rfl⟩

set_option maxHeartbeats 1000000 in
theorem Long_i (a0 : Option Addr) (cap p : Nat) (l : List Int) (x y z v : Int) (w : World) (hB : IsB w a0 cap l) (hp : p ≤ l.length) (hx : byt l (p : Int).toNat = x) (hy : byt l ((p : Int) + 1).toNat = y) (hz : byt l ((p : Int) + 2).toNat = z) (hv : byt l ((p : Int) + 3).toNat = v) (hlo : 244 ≤ x) (hhi : x ≤ 244) :
    Calls Tryd.prog 46 #[.slice a0 l.length cap, .int .i64 p] w fun e w' => e = .returned (.int .i64 (tbl x y z v)) ∧ w' = w := by
  have hl : l.length ≤ 140737488351232 := by obtain ⟨h1, h2, _⟩ := hB; omega
  have x0 : rng x 0 127 = false := rng_f (by omega)
  have x1 : rng x 194 223 = false := rng_f (by omega)
  have x2 : rng x 225 236 = false := rng_f (by omega)
  have x3 : rng x 238 239 = false := rng_f (by omega)
  have x4 : rng x 241 243 = false := rng_f (by omega)
  have e224 : (x == 224) = false := by rw [beq_eq_false_iff_ne]; omega
  have e237 : (x == 237) = false := by rw [beq_eq_false_iff_ne]; omega
  have e240 : (x == 240) = false := by rw [beq_eq_false_iff_ne]; omega
  have e244 : (x == 244) = true := by rw [beq_iff_eq]; omega
  cases hyt : rng y 128 143 with
  | false =>
    cases hzt : rng z 128 191 with
    | false =>
      rw [show tbl x y z v = 0 by clear hx hy hz hv; simp [tbl, *]]
      go_enter Tryd.func46, Tryd.ntmps46
      go_wp2_with (first
        | (go_at_call 60; refine (at_at a0 cap l _ _ hB (by omega) (by assumption)).mono ?_; rintro e w' ⟨rfl, rfl⟩)
        | (go_at_call 61; refine (in_at _ _ _ _ (by assumption)).mono ?_; rintro e w' ⟨rfl, rfl⟩))
      go_ret
      exact ⟨rfl, rfl⟩
    | true =>
      cases hvt : rng v 128 191 with
      | false =>
        rw [show tbl x y z v = 0 by clear hx hy hz hv; simp [tbl, *]]
        go_enter Tryd.func46, Tryd.ntmps46
        go_wp2_with (first
          | (go_at_call 60; refine (at_at a0 cap l _ _ hB (by omega) (by assumption)).mono ?_; rintro e w' ⟨rfl, rfl⟩)
          | (go_at_call 61; refine (in_at _ _ _ _ (by assumption)).mono ?_; rintro e w' ⟨rfl, rfl⟩))
        go_ret
        exact ⟨rfl, rfl⟩
      | true =>
        rw [show tbl x y z v = 0 by clear hx hy hz hv; simp [tbl, *]]
        go_enter Tryd.func46, Tryd.ntmps46
        go_wp2_with (first
          | (go_at_call 60; refine (at_at a0 cap l _ _ hB (by omega) (by assumption)).mono ?_; rintro e w' ⟨rfl, rfl⟩)
          | (go_at_call 61; refine (in_at _ _ _ _ (by assumption)).mono ?_; rintro e w' ⟨rfl, rfl⟩))
        go_ret
        exact ⟨rfl, rfl⟩
  | true =>
    cases hzt : rng z 128 191 with
    | false =>
      rw [show tbl x y z v = 0 by clear hx hy hz hv; simp [tbl, *]]
      go_enter Tryd.func46, Tryd.ntmps46
      go_wp2_with (first
        | (go_at_call 60; refine (at_at a0 cap l _ _ hB (by omega) (by assumption)).mono ?_; rintro e w' ⟨rfl, rfl⟩)
        | (go_at_call 61; refine (in_at _ _ _ _ (by assumption)).mono ?_; rintro e w' ⟨rfl, rfl⟩))
      go_ret
      exact ⟨rfl, rfl⟩
    | true =>
      cases hvt : rng v 128 191 with
      | false =>
        rw [show tbl x y z v = 0 by clear hx hy hz hv; simp [tbl, *]]
        go_enter Tryd.func46, Tryd.ntmps46
        go_wp2_with (first
          | (go_at_call 60; refine (at_at a0 cap l _ _ hB (by omega) (by assumption)).mono ?_; rintro e w' ⟨rfl, rfl⟩)
          | (go_at_call 61; refine (in_at _ _ _ _ (by assumption)).mono ?_; rintro e w' ⟨rfl, rfl⟩))
        go_ret
        exact ⟨rfl, rfl⟩
      | true =>
        rw [show tbl x y z v = 4 by clear hx hy hz hv; simp [tbl, *]]
        go_enter Tryd.func46, Tryd.ntmps46
        go_wp2_with (first
          | (go_at_call 60; refine (at_at a0 cap l _ _ hB (by omega) (by assumption)).mono ?_; rintro e w' ⟨rfl, rfl⟩)
          | (go_at_call 61; refine (in_at _ _ _ _ (by assumption)).mono ?_; rintro e w' ⟨rfl, rfl⟩))
        go_ret
        exact ⟨rfl, rfl⟩

set_option maxHeartbeats 1000000 in
theorem Long_o (a0 : Option Addr) (cap p : Nat) (l : List Int) (x y z v : Int) (w : World) (hB : IsB w a0 cap l) (hp : p ≤ l.length) (hx : byt l (p : Int).toNat = x) (hy : byt l ((p : Int) + 1).toNat = y) (hz : byt l ((p : Int) + 2).toNat = z) (hv : byt l ((p : Int) + 3).toNat = v) (ho : x < 0 ∨ 127 < x ∧ x < 194 ∨ 244 < x) :
    Calls Tryd.prog 46 #[.slice a0 l.length cap, .int .i64 p] w fun e w' => e = .returned (.int .i64 (tbl x y z v)) ∧ w' = w := by
  have hl : l.length ≤ 140737488351232 := by obtain ⟨h1, h2, _⟩ := hB; omega
  have x0 : rng x 0 127 = false := rng_f (by omega)
  have x1 : rng x 194 223 = false := rng_f (by omega)
  have x2 : rng x 225 236 = false := rng_f (by omega)
  have x3 : rng x 238 239 = false := rng_f (by omega)
  have x4 : rng x 241 243 = false := rng_f (by omega)
  have e224 : (x == 224) = false := by rw [beq_eq_false_iff_ne]; omega
  have e237 : (x == 237) = false := by rw [beq_eq_false_iff_ne]; omega
  have e240 : (x == 240) = false := by rw [beq_eq_false_iff_ne]; omega
  have e244 : (x == 244) = false := by rw [beq_eq_false_iff_ne]; omega
  cases hzt : rng z 128 191 with
  | false =>
    rw [show tbl x y z v = 0 by clear hx hy hz hv; simp [tbl, *]]
    go_enter Tryd.func46, Tryd.ntmps46
    go_wp2_with (first
      | (go_at_call 60; refine (at_at a0 cap l _ _ hB (by omega) (by assumption)).mono ?_; rintro e w' ⟨rfl, rfl⟩)
      | (go_at_call 61; refine (in_at _ _ _ _ (by assumption)).mono ?_; rintro e w' ⟨rfl, rfl⟩))
    go_ret
    exact ⟨rfl, rfl⟩
  | true =>
    cases hvt : rng v 128 191 with
    | false =>
      rw [show tbl x y z v = 0 by clear hx hy hz hv; simp [tbl, *]]
      go_enter Tryd.func46, Tryd.ntmps46
      go_wp2_with (first
        | (go_at_call 60; refine (at_at a0 cap l _ _ hB (by omega) (by assumption)).mono ?_; rintro e w' ⟨rfl, rfl⟩)
        | (go_at_call 61; refine (in_at _ _ _ _ (by assumption)).mono ?_; rintro e w' ⟨rfl, rfl⟩))
      go_ret
      exact ⟨rfl, rfl⟩
    | true =>
      rw [show tbl x y z v = 0 by clear hx hy hz hv; simp [tbl, *]]
      go_enter Tryd.func46, Tryd.ntmps46
      go_wp2_with (first
        | (go_at_call 60; refine (at_at a0 cap l _ _ hB (by omega) (by assumption)).mono ?_; rintro e w' ⟨rfl, rfl⟩)
        | (go_at_call 61; refine (in_at _ _ _ _ (by assumption)).mono ?_; rintro e w' ⟨rfl, rfl⟩))
      go_ret
      exact ⟨rfl, rfl⟩

theorem Long_tbl (a0 : Option Addr) (cap p : Nat) (l : List Int) (w : World) (hB : IsB w a0 cap l) (hp : p ≤ l.length) :
    Calls Tryd.prog 46 #[.slice a0 l.length cap, .int .i64 p] w fun e w' => e = .returned (.int .i64 (tbl (byt l p) (byt l (p + 1)) (byt l (p + 2)) (byt l (p + 3)))) ∧ w' = w := by
  have hx : byt l (p : Int).toNat = byt l p := rfl
  have hy : byt l ((p : Int) + 1).toNat = byt l (p + 1) := rfl
  have hz : byt l ((p : Int) + 2).toNat = byt l (p + 2) := rfl
  have hv : byt l ((p : Int) + 3).toNat = byt l (p + 3) := rfl
  generalize byt l p = x at hx ⊢
  generalize byt l (p + 1) = y at hy ⊢
  generalize byt l (p + 2) = z at hz ⊢
  generalize byt l (p + 3) = v at hv ⊢
  have : (0 ≤ x ∧ x ≤ 127) ∨ (194 ≤ x ∧ x ≤ 223) ∨ (224 ≤ x ∧ x ≤ 224) ∨ (225 ≤ x ∧ x ≤ 236) ∨ (237 ≤ x ∧ x ≤ 237) ∨ (238 ≤ x ∧ x ≤ 239) ∨ (240 ≤ x ∧ x ≤ 240) ∨ (241 ≤ x ∧ x ≤ 243) ∨ (244 ≤ x ∧ x ≤ 244) ∨ (x < 0 ∨ 127 < x ∧ x < 194 ∨ 244 < x) := by omega
  rcases this with ⟨h1, h2⟩ | ⟨h1, h2⟩ | ⟨h1, h2⟩ | ⟨h1, h2⟩ | ⟨h1, h2⟩ | ⟨h1, h2⟩ | ⟨h1, h2⟩ | ⟨h1, h2⟩ | ⟨h1, h2⟩ | h
  · exact Long_a a0 cap p l x y z v w hB hp hx hy hz hv h1 h2
  · exact Long_b a0 cap p l x y z v w hB hp hx hy hz hv h1 h2
  · exact Long_c a0 cap p l x y z v w hB hp hx hy hz hv h1 h2
  · exact Long_d a0 cap p l x y z v w hB hp hx hy hz hv h1 h2
  · exact Long_e a0 cap p l x y z v w hB hp hx hy hz hv h1 h2
  · exact Long_f a0 cap p l x y z v w hB hp hx hy hz hv h1 h2
  · exact Long_g a0 cap p l x y z v w hB hp hx hy hz hv h1 h2
  · exact Long_h a0 cap p l x y z v w hB hp hx hy hz hv h1 h2
  · exact Long_i a0 cap p l x y z v w hB hp hx hy hz hv h1 h2
  · exact Long_o a0 cap p l x y z v w hB hp hx hy hz hv h

end Go.Proofs.YtkdnanlgkedjgabDoor
end

section
namespace Go.Proofs.YtkdnanlgkedjgabDoor

theorem byt_drop (l : List Int) (p k : Nat) : byt l (p + k) = byt (l.drop p) k := by
  unfold byt
  simp only [List.length_drop, getD_drop']
  by_cases h : p + k < l.length
  · rw [if_pos h, if_pos (by omega)]
  · rw [if_neg h, if_neg (by omega)]
theorem rng_eq (x lo hi : Int) : rng x lo hi = decide (lo ≤ x ∧ x ≤ hi) := rfl
theorem byt_nil (k : Nat) : byt [] k = -1 := by simp [byt]
theorem byt_cons (a : Int) (r : List Int) : byt (a :: r) 0 = a := by simp [byt]
theorem byt_succ (a : Int) (r : List Int) (k : Nat) : byt (a :: r) (k + 1) = byt r k := by simp [byt]

/-- no encoding begins here -/
theorem tbl_0 {x y z v : Int} (h : x < 0 ∨ 127 < x ∧ x < 194 ∨ 244 < x) : tbl x y z v = 0 := by
  have x0 : rng x 0 127 = false := rng_f (by omega)
  have x1 : rng x 194 223 = false := rng_f (by omega)
  have x2 : rng x 225 236 = false := rng_f (by omega)
  have x3 : rng x 238 239 = false := rng_f (by omega)
  have x4 : rng x 241 243 = false := rng_f (by omega)
  have e0 : (x == 224) = false := by rw [beq_eq_false_iff_ne]; omega
  have e1 : (x == 237) = false := by rw [beq_eq_false_iff_ne]; omega
  have e2 : (x == 240) = false := by rw [beq_eq_false_iff_ne]; omega
  have e3 : (x == 244) = false := by rw [beq_eq_false_iff_ne]; omega
  simp [tbl, *]
theorem tbl_1 {x y z v : Int} (h0 : 0 ≤ x) (h : x ≤ 127) : tbl x y z v = 1 := by
  have x0 : rng x 0 127 = true := rng_t (by omega) (by omega)
  simp [tbl, x0]
theorem tbl_2 {x y z v : Int} (h0 : 194 ≤ x) (h : x ≤ 223) : tbl x y z v = if rng y 128 191 then 2 else 0 := by
  have x0 : rng x 0 127 = false := rng_f (by omega)
  have x1 : rng x 194 223 = true := rng_t (by omega) (by omega)
  have x2 : rng x 225 236 = false := rng_f (by omega)
  have x3 : rng x 238 239 = false := rng_f (by omega)
  have x4 : rng x 241 243 = false := rng_f (by omega)
  have e0 : (x == 224) = false := by rw [beq_eq_false_iff_ne]; omega
  have e1 : (x == 237) = false := by rw [beq_eq_false_iff_ne]; omega
  have e2 : (x == 240) = false := by rw [beq_eq_false_iff_ne]; omega
  have e3 : (x == 244) = false := by rw [beq_eq_false_iff_ne]; omega
  simp [tbl, *]
theorem tbl_3 {x y z v : Int} (h0 : 224 ≤ x) (h : x ≤ 239) : tbl x y z v = if sec x y && isTail z then 3 else 0 := by
  have x0 : rng x 0 127 = false := rng_f (by omega)
  have x1 : rng x 194 223 = false := rng_f (by omega)
  have x4 : rng x 241 243 = false := rng_f (by omega)
  have e2 : (x == 240) = false := by rw [beq_eq_false_iff_ne]; omega
  have e3 : (x == 244) = false := by rw [beq_eq_false_iff_ne]; omega
  have ht : rng z 128 191 = isTail z := by unfold rng isTail; congr 1; apply propext; constructor <;> intro h <;> omega
  have hs : ((x == 224) && rng y 160 191 || rng x 225 236 && rng y 128 191 || (x == 237) && rng y 128 159 || rng x 238 239 && rng y 128 191) = sec x y := by
    rw [Bool.eq_iff_iff]
    simp only [rng, sec, Bool.or_eq_true, Bool.and_eq_true, beq_iff_eq, decide_eq_true_eq]
    omega
  simp only [tbl, x0, x1, x4, e2, e3, Bool.false_and, Bool.and_false, Bool.or_false, Bool.false_eq_true, if_false, hs, ht]
  cases isTail z <;> cases sec x y <;> rfl
theorem tbl_4 {x y z v : Int} (h0 : 240 ≤ x) (h : x ≤ 244) : tbl x y z v = if sec x y && (isTail z && isTail v) then 4 else 0 := by
  have x0 : rng x 0 127 = false := rng_f (by omega)
  have x1 : rng x 194 223 = false := rng_f (by omega)
  have x2 : rng x 225 236 = false := rng_f (by omega)
  have x3 : rng x 238 239 = false := rng_f (by omega)
  have e0 : (x == 224) = false := by rw [beq_eq_false_iff_ne]; omega
  have e1 : (x == 237) = false := by rw [beq_eq_false_iff_ne]; omega
  have ht : rng z 128 191 = isTail z := by unfold rng isTail; congr 1; apply propext; constructor <;> intro h <;> omega
  have hv : rng v 128 191 = isTail v := by unfold rng isTail; congr 1; apply propext; constructor <;> intro h <;> omega
  have hs : ((x == 240) && rng y 144 191 || rng x 241 243 && rng y 128 191 || (x == 244) && rng y 128 143) = sec x y := by
    rw [Bool.eq_iff_iff]
    simp only [rng, sec, Bool.or_eq_true, Bool.and_eq_true, beq_iff_eq, decide_eq_true_eq]
    omega
  simp only [tbl, x0, x1, x2, x3, e0, e1, Bool.false_and, Bool.and_false, Bool.or_false, Bool.false_eq_true, if_false, hs, ht, hv]
  cases isTail z <;> cases isTail v <;> cases sec x y <;> rfl

theorem sec_none {x : Int} : sec x (-1) = false := decide_eq_false (by omega)
theorem tail_none : isTail (-1) = false := by decide

theorem tbl_lng (l : List Int) (hl : ∀ x ∈ l, 0 ≤ x ∧ x ≤ 255) : tbl (byt l 0) (byt l 1) (byt l 2) (byt l 3) = lng l := by
  match l, hl with
  | [], _ => rw [byt_nil, tbl_0 (by omega)]; rfl
  | a :: r, hl =>
    have ha := hl a (by simp)
    rw [byt_cons, byt_succ a r 0, byt_succ a r 1, byt_succ a r 2]
    have : a ≤ 127 ∨ (127 < a ∧ a < 194 ∨ 244 < a) ∨ (194 ≤ a ∧ a ≤ 223) ∨ (224 ≤ a ∧ a ≤ 239) ∨ (240 ≤ a ∧ a ≤ 244) := by omega
    rcases this with h | h | h | h | h
    · rw [tbl_1 ha.1 h]
      have hn := need_1' (a := a) (by omega)
      have hw : whole [a] = true := whole_one hn
      simp only [lng, hn]
      show 1 = if whole [a] = true then 1 else 0
      rw [if_pos hw]
    · rw [tbl_0 (by omega)]
      have hn := need_0' (a := a) (by omega)
      simp only [lng, hn]
      rfl
    · rw [tbl_2 h.1 h.2]
      have hn := need_2' (a := a) (by omega) (by omega)
      cases r with
      | nil =>
        rw [byt_nil]
        have hw : whole [a] = false := whole_len (by simp; omega)
        simp only [lng, hn]
        show (if rng (-1) 128 191 = true then 2 else 0) = if whole [a] = true then 2 else 0
        rw [hw]; rfl
      | cons b t =>
        have hw : whole [a, b] = sec a b := by rw [whole_more (by rw [hn]; rfl)]; simp
        have hs : rng b 128 191 = sec a b := by
          rw [Bool.eq_iff_iff]
          simp only [rng, sec, decide_eq_true_eq]
          omega
        rw [byt_cons, hs]
        simp only [lng, hn]
        show (if sec a b = true then 2 else 0) = if whole [a, b] = true then 2 else 0
        rw [hw]
    · rw [tbl_3 h.1 h.2]
      have hn := need_3' (a := a) (by omega) (by omega)
      match r with
      | [] =>
        rw [byt_nil, sec_none]
        have hw : whole [a] = false := whole_len (by simp; omega)
        simp only [lng, hn]
        show 0 = if whole [a] = true then 3 else 0
        rw [hw]; rfl
      | [b] =>
        rw [byt_succ, byt_nil, tail_none, Bool.and_false]
        have hw : whole [a, b] = false := whole_len (by simp; omega)
        simp only [lng, hn]
        show 0 = if whole [a, b] = true then 3 else 0
        rw [hw]; rfl
      | b :: c :: t =>
        have hw : whole [a, b, c] = (sec a b && isTail c) := by rw [whole_more (by rw [hn]; rfl)]; simp
        rw [byt_cons, byt_succ, byt_cons]
        simp only [lng, hn]
        show (if (sec a b && isTail c) = true then 3 else 0) = if whole [a, b, c] = true then 3 else 0
        rw [hw]
    · rw [tbl_4 h.1 h.2]
      have hn := need_4' (a := a) (by omega) (by omega)
      match r with
      | [] =>
        rw [byt_nil, sec_none]
        have hw : whole [a] = false := whole_len (by simp; omega)
        simp only [lng, hn]
        show 0 = if whole [a] = true then 4 else 0
        rw [hw]; rfl
      | [b] =>
        rw [byt_succ, byt_nil, tail_none, Bool.false_and, Bool.and_false]
        have hw : whole [a, b] = false := whole_len (by simp; omega)
        simp only [lng, hn]
        show 0 = if whole [a, b] = true then 4 else 0
        rw [hw]; rfl
      | [b, c] =>
        rw [byt_succ b [c] 1, byt_succ c [] 0, byt_nil, tail_none, Bool.and_false, Bool.and_false]
        have hw : whole [a, b, c] = false := whole_len (by simp; omega)
        simp only [lng, hn]
        show 0 = if whole [a, b, c] = true then 4 else 0
        rw [hw]; rfl
      | b :: c :: d :: t =>
        have hw : whole [a, b, c, d] = (sec a b && (isTail c && isTail d)) := by rw [whole_more (by rw [hn]; rfl)]; simp
        rw [byt_cons, byt_succ, byt_cons, byt_succ b _ 1, byt_succ c _ 0, byt_cons]
        simp only [lng, hn]
        show (if (sec a b && (isTail c && isTail d)) = true then 4 else 0) = if whole [a, b, c, d] = true then 4 else 0
        rw [hw]

theorem Long_at (a0 : Option Addr) (cap p : Nat) (l : List Int) (w : World) (hB : IsB w a0 cap l) (hp : p ≤ l.length) :
    Calls Tryd.prog 46 #[.slice a0 l.length cap, .int .i64 p] w fun e w' => e = .returned (.int .i64 (lng (l.drop p))) ∧ w' = w := by
  have := Long_tbl a0 cap p l w hB hp
  have hl := hB.2.2.2
  rw [byt_drop l p 1, byt_drop l p 2, byt_drop l p 3, show byt l p = byt (l.drop p) 0 from byt_drop l p 0, tbl_lng _ (fun x hx => hl x (List.mem_of_mem_drop hx))] at this
  exact this

end Go.Proofs.YtkdnanlgkedjgabDoor
end

section
namespace Go.Proofs.YtkdnanlgkedjgabDoor
open Go.ChangeShapes Go.WideShapes Go.ChangeAt Go.RowKit

theorem inside_f {l : List Int} {p : Nat} (hno : ∀ j, 1 ≤ j → j ≤ 3 → j ≤ p → ¬ j < lng (l.drop (p - j))) : inside l p = false := by
  have := flr_no hno
  rwa [flr_inside] at this
theorem inside_t {l : List Int} {q k : Nat} (h1 : 1 ≤ k) (h : k < lng (l.drop q)) : inside l (q + k) = true := (inside_iff _ _).2 ⟨q, by omega, by omega⟩

set_option maxHeartbeats 400000 in
theorem Inside_at (a0 : Option Addr) (cap p : Nat) (l : List Int) (w : World) (hB : IsB w a0 cap l) (hp : p ≤ l.length) :
    Calls Tryd.prog 29 #[.slice a0 l.length cap, .int .i64 p] w fun e w' => e = .returned (.bool (inside l p)) ∧ w' = w := by
  have hl : l.length ≤ 140737488351232 := by obtain ⟨h1, h2, _⟩ := hB; omega
  go_enter Tryd.func29, Tryd.ntmps29
  go_wp2
  go_loop [5] (fun i => ∃ k : Nat, 1 ≤ k ∧ k ≤ 4 ∧ i = .int .i64 k ∧ (∀ j, 1 ≤ j → j < k → j ≤ p → ¬ j < lng (l.drop (p - j)))) (fun i => 4 - (intOf i).toNat)
  case atStart => exact ⟨1, by omega, by omega, rfl, fun j h1 h2 => absurd h1 (by omega)⟩
  case round =>
    obtain ⟨k, hk1, hk4, rfl, hno⟩ := hrel
    have Hno := hide hno
    clear hno
    by_cases hk3 : k ≤ 3
    · by_cases hkp : k ≤ p
      · obtain ⟨q, hq⟩ : ∃ q, p = q + k := ⟨p - k, by omega⟩
        have hqk : (p : Int) - (k : Int) = (q : Int) := by omega
        have hql : q ≤ l.length := by omega
        have hpq : p - k = q := by omega
        have d0 : decide (0 ≤ (q : Int)) = true := decide_eq_true (by omega)
        by_cases hlk : k < lng (l.drop q)
        · have HE : Hid (inside l p = true) := hide (by rw [hq]; exact inside_t hk1 hlk)
          clear hq hpq
          go_wp2_with (go_at_call 46; refine (Long_at a0 cap q l _ hB hql).mono ?_; rintro e w' ⟨rfl, rfl⟩)
          all_goals go_ret
          all_goals exact ⟨ret_bool (unhide HE).symm, rfl⟩
        · have HK := hide hlk
          have HP := hide hpq
          clear hq hpq
          go_wp2_with (go_at_call 46; refine (Long_at a0 cap q l _ hB hql).mono ?_; rintro e w' ⟨rfl, rfl⟩)
          refine ⟨⟨k + 1, by omega, by omega, by go_num, fun j h1 h2 h3 => ?_⟩, by simp [intOf]; omega⟩
          by_cases hj : j = k
          · subst hj; rw [unhide HP]; exact unhide HK
          · exact unhide Hno j h1 (by omega) h3
      · have hneg : (p : Int) - (k : Int) < 0 := by omega
        have d0 : decide (0 ≤ (p : Int) - (k : Int)) = false := decide_eq_false (by omega)
        go_wp2
        refine ⟨⟨k + 1, by omega, by omega, by go_num, fun j h1 h2 h3 => ?_⟩, by simp [intOf]; omega⟩
        exact unhide Hno j h1 (by omega) h3
    · have HE : Hid (inside l p = false) := hide (inside_f (fun j h1 h2 h3 => unhide Hno j h1 (by omega) h3))
      go_wp2
      all_goals go_ret
      all_goals exact ⟨ret_bool (unhide HE).symm, rfl⟩

theorem Inside_is (a0 : Option Addr) (cap p : Nat) (l : List Int) {v : Bool} (w : World) (hB : IsB w a0 cap l) (hp : p ≤ l.length) (h : inside l p = v) :
    Calls Tryd.prog 29 #[.slice a0 l.length cap, .int .i64 p] w fun e w' => e = .returned (.bool v) ∧ w' = w := by
  subst h
  exact Inside_at a0 cap p l w hB hp

/-- where an encoding begins, its parts -/
theorem lng_parts {l : List Int} {p n : Nat} (h : lng (l.drop p) = n + 1) : ∃ a r, l.drop p = a :: r ∧ need a = ((n + 1 : Nat) : Int) ∧ whole (a :: r.take n) = true ∧ n ≤ r.length := by
  cases hd : l.drop p with
  | nil => rw [hd] at h; simp [lng] at h
  | cons a r =>
    rw [hd] at h
    have hlen := lng_len (a :: r)
    rw [h] at hlen
    simp only [lng] at h
    split at h
    · rename_i hw
      have := need_lo a
      rw [h, List.take_succ_cons] at hw
      refine ⟨a, r, rfl, by omega, hw, by simpa using hlen⟩
    · omega
theorem stp_bad {l : List Int} (h : lng l = 0) : stp l = stepV 65533 1 false := by
  cases l with
  | nil => simp [stp, wid, whl, first, lng]
  | cons a r =>
    have hw : wid (a :: r) = 1 := by rw [wid_lng, if_pos h]
    have hf : (first (a :: r)).1 = 65533 := by
      simp only [first]
      split
      · rename_i hw
        simp only [lng, if_pos hw] at h
        rw [h] at hw
        cases hw
      · rfl
    simp [stp, hw, hf, whl, h]
theorem stp_whole {l : List Int} {a : Int} {r : List Int} {n : Nat} (hl : l = a :: r) (hn : need a = ((n + 1 : Nat) : Int)) (hw : whole (a :: r.take n) = true) : stp l = stepV (fold (lead a) (r.take n)) (n + 1) true := by
  subst hl
  have e : (a :: r).take (need a).toNat = a :: r.take n := by rw [hn]; rfl
  have hl : lng (a :: r) = n + 1 := by
    show (if whole ((a :: r).take (need a).toNat) = true then (need a).toNat else 0) = n + 1
    rw [e, if_pos hw, hn]; rfl
  have hv : first (a :: r) = (fold (lead a) (r.take n), n + 1) := by
    show (if whole ((a :: r).take (need a).toNat) = true then (value ((a :: r).take (need a).toNat), (need a).toNat) else (65533, 1)) = _
    rw [e, if_pos hw, hn, value_yes hw]; rfl
  simp [stp, wid, whl, hl, hv]

end Go.Proofs.YtkdnanlgkedjgabDoor
end

section
namespace Go.Proofs.YtkdnanlgkedjgabDoor
open Go.ChangeShapes Go.WideShapes Go.ChangeAt Go.RowKit

theorem flr_last {l : List Int} {p q : Nat} (h1 : flr l p ≤ q) (h2 : q ≤ p) (h : inside l q = false) : q = flr l p := by
  cases hi : inside l p with
  | false => rw [flr_eq hi] at h1 ⊢; omega
  | true =>
    obtain ⟨a, b⟩ := flr_over hi
    rcases Nat.eq_or_lt_of_le h1 with e | e
    · exact e.symm
    · have := (inside_iff l q).2 ⟨flr l p, e, by omega⟩
      rw [h] at this; cases this
theorem flr_more {l : List Int} {p q : Nat} (h1 : flr l p ≤ q) (h : inside l q = true) : flr l p ≤ q - 1 ∧ 1 ≤ q := by
  have he := flr_edge l p
  rcases Nat.eq_or_lt_of_le h1 with e | e
  · rw [e, h] at he; cases he
  · omega
theorem ceil_ge (l : List Int) (p : Nat) : p ≤ ceil l p := by
  unfold ceil
  split
  · rename_i h; have := flr_wid h; omega
  · exact Nat.le_refl _
theorem ceil_le {l : List Int} {p : Nat} (hp : p ≤ l.length) : ceil l p ≤ l.length := by
  unfold ceil
  split
  · rename_i h; have := flr_wid h; exact wid_len (by omega)
  · exact hp
theorem ceil_edge {l : List Int} {p : Nat} (hp : p ≤ l.length) : inside l (ceil l p) = false := by
  unfold ceil
  cases h : inside l p with
  | false => simpa using h
  | true => have := flr_wid h; simp only [if_true]; exact edge_next (flr_edge l p) (by omega)
theorem ceil_last {l : List Int} {p q : Nat} (hp : p ≤ l.length) (h1 : p ≤ q) (h2 : q ≤ ceil l p) (h : inside l q = false) : q = ceil l p := by
  unfold ceil at h2 ⊢
  cases hi : inside l p with
  | false => rw [hi] at h2; simp at h2 ⊢; omega
  | true =>
    rw [hi] at h2
    simp only [if_true] at h2 ⊢
    obtain ⟨a, b⟩ := flr_wid hi
    rcases Nat.eq_or_lt_of_le h2 with e | e
    · exact e
    · have := edge_between (l := l) (p := flr l p) (k := q - flr l p) (by omega) (by omega) (by omega)
      rw [show flr l p + (q - flr l p) = q by omega, h] at this; cases this
theorem ceil_more {l : List Int} {p q : Nat} (hp : p ≤ l.length) (h2 : q ≤ ceil l p) (h : inside l q = true) : q + 1 ≤ ceil l p := by
  have he := ceil_edge hp
  rcases Nat.eq_or_lt_of_le h2 with e | e
  · rw [← e, h] at he; cases he
  · omega

end Go.Proofs.YtkdnanlgkedjgabDoor
end

section
namespace Go.Proofs.YtkdnanlgkedjgabDoor
open Go.ChangeShapes Go.WideShapes Go.ChangeAt Go.RowKit
/-- texts in a row -/
def txC (ps : List (List Int)) : List Value := ps.map fun p => .string (strOfNums p)
def IsTx (X : World) (a : Option Addr) (ps : List (List Int)) : Prop := ps = [] ∨ ∃ g off, a = some ⟨g, off, none⟩ ∧ g < X.heap.size ∧ ∀ k, k < ps.length → X.cell? ⟨g, off + k, none⟩ = some (.string (strOfNums (ps.getD k [])))
theorem IsTx.below {X Y : World} {B : Nat} {a : Option Addr} {ps : List (List Int)} (h : IsTx X a ps) (hb : Below B X Y) (hB : X.heap.size ≤ B) : IsTx Y a ps := by
  rcases h with h | ⟨g, off, h1, h2, h3⟩
  · exact .inl h
  · exact .inr ⟨g, off, h1, Nat.lt_of_lt_of_le h2 hb.size, fun k hk => (hb.cell (p := ⟨g, off + k, none⟩) (Nat.lt_of_lt_of_le h2 hB)).trans (h3 k hk)⟩
theorem ra_txs {X : World} {v : Value} {ps : List (List Int)} {k : Option Nat} (h : RA X 1 v ps.length (txC ps) k) : ∃ a c, v = .slice a ps.length c ∧ IsTx X a ps := by
  rcases h.val with ⟨rfl, h0, _⟩ | ⟨g, off, c, rfl, _, hg, _, _, hc⟩
  · exact ⟨none, 0, by rw [h0], .inl (List.length_eq_zero_iff.1 h0)⟩
  · refine ⟨_, c, rfl, .inr ⟨g, off, rfl, hg, fun j hj => ?_⟩⟩
    rw [hc _ (by omega)]
    simp [txC, List.getD, List.getElem?_eq_getElem hj]
set_option maxRecDepth 100000 in
theorem push_txt (W : World) (v : Value) (n : Nat) (xs : List Value) (k : Option Nat) (s : ByteArray) (ty : TypeId) (h : RA W 1 v n xs k) (hn : n ≤ 1000000000) :
    ∃ v' Y k', (Builtin.append_ #[109, 109] ty #[v, .slice (some ⟨W.heap.size, 0, none⟩) 1 1]).run Tryd.prog (W.alloc (.cells #[.string s] 9)) = .ok v' Y ∧
      RA Y 1 v' (n + 1) (xs ++ [.string s]) k' ∧ KpF (fun b => k = some b) W Y ∧ ∀ G, k' = some G → (k = some G ∨ W.heap.size ≤ G) := by
  have h1 := h.allocd (.cells #[.string s] 9)
  obtain ⟨v', Y, k', hr, h2, h3, h4⟩ := h1.push (P := Tryd.prog) 109 ty 9 _ _ 16 Tryd.underlying109 rfl rfl rfl rfl rfl ⟨W.heap.size, 0, none⟩ 1 [.string s] rfl (fun j u hj => by
      cases j with
      | zero => simp at hj; subst hj; rw [Addr.add_lit]; exact (World.cell?_alloc_mark W _ _ (0, 0) 0).trans rfl
      | succ j => simp at hj) (fun u hu => by simp at hu; subst hu; rfl) hn (by omega)
  refine ⟨v', Y, k', hr, h2, (KpF.alloc (fun b => k = some b) W _).trans h3 (fun _ _ g => g), fun G hG => ?_⟩
  rcases h4 with ⟨e, _⟩ | e
  · exact .inl (e ▸ hG)
  · rw [e] at hG; cases hG; refine .inr ?_; simp
/-- what the loop over the edges keeps -/
structure TxI (w X : World) (ps : List (List Int)) (v : Value) : Prop where
  row : ∃ k, RA X 1 v ps.length (txC ps) k ∧ ∀ G, k = some G → w.heap.size ≤ G
  b : Below w.heap.size w X
theorem TxI.push {w X : World} {ps : List (List Int)} {v : Value} (h : TxI w X ps v) (p : List Int) (ty : TypeId) (hn : ps.length ≤ 2000000) :
    ∃ v' Y, (Builtin.append_ #[109, 109] ty #[v, .slice (some ⟨X.heap.size, 0, none⟩) 1 1]).run Tryd.prog (X.alloc (.cells #[.string (strOfNums p)] 9)) = .ok v' Y ∧ TxI w Y (ps ++ [p]) v' ∧ Below w.heap.size X Y := by
  obtain ⟨k, h1, h2⟩ := h.row
  obtain ⟨v', Y, k', r1, r2, r3, r4⟩ := push_txt X v ps.length (txC ps) k (strOfNums p) ty h1 (by omega)
  have hz := h.b.size
  have hb := r3.below hz (fun b e => h2 b e)
  refine ⟨v', Y, r1, ⟨⟨k', ?_, fun G hG => ?_⟩, h.b.trans hb⟩, hb⟩
  · rw [List.length_append, List.length_singleton, show txC (ps ++ [p]) = txC ps ++ [.string (strOfNums p)] by simp [txC]]; exact r2
  · rcases r4 G hG with e | e
    · exact h2 G e
    · omega
theorem TxI.dr {w X : World} {ps : List (List Int)} {v : Value} (h : TxI w X ps v) : TxI w X.drew ps v := by
  obtain ⟨k, h1, h2⟩ := h.row
  exact ⟨⟨k, h1.dN 1, h2⟩, h.b.drew⟩
end Go.Proofs.YtkdnanlgkedjgabDoor
end

section
namespace Go.Proofs.YtkdnanlgkedjgabDoor
open Go.ChangeShapes Go.WideShapes Go.ChangeAt Go.RowKit
attribute [local go_sem] Oper.semAt_some

theorem cnt_le (l : List Int) : (cutP l (cutS l)).length ≤ l.length := by have h := cutP_cnt (cutS_ok l); have := (cutS_ok l).len; omega
theorem alo_comm (l m : List Int) : aloN cutS l m = aloN cutS m l := by unfold aloN; rw [lcs_comm, Nat.add_comm]
theorem alo_zero (l m : List Int) : aloN cutS l m = 0 ↔ l = m := by
  have h := lcs_len (cutP l (cutS l)) (cutP m (cutS m))
  constructor
  · intro e
    unfold aloN at e
    have := lcs_all (x := cutP l (cutS l)) (y := cutP m (cutS m)) (by omega) (by omega)
    rw [← (cutS_ok l).flat, this, (cutS_ok m).flat]
  · rintro rfl
    unfold aloN
    rw [lcs_self]; omega
theorem alo_tri (l m n : List Int) : aloN cutS l n ≤ aloN cutS l m + aloN cutS m n := by
  have h1 := lcs_tri (cutP l (cutS l)) (cutP m (cutS m)) (cutP n (cutS n))
  have h2 := lcs_len (cutP l (cutS l)) (cutP m (cutS m))
  have h3 := lcs_len (cutP m (cutS m)) (cutP n (cutS n))
  unfold aloN
  omega
theorem alo_dif (l m : List Int) : aloN cutS l m ≤ (cutP l (cutS l)).length + (cutP m (cutS m)).length ∧ (cutP l (cutS l)).length ≤ aloN cutS l m + (cutP m (cutS m)).length ∧ (cutP m (cutS m)).length ≤ aloN cutS l m + (cutP l (cutS l)).length := by
  have h2 := lcs_len (cutP l (cutS l)) (cutP m (cutS m))
  unfold aloN
  omega
theorem cut_small {l : List Int} (h : ¬ 700 < l.length) : (cutS l).length ≤ 2049 := by have := (cutS_ok l).len; omega
end Go.Proofs.YtkdnanlgkedjgabDoor
end
