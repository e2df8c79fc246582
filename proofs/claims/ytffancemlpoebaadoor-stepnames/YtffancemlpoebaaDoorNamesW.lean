/- The walk of StepNames: a closed sentence: the document's table. -/
import Derived.Test.YtffancemlpoebaaDoorNam
import Derived.Test.YtffancemlpoebaaDoorItsX
namespace Go.Proofs.YtffancemlpoebaaDoor
open Go.ChangeShapes Go.WideShapes Go.ChangeAt Go.RowKit
attribute [local go_sem] Oper.semAt_some

/-- only the plain way out -/
def onlyN (Q : Exit → Act → World → Prop) : Exit → Act → World → Prop
  | .normal, a, w => Q .normal a w
  | _, _, _ => False
theorem wp_onlyN {P : Program} {c : Code} {Q : Exit → Act → World → Prop} {a : Act} {w : World} (h : c.wp P (onlyN Q) a w) : c.wp P Q a w :=
  wp_mono h (fun e a w h => by cases e <;> first | exact h | exact h.elim)

def row (k : Nat) : List Int × List Int × Nat := rows.getD k ([], [], 0)
theorem row_mem {k : Nat} (h : k < 9) : row k ∈ rows := by
  have : k < rows.length := h
  unfold row
  rw [List.getD, List.getElem?_eq_getElem this]
  exact List.getElem_mem this
def RowsAt (W : World) (gT : Nat) : Prop := ∀ k, k < 9 → W.cell? ⟨gT, k * 3, none⟩ = some (.string (strOfNums (row k).1)) ∧ W.cell? ⟨gT, k * 3 + 1, none⟩ = some (.string (strOfNums (row k).2.1)) ∧ W.cell? ⟨gT, k * 3 + 2, none⟩ = some (.int .i64 ((row k).2.2 : Nat))
theorem RowsAt.below {W W' : World} {B gT : Nat} (h : RowsAt W gT) (hb : Below B W W') (hB : gT < B) : RowsAt W' gT := fun k hk =>
  ⟨(hb.cell (p := ⟨gT, k * 3, none⟩) hB).trans (h k hk).1, (hb.cell (p := ⟨gT, k * 3 + 1, none⟩) hB).trans (h k hk).2.1, (hb.cell (p := ⟨gT, k * 3 + 2, none⟩) hB).trans (h k hk).2.2⟩
def cellsT : Array Value := (rows.flatMap fun r => [.string (strOfNums r.1), .string (strOfNums r.2.1), .int .i64 (r.2.2 : Nat)]).toArray
theorem rows_at (w1 : World) (t : TypeId) : RowsAt (w1.alloc (.cells cellsT t)) w1.heap.size := by
  intro k hk
  have : k = 0 ∨ k = 1 ∨ k = 2 ∨ k = 3 ∨ k = 4 ∨ k = 5 ∨ k = 6 ∨ k = 7 ∨ k = 8 := by omega
  rcases this with rfl | rfl | rfl | rfl | rfl | rfl | rfl | rfl | rfl
  all_goals exact ⟨(World.cell?_alloc_mark w1 cellsT t (0, 0) _).trans rfl, (World.cell?_alloc_mark w1 cellsT t (0, 0) _).trans rfl, (World.cell?_alloc_mark w1 cellsT t (0, 0) _).trans rfl⟩

set_option maxRecDepth 100000 in
set_option maxHeartbeats 8000000 in
theorem StepNames_any (w : World) (hT : Tab w) :
    Calls Tryd.prog 3 #[] w fun e w' => e = .returned (.bool true) ∧ Below w.heap.size w w' := by
  refine (callsIn_wide (n := 3)).1 ?_
  refine callsIn_of_wp_marks Tryd.func3 rfl trivial ?_ rfl
  simp only [Tryd.ntmps3, List.size_toArray, List.length_nil, Nat.reduceSub, Array.replicate_succ, Array.replicate_zero, List.push_toArray, List.append_toArray, List.nil_append, List.cons_append]
  refine wpIn_wide.2 ?_
  go_wp2_with fail
  refine (fixed_any w hT).mono ?_
  rintro e w1 ⟨rfl, x1⟩
  have hT1 := hT.below x1 hT.size
  have d1 := (Below.refl w1.heap.size w1).alloc (Nat.le_refl _) (.cells cellsT 23)
  have r1 := rows_at w1 23
  have z1 : w1.heap.size < (w1.alloc (.cells cellsT 23)).heap.size := by simp
  have hT2 := hT1.below d1 hT1.size
  have b2 := x1.trans (d1.mono x1.size)
  clear hT hT1 d1 x1
  go_wp2_with fail
  change Code.wp _ _ _ _ (w1.alloc (.cells cellsT 23))
  generalize w1.alloc (.cells cellsT 23) = w2 at *
  generalize w1.heap.size = gT at *
  refine wp_loop (fun a W => ∃ (u0 u1 u2 u3 u4 u5 u6 u7 u8 u9 u10 u11 u12 u13 u14 u15 u16 u17 u18 u22 u23 u24 u25 u26 u27 u28 u29 u30 u31 u32 u33 u34 u35 u36 u37 u38 u39 u40 u41 u42 u43 u44 u45 u46 u47 u48 u49 u50 : Value) (k : Nat) (ds : List Nat), a = { tmps := #[u0, u1, u2, u3, u4, u5, u6, u7, u8, u9, u10, u11, u12, u13, u14, u15, u16, u17, u18, .slice (some ⟨gT, 0, none⟩) 9 9, .int .i64 9, .int .i64 k, u22, u23, u24, u25, u26, u27, u28, u29, u30, u31, u32, u33, u34, u35, u36, u37, u38, u39, u40, u41, u42, u43, u44, u45, u46, u47, u48, u49, u50], defers := marks ds } ∧ k ≤ 9 ∧ RowsAt W gT ∧ gT < W.heap.size ∧ Tab W ∧ Below w.heap.size w W ∧ Coll W w.heap.size ds) (fun a _ => 9 - (intOf (a.tmps.getD 21 undef)).toNat) ?_ ?_
  · exact ⟨_, _, _, _, _, _, _, _, _, _, _, _, _, _, _, _, _, _, _, _, _, _, _, _, _, _, _, _, _, _, _, _, _, _, _, _, _, _, _, _, _, _, _, _, _, _, _, _, 0, [], rfl, by omega, r1, z1, hT2, b2, List.nodup_nil, fun D h => by cases h⟩
  · rintro a W ⟨u0, u1, u2, u3, u4, u5, u6, u7, u8, u9, u10, u11, u12, u13, u14, u15, u16, u17, u18, u22, u23, u24, u25, u26, u27, u28, u29, u30, u31, u32, u33, u34, u35, u36, u37, u38, u39, u40, u41, u42, u43, u44, u45, u46, u47, u48, u49, u50, k, ds, rfl, hk, hr, hz, hTW, hb, hc⟩
    clear r1 z1 hT2 b2
    by_cases hlt : k < 9
    · obtain ⟨c0, c1, c2⟩ := hr k hlt
      obtain ⟨hl, hl7, hm, hbad, hrun⟩ := rows_ok _ (row_mem hlt)
      have HHL := hide hl; have HHM := hide hm; have HBAD := hide hbad; have HRUN := hide hrun
      clear hl hm hbad hrun
      generalize (row k).1 = l at *
      generalize (row k).2.1 = m at *
      generalize (row k).2.2 = bad at *
      go_upto_region 7 with fail
      have dB : Below W.heap.size W ((W.alloc (.cells #[.string (strOfNums l), .string (strOfNums m), .int .i64 (bad : Nat)] 23)).alloc (.cells #[.int .i64 0] 3)) := ((Below.refl _ W).alloc (Nat.le_refl _) _).alloc (by simp) _
      have bR : Box3 ((W.alloc (.cells #[.string (strOfNums l), .string (strOfNums m), .int .i64 (bad : Nat)] 23)).alloc (.cells #[.int .i64 0] 3)) W.heap.size 23 (.string (strOfNums l)) (.string (strOfNums m)) (.int .i64 (bad : Nat)) := (Box3.new W _ _ _ _).kept (World.grownBy_alloc _ _ none) (by simp)
      have bB := Boxed.new (W.alloc (.cells #[.string (strOfNums l), .string (strOfNums m), .int .i64 (bad : Nat)] 23)) 3 (.int .i64 0)
      rw [World.size_alloc] at bB
      have hs : ((W.alloc (.cells #[.string (strOfNums l), .string (strOfNums m), .int .i64 (bad : Nat)] 23)).alloc (.cells #[.int .i64 0] 3)).heap.size = W.heap.size + 2 := by simp
      generalize (W.alloc (.cells #[.string (strOfNums l), .string (strOfNums m), .int .i64 (bad : Nat)] 23)).alloc (.cells #[.int .i64 0] 3) = wb at *
      obtain ⟨c5, wc, hcv, hB5, x5⟩ := run_toBytes wb l (unhide HHL) (by omega)
      obtain ⟨e0, e1, e2⟩ := bR.cells
      have hs' := hide hs
      clear hs
      generalize hg2 : W.heap.size = g2 at *
      go_wp2_with fail
      refine (All_at _ c5 l wc hB5).mono ?_
      rintro e wd ⟨rfl, rfl⟩
      have dd := (Below.refl wc.heap.size wc).alloc (Nat.le_refl _) (.cells #[.string (strOfNums l)] 9)
      have cA : (wc.alloc (.cells #[.string (strOfNums l)] 9)).cell? ⟨wc.heap.size, 0, none⟩ = some (.string (strOfNums l)) := (World.cell?_alloc_mark wc _ _ (0, 0) 0).trans rfl
      have hsd : (wc.alloc (.cells #[.string (strOfNums l)] 9)).heap.size = wc.heap.size + 1 := by simp
      have x5s := x5.size
      have xd : Below wb.heap.size wb (wc.alloc (.cells #[.string (strOfNums l)] 9)) := x5.trans (dd.mono x5s)
      go_wp2_with fail
      generalize wc.alloc (.cells #[.string (strOfNums l)] 9) = wd at *
      generalize hgS : wb.heap.size = gS at *
      generalize hgAe : wc.heap.size = gA at *
      have hgB : Boxed wd (g2 + 1) 3 (.int .i64 0) := bB.kept (grown_below none (by rw [hgS]; exact xd)) (by simp)
      have bRd : Box3 wd g2 23 (.string (strOfNums l)) (.string (strOfNums m)) (.int .i64 (bad : Nat)) := bR.kept (grown_below none (by rw [hgS]; exact xd)) (by simp)
      have h0g : 0 < g2 := by rw [← hg2]; exact hTW.size
      have hTd := hTW.below (dB.trans (xd.mono (by have := unhide hs'; omega))) h0g
      have hst := all_stopsX gA wd.heap.size (g2 + 1) l wd cA (by omega) (by have := unhide hs'; omega) (by omega) (Nat.le_refl _) hTd hTd.size (by unfold maxLen; omega) (unhide HHL)
      refine (wpIn_wide (n := 3)).1 ?_
      refine wpIn_rangeFunc_ownH rfl (by decide) (gf := 31) (lb := #[.pointer (some ⟨gA, 0, none⟩)]) rfl trivial (enters_of Tryd.func31 (by kernel_rfl) rfl) hst kx_t (kx_b (Nat.le_refl _)) (Below.refl _ _) (fun _ => rfl)
        (cntB l wd (g2 + 1)) (fun _ _ _ => False) (cntB_own l wd (g2 + 1)) (fun _ _ _ _ _ h _ _ => h) ⟨grown_refl _ _, hgB⟩
        (fun x a' W' => ∃ Bx, wd.heap.size ≤ Bx ∧ Box3 W' Bx 30 (.int .i32 (first (l.drop x)).1) (.int .i64 (wid (l.drop x))) (.bool (whl (l.drop x))) ∧ a' = { tmps := #[u0, u1, .pointer (some ⟨g2, 0, none⟩), .pointer (some ⟨g2 + 1, 0, none⟩), u4, .pointer (some ⟨Bx, 0, none⟩), u6, u7, u8, u9, u10, u11, u12, u13, u14, u15, u16, u17, u18, .slice (some ⟨gT, 0, none⟩) 9 9, .int .i64 9, .int .i64 k, .bool true, .pointer (some ⟨gT, k * 3, none⟩), .agg #[.string (strOfNums l), .string (strOfNums m), .int .i64 (bad : Nat)], .pointer (some ⟨g2, 0, none⟩), .string (strOfNums l), .slice (some ⟨gS, 0, none⟩) l.length c5, .func (.func 31) #[] #[.pointer (some ⟨gA, 0, none⟩)], .int .i64 x, .agg #[.int .i32 (first (l.drop x)).1, .int .i64 (wid (l.drop x)), .bool (whl (l.drop x))], u31, u32, u33, u34, u35, u36, u37, u38, u39, u40, u41, u42, u43, u44, u45, u46, u47, u48, u49, u50], defers := [] })
        ?hAx ?assign ?body ?done ?stop
      case hAx =>
        rintro x a' _ A B row ⟨Bx, h1, h2, h3⟩ hg hr
        refine ⟨Bx, h1, h2.kept hg (fun e => ?_), h3⟩
        obtain ⟨_, o, ho, hcc⟩ := hr _ e.symm
        rw [show A.heap[Bx]? = _ from h2] at ho
        cases ho
        cases hcc
      case assign =>
        rintro lo pre x W' K ⟨hg, hbx⟩ hK
        unfold encS
        gi_wp2
        exact hK _ _ ((KeepsOthers.alloc _ _).from _) ⟨toX ((Below.refl _ W').alloc hg.size _) _, KeepsWalks.alloc _ _⟩ ⟨grown_trans hg (World.grownBy_alloc W' _ none) (fun j e => by cases e), hbx.alloc _⟩ ⟨W'.heap.size, hg.size, Box3.new W' _ _ _ _, rfl⟩
      case body =>
        rintro lo pre x a' W' hlo _ ⟨hg, hbx⟩ ⟨Bx, hBx, bX, rfl⟩ hlt2
        obtain ⟨f0, f1, f2⟩ := bX.cells
        have hcc := hbx.cell
        have hff := hbx.frozen
        have hbl := badOf_le l pre
        have hpl : pre.length ≤ 7 := by have := spots_le l; omega
        cases hw : whl (l.drop x) with
        | true =>
          have hsn := badOf_snoc l pre x
          rw [hw, if_pos rfl, Nat.add_zero] at hsn
          rw [hw] at f2
          gi_wp2
          exact ⟨KeepsFrom.refl _ _, ⟨BelowX.refl _ _ _, KeepsWalks.refl _⟩, hg, by rw [hsn]; exact hbx⟩
        | false =>
          have hsn := badOf_snoc l pre x
          rw [hw, if_neg (by simp)] at hsn
          rw [hw] at f2
          have hbe : Boxed (W'.setCell ⟨g2 + 1, 0, none⟩ (.int .i64 ((badOf l pre : Int) + 1))) (g2 + 1) 3 (.int .i64 (badOf l (pre ++ [x]) : Nat)) := by rw [hsn]; exact hbx.set _
          gi_wp2
          refine ⟨(KeepsOthers.setCell _ _ _).from _, ⟨⟨rfl, rfl, rfl, by simp [World.setCell], fun j _ hj => Below.heap_setCell _ _ _ _ (fun e => hj e)⟩, KeepsWalks.setCell _ _ _⟩, grown_trans hg (grownBy_setCell' W' (g2 + 1) _) (fun j e => by cases e; exact Or.inl rfl), hbe⟩
      case done =>
        rintro D ys W' hD rfl ⟨hg, hbx⟩ hK
        rw [unhide HBAD] at hbx
        have gd : Below g2 W wd := dB.trans (xd.mono (by have := unhide hs'; omega))
        have gW : Below g2 W W' := gd.grown hg (by have := unhide hs'; omega) (fun j e => by cases e; omega)
        have hwg : w.heap.size ≤ g2 := by rw [← hg2]; exact hb.size
        have hr' := hr.below gW hz
        have hT' := hTW.below gW h0g
        have hb' := hb.trans (gW.mono hwg)
        have hc' := hc.below (by rw [hg2]; exact gW)
        have bR' := bRd.kept hg (by simp)
        have hzz : gT < W'.heap.size := Nat.lt_of_lt_of_le hz (Nat.le_trans (by omega) hbx.lt)
        have hcB := hbx.cell
        obtain ⟨s0, s1, s2⟩ := bR'.cells
        have zW : g2 + 1 < W'.heap.size := hbx.lt
        obtain ⟨c6, w6, hcv6, hB6, x6⟩ := run_toBytes W'.drew l (unhide HHL) (by omega)
        have b6 : Below W'.heap.size W' w6 := (Below.refl W'.heap.size W').drew.trans x6
        have S0 : Hid (W'.drew.cell? ⟨g2 + 1, 0, none⟩ = some (.int .i64 (bad : Nat)) ∧ W'.drew.cell? ⟨g2, 0, none⟩ = some (.string (strOfNums l)) ∧ W'.drew.cell? ⟨g2, 1, none⟩ = some (.string (strOfNums m)) ∧ W'.drew.cell? ⟨g2, 2, none⟩ = some (.int .i64 (bad : Nat))) := hide ⟨hcB, s0, s1, s2⟩
        have up : ∀ w9 : World, Below W'.heap.size W' w9 → (w9.cell? ⟨g2 + 1, 0, none⟩ = some (.int .i64 (bad : Nat)) ∧ w9.cell? ⟨g2, 0, none⟩ = some (.string (strOfNums l)) ∧ w9.cell? ⟨g2, 1, none⟩ = some (.string (strOfNums m)) ∧ w9.cell? ⟨g2, 2, none⟩ = some (.int .i64 (bad : Nat))) := fun _ hh =>
          ⟨(hh.cell (p := ⟨g2 + 1, 0, none⟩) zW).trans hcB, (hh.cell (p := ⟨g2, 0, none⟩) (by show g2 < _; omega)).trans s0, (hh.cell (p := ⟨g2, 1, none⟩) (by show g2 < _; omega)).trans s1, (hh.cell (p := ⟨g2, 2, none⟩) (by show g2 < _; omega)).trans s2⟩
        have S6 := hide (up w6 b6)
        have UP := hide up
        have hKD := hide hK
        have hwD : w.heap.size ≤ D := Nat.le_trans hwg (Nat.le_trans (by have := gd.size; omega) hD)
        have hnd : D ∉ ds := fun h => by
          have h1 := heap_lt (hc.2 D h).2
          rw [hg2] at h1
          have h2 := gd.size
          omega
        clear up hcB s0 s1 s2 bR' hr hTW hc gW gd hst hgB bRd hTd dB bR bB xd hcv hB5 x5 dd cA e0 e1 e2 c0 c1 c2 hz hb hK
        go_upto_region 11 with fail
        refine wp_onlyN ?_
        go_region_held_law (fun w' => w'.cell? ⟨g2 + 1, 0, none⟩ = some (.int .i64 (bad : Nat)) ∧ w'.cell? ⟨g2, 0, none⟩ = some (.string (strOfNums l)) ∧ w'.cell? ⟨g2, 1, none⟩ = some (.string (strOfNums m)) ∧ w'.cell? ⟨g2, 2, none⟩ = some (.int .i64 (bad : Nat))) (first | exact unhide S0 | exact unhide S6 | exact unhide S7)
          (first | (go_at_call 11; refine (Runes_at _ c6 l w6 hB6 (by omega)).mono ?_; rintro e w7 ⟨g7, c7, rfl, _, r7, x7⟩; have b7 := b6.trans (x7.mono b6.size); have S7 := hide (unhide UP w7 b7); have kr7 := run_back w7 g7 c7 (runesL l) r7; rw [unhide HRUN] at kr7))
        unfold onlyN
        have hKf := (b7.block D (heap_lt (unhide hKD))).trans (unhide hKD)
        have hcf := hc'.below b7
        have hrf := hr'.below b7 (by omega)
        have hTf := hT'.below b7 hT'.size
        have hbf := hb'.trans (b7.mono hb'.size)
        have hzf : gT < w7.heap.size := Nat.lt_of_lt_of_le hzz b7.size
        go_wp2_with fail
        refine ⟨⟨_, _, _, _, _, _, _, _, _, _, _, _, _, _, _, _, _, _, _, _, _, _, _, _, _, _, _, _, _, _, _, _, _, _, _, _, _, _, _, _, _, _, _, _, _, _, _, _, k + 1, D :: ds, rfl, by omega, hrf, hzf, hTf, hbf, List.nodup_cons.2 ⟨hnd, hcf.1⟩, fun E hE => ?_⟩, by simp [intOf]; omega⟩
        rcases List.mem_cons.1 hE with rfl | hE
        · exact ⟨hwD, hKf⟩
        · exact hcf.2 E hE
      case stop =>
        rintro D c pre W' _ _ h _
        exact h.elim
    · obtain rfl : k = 9 := by omega
      go_wp2_with fail
      exact leaves_coll ds W hc (fun W2 hb2 => ⟨_, results_tmp rfl _ _ _, rfl, hb.trans hb2⟩)

end Go.Proofs.YtffancemlpoebaaDoor
