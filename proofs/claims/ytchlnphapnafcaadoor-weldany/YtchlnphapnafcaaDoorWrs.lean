/- Layer 5: the document's seam (written by wip/tools/wrs.py). -/
import Derived.Test.YtchlnphapnafcaaDoorWrb
namespace Go.Proofs.YtchlnphapnafcaaDoor
open Go.ChangeShapes Go.WideShapes Go.ChangeAt Go.RowKit

structure Sm (w : World) (gA gB gR gZ : Nat) (a b : We) (r u e : Int) (X : World) : Prop where
  A : X.heap[gA]? = some (.cells (wc a) 25 (0, 0))
  B : X.heap[gB]? = some (.cells (wc b) 25 (0, 0))
  R : H4 X gR 23 (.int .i64 0) (.int .i64 0) (.int .i64 0) (.int .i64 0)
  Z : H4 X gZ 23 (.int .i64 0) (.int .i64 r) (.int .i64 u) (.int .i64 e)
  D : Below w.heap.size w X
  G : (w.heap.size ≤ gA ∧ w.heap.size ≤ gB ∧ w.heap.size ≤ gR ∧ w.heap.size ≤ gZ) ∧ gA ≠ gZ ∧ gB ≠ gZ ∧ gR ≠ gZ
theorem Sm.on {w : World} {gA gB gR gZ : Nat} {a b : We} {r u e : Int} {X Y : World} (h : Sm w gA gB gR gZ a b r u e X) (hb : Below X.heap.size X Y) : Sm w gA gB gR gZ a b r u e Y :=
  ⟨(hb.block gA (Array.getElem?_eq_some_iff.1 h.A).1).trans h.A, (hb.block gB (Array.getElem?_eq_some_iff.1 h.B).1).trans h.B, h.R.on hb, h.Z.on hb, h.D.trans (hb.mono h.D.size), h.G⟩
theorem Sm.s1 {w : World} {gA gB gR gZ : Nat} {a b : We} {r u e : Int} {X : World} (h : Sm w gA gB gR gZ a b r u e X) (v : Int) : Sm w gA gB gR gZ a b v u e (X.setCell ⟨gZ, 1, none⟩ (.int .i64 v)) :=
  ⟨(set_other X _ h.G.2.1).trans h.A, (set_other X _ h.G.2.2.1).trans h.B, h.R.other h.G.2.2.2, h.Z.set1 _, h.D.setCell (p := ⟨gZ, 1, none⟩) h.G.1.2.2.2 _, h.G⟩
theorem Sm.s2 {w : World} {gA gB gR gZ : Nat} {a b : We} {r u e : Int} {X : World} (h : Sm w gA gB gR gZ a b r u e X) (v : Int) : Sm w gA gB gR gZ a b r v e (X.setCell ⟨gZ, 2, none⟩ (.int .i64 v)) :=
  ⟨(set_other X _ h.G.2.1).trans h.A, (set_other X _ h.G.2.2.1).trans h.B, h.R.other h.G.2.2.2, h.Z.set2 _, h.D.setCell (p := ⟨gZ, 2, none⟩) h.G.1.2.2.2 _, h.G⟩
theorem Sm.s3 {w : World} {gA gB gR gZ : Nat} {a b : We} {r u e : Int} {X : World} (h : Sm w gA gB gR gZ a b r u e X) (v : Int) : Sm w gA gB gR gZ a b r u v (X.setCell ⟨gZ, 3, none⟩ (.int .i64 v)) :=
  ⟨(set_other X _ h.G.2.1).trans h.A, (set_other X _ h.G.2.2.1).trans h.B, h.R.other h.G.2.2.2, h.Z.set3 _, h.D.setCell (p := ⟨gZ, 3, none⟩) h.G.1.2.2.2 _, h.G⟩
theorem Sm.two {w : World} {gA gB gR gZ : Nat} {a b : We} {r u e : Int} {X : World} (h : Sm w gA gB gR gZ a b r u e X) : X.cell? ⟨gA, 5, none⟩ = some (.string (strOfNums a.t)) ∧ X.cell? ⟨gB, 4, none⟩ = some (.string (strOfNums b.h)) := by
  obtain ⟨_, _, _, _, _, h5, _⟩ := cells6 h.A
  obtain ⟨_, _, _, _, h4, _, _⟩ := cells6 h.B
  exact ⟨h5, h4⟩
theorem Sm.ret {w : World} {gA gB gR gZ : Nat} {a b : We} {r u e : Int} {X : World} (h : Sm w gA gB gR gZ a b r u e X) :
    (X.cell? ⟨gZ, 0, none⟩ = some (.int .i64 0) ∧ X.cell? ⟨gZ, 1, none⟩ = some (.int .i64 r) ∧ X.cell? ⟨gZ, 2, none⟩ = some (.int .i64 u) ∧ X.cell? ⟨gZ, 3, none⟩ = some (.int .i64 e) ∧ ∀ i, X.frozen? ⟨gZ, i, none⟩ = false) ∧
    X.cell? ⟨gR, 0, none⟩ = some (.int .i64 0) ∧ X.cell? ⟨gR, 1, none⟩ = some (.int .i64 0) ∧ X.cell? ⟨gR, 2, none⟩ = some (.int .i64 0) ∧ X.cell? ⟨gR, 3, none⟩ = some (.int .i64 0) ∧ ∀ i, X.frozen? ⟨gR, i, none⟩ = false := ⟨h.Z.cells, h.R.cells⟩
theorem last_get {t : List Int} (h0 : 0 < t.length) : t.getLast? = some (t.getD (t.length - 1) 0) := by
  rw [List.getLast?_eq_getElem?, List.getD, List.getElem?_eq_getElem (by omega)]
  rfl
theorem head_get {t : List Int} (h0 : 0 < t.length) : t.head? = some (t.getD 0 0) := by
  cases t with
  | nil => cases h0
  | cons a r => rfl
theorem str_at (l : List Int) (hl : ∀ x ∈ l, 0 ≤ x ∧ x ≤ 255) {i : Nat} (hi : i < l.length) (h : i < (strOfNums l).size) : (((strOfNums l)[i]'h).toNat : Int) = l.getD i 0 := by
  have hb := hl _ (List.getElem_mem hi)
  have e : (strOfNums l)[i]'h = UInt8.ofNat (l[i]).toNat := by
    show ((strOfNums l).data[i]'h) = _
    simp [strOfNums]
  rw [e]
  simp [List.getD, List.getElem?_eq_getElem hi]
  omega

set_option maxRecDepth 100000 in
set_option maxHeartbeats 4000000 in
theorem Rseam_at (a b : We) (w : World) (ha : Byw a) (hb : Byw b) (h3 : a.t.length ≤ 3) (t3 : b.h.length ≤ 3) :
    Calls Tryd.prog 20 #[weV a, weV b] w fun y w' => y = .returned (szV (seamL a.t b.h)) ∧ Below w.heap.size w w' := by
  have HM : Hid (Sm w w.heap.size (w.heap.size + 1) (w.heap.size + 1 + 1) (w.heap.size + 1 + 1 + 1) a b 0 0 0 ((((w.alloc (.cells (wc a) 25)).alloc (.cells (wc b) 25)).alloc (.cells #[.int .i64 0, .int .i64 0, .int .i64 0, .int .i64 0] 23)).alloc (.cells #[.int .i64 0, .int .i64 0, .int .i64 0, .int .i64 0] 23))) := hide (by
    have za : (w.alloc (.cells (wc a) 25)).heap.size = w.heap.size + 1 := World.size_alloc ..
    have zb : ((w.alloc (.cells (wc a) 25)).alloc (.cells (wc b) 25)).heap.size = w.heap.size + 1 + 1 := by rw [World.size_alloc, za]
    have zr : (((w.alloc (.cells (wc a) 25)).alloc (.cells (wc b) 25)).alloc (.cells #[.int .i64 0, .int .i64 0, .int .i64 0, .int .i64 0] 23)).heap.size = w.heap.size + 1 + 1 + 1 := by rw [World.size_alloc, zb]
    refine ⟨?_, ?_, ?_, ?_, ((((Below.refl _ _).alloc (Nat.le_refl _) _).alloc (by omega) _).alloc (by omega) _).alloc (by omega) _, ⟨by omega, by omega, by omega, by omega⟩, by omega, by omega, by omega⟩
    · rw [heap_alloc_old _ _ (by omega), heap_alloc_old _ _ (by omega), heap_alloc_old _ _ (by omega)]
      exact push_get w _
    · rw [heap_alloc_old _ _ (by omega), heap_alloc_old _ _ (by omega)]
      have := push_get (w.alloc (.cells (wc a) 25)) (.cells (wc b) 25)
      rwa [za] at this
    · show (World.heap _)[_]? = _
      rw [heap_alloc_old _ _ (by omega)]
      have := push_get ((w.alloc (.cells (wc a) 25)).alloc (.cells (wc b) 25)) (.cells #[.int .i64 0, .int .i64 0, .int .i64 0, .int .i64 0] 23)
      rwa [zb] at this
    · have := push_get (((w.alloc (.cells (wc a) 25)).alloc (.cells (wc b) 25)).alloc (.cells #[.int .i64 0, .int .i64 0, .int .i64 0, .int .i64 0] 23)) (.cells #[.int .i64 0, .int .i64 0, .int .i64 0, .int .i64 0] 23)
      rwa [zr] at this)
  have HRES : Hid (∀ X, Sm w w.heap.size (w.heap.size + 1) (w.heap.size + 1 + 1) (w.heap.size + 1 + 1 + 1) a b (seamL a.t b.h).r (seamL a.t b.h).u (seamL a.t b.h).e X → True) := hide (fun _ _ => trivial)
  clear HRES
  obtain ⟨⟨ab, ar, au, ae⟩, ah, t⟩ := a
  obtain ⟨⟨bb, br, bu, be⟩, h, bt⟩ := b
  have HT : Hid (∀ x ∈ t, 0 ≤ x ∧ x ≤ 255) := hide ha.t
  have HH : Hid (∀ x ∈ h, 0 ≤ x ∧ x ≤ 255) := hide hb.h
  clear ha hb
  unfold weV wc at *
  dsimp only at *
  have hzt : (strOfNums t).size = t.length := strOfNums_size t
  have hzh : (strOfNums h).size = h.length := strOfNums_size h
  have HSC : Hid (∀ r u e X, Sm w w.heap.size (w.heap.size + 1) (w.heap.size + 1 + 1) (w.heap.size + 1 + 1 + 1) ⟨⟨ab, ar, au, ae⟩, ah, t⟩ ⟨⟨bb, br, bu, be⟩, h, bt⟩ r u e X → X.cell? ⟨w.heap.size, 5, none⟩ = some (.string (strOfNums t)) ∧ X.cell? ⟨w.heap.size + 1, 4, none⟩ = some (.string (strOfNums h))) := hide (fun _ _ _ _ h => h.two)
  go_enter Tryd.func20, Tryd.ntmps20
  go_wp2_with fail
  generalize w.heap.size + 1 + 1 + 1 = gZ at *
  generalize w.heap.size + 1 + 1 = gR at *
  generalize w.heap.size + 1 = gB at *
  generalize hgA : w.heap.size = gA at HM HSC ⊢
  clear hgA
  have HG : Hid (Sm w gA gB gR gZ ⟨⟨ab, ar, au, ae⟩, ah, t⟩ ⟨⟨bb, br, bu, be⟩, h, bt⟩ (zR t h 1 1) (zU t h 1 1) 0 _) := hide (by rw [zR_0, zU_0]; exact unhide HM)
  clear HM
  have HBY : Hid (∀ k j, ∀ x ∈ sp t h k j, 0 ≤ x ∧ x ≤ 255) := hide (fun k j x hm => (List.mem_append.1 hm).elim (fun hm => unhide HT x (List.mem_of_mem_drop hm)) (fun hm => unhide HH x (List.mem_of_mem_take hm)))
  go_loopw [6, 7, 8] (fun v v7 v8 wx => ∃ k : Nat, v = .int .i64 (k : Int) ∧ 1 ≤ k ∧ k ≤ t.length + 1 ∧ (∃ z, v7 = z) ∧ (∃ z, v8 = z) ∧ Hid (Sm w gA gB gR gZ ⟨⟨ab, ar, au, ae⟩, ah, t⟩ ⟨⟨bb, br, bu, be⟩, h, bt⟩ (zR t h k 1) (zU t h k 1) 0 wx)) (fun v _ _ _ => 5 - (intOf v).toNat)
  case atStart => exact ⟨1, rfl, Nat.le_refl _, by omega, ⟨_, rfl⟩, ⟨_, rfl⟩, HG⟩
  case round =>
    clear HG
    obtain ⟨k, rfl, k1, hk, ⟨_, rfl⟩, ⟨_, rfl⟩, HM⟩ := hrel
    obtain ⟨ct, ch⟩ := unhide HSC _ _ _ _ (unhide HM)
    by_cases hlt : k ≤ t.length
    · have q1 : (k : Int) ≤ (t.length : Int) := by omega
      go_wp2_with fail
      clear ct ch
      go_loopw [7, 8] (fun v v8 wx => ∃ j : Nat, v = .int .i64 (j : Int) ∧ 1 ≤ j ∧ j ≤ h.length + 1 ∧ (∃ z, v8 = z) ∧ Hid (Sm w gA gB gR gZ ⟨⟨ab, ar, au, ae⟩, ah, t⟩ ⟨⟨bb, br, bu, be⟩, h, bt⟩ (zR t h k j) (zU t h k j) 0 wx)) (fun v _ _ => 5 - (intOf v).toNat)
      case atStart => exact ⟨1, rfl, Nat.le_refl _, by omega, ⟨_, rfl⟩, HM⟩
      case round =>
        clear HM
        obtain ⟨j, rfl, j1, hj, ⟨_, rfl⟩, HM⟩ := hrel
        obtain ⟨ct, ch⟩ := unhide HSC _ _ _ _ (unhide HM)
        by_cases hlj : j ≤ h.length
        · have q2 : (j : Int) ≤ (h.length : Int) := by omega
          obtain ⟨d, hd⟩ : ∃ d, d = t.length - k := ⟨_, rfl⟩
          have hdi : (t.length : Int) - (k : Int) = (d : Int) := by omega
          have hdl : (d : Int) ≤ (t.length : Int) := by omega
          have hwd : IntKind.i64.wrap (d : Int) = (d : Int) := by rw [IntKind.wrap_i64]; omega
          have e1 : (strOfNums t).extract d t.length = strOfNums (t.drop d) := by rw [str_extract, List.take_of_length_le (by simp)]
          have e2 : (strOfNums h).extract 0 j = strOfNums (h.take j) := by rw [str_extract]; simp
          have hap : strOfNums (t.drop d) ++ strOfNums (h.take j) = strOfNums (sp t h k j) := by rw [str_app, hd]; rfl
          have hcat : ¬ 9223372036854775807 < (strOfNums (t.drop d)).size + (strOfNums (h.take j)).size := by rw [strOfNums_size, strOfNums_size]; simp; omega
          have HLN : Hid ((sp t h k j).length = k + j) := hide (sp_len hlt hlj)
          have hkj : IntKind.i64.wrap ((k : Int) + (j : Int)) = (k : Int) + (j : Int) := by rw [IntKind.wrap_i64]; omega
          have hkj1 : IntKind.i64.wrap ((k : Int) + (j : Int) - 1) = (k : Int) + (j : Int) - 1 := by rw [IntKind.wrap_i64]; omega
          have HD := hide hd
          clear hd
          go_upto_region 8 with fail
          have HM0 := (unhide HM).on ((Below.refl wr.heap.size wr).drew)
          have HS0 := hide (unhide HSC _ _ _ _ HM0)
          clear ct ch HM
          refine regionL (S := fun w' => w'.cell? ⟨gA, 5, none⟩ = some (.string (strOfNums t)) ∧ w'.cell? ⟨gB, 4, none⟩ = some (.string (strOfNums h))) (fun _ => false) (by kernel_rfl) ?_
          generalize wr.drew = y0 at *
          refine anyL_take (i := 0) (v := ?vq0) rfl (by kernel_rfl) (by kernel_rfl) (by kernel_rfl) (by kernel_rfl) (fun _ _ _ h => h) (Or.inl ⟨by rfl, ?hq0⟩) (unhide HS0) ?_
          case hq0 => (intro w hSw; (try dsimp only at hSw); go_simp) <;> with_reducible rfl
          simp only [Act.put, List.getElem_toArray, List.getElem_cons_zero, List.setIfInBounds_toArray, List.set_cons_zero, List.set_cons_succ]
          refine anyL_take (i := 1) (v := ?vq1) rfl (by kernel_rfl) (by kernel_rfl) (by kernel_rfl) (by kernel_rfl) (fun _ _ _ h => h) (Or.inl ⟨by rfl, ?hq1⟩) (unhide HS0) ?_
          case hq1 => (intro w hSw; (try dsimp only at hSw); go_simp) <;> with_reducible rfl
          simp only [Act.put, List.getElem_toArray, List.getElem_cons_zero, List.getElem_cons_succ, List.setIfInBounds_toArray, List.set_cons_zero, List.set_cons_succ]
          refine anyL_take (i := 2) (v := ?vq2) rfl (by kernel_rfl) (by kernel_rfl) (by kernel_rfl) (by kernel_rfl) (fun _ _ _ h => h) (Or.inl ⟨by rfl, ?hq2⟩) (unhide HS0) ?_
          case hq2 => (intro w hSw; (try dsimp only at hSw); go_simp) <;> with_reducible rfl
          simp only [Act.put, List.getElem_toArray, List.getElem_cons_zero, List.getElem_cons_succ, List.setIfInBounds_toArray, List.set_cons_zero, List.set_cons_succ]
          refine anyL_take (i := 3) (v := ?vq3) rfl (by kernel_rfl) (by kernel_rfl) (by kernel_rfl) (by kernel_rfl) (fun _ _ _ h => h) (Or.inl ⟨by rfl, ?hq3⟩) (unhide HS0) ?_
          case hq3 => (intro w hSw; (try dsimp only at hSw); go_simp) <;> with_reducible rfl
          simp only [Act.put, List.getElem_toArray, List.getElem_cons_zero, List.getElem_cons_succ, List.setIfInBounds_toArray, List.set_cons_zero, List.set_cons_succ]
          refine anyL_take (i := 4) (v := ?vq4) rfl (by kernel_rfl) (by kernel_rfl) (by kernel_rfl) (by kernel_rfl) (fun _ _ _ h => h) (Or.inl ⟨by rfl, ?hq4⟩) (unhide HS0) ?_
          case hq4 => (intro w hSw; (try dsimp only at hSw); go_simp) <;> with_reducible rfl
          simp only [Act.put, List.getElem_toArray, List.getElem_cons_zero, List.getElem_cons_succ, List.setIfInBounds_toArray, List.set_cons_zero, List.set_cons_succ]
          refine anyL_take (i := 5) (v := ?vq5) rfl (by kernel_rfl) (by kernel_rfl) (by kernel_rfl) (by kernel_rfl) (fun _ _ _ h => h) (Or.inl ⟨by rfl, ?hq5⟩) (unhide HS0) ?_
          case hq5 => (intro w hSw; (try dsimp only at hSw); go_simp) <;> with_reducible rfl
          simp only [Act.put, List.getElem_toArray, List.getElem_cons_zero, List.getElem_cons_succ, List.setIfInBounds_toArray, List.set_cons_zero, List.set_cons_succ]
          refine anyL_take (i := 6) (v := ?vq6) rfl (by kernel_rfl) (by kernel_rfl) (by kernel_rfl) (by kernel_rfl) (fun _ _ _ h => h) (Or.inl ⟨by rfl, ?hq6⟩) (unhide HS0) ?_
          case hq6 => (intro w hSw; (try dsimp only at hSw); go_simp) <;> with_reducible rfl
          simp only [Act.put, List.getElem_toArray, List.getElem_cons_zero, List.getElem_cons_succ, List.setIfInBounds_toArray, List.set_cons_zero, List.set_cons_succ]
          refine anyL_take (i := 7) (v := ?vq7) rfl (by kernel_rfl) (by kernel_rfl) (by kernel_rfl) (by kernel_rfl) (fun _ _ _ h => h) (Or.inl ⟨by rfl, ?hq7⟩) (unhide HS0) ?_
          case hq7 => (intro w hSw; (try dsimp only at hSw); go_simp) <;> with_reducible rfl
          simp only [Act.put, List.getElem_toArray, List.getElem_cons_zero, List.getElem_cons_succ, List.setIfInBounds_toArray, List.set_cons_zero, List.set_cons_succ]
          refine anyL_take (i := 8) (v := ?vq8) rfl (by kernel_rfl) (by kernel_rfl) (by kernel_rfl) (by kernel_rfl) (fun _ _ _ h => h) (Or.inl ⟨by rfl, ?hq8⟩) (unhide HS0) ?_
          case hq8 => (intro w hSw; (try dsimp only at hSw); go_simp) <;> with_reducible rfl
          simp only [Act.put, List.getElem_toArray, List.getElem_cons_zero, List.getElem_cons_succ, List.setIfInBounds_toArray, List.set_cons_zero, List.set_cons_succ]
          refine anyL_take (i := 9) (v := ?vq9) rfl (by kernel_rfl) (by kernel_rfl) (by kernel_rfl) (by kernel_rfl) (fun _ _ _ h => h) (Or.inl ⟨by rfl, ?hq9⟩) (unhide HS0) ?_
          case hq9 => (intro w hSw; (try dsimp only at hSw); go_simp) <;> with_reducible rfl
          simp only [Act.put, List.getElem_toArray, List.getElem_cons_zero, List.getElem_cons_succ, List.setIfInBounds_toArray, List.set_cons_zero, List.set_cons_succ]
          refine anyL_take (i := 10) (v := ?vq10) rfl (by kernel_rfl) (by kernel_rfl) (by kernel_rfl) (by kernel_rfl) (fun _ _ _ h => h) (Or.inl ⟨by rfl, ?hq10⟩) (unhide HS0) ?_
          case hq10 => (intro w hSw; (try dsimp only at hSw); go_simp) <;> with_reducible rfl
          simp only [Act.put, List.getElem_toArray, List.getElem_cons_zero, List.getElem_cons_succ, List.setIfInBounds_toArray, List.set_cons_zero, List.set_cons_succ]
          refine anyL_take (i := 11) (v := ?vq11) rfl (by kernel_rfl) (by kernel_rfl) (by kernel_rfl) (by kernel_rfl) (fun _ _ _ h => h) (Or.inl ⟨by rfl, ?hq11⟩) (unhide HS0) ?_
          case hq11 => (intro w hSw; (try dsimp only at hSw); go_simp) <;> with_reducible rfl
          simp only [Act.put, List.getElem_toArray, List.getElem_cons_zero, List.getElem_cons_succ, List.setIfInBounds_toArray, List.set_cons_zero, List.set_cons_succ]
          refine anyL_take (i := 12) (v := ?vq12) rfl (by kernel_rfl) (by kernel_rfl) (by kernel_rfl) (by kernel_rfl) (fun _ _ _ h => h) (Or.inl ⟨by rfl, ?hq12⟩) (unhide HS0) ?_
          case hq12 => (intro w hSw; (try dsimp only at hSw); go_simp) <;> with_reducible rfl
          simp only [Act.put, List.getElem_toArray, List.getElem_cons_zero, List.getElem_cons_succ, List.setIfInBounds_toArray, List.set_cons_zero, List.set_cons_succ]
          refine anyL_ready (rs := [13]) (by kernel_rfl) (by simp) ?_
          refine AllL.cons rfl (fun K hK => ?_) AllL.nil
          have hzlt : gZ < y0.heap.size := (Array.getElem?_eq_some_iff.1 HM0.Z).1
          obtain ⟨cc, y1, r1, i1, x1, hgs0⟩ := toBytes y0 (sp t h k j) (unhide HBY k j) (by rw [unhide HLN]; omega)
          go_simp
          have HM1 := HM0.on x1
          refine unhide hK _ _ (fun _ => unhide HSC _ _ _ _ HM1) ?_
          clear hK K r1 x1 HM0
          refine anyL_take (i := 14) (v := ?vq13) rfl (by kernel_rfl) (by kernel_rfl) (by kernel_rfl) (by kernel_rfl) (fun _ _ _ h => h) (Or.inl ⟨by rfl, ?hq13⟩) (unhide HSC _ _ _ _ HM1) ?_
          case hq13 => (intro w hSw; (try dsimp only at hSw); go_simp) <;> with_reducible rfl
          simp only [Act.put, List.getElem_toArray, List.getElem_cons_zero, List.getElem_cons_succ, List.setIfInBounds_toArray, List.set_cons_zero, List.set_cons_succ]
          refine anyL_done (by kernel_rfl) ?_ _
          have HI1 := hide i1
          clear i1
          have HLG : Hid (Calls Tryd.prog 31 #[.slice (some ⟨y0.heap.size, 0, none⟩) (sp t h k j).length cc, .int .i64 0] y1 fun e w' => e = .returned (.int .i64 (lng (sp t h k j))) ∧ w' = y1) := hide (Long_at (some ⟨y0.heap.size, 0, none⟩) cc 0 (sp t h k j) y1 (unhide HI1).1 (Nat.zero_le _))
          by_cases em : lng (sp t h k j) = k + j
          · have q3 : (((lng (sp t h k j) : Nat) : Int) == (k : Int) + (j : Int)) = true := by rw [beq_iff_eq]; omega
            obtain ⟨z1, z2⟩ := z_yes k1 hlt j1 em
            have HZ1 := hide z1
            have HZ2 := hide z2
            have HEM := hide em
            have HM2 := HM1.s1 ((k : Int) + (j : Int) - 1)
            obtain ⟨⟨d0, d1, d2, d3, f⟩, _⟩ := HM1.ret
            have f1 := f 1
            have hgs : y0.heap.size < y1.heap.size := hgs0
            have hgz : y0.heap.size ≠ gZ := Nat.ne_of_gt hzlt
            have HI2 : Hid (IsN (y1.setCell ⟨gZ, 1, none⟩ (.int .i64 ((k : Int) + (j : Int) - 1))) (some ⟨y0.heap.size, 0, none⟩) cc (sp t h k j)) := hide (isN_set (unhide HI1) hgz)
            clear f z1 z2 em
            generalize y0.heap.size = gs at *
            go_wp2_with fail
            refine (unhide HLG).mono ?_
            rintro x y1' ⟨rfl, rfl⟩
            dsimp only
            generalize y1' = y1 at *
            go_wp2_with fail
            generalize y1.setCell ⟨gZ, 1, none⟩ (.int .i64 ((k : Int) + (j : Int) - 1)) = y2 at *
            have hOF := RfOf_at (some ⟨gs, 0, none⟩) cc 0 (sp t h k j) y2 (unhide HI2).1 (by rw [unhide HLN]; omega)
            rw [List.drop_zero] at hOF
            refine hOF.mono ?_
            unfold stp stepV
            rintro x y3 ⟨rfl, x3⟩
            dsimp only
            clear hOF
            have HM3 := HM2.on x3
            clear d0 d1 d2 d3 f1 HM1 HM2
            have hun := uni1_in (first (sp t h k j)).1
            generalize (first (sp t h k j)).1 = rn at *
            generalize (wid (sp t h k j) : Int) = wd at *
            generalize whl (sp t h k j) = wh at *
            go_wp2_with fail
            refine (Runits_at rn wd wh y3).mono ?_
            rintro x y4 ⟨rfl, x4⟩
            dsimp only
            have HM4 := HM3.on x4
            have HM5 := HM4.s2 ((k : Int) + (j : Int) - uni1 rn)
            obtain ⟨⟨d0, d1, d2, d3, f⟩, _⟩ := HM4.ret
            have f2 := f 2
            have hku : IntKind.i64.wrap ((k : Int) + (j : Int) - uni1 rn) = (k : Int) + (j : Int) - uni1 rn := by rw [IntKind.wrap_i64]; omega
            clear f
            go_wp2_with fail
            rw [← unhide HZ1, ← unhide HZ2] at HM5
            go_roundw
            case rel => exact ⟨j + 1, by go_num, by omega, by omega, ⟨_, rfl⟩, hide (by rw [unhide HZ1, unhide HZ2] at HM5 ⊢; exact HM5)⟩
            case measure => simp [intOf]; omega
          · have q3 : (((lng (sp t h k j) : Nat) : Int) == (k : Int) + (j : Int)) = false := by rw [beq_eq_false_iff_ne]; omega
            obtain ⟨z1, z2⟩ := z_no em
            have HM2 := hide HM1
            rw [← z1, ← z2] at HM2
            clear z1 z2 HM1 em
            go_wp2_with fail
            refine (unhide HLG).mono ?_
            rintro x y1' ⟨rfl, rfl⟩
            dsimp only
            generalize y1' = y1 at *
            go_wp2_with fail
            go_roundw
            case rel => exact ⟨j + 1, by go_num, by omega, by omega, ⟨_, rfl⟩, HM2⟩
            case measure => simp [intOf]; omega
        · have q2 : ¬ ((j : Int) ≤ (h.length : Int)) := by omega
          obtain rfl : j = h.length + 1 := by omega
          rw [zR_row, zU_row] at HM
          go_wp2_with fail
          go_roundw
          case rel => exact ⟨k + 1, by go_num, by omega, by omega, ⟨_, rfl⟩, ⟨_, rfl⟩, HM⟩
          case measure => simp [intOf]; omega
    · have q1 : ¬ ((k : Int) ≤ (t.length : Int)) := by omega
      obtain rfl : k = t.length + 1 := by omega
      rw [zR_end, zU_end] at HM
      obtain ⟨⟨d0, d1, d2, d3, f⟩, r0, r1, r2, r3, fr⟩ := (unhide HM).ret
      have f3 := f 3
      have g0 := fr 0
      have g1 := fr 1
      have g2 := fr 2
      have g3 := fr 3
      clear f fr
      by_cases p1 : 0 < t.length
      · have p1i : (0 : Int) < (t.length : Int) := by omega
        by_cases p2 : 0 < h.length
        · have p2i : (0 : Int) < (h.length : Int) := by omega
          have hl1 : (t.length : Int) - 1 = ((t.length - 1 : Nat) : Int) := by omega
          have hla := last_get p1
          have hhe := head_get p2
          have hi1 := str_at t (unhide HT) (i := t.length - 1) (by omega)
          have hi2 := str_at h (unhide HH) (i := 0) p2
          obtain ⟨m, hm⟩ : ∃ m, m = t.length - 1 := ⟨_, rfl⟩
          rw [← hm] at hl1 hi1 hla
          have hm1 : (m : Int) < (t.length : Int) := by omega
          have hwm : IntKind.i64.wrap (m : Int) = (m : Int) := by rw [IntKind.wrap_i64]; omega
          have HLA := hide hla
          have HHE := hide hhe
          clear hm hla hhe
          generalize t.getD m 0 = lt at *
          generalize h.getD 0 0 = hd at *
          by_cases k13 : lt = 13
          · subst k13
            by_cases k10 : hd = 10
            · subst k10
              have HM3 := (unhide HM).s3 1
              obtain ⟨⟨d0', d1', d2', d3', _⟩, r0', r1', r2', r3', fr'⟩ := HM3.ret
              have g0' := fr' 0
              have g1' := fr' 1
              have g2' := fr' 2
              have g3' := fr' 3
              clear fr'
              go_wp2_with fail
              obtain ⟨v0, v1, v2, v3, _⟩ := (HM3.R.all (.int .i64 0) (.int .i64 (seamR (t ++ h) t.length)) (.int .i64 (seamU (t ++ h) t.length)) (.int .i64 1)).cells
              have DD := below4 HM3.D HM3.G.1.2.2.1 (.int .i64 0) (.int .i64 (seamR (t ++ h) t.length)) (.int .i64 (seamU (t ++ h) t.length)) (.int .i64 1)
              have hE : seamE t h = 1 := by unfold seamE; rw [if_pos ⟨unhide HLA, unhide HHE⟩]
              refine bodyPost_ret (v := szV (seamL t h)) (by simp [results, Tryd.results20, go_sem, v0, v1, v2, v3, szV, seamL, hE]) rfl ⟨rfl, DD⟩
            · have k10b : (hd == 10) = false := by rw [beq_eq_false_iff_ne]; exact k10
              go_wp2_with fail
              obtain ⟨v0, v1, v2, v3, _⟩ := ((unhide HM).R.all (.int .i64 0) (.int .i64 (seamR (t ++ h) t.length)) (.int .i64 (seamU (t ++ h) t.length)) (.int .i64 0)).cells
              have DD := below4 (unhide HM).D (unhide HM).G.1.2.2.1 (.int .i64 0) (.int .i64 (seamR (t ++ h) t.length)) (.int .i64 (seamU (t ++ h) t.length)) (.int .i64 0)
              have hE : seamE t h = 0 := by unfold seamE; rw [if_neg (fun h => k10 (Option.some.inj ((unhide HHE).symm.trans h.2)))]
              refine bodyPost_ret (v := szV (seamL t h)) (by simp [results, Tryd.results20, go_sem, v0, v1, v2, v3, szV, seamL, hE]) rfl ⟨rfl, DD⟩
          · have k13b : (lt == 13) = false := by rw [beq_eq_false_iff_ne]; exact k13
            go_wp2_with fail
            obtain ⟨v0, v1, v2, v3, _⟩ := ((unhide HM).R.all (.int .i64 0) (.int .i64 (seamR (t ++ h) t.length)) (.int .i64 (seamU (t ++ h) t.length)) (.int .i64 0)).cells
            have DD := below4 (unhide HM).D (unhide HM).G.1.2.2.1 (.int .i64 0) (.int .i64 (seamR (t ++ h) t.length)) (.int .i64 (seamU (t ++ h) t.length)) (.int .i64 0)
            have hE : seamE t h = 0 := by unfold seamE; rw [if_neg (fun h => k13 (Option.some.inj ((unhide HLA).symm.trans h.1)))]
            refine bodyPost_ret (v := szV (seamL t h)) (by simp [results, Tryd.results20, go_sem, v0, v1, v2, v3, szV, seamL, hE]) rfl ⟨rfl, DD⟩
        · have p2i : ¬ ((0 : Int) < (h.length : Int)) := by omega
          have HN : Hid (h = []) := hide (List.eq_nil_of_length_eq_zero (by omega))
          go_wp2_with fail
          obtain ⟨v0, v1, v2, v3, _⟩ := ((unhide HM).R.all (.int .i64 0) (.int .i64 (seamR (t ++ h) t.length)) (.int .i64 (seamU (t ++ h) t.length)) (.int .i64 0)).cells
          have DD := below4 (unhide HM).D (unhide HM).G.1.2.2.1 (.int .i64 0) (.int .i64 (seamR (t ++ h) t.length)) (.int .i64 (seamU (t ++ h) t.length)) (.int .i64 0)
          have hE : seamE t h = 0 := by unfold seamE; rw [if_neg (fun hx => by rw [unhide HN] at hx; cases hx.2)]
          refine bodyPost_ret (v := szV (seamL t h)) (by simp [results, Tryd.results20, go_sem, v0, v1, v2, v3, szV, seamL, hE]) rfl ⟨rfl, DD⟩
      · have p1i : ¬ ((0 : Int) < (t.length : Int)) := by omega
        have HN : Hid (t = []) := hide (List.eq_nil_of_length_eq_zero (by omega))
        go_wp2_with fail
        obtain ⟨v0, v1, v2, v3, _⟩ := ((unhide HM).R.all (.int .i64 0) (.int .i64 (seamR (t ++ h) t.length)) (.int .i64 (seamU (t ++ h) t.length)) (.int .i64 0)).cells
        have DD := below4 (unhide HM).D (unhide HM).G.1.2.2.1 (.int .i64 0) (.int .i64 (seamR (t ++ h) t.length)) (.int .i64 (seamU (t ++ h) t.length)) (.int .i64 0)
        have hE : seamE t h = 0 := by unfold seamE; rw [if_neg (fun hx => by rw [unhide HN] at hx; cases hx.1)]
        refine bodyPost_ret (v := szV (seamL t h)) (by simp [results, Tryd.results20, go_sem, v0, v1, v2, v3, szV, seamL, hE]) rfl ⟨rfl, DD⟩
end Go.Proofs.YtchlnphapnafcaaDoor
