/- The document's answer of layer 6: Ruler, Mode, count, Table. -/
import Derived.Test.YtnkeohiibninfabDoorRwk
import Derived.Test.YtnkeohiibninfabDoorRf2T
namespace Go.Proofs.YtnkeohiibninfabDoor
open Go.ChangeShapes Go.WideShapes Go.ChangeAt Go.RowKit

theorem RRuler_at (r : Int) (w : World) : Calls Tryd.prog 19 #[.int .i64 r] w fun y w' => y = .returned (.bool (isRu r)) ∧ w' = w := by
  go_enter Tryd.func19, Tryd.ntmps19
  go_wp2
  all_goals go_ret
  all_goals refine ⟨ret_bool ?_, rfl⟩
  all_goals (unfold isRu; rw [Bool.eq_iff_iff]; simp; omega)
theorem RMode_at (r : Int) (w : World) : Calls Tryd.prog 28 #[.int .i64 r] w fun y w' => y = .returned (.bool (isRu r)) ∧ w' = w := by
  go_enter Tryd.func28, Tryd.ntmps28
  go_wp2
  all_goals go_ret
  all_goals refine ⟨ret_bool ?_, rfl⟩
  all_goals (unfold isRu; rw [Bool.eq_iff_iff]; simp; omega)

/-- how much a step counts -/
def cnE (r rn : Int) (wd : Nat) : Nat := if r = 1 then wd else if r = 3 ∧ 65535 < rn then 2 else 1
theorem by_cn {l : List Int} (hl : ∀ x ∈ l, 0 ≤ x ∧ x ≤ 255) {r : Int} (hr : isRu r = true) (e : Ed) {p : Nat} (hp : p < l.length) : byE r (nxE l e p) = byE r e + cnE r (first (l.drop p)).1 (wid (l.drop p)) := by
  have h := of_decide_eq_true hr
  unfold byE nxE cnE
  by_cases h1 : r = 1
  · simp [h1]
  · by_cases h2 : r = 2
    · simp [h2]
    · have h3 : r = 3 := by omega
      have hu := rn_step hl hp
      have e1 : (ulen (first (l.drop p)).1).toNat = if 65535 < (first (l.drop p)).1 then 2 else 1 := by
        unfold ulen
        rw [if_pos hu]
        by_cases hb : (first (l.drop p)).1 < 65536
        · rw [if_pos hb, if_neg (by omega)]; rfl
        · rw [if_neg hb, if_pos (by omega)]; rfl
      simp only [h3, e1]
      simp
theorem count_at (rn : Int) (wd : Nat) (wh : Bool) (r : Int) (w : World) :
    Calls Tryd.prog 38 #[.agg #[.int .i32 rn, .int .i64 (wd : Int), .bool wh], .int .i64 r] w fun y w' => y = .returned (.int .i64 (cnE r rn wd : Int)) ∧ Below w.heap.size w w' := by
  have b0 := (Below.refl w.heap.size w).alloc (Nat.le_refl _) (.cells #[.int .i32 rn, .int .i64 (wd : Int), .bool wh] 71)
  by_cases h1 : r = 1
  · subst h1
    go_enter Tryd.func38, Tryd.ntmps38
    go_wp2
    go_ret
    exact ⟨rfl, b0⟩
  · have q1 : (r == 1) = false := by simpa using h1
    by_cases h3 : r = 3
    · subst h3
      by_cases h4 : 65535 < rn
      · have q2 : decide (rn > 65535) = true := by simpa using h4
        have HC : Hid (cnE 3 rn wd = 2) := hide (by simp [cnE, h4])
        clear h4 h1
        go_enter Tryd.func38, Tryd.ntmps38
        go_wp2
        go_ret
        exact ⟨ret_int (by rw [unhide HC]; rfl), b0⟩
      · have q2 : decide (rn > 65535) = false := by simpa using h4
        have HC : Hid (cnE 3 rn wd = 1) := hide (by simp [cnE, h4])
        clear h4 h1
        go_enter Tryd.func38, Tryd.ntmps38
        go_wp2
        go_ret
        exact ⟨ret_int (by rw [unhide HC]; rfl), b0⟩
    · have q2 : (r == 3) = false := by simpa using h3
      have HC : Hid (cnE r rn wd = 1) := hide (by simp [cnE, h1, h3])
      clear h1 h3
      go_enter Tryd.func38, Tryd.ntmps38
      go_wp2
      go_ret
      exact ⟨ret_int (by rw [unhide HC]; rfl), b0⟩

theorem push_intR (W : World) (B n : Nat) (v : Value) (xs : List Value) (x : Int) (ty : TypeId) (h : W.ownsRow B 3 1 v n xs) (hn : n ≤ 4194304) (hB : B ≤ W.heap.size) :
    ∃ g' c W', (Builtin.append_ #[36, 36] ty #[v, .slice (some ⟨W.heap.size, 0, none⟩) 1 1]).run Tryd.prog (W.alloc (.cells #[.int .i64 x] 3)) = .ok (.slice (some ⟨g', 0, none⟩) (n + 1) c) W' ∧
      W'.ownsRow B 3 1 (.slice (some ⟨g', 0, none⟩) (n + 1) c) (n + 1) (xs ++ [.int .i64 x]) ∧ Below B W W' ∧ (∀ k, k < W.heap.size → some k ≠ v.ownBlock → W'.heap[k]? = W.heap[k]? ∧ some k ≠ (Value.slice (some ⟨g', 0, none⟩) (n + 1) c).ownBlock) := by
  obtain ⟨i, hi, hz, hs, hby⟩ := info_intR
  have hr := World.ownsRow.alloc h (.cells #[.int .i64 x] 3)
  obtain ⟨g', c, W', hrun, ho, hg, hor, _⟩ := run_append_lies (P := Tryd.prog) (W.alloc (.cells #[.int .i64 x] 3)) 36 ty B 3 i (.int .i64 0) 1 8 Tryd.underlying36 hi hz hs hby rfl (by decide)
    v n xs hr ⟨W.heap.size, 0, none⟩ 1 1 [.int .i64 x] rfl
    (fun j u hj => by
      cases j with
      | zero => simp at hj; subst hj; rw [Addr.add_lit]; exact (World.cell?_alloc_mark W _ _ (0, 0) 0).trans rfl
      | succ j => simp at hj)
    (fun u hu => by simp at hu; subst hu; rfl) (by decide) (by unfold maxLen; omega) (by omega) (by simp; omega) _ rfl
  refine ⟨g', c, W', hrun, ho, ((Below.refl B W).alloc hB _).grown hg (by simp; omega) (fun k hk => (hr.lt k hk).1), fun k hk hne => ⟨(hg.block k (by simp; omega) hne).trans (Below.heap_alloc W _ k hk), ?_⟩⟩
  rcases hor with h' | h'
  · rw [h'] at hne; exact hne
  · simp at h'
    simp [Value.ownBlock]
    omega
theorem row_below {W W' : World} {B k : Nat} {v : Value} {t : TypeId} {s : Nat} {xs : List Value} (h : W.ownsRow B t s v k xs) (hb : Below W.heap.size W W') : W'.ownsRow B t s v k xs := by
  refine ⟨h.1, ?_⟩
  rcases h.2 with h2 | ⟨g, c, cur, h1, h2, h3, h4⟩
  · exact Or.inl h2
  · exact Or.inr ⟨g, c, cur, h1, h2, (hb.block g (heap_lt h3)).trans h3, h4⟩
theorem row_one (W : World) (x : Int) : (W.alloc (.cells #[.int .i64 x] 3)).ownsRow W.heap.size 3 1 (.slice (some ⟨W.heap.size, 0, none⟩) 1 1) 1 [.int .i64 x] :=
  ⟨rfl, Or.inr ⟨W.heap.size, 1, #[.int .i64 x], rfl, Nat.le_refl _, World.alloc_heap_new W _, Nat.le_refl _, by decide, rfl, rfl⟩⟩
theorem steps_keep {W W' : World} {l : List Int} {a : Option Addr} {ps : List Nat} (h : StepsAt W l a ps) (hs : W.heap.size ≤ W'.heap.size) (hb : ∀ g, a = some ⟨g, 0, none⟩ → g < W.heap.size → W'.heap[g]? = W.heap[g]?) : StepsAt W' l a ps := by
  rcases h with h | ⟨g, rfl, hg, hc⟩
  · exact Or.inl h
  · have hbb := hb g rfl hg
    refine Or.inr ⟨g, rfl, by omega, fun k hk => ?_⟩
    obtain ⟨h1, h2, h3⟩ := hc k hk
    exact ⟨(World.cell?_of_block (a := ⟨g, k * 3, none⟩) hbb).trans h1, (World.cell?_of_block (a := ⟨g, k * 3 + 1, none⟩) hbb).trans h2, (World.cell?_of_block (a := ⟨g, k * 3 + 2, none⟩) hbb).trans h3⟩

set_option maxRecDepth 100000 in
set_option maxHeartbeats 2000000 in
theorem RTable_at (a0 : Option Addr) (cap : Nat) (l : List Int) (r : Int) (w : World) (hB : IsB w a0 cap l) (hr : isRu r = true) (hl : l.length ≤ 1048576) :
    Calls Tryd.prog 23 #[.slice a0 l.length cap, .int .i64 r] w fun y w' => ∃ g c, y = .returned (.slice (some ⟨g, 0, none⟩) (EE l).length c) ∧ LiesI w' g ((EE l).map (byE r)) ∧ g < w'.heap.size ∧ Below w.heap.size w w' := by
  have hsp := (st_at hB.2.2.2 (List.prefix_refl (spots l 0))).2.2.2.2
  have k1 := row_one w 0
  have b1 := (Below.refl w.heap.size w).alloc (Nat.le_refl _) (.cells #[.int .i64 0] 3)
  have z1 : (w.alloc (.cells #[.int .i64 0] 3)).heap.size = w.heap.size + 1 := by simp
  have hB1 := hB.below b1 (Nat.le_refl _)
  have hby := hB.2.2.2
  clear hB
  go_enter Tryd.func23, Tryd.ntmps23
  go_wp2_with fail
  generalize w.alloc (.cells #[.int .i64 0] 3) = w1 at *
  refine (Steps_at a0 cap l w1 hB1 hl).mono ?_
  rintro e w2 ⟨aS, cS, rfl, hcS, hS, x2⟩
  have k2 := row_same k1 (x2.block _ (by omega))
  have b2 := b1.trans (x2.mono b1.size)
  have r2 : w2.cell? ⟨w.heap.size, 0, none⟩ = some (.int .i64 0) := by
    have := World.ownsRow.cells k2 rfl 0 (.int .i64 0) rfl
    rwa [Addr.add_lit, Nat.zero_add] at this
  have hS2 : spots l 0 = [] ∨ ∃ gS, aS = some ⟨gS, 0, none⟩ ∧ gS < w2.heap.size ∧ some gS ≠ (Value.slice (some ⟨w.heap.size, 0, none⟩) 1 1).ownBlock := by
    by_cases h0 : spots l 0 = []
    · exact Or.inl h0
    · rcases hS with h | ⟨g, rfl, hg, hc⟩
      · exact absurd h h0
      · refine Or.inr ⟨g, rfl, hg, ?_⟩
        intro hh
        obtain rfl : g = w.heap.size := by simpa [Value.ownBlock] using hh
        have := (hc 0 (List.length_pos_iff.2 h0)).1
        rw [Nat.zero_mul, r2] at this
        cases this
  clear r2 x2 k1 b1 hB1
  have H0 : Hid (intsE r (edL l ((spots l 0).take 0)) = [.int .i64 0]) := hide (by rw [List.take_zero, edL_nil, intsE, List.map_singleton, by_e0]; rfl)
  have A0 : Hid (byE r (stE l ((spots l 0).take 0)) = 0) := hide (by rw [List.take_zero]; exact by_e0 r)
  go_wp2_with fail
  generalize hn : (spots l 0).length = n at *
  have HN := hide hn
  clear hn
  go_loopw [5, 7, 8] (fun u at' i wx => ∃ (k : Nat) (v : Value), u = v ∧ k ≤ n ∧ at' = .int .i64 (byE r (stE l ((spots l 0).take k)) : Int) ∧ i = .int .i64 k ∧ Hid (wx.ownsRow w.heap.size 3 1 v (k + 1) (intsE r (edL l ((spots l 0).take k)))) ∧ StepsAt wx l aS (spots l 0) ∧
    (spots l 0 = [] ∨ ∃ gS, aS = some ⟨gS, 0, none⟩ ∧ gS < wx.heap.size ∧ some gS ≠ v.ownBlock) ∧ Below w.heap.size w wx) (fun _ _ i _ => n - (intOf i).toNat)
  case atStart => exact ⟨0, _, rfl, Nat.zero_le _, by rw [unhide A0]; rfl, rfl, hide (by rw [unhide H0]; exact k2), hS, hS2, b2⟩
  case round =>
    obtain ⟨k, v, rfl, hk, rfl, rfl, ho, hst, hne, hb⟩ := hrel
    clear hS hS2 k2 b2 H0 A0
    by_cases hlt : k < n
    · obtain ⟨gS, rfl, hgl, hgn⟩ : ∃ gS, aS = some ⟨gS, 0, none⟩ ∧ gS < wr.heap.size ∧ some gS ≠ Value.ownBlock _ := by
        rcases hne with h | h
        · exfalso; rw [h] at HN; have := unhide HN; simp at this; omega
        · exact h
      obtain ⟨c0, c1, c2⟩ : wr.cell? ⟨gS, k * 3, none⟩ = some (.int .i32 (first (l.drop ((spots l 0).getD k 0))).1) ∧ wr.cell? ⟨gS, k * 3 + 1, none⟩ = some (.int .i64 (wid (l.drop ((spots l 0).getD k 0)))) ∧ wr.cell? ⟨gS, k * 3 + 2, none⟩ = some (.bool (whl (l.drop ((spots l 0).getD k 0)))) := by
        rcases hst with h | ⟨g2, h1, _, h3⟩
        · exfalso; rw [h] at HN; have := unhide HN; simp at this; omega
        · cases h1
          exact h3 k (by rw [unhide HN]; exact hlt)
      have hq := spots_lt (l := l) (k := k) (by rw [unhide HN]; exact hlt)
      have hts : (spots l 0).take (k + 1) = (spots l 0).take k ++ [(spots l 0).getD k 0] := by
        rw [List.take_add_one, List.getElem?_eq_getElem (by rw [unhide HN]; exact hlt), List.getD, List.getElem?_eq_getElem (by rw [unhide HN]; exact hlt)]; rfl
      have hcn := by_cn hby hr (stE l ((spots l 0).take k)) hq
      rw [← stE_snoc, ← hts] at hcn
      have hed : intsE r (edL l ((spots l 0).take (k + 1))) = intsE r (edL l ((spots l 0).take k)) ++ [.int .i64 (byE r (stE l ((spots l 0).take (k + 1))) : Int)] := by
        rw [hts, edL_snoc, ← hts, intsE, List.map_append, List.map_singleton]; rfl
      have hle : byE r (stE l ((spots l 0).take (k + 1))) ≤ 2 * l.length := by
        obtain ⟨h1, _, h3, h4, h5⟩ := st_at hby (List.take_prefix (k + 1) (spots l 0))
        unfold byE
        split
        · omega
        · split <;> omega
      generalize (spots l 0).getD k 0 = q at *
      generalize byE r (stE l ((spots l 0).take k)) = at0 at *
      generalize hat : byE r (stE l ((spots l 0).take (k + 1))) = at1 at *
      have hw1 : wrap64 ((at0 : Int) + (cnE r (first (l.drop q)).1 (wid (l.drop q)) : Int)) = (at1 : Int) := by rw [hcn]; exact (wrap_nat at0 _ (by omega)).trans (by omega)
      have hw2 : wrap64 ((k : Int) + 1) = (k : Int) + 1 := wrap_nat k 1 (by omega)
      have HED := hide hed
      have HAT := hide hat
      have HHB := hide hb
      have hbs := hb.size
      have HSTT := hide hst
      clear hed hat hts hcn hle hst hne hb
      go_wp2_with fail
      refine (count_at _ _ _ r wr).mono ?_
      rintro e w3 ⟨rfl, x3⟩
      have o3 := row_below (unhide ho) x3
      have s3 := x3.size
      have hk1 : k + 1 ≤ 4194304 := Nat.le_trans (Nat.succ_le_of_lt hlt) (Nat.le_trans (unhide HN ▸ hsp) (Nat.le_trans hl (by decide)))
      obtain ⟨g', c', w4, r4, o4, x4, n4⟩ := push_intR w3 w.heap.size (k + 1) _ _ (at1 : Int) 36 o3 hk1 (Nat.le_trans hbs s3)
      have R4 := hide r4
      clear r4
      go_upto_region 8 with fail
      simp only [hw1]
      clear hw1
      go_wp2_with (at_builtin; refine wpList_append_known rfl _ _ 36 36 rfl _ _ rfl rfl _ _ (unhide R4) ?_)
      go_roundw
      case rel =>
        refine ⟨k + 1, _, rfl, by omega, by rw [unhide HAT], rfl, hide (by rw [unhide HED]; exact o4), ?_, Or.inr ⟨gS, rfl, ?_, ?_⟩, ?_⟩
        · refine steps_keep (unhide HSTT) (Nat.le_trans s3 x4.size) (fun g2 h2 hl2 => ?_)
          cases h2
          exact ((n4 gS (by omega) hgn).1).trans (x3.block gS hgl)
        · have := x4.size; omega
        · exact (n4 gS (by omega) hgn).2
        · exact ((unhide HHB).trans (x3.mono hbs)).trans x4
      case measure => simp [intOf]; omega
    · obtain rfl : k = n := by omega
      have htk : (spots l 0).take k = spots l 0 := by rw [← unhide HN]; exact List.take_length
      have o5 := unhide ho
      rw [htk] at o5
      have hlE : (EE l).length = k + 1 := by rw [EE_len, unhide HN]
      have o6 := o5
      rw [show edL l (spots l 0) = EE l from rfl, intsE_map, ← hlE, ← List.length_map (f := byE r)] at o6
      obtain ⟨g7, c7, rfl, l7, z7⟩ := rowI o6 (fun h => by have := congrArg List.length h; rw [List.length_map, hlE] at this; simp at this)
      have HLE := hide hlE
      clear o5 o6 hlE htk
      go_wp2
      go_ret
      exact ⟨g7, c7, congrArg (fun n => Ending.returned (Value.slice (some ⟨g7, 0, none⟩) n c7)) (List.length_map _), l7, z7, hb⟩

end Go.Proofs.YtnkeohiibninfabDoor
