/- The walk of StepLanguage, for arguments under the bound: it answers true wherever the table holds the classes, and changes nothing that was there. -/
import Derived.Test.YtffancemlpoebaaDoorTilesW
import Derived.Test.YtffancemlpoebaaDoorRun
import Derived.Deep.RegionHeldLaw
namespace Go.Proofs.YtffancemlpoebaaDoor
open Go.ChangeShapes Go.WideShapes Go.ChangeAt Go.RowKit

set_option maxRecDepth 100000 in
set_option maxHeartbeats 4000000 in
theorem StepLanguage_any (a0 : Option Addr) (cap : Nat) (l : List Int) (w : World) (hB : IsB w a0 cap l) (qb : cap ≤ 1048576) (hT : Tab w) :
    Calls Tryd.prog 6 #[.slice a0 l.length cap] w fun e w' => e = .returned (.bool true) ∧ Below w.heap.size w w' := by
  have lB : l.length ≤ 1048576 := Nat.le_trans hB.1 qb
  have HLB := hide hB.2.2.2
  have HSZ := hide (strOfNums_size l)
  go_enter Tryd.func6, Tryd.ntmps6
  go_wp2_with fail
  refine (fixed_any w hT).mono ?_
  rintro e w1 ⟨rfl, x1⟩
  have hB1 := hB.below x1 (Nat.le_refl _)
  have hT1 := hT.below x1 hT.size
  clear hB hT
  go_wp2_with fail
  refine (All_at a0 cap l w1 hB1).mono ?_
  rintro e w2 ⟨rfl, rfl⟩
  go_wp2_with fail
  refine (gone_all a0 cap l w1 hB1 hT1 lB).mono ?_
  rintro e w3 ⟨a1, c1, a2, c2, rfl, k1, k2, hi, hs, x3⟩
  have d1 := (Below.refl w1.heap.size w1).alloc (Nat.le_refl _) (.cells #[.string (strOfNums l)] 9)
  have x13 := d1.trans (x3.mono (by omega))
  have tw : TW w a0 cap l a1 a2 w3 := ⟨hB1.below x13 (Nat.le_refl _), hT1.below x13 hT1.size, hi, hs, x1.trans (x13.mono x1.size)⟩
  have hnl := spots_le l
  clear hB1 hT1 x1 hi hs x3 d1 x13
  generalize w1.heap.size = g1
  have kb := str_bs w3 a0 cap l tw.isB.2.2.1
  go_wp2_with fail
  clear kb
  generalize hn : (spots l 0).length = n at *
  have HN := hide hn
  clear hn
  go_loopw [5] (fun i wx => ∃ (pre : List Nat) (p : Nat), i = .int .i64 pre.length ∧ wx.heap[w3.heap.size]? = some (.stringIter (strOfNums l) p) ∧ p ≤ l.length ∧ Hid (spots l 0 = pre ++ spots l p) ∧ Below w3.heap.size w3 wx) (fun _ wx => (strOfNums l).size - wx.iterPos w3.heap.size)
  case atStart => exact ⟨[], 0, rfl, World.iter_heap w3 _ 0, Nat.zero_le _, rfl, (Below.refl _ w3).alloc (Nat.le_refl _) _⟩
  case round =>
    obtain ⟨pre, p, rfl, hk, hpl, hsp, hb⟩ := hrel
    by_cases hp : p < l.length
    · have hps : p < (strOfNums l).size := by rw [unhide HSZ]; exact hp
      have hnx : ∀ ty, (Instr.next (.pointer (some ⟨w3.heap.size, 0, none⟩)) true ty).run Tryd.prog wr = _ := fun ty => next_in wr w3.heap.size (strOfNums l) p ty hk hps
      obtain ⟨e1, e2⟩ := decode_stp (unhide HLB) hp
      rw [e1, e2] at hnx
      have hb1 := below_put (o := .stringIter (strOfNums l) (p + wid (l.drop p))) hb (Nat.le_refl _)
      have hk1 : (wr.putObj w3.heap.size (.stringIter (strOfNums l) (p + wid (l.drop p)))).heap[w3.heap.size]? = some (.stringIter (strOfNums l) (p + wid (l.drop p))) := World.putObj_heap_same (heap_lt hk)
      have hip := pos_in hk
      obtain ⟨hkn, hg⟩ := spots_get (unhide hsp) hp
      rw [unhide HN] at hkn
      have tx := tw.on hb1
      have hwl := wid_len hp
      have hwp := wid_pos hp
      have hnx' := hide hnx
      clear e1 e2 hnx hk hb
      generalize wr.putObj w3.heap.size (.stringIter (strOfNums l) (p + wid (l.drop p))) = wy at *
      obtain ⟨gi, rfl, gil, gic⟩ : ∃ g, a1 = some ⟨g, 0, none⟩ ∧ g < wy.heap.size ∧ wy.cell? ⟨g, pre.length, none⟩ = some (.int .i64 (p : Nat)) := by
        rcases tx.pi with h | ⟨g, h1, h2, h3⟩
        · have := unhide HN; rw [h] at this; simp at this; omega
        · exact ⟨g, h1, h2, by rw [h3 _ (by rw [unhide HN]; exact hkn), hg]⟩
      obtain ⟨gs, rfl, gsl, gs0⟩ : ∃ g, a2 = some ⟨g, 0, none⟩ ∧ g < wy.heap.size ∧ wy.cell? ⟨g, pre.length * 3, none⟩ = some (.int .i32 (first (l.drop p)).1) := by
        rcases tx.si with h | ⟨g, h1, h2, h3⟩
        · have := unhide HN; rw [h] at this; simp at this; omega
        · have := h3 pre.length (by rw [unhide HN]; exact hkn)
          rw [hg] at this
          exact ⟨g, h1, h2, this.1⟩
      have hnx := unhide hnx'
      have HSC := hide (spots_cons hp)
      generalize hpre : pre.length = k at *
      have HPRE := hide hpre
      have hkd : decide ((n : Int) ≤ (k : Int)) = false := decide_eq_false (by omega)
      generalize hwd : wid (l.drop p) = wd at *
      generalize (first (l.drop p)).1 = r at *
      clear hpre hnx' hg
      go_wp2_with fail
      go_roundw
      case rel =>
        refine ⟨pre ++ [p], p + wd, ?_, hk1, by omega, ?_, hb1⟩
        · rw [List.length_append, unhide HPRE]; go_num
        · refine hide ?_
          rw [unhide hsp, unhide HSC]
          simp
      case measure => rw [pos_in hk1, hip]; omega
    · have hps : ¬ p < (strOfNums l).size := by rw [unhide HSZ]; exact hp
      have hnx : ∀ ty, (Instr.next (.pointer (some ⟨w3.heap.size, 0, none⟩)) true ty).run Tryd.prog wr = _ := fun ty => next_out wr w3.heap.size (strOfNums l) p ty hk hps
      have hfull := spots_full (unhide hsp) hp
      rw [unhide HN] at hfull
      have tx := tw.on hb
      clear hk hb hsp hp
      go_wp2_with fail
      refine (Runes_at a0 cap l wr tx.isB (by omega)).mono ?_
      rintro e w4 ⟨g4, c4, rfl, h4, r4, x4⟩
      have ty := tx.on x4
      clear tx tw x4 hnx
      have hfull' := hide hfull
      generalize hpre : pre.length = k at *
      subst hfull
      clear hpre hpl hps
      have hq : ((strOfNums ((runesL l).flatMap enc)).toList == (strOfNums l).toList) = valid l := by
        rw [str_beq (fun x hx => ?_) (unhide HLB), valid_back (unhide HLB)]
        obtain ⟨r, _, hr⟩ := List.mem_flatMap.1 hx
        exact enc_bytes r x hr
      have HQ := hide hq
      obtain ⟨c5, w5, hrun, h5, r5, x5⟩ := run_runes w4.drew l (unhide HLB) (by omega)
      have b5 : Below w4.heap.size w4 w5 := (Below.refl w4.heap.size w4).drew.trans x5
      have ty5 := ty.on b5
      have r45 := r4.below b5 (Nat.le_refl _)
      have HS0 : Hid (Bs w4.drew a0 l ∧ RunesAt w4.drew (some ⟨g4, 0, none⟩) (runesL l)) := hide ⟨ty.isB.2.2.1, r4⟩
      have HS5 : Hid (Bs w5 a0 l ∧ RunesAt w5 (some ⟨g4, 0, none⟩) (runesL l)) := hide ⟨ty5.isB.2.2.1, r45⟩
      have kc : ∀ w', Bs w' a0 l → (convert 28 9 (.slice a0 l.length cap)).run Tryd.prog w' = .ok (.string (strOfNums l)) w' := fun w' h => str_bs w' a0 cap l h
      have kr : ∀ w', RunesAt w' (some ⟨g4, 0, none⟩) (runesL l) → (convert 31 9 (.slice (some ⟨g4, 0, none⟩) (runesL l).length c4)).run Tryd.prog w' = .ok (.string (strOfNums ((runesL l).flatMap enc))) w' := fun w' h => run_back w' g4 c4 (runesL l) h
      have hml : (runesL l).length ≤ maxLen := by have := runesL_le l; unfold maxLen; omega
      have HR5 := hide r5
      have HR45 := hide r45
      clear hq r4 r45 r5 x5 ty b5
      go_upto_region 14 with fail
      go_region_held_law (fun w' => Bs w' a0 l ∧ RunesAt w' (some ⟨g4, 0, none⟩) (runesL l)) (first | exact unhide HS0 | exact unhide HS5 | exact unhide HS6 | exact unhide HS7)
        (first
          | (go_at_call 28; refine (same_at _ _ _ _ (runesL l) _ (unhide HR45) (unhide HR5) hml).mono ?_; rintro e w6 ⟨rfl, q6⟩; have x6 := quiet_below q6 w5.heap.size; have ty6 := ty5.on x6; have HS6 := hide (And.intro ty6.isB.2.2.1 ((unhide HR45).below x6 (Nat.le_refl _))); clear q6)
          | (go_at_call 29; refine (Valid_at a0 cap l _ ty6.isB ty6.tab).mono ?_; rintro e w7 ⟨rfl, x7⟩; have ty7 := ty6.on x7; have HS7 := hide (And.intro ty7.isB.2.2.1 ((unhide HS6).2.below x7 (Nat.le_refl _)))))
      rw [unhide HQ]
      go_wp2_with fail
      go_ret
      exact ⟨ret_bool (by simp), ty7.below⟩

end Go.Proofs.YtffancemlpoebaaDoor
