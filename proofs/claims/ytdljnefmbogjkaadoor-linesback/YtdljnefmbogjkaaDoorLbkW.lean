/- Layer 7, plain: the number of an edge's place (LinesBack). -/
import Derived.Test.YtdljnefmbogjkaaDoorLnk
import Derived.Test.YtdljnefmbogjkaaDoorLnf
namespace Go.Proofs.YtdljnefmbogjkaaDoor
open Go.ChangeShapes Go.WideShapes Go.ChangeAt Go.RowKit
attribute [local go_sem] Oper.semAt_some

def edN (l : List Int) : List Nat := spots l 0 ++ [l.length]
theorem edN_len (l : List Int) : (edN l).length = (spots l 0).length + 1 := by simp [edN]
theorem edN_at {l : List Int} (hl : ∀ x ∈ l, 0 ≤ x ∧ x ≤ 255) {k : Nat} (h : k < (edN l).length) : (edN l).getD k 0 = ((EE l).getD k e0).1 := by
  rw [edN_len] at h
  unfold EE
  rw [edL_getD _ _ _ (by omega)]
  by_cases hk : k < (spots l 0).length
  · have hg : (edN l).getD k 0 = (spots l 0)[k] := by unfold edN; rw [List.getD_eq_getElem?_getD, List.getElem?_append_left hk, List.getElem?_eq_getElem hk]; rfl
    have hpre : (spots l 0).take k ++ [(spots l 0)[k]] <+: spots l 0 := ⟨(spots l 0).drop (k + 1), by rw [List.append_assoc, List.singleton_append, ← List.drop_eq_getElem_cons hk, List.take_append_drop]⟩
    rw [hg, (st_next hl hpre).1]
  · obtain rfl : k = (spots l 0).length := by omega
    rw [List.take_length, st_full hl]
    unfold edN
    rw [List.getD_eq_getElem?_getD]
    simp
theorem fl_ix {l : List Int} (hl : ∀ x ∈ l, 0 ≤ x ∧ x ≤ 255) {k p : Nat} (hp : p ≤ l.length) (hk : k < (edN l).length) (h1 : (edN l).getD k 0 ≤ p) (h2 : k + 1 < (edN l).length → p < (edN l).getD (k + 1) 0) : (edN l).getD k 0 = flr l p := by
  have hle := flr_le l p
  have hEl : (EE l).length = (edN l).length := by rw [EE_len, edN_len]
  obtain ⟨j, hj, hje⟩ := edge_ix hl (p := flr l p) (by omega) (flr_edge l p)
  have hin := EE_inside hl (i := k) (by omega)
  have hI := inc_EE hl 1
  rw [edN_at hl hk] at h1 ⊢
  have b1 : ∀ e : Ed, byE 1 e = e.1 := fun e => rfl
  rcases Nat.lt_trichotomy ((EE l).getD k e0).1 (flr l p) with h | h | h
  · have hkj : k < j := by
      rcases Nat.lt_or_ge k j with q | q
      · exact q
      · have := hI.le q (by omega); rw [b1, b1] at this; omega
    have h3 := h2 (by omega)
    rw [edN_at hl (by omega)] at h3
    have := hI.le (i := k + 1) (j := j) (by omega) hj
    rw [b1, b1] at this
    omega
  · exact h
  · cases hi : inside l p with
    | false => have := flr_eq hi; omega
    | true =>
      obtain ⟨_, h5⟩ := flr_over hi
      have : inside l ((EE l).getD k e0).1 = true := (inside_iff l _).2 ⟨flr l p, h, by omega⟩
      rw [hin] at this
      cases this
theorem edN_le {l : List Int} (hl : ∀ x ∈ l, 0 ≤ x ∧ x ≤ 255) {k : Nat} (h : k < (edN l).length) : (edN l).getD k 0 ≤ l.length := by
  rw [edN_at hl h]
  exact EE_le hl (by rw [EE_len, ← edN_len]; exact h)
theorem edN_zero {l : List Int} (hl : ∀ x ∈ l, 0 ≤ x ∧ x ≤ 255) : (edN l).getD 0 0 = 0 := by
  rw [edN_at hl (by rw [edN_len]; omega), (inc_EE hl 1).1]
  rfl
/-- Spot of an edge, and of a place inside -/
theorem sp_in {l : List Int} {r : Int} (hr : isRu r = true) {p : Nat} (hp : p ≤ l.length) : spV l (p : Int) r = .tuple #[.agg #[.int .i64 ((lnOf l (flr l p)).1 : Int), .int .i64 (colE l (flr l p) r : Int)], .int .i64 0] := by
  unfold spV
  rw [if_pos hr, if_neg (by omega)]
  simp

set_option maxRecDepth 100000 in
set_option maxHeartbeats 8000000 in
theorem LinesBack_any (a0 : Option Addr) (cap : Nat) (l : List Int) (r : Int) (w : World) (hB : IsB w a0 cap l) (_hr : (Lit.int .i64 r).wf = true) (hT : Tab w) :
    Calls Tryd.prog 7 #[.slice a0 l.length cap, .int .i64 r] w fun e w' => e = .returned (.bool true) ∧ Below w.heap.size w w' := by
  clear _hr
  have hlb := hB.2.2.2
  have h1 := awake7_any w hT
  go_enter Tryd.func7, Tryd.ntmps7
  go_wp2_with fail
  refine h1.mono ?_
  rintro e w1 ⟨rfl, b1⟩
  clear h1
  go_wp2_with fail
  refine (Large_at a0 l.length cap w1).mono ?_
  rintro e w1' ⟨rfl, hw1⟩
  rw [hw1]
  clear hw1 w1'
  by_cases hL : 600 < l.length
  · have q1 : decide (600 < l.length) = true := decide_eq_true hL
    rw [q1]
    go_wp2_with fail
    go_ret
    exact ⟨rfl, b1⟩
  · have q1 : decide (600 < l.length) = false := decide_eq_false hL
    rw [q1]
    cases hr : isRu r with
    | false =>
      have hor : r < 1 ∨ 3 < r := by unfold isRu at hr; have := of_decide_eq_false hr; omega
      by_cases h3 : r < 1
      · have q2 : decide (r < 1) = true := decide_eq_true h3
        go_wp2_with fail
        go_ret
        exact ⟨rfl, b1⟩
      · have q2 : decide (r < 1) = false := decide_eq_false h3
        have q3 : decide (r > 3) = true := decide_eq_true (by omega)
        have q4 : decide (3 < r) = true := decide_eq_true (by omega)
        go_wp2_with fail
        go_ret
        exact ⟨rfl, b1⟩
    | true =>
      have hrr : 1 ≤ r ∧ r ≤ 3 := of_decide_eq_true hr
      have q2 : decide (r < 1) = false := decide_eq_false (by omega)
      have q3 : decide (r > 3) = false := decide_eq_false (by omega)
      have q4 : decide (3 < r) = false := decide_eq_false (by omega)
      have HR := hide hr
      clear hrr hr
      have hB1 := hB.below b1 (Nat.le_refl _)
      go_wp2_with fail
      refine (Edges4_at a0 cap l w1 hB1 (by omega)).mono ?_
      rintro e w2 ⟨v, rfl, o2, x2⟩
      have b2 := b1.trans (x2.mono b1.size)
      rw [← edN_len] at o2
      obtain ⟨gE, cE, rfl, lE, zE⟩ := rowI (ps := edN l) o2 (by unfold edN; simp)
      have HN : Hid ((edN l).length = (spots l 0).length + 1) := hide (edN_len l)
      have hNs : (edN l).length ≤ 601 := by have := spots_lenS l l.length 0 (by omega) (Nat.zero_le _); rw [edN_len]; omega
      have HLB := hide hlb
      have hL' : l.length ≤ 600 := by omega
      clear o2 x2 hB1 b1 q1 hL q2 q3 q4 hlb
      have k0 : 0 < (edN l).length := by rw [edN_len]; omega
      have HZ := hide (edN_zero (unhide HLB))
      go_wp2_with fail
      generalize hNN : (edN l).length = N at *
      have HNN := hide hNN
      clear hNN
      go_loopw [6, 7] (fun v6 v7 wx => ∃ k p : Nat, v6 = .int .i64 (k : Int) ∧ v7 = .int .i64 (p : Int) ∧ p ≤ l.length + 1 ∧ k < N ∧ Hid ((edN l).getD k 0 ≤ p) ∧ Below w2.heap.size w2 wx) (fun _ v7 _ => l.length + 1 - (intOf v7).toNat)
      case atStart => exact ⟨0, 0, rfl, rfl, by omega, k0, hide (by rw [unhide HZ]; exact Nat.le_refl _), Below.refl _ _⟩
      case round =>
        obtain ⟨k, p, rfl, rfl, hp, hk, hek, hb⟩ := hrel
        by_cases hlt : p ≤ l.length
        · have t1 : decide ((p : Int) ≤ (l.length : Int)) = true := decide_eq_true (by omega)
          have lEx := lE.below hb zE
          go_wp2_with fail
          go_loop [6] (fun v => ∃ k : Nat, v = .int .i64 (k : Int) ∧ k < N ∧ Hid ((edN l).getD k 0 ≤ p)) (fun v => N - (intOf v).toNat)
          case atStart => exact ⟨k, rfl, hk, hek⟩
          case round =>
            clear hk hek
            obtain ⟨k, rfl, hk, hek⟩ := hrel
            have hwk : wrap64 ((k : Int) + 1) = (k : Int) + 1 := wrap_nat k 1 (by omega)
            by_cases hgo : k + 1 < N ∧ (edN l).getD (k + 1) 0 ≤ p
            · have t2 : decide ((k : Int) + 1 < (N : Int)) = true := decide_eq_true (by omega)
              have c1 : wr.cell? ⟨gE, k + 1, none⟩ = _ := lEx (k + 1) (by rw [unhide HNN]; exact hgo.1)
              have HG2 := hide hgo.2
              have hk1 := hgo.1
              have t3 : decide (((edN l).getD (k + 1) 0 : Int) ≤ (p : Int)) = true := decide_eq_true (by have := hgo.2; omega)
              clear hgo
              generalize hed : (edN l).getD (k + 1) 0 = ed at *
              have HED := hide hed
              clear hed
              go_wp2_with fail
              go_round
              case rel => exact ⟨k + 1, by go_num, hk1, hide (by rw [unhide HED]; exact unhide HG2)⟩
              case measure => simp [intOf]; omega
            · have hnx : k + 1 < N → p < (edN l).getD (k + 1) 0 := fun h => by
                rcases Nat.lt_or_ge p ((edN l).getD (k + 1) 0) with h2 | h2
                · exact h2
                · exact absurd ⟨h, h2⟩ hgo
              clear hgo
              have hor : decide ((k : Int) + 1 < (N : Int)) = false ∨ (decide ((k : Int) + 1 < (N : Int)) = true ∧ k + 1 < N ∧ ∃ ed : Nat, wr.cell? ⟨gE, k + 1, none⟩ = some (.int .i64 (ed : Int)) ∧ decide ((ed : Int) ≤ (p : Int)) = false ∧ decide (ed ≤ p) = false) := by
                by_cases h : k + 1 < N
                · have h5 := hnx h
                  exact Or.inr ⟨decide_eq_true (by omega), h, (edN l).getD (k + 1) 0, lEx (k + 1) (by rw [unhide HNN]; exact h), decide_eq_false (by omega), decide_eq_false (by omega)⟩
                · exact Or.inl (decide_eq_false (by omega))
              have hfl := fl_ix (unhide HLB) hlt (by rw [unhide HNN]; exact hk) (unhide hek) (by rw [unhide HNN]; exact hnx)
              have hBx := hB.below (b2.trans (hb.mono b2.size)) (Nat.le_refl _)
              have hTx := hT.below (b2.trans (hb.mono b2.size)) hT.size
              have HBK : Hid (∀ m : Int, isRu m = true → atR l ((lnOf l (flr l p)).1 : Int) (colE l (flr l p) r : Int) r m = 0 ∧ atP l ((lnOf l (flr l p)).1 : Int) (colE l (flr l p) r : Int) r m = flr l p) := hide (fun m hm => back_at (unhide HLB) (unhide HR) hm (by have := flr_le l p; omega) (flr_edge l p))
              have HSP2 : Hid (spV l (flr l p : Int) r = .tuple #[.agg #[.int .i64 ((lnOf l (flr l p)).1 : Int), .int .i64 (colE l (flr l p) r : Int)], .int .i64 0]) := hide (by rw [sp_in (unhide HR) (by have := flr_le l p; omega), flr_eq (flr_edge l p)])
              have HSP1 := hide (sp_in (l := l) (unhide HR) hlt)
              have cfl2 : w2.cell? ⟨gE, k, none⟩ = some (.int .i64 (flr l p : Int)) := by rw [← hfl]; exact lE k (by rw [unhide HNN]; exact hk)
              clear hfl hnx
              generalize flr l p = fl at *
              generalize (lnOf l fl).1 = kl at *
              generalize colE l fl r = co at *
              rcases hor with t2 | ⟨t2, hk1, ed, c1, t3, t4⟩
              case inl =>
                go_wp2_with fail
                try clear c1 t3 t4 hk1
                clear t2 hwk lEx
                refine (own7_at a0 cap l wr hBx).mono ?_
                rintro e w3 ⟨a3, c3, rfl, j3, x3⟩
                have hT3 := hTx.below x3 hTx.size
                have hb3 := hb.trans (x3.mono hb.size)
                go_wp2_with fail
                refine (Spot_at a3 c3 l (p : Int) r w3 j3 hT3).mono ?_
                rw [unhide HSP1]
                rintro e w4 ⟨rfl, x4⟩
                have hb4 := hb3.trans (x4.mono hb3.size)
                have k5 := Cls.new w4 45 #[.int .i64 (kl : Int), .int .i64 (co : Int)]
                have hb5 := hb4.alloc (o := .cells #[.int .i64 (kl : Int), .int .i64 (co : Int)] 45) hb4.size
                clear x3 x4 j3 hT3 hb3 hb4 HSP1 hBx hTx
                go_wp2_with fail
                generalize w4.alloc (.cells #[.int .i64 (kl : Int), .int .i64 (co : Int)] 45) = w5 at *
                generalize w4.heap.size = gS at *
                go_loopw [10] (fun v wx => ∃ m : Int, v = .int .i64 m ∧ 1 ≤ m ∧ m ≤ 4 ∧ Below w5.heap.size w5 wx) (fun v _ => (4 - intOf v).toNat)
                case atStart => exact ⟨1, rfl, by omega, by omega, Below.refl _ _⟩
                case round =>
                  obtain ⟨m, rfl, hm1, hm4, hbm⟩ := hrel
                  have kS := k5.below hbm k5.lt
                  have hbx := hb5.trans (hbm.mono hb5.size)
                  have hbw := b2.trans (hbx.mono b2.size)
                  have hBx := hB.below hbw (Nat.le_refl _)
                  have hTx := hT.below hbw hT.size
                  have cfl : wr.cell? ⟨gE, k, none⟩ = some (.int .i64 (fl : Int)) := (hbx.cell (p := ⟨gE, k, none⟩) zE).trans cfl2
                  by_cases hm3 : m ≤ 3
                  · have t3 : decide (m ≤ 3) = true := decide_eq_true hm3
                    have hwm : wrap64 (m + 1) = m + 1 := wrap_in _ (by omega) (by omega)
                    have HBM := hide (unhide HBK m (decide_eq_true ⟨hm1, hm3⟩))
                    go_wp2_with fail
                    have HS : Hid ((fun w' : World => w'.cell? ⟨gS, 0, none⟩ = some (.int .i64 (kl : Int)) ∧ w'.cell? ⟨gS, 1, none⟩ = some (.int .i64 (co : Int))) wr.drew) := hide ⟨(kS.cell 0).trans rfl, (kS.cell 1).trans rfl⟩
                    refine regionL (S := fun w' => w'.cell? ⟨gS, 0, none⟩ = some (.int .i64 (kl : Int)) ∧ w'.cell? ⟨gS, 1, none⟩ = some (.int .i64 (co : Int))) (fun _ => false) (by kernel_rfl) ?_
                    have hB0 : IsB wr.drew a0 cap l := hBx
                    have hT0 : Tab wr.drew := hTx
                    have kS0 : Cls wr.drew gS _ _ := kS
                    have hbm0 : Below w5.heap.size w5 wr.drew := hbm.trans (ch_drew (N := w5.heap.size) (n := 0) wr).1
                    generalize wr.drew = y0 at *
                    refine anyL_take (i := 0) (v := ?vm0) rfl (by kernel_rfl) (by kernel_rfl) (by kernel_rfl) (by kernel_rfl) (fun _ _ _ h => h) (Or.inl ⟨by rfl, ?hm0⟩) (unhide HS) ?_
                    case hm0 => (intro w hSw; (try dsimp only at hSw); go_simp) <;> with_reducible rfl
                    simp only [Act.put, List.getElem_toArray, List.getElem_cons_zero, List.setIfInBounds_toArray, List.set_cons_zero, List.set_cons_succ]
                    refine anyL_take (i := 2) (v := ?vm2) rfl (by kernel_rfl) (by kernel_rfl) (by kernel_rfl) (by kernel_rfl) (fun _ _ _ h => h) (Or.inl ⟨by rfl, ?hm2⟩) (unhide HS) ?_
                    case hm2 => (intro w hSw; (try dsimp only at hSw); go_simp) <;> with_reducible rfl
                    simp only [Act.put, List.getElem_toArray, List.getElem_cons_zero, List.getElem_cons_succ, List.setIfInBounds_toArray, List.set_cons_zero, List.set_cons_succ]
                    refine anyL_take (i := 3) (v := ?vm3) rfl (by kernel_rfl) (by kernel_rfl) (by kernel_rfl) (by kernel_rfl) (fun _ _ _ h => h) (Or.inl ⟨by rfl, ?hm3⟩) (unhide HS) ?_
                    case hm3 => (intro w hSw; (try dsimp only at hSw); go_simp) <;> with_reducible rfl
                    simp only [Act.put, List.getElem_toArray, List.getElem_cons_zero, List.getElem_cons_succ, List.setIfInBounds_toArray, List.set_cons_zero, List.set_cons_succ]
                    refine anyL_take (i := 4) (v := ?vm4) rfl (by kernel_rfl) (by kernel_rfl) (by kernel_rfl) (by kernel_rfl) (fun _ _ _ h => h) (Or.inl ⟨by rfl, ?hm4⟩) (unhide HS) ?_
                    case hm4 => (intro w hSw; (try dsimp only at hSw); go_simp) <;> with_reducible rfl
                    simp only [Act.put, List.getElem_toArray, List.getElem_cons_zero, List.getElem_cons_succ, List.setIfInBounds_toArray, List.set_cons_zero, List.set_cons_succ]
                    refine anyL_ready (rs := [1]) (by kernel_rfl) (by simp) ?_
                    refine AllL.cons rfl (fun K hK => ?_) AllL.nil
                    go_simp
                    refine (own7_at a0 cap l y0 hB0).mono ?_
                    rintro y y1 ⟨a1, c1, rfl, j1, x1⟩
                    have kS1 := kS0.below x1 kS0.lt
                    have hT1 := hT0.below x1 hT0.size
                    have hbm1 := hbm0.trans (x1.mono hbm0.size)
                    have HS1 : Hid ((fun w' : World => w'.cell? ⟨gS, 0, none⟩ = some (.int .i64 (kl : Int)) ∧ w'.cell? ⟨gS, 1, none⟩ = some (.int .i64 (co : Int))) y1) := hide ⟨(kS1.cell 0).trans rfl, (kS1.cell 1).trans rfl⟩
                    refine unhide hK _ _ (fun _ => unhide HS1) ?_
                    clear hK K x1 kS0 hT0 hB0 HS hbm0
                    refine anyL_ready (rs := [5]) (by kernel_rfl) (by simp) ?_
                    refine AllL.cons rfl (fun K hK => ?_) AllL.nil
                    go_simp
                    have hat := AtL_at a1 c1 l (kl : Int) (co : Int) r m y1 j1 hT1
                    rw [(unhide HBM).1, (unhide HBM).2] at hat
                    refine hat.mono ?_
                    rintro y y2 ⟨rfl, x2⟩
                    have kS2 := kS1.below x2 kS1.lt
                    have hbm2 := hbm1.trans (x2.mono hbm1.size)
                    have HS2 : Hid ((fun w' : World => w'.cell? ⟨gS, 0, none⟩ = some (.int .i64 (kl : Int)) ∧ w'.cell? ⟨gS, 1, none⟩ = some (.int .i64 (co : Int))) y2) := hide ⟨(kS2.cell 0).trans rfl, (kS2.cell 1).trans rfl⟩
                    refine unhide hK _ _ (fun _ => unhide HS2) ?_
                    clear hK K hat x2 kS1 hT1 j1 HS1 hbm1
                    refine anyL_take (i := 6) (v := ?vm6) rfl (by kernel_rfl) (by kernel_rfl) (by kernel_rfl) (by kernel_rfl) (fun _ _ _ h => h) (Or.inl ⟨by rfl, ?hm6⟩) (unhide HS2) ?_
                    case hm6 => (intro w hSw; (try dsimp only at hSw); go_simp) <;> with_reducible rfl
                    simp only [Act.put, List.getElem_toArray, List.getElem_cons_zero, List.getElem_cons_succ, List.setIfInBounds_toArray, List.set_cons_zero, List.set_cons_succ]
                    refine anyL_take (i := 7) (v := ?vm7) rfl (by kernel_rfl) (by kernel_rfl) (by kernel_rfl) (by kernel_rfl) (fun _ _ _ h => h) (Or.inl ⟨by rfl, ?hm7⟩) (unhide HS2) ?_
                    case hm7 => (intro w hSw; (try dsimp only at hSw); go_simp) <;> with_reducible rfl
                    simp only [Act.put, List.getElem_toArray, List.getElem_cons_zero, List.getElem_cons_succ, List.setIfInBounds_toArray, List.set_cons_zero, List.set_cons_succ]
                    refine anyL_take (i := 8) (v := ?vm8) rfl (by kernel_rfl) (by kernel_rfl) (by kernel_rfl) (by kernel_rfl) (fun _ _ _ h => h) (Or.inl ⟨by rfl, ?hm8⟩) (unhide HS2) ?_
                    case hm8 => (intro w hSw; (try dsimp only at hSw); go_simp) <;> with_reducible rfl
                    simp only [Act.put, List.getElem_toArray, List.getElem_cons_zero, List.getElem_cons_succ, List.setIfInBounds_toArray, List.set_cons_zero, List.set_cons_succ]
                    refine anyL_take (i := 9) (v := ?vm9) rfl (by kernel_rfl) (by kernel_rfl) (by kernel_rfl) (by kernel_rfl) (fun _ _ _ h => h) (Or.inl ⟨by rfl, ?hm9⟩) (unhide HS2) ?_
                    case hm9 => (intro w hSw; (try dsimp only at hSw); go_simp) <;> with_reducible rfl
                    simp only [Act.put, List.getElem_toArray, List.getElem_cons_zero, List.getElem_cons_succ, List.setIfInBounds_toArray, List.set_cons_zero, List.set_cons_succ]
                    refine anyL_take (i := 10) (v := ?vm10) rfl (by kernel_rfl) (by kernel_rfl) (by kernel_rfl) (by kernel_rfl) (fun _ _ _ h => h) (Or.inl ⟨by rfl, ?hm10⟩) (unhide HS2) ?_
                    case hm10 => (intro w hSw; (try dsimp only at hSw); go_simp) <;> with_reducible rfl
                    simp only [Act.put, List.getElem_toArray, List.getElem_cons_zero, List.getElem_cons_succ, List.setIfInBounds_toArray, List.set_cons_zero, List.set_cons_succ]
                    refine anyL_done (by kernel_rfl) ?_ _
                    have cfl3 : y2.cell? ⟨gE, k, none⟩ = some (.int .i64 (fl : Int)) := ((hb5.trans (hbm2.mono hb5.size)).cell (p := ⟨gE, k, none⟩) zE).trans cfl2
                    clear HS2 cfl
                    go_wp2_with fail
                    go_roundw
                    case rel => exact ⟨m + 1, rfl, by omega, by omega, hbm2⟩
                    case measure => simp [intOf]; omega
                  · have t3 : decide (m ≤ 3) = false := decide_eq_false hm3
                    clear hm1 hm4 hm3
                    go_wp2_with fail
                    have HS : Hid ((fun w' : World => w'.cell? ⟨gE, k, none⟩ = some (.int .i64 (fl : Int))) wr.drew) := hide cfl
                    refine regionL (S := fun w' => w'.cell? ⟨gE, k, none⟩ = some (.int .i64 (fl : Int))) (fun _ => false) (by kernel_rfl) ?_
                    have hB0 : IsB wr.drew a0 cap l := hBx
                    have hT0 : Tab wr.drew := hTx
                    have kS0 : Cls wr.drew gS _ _ := kS
                    have hb0 : Below w2.heap.size w2 wr.drew := hbx.trans (ch_drew (N := w2.heap.size) (n := 0) wr).1
                    have SW : ∀ X : World, Below w2.heap.size w2 X → X.cell? ⟨gE, k, none⟩ = some (.int .i64 (fl : Int)) := fun X hX => (hX.cell (p := ⟨gE, k, none⟩) zE).trans cfl2
                    have HSW := hide SW
                    clear SW hbw hBx hTx kS hbx cfl
                    generalize wr.drew = y0 at *
                    refine anyL_take (i := 0) (v := ?vz0) rfl (by kernel_rfl) (by kernel_rfl) (by kernel_rfl) (by kernel_rfl) (fun _ _ _ h => h) (Or.inl ⟨by rfl, ?hz0⟩) (unhide HS) ?_
                    case hz0 => (intro w hSw; (try dsimp only at hSw); go_simp) <;> with_reducible rfl
                    simp only [Act.put, List.getElem_toArray, List.getElem_cons_zero, List.setIfInBounds_toArray, List.set_cons_zero, List.set_cons_succ]
                    refine anyL_take (i := 2) (v := ?vz2) rfl (by kernel_rfl) (by kernel_rfl) (by kernel_rfl) (by kernel_rfl) (fun _ _ _ h => h) (Or.inl ⟨by rfl, ?hz2⟩) (unhide HS) ?_
                    case hz2 => (intro w hSw; (try dsimp only at hSw); go_simp) <;> with_reducible rfl
                    simp only [Act.put, List.getElem_toArray, List.getElem_cons_zero, List.getElem_cons_succ, List.setIfInBounds_toArray, List.set_cons_zero, List.set_cons_succ]
                    refine anyL_take (i := 3) (v := ?vz3) rfl (by kernel_rfl) (by kernel_rfl) (by kernel_rfl) (by kernel_rfl) (fun _ _ _ h => h) (Or.inl ⟨by rfl, ?hz3⟩) (unhide HS) ?_
                    case hz3 => (intro w hSw; (try dsimp only at hSw); go_simp) <;> with_reducible rfl
                    simp only [Act.put, List.getElem_toArray, List.getElem_cons_zero, List.getElem_cons_succ, List.setIfInBounds_toArray, List.set_cons_zero, List.set_cons_succ]
                    refine anyL_take (i := 4) (v := ?vz4) rfl (by kernel_rfl) (by kernel_rfl) (by kernel_rfl) (by kernel_rfl) (fun _ _ _ h => h) (Or.inl ⟨by rfl, ?hz4⟩) (unhide HS) ?_
                    case hz4 => (intro w hSw; (try dsimp only at hSw); go_simp) <;> with_reducible rfl
                    simp only [Act.put, List.getElem_toArray, List.getElem_cons_zero, List.getElem_cons_succ, List.setIfInBounds_toArray, List.set_cons_zero, List.set_cons_succ]
                    refine anyL_take (i := 5) (v := ?vz5) rfl (by kernel_rfl) (by kernel_rfl) (by kernel_rfl) (by kernel_rfl) (fun _ _ _ h => h) (Or.inl ⟨by rfl, ?hz5⟩) (unhide HS) ?_
                    case hz5 => (intro w hSw; (try dsimp only at hSw); go_simp) <;> with_reducible rfl
                    simp only [Act.put, List.getElem_toArray, List.getElem_cons_zero, List.getElem_cons_succ, List.setIfInBounds_toArray, List.set_cons_zero, List.set_cons_succ]
                    refine anyL_take (i := 6) (v := ?vz6) rfl (by kernel_rfl) (by kernel_rfl) (by kernel_rfl) (by kernel_rfl) (fun _ _ _ h => h) (Or.inl ⟨by rfl, ?hz6⟩) (unhide HS) ?_
                    case hz6 => (intro w hSw; (try dsimp only at hSw); go_simp) <;> with_reducible rfl
                    simp only [Act.put, List.getElem_toArray, List.getElem_cons_zero, List.getElem_cons_succ, List.setIfInBounds_toArray, List.set_cons_zero, List.set_cons_succ]
                    have hB_y0 := hB0
                    have hT_y0 := hT0
                    have kS_y0 := kS0
                    have hb_y0 := hb0
                    clear hB0 hT0 kS0 hb0
                    refine anyL_ready (rs := [1, 11]) (by kernel_rfl) (by simp) ?_
                    refine AllL.cons rfl (fun K hK => ?own) (AllL.cons rfl (fun K hK => ?alc) AllL.nil)
                    case own =>
                      go_simp
                      refine (own7_at a0 cap l y0 hB_y0).mono ?_
                      rintro y y1 ⟨a1, c1, rfl, j1, x1⟩
                      have kS_y1 := kS_y0.below x1 kS_y0.lt
                      have hT_y1 := hT_y0.below x1 hT_y0.size
                      have hb_y1 := hb_y0.trans (x1.mono hb_y0.size)
                      have j_y1 := j1
                      refine unhide hK _ _ (fun _ => unhide HSW _ hb_y1) ?_
                      clear hK K
                      refine anyL_ready (rs := [7, 11]) (by kernel_rfl) (by simp) ?_
                      refine AllL.cons rfl (fun K hK => ?spo) (AllL.cons rfl (fun K hK => ?alo) AllL.nil)
                      case spo =>
                        go_simp
                        have hsp := Spot_at a1 c1 l (fl : Int) r y1 j_y1 hT_y1
                        rw [unhide HSP2] at hsp
                        refine hsp.mono ?_
                        rintro y y2 ⟨rfl, x1⟩
                        have kS_y2 := kS_y1.below x1 kS_y1.lt
                        have hb_y2 := hb_y1.trans (x1.mono hb_y1.size)
                        refine unhide hK _ _ (fun _ => unhide HSW _ hb_y2) ?_
                        clear hK K
                        refine anyL_take (i := 8) (v := ?vu8) rfl (by kernel_rfl) (by kernel_rfl) (by kernel_rfl) (by kernel_rfl) (fun _ _ _ h => h) (Or.inl ⟨by rfl, ?hu8⟩) (unhide HSW _ hb_y2) ?_
                        case hu8 => (intro w hSw; (try dsimp only at hSw); go_simp) <;> with_reducible rfl
                        simp only [Act.put, List.getElem_toArray, List.getElem_cons_zero, List.getElem_cons_succ, List.setIfInBounds_toArray, List.set_cons_zero, List.set_cons_succ]
                        refine anyL_take (i := 9) (v := ?vu9) rfl (by kernel_rfl) (by kernel_rfl) (by kernel_rfl) (by kernel_rfl) (fun _ _ _ h => h) (Or.inl ⟨by rfl, ?hu9⟩) (unhide HSW _ hb_y2) ?_
                        case hu9 => (intro w hSw; (try dsimp only at hSw); go_simp) <;> with_reducible rfl
                        simp only [Act.put, List.getElem_toArray, List.getElem_cons_zero, List.getElem_cons_succ, List.setIfInBounds_toArray, List.set_cons_zero, List.set_cons_succ]
                        refine anyL_take (i := 10) (v := ?vu10) rfl (by kernel_rfl) (by kernel_rfl) (by kernel_rfl) (by kernel_rfl) (fun _ _ _ h => h) (Or.inl ⟨by rfl, ?hu10⟩) (unhide HSW _ hb_y2) ?_
                        case hu10 => (intro w hSw; (try dsimp only at hSw); go_simp) <;> with_reducible rfl
                        simp only [Act.put, List.getElem_toArray, List.getElem_cons_zero, List.getElem_cons_succ, List.setIfInBounds_toArray, List.set_cons_zero, List.set_cons_succ]
                        refine anyL_ready (rs := [11]) (by kernel_rfl) (by simp) ?_
                        refine AllL.cons rfl (fun K hK => ?_) AllL.nil
                        go_simp
                        have kB := Cls.new y2 45 #[.int .i64 0, .int .i64 0]
                        have kSz := kS_y2.alloc (.cells #[.int .i64 0, .int .i64 0] 45)
                        have hbz := hb_y2.alloc (o := .cells #[.int .i64 0, .int .i64 0] 45) hb_y2.size
                        have zz : gS ≠ y2.heap.size := by have := kS_y2.lt; omega
                        refine unhide hK _ _ (fun _ => unhide HSW _ hbz) ?_
                        clear hK K
                        have zb : w2.heap.size ≤ y2.heap.size := hb_y2.size
                        generalize y2.alloc (.cells #[.int .i64 0, .int .i64 0] 45) = y3 at *
                        generalize y2.heap.size = gB at *
                        have q0 := kB.cell 0
                        have q1 := kB.cell 1
                        have f0 := kB.frozen 0
                        have f1 := kB.frozen 1
                        simp only [List.getElem?_toArray, List.getElem?_cons_zero, List.getElem?_cons_succ] at q0 q1
                        refine anyL_ready (rs := [12]) (by kernel_rfl) (by simp) ?_
                        refine AllL.cons rfl (fun K hK => ?_) AllL.nil
                        go_simp
                        have s1 := (kB.set 0 (.int .i64 (kl : Int))).set 1 (.int .i64 (co : Int))
                        have s2 := (kSz.other ⟨gB, 0, none⟩ (.int .i64 (kl : Int)) zz).other ⟨gB, 1, none⟩ (.int .i64 (co : Int)) zz
                        have s3 := (hbz.trans (setCell_below (N := w2.heap.size) y3 ⟨gB, 0, none⟩ (.int .i64 (kl : Int)) zb)).trans (setCell_below (N := w2.heap.size) _ ⟨gB, 1, none⟩ (.int .i64 (co : Int)) zb)
                        simp only [List.setIfInBounds_toArray, List.set_cons_zero, List.set_cons_succ] at s1
                        refine unhide hK _ _ (fun _ => unhide HSW _ s3) ?_
                        clear hK K q0 q1 f0 f1
                        generalize (y3.setCell ⟨gB, 0, none⟩ (.int .i64 (kl : Int))).setCell ⟨gB, 1, none⟩ (.int .i64 (co : Int)) = yz at *
                        refine anyL_take (i := 13) (v := ?vu13) rfl (by kernel_rfl) (by kernel_rfl) (by kernel_rfl) (by kernel_rfl) (fun _ _ _ h => h) (Or.inl ⟨by rfl, ?hu13⟩) (unhide HSW _ s3) ?_
                        case hu13 => (intro w hSw; (try dsimp only at hSw); go_simp) <;> with_reducible rfl
                        simp only [Act.put, List.getElem_toArray, List.getElem_cons_zero, List.getElem_cons_succ, List.setIfInBounds_toArray, List.set_cons_zero, List.set_cons_succ]
                        refine anyL_done (by kernel_rfl) ?_ _
                        have aa0 := s1.cell 0
                        have aa1 := s1.cell 1
                        have b0 := s2.cell 0
                        have b1 := s2.cell 1
                        simp only [List.getElem?_toArray, List.getElem?_cons_zero, List.getElem?_cons_succ] at aa0 aa1 b0 b1
                        have hwp : wrap64 ((p : Int) + 1) = (p : Int) + 1 := wrap_nat p 1 (by omega)
                        go_wp2_with fail
                        go_roundw
                        case rel => exact ⟨k, p + 1, rfl, by go_num, by omega, hk, hide (Nat.le_succ_of_le (unhide hek)), s3⟩
                        case measure => simp [intOf]; omega
                      case alo =>
                        go_simp
                        have kB_y2 := Cls.new y1 45 #[.int .i64 0, .int .i64 0]
                        have kS_y2 := kS_y1.alloc (.cells #[.int .i64 0, .int .i64 0] 45)
                        have hb_y2 := hb_y1.alloc (o := .cells #[.int .i64 0, .int .i64 0] 45) hb_y1.size
                        have zz : gS ≠ y1.heap.size := by have := kS_y1.lt; omega
                        refine unhide hK _ _ (fun _ => unhide HSW _ hb_y2) ?_
                        clear hK K
                        have j_y2 := j_y1.below ((Below.refl y1.heap.size y1).alloc (Nat.le_refl _) (.cells #[.int .i64 0, .int .i64 0] 45)) (Nat.le_refl _)
                        have hT_y2 := hT_y1.below ((Below.refl y1.heap.size y1).alloc (Nat.le_refl _) (.cells #[.int .i64 0, .int .i64 0] 45)) hT_y1.size
                        have zb : w2.heap.size ≤ y1.heap.size := hb_y1.size
                        generalize y1.alloc (.cells #[.int .i64 0, .int .i64 0] 45) = y2 at *
                        generalize hgB : y1.heap.size = gB at *
                        refine anyL_ready (rs := [7]) (by kernel_rfl) (by simp) ?_
                        refine AllL.cons rfl (fun K hK => ?_) AllL.nil
                        go_simp
                        have hsp := Spot_at a1 c1 l (fl : Int) r y2 j_y2 hT_y2
                        rw [unhide HSP2] at hsp
                        refine hsp.mono ?_
                        rintro y y3 ⟨rfl, x1⟩
                        have kS_y3 := kS_y2.below x1 kS_y2.lt
                        have hb_y3 := hb_y2.trans (x1.mono hb_y2.size)
                        have kB := kB_y2.below x1 kB_y2.lt
                        refine unhide hK _ _ (fun _ => unhide HSW _ hb_y3) ?_
                        clear hK K
                        refine anyL_take (i := 8) (v := ?vv8) rfl (by kernel_rfl) (by kernel_rfl) (by kernel_rfl) (by kernel_rfl) (fun _ _ _ h => h) (Or.inl ⟨by rfl, ?hv8⟩) (unhide HSW _ hb_y3) ?_
                        case hv8 => (intro w hSw; (try dsimp only at hSw); go_simp) <;> with_reducible rfl
                        simp only [Act.put, List.getElem_toArray, List.getElem_cons_zero, List.getElem_cons_succ, List.setIfInBounds_toArray, List.set_cons_zero, List.set_cons_succ]
                        refine anyL_take (i := 9) (v := ?vv9) rfl (by kernel_rfl) (by kernel_rfl) (by kernel_rfl) (by kernel_rfl) (fun _ _ _ h => h) (Or.inl ⟨by rfl, ?hv9⟩) (unhide HSW _ hb_y3) ?_
                        case hv9 => (intro w hSw; (try dsimp only at hSw); go_simp) <;> with_reducible rfl
                        simp only [Act.put, List.getElem_toArray, List.getElem_cons_zero, List.getElem_cons_succ, List.setIfInBounds_toArray, List.set_cons_zero, List.set_cons_succ]
                        refine anyL_take (i := 10) (v := ?vv10) rfl (by kernel_rfl) (by kernel_rfl) (by kernel_rfl) (by kernel_rfl) (fun _ _ _ h => h) (Or.inl ⟨by rfl, ?hv10⟩) (unhide HSW _ hb_y3) ?_
                        case hv10 => (intro w hSw; (try dsimp only at hSw); go_simp) <;> with_reducible rfl
                        simp only [Act.put, List.getElem_toArray, List.getElem_cons_zero, List.getElem_cons_succ, List.setIfInBounds_toArray, List.set_cons_zero, List.set_cons_succ]
                        have kSz := kS_y3
                        have hbz := hb_y3
                        have q0 := kB.cell 0
                        have q1 := kB.cell 1
                        have f0 := kB.frozen 0
                        have f1 := kB.frozen 1
                        simp only [List.getElem?_toArray, List.getElem?_cons_zero, List.getElem?_cons_succ] at q0 q1
                        refine anyL_ready (rs := [12]) (by kernel_rfl) (by simp) ?_
                        refine AllL.cons rfl (fun K hK => ?_) AllL.nil
                        go_simp
                        have s1 := (kB.set 0 (.int .i64 (kl : Int))).set 1 (.int .i64 (co : Int))
                        have s2 := (kSz.other ⟨gB, 0, none⟩ (.int .i64 (kl : Int)) zz).other ⟨gB, 1, none⟩ (.int .i64 (co : Int)) zz
                        have s3 := (hbz.trans (setCell_below (N := w2.heap.size) y3 ⟨gB, 0, none⟩ (.int .i64 (kl : Int)) zb)).trans (setCell_below (N := w2.heap.size) _ ⟨gB, 1, none⟩ (.int .i64 (co : Int)) zb)
                        simp only [List.setIfInBounds_toArray, List.set_cons_zero, List.set_cons_succ] at s1
                        refine unhide hK _ _ (fun _ => unhide HSW _ s3) ?_
                        clear hK K q0 q1 f0 f1
                        generalize (y3.setCell ⟨gB, 0, none⟩ (.int .i64 (kl : Int))).setCell ⟨gB, 1, none⟩ (.int .i64 (co : Int)) = yz at *
                        refine anyL_take (i := 13) (v := ?vv13) rfl (by kernel_rfl) (by kernel_rfl) (by kernel_rfl) (by kernel_rfl) (fun _ _ _ h => h) (Or.inl ⟨by rfl, ?hv13⟩) (unhide HSW _ s3) ?_
                        case hv13 => (intro w hSw; (try dsimp only at hSw); go_simp) <;> with_reducible rfl
                        simp only [Act.put, List.getElem_toArray, List.getElem_cons_zero, List.getElem_cons_succ, List.setIfInBounds_toArray, List.set_cons_zero, List.set_cons_succ]
                        refine anyL_done (by kernel_rfl) ?_ _
                        have aa0 := s1.cell 0
                        have aa1 := s1.cell 1
                        have b0 := s2.cell 0
                        have b1 := s2.cell 1
                        simp only [List.getElem?_toArray, List.getElem?_cons_zero, List.getElem?_cons_succ] at aa0 aa1 b0 b1
                        have hwp : wrap64 ((p : Int) + 1) = (p : Int) + 1 := wrap_nat p 1 (by omega)
                        go_wp2_with fail
                        go_roundw
                        case rel => exact ⟨k, p + 1, rfl, by go_num, by omega, hk, hide (Nat.le_succ_of_le (unhide hek)), s3⟩
                        case measure => simp [intOf]; omega
                    case alc =>
                      go_simp
                      have kB_y1 := Cls.new y0 45 #[.int .i64 0, .int .i64 0]
                      have kS_y1 := kS_y0.alloc (.cells #[.int .i64 0, .int .i64 0] 45)
                      have hb_y1 := hb_y0.alloc (o := .cells #[.int .i64 0, .int .i64 0] 45) hb_y0.size
                      have zz : gS ≠ y0.heap.size := by have := kS_y0.lt; omega
                      refine unhide hK _ _ (fun _ => unhide HSW _ hb_y1) ?_
                      clear hK K
                      have hB_y1 := hB_y0.below ((Below.refl y0.heap.size y0).alloc (Nat.le_refl _) (.cells #[.int .i64 0, .int .i64 0] 45)) (Nat.le_refl _)
                      have hT_y1 := hT_y0.below ((Below.refl y0.heap.size y0).alloc (Nat.le_refl _) (.cells #[.int .i64 0, .int .i64 0] 45)) hT_y0.size
                      have zb : w2.heap.size ≤ y0.heap.size := hb_y0.size
                      generalize y0.alloc (.cells #[.int .i64 0, .int .i64 0] 45) = y1 at *
                      generalize hgB : y0.heap.size = gB at *
                      refine anyL_ready (rs := [1]) (by kernel_rfl) (by simp) ?_
                      refine AllL.cons rfl (fun K hK => ?_) AllL.nil
                      go_simp
                      refine (own7_at a0 cap l y1 hB_y1).mono ?_
                      rintro y y2 ⟨a1, c1, rfl, j1, x1⟩
                      have kS_y2 := kS_y1.below x1 kS_y1.lt
                      have hT_y2 := hT_y1.below x1 hT_y1.size
                      have hb_y2 := hb_y1.trans (x1.mono hb_y1.size)
                      have j_y2 := j1
                      have kB_y2 := kB_y1.below x1 kB_y1.lt
                      refine unhide hK _ _ (fun _ => unhide HSW _ hb_y2) ?_
                      clear hK K
                      clear x1
                      refine anyL_ready (rs := [7]) (by kernel_rfl) (by simp) ?_
                      refine AllL.cons rfl (fun K hK => ?_) AllL.nil
                      go_simp
                      have hsp := Spot_at a1 c1 l (fl : Int) r y2 j_y2 hT_y2
                      rw [unhide HSP2] at hsp
                      refine hsp.mono ?_
                      rintro y y3 ⟨rfl, x1⟩
                      have kS_y3 := kS_y2.below x1 kS_y2.lt
                      have hb_y3 := hb_y2.trans (x1.mono hb_y2.size)
                      have kB := kB_y2.below x1 kB_y2.lt
                      refine unhide hK _ _ (fun _ => unhide HSW _ hb_y3) ?_
                      clear hK K
                      refine anyL_take (i := 8) (v := ?vx8) rfl (by kernel_rfl) (by kernel_rfl) (by kernel_rfl) (by kernel_rfl) (fun _ _ _ h => h) (Or.inl ⟨by rfl, ?hx8⟩) (unhide HSW _ hb_y3) ?_
                      case hx8 => (intro w hSw; (try dsimp only at hSw); go_simp) <;> with_reducible rfl
                      simp only [Act.put, List.getElem_toArray, List.getElem_cons_zero, List.getElem_cons_succ, List.setIfInBounds_toArray, List.set_cons_zero, List.set_cons_succ]
                      refine anyL_take (i := 9) (v := ?vx9) rfl (by kernel_rfl) (by kernel_rfl) (by kernel_rfl) (by kernel_rfl) (fun _ _ _ h => h) (Or.inl ⟨by rfl, ?hx9⟩) (unhide HSW _ hb_y3) ?_
                      case hx9 => (intro w hSw; (try dsimp only at hSw); go_simp) <;> with_reducible rfl
                      simp only [Act.put, List.getElem_toArray, List.getElem_cons_zero, List.getElem_cons_succ, List.setIfInBounds_toArray, List.set_cons_zero, List.set_cons_succ]
                      refine anyL_take (i := 10) (v := ?vx10) rfl (by kernel_rfl) (by kernel_rfl) (by kernel_rfl) (by kernel_rfl) (fun _ _ _ h => h) (Or.inl ⟨by rfl, ?hx10⟩) (unhide HSW _ hb_y3) ?_
                      case hx10 => (intro w hSw; (try dsimp only at hSw); go_simp) <;> with_reducible rfl
                      simp only [Act.put, List.getElem_toArray, List.getElem_cons_zero, List.getElem_cons_succ, List.setIfInBounds_toArray, List.set_cons_zero, List.set_cons_succ]
                      have kSz := kS_y3
                      have hbz := hb_y3
                      have q0 := kB.cell 0
                      have q1 := kB.cell 1
                      have f0 := kB.frozen 0
                      have f1 := kB.frozen 1
                      simp only [List.getElem?_toArray, List.getElem?_cons_zero, List.getElem?_cons_succ] at q0 q1
                      refine anyL_ready (rs := [12]) (by kernel_rfl) (by simp) ?_
                      refine AllL.cons rfl (fun K hK => ?_) AllL.nil
                      go_simp
                      have s1 := (kB.set 0 (.int .i64 (kl : Int))).set 1 (.int .i64 (co : Int))
                      have s2 := (kSz.other ⟨gB, 0, none⟩ (.int .i64 (kl : Int)) zz).other ⟨gB, 1, none⟩ (.int .i64 (co : Int)) zz
                      have s3 := (hbz.trans (setCell_below (N := w2.heap.size) y3 ⟨gB, 0, none⟩ (.int .i64 (kl : Int)) zb)).trans (setCell_below (N := w2.heap.size) _ ⟨gB, 1, none⟩ (.int .i64 (co : Int)) zb)
                      simp only [List.setIfInBounds_toArray, List.set_cons_zero, List.set_cons_succ] at s1
                      refine unhide hK _ _ (fun _ => unhide HSW _ s3) ?_
                      clear hK K q0 q1 f0 f1
                      generalize (y3.setCell ⟨gB, 0, none⟩ (.int .i64 (kl : Int))).setCell ⟨gB, 1, none⟩ (.int .i64 (co : Int)) = yz at *
                      refine anyL_take (i := 13) (v := ?vx13) rfl (by kernel_rfl) (by kernel_rfl) (by kernel_rfl) (by kernel_rfl) (fun _ _ _ h => h) (Or.inl ⟨by rfl, ?hx13⟩) (unhide HSW _ s3) ?_
                      case hx13 => (intro w hSw; (try dsimp only at hSw); go_simp) <;> with_reducible rfl
                      simp only [Act.put, List.getElem_toArray, List.getElem_cons_zero, List.getElem_cons_succ, List.setIfInBounds_toArray, List.set_cons_zero, List.set_cons_succ]
                      refine anyL_done (by kernel_rfl) ?_ _
                      have aa0 := s1.cell 0
                      have aa1 := s1.cell 1
                      have b0 := s2.cell 0
                      have b1 := s2.cell 1
                      simp only [List.getElem?_toArray, List.getElem?_cons_zero, List.getElem?_cons_succ] at aa0 aa1 b0 b1
                      have hwp : wrap64 ((p : Int) + 1) = (p : Int) + 1 := wrap_nat p 1 (by omega)
                      go_wp2_with fail
                      go_roundw
                      case rel => exact ⟨k, p + 1, rfl, by go_num, by omega, hk, hide (Nat.le_succ_of_le (unhide hek)), s3⟩
                      case measure => simp [intOf]; omega
              case inr =>
                go_wp2_with fail
                try clear c1 t3 t4 hk1
                clear t2 hwk lEx
                refine (own7_at a0 cap l wr hBx).mono ?_
                rintro e w3 ⟨a3, c3, rfl, j3, x3⟩
                have hT3 := hTx.below x3 hTx.size
                have hb3 := hb.trans (x3.mono hb.size)
                go_wp2_with fail
                refine (Spot_at a3 c3 l (p : Int) r w3 j3 hT3).mono ?_
                rw [unhide HSP1]
                rintro e w4 ⟨rfl, x4⟩
                have hb4 := hb3.trans (x4.mono hb3.size)
                have k5 := Cls.new w4 45 #[.int .i64 (kl : Int), .int .i64 (co : Int)]
                have hb5 := hb4.alloc (o := .cells #[.int .i64 (kl : Int), .int .i64 (co : Int)] 45) hb4.size
                clear x3 x4 j3 hT3 hb3 hb4 HSP1 hBx hTx
                go_wp2_with fail
                generalize w4.alloc (.cells #[.int .i64 (kl : Int), .int .i64 (co : Int)] 45) = w5 at *
                generalize w4.heap.size = gS at *
                go_loopw [10] (fun v wx => ∃ m : Int, v = .int .i64 m ∧ 1 ≤ m ∧ m ≤ 4 ∧ Below w5.heap.size w5 wx) (fun v _ => (4 - intOf v).toNat)
                case atStart => exact ⟨1, rfl, by omega, by omega, Below.refl _ _⟩
                case round =>
                  obtain ⟨m, rfl, hm1, hm4, hbm⟩ := hrel
                  have kS := k5.below hbm k5.lt
                  have hbx := hb5.trans (hbm.mono hb5.size)
                  have hbw := b2.trans (hbx.mono b2.size)
                  have hBx := hB.below hbw (Nat.le_refl _)
                  have hTx := hT.below hbw hT.size
                  have cfl : wr.cell? ⟨gE, k, none⟩ = some (.int .i64 (fl : Int)) := (hbx.cell (p := ⟨gE, k, none⟩) zE).trans cfl2
                  by_cases hm3 : m ≤ 3
                  · have t3 : decide (m ≤ 3) = true := decide_eq_true hm3
                    have hwm : wrap64 (m + 1) = m + 1 := wrap_in _ (by omega) (by omega)
                    have HBM := hide (unhide HBK m (decide_eq_true ⟨hm1, hm3⟩))
                    go_wp2_with fail
                    have HS : Hid ((fun w' : World => w'.cell? ⟨gS, 0, none⟩ = some (.int .i64 (kl : Int)) ∧ w'.cell? ⟨gS, 1, none⟩ = some (.int .i64 (co : Int))) wr.drew) := hide ⟨(kS.cell 0).trans rfl, (kS.cell 1).trans rfl⟩
                    refine regionL (S := fun w' => w'.cell? ⟨gS, 0, none⟩ = some (.int .i64 (kl : Int)) ∧ w'.cell? ⟨gS, 1, none⟩ = some (.int .i64 (co : Int))) (fun _ => false) (by kernel_rfl) ?_
                    have hB0 : IsB wr.drew a0 cap l := hBx
                    have hT0 : Tab wr.drew := hTx
                    have kS0 : Cls wr.drew gS _ _ := kS
                    have hbm0 : Below w5.heap.size w5 wr.drew := hbm.trans (ch_drew (N := w5.heap.size) (n := 0) wr).1
                    generalize wr.drew = y0 at *
                    refine anyL_take (i := 0) (v := ?vmB0) rfl (by kernel_rfl) (by kernel_rfl) (by kernel_rfl) (by kernel_rfl) (fun _ _ _ h => h) (Or.inl ⟨by rfl, ?hmB0⟩) (unhide HS) ?_
                    case hmB0 => (intro w hSw; (try dsimp only at hSw); go_simp) <;> with_reducible rfl
                    simp only [Act.put, List.getElem_toArray, List.getElem_cons_zero, List.setIfInBounds_toArray, List.set_cons_zero, List.set_cons_succ]
                    refine anyL_take (i := 2) (v := ?vmB2) rfl (by kernel_rfl) (by kernel_rfl) (by kernel_rfl) (by kernel_rfl) (fun _ _ _ h => h) (Or.inl ⟨by rfl, ?hmB2⟩) (unhide HS) ?_
                    case hmB2 => (intro w hSw; (try dsimp only at hSw); go_simp) <;> with_reducible rfl
                    simp only [Act.put, List.getElem_toArray, List.getElem_cons_zero, List.getElem_cons_succ, List.setIfInBounds_toArray, List.set_cons_zero, List.set_cons_succ]
                    refine anyL_take (i := 3) (v := ?vmB3) rfl (by kernel_rfl) (by kernel_rfl) (by kernel_rfl) (by kernel_rfl) (fun _ _ _ h => h) (Or.inl ⟨by rfl, ?hmB3⟩) (unhide HS) ?_
                    case hmB3 => (intro w hSw; (try dsimp only at hSw); go_simp) <;> with_reducible rfl
                    simp only [Act.put, List.getElem_toArray, List.getElem_cons_zero, List.getElem_cons_succ, List.setIfInBounds_toArray, List.set_cons_zero, List.set_cons_succ]
                    refine anyL_take (i := 4) (v := ?vmB4) rfl (by kernel_rfl) (by kernel_rfl) (by kernel_rfl) (by kernel_rfl) (fun _ _ _ h => h) (Or.inl ⟨by rfl, ?hmB4⟩) (unhide HS) ?_
                    case hmB4 => (intro w hSw; (try dsimp only at hSw); go_simp) <;> with_reducible rfl
                    simp only [Act.put, List.getElem_toArray, List.getElem_cons_zero, List.getElem_cons_succ, List.setIfInBounds_toArray, List.set_cons_zero, List.set_cons_succ]
                    refine anyL_ready (rs := [1]) (by kernel_rfl) (by simp) ?_
                    refine AllL.cons rfl (fun K hK => ?_) AllL.nil
                    go_simp
                    refine (own7_at a0 cap l y0 hB0).mono ?_
                    rintro y y1 ⟨a1, c1, rfl, j1, x1⟩
                    have kS1 := kS0.below x1 kS0.lt
                    have hT1 := hT0.below x1 hT0.size
                    have hbm1 := hbm0.trans (x1.mono hbm0.size)
                    have HS1 : Hid ((fun w' : World => w'.cell? ⟨gS, 0, none⟩ = some (.int .i64 (kl : Int)) ∧ w'.cell? ⟨gS, 1, none⟩ = some (.int .i64 (co : Int))) y1) := hide ⟨(kS1.cell 0).trans rfl, (kS1.cell 1).trans rfl⟩
                    refine unhide hK _ _ (fun _ => unhide HS1) ?_
                    clear hK K x1 kS0 hT0 hB0 HS hbm0
                    refine anyL_ready (rs := [5]) (by kernel_rfl) (by simp) ?_
                    refine AllL.cons rfl (fun K hK => ?_) AllL.nil
                    go_simp
                    have hat := AtL_at a1 c1 l (kl : Int) (co : Int) r m y1 j1 hT1
                    rw [(unhide HBM).1, (unhide HBM).2] at hat
                    refine hat.mono ?_
                    rintro y y2 ⟨rfl, x2⟩
                    have kS2 := kS1.below x2 kS1.lt
                    have hbm2 := hbm1.trans (x2.mono hbm1.size)
                    have HS2 : Hid ((fun w' : World => w'.cell? ⟨gS, 0, none⟩ = some (.int .i64 (kl : Int)) ∧ w'.cell? ⟨gS, 1, none⟩ = some (.int .i64 (co : Int))) y2) := hide ⟨(kS2.cell 0).trans rfl, (kS2.cell 1).trans rfl⟩
                    refine unhide hK _ _ (fun _ => unhide HS2) ?_
                    clear hK K hat x2 kS1 hT1 j1 HS1 hbm1
                    refine anyL_take (i := 6) (v := ?vmB6) rfl (by kernel_rfl) (by kernel_rfl) (by kernel_rfl) (by kernel_rfl) (fun _ _ _ h => h) (Or.inl ⟨by rfl, ?hmB6⟩) (unhide HS2) ?_
                    case hmB6 => (intro w hSw; (try dsimp only at hSw); go_simp) <;> with_reducible rfl
                    simp only [Act.put, List.getElem_toArray, List.getElem_cons_zero, List.getElem_cons_succ, List.setIfInBounds_toArray, List.set_cons_zero, List.set_cons_succ]
                    refine anyL_take (i := 7) (v := ?vmB7) rfl (by kernel_rfl) (by kernel_rfl) (by kernel_rfl) (by kernel_rfl) (fun _ _ _ h => h) (Or.inl ⟨by rfl, ?hmB7⟩) (unhide HS2) ?_
                    case hmB7 => (intro w hSw; (try dsimp only at hSw); go_simp) <;> with_reducible rfl
                    simp only [Act.put, List.getElem_toArray, List.getElem_cons_zero, List.getElem_cons_succ, List.setIfInBounds_toArray, List.set_cons_zero, List.set_cons_succ]
                    refine anyL_take (i := 8) (v := ?vmB8) rfl (by kernel_rfl) (by kernel_rfl) (by kernel_rfl) (by kernel_rfl) (fun _ _ _ h => h) (Or.inl ⟨by rfl, ?hmB8⟩) (unhide HS2) ?_
                    case hmB8 => (intro w hSw; (try dsimp only at hSw); go_simp) <;> with_reducible rfl
                    simp only [Act.put, List.getElem_toArray, List.getElem_cons_zero, List.getElem_cons_succ, List.setIfInBounds_toArray, List.set_cons_zero, List.set_cons_succ]
                    refine anyL_take (i := 9) (v := ?vmB9) rfl (by kernel_rfl) (by kernel_rfl) (by kernel_rfl) (by kernel_rfl) (fun _ _ _ h => h) (Or.inl ⟨by rfl, ?hmB9⟩) (unhide HS2) ?_
                    case hmB9 => (intro w hSw; (try dsimp only at hSw); go_simp) <;> with_reducible rfl
                    simp only [Act.put, List.getElem_toArray, List.getElem_cons_zero, List.getElem_cons_succ, List.setIfInBounds_toArray, List.set_cons_zero, List.set_cons_succ]
                    refine anyL_take (i := 10) (v := ?vmB10) rfl (by kernel_rfl) (by kernel_rfl) (by kernel_rfl) (by kernel_rfl) (fun _ _ _ h => h) (Or.inl ⟨by rfl, ?hmB10⟩) (unhide HS2) ?_
                    case hmB10 => (intro w hSw; (try dsimp only at hSw); go_simp) <;> with_reducible rfl
                    simp only [Act.put, List.getElem_toArray, List.getElem_cons_zero, List.getElem_cons_succ, List.setIfInBounds_toArray, List.set_cons_zero, List.set_cons_succ]
                    refine anyL_done (by kernel_rfl) ?_ _
                    have cfl3 : y2.cell? ⟨gE, k, none⟩ = some (.int .i64 (fl : Int)) := ((hb5.trans (hbm2.mono hb5.size)).cell (p := ⟨gE, k, none⟩) zE).trans cfl2
                    clear HS2 cfl
                    go_wp2_with fail
                    go_roundw
                    case rel => exact ⟨m + 1, rfl, by omega, by omega, hbm2⟩
                    case measure => simp [intOf]; omega
                  · have t3 : decide (m ≤ 3) = false := decide_eq_false hm3
                    clear hm1 hm4 hm3
                    go_wp2_with fail
                    have HS : Hid ((fun w' : World => w'.cell? ⟨gE, k, none⟩ = some (.int .i64 (fl : Int))) wr.drew) := hide cfl
                    refine regionL (S := fun w' => w'.cell? ⟨gE, k, none⟩ = some (.int .i64 (fl : Int))) (fun _ => false) (by kernel_rfl) ?_
                    have hB0 : IsB wr.drew a0 cap l := hBx
                    have hT0 : Tab wr.drew := hTx
                    have kS0 : Cls wr.drew gS _ _ := kS
                    have hb0 : Below w2.heap.size w2 wr.drew := hbx.trans (ch_drew (N := w2.heap.size) (n := 0) wr).1
                    have SW : ∀ X : World, Below w2.heap.size w2 X → X.cell? ⟨gE, k, none⟩ = some (.int .i64 (fl : Int)) := fun X hX => (hX.cell (p := ⟨gE, k, none⟩) zE).trans cfl2
                    have HSW := hide SW
                    clear SW hbw hBx hTx kS hbx cfl
                    generalize wr.drew = y0 at *
                    refine anyL_take (i := 0) (v := ?vzB0) rfl (by kernel_rfl) (by kernel_rfl) (by kernel_rfl) (by kernel_rfl) (fun _ _ _ h => h) (Or.inl ⟨by rfl, ?hzB0⟩) (unhide HS) ?_
                    case hzB0 => (intro w hSw; (try dsimp only at hSw); go_simp) <;> with_reducible rfl
                    simp only [Act.put, List.getElem_toArray, List.getElem_cons_zero, List.setIfInBounds_toArray, List.set_cons_zero, List.set_cons_succ]
                    refine anyL_take (i := 2) (v := ?vzB2) rfl (by kernel_rfl) (by kernel_rfl) (by kernel_rfl) (by kernel_rfl) (fun _ _ _ h => h) (Or.inl ⟨by rfl, ?hzB2⟩) (unhide HS) ?_
                    case hzB2 => (intro w hSw; (try dsimp only at hSw); go_simp) <;> with_reducible rfl
                    simp only [Act.put, List.getElem_toArray, List.getElem_cons_zero, List.getElem_cons_succ, List.setIfInBounds_toArray, List.set_cons_zero, List.set_cons_succ]
                    refine anyL_take (i := 3) (v := ?vzB3) rfl (by kernel_rfl) (by kernel_rfl) (by kernel_rfl) (by kernel_rfl) (fun _ _ _ h => h) (Or.inl ⟨by rfl, ?hzB3⟩) (unhide HS) ?_
                    case hzB3 => (intro w hSw; (try dsimp only at hSw); go_simp) <;> with_reducible rfl
                    simp only [Act.put, List.getElem_toArray, List.getElem_cons_zero, List.getElem_cons_succ, List.setIfInBounds_toArray, List.set_cons_zero, List.set_cons_succ]
                    refine anyL_take (i := 4) (v := ?vzB4) rfl (by kernel_rfl) (by kernel_rfl) (by kernel_rfl) (by kernel_rfl) (fun _ _ _ h => h) (Or.inl ⟨by rfl, ?hzB4⟩) (unhide HS) ?_
                    case hzB4 => (intro w hSw; (try dsimp only at hSw); go_simp) <;> with_reducible rfl
                    simp only [Act.put, List.getElem_toArray, List.getElem_cons_zero, List.getElem_cons_succ, List.setIfInBounds_toArray, List.set_cons_zero, List.set_cons_succ]
                    refine anyL_take (i := 5) (v := ?vzB5) rfl (by kernel_rfl) (by kernel_rfl) (by kernel_rfl) (by kernel_rfl) (fun _ _ _ h => h) (Or.inl ⟨by rfl, ?hzB5⟩) (unhide HS) ?_
                    case hzB5 => (intro w hSw; (try dsimp only at hSw); go_simp) <;> with_reducible rfl
                    simp only [Act.put, List.getElem_toArray, List.getElem_cons_zero, List.getElem_cons_succ, List.setIfInBounds_toArray, List.set_cons_zero, List.set_cons_succ]
                    refine anyL_take (i := 6) (v := ?vzB6) rfl (by kernel_rfl) (by kernel_rfl) (by kernel_rfl) (by kernel_rfl) (fun _ _ _ h => h) (Or.inl ⟨by rfl, ?hzB6⟩) (unhide HS) ?_
                    case hzB6 => (intro w hSw; (try dsimp only at hSw); go_simp) <;> with_reducible rfl
                    simp only [Act.put, List.getElem_toArray, List.getElem_cons_zero, List.getElem_cons_succ, List.setIfInBounds_toArray, List.set_cons_zero, List.set_cons_succ]
                    have hB_y0 := hB0
                    have hT_y0 := hT0
                    have kS_y0 := kS0
                    have hb_y0 := hb0
                    clear hB0 hT0 kS0 hb0
                    refine anyL_ready (rs := [1, 11]) (by kernel_rfl) (by simp) ?_
                    refine AllL.cons rfl (fun K hK => ?ownB) (AllL.cons rfl (fun K hK => ?alcB) AllL.nil)
                    case ownB =>
                      go_simp
                      refine (own7_at a0 cap l y0 hB_y0).mono ?_
                      rintro y y1 ⟨a1, c1, rfl, j1, x1⟩
                      have kS_y1 := kS_y0.below x1 kS_y0.lt
                      have hT_y1 := hT_y0.below x1 hT_y0.size
                      have hb_y1 := hb_y0.trans (x1.mono hb_y0.size)
                      have j_y1 := j1
                      refine unhide hK _ _ (fun _ => unhide HSW _ hb_y1) ?_
                      clear hK K
                      refine anyL_ready (rs := [7, 11]) (by kernel_rfl) (by simp) ?_
                      refine AllL.cons rfl (fun K hK => ?spoB) (AllL.cons rfl (fun K hK => ?aloB) AllL.nil)
                      case spoB =>
                        go_simp
                        have hsp := Spot_at a1 c1 l (fl : Int) r y1 j_y1 hT_y1
                        rw [unhide HSP2] at hsp
                        refine hsp.mono ?_
                        rintro y y2 ⟨rfl, x1⟩
                        have kS_y2 := kS_y1.below x1 kS_y1.lt
                        have hb_y2 := hb_y1.trans (x1.mono hb_y1.size)
                        refine unhide hK _ _ (fun _ => unhide HSW _ hb_y2) ?_
                        clear hK K
                        refine anyL_take (i := 8) (v := ?vuB8) rfl (by kernel_rfl) (by kernel_rfl) (by kernel_rfl) (by kernel_rfl) (fun _ _ _ h => h) (Or.inl ⟨by rfl, ?huB8⟩) (unhide HSW _ hb_y2) ?_
                        case huB8 => (intro w hSw; (try dsimp only at hSw); go_simp) <;> with_reducible rfl
                        simp only [Act.put, List.getElem_toArray, List.getElem_cons_zero, List.getElem_cons_succ, List.setIfInBounds_toArray, List.set_cons_zero, List.set_cons_succ]
                        refine anyL_take (i := 9) (v := ?vuB9) rfl (by kernel_rfl) (by kernel_rfl) (by kernel_rfl) (by kernel_rfl) (fun _ _ _ h => h) (Or.inl ⟨by rfl, ?huB9⟩) (unhide HSW _ hb_y2) ?_
                        case huB9 => (intro w hSw; (try dsimp only at hSw); go_simp) <;> with_reducible rfl
                        simp only [Act.put, List.getElem_toArray, List.getElem_cons_zero, List.getElem_cons_succ, List.setIfInBounds_toArray, List.set_cons_zero, List.set_cons_succ]
                        refine anyL_take (i := 10) (v := ?vuB10) rfl (by kernel_rfl) (by kernel_rfl) (by kernel_rfl) (by kernel_rfl) (fun _ _ _ h => h) (Or.inl ⟨by rfl, ?huB10⟩) (unhide HSW _ hb_y2) ?_
                        case huB10 => (intro w hSw; (try dsimp only at hSw); go_simp) <;> with_reducible rfl
                        simp only [Act.put, List.getElem_toArray, List.getElem_cons_zero, List.getElem_cons_succ, List.setIfInBounds_toArray, List.set_cons_zero, List.set_cons_succ]
                        refine anyL_ready (rs := [11]) (by kernel_rfl) (by simp) ?_
                        refine AllL.cons rfl (fun K hK => ?_) AllL.nil
                        go_simp
                        have kB := Cls.new y2 45 #[.int .i64 0, .int .i64 0]
                        have kSz := kS_y2.alloc (.cells #[.int .i64 0, .int .i64 0] 45)
                        have hbz := hb_y2.alloc (o := .cells #[.int .i64 0, .int .i64 0] 45) hb_y2.size
                        have zz : gS ≠ y2.heap.size := by have := kS_y2.lt; omega
                        refine unhide hK _ _ (fun _ => unhide HSW _ hbz) ?_
                        clear hK K
                        have zb : w2.heap.size ≤ y2.heap.size := hb_y2.size
                        generalize y2.alloc (.cells #[.int .i64 0, .int .i64 0] 45) = y3 at *
                        generalize y2.heap.size = gB at *
                        have q0 := kB.cell 0
                        have q1 := kB.cell 1
                        have f0 := kB.frozen 0
                        have f1 := kB.frozen 1
                        simp only [List.getElem?_toArray, List.getElem?_cons_zero, List.getElem?_cons_succ] at q0 q1
                        refine anyL_ready (rs := [12]) (by kernel_rfl) (by simp) ?_
                        refine AllL.cons rfl (fun K hK => ?_) AllL.nil
                        go_simp
                        have s1 := (kB.set 0 (.int .i64 (kl : Int))).set 1 (.int .i64 (co : Int))
                        have s2 := (kSz.other ⟨gB, 0, none⟩ (.int .i64 (kl : Int)) zz).other ⟨gB, 1, none⟩ (.int .i64 (co : Int)) zz
                        have s3 := (hbz.trans (setCell_below (N := w2.heap.size) y3 ⟨gB, 0, none⟩ (.int .i64 (kl : Int)) zb)).trans (setCell_below (N := w2.heap.size) _ ⟨gB, 1, none⟩ (.int .i64 (co : Int)) zb)
                        simp only [List.setIfInBounds_toArray, List.set_cons_zero, List.set_cons_succ] at s1
                        refine unhide hK _ _ (fun _ => unhide HSW _ s3) ?_
                        clear hK K q0 q1 f0 f1
                        generalize (y3.setCell ⟨gB, 0, none⟩ (.int .i64 (kl : Int))).setCell ⟨gB, 1, none⟩ (.int .i64 (co : Int)) = yz at *
                        refine anyL_take (i := 13) (v := ?vuB13) rfl (by kernel_rfl) (by kernel_rfl) (by kernel_rfl) (by kernel_rfl) (fun _ _ _ h => h) (Or.inl ⟨by rfl, ?huB13⟩) (unhide HSW _ s3) ?_
                        case huB13 => (intro w hSw; (try dsimp only at hSw); go_simp) <;> with_reducible rfl
                        simp only [Act.put, List.getElem_toArray, List.getElem_cons_zero, List.getElem_cons_succ, List.setIfInBounds_toArray, List.set_cons_zero, List.set_cons_succ]
                        refine anyL_done (by kernel_rfl) ?_ _
                        have aa0 := s1.cell 0
                        have aa1 := s1.cell 1
                        have b0 := s2.cell 0
                        have b1 := s2.cell 1
                        simp only [List.getElem?_toArray, List.getElem?_cons_zero, List.getElem?_cons_succ] at aa0 aa1 b0 b1
                        have hwp : wrap64 ((p : Int) + 1) = (p : Int) + 1 := wrap_nat p 1 (by omega)
                        go_wp2_with fail
                        go_roundw
                        case rel => exact ⟨k, p + 1, rfl, by go_num, by omega, hk, hide (Nat.le_succ_of_le (unhide hek)), s3⟩
                        case measure => simp [intOf]; omega
                      case aloB =>
                        go_simp
                        have kB_y2 := Cls.new y1 45 #[.int .i64 0, .int .i64 0]
                        have kS_y2 := kS_y1.alloc (.cells #[.int .i64 0, .int .i64 0] 45)
                        have hb_y2 := hb_y1.alloc (o := .cells #[.int .i64 0, .int .i64 0] 45) hb_y1.size
                        have zz : gS ≠ y1.heap.size := by have := kS_y1.lt; omega
                        refine unhide hK _ _ (fun _ => unhide HSW _ hb_y2) ?_
                        clear hK K
                        have j_y2 := j_y1.below ((Below.refl y1.heap.size y1).alloc (Nat.le_refl _) (.cells #[.int .i64 0, .int .i64 0] 45)) (Nat.le_refl _)
                        have hT_y2 := hT_y1.below ((Below.refl y1.heap.size y1).alloc (Nat.le_refl _) (.cells #[.int .i64 0, .int .i64 0] 45)) hT_y1.size
                        have zb : w2.heap.size ≤ y1.heap.size := hb_y1.size
                        generalize y1.alloc (.cells #[.int .i64 0, .int .i64 0] 45) = y2 at *
                        generalize hgB : y1.heap.size = gB at *
                        refine anyL_ready (rs := [7]) (by kernel_rfl) (by simp) ?_
                        refine AllL.cons rfl (fun K hK => ?_) AllL.nil
                        go_simp
                        have hsp := Spot_at a1 c1 l (fl : Int) r y2 j_y2 hT_y2
                        rw [unhide HSP2] at hsp
                        refine hsp.mono ?_
                        rintro y y3 ⟨rfl, x1⟩
                        have kS_y3 := kS_y2.below x1 kS_y2.lt
                        have hb_y3 := hb_y2.trans (x1.mono hb_y2.size)
                        have kB := kB_y2.below x1 kB_y2.lt
                        refine unhide hK _ _ (fun _ => unhide HSW _ hb_y3) ?_
                        clear hK K
                        refine anyL_take (i := 8) (v := ?vvB8) rfl (by kernel_rfl) (by kernel_rfl) (by kernel_rfl) (by kernel_rfl) (fun _ _ _ h => h) (Or.inl ⟨by rfl, ?hvB8⟩) (unhide HSW _ hb_y3) ?_
                        case hvB8 => (intro w hSw; (try dsimp only at hSw); go_simp) <;> with_reducible rfl
                        simp only [Act.put, List.getElem_toArray, List.getElem_cons_zero, List.getElem_cons_succ, List.setIfInBounds_toArray, List.set_cons_zero, List.set_cons_succ]
                        refine anyL_take (i := 9) (v := ?vvB9) rfl (by kernel_rfl) (by kernel_rfl) (by kernel_rfl) (by kernel_rfl) (fun _ _ _ h => h) (Or.inl ⟨by rfl, ?hvB9⟩) (unhide HSW _ hb_y3) ?_
                        case hvB9 => (intro w hSw; (try dsimp only at hSw); go_simp) <;> with_reducible rfl
                        simp only [Act.put, List.getElem_toArray, List.getElem_cons_zero, List.getElem_cons_succ, List.setIfInBounds_toArray, List.set_cons_zero, List.set_cons_succ]
                        refine anyL_take (i := 10) (v := ?vvB10) rfl (by kernel_rfl) (by kernel_rfl) (by kernel_rfl) (by kernel_rfl) (fun _ _ _ h => h) (Or.inl ⟨by rfl, ?hvB10⟩) (unhide HSW _ hb_y3) ?_
                        case hvB10 => (intro w hSw; (try dsimp only at hSw); go_simp) <;> with_reducible rfl
                        simp only [Act.put, List.getElem_toArray, List.getElem_cons_zero, List.getElem_cons_succ, List.setIfInBounds_toArray, List.set_cons_zero, List.set_cons_succ]
                        have kSz := kS_y3
                        have hbz := hb_y3
                        have q0 := kB.cell 0
                        have q1 := kB.cell 1
                        have f0 := kB.frozen 0
                        have f1 := kB.frozen 1
                        simp only [List.getElem?_toArray, List.getElem?_cons_zero, List.getElem?_cons_succ] at q0 q1
                        refine anyL_ready (rs := [12]) (by kernel_rfl) (by simp) ?_
                        refine AllL.cons rfl (fun K hK => ?_) AllL.nil
                        go_simp
                        have s1 := (kB.set 0 (.int .i64 (kl : Int))).set 1 (.int .i64 (co : Int))
                        have s2 := (kSz.other ⟨gB, 0, none⟩ (.int .i64 (kl : Int)) zz).other ⟨gB, 1, none⟩ (.int .i64 (co : Int)) zz
                        have s3 := (hbz.trans (setCell_below (N := w2.heap.size) y3 ⟨gB, 0, none⟩ (.int .i64 (kl : Int)) zb)).trans (setCell_below (N := w2.heap.size) _ ⟨gB, 1, none⟩ (.int .i64 (co : Int)) zb)
                        simp only [List.setIfInBounds_toArray, List.set_cons_zero, List.set_cons_succ] at s1
                        refine unhide hK _ _ (fun _ => unhide HSW _ s3) ?_
                        clear hK K q0 q1 f0 f1
                        generalize (y3.setCell ⟨gB, 0, none⟩ (.int .i64 (kl : Int))).setCell ⟨gB, 1, none⟩ (.int .i64 (co : Int)) = yz at *
                        refine anyL_take (i := 13) (v := ?vvB13) rfl (by kernel_rfl) (by kernel_rfl) (by kernel_rfl) (by kernel_rfl) (fun _ _ _ h => h) (Or.inl ⟨by rfl, ?hvB13⟩) (unhide HSW _ s3) ?_
                        case hvB13 => (intro w hSw; (try dsimp only at hSw); go_simp) <;> with_reducible rfl
                        simp only [Act.put, List.getElem_toArray, List.getElem_cons_zero, List.getElem_cons_succ, List.setIfInBounds_toArray, List.set_cons_zero, List.set_cons_succ]
                        refine anyL_done (by kernel_rfl) ?_ _
                        have aa0 := s1.cell 0
                        have aa1 := s1.cell 1
                        have b0 := s2.cell 0
                        have b1 := s2.cell 1
                        simp only [List.getElem?_toArray, List.getElem?_cons_zero, List.getElem?_cons_succ] at aa0 aa1 b0 b1
                        have hwp : wrap64 ((p : Int) + 1) = (p : Int) + 1 := wrap_nat p 1 (by omega)
                        go_wp2_with fail
                        go_roundw
                        case rel => exact ⟨k, p + 1, rfl, by go_num, by omega, hk, hide (Nat.le_succ_of_le (unhide hek)), s3⟩
                        case measure => simp [intOf]; omega
                    case alcB =>
                      go_simp
                      have kB_y1 := Cls.new y0 45 #[.int .i64 0, .int .i64 0]
                      have kS_y1 := kS_y0.alloc (.cells #[.int .i64 0, .int .i64 0] 45)
                      have hb_y1 := hb_y0.alloc (o := .cells #[.int .i64 0, .int .i64 0] 45) hb_y0.size
                      have zz : gS ≠ y0.heap.size := by have := kS_y0.lt; omega
                      refine unhide hK _ _ (fun _ => unhide HSW _ hb_y1) ?_
                      clear hK K
                      have hB_y1 := hB_y0.below ((Below.refl y0.heap.size y0).alloc (Nat.le_refl _) (.cells #[.int .i64 0, .int .i64 0] 45)) (Nat.le_refl _)
                      have hT_y1 := hT_y0.below ((Below.refl y0.heap.size y0).alloc (Nat.le_refl _) (.cells #[.int .i64 0, .int .i64 0] 45)) hT_y0.size
                      have zb : w2.heap.size ≤ y0.heap.size := hb_y0.size
                      generalize y0.alloc (.cells #[.int .i64 0, .int .i64 0] 45) = y1 at *
                      generalize hgB : y0.heap.size = gB at *
                      refine anyL_ready (rs := [1]) (by kernel_rfl) (by simp) ?_
                      refine AllL.cons rfl (fun K hK => ?_) AllL.nil
                      go_simp
                      refine (own7_at a0 cap l y1 hB_y1).mono ?_
                      rintro y y2 ⟨a1, c1, rfl, j1, x1⟩
                      have kS_y2 := kS_y1.below x1 kS_y1.lt
                      have hT_y2 := hT_y1.below x1 hT_y1.size
                      have hb_y2 := hb_y1.trans (x1.mono hb_y1.size)
                      have j_y2 := j1
                      have kB_y2 := kB_y1.below x1 kB_y1.lt
                      refine unhide hK _ _ (fun _ => unhide HSW _ hb_y2) ?_
                      clear hK K
                      clear x1
                      refine anyL_ready (rs := [7]) (by kernel_rfl) (by simp) ?_
                      refine AllL.cons rfl (fun K hK => ?_) AllL.nil
                      go_simp
                      have hsp := Spot_at a1 c1 l (fl : Int) r y2 j_y2 hT_y2
                      rw [unhide HSP2] at hsp
                      refine hsp.mono ?_
                      rintro y y3 ⟨rfl, x1⟩
                      have kS_y3 := kS_y2.below x1 kS_y2.lt
                      have hb_y3 := hb_y2.trans (x1.mono hb_y2.size)
                      have kB := kB_y2.below x1 kB_y2.lt
                      refine unhide hK _ _ (fun _ => unhide HSW _ hb_y3) ?_
                      clear hK K
                      refine anyL_take (i := 8) (v := ?vxB8) rfl (by kernel_rfl) (by kernel_rfl) (by kernel_rfl) (by kernel_rfl) (fun _ _ _ h => h) (Or.inl ⟨by rfl, ?hxB8⟩) (unhide HSW _ hb_y3) ?_
                      case hxB8 => (intro w hSw; (try dsimp only at hSw); go_simp) <;> with_reducible rfl
                      simp only [Act.put, List.getElem_toArray, List.getElem_cons_zero, List.getElem_cons_succ, List.setIfInBounds_toArray, List.set_cons_zero, List.set_cons_succ]
                      refine anyL_take (i := 9) (v := ?vxB9) rfl (by kernel_rfl) (by kernel_rfl) (by kernel_rfl) (by kernel_rfl) (fun _ _ _ h => h) (Or.inl ⟨by rfl, ?hxB9⟩) (unhide HSW _ hb_y3) ?_
                      case hxB9 => (intro w hSw; (try dsimp only at hSw); go_simp) <;> with_reducible rfl
                      simp only [Act.put, List.getElem_toArray, List.getElem_cons_zero, List.getElem_cons_succ, List.setIfInBounds_toArray, List.set_cons_zero, List.set_cons_succ]
                      refine anyL_take (i := 10) (v := ?vxB10) rfl (by kernel_rfl) (by kernel_rfl) (by kernel_rfl) (by kernel_rfl) (fun _ _ _ h => h) (Or.inl ⟨by rfl, ?hxB10⟩) (unhide HSW _ hb_y3) ?_
                      case hxB10 => (intro w hSw; (try dsimp only at hSw); go_simp) <;> with_reducible rfl
                      simp only [Act.put, List.getElem_toArray, List.getElem_cons_zero, List.getElem_cons_succ, List.setIfInBounds_toArray, List.set_cons_zero, List.set_cons_succ]
                      have kSz := kS_y3
                      have hbz := hb_y3
                      have q0 := kB.cell 0
                      have q1 := kB.cell 1
                      have f0 := kB.frozen 0
                      have f1 := kB.frozen 1
                      simp only [List.getElem?_toArray, List.getElem?_cons_zero, List.getElem?_cons_succ] at q0 q1
                      refine anyL_ready (rs := [12]) (by kernel_rfl) (by simp) ?_
                      refine AllL.cons rfl (fun K hK => ?_) AllL.nil
                      go_simp
                      have s1 := (kB.set 0 (.int .i64 (kl : Int))).set 1 (.int .i64 (co : Int))
                      have s2 := (kSz.other ⟨gB, 0, none⟩ (.int .i64 (kl : Int)) zz).other ⟨gB, 1, none⟩ (.int .i64 (co : Int)) zz
                      have s3 := (hbz.trans (setCell_below (N := w2.heap.size) y3 ⟨gB, 0, none⟩ (.int .i64 (kl : Int)) zb)).trans (setCell_below (N := w2.heap.size) _ ⟨gB, 1, none⟩ (.int .i64 (co : Int)) zb)
                      simp only [List.setIfInBounds_toArray, List.set_cons_zero, List.set_cons_succ] at s1
                      refine unhide hK _ _ (fun _ => unhide HSW _ s3) ?_
                      clear hK K q0 q1 f0 f1
                      generalize (y3.setCell ⟨gB, 0, none⟩ (.int .i64 (kl : Int))).setCell ⟨gB, 1, none⟩ (.int .i64 (co : Int)) = yz at *
                      refine anyL_take (i := 13) (v := ?vxB13) rfl (by kernel_rfl) (by kernel_rfl) (by kernel_rfl) (by kernel_rfl) (fun _ _ _ h => h) (Or.inl ⟨by rfl, ?hxB13⟩) (unhide HSW _ s3) ?_
                      case hxB13 => (intro w hSw; (try dsimp only at hSw); go_simp) <;> with_reducible rfl
                      simp only [Act.put, List.getElem_toArray, List.getElem_cons_zero, List.getElem_cons_succ, List.setIfInBounds_toArray, List.set_cons_zero, List.set_cons_succ]
                      refine anyL_done (by kernel_rfl) ?_ _
                      have aa0 := s1.cell 0
                      have aa1 := s1.cell 1
                      have b0 := s2.cell 0
                      have b1 := s2.cell 1
                      simp only [List.getElem?_toArray, List.getElem?_cons_zero, List.getElem?_cons_succ] at aa0 aa1 b0 b1
                      have hwp : wrap64 ((p : Int) + 1) = (p : Int) + 1 := wrap_nat p 1 (by omega)
                      go_wp2_with fail
                      go_roundw
                      case rel => exact ⟨k, p + 1, rfl, by go_num, by omega, hk, hide (Nat.le_succ_of_le (unhide hek)), s3⟩
                      case measure => simp [intOf]; omega
        · obtain rfl : p = l.length + 1 := by omega
          have t1 : decide (((l.length + 1 : Nat) : Int) ≤ (l.length : Int)) = false := decide_eq_false (by omega)
          go_wp2_with fail
          go_ret
          exact ⟨rfl, b2.trans (hb.mono b2.size)⟩

end Go.Proofs.YtdljnefmbogjkaaDoor
