/- LinesParts: the walk. -/
import Derived.Test.YtdljnefmbogjkaaDoorLnk
namespace Go.Proofs.YtdljnefmbogjkaaDoor
open Go.ChangeShapes Go.WideShapes Go.ChangeAt Go.RowKit
attribute [local go_sem] Oper.semAt_some

/-- where line k begins, or, behind the last one, how many bytes there are -/
def stk (l : List Int) (k : Nat) : Nat := if k < (LN l).length then ((LN l).getD k z4).2.1 else l.length
theorem stk_in {l : List Int} {k : Nat} (h : k < (LN l).length) : stk l k = ((LN l).getD k z4).2.1 ∧ stk l (k + 1) = ((LN l).getD k z4).2.2.2 := by
  obtain ⟨_, _, h3⟩ := LN_at l h
  unfold stk
  refine ⟨by rw [if_pos h], ?_⟩
  by_cases h1 : k + 1 < (LN l).length
  · rw [if_pos h1]; exact (h3.mid h1).2.2.2
  · rw [if_neg h1]; exact (h3.fin (by omega)).2.symm
/-- the four line ends -/
inductive EndL (l : List Int) (k N ct nx : Nat) : Prop
  | last (h1 : k + 1 = N) (h2 : cutL l ct nx = []) : EndL l k N ct nx
  | lf (h1 : k + 1 < N) (h2 : cutL l ct nx = [10]) : EndL l k N ct nx
  | cr (h1 : k + 1 < N) (h2 : cutL l ct nx = [13]) (h3 : nx < l.length → l.getD nx 0 ≠ 10) : EndL l k N ct nx
  | crlf (h1 : k + 1 < N) (h2 : cutL l ct nx = [13, 10]) : EndL l k N ct nx
theorem cut_one {l : List Int} {c : Nat} (h : c < l.length) : cutL l c (c + 1) = [l.getD c 0] := by
  unfold cutL
  rw [List.drop_take, show c + 1 - c = 1 by omega, List.drop_eq_getElem_cons h, List.getD_eq_getElem?_getD, List.getElem?_eq_getElem h]
  rfl
theorem cut_two {l : List Int} {c : Nat} (h : c + 1 < l.length) : cutL l c (c + 2) = [l.getD c 0, l.getD (c + 1) 0] := by
  unfold cutL
  rw [List.drop_take, show c + 2 - c = 2 by omega, List.drop_eq_getElem_cons (show c < l.length by omega), List.drop_eq_getElem_cons h, List.getD_eq_getElem?_getD, List.getD_eq_getElem?_getD, List.getElem?_eq_getElem h, List.getElem?_eq_getElem (show c < l.length by omega)]
  rfl
theorem end_of {l : List Int} {k : Nat} (h : k < (LN l).length) : EndL l k (LN l).length ((LN l).getD k z4).2.2.1 ((LN l).getD k z4).2.2.2 := by
  obtain ⟨_, _, h3⟩ := LN_at l h
  generalize (LN l).getD k z4 = e at *
  by_cases h1 : k + 1 < (LN l).length
  · obtain ⟨m1, m2, m3, _⟩ := h3.mid h1
    have hn := nl_val m1
    have hle := h3.nl
    unfold nxt edw at m3
    rw [getD_drop', getD_drop', Nat.add_zero] at m3
    by_cases hc : l.getD e.2.2.1 0 = 13 ∧ l.getD (e.2.2.1 + 1) 0 = 10
    · rw [if_pos hc] at m3
      refine EndL.crlf h1 ?_
      rw [m3, cut_two (by omega), hc.1, hc.2]
    · rw [if_neg hc] at m3
      rcases hn with h13 | h10
      · refine EndL.cr h1 (by rw [m3, cut_one m2, h13]) (fun _ h4 => hc ⟨h13, by rw [← m3]; exact h4⟩)
      · exact EndL.lf h1 (by rw [m3, cut_one m2, h10])
  · obtain ⟨f1, f2⟩ := h3.fin (by omega)
    refine EndL.last (by omega) ?_
    unfold cutL
    rw [f1, f2]
    simp

set_option maxRecDepth 100000 in
set_option maxHeartbeats 8000000 in
theorem LinesParts_any (a0 : Option Addr) (cap : Nat) (l : List Int) (w : World) (hB : IsB w a0 cap l) (hT : Tab w) :
    Calls Tryd.prog 6 #[.slice a0 l.length cap] w fun e w' => e = .returned (.bool true) ∧ Below w.heap.size w w' := by
  have hlen := hB.2.1
  have hcap := hB.1
  have h1 := awake7_any w hT
  have hN1 := LN_pos l
  have hN2 := LN_len l
  go_enter Tryd.func6, Tryd.ntmps6
  go_wp2_with fail
  refine h1.mono ?_
  rintro e w1 ⟨rfl, b1⟩
  clear h1
  go_wp2_with fail
  refine (own7_at a0 cap l w1 (hB.below b1 (Nat.le_refl _))).mono ?_
  rintro e w2 ⟨a2, c2, rfl, j2, x2⟩
  have b2 := b1.trans (x2.mono b1.size)
  clear x2 b1
  go_wp2_with fail
  refine (Count_at a2 c2 l w2 j2).mono ?_
  rintro e w3 ⟨rfl, x3⟩
  have b3 := b2.trans (x3.mono b2.size)
  clear x3 b2 j2
  have HS0 : Hid (stk l 0 = 0) := hide (by rw [(stk_in hN1).1]; exact (LN_at l hN1).2.1 rfl)
  have HLN : ∀ k, k < (LN l).length → True := fun _ _ => trivial
  clear HLN
  generalize hNN : (LN l).length = N at *
  have HNN := hide hNN
  clear hNN
  have t1 : decide ((N : Int) < 1) = false := decide_eq_false (by omega)
  have hw : wrap64 ((l.length : Int) + 1) = (l.length : Int) + 1 := wrap_nat _ 1 (by omega)
  have t2 : decide ((N : Int) > (l.length : Int) + 1) = false := decide_eq_false (by omega)
  have t2' : decide ((l.length : Int) + 1 < (N : Int)) = false := decide_eq_false (by omega)
  go_wp2_with fail
  clear t1 t2 t2' hw
  go_loopw [4, 5] (fun v4 v5 wx => ∃ k : Nat, v5 = .int .i64 (k : Int) ∧ k ≤ N ∧ v4 = .int .i64 (stk l k : Int) ∧ Below w.heap.size w wx) (fun _ v5 _ => N - (intOf v5).toNat)
  case atStart => exact ⟨0, rfl, Nat.zero_le _, by rw [unhide HS0]; rfl, b3⟩
  case round =>
    obtain ⟨k, rfl, hk, rfl, hb⟩ := hrel
    by_cases hlt : k < N
    · have t1 := lt_int hlt
      have hLk : k < (LN l).length := by rw [unhide HNN]; exact hlt
      obtain ⟨s1, s2⟩ := stk_in hLk
      have hF := (LN_at l hLk).2.2
      have HE := hide (end_of hLk)
      have hnb : nbr l (k : Int) = some ((LN l).getD k z4) := by unfold nbr; rw [if_pos ⟨by omega, by omega⟩]; simp
      rw [unhide HNN] at HE
      generalize (LN l).getD k z4 = e at *
      rw [s1]
      have hsc := hF.sc
      have hcn := hF.cn
      have hnl := hF.nl
      have HNO := hide hF.no
      have HS2 := hide s2
      clear hF s1 s2 hLk
      have hBx := hB.below hb (Nat.le_refl _)
      go_wp2_with fail
      refine (own7_at a0 cap l wr hBx).mono ?_
      rintro y w4 ⟨a4, c4, rfl, j4, x4⟩
      have hb4 := hb.trans (x4.mono hb.size)
      go_wp2_with fail
      have hLi := Line_at a4 c4 l (k : Int) w4 j4
      rw [hnb] at hLi
      unfold liV at hLi
      refine hLi.mono ?_
      rintro y w5 ⟨rfl, x5⟩
      have hb5 := hb4.trans (x5.mono hb4.size)
      have hB5 := hB.below hb5 (Nat.le_refl _)
      clear hLi x5 x4 j4 hb4 hBx hb hnb
      have d1 : decide ((e.2.2.1 : Int) < (e.2.1 : Int)) = false := decide_eq_false (by omega)
      have d2 : decide ((e.2.2.2 : Int) < (e.2.2.1 : Int)) = false := decide_eq_false (by omega)
      have d3 : decide ((e.2.2.2 : Int) > (l.length : Int)) = false := decide_eq_false (by omega)
      have d3' : decide ((l.length : Int) < (e.2.2.2 : Int)) = false := decide_eq_false (by omega)
      generalize hst : e.2.1 = st at *
      generalize hct : e.2.2.1 = ct at *
      generalize hnx : e.2.2.2 = nx at *
      go_wp2_with fail
      clear d1 d2 d3 d3' hst hct hnx t1
      go_loop [10] (fun v => ∃ i : Nat, v = .int .i64 (i : Int) ∧ st ≤ i ∧ i ≤ ct) (fun v => ct - (intOf v).toNat)
      case atStart => exact ⟨st, rfl, Nat.le_refl _, hsc⟩
      case round =>
        obtain ⟨i, rfl, hi1, hi2⟩ := hrel
        by_cases hic : i < ct
        · have t3 := lt_int hic
          obtain ⟨g, off, rfl⟩ := hB5.someB (by omega)
          have cx := hB5.byteAt (i := i) (by omega)
          have hno := unhide HNO i hi1 hic
          have hil : i < l.length := by omega
          have q1 : (l.getD i 0 == 13) = false := by unfold isNl at hno; exact (Bool.or_eq_false_iff.1 hno).1
          have q2 : (l.getD i 0 == 10) = false := by unfold isNl at hno; exact (Bool.or_eq_false_iff.1 hno).2
          have hwi : wrap64 ((i : Int) + 1) = (i : Int) + 1 := wrap_nat i 1 (by omega)
          clear hno
          generalize l.getD i 0 = x at *
          go_wp2_with fail
          go_round
          case rel => exact ⟨i + 1, by go_num, by omega, by omega⟩
          case measure => simp [intOf]; omega
        · obtain rfl : i = ct := by omega
          have t3 := ge_int hic
          have hwN : wrap64 ((N : Int) - 1) = (N : Int) - 1 := wrap_in _ (by omega) (by omega)
          have hE := unhide HE
          clear HE HNO hi1 hi2 hic
          rcases hE with ⟨h1, h2⟩ | ⟨h1, h2⟩ | ⟨h1, h2, h3⟩ | ⟨h1, h2⟩
          · have hstr : strOfNums (cutL l i nx) = ⟨#[]⟩ := by rw [h2]; rfl
            have hLn0 : (cutL l i nx).length = nx - i := by unfold cutL; simp; omega
            have hnl2 : nx - i = 0 := by rw [← hLn0, h2]; rfl
            have qk : ((k : Int) == (N : Int) - 1) = true := by simp; omega
            obtain rfl : nx = i := by omega
            by_cases hcx : cap = nx
            · have kb := str_bs w5 _ (cap - nx) (cutL l nx nx) ((hB5.takeR (n := nx)).loR (n := nx)).2.2.1
              rw [if_pos hcx, hLn0, hstr, Nat.sub_self] at kb
              have sub0 : cap - nx = 0 := by omega
              rw [sub0] at kb
              clear hLn0 hstr h2 hnl2
              by_cases h200 : 200 < k
              · have t9 : decide ((k : Int) > 200) = true := decide_eq_true (by omega)
                have t9b : decide ((200 : Int) < (k : Int)) = true := decide_eq_true (by omega)
                have t9c : decide (200 < k) = true := decide_eq_true (by omega)
                go_wp2_with fail
                go_ret
                exact ⟨rfl, hb5⟩
              · have t9 : decide ((k : Int) > 200) = false := decide_eq_false (by omega)
                have t9b : decide ((200 : Int) < (k : Int)) = false := decide_eq_false (by omega)
                have t9c : decide (200 < k) = false := decide_eq_false (by omega)
                have hwk : wrap64 ((k : Int) + 1) = (k : Int) + 1 := wrap_nat k 1 (by omega)
                go_wp2_with fail
                go_roundw
                case rel => exact ⟨k + 1, by go_num, by omega, by rw [unhide HS2], hb5⟩
                case measure => simp [intOf]; omega
            · have kb := str_bs w5 _ (cap - nx) (cutL l nx nx) ((hB5.takeR (n := nx)).loR (n := nx)).2.2.1
              rw [if_neg hcx, hLn0, hstr, Nat.sub_self] at kb
              clear hLn0 hstr h2 hnl2
              by_cases h200 : 200 < k
              · have t9 : decide ((k : Int) > 200) = true := decide_eq_true (by omega)
                have t9b : decide ((200 : Int) < (k : Int)) = true := decide_eq_true (by omega)
                have t9c : decide (200 < k) = true := decide_eq_true (by omega)
                go_wp2_with fail
                go_ret
                exact ⟨rfl, hb5⟩
              · have t9 : decide ((k : Int) > 200) = false := decide_eq_false (by omega)
                have t9b : decide ((200 : Int) < (k : Int)) = false := decide_eq_false (by omega)
                have t9c : decide (200 < k) = false := decide_eq_false (by omega)
                have hwk : wrap64 ((k : Int) + 1) = (k : Int) + 1 := wrap_nat k 1 (by omega)
                go_wp2_with fail
                go_roundw
                case rel => exact ⟨k + 1, by go_num, by omega, by rw [unhide HS2], hb5⟩
                case measure => simp [intOf]; omega
          · have hstr : strOfNums (cutL l i nx) = ⟨#[10]⟩ := by rw [h2]; rfl
            have hLn0 : (cutL l i nx).length = nx - i := by unfold cutL; simp; omega
            have hnl2 : nx - i = 1 := by rw [← hLn0, h2]; rfl
            have qk : ((k : Int) == (N : Int) - 1) = false := by simp; omega
            have hcx : ¬ cap = i := by omega
            have kb := str_bs w5 _ (cap - i) (cutL l i nx) ((hB5.takeR (n := nx)).loR (n := i)).2.2.1
            rw [if_neg hcx, hLn0, hnl2, hstr] at kb
            clear hLn0 hstr h2
            by_cases h200 : 200 < k
            · have t9 : decide ((k : Int) > 200) = true := decide_eq_true (by omega)
              have t9b : decide ((200 : Int) < (k : Int)) = true := decide_eq_true (by omega)
              have t9c : decide (200 < k) = true := decide_eq_true (by omega)
              go_wp2_with fail
              go_ret
              exact ⟨rfl, hb5⟩
            · have t9 : decide ((k : Int) > 200) = false := decide_eq_false (by omega)
              have t9b : decide ((200 : Int) < (k : Int)) = false := decide_eq_false (by omega)
              have t9c : decide (200 < k) = false := decide_eq_false (by omega)
              have hwk : wrap64 ((k : Int) + 1) = (k : Int) + 1 := wrap_nat k 1 (by omega)
              go_wp2_with fail
              go_roundw
              case rel => exact ⟨k + 1, by go_num, by omega, by rw [unhide HS2], hb5⟩
              case measure => simp [intOf]; omega
          · have hstr : strOfNums (cutL l i nx) = ⟨#[13]⟩ := by rw [h2]; rfl
            have hLn0 : (cutL l i nx).length = nx - i := by unfold cutL; simp; omega
            have hnl2 : nx - i = 1 := by rw [← hLn0, h2]; rfl
            have qk : ((k : Int) == (N : Int) - 1) = false := by simp; omega
            have hcx : ¬ cap = i := by omega
            have kb := str_bs w5 _ (cap - i) (cutL l i nx) ((hB5.takeR (n := nx)).loR (n := i)).2.2.1
            rw [if_neg hcx, hLn0, hnl2, hstr] at kb
            have h3 := h3
            clear hLn0 hstr h2
            obtain ⟨g, off, rfl⟩ := hB5.someB (by omega)
            rw [show Option.map (fun x : Addr => x.add i) (some (⟨g, off, none⟩ : Addr)) = some ⟨g, off + i, none⟩ by simp [Addr.add_lit]] at kb
            by_cases hnn : nx < l.length
            · have t4 := lt_int hnn
              have cx := hB5.byteAt (i := nx) hnn
              have q5 : (l.getD nx 0 == 10) = false := by simpa using h3 hnn
              clear h3
              generalize l.getD nx 0 = x at *
              by_cases h200 : 200 < k
              · have t9 : decide ((k : Int) > 200) = true := decide_eq_true (by omega)
                have t9b : decide ((200 : Int) < (k : Int)) = true := decide_eq_true (by omega)
                have t9c : decide (200 < k) = true := decide_eq_true (by omega)
                go_wp2_with fail
                go_ret
                exact ⟨rfl, hb5⟩
              · have t9 : decide ((k : Int) > 200) = false := decide_eq_false (by omega)
                have t9b : decide ((200 : Int) < (k : Int)) = false := decide_eq_false (by omega)
                have t9c : decide (200 < k) = false := decide_eq_false (by omega)
                have hwk : wrap64 ((k : Int) + 1) = (k : Int) + 1 := wrap_nat k 1 (by omega)
                go_wp2_with fail
                go_roundw
                case rel => exact ⟨k + 1, by go_num, by omega, by rw [unhide HS2], hb5⟩
                case measure => simp [intOf]; omega
            · have t4 := ge_int hnn
              clear h3
              by_cases h200 : 200 < k
              · have t9 : decide ((k : Int) > 200) = true := decide_eq_true (by omega)
                have t9b : decide ((200 : Int) < (k : Int)) = true := decide_eq_true (by omega)
                have t9c : decide (200 < k) = true := decide_eq_true (by omega)
                go_wp2_with fail
                go_ret
                exact ⟨rfl, hb5⟩
              · have t9 : decide ((k : Int) > 200) = false := decide_eq_false (by omega)
                have t9b : decide ((200 : Int) < (k : Int)) = false := decide_eq_false (by omega)
                have t9c : decide (200 < k) = false := decide_eq_false (by omega)
                have hwk : wrap64 ((k : Int) + 1) = (k : Int) + 1 := wrap_nat k 1 (by omega)
                go_wp2_with fail
                go_roundw
                case rel => exact ⟨k + 1, by go_num, by omega, by rw [unhide HS2], hb5⟩
                case measure => simp [intOf]; omega
          · have hstr : strOfNums (cutL l i nx) = ⟨#[13, 10]⟩ := by rw [h2]; rfl
            have hLn0 : (cutL l i nx).length = nx - i := by unfold cutL; simp; omega
            have hnl2 : nx - i = 2 := by rw [← hLn0, h2]; rfl
            have qk : ((k : Int) == (N : Int) - 1) = false := by simp; omega
            have hcx : ¬ cap = i := by omega
            have kb := str_bs w5 _ (cap - i) (cutL l i nx) ((hB5.takeR (n := nx)).loR (n := i)).2.2.1
            rw [if_neg hcx, hLn0, hnl2, hstr] at kb
            clear hLn0 hstr h2
            by_cases h200 : 200 < k
            · have t9 : decide ((k : Int) > 200) = true := decide_eq_true (by omega)
              have t9b : decide ((200 : Int) < (k : Int)) = true := decide_eq_true (by omega)
              have t9c : decide (200 < k) = true := decide_eq_true (by omega)
              go_wp2_with fail
              go_ret
              exact ⟨rfl, hb5⟩
            · have t9 : decide ((k : Int) > 200) = false := decide_eq_false (by omega)
              have t9b : decide ((200 : Int) < (k : Int)) = false := decide_eq_false (by omega)
              have t9c : decide (200 < k) = false := decide_eq_false (by omega)
              have hwk : wrap64 ((k : Int) + 1) = (k : Int) + 1 := wrap_nat k 1 (by omega)
              go_wp2_with fail
              go_roundw
              case rel => exact ⟨k + 1, by go_num, by omega, by rw [unhide HS2], hb5⟩
              case measure => simp [intOf]; omega
    · obtain rfl : k = N := by omega
      have t1 := ge_int hlt
      have hs : stk l k = l.length := by unfold stk; rw [unhide HNN, if_neg hlt]
      rw [hs]
      go_wp2_with fail
      go_ret
      exact ⟨rfl, hb⟩

end Go.Proofs.YtdljnefmbogjkaaDoor
