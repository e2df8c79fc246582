/- Layer 10: contracts of seek's ending, begin, Line. -/
import Derived.Test.YteamaneompijkaaGreatDoorSl32

namespace Go.Proofs.YteamaneompijkaaGreatDoor
open Go.ChangeShapes Go.WideShapes Go.ChangeAt Go.RowKit
attribute [local go_sem] Oper.semAt_some

set_option maxRecDepth 100000 in
set_option maxHeartbeats 2000000 in
theorem endf10_at (l : List Int) (k : Int) (gk : Nat) (w : World) (hk : Cb w gk 3 (.int .i64 k)) :
    Calls Tryz.prog 99 #[weV (ofL l), .pointer (some ⟨gk, 0, none⟩)] w fun y w' => y = .returned (.bool (decide (k < endsN l))) ∧ Below w.heap.size w w' := by
  rw [weq9]
  have hz : (szL l).e = endsN l := rfl
  generalize (szL l).b = zb at *
  generalize (szL l).r = zr at *
  generalize (szL l).u = zu at *
  rw [hz]
  clear hz
  generalize strOfNums (List.take 3 l) = zh at *
  generalize strOfNums (tail3 l) = zt at *
  generalize endsN l = ze at *
  have b0 := (Below.refl w.heap.size w).alloc (Nat.le_refl _) (.cells #[.int .i64 zb, .int .i64 zr, .int .i64 zu, .int .i64 ze, .string zh, .string zt] 47)
  have g0 := push_get w (.cells #[.int .i64 zb, .int .i64 zr, .int .i64 zu, .int .i64 ze, .string zh, .string zt] 47)
  obtain ⟨c0, c1, c2, c3, c4, c5, _⟩ := cells6 g0
  have k1 := (hk.on b0).cell
  have HB := hide b0
  clear b0 g0 hk
  go_enter Tryz.func99, Tryz.ntmps99
  go_upto_region 1 with fail
  generalize w.alloc (.cells #[.int .i64 zb, .int .i64 zr, .int .i64 zu, .int .i64 ze, .string zh, .string zt] 47) = w0 at *
  go_wp2_with fail
  go_ret
  exact ⟨ret_bool rfl, unhide HB⟩
theorem bytes_of {w : World} {g : Nat} {o : Option Nd} (h : IsRo w g o) : ∀ x ∈ txtO o, 0 ≤ x ∧ x ≤ 255 := by
  obtain ⟨v, _, h2⟩ := h
  cases o with
  | none => intro x hx; cases hx
  | some t => exact IsNd.bytes h2
theorem RoVro {w : World} {g : Nat} {o : Option Nd} (h : IsRo w g o) : RoV w (.pointer (some ⟨g, 0, none⟩)) o := by
  obtain ⟨v, h1, h2⟩ := h
  exact ⟨v, Or.inr ⟨g, rfl, h1⟩, h2⟩
/-- what stands at a line's end -/
theorem end_win {T : List Int} {m : Nat} (hml : m < T.length) (hnl : isNl (T.getD m 0) = true) : nbr ((T.drop m).take (min T.length (m + 2) - m)) 0 = some (0, 0, 0, edw (T.drop m)) := by
  have he := edw_take (T.drop m) (min T.length (m + 2) - m) (by rw [List.length_drop]; omega)
  have hc : T.drop m = T.getD m 0 :: T.drop (m + 1) := by
    rw [List.drop_eq_getElem_cons hml, List.getD_eq_getElem?_getD, List.getElem?_eq_getElem hml]; rfl
  obtain ⟨q, hq⟩ : ∃ q, min T.length (m + 2) - m = q + 1 := ⟨min T.length (m + 2) - m - 1, by omega⟩
  rw [← he, hq, hc, List.take_succ_cons]
  exact nbr_end hnl
set_option maxRecDepth 100000 in
set_option maxHeartbeats 4000000 in
theorem ending10_at (g : Nat) (o : Option Nd) (k : Nat) (w : World) (h : IsRo w g o) (hk : k < (LN (txtO o)).length) (hm : (txtO o).length ≤ 268435456) (hW : Wt w) :
    Calls Tryz.prog 63 #[.pointer (some ⟨g, 0, none⟩), .int .i64 (k : Int)] w fun y w' => y = .returned (.tuple #[.int .i64 (((LN (txtO o)).getD k z4).2.2.1 : Int), .int .i64 (((LN (txtO o)).getD k z4).2.2.2 : Int)]) ∧ Below w.heap.size w w' := by
  have hb := bytes_of h
  have b0 := (Below.refl w.heap.size w).alloc (Nat.le_refl _) (.cells #[.int .i64 (k : Int)] 3)
  have k0 := Cb.new w 3 (.int .i64 (k : Int))
  obtain ⟨N, hN⟩ : ∃ N, N = (txtO o).length := ⟨_, rfl⟩
  have HR := hide fun (X : World) (hx : Below w.heap.size w X) => h.on hx
  have HW := hide fun (X : World) (hx : Below w.heap.size w X) => hW.below hx
  have HNN := hide hN
  have HN := hide (fun n => en_ln (T := txtO o) (k := k) (n := n) hk)
  have HM := hide hm
  have HY := hide hb
  have HL := hide fun (X : World) (hx : Below w.heap.size w X) => hN ▸ Len9_at g o X (h.on hx)
  have HF := hide fun (X : World) (hx : Below w.heap.size w X) (hc : Cb X w.heap.size 3 (.int .i64 (k : Int))) => First9_at (.pointer (some ⟨g, 0, none⟩)) o 99 #[.pointer (some ⟨w.heap.size, 0, none⟩)] (fun l => decide ((k : Int) < endsN l)) X (RoVro (h.on hx)) hm (hW.below hx) (enters_of Tryz.func99 (by kernel_rfl) rfl)
    (fun j Y _ hy => endf10_at _ (k : Int) w.heap.size Y (hc.on hy))
  have HB := hide fun (X : World) (hx : Below w.heap.size w X) (lo hi : Nat) (h1 : lo ≤ hi) (h2 : hi ≤ (txtO o).length) => BytesR9_at g o lo hi X (h.on hx) h1 h2 hm
  generalize hcv : (((LN (txtO o)).getD k z4).2.2.1 : Int) = cv at *
  generalize hnv : (((LN (txtO o)).getD k z4).2.2.2 : Int) = nv at *
  clear h hW hb hm hk hN hcv hnv
  go_enter Tryz.func63, Tryz.ntmps63
  go_upto_region 1 with fail
  generalize w.alloc (.cells #[.int .i64 (k : Int)] 3) = w0 at *
  go_wp2_with fail
  refine (unhide HL w0 b0).mono ?_
  rintro y w1 ⟨rfl, x1⟩
  dsimp only
  have X1 := b0.trans (x1.mono b0.size)
  have k1 := k0.on x1
  have HF1 := hide (unhide HF w1 X1 k1)
  go_wp2_with fail
  refine (unhide HF1).mono ?_
  rintro y w2 ⟨n, rfl, hn, x2⟩
  dsimp only
  have X2 := X1.trans (x2.mono (X1.size))
  obtain ⟨e1, e2⟩ := unhide HN n hn
  clear HF HF1 hn
  by_cases h0 : n < 0
  · have d0 : decide (n < 0) = true := decide_eq_true h0
    have e3 : enP (txtO o) n = ((N : Int), (N : Int)) := by unfold enP; rw [if_pos h0, unhide HNN]
    rw [e3] at e1
    have E1 := hide e1
    clear e1 e2 e3 h0
    go_wp2_with fail
    refine bodyPost_ret (results_tmp2 rfl _ _ _) rfl ?_
    refine ⟨?_, X2⟩
    have := unhide E1
    simp only [Prod.mk.injEq] at this
    rw [← this.1, ← this.2]
    rfl
  · have d0 : decide (n < 0) = false := decide_eq_false h0
    obtain ⟨m, rfl, hml, hnl⟩ := e2 (by omega)
    have e3 : enP (txtO o) ((m : Int) + 1) = ((m : Int), (m : Int) + (edw ((txtO o).drop m) : Int)) := by
      unfold enP
      rw [if_neg h0, show ((m : Int) + 1).toNat - 1 = m by omega, show (m : Int) + 1 - 1 = (m : Int) by omega]
    rw [e3] at e1
    have E1 := hide e1
    have hedw := edw_pos ((txtO o).drop m)
    have hnn := unhide HNN
    have hmm := unhide HM
    obtain ⟨d, hd⟩ : ∃ d, d = edw ((txtO o).drop m) := ⟨_, rfl⟩
    obtain ⟨hi, hhi⟩ : ∃ hi, hi = min (txtO o).length (m + 2) := ⟨_, rfl⟩
    have w1' : wrap64 (m : Int) = (m : Int) := wrap_in _ (by omega) (by omega)
    have w2' : wrap64 ((m : Int) + 2) = (m : Int) + 2 := wrap_in _ (by omega) (by omega)
    have w3' : min (N : Int) ((m : Int) + 2) = (hi : Int) := by omega
    have w4' : wrap64 ((m : Int) + (d : Int)) = (m : Int) + (d : Int) := wrap_in _ (by omega) (by omega)
    have hB := unhide HB w2 X2 m hi (by omega) (by omega)
    have hwl : (((txtO o).drop m).take (hi - m)).length ≤ 268435456 := by rw [List.length_take]; omega
    have hnb : nbr (((txtO o).drop m).take (hi - m)) 0 = some (0, 0, 0, d) := by rw [hhi, hd]; exact end_win hml hnl
    have hyb : ∀ x ∈ ((txtO o).drop m).take (hi - m), 0 ≤ x ∧ x ≤ 255 := fun x hx => unhide HY x (List.mem_of_mem_drop (List.mem_of_mem_take hx))
    generalize ((txtO o).drop m).take (hi - m) = L at *
    have HB2 := hide hB
    have HNB := hide hnb
    have HWL := hide hwl
    have HYB := hide hyb
    rw [← hd] at E1
    clear e1 e2 e3 h0 hml hnl hedw hnb hwl hyb hB hd hhi hnn hmm HB HNN
    go_wp2_with fail
    refine (unhide HB2).mono ?_
    rintro y w3 ⟨v, rfl, hv, x3⟩
    dsimp only
    have X3 := X2.trans (x3.mono X2.size)
    obtain ⟨a', c', rfl, hN'⟩ := own_isNS hv (unhide HYB) (by have := unhide HWL; omega)
    have HI := hide hN'
    clear hv hN' HB2
    go_wp2_with fail
    refine (Line_at a' c' _ 0 w3 (unhide HI).1).mono ?_
    rintro y w4 ⟨rfl, x4⟩
    dsimp only
    have X4 := X3.trans (x4.mono X3.size)
    rw [unhide HNB]
    unfold liV
    dsimp only
    go_wp2_with fail
    refine bodyPost_ret (results_tmp2 rfl _ _ _) rfl ?_
    refine ⟨?_, X4⟩
    have := unhide E1
    simp only [Prod.mk.injEq] at this
    rw [← this.1, ← this.2]
    exact congrArg Ending.returned (by simp [w1', w4'])

end Go.Proofs.YteamaneompijkaaGreatDoor
