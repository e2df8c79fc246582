/- Layer 7: the document's Rows. -/
import Derived.Test.YtbnfpcfoeojceaaDoorLnk
import Derived.Test.YtbnfpcfoeojceaaDoorLnf
import Derived.Test.YtbnfpcfoeojceaaDoorLml
namespace Go.Proofs.YtbnfpcfoeojceaaDoor
open Go.ChangeShapes Go.WideShapes Go.ChangeAt Go.RowKit
attribute [local go_sem] Oper.semAt_some

def rowsV (E : List Ln) : List Value := E.flatMap fun e => [.int .i64 (e.2.1 : Int), .int .i64 (e.2.2.1 : Int), .int .i64 (e.2.2.2 : Int)]
theorem rowsV_snoc (E : List Ln) (k s c n : Nat) : rowsV (E ++ [(k, s, c, n)]) = rowsV E ++ [.int .i64 (s : Int), .int .i64 (c : Int), .int .i64 (n : Int)] := by simp [rowsV]
theorem rowsV_get : ∀ (E : List Ln) {k : Nat}, k < E.length → (rowsV E)[k * 3]? = some (.int .i64 ((E.getD k z4).2.1 : Int)) ∧ (rowsV E)[k * 3 + 1]? = some (.int .i64 ((E.getD k z4).2.2.1 : Int)) ∧ (rowsV E)[k * 3 + 2]? = some (.int .i64 ((E.getD k z4).2.2.2 : Int))
  | [], k, h => by simp at h
  | e :: E, 0, _ => by simp [rowsV]
  | e :: E, k + 1, h => by
    have ih := rowsV_get E (k := k) (by simpa using h)
    have hr : rowsV (e :: E) = [.int .i64 (e.2.1 : Int), .int .i64 (e.2.2.1 : Int), .int .i64 (e.2.2.2 : Int)] ++ rowsV E := by simp [rowsV]
    rw [hr, show (k + 1) * 3 = k * 3 + 3 by omega]
    simpa using ih
set_option maxRecDepth 100000 in
theorem info_row : ∃ i, Tryd.prog.info? 34 = some i ∧ i.zero = some (.agg #[.int .i64 0, .int .i64 0, .int .i64 0]) ∧ i.size = 3 ∧ i.bytes = 24 := by
  refine ⟨_, rfl, ?_, ?_, ?_⟩ <;> rfl
theorem three_nwR (w : World) (a b c : Value) {t : TypeId} : (w.alloc (.cells #[a, b, c] t)).cell? ⟨w.heap.size, 0, none⟩ = some a ∧ (w.alloc (.cells #[a, b, c] t)).cell? ⟨w.heap.size, 1, none⟩ = some b ∧ (w.alloc (.cells #[a, b, c] t)).cell? ⟨w.heap.size, 2, none⟩ = some c := by
  refine ⟨?_, ?_, ?_⟩
  · exact (World.cell?_alloc_mark w #[a, b, c] t (0, 0) 0).trans rfl
  · exact (World.cell?_alloc_mark w #[a, b, c] t (0, 0) 1).trans rfl
  · exact (World.cell?_alloc_mark w #[a, b, c] t (0, 0) 2).trans rfl
theorem push_row (W : World) (B n : Nat) (v : Value) (xs : List Value) (a b c : Int) (ty : TypeId) (h : W.ownsRow B 34 3 v n xs) (hn : n ≤ 4194304) (hB : B ≤ W.heap.size) :
    ∃ g k W', (Builtin.append_ #[24, 24] ty #[v, .slice (some ⟨W.heap.size, 0, none⟩) 1 1]).run Tryd.prog (W.alloc (.cells #[.int .i64 a, .int .i64 b, .int .i64 c] 34)) = .ok (.slice (some ⟨g, 0, none⟩) (n + 1) k) W' ∧
      W'.ownsRow B 34 3 (.slice (some ⟨g, 0, none⟩) (n + 1) k) (n + 1) (xs ++ [.int .i64 a, .int .i64 b, .int .i64 c]) ∧ Below B W W' := by
  obtain ⟨i, hi, hz, hs, hby⟩ := info_row
  have hr := World.ownsRow.alloc h (.cells #[.int .i64 a, .int .i64 b, .int .i64 c] 34)
  obtain ⟨c0, c1, c2⟩ := three_nwR W (.int .i64 a) (.int .i64 b) (.int .i64 c) (t := 34)
  obtain ⟨g, k, W', hrun, ho, hg, _, _⟩ := run_append_lies (P := Tryd.prog) (W.alloc (.cells #[.int .i64 a, .int .i64 b, .int .i64 c] 34)) 24 ty B 34 i (.agg #[.int .i64 0, .int .i64 0, .int .i64 0]) 3 24 Tryd.underlying24 hi hz hs hby rfl (by decide)
    v n xs hr ⟨W.heap.size, 0, none⟩ 1 1 [.int .i64 a, .int .i64 b, .int .i64 c] rfl
    (fun j u hj => by
      match j with
      | 0 => simp at hj; subst hj; rw [Addr.add_lit]; exact c0
      | 1 => simp at hj; subst hj; rw [Addr.add_lit]; exact c1
      | 2 => simp at hj; subst hj; rw [Addr.add_lit]; exact c2
      | j + 3 => simp at hj)
    (fun u hu => by simp at hu; rcases hu with rfl | rfl | rfl <;> rfl) (by decide) (by unfold maxLen; omega) (by omega) (by simp; omega) _ rfl
  exact ⟨g, k, W', hrun, ho, ((Below.refl B W).alloc hB _).grown hg (by simp; omega) (fun k hk => (hr.lt k hk).1)⟩
theorem ctn_isR {l : List Int} {s i : Nat} (h1 : s ≤ i) (h2 : i < l.length) (h3 : isNl (l.getD i 0) = true) (h4 : ∀ j, s ≤ j → j < i → isNl (l.getD j 0) = false) : ctn l s = i := by
  rcases Nat.lt_trichotomy (ctn l s) i with h | h | h
  · have a := ctn_nl (l := l) (s := s) (by omega)
    rw [h4 _ (ctn_le l s) h] at a; cases a
  · exact h
  · have a := ctn_no h1 h (by omega)
    rw [h3] at a; cases a
theorem ctn_endR {l : List Int} {s : Nat} (h4 : ∀ j, s ≤ j → j < l.length → isNl (l.getD j 0) = false) : ¬ ctn l s < l.length := fun h => by
  have a := ctn_nl h
  rw [h4 _ (ctn_le l s) h] at a; cases a

structure RwI (w : World) (l : List Int) (st i : Nat) (pre : List Ln) (v : Value) (X : World) : Prop where
  e : LN l = pre ++ lnR l pre.length st
  n : ∀ j, st ≤ j → j < i → isNl (l.getD j 0) = false
  o : X.ownsRow w.heap.size 34 3 v pre.length (rowsV pre)

set_option maxRecDepth 100000 in
set_option maxHeartbeats 4000000 in
theorem Rows_at (a0 : Option Addr) (cap : Nat) (l : List Int) (w : World) (hB : IsB w a0 cap l) (hl : l.length ≤ 1048576) :
    Calls Tryd.prog 10 #[.slice a0 l.length cap] w fun y w' => ∃ v, y = .returned v ∧ w'.ownsRow w.heap.size 34 3 v (LN l).length (rowsV (LN l)) ∧ Below w.heap.size w w' := by
  have HN := LN_len l
  go_enter Tryd.func10, Tryd.ntmps10
  go_wp2_with fail
  go_loopw [3, 4, 5, 6] (fun v s i nx wx => ∃ (st p : Nat) (pre : List Ln), st ≤ p ∧ p ≤ l.length ∧ s = .int .i64 st ∧ i = .int .i64 p ∧ (∃ z, nx = z) ∧ Hid (RwI w l st p pre v wx) ∧ Below w.heap.size w wx) (fun _ _ i _ _ => l.length - (intOf i).toNat)
  case atStart => exact ⟨0, 0, [], Nat.le_refl _, Nat.zero_le _, rfl, rfl, ⟨_, rfl⟩, hide ⟨rfl, fun j _ h => by omega, ⟨rfl, Or.inl ⟨rfl, rfl⟩⟩⟩, Below.refl _ _⟩
  case round =>
    obtain ⟨st, p, pre, hsp, hp, rfl, rfl, ⟨z, rfl⟩, HI, hb⟩ := hrel
    by_cases hlt : p < l.length
    · have t1 := lt_int hlt
      have hBx := hB.below hb (Nat.le_refl _)
      obtain ⟨g, off, rfl⟩ := hBx.someB (by omega)
      have cx := hBx.byteAt (i := p) hlt
      have hwp : wrap64 ((p : Int) + 1) = (p : Int) + 1 := wrap_nat p 1 (by omega)
      cases hn : isNl (l.getD p 0) with
      | false =>
        have q1 : (l.getD p 0 == 13) = false := by unfold isNl at hn; exact (Bool.or_eq_false_iff.1 hn).1
        have q2 : (l.getD p 0 == 10) = false := by unfold isNl at hn; exact (Bool.or_eq_false_iff.1 hn).2
        have q1' : (l.getD p 0 != 13) = true := by simp only [bne, q1]; rfl
        have q2' : (l.getD p 0 != 10) = true := by simp only [bne, q2]; rfl
        have HI2 : Hid (RwI w l st (p + 1) pre _ wr) := hide ⟨(unhide HI).e, fun j h1 h2 => by
          rcases Nat.lt_or_ge j p with h | h
          · exact (unhide HI).n j h1 h
          · obtain rfl : j = p := by omega
            exact hn, (unhide HI).o⟩
        clear hn
        generalize l.getD p 0 = x at *
        go_wp2_with fail
        go_roundw
        case rel => exact ⟨st, p + 1, pre, by omega, by omega, rfl, by go_num, ⟨_, rfl⟩, HI2, hb⟩
        case measure => simp [intOf]; omega
      | true =>
        have hc : ctn l st = p := ctn_isR hsp hlt hn (unhide HI).n
        have HE : Hid (LN l = (pre ++ [(pre.length, st, p, nxt l p)]) ++ lnR l (pre ++ [(pre.length, st, p, nxt l p)]).length (nxt l p)) := hide (by
          have h1 := lnR_cons (l := l) (k := pre.length) (s := st) (by omega)
          rw [hc] at h1
          rw [(unhide HI).e, h1]
          simp)
        have hnl := nxt_len hlt
        have hng := nxt_gt l p
        have hpl : pre.length ≤ l.length := by have := congrArg List.length (unhide HE); rw [List.length_append, List.length_append] at this; simp at this; omega
        have hwn : ∀ n : Nat, n ≤ l.length → 1 ≤ n → wrap64 ((n : Int) - 1) = ((n - 1 : Nat) : Int) := fun n h1 h2 => by rw [wrap_in _ (by omega) (by omega)]; omega
        have hv := nl_val hn
        have ho := (unhide HI).o
        clear hc hn HI
        have K : ∀ n : Nat, nxt l p = n → ∃ g2 c2 w3, Hid ((Builtin.append_ #[24, 24] 24 #[u3, .slice (some ⟨wr.heap.size, 0, none⟩) 1 1]).run Tryd.prog (wr.alloc (.cells #[.int .i64 (st : Int), .int .i64 (p : Int), .int .i64 (n : Int)] 34)) = .ok (.slice (some ⟨g2, 0, none⟩) (pre.length + 1) c2) w3) ∧
            Hid (RwI w l n n (pre ++ [(pre.length, st, p, n)]) (.slice (some ⟨g2, 0, none⟩) (pre.length + 1) c2) w3) ∧ Below w.heap.size w w3 := fun n hn => by
          obtain ⟨g2, c2, w3, r3, o3, y3⟩ := push_row wr w.heap.size _ _ _ (st : Int) (p : Int) (n : Int) 24 ho (by omega) hb.size
          refine ⟨g2, c2, w3, hide r3, hide ⟨by rw [← hn]; exact unhide HE, fun j h1 h2 => by omega, ?_⟩, hb.trans y3⟩
          rw [rowsV_snoc, List.length_append, List.length_singleton]
          exact o3
        by_cases h13 : l.getD p 0 = 13 ∧ p + 1 < l.length ∧ l.getD (p + 1) 0 = 10
        · obtain ⟨e1, e2, e3⟩ := h13
          have hnx : nxt l p = p + 2 := by unfold nxt edw; rw [getD_drop', getD_drop', Nat.add_zero, if_pos ⟨e1, e3⟩]
          obtain ⟨g2, c2, w3, R3, HI3, hb3⟩ := K (p + 2) hnx
          have cy := hBx.byteAt (i := p + 1) e2
          have t2 : decide ((p : Int) + 1 < (l.length : Int)) = true := decide_eq_true (by omega)
          rw [e1] at cx
          rw [e3] at cy
          have hw2 : wrap64 ((p : Int) + 1 + 1) = ((p + 2 : Nat) : Int) := by rw [wrap_in _ (by omega) (by omega)]; omega
          have hw3 := hwn (p + 2) (by omega) (by omega)
          have hw4 : wrap64 (((p + 2 - 1 : Nat) : Int) + 1) = ((p + 2 : Nat) : Int) := by rw [wrap_in _ (by omega) (by omega)]; omega
          clear K HE hnx e1 e3 hv ho hnl hng hwn
          go_wp2_with (at_builtin; refine wpList_append_known rfl _ _ 24 24 rfl _ _ rfl rfl _ _ (unhide R3) ?_)
          go_roundw
          case rel => exact ⟨p + 2, p + 2, _, Nat.le_refl _, by omega, by go_num, by go_num, ⟨_, rfl⟩, HI3, hb3⟩
          case measure => simp [intOf]; omega
        · have hnx : nxt l p = p + 1 := by
            unfold nxt edw
            rw [getD_drop', getD_drop', Nat.add_zero, if_neg (fun ⟨e1, e3⟩ => h13 ⟨e1, by
              rcases Nat.lt_or_ge (p + 1) l.length with h | h
              · exact h
              · rw [List.getD_eq_getElem?_getD, List.getElem?_eq_none h] at e3; simp at e3, e3⟩)]
          obtain ⟨g2, c2, w3, R3, HI3, hb3⟩ := K (p + 1) hnx
          have hw3 := hwn (p + 1) (by omega) (by omega)
          have hw4 : wrap64 (((p + 1 - 1 : Nat) : Int) + 1) = ((p + 1 : Nat) : Int) := by rw [wrap_in _ (by omega) (by omega)]; omega
          clear K HE hnx ho hnl hng hwn
          rcases hv with e1 | e1
          · rw [e1] at cx
            by_cases e2 : p + 1 < l.length
            · have cy := hBx.byteAt (i := p + 1) e2
              have t2 : decide ((p : Int) + 1 < (l.length : Int)) = true := decide_eq_true (by omega)
              have q2 : (l.getD (p + 1) 0 == 10) = false := by simpa using fun h => h13 ⟨e1, e2, h⟩
              clear h13 e1
              generalize l.getD (p + 1) 0 = y at *
              go_wp2_with (at_builtin; refine wpList_append_known rfl _ _ 24 24 rfl _ _ rfl rfl _ _ (unhide R3) ?_)
              go_roundw
              case rel => exact ⟨p + 1, p + 1, _, Nat.le_refl _, by omega, by go_num, by go_num, ⟨_, rfl⟩, HI3, hb3⟩
              case measure => simp [intOf]; omega
            · have t2 : decide ((p : Int) + 1 < (l.length : Int)) = false := decide_eq_false (by omega)
              clear h13 e1
              go_wp2_with (at_builtin; refine wpList_append_known rfl _ _ 24 24 rfl _ _ rfl rfl _ _ (unhide R3) ?_)
              go_roundw
              case rel => exact ⟨p + 1, p + 1, _, Nat.le_refl _, by omega, by go_num, by go_num, ⟨_, rfl⟩, HI3, hb3⟩
              case measure => simp [intOf]; omega
          · rw [e1] at cx
            clear h13 e1
            go_wp2_with (at_builtin; refine wpList_append_known rfl _ _ 24 24 rfl _ _ rfl rfl _ _ (unhide R3) ?_)
            go_roundw
            case rel => exact ⟨p + 1, p + 1, _, Nat.le_refl _, by omega, by go_num, by go_num, ⟨_, rfl⟩, HI3, hb3⟩
            case measure => simp [intOf]; omega
    · obtain rfl : p = l.length := by omega
      have t1 := ge_int hlt
      have hce := ctn_endR (unhide HI).n
      have hE := (unhide HI).e
      rw [lnR_last hce] at hE
      have hpl : pre.length ≤ l.length := by rw [hE, List.length_append] at HN; simp at HN; omega
      obtain ⟨g2, c2, w3, r3, o3, y3⟩ := push_row wr w.heap.size _ _ _ (st : Int) (l.length : Int) (l.length : Int) 24 (unhide HI).o (by omega) hb.size
      have R3 := hide r3
      have HO : Hid (w3.ownsRow w.heap.size 34 3 (.slice (some ⟨g2, 0, none⟩) (pre.length + 1) c2) (LN l).length (rowsV (LN l))) := hide (by
        rw [hE, rowsV_snoc, List.length_append, List.length_singleton]
        exact o3)
      have hb3 := hb.trans y3
      clear r3 o3 y3 hE hce HI
      go_wp2_with (at_builtin; refine wpList_append_known rfl _ _ 24 24 rfl _ _ rfl rfl _ _ (unhide R3) ?_)
      go_ret
      exact ⟨_, rfl, unhide HO, hb3⟩

end Go.Proofs.YtbnfpcfoeojceaaDoor
