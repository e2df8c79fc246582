/- Layer 7: the document's Rows. · What stays while a law of layer 7 goes on; Where at an edge. · Layer 7, plain: Where's numbers; how they go on from place to place (LinesColumns). · LinesRows: the walk. · Layer 7: rows that may be written and grown; bytes appended to one's own; a list of numbers copied. · LinesOwn: the walk, for arguments under the bound (written by a program out of RuleOwn's). -/
import Derived.Test.YtbnfpcfoeojceaaDoorLnk
import Derived.Test.YtbnfpcfoeojceaaDoorLnf
import Derived.Test.YtbnfpcfoeojceaaDoorLml
import Derived.Deep.Cut
import Derived.Deep.DeepCutAuto
import Derived.Test.YtbnfpcfoeojceaaDoorOwnR
import Derived.Deep.AppendSrc

section
namespace Go.Proofs.YtbnfpcfoeojceaaDoor
open Go.ChangeShapes Go.WideShapes Go.ChangeAt Go.RowKit
attribute [local go_sem] Oper.semAt_some

def rowsV (E : List Ln) : List Value := E.flatMap fun e => [.int .i64 (e.2.1 : Int), .int .i64 (e.2.2.1 : Int), .int .i64 (e.2.2.2 : Int)]
theorem rowsV_snoc (E : List Ln) (k s c n : Nat) : rowsV (E ++ [(k, s, c, n)]) = rowsV E ++ [.int .i64 (s : Int), .int .i64 (c : Int), .int .i64 (n : Int)] := by simp [rowsV]
theorem rowsV_get : ∀ (E : List Ln) {k : Nat}, k < E.length → (rowsV E)[k * 3]? = some (.int .i64 ((E.getD k z4).2.1 : Int)) ∧ (rowsV E)[k * 3 + 1]? = some (.int .i64 ((E.getD k z4).2.2.1 : Int)) ∧ (rowsV E)[k * 3 + 2]? = some (.int .i64 ((E.getD k z4).2.2.2 : Int))
  | [], k, h => by simp at h
  | e :: E, 0, _ => by simp [rowsV]
  | e :: E, k + 1, h => by
    have ih := rowsV_get E (k := k) (by simpa using h)
    have hr : rowsV (e :: E) = [.int .i64 (e.2.1 : Int), .int .i64 (e.2.2.1 : Int), .int .i64 (e.2.2.2 : Int)] ++ rowsV E := by simp [rowsV]
    rw [hr, show (k + 1) * 3 = k * 3 + 3 by omega]
    simpa using ih
set_option maxRecDepth 100000 in
theorem info_row : ∃ i, Tryd.prog.info? 34 = some i ∧ i.zero = some (.agg #[.int .i64 0, .int .i64 0, .int .i64 0]) ∧ i.size = 3 ∧ i.bytes = 24 := by
  refine ⟨_, rfl, ?_, ?_, ?_⟩ <;> rfl
theorem three_nwR (w : World) (a b c : Value) {t : TypeId} : (w.alloc (.cells #[a, b, c] t)).cell? ⟨w.heap.size, 0, none⟩ = some a ∧ (w.alloc (.cells #[a, b, c] t)).cell? ⟨w.heap.size, 1, none⟩ = some b ∧ (w.alloc (.cells #[a, b, c] t)).cell? ⟨w.heap.size, 2, none⟩ = some c := by
  refine ⟨?_, ?_, ?_⟩
  · exact (World.cell?_alloc_mark w #[a, b, c] t (0, 0) 0).trans rfl
  · exact (World.cell?_alloc_mark w #[a, b, c] t (0, 0) 1).trans rfl
  · exact (World.cell?_alloc_mark w #[a, b, c] t (0, 0) 2).trans rfl
theorem push_row (W : World) (B n : Nat) (v : Value) (xs : List Value) (a b c : Int) (ty : TypeId) (h : W.ownsRow B 34 3 v n xs) (hn : n ≤ 4194304) (hB : B ≤ W.heap.size) :
    ∃ g k W', (Builtin.append_ #[24, 24] ty #[v, .slice (some ⟨W.heap.size, 0, none⟩) 1 1]).run Tryd.prog (W.alloc (.cells #[.int .i64 a, .int .i64 b, .int .i64 c] 34)) = .ok (.slice (some ⟨g, 0, none⟩) (n + 1) k) W' ∧
      W'.ownsRow B 34 3 (.slice (some ⟨g, 0, none⟩) (n + 1) k) (n + 1) (xs ++ [.int .i64 a, .int .i64 b, .int .i64 c]) ∧ Below B W W' := by
  obtain ⟨i, hi, hz, hs, hby⟩ := info_row
  have hr := World.ownsRow.alloc h (.cells #[.int .i64 a, .int .i64 b, .int .i64 c] 34)
  obtain ⟨c0, c1, c2⟩ := three_nwR W (.int .i64 a) (.int .i64 b) (.int .i64 c) (t := 34)
  obtain ⟨g, k, W', hrun, ho, hg, _, _⟩ := run_append_lies (P := Tryd.prog) (W.alloc (.cells #[.int .i64 a, .int .i64 b, .int .i64 c] 34)) 24 ty B 34 i (.agg #[.int .i64 0, .int .i64 0, .int .i64 0]) 3 24 Tryd.underlying24 hi hz hs hby rfl (by decide)
    v n xs hr ⟨W.heap.size, 0, none⟩ 1 1 [.int .i64 a, .int .i64 b, .int .i64 c] rfl
    (fun j u hj => by
      match j with
      | 0 => simp at hj; subst hj; rw [Addr.add_lit]; exact c0
      | 1 => simp at hj; subst hj; rw [Addr.add_lit]; exact c1
      | 2 => simp at hj; subst hj; rw [Addr.add_lit]; exact c2
      | j + 3 => simp at hj)
    (fun u hu => by simp at hu; rcases hu with rfl | rfl | rfl <;> rfl) (by decide) (by unfold maxLen; omega) (by omega) (by simp; omega) _ rfl
  exact ⟨g, k, W', hrun, ho, ((Below.refl B W).alloc hB _).grown hg (by simp; omega) (fun k hk => (hr.lt k hk).1)⟩
theorem ctn_isR {l : List Int} {s i : Nat} (h1 : s ≤ i) (h2 : i < l.length) (h3 : isNl (l.getD i 0) = true) (h4 : ∀ j, s ≤ j → j < i → isNl (l.getD j 0) = false) : ctn l s = i := by
  rcases Nat.lt_trichotomy (ctn l s) i with h | h | h
  · have a := ctn_nl (l := l) (s := s) (by omega)
    rw [h4 _ (ctn_le l s) h] at a; cases a
  · exact h
  · have a := ctn_no h1 h (by omega)
    rw [h3] at a; cases a
theorem ctn_endR {l : List Int} {s : Nat} (h4 : ∀ j, s ≤ j → j < l.length → isNl (l.getD j 0) = false) : ¬ ctn l s < l.length := fun h => by
  have a := ctn_nl h
  rw [h4 _ (ctn_le l s) h] at a; cases a

structure RwI (w : World) (l : List Int) (st i : Nat) (pre : List Ln) (v : Value) (X : World) : Prop where
  e : LN l = pre ++ lnR l pre.length st
  n : ∀ j, st ≤ j → j < i → isNl (l.getD j 0) = false
  o : X.ownsRow w.heap.size 34 3 v pre.length (rowsV pre)

set_option maxRecDepth 100000 in
set_option maxHeartbeats 4000000 in
theorem Rows_at (a0 : Option Addr) (cap : Nat) (l : List Int) (w : World) (hB : IsB w a0 cap l) (hl : l.length ≤ 1048576) :
    Calls Tryd.prog 10 #[.slice a0 l.length cap] w fun y w' => ∃ v, y = .returned v ∧ w'.ownsRow w.heap.size 34 3 v (LN l).length (rowsV (LN l)) ∧ Below w.heap.size w w' := by
  have HN := LN_len l
  go_enter Tryd.func10, Tryd.ntmps10
  go_wp2_with fail
  go_loopw [3, 4, 5, 6] (fun v s i nx wx => ∃ (st p : Nat) (pre : List Ln), st ≤ p ∧ p ≤ l.length ∧ s = .int .i64 st ∧ i = .int .i64 p ∧ (∃ z, nx = z) ∧ Hid (RwI w l st p pre v wx) ∧ Below w.heap.size w wx) (fun _ _ i _ _ => l.length - (intOf i).toNat)
  case atStart => exact ⟨0, 0, [], Nat.le_refl _, Nat.zero_le _, rfl, rfl, ⟨_, rfl⟩, hide ⟨rfl, fun j _ h => by omega, ⟨rfl, Or.inl ⟨rfl, rfl⟩⟩⟩, Below.refl _ _⟩
  case round =>
    obtain ⟨st, p, pre, hsp, hp, rfl, rfl, ⟨z, rfl⟩, HI, hb⟩ := hrel
    by_cases hlt : p < l.length
    · have t1 := lt_int hlt
      have hBx := hB.below hb (Nat.le_refl _)
      obtain ⟨g, off, rfl⟩ := hBx.someB (by omega)
      have cx := hBx.byteAt (i := p) hlt
      have hwp : wrap64 ((p : Int) + 1) = (p : Int) + 1 := wrap_nat p 1 (by omega)
      cases hn : isNl (l.getD p 0) with
      | false =>
        have q1 : (l.getD p 0 == 13) = false := by unfold isNl at hn; exact (Bool.or_eq_false_iff.1 hn).1
        have q2 : (l.getD p 0 == 10) = false := by unfold isNl at hn; exact (Bool.or_eq_false_iff.1 hn).2
        have q1' : (l.getD p 0 != 13) = true := by simp only [bne, q1]; rfl
        have q2' : (l.getD p 0 != 10) = true := by simp only [bne, q2]; rfl
        have HI2 : Hid (RwI w l st (p + 1) pre _ wr) := hide ⟨(unhide HI).e, fun j h1 h2 => by
          rcases Nat.lt_or_ge j p with h | h
          · exact (unhide HI).n j h1 h
          · obtain rfl : j = p := by omega
            exact hn, (unhide HI).o⟩
        clear hn
        generalize l.getD p 0 = x at *
        go_wp2_with fail
        go_roundw
        case rel => exact ⟨st, p + 1, pre, by omega, by omega, rfl, by go_num, ⟨_, rfl⟩, HI2, hb⟩
        case measure => simp [intOf]; omega
      | true =>
        have hc : ctn l st = p := ctn_isR hsp hlt hn (unhide HI).n
        have HE : Hid (LN l = (pre ++ [(pre.length, st, p, nxt l p)]) ++ lnR l (pre ++ [(pre.length, st, p, nxt l p)]).length (nxt l p)) := hide (by
          have h1 := lnR_cons (l := l) (k := pre.length) (s := st) (by omega)
          rw [hc] at h1
          rw [(unhide HI).e, h1]
          simp)
        have hnl := nxt_len hlt
        have hng := nxt_gt l p
        have hpl : pre.length ≤ l.length := by have := congrArg List.length (unhide HE); rw [List.length_append, List.length_append] at this; simp at this; omega
        have hwn : ∀ n : Nat, n ≤ l.length → 1 ≤ n → wrap64 ((n : Int) - 1) = ((n - 1 : Nat) : Int) := fun n h1 h2 => by rw [wrap_in _ (by omega) (by omega)]; omega
        have hv := nl_val hn
        have ho := (unhide HI).o
        clear hc hn HI
        have K : ∀ n : Nat, nxt l p = n → ∃ g2 c2 w3, Hid ((Builtin.append_ #[24, 24] 24 #[u3, .slice (some ⟨wr.heap.size, 0, none⟩) 1 1]).run Tryd.prog (wr.alloc (.cells #[.int .i64 (st : Int), .int .i64 (p : Int), .int .i64 (n : Int)] 34)) = .ok (.slice (some ⟨g2, 0, none⟩) (pre.length + 1) c2) w3) ∧
            Hid (RwI w l n n (pre ++ [(pre.length, st, p, n)]) (.slice (some ⟨g2, 0, none⟩) (pre.length + 1) c2) w3) ∧ Below w.heap.size w w3 := fun n hn => by
          obtain ⟨g2, c2, w3, r3, o3, y3⟩ := push_row wr w.heap.size _ _ _ (st : Int) (p : Int) (n : Int) 24 ho (by omega) hb.size
          refine ⟨g2, c2, w3, hide r3, hide ⟨by rw [← hn]; exact unhide HE, fun j h1 h2 => by omega, ?_⟩, hb.trans y3⟩
          rw [rowsV_snoc, List.length_append, List.length_singleton]
          exact o3
        by_cases h13 : l.getD p 0 = 13 ∧ p + 1 < l.length ∧ l.getD (p + 1) 0 = 10
        · obtain ⟨e1, e2, e3⟩ := h13
          have hnx : nxt l p = p + 2 := by unfold nxt edw; rw [getD_drop', getD_drop', Nat.add_zero, if_pos ⟨e1, e3⟩]
          obtain ⟨g2, c2, w3, R3, HI3, hb3⟩ := K (p + 2) hnx
          have cy := hBx.byteAt (i := p + 1) e2
          have t2 : decide ((p : Int) + 1 < (l.length : Int)) = true := decide_eq_true (by omega)
          rw [e1] at cx
          rw [e3] at cy
          have hw2 : wrap64 ((p : Int) + 1 + 1) = ((p + 2 : Nat) : Int) := by rw [wrap_in _ (by omega) (by omega)]; omega
          have hw3 := hwn (p + 2) (by omega) (by omega)
          have hw4 : wrap64 (((p + 2 - 1 : Nat) : Int) + 1) = ((p + 2 : Nat) : Int) := by rw [wrap_in _ (by omega) (by omega)]; omega
          clear K HE hnx e1 e3 hv ho hnl hng hwn
          go_wp2_with (at_builtin; refine wpList_append_known rfl _ _ 24 24 rfl _ _ rfl rfl _ _ (unhide R3) ?_)
          go_roundw
          case rel => exact ⟨p + 2, p + 2, _, Nat.le_refl _, by omega, by go_num, by go_num, ⟨_, rfl⟩, HI3, hb3⟩
          case measure => simp [intOf]; omega
        · have hnx : nxt l p = p + 1 := by
            unfold nxt edw
            rw [getD_drop', getD_drop', Nat.add_zero, if_neg (fun ⟨e1, e3⟩ => h13 ⟨e1, by
              rcases Nat.lt_or_ge (p + 1) l.length with h | h
              · exact h
              · rw [List.getD_eq_getElem?_getD, List.getElem?_eq_none h] at e3; simp at e3, e3⟩)]
          obtain ⟨g2, c2, w3, R3, HI3, hb3⟩ := K (p + 1) hnx
          have hw3 := hwn (p + 1) (by omega) (by omega)
          have hw4 : wrap64 (((p + 1 - 1 : Nat) : Int) + 1) = ((p + 1 : Nat) : Int) := by rw [wrap_in _ (by omega) (by omega)]; omega
          clear K HE hnx ho hnl hng hwn
          rcases hv with e1 | e1
          · rw [e1] at cx
            by_cases e2 : p + 1 < l.length
            · have cy := hBx.byteAt (i := p + 1) e2
              have t2 : decide ((p : Int) + 1 < (l.length : Int)) = true := decide_eq_true (by omega)
              have q2 : (l.getD (p + 1) 0 == 10) = false := by simpa using fun h => h13 ⟨e1, e2, h⟩
              clear h13 e1
              generalize l.getD (p + 1) 0 = y at *
              go_wp2_with (at_builtin; refine wpList_append_known rfl _ _ 24 24 rfl _ _ rfl rfl _ _ (unhide R3) ?_)
              go_roundw
              case rel => exact ⟨p + 1, p + 1, _, Nat.le_refl _, by omega, by go_num, by go_num, ⟨_, rfl⟩, HI3, hb3⟩
              case measure => simp [intOf]; omega
            · have t2 : decide ((p : Int) + 1 < (l.length : Int)) = false := decide_eq_false (by omega)
              clear h13 e1
              go_wp2_with (at_builtin; refine wpList_append_known rfl _ _ 24 24 rfl _ _ rfl rfl _ _ (unhide R3) ?_)
              go_roundw
              case rel => exact ⟨p + 1, p + 1, _, Nat.le_refl _, by omega, by go_num, by go_num, ⟨_, rfl⟩, HI3, hb3⟩
              case measure => simp [intOf]; omega
          · rw [e1] at cx
            clear h13 e1
            go_wp2_with (at_builtin; refine wpList_append_known rfl _ _ 24 24 rfl _ _ rfl rfl _ _ (unhide R3) ?_)
            go_roundw
            case rel => exact ⟨p + 1, p + 1, _, Nat.le_refl _, by omega, by go_num, by go_num, ⟨_, rfl⟩, HI3, hb3⟩
            case measure => simp [intOf]; omega
    · obtain rfl : p = l.length := by omega
      have t1 := ge_int hlt
      have hce := ctn_endR (unhide HI).n
      have hE := (unhide HI).e
      rw [lnR_last hce] at hE
      have hpl : pre.length ≤ l.length := by rw [hE, List.length_append] at HN; simp at HN; omega
      obtain ⟨g2, c2, w3, r3, o3, y3⟩ := push_row wr w.heap.size _ _ _ (st : Int) (l.length : Int) (l.length : Int) 24 (unhide HI).o (by omega) hb.size
      have R3 := hide r3
      have HO : Hid (w3.ownsRow w.heap.size 34 3 (.slice (some ⟨g2, 0, none⟩) (pre.length + 1) c2) (LN l).length (rowsV (LN l))) := hide (by
        rw [hE, rowsV_snoc, List.length_append, List.length_singleton]
        exact o3)
      have hb3 := hb.trans y3
      clear r3 o3 y3 hE hce HI
      go_wp2_with (at_builtin; refine wpList_append_known rfl _ _ 24 24 rfl _ _ rfl rfl _ _ (unhide R3) ?_)
      go_ret
      exact ⟨_, rfl, unhide HO, hb3⟩

end Go.Proofs.YtbnfpcfoeojceaaDoor
end

section
namespace Go.Proofs.YtbnfpcfoeojceaaDoor
open Go.ChangeShapes Go.WideShapes Go.ChangeAt Go.RowKit

/-- what stays while the law goes on -/
structure Lw (w : World) (a0 : Option Addr) (cap : Nat) (l : List Int) (ks : List (Nat × TypeId × Array Value)) (X : World) : Prop where
  b : IsB X a0 cap l
  t : Tab X
  d : Below w.heap.size w X
  k : ∀ y ∈ ks, Cls X y.1 y.2.1 y.2.2
theorem Lw.on {w : World} {a0 : Option Addr} {cap : Nat} {l : List Int} {ks : List (Nat × TypeId × Array Value)} {X Y : World} (h : Lw w a0 cap l ks X) (hb : Below X.heap.size X Y) : Lw w a0 cap l ks Y :=
  ⟨h.b.below hb (Nat.le_refl _), h.t.below hb h.t.size, h.d.trans (hb.mono h.d.size), fun y hy => (h.k y hy).below hb (h.k y hy).lt⟩
theorem drew_belowL (w : World) : Below w.heap.size w w.drew := (ch_drew (N := w.heap.size) (n := 0) w).1
theorem Lw.drew {w : World} {a0 : Option Addr} {cap : Nat} {l : List Int} {ks : List (Nat × TypeId × Array Value)} {X : World} (h : Lw w a0 cap l ks X) : Lw w a0 cap l ks X.drew := h.on (drew_belowL X)
theorem Lw.one {w : World} {a0 : Option Addr} {cap : Nat} {l : List Int} {k : Nat × TypeId × Array Value} {ks : List (Nat × TypeId × Array Value)} {X : World} (h : Lw w a0 cap l (k :: ks) X) : Cls X k.1 k.2.1 k.2.2 := h.k k (List.mem_cons_self ..)
theorem Lw.two {w : World} {a0 : Option Addr} {cap : Nat} {l : List Int} {k j : Nat × TypeId × Array Value} {ks : List (Nat × TypeId × Array Value)} {X : World} (h : Lw w a0 cap l (k :: j :: ks) X) : Cls X j.1 j.2.1 j.2.2 := h.k j (List.mem_cons_of_mem _ (List.mem_cons_self ..))
/-- one more block -/
theorem Lw.new {w : World} {a0 : Option Addr} {cap : Nat} {l : List Int} {ks : List (Nat × TypeId × Array Value)} {X : World} (h : Lw w a0 cap l ks X) (t : TypeId) (cs : Array Value) : Lw w a0 cap l ((X.heap.size, t, cs) :: ks) (X.alloc (.cells cs t)) := by
  have hb := (Below.refl X.heap.size X).alloc (Nat.le_refl _) (.cells cs t)
  have h' := h.on hb
  refine ⟨h'.b, h'.t, h'.d, fun y hy => ?_⟩
  rcases List.mem_cons.1 hy with rfl | hy
  · exact Cls.new X t cs
  · exact h'.k y hy
theorem wh_pl {l : List Int} {k : Int} {p : Nat} (h : PlK l k p) : ∃ x1 x2 x4 x5 x6 : Int, whV l (p : Int) = .tuple #[.agg #[.int .i64 (p : Int), .int .i64 x1, .int .i64 x2, .int .i64 k, .int .i64 x4, .int .i64 x5, .int .i64 x6], .int .i64 0] := by
  have h1 := h.le
  have e : whV l (p : Int) = .tuple #[.agg (whC l p), .int .i64 0] := by
    unfold whV
    rw [if_neg (by omega), Int.toNat_natCast, h.fl]
  rw [e]
  unfold whC
  rw [h.ln]
  exact ⟨_, _, _, _, _, rfl⟩

end Go.Proofs.YtbnfpcfoeojceaaDoor
end

section
namespace Go.Proofs.YtbnfpcfoeojceaaDoor
open Go.ChangeShapes Go.WideShapes Go.ChangeAt Go.RowKit

def wR (l : List Int) (p : Nat) : Nat := szE 2 (l.take (flr l p))
def wU (l : List Int) (p : Nat) : Nat := szE 3 (l.take (flr l p))
def wL (l : List Int) (p : Nat) : Nat := (lnOf l (flr l p)).1
def wB (l : List Int) (p : Nat) : Nat := flr l p - (lnOf l (flr l p)).2.1
def wCR (l : List Int) (p : Nat) : Nat := szE 2 (cutL l (lnOf l (flr l p)).2.1 (flr l p))
def wCU (l : List Int) (p : Nat) : Nat := szE 3 (cutL l (lnOf l (flr l p)).2.1 (flr l p))
def whA (q r u k b cr cu : Nat) : Value := .tuple #[.agg #[.int .i64 (q : Int), .int .i64 (r : Int), .int .i64 (u : Int), .int .i64 (k : Int), .int .i64 (b : Int), .int .i64 (cr : Int), .int .i64 (cu : Int)], .int .i64 0]
theorem whV_in {l : List Int} {p : Nat} (hp : p ≤ l.length) : whV l (p : Int) = whA (flr l p) (wR l p) (wU l p) (wL l p) (wB l p) (wCR l p) (wCU l p) := by
  unfold whV
  rw [if_neg (by omega), Int.toNat_natCast]
  rfl
theorem flr_lastL {l : List Int} {p q : Nat} (h1 : flr l p ≤ q) (h2 : q ≤ p) (h : inside l q = false) : q = flr l p := by
  cases hi : inside l p with
  | false => rw [flr_eq hi] at h1 ⊢; omega
  | true =>
    obtain ⟨a, b⟩ := flr_over hi
    rcases Nat.eq_or_lt_of_le h1 with e | e
    · exact e.symm
    · have := (inside_iff l q).2 ⟨flr l p, e, by omega⟩
      rw [h] at this; cases this
theorem flr_is {l : List Int} {p q : Nat} (h2 : q ≤ p) (h : inside l q = false) (h3 : ∀ j, q < j → j ≤ p → inside l j = true) : flr l p = q := by
  have h1 := flr_edge l p
  have h4 := flr_le l p
  rcases Nat.lt_trichotomy (flr l p) q with e | e | e
  · exact (flr_lastL (Nat.le_of_lt e) h2 h).symm
  · exact e
  · have := h3 _ e h4
    rw [h1] at this; cases this
theorem flr_succ (l : List Int) (p : Nat) : (inside l (p + 1) = true ∧ flr l (p + 1) = flr l p) ∨ (inside l (p + 1) = false ∧ flr l (p + 1) = p + 1) := by
  cases hi : inside l (p + 1) with
  | false => exact Or.inr ⟨rfl, flr_eq hi⟩
  | true =>
    refine Or.inl ⟨rfl, ?_⟩
    have h1 := flr_edge l (p + 1)
    have h2 := flr_le l (p + 1)
    have h3 : flr l (p + 1) ≠ p + 1 := fun h => by rw [h, hi] at h1; cases h1
    have h4 := flr_edge l p
    have h5 := flr_le l p
    rcases Nat.lt_trichotomy (flr l (p + 1)) (flr l p) with e | e | e
    · exact absurd (flr_lastL (Nat.le_of_lt e) (by omega) h4).symm (by omega)
    · exact e
    · exact flr_lastL (Nat.le_of_lt e) (by omega) h1
/-- the line of an edge, and its beginning -/
theorem col_at {l : List Int} (hl : ∀ x ∈ l, 0 ≤ x ∧ x ≤ 255) {p : Nat} (hp : p ≤ l.length) : ∃ st rs us : Nat, flr l p ≤ p ∧ wL l p < (LN l).length ∧ ((LN l).getD (wL l p) z4).2.1 = st ∧ st ≤ l.length ∧
    whV l (st : Int) = whA st rs us (wL l p) 0 0 0 ∧ flr l p = st + wB l p ∧ wR l p = rs + wCR l p ∧ wU l p = us + wCU l p := by
  have hq := flr_le l p
  have he := flr_edge l p
  obtain ⟨i, hi⟩ := ho_of (l := l) (p := flr l p) (by omega)
  obtain ⟨k1, _, k3⟩ := LN_at l hi.lt
  have hlo := hi.lo
  have hk : wL l p = i := by unfold wL; rw [hi.eq, k1]
  have hst : (lnOf l (flr l p)).2.1 = ((LN l).getD i z4).2.1 := by rw [hi.eq]
  have hs := k3.es
  have hsl : ((LN l).getD i z4).2.1 ≤ l.length := by omega
  obtain ⟨e1, e2, e3, _⟩ := lst_edge hi.lt
  have hof := (lnOf_is hi.lt (Nat.le_refl _) e2)
  have hfs := flr_eq hs
  have c1 := sz_cut hl ru2 hs he (by omega) (by omega)
  have c2 := sz_cut hl ru3 hs he (by omega) (by omega)
  refine ⟨((LN l).getD i z4).2.1, szE 2 (l.take ((LN l).getD i z4).2.1), szE 3 (l.take ((LN l).getD i z4).2.1), hq, by rw [hk]; exact hi.lt, by rw [hk], hsl, ?_, ?_, ?_, ?_⟩
  · rw [whV_in hsl]
    have z : cutL l ((LN l).getD i z4).2.1 ((LN l).getD i z4).2.1 = [] := by unfold cutL; exact List.drop_eq_nil_of_le (by rw [List.length_take]; omega)
    unfold wR wU wB wCR wCU
    rw [hk]
    unfold wL
    rw [hfs, hof.2, hof.1, z, sz_nil, sz_nil, Nat.sub_self]
  · unfold wB; rw [hst]; omega
  · unfold wR wCR cutL; rw [hst, c1]
  · unfold wU wCU cutL; rw [hst, c2]
theorem ln_mono {l : List Int} {p q : Nat} (h : p ≤ q) (hq : q ≤ l.length) : (lnOf l p).1 ≤ (lnOf l q).1 := by
  obtain ⟨i, hi⟩ := ho_of (l := l) (p := p) (by omega)
  obtain ⟨j, hj⟩ := ho_of hq
  rw [hi.eq, hj.eq, (LN_at l hi.lt).1, (LN_at l hj.lt).1]
  rcases Nat.lt_or_ge j i with h1 | h1
  · exfalso
    have a := hj.up (by have := hi.lt; omega)
    have b := lst_mono (l := l) (i := j + 1) (j := i) (by omega) hi.lt
    have c := hi.lo
    rw [hi.eq] at c
    omega
  · exact h1
theorem ee_runes {l : List Int} (hl : ∀ x ∈ l, 0 ≤ x ∧ x ≤ 255) {i : Nat} (h : i < (EE l).length) : byE 2 ((EE l).getD i e0) = i := by
  rw [EE_len] at h
  unfold EE
  rw [edL_getD _ _ _ (by omega)]
  have := (st_at hl (List.take_prefix i (spots l 0))).2.2.1
  rw [List.length_take, Nat.min_eq_left (by omega)] at this
  exact this
theorem sizes_next {l : List Int} (hl : ∀ x ∈ l, 0 ≤ x ∧ x ≤ 255) {p : Nat} (hp : p + 1 ≤ l.length) (he : inside l (p + 1) = false) : szE 2 (l.take (p + 1)) = szE 2 (l.take (flr l p)) + 1 ∧ szE 3 (l.take (flr l p)) < szE 3 (l.take (p + 1)) := by
  have hq := flr_le l p
  obtain ⟨i, hi, hie⟩ := edge_ix hl (p := flr l p) (by omega) (flr_edge l p)
  obtain ⟨j, hj, hje⟩ := edge_ix hl hp he
  have h1 := inc_EE hl 1
  have h3 := inc_EE hl 3
  have b1 : ∀ e : Ed, byE 1 e = e.1 := fun e => rfl
  have hij : i < j := by
    rcases Nat.lt_or_ge i j with q | q
    · exact q
    · have := h1.le q hi; rw [b1, b1] at this; omega
  have hj1 : j = i + 1 := by
    rcases Nat.lt_or_ge (i + 1) j with q | q
    · exfalso
      have g1 := h1.2.2 i (i + 1) (by omega) (by omega)
      have g2 := h1.2.2 (i + 1) j q hj
      rw [b1, b1] at g1 g2
      have := flr_lastL (l := l) (p := p) (q := ((EE l).getD (i + 1) e0).1) (by omega) (by omega) (EE_inside hl (by omega))
      omega
    · omega
  subst hj1
  have a2 := sz_take hl ru2 hi
  have a3 := sz_take hl ru3 hi
  have c2 := sz_take hl ru2 hj
  have c3 := sz_take hl ru3 hj
  rw [hie] at a2 a3
  rw [hje] at c2 c3
  rw [a2, c2, a3, c3, ee_runes hl hi, ee_runes hl hj]
  exact ⟨rfl, h3.2.2 i (i + 1) (by omega) hj⟩
theorem col_next {l : List Int} (hl : ∀ x ∈ l, 0 ≤ x ∧ x ≤ 255) {p : Nat} (hp : p + 1 ≤ l.length) : (flr l (p + 1) = flr l p ∧ wR l (p + 1) = wR l p ∧ wU l (p + 1) = wU l p ∧ wL l (p + 1) = wL l p) ∨
    (flr l p < flr l (p + 1) ∧ wR l (p + 1) = wR l p + 1 ∧ wU l p < wU l (p + 1) ∧ wL l p ≤ wL l (p + 1) ∧ (wL l (p + 1) = wL l p → wCR l (p + 1) = wCR l p + 1 ∧ wCU l p < wCU l (p + 1))) := by
  have hq := flr_le l p
  rcases flr_succ l p with ⟨_, h⟩ | ⟨h1, h⟩
  · refine Or.inl ⟨h, ?_, ?_, ?_⟩
    · unfold wR; rw [h]
    · unfold wU; rw [h]
    · unfold wL; rw [h]
  · obtain ⟨n1, n2⟩ := sizes_next hl hp h1
    have r1 : wR l (p + 1) = wR l p + 1 := by unfold wR; rw [h]; exact n1
    have r2 : wU l p < wU l (p + 1) := by unfold wU; rw [h]; exact n2
    refine Or.inr ⟨by omega, r1, r2, by unfold wL; exact ln_mono (by omega) (by omega), fun hk => ?_⟩
    obtain ⟨st, rs, us, a1, a2, a3, a4, a5, a6, a7, a8⟩ := col_at hl (p := p) (by omega)
    obtain ⟨st', rs', us', b1, b2, b3, b4, b5, b6, b7, b8⟩ := col_at hl hp
    have hst : st' = st := by rw [← b3, ← a3, hk]
    subst hst
    rw [a5, hk] at b5
    unfold whA at b5
    simp only [Value.tuple.injEq, Array.mk.injEq, List.cons.injEq, Value.agg.injEq, Value.int.injEq, true_and, and_true] at b5
    omega
theorem col_last (l : List Int) : flr l l.length = l.length ∧ wL l l.length + 1 = (LN l).length := by
  have h := flr_eq (edge_len l)
  refine ⟨h, ?_⟩
  obtain ⟨i, hi⟩ := ho_of (l := l) (p := l.length) (Nat.le_refl _)
  unfold wL
  rw [h, hi.eq, (LN_at l hi.lt).1]
  have hl := hi.lt
  rcases Nat.lt_or_ge (i + 1) (LN l).length with q | q
  · have a := hi.up q
    obtain ⟨_, _, k⟩ := LN_at l q
    have := k.sc
    have := k.cn
    have := k.nl
    omega
  · omega

/-- where the lines begin -/
def sts (l : List Int) : List Nat := (LN l).map fun e => e.2.1
theorem sts_len (l : List Int) : (sts l).length = (LN l).length := by simp [sts]
theorem sts_vals (l : List Int) : stsV (LN l) = (sts l).map fun (n : Nat) => Value.int .i64 (n : Int) := by simp [sts, stsV]
theorem sts_get {l : List Int} {k : Nat} (h : k < (LN l).length) : (sts l).getD k 0 = ((LN l).getD k z4).2.1 := by
  unfold sts
  rw [List.getD_eq_getElem?_getD, List.getElem?_map, List.getD_eq_getElem?_getD, List.getElem?_eq_getElem h]
  rfl
structure LcS (w : World) (a0 : Option Addr) (cap : Nat) (l : List Int) (gT : Nat) (ks : List (Nat × TypeId × Array Value)) (X : World) : Prop where
  L : Lw w a0 cap l ks X
  t : LiesI X gT (sts l)
  z : gT < X.heap.size
theorem LcS.on {w : World} {a0 : Option Addr} {cap : Nat} {l : List Int} {gT : Nat} {ks : List (Nat × TypeId × Array Value)} {X Y : World} (h : LcS w a0 cap l gT ks X) (hb : Below X.heap.size X Y) : LcS w a0 cap l gT ks Y :=
  ⟨h.L.on hb, h.t.below hb h.z, Nat.lt_of_lt_of_le h.z hb.size⟩
theorem LcS.new {w : World} {a0 : Option Addr} {cap : Nat} {l : List Int} {gT : Nat} {ks : List (Nat × TypeId × Array Value)} {X : World} (h : LcS w a0 cap l gT ks X) (t : TypeId) (cs : Array Value) : LcS w a0 cap l gT ((X.heap.size, t, cs) :: ks) (X.alloc (.cells cs t)) :=
  have hb := (Below.refl X.heap.size X).alloc (Nat.le_refl _) (.cells cs t)
  ⟨h.L.new t cs, h.t.below hb h.z, Nat.lt_of_lt_of_le h.z hb.size⟩
def w7 (q r u k b cr cu : Nat) : Array Value := #[.int .i64 (q : Int), .int .i64 (r : Int), .int .i64 (u : Int), .int .i64 (k : Int), .int .i64 (b : Int), .int .i64 (cr : Int), .int .i64 (cu : Int)]
theorem cells7w {Y : World} {N : Nat} {t : TypeId} {x0 x1 x2 x3 x4 x5 x6 : Value} (h : Cls Y N t #[x0, x1, x2, x3, x4, x5, x6]) :
    Y.cell? ⟨N, 0, none⟩ = some x0 ∧ Y.cell? ⟨N, 1, none⟩ = some x1 ∧ Y.cell? ⟨N, 2, none⟩ = some x2 ∧ Y.cell? ⟨N, 3, none⟩ = some x3 ∧ Y.cell? ⟨N, 4, none⟩ = some x4 ∧ Y.cell? ⟨N, 5, none⟩ = some x5 ∧ Y.cell? ⟨N, 6, none⟩ = some x6 :=
  ⟨(h.cell 0).trans rfl, (h.cell 1).trans rfl, (h.cell 2).trans rfl, (h.cell 3).trans rfl, (h.cell 4).trans rfl, (h.cell 5).trans rfl, (h.cell 6).trans rfl⟩
theorem sets7w {N : Nat} (Y : World) (t : TypeId) (x0 x1 x2 x3 x4 x5 x6 : Value) {y0 y1 y2 y3 y4 y5 y6 : Value} (h : Cls Y N t #[y0, y1, y2, y3, y4, y5, y6]) :
    Cls (((((((Y.setCell ⟨N, 0, none⟩ x0).setCell ⟨N, 1, none⟩ x1).setCell ⟨N, 2, none⟩ x2).setCell ⟨N, 3, none⟩ x3).setCell ⟨N, 4, none⟩ x4).setCell ⟨N, 5, none⟩ x5).setCell ⟨N, 6, none⟩ x6) N t #[x0, x1, x2, x3, x4, x5, x6] ∧
    Below N Y (((((((Y.setCell ⟨N, 0, none⟩ x0).setCell ⟨N, 1, none⟩ x1).setCell ⟨N, 2, none⟩ x2).setCell ⟨N, 3, none⟩ x3).setCell ⟨N, 4, none⟩ x4).setCell ⟨N, 5, none⟩ x5).setCell ⟨N, 6, none⟩ x6) := by
  have h1 := ((((((h.set 0 x0).set 1 x1).set 2 x2).set 3 x3).set 4 x4).set 5 x5).set 6 x6
  simp only [List.setIfInBounds_toArray, List.set_cons_zero, List.set_cons_succ] at h1
  refine ⟨h1, ?_⟩
  exact ((((((setCell_below (N := N) Y ⟨N, 0, none⟩ x0 (Nat.le_refl _)).trans (setCell_below (N := N) _ ⟨N, 1, none⟩ x1 (Nat.le_refl _))).trans (setCell_below (N := N) _ ⟨N, 2, none⟩ x2 (Nat.le_refl _))).trans (setCell_below (N := N) _ ⟨N, 3, none⟩ x3 (Nat.le_refl _))).trans (setCell_below (N := N) _ ⟨N, 4, none⟩ x4 (Nat.le_refl _))).trans (setCell_below (N := N) _ ⟨N, 5, none⟩ x5 (Nat.le_refl _))).trans (setCell_below (N := N) _ ⟨N, 6, none⟩ x6 (Nat.le_refl _))
/-- the loop's state -/
structure LcI (w : World) (a0 : Option Addr) (cap : Nat) (l : List Int) (gT gL p q r u k b cr cu : Nat) (X : World) : Prop where
  s : LcS w a0 cap l gT [(gL, 39, w7 q r u k b cr cu)] X
  z : w.heap.size ≤ gL
  g : gT < gL
  v : p = 0 ∨ (q = flr l (p - 1) ∧ r = wR l (p - 1) ∧ u = wU l (p - 1) ∧ k = wL l (p - 1) ∧ cr = wCR l (p - 1) ∧ cu = wCU l (p - 1))
theorem lc_set {w : World} {a0 : Option Addr} {cap : Nat} {l : List Int} {gT gL : Nat} {ks : List (Nat × TypeId × Array Value)} {X Z : World} {t : TypeId} {cs : Array Value} (hB : IsB w a0 cap l) (hT : Tab w) (h : LcS w a0 cap l gT ks X) (n1 : Cls Z gL t cs) (n2 : Below gL X Z) (zL : w.heap.size ≤ gL) (g : gT < gL) :
    LcS w a0 cap l gT [(gL, t, cs)] Z := by
  have hd := h.L.d.trans (n2.mono zL)
  refine ⟨⟨hB.below hd (Nat.le_refl _), hT.below hd hT.size, hd, fun y hy => ?_⟩, h.t.below n2 g, Nat.lt_trans g n1.lt⟩
  obtain rfl := List.mem_singleton.1 hy
  exact n1
theorem sz_le {l : List Int} (hl : ∀ x ∈ l, 0 ≤ x ∧ x ≤ 255) : szE 2 l ≤ l.length ∧ szE 3 l ≤ 2 * l.length := by
  obtain ⟨_, _, a3, a4, a5⟩ := st_at hl (List.prefix_refl (spots l 0))
  unfold szE
  rw [if_pos ru2, if_pos ru3]
  have b2 : byE 2 (stE l (spots l 0)) = (stE l (spots l 0)).2.1 := rfl
  have b3 : byE 3 (stE l (spots l 0)) = (stE l (spots l 0)).2.2 := rfl
  omega
theorem col_le {l : List Int} (hl : ∀ x ∈ l, 0 ≤ x ∧ x ≤ 255) {p : Nat} (_hp : p ≤ l.length) : wR l p ≤ 2 * l.length ∧ wU l p ≤ 2 * l.length ∧ wCR l p ≤ 2 * l.length ∧ wCU l p ≤ 2 * l.length := by
  have h1 := sz_le (l := l.take (flr l p)) (fun x hx => hl x (List.mem_of_mem_take hx))
  have h2 := sz_le (l := cutL l (lnOf l (flr l p)).2.1 (flr l p)) (fun x hx => hl x (List.mem_of_mem_take (List.mem_of_mem_drop hx)))
  have e2 : (cutL l (lnOf l (flr l p)).2.1 (flr l p)).length ≤ l.length := by unfold cutL; rw [List.length_drop, List.length_take]; omega
  rw [List.length_take] at h1
  unfold wR wU wCR wCU
  omega

end Go.Proofs.YtbnfpcfoeojceaaDoor
end

section
namespace Go.Proofs.YtbnfpcfoeojceaaDoor
open Go.ChangeShapes Go.WideShapes Go.ChangeAt Go.RowKit
attribute [local go_sem] Oper.semAt_some

def LiesR (W : World) (g : Nat) (E : List Ln) : Prop := ∀ k, k < E.length → W.cell? ⟨g, k * 3, none⟩ = some (.int .i64 ((E.getD k z4).2.1 : Int)) ∧ W.cell? ⟨g, k * 3 + 1, none⟩ = some (.int .i64 ((E.getD k z4).2.2.1 : Int)) ∧ W.cell? ⟨g, k * 3 + 2, none⟩ = some (.int .i64 ((E.getD k z4).2.2.2 : Int))
theorem LiesR.below {w w' : World} {B g : Nat} {E : List Ln} (h : LiesR w g E) (hb : Below B w w') (hg : g < B) : LiesR w' g E := fun k hk =>
  ⟨(hb.cell (p := ⟨g, _, none⟩) hg).trans (h k hk).1, (hb.cell (p := ⟨g, _, none⟩) hg).trans (h k hk).2.1, (hb.cell (p := ⟨g, _, none⟩) hg).trans (h k hk).2.2⟩
theorem rowR {W : World} {B : Nat} {v : Value} {E : List Ln} (h : W.ownsRow B 34 3 v E.length (rowsV E)) (h0 : 0 < E.length) : ∃ g c, v = .slice (some ⟨g, 0, none⟩) E.length c ∧ LiesR W g E ∧ g < W.heap.size := by
  have hc := h
  rcases h.2 with ⟨rfl, hz⟩ | ⟨g, cap, cur, rfl, _, hg, hle, _⟩
  · omega
  · refine ⟨g, cap, rfl, fun k hk => ?_, heap_lt hg⟩
    obtain ⟨r0, r1, r2⟩ := rowsV_get E hk
    have c0 := World.ownsRow.cells hc rfl _ _ r0
    have c1 := World.ownsRow.cells hc rfl _ _ r1
    have c2 := World.ownsRow.cells hc rfl _ _ r2
    rw [Addr.add_lit, Nat.zero_add] at c0 c1 c2
    exact ⟨c0, c1, c2⟩
theorem ln_bound {l : List Int} {i : Nat} (h : i < (LN l).length) : ((LN l).getD i z4).2.1 ≤ l.length ∧ ((LN l).getD i z4).2.2.1 ≤ l.length ∧ ((LN l).getD i z4).2.2.2 ≤ l.length := by
  obtain ⟨_, _, k⟩ := LN_at l h
  have := k.sc
  have := k.cn
  have := k.nl
  omega
structure LrS (w : World) (a0 : Option Addr) (cap : Nat) (l : List Int) (gT gR : Nat) (X : World) : Prop where
  s : LcS w a0 cap l gT [] X
  r : LiesR X gR (LN l)
  z : gR < X.heap.size
theorem LrS.on {w : World} {a0 : Option Addr} {cap : Nat} {l : List Int} {gT gR : Nat} {X Y : World} (h : LrS w a0 cap l gT gR X) (hb : Below X.heap.size X Y) : LrS w a0 cap l gT gR Y :=
  ⟨h.s.on hb, h.r.below hb h.z, Nat.lt_of_lt_of_le h.z hb.size⟩

set_option maxRecDepth 100000 in
set_option maxHeartbeats 8000000 in
theorem LinesRows_any (a0 : Option Addr) (cap : Nat) (l : List Int) (kk : Int) (w : World) (hB : IsB w a0 cap l) (hcap : cap ≤ 1048576) (_hk : (Lit.int .i64 kk).wf = true) (hT : Tab w) :
    Calls Tryd.prog 3 #[.slice a0 l.length cap, .int .i64 kk] w fun e w' => e = .returned (.bool true) ∧ Below w.heap.size w w' := by
  clear _hk
  have hl := hB.1
  have L0 : Lw w a0 cap l [] w := ⟨hB, hT, Below.refl _ _, fun y hy => by cases hy⟩
  clear hB hT
  have hN1 := LN_pos l
  have hN2 := LN_len l
  have h1 := awake7_any w L0.t
  go_enter Tryd.func3, Tryd.ntmps3
  go_wp2_with fail
  refine h1.mono ?_
  rintro e y1 ⟨rfl, x1⟩
  have L1 := L0.on x1
  clear h1 x1 L0
  go_wp2_with fail
  refine (Rows_at a0 cap l y1 L1.b (by omega)).mono ?_
  rintro e y2 ⟨v, rfl, o2, x2⟩
  have L2 := L1.on x2
  obtain ⟨gR, cR, rfl, lR, zR⟩ := rowR o2 hN1
  clear x2 L1 o2
  go_wp2_with fail
  refine (own7_at a0 cap l y2 L2.b).mono ?_
  rintro e y3 ⟨a3, c3, rfl, j3, x3⟩
  have L3 := L2.on x3
  have lR3 := lR.below x3 zR
  have zR3 := Nat.lt_of_lt_of_le zR x3.size
  clear x3 L2 lR zR
  go_wp2_with fail
  refine (Starts_at a3 c3 l y3 j3 (by omega)).mono ?_
  rintro e y4 ⟨v, rfl, o4, x4⟩
  have L4 := L3.on x4
  have lR4 := lR3.below x4 zR3
  have zR4 := Nat.lt_of_lt_of_le zR3 x4.size
  rw [sts_vals, ← sts_len] at o4
  obtain ⟨gT, cT, rfl, lT, zT⟩ := rowI (ps := sts l) o4 (by intro h; have := sts_len l; rw [h] at this; simp at this; omega)
  rw [sts_len]
  have HS : LrS w a0 cap l gT gR y4 := ⟨⟨L4, lT, zT⟩, lR4, zR4⟩
  clear x4 L3 o4 j3 L4 lT zT lR3 zR3 lR4 zR4
  go_wp2_with fail
  refine (own7_at a0 cap l y4 HS.s.L.b).mono ?_
  rintro e y5 ⟨a5, c5, rfl, j5, x5⟩
  have HS5 := HS.on x5
  clear x5 HS
  go_wp2_with fail
  refine (Count_at a5 c5 l y5 j5).mono ?_
  rintro e y6 ⟨rfl, x6⟩
  have HS6 := HS5.on x6
  clear x6 HS5 j5
  go_wp2_with fail
  generalize hNN : (LN l).length = N at *
  have HNN := hide hNN
  clear hNN
  go_loopw [7, 8, 9, 10, 11] (fun v v8 v9 v10 v11 wx => ∃ k : Nat, v = .int .i64 (k : Int) ∧ k ≤ N ∧ (∃ z, v8 = z) ∧ (∃ z, v9 = z) ∧ (∃ z, v10 = z) ∧ (∃ z, v11 = z) ∧ Hid (LrS w a0 cap l gT gR wx)) (fun v _ _ _ _ _ => N - (intOf v).toNat)
  case atStart => exact ⟨0, rfl, Nat.zero_le _, ⟨_, rfl⟩, ⟨_, rfl⟩, ⟨_, rfl⟩, ⟨_, rfl⟩, hide HS6⟩
  case round =>
    clear HS6
    obtain ⟨k, rfl, hk, ⟨z8, rfl⟩, ⟨z9, rfl⟩, ⟨z10, rfl⟩, ⟨z11, rfl⟩, HI⟩ := hrel
    have HS := unhide HI
    clear HI
    by_cases hlt : k < N ∧ k < 300
    · have t1 := lt_int hlt.1
      have t2 : decide ((k : Int) < 300) = true := decide_eq_true (by omega)
      have hLk : k < (LN l).length := by rw [unhide HNN]; exact hlt.1
      have hkN := hlt.1
      have hnb : nbr l (k : Int) = some ((LN l).getD k z4) := by unfold nbr; rw [if_pos ⟨by omega, by omega⟩]; simp
      have HLi := hide fun a c X j => Line_at a c l (k : Int) X j
      rw [hnb] at HLi
      unfold liV at HLi
      dsimp only at HLi
      have HST : Hid ((sts l).getD k 0 = ((LN l).getD k z4).2.1) := hide (sts_get hLk)
      have HC := hide fun (X : World) (h : LrS w a0 cap l gT gR X) => h.r k hLk
      clear hlt hnb
      generalize ((LN l).getD k z4).2.1 = st at *
      generalize ((LN l).getD k z4).2.2.1 = ct at *
      generalize ((LN l).getD k z4).2.2.2 = nx at *
      go_wp2_with fail
      refine (own7_at a0 cap l wr HS.s.L.b).mono ?_
      rintro e ya ⟨a4, c4, rfl, j4, x4⟩
      have HSa := HS.on x4
      clear HS x4
      go_wp2_with fail
      refine (unhide HLi a4 c4 ya j4).mono ?_
      rintro e yb ⟨rfl, x5⟩
      have HSb := HSa.on x5
      clear x5 HSa j4 HLi
      obtain ⟨e0', e1, e2⟩ := unhide HC _ HSb
      have cT' : yb.cell? ⟨gT, k, none⟩ = some (.int .i64 (st : Int)) := by have := HSb.s.t k (by rw [sts_len]; exact hLk); rw [unhide HST] at this; exact this
      have hwk : wrap64 ((k : Int) + 1) = (k : Int) + 1 := wrap_nat k 1 (by omega)
      clear hLk HC HST
      go_wp2_with fail
      go_roundw
      case rel => exact ⟨k + 1, by go_num, by omega, ⟨_, rfl⟩, ⟨_, rfl⟩, ⟨_, rfl⟩, ⟨_, rfl⟩, hide HSb⟩
      case measure => simp [intOf]; omega
    · have hor : (decide ((k : Int) < (N : Int)) = false ∧ k = N) ∨ (decide ((k : Int) < (N : Int)) = true ∧ decide ((k : Int) < 300) = false ∧ decide (k < 300) = false) := by
        by_cases h : k < N
        · exact Or.inr ⟨decide_eq_true (by omega), decide_eq_false (by omega), decide_eq_false (by omega)⟩
        · exact Or.inl ⟨decide_eq_false (by omega), by omega⟩
      clear hlt hk
      have hnk : nbr l kk = if 0 ≤ kk ∧ kk < (N : Int) then some ((LN l).getD kk.toNat z4) else none := by unfold nbr; rw [unhide HNN]
      have HLi := hide fun a c X j => Line_at a c l kk X j
      rw [hnk] at HLi
      clear hnk
      by_cases hin : 0 ≤ kk ∧ kk < (N : Int)
      · have t3 : decide (kk ≥ 0) = true := decide_eq_true (by omega)
        have t3' : decide (0 ≤ kk) = true := decide_eq_true (by omega)
        have t4 : decide (kk < (N : Int)) = true := decide_eq_true (by omega)
        have bel := HS.s.L.d
        clear HLi HS hin
        rcases hor with ⟨t1, rfl⟩ | ⟨t1, t2, t2'⟩
        · clear t1
          go_wp2_with fail
          all_goals go_ret
          all_goals exact ⟨rfl, bel⟩
        · go_wp2_with fail
          all_goals go_ret
          all_goals exact ⟨rfl, bel⟩
      · rw [if_neg hin] at HLi
        unfold liV at HLi
        dsimp only at HLi
        have h3 : decide (kk ≥ 0) = false ∧ decide (0 ≤ kk) = false ∨ (decide (kk ≥ 0) = true ∧ decide (0 ≤ kk) = true ∧ decide (kk < (N : Int)) = false) := by
          by_cases h : 0 ≤ kk
          · exact Or.inr ⟨decide_eq_true (by omega), decide_eq_true (by omega), decide_eq_false (by omega)⟩
          · exact Or.inl ⟨decide_eq_false (by omega), decide_eq_false (by omega)⟩
        clear hin
        rcases hor with ⟨t1, rfl⟩ | ⟨t1, t2, t2'⟩
        · clear t1
          rcases h3 with ⟨t3, t4⟩ | ⟨t3, t4, t5⟩
          · go_wp2_with fail
            refine (own7_at a0 cap l wr HS.s.L.b).mono ?_
            rintro e ya ⟨a4, c4, rfl, j4, x4⟩
            have HSa := HS.on x4
            clear x4
            go_wp2_with fail
            refine (unhide HLi a4 c4 ya j4).mono ?_
            rintro e yb ⟨rfl, x5⟩
            have HSb := HSa.on x5
            have bel := HSb.s.L.d
            clear x5 HSa HSb HS HLi j4
            go_wp2_with fail
            go_ret
            exact ⟨rfl, bel⟩
          · go_wp2_with fail
            refine (own7_at a0 cap l wr HS.s.L.b).mono ?_
            rintro e ya ⟨a4, c4, rfl, j4, x4⟩
            have HSa := HS.on x4
            clear x4
            go_wp2_with fail
            refine (unhide HLi a4 c4 ya j4).mono ?_
            rintro e yb ⟨rfl, x5⟩
            have HSb := HSa.on x5
            have bel := HSb.s.L.d
            clear x5 HSa HSb HS HLi j4
            go_wp2_with fail
            go_ret
            exact ⟨rfl, bel⟩
        · rcases h3 with ⟨t3, t4⟩ | ⟨t3, t4, t5⟩
          · go_wp2_with fail
            all_goals refine (own7_at a0 cap l wr HS.s.L.b).mono ?_
            all_goals rintro e ya ⟨a4, c4, rfl, j4, x4⟩
            all_goals have HSa := HS.on x4
            all_goals clear x4
            all_goals go_wp2_with fail
            all_goals refine (unhide HLi a4 c4 ya j4).mono ?_
            all_goals rintro e yb ⟨rfl, x5⟩
            all_goals have HSb := HSa.on x5
            all_goals have bel := HSb.s.L.d
            all_goals clear x5 HSa HSb HS HLi j4
            all_goals go_wp2_with fail
            all_goals go_ret
            all_goals exact ⟨rfl, bel⟩
          · go_wp2_with fail
            all_goals refine (own7_at a0 cap l wr HS.s.L.b).mono ?_
            all_goals rintro e ya ⟨a4, c4, rfl, j4, x4⟩
            all_goals have HSa := HS.on x4
            all_goals clear x4
            all_goals go_wp2_with fail
            all_goals refine (unhide HLi a4 c4 ya j4).mono ?_
            all_goals rintro e yb ⟨rfl, x5⟩
            all_goals have HSb := HSa.on x5
            all_goals have bel := HSb.s.L.d
            all_goals clear x5 HSa HSb HS HLi j4
            all_goals go_wp2_with fail
            all_goals go_ret
            all_goals exact ⟨rfl, bel⟩

end Go.Proofs.YtbnfpcfoeojceaaDoor
end

section
namespace Go.Proofs.YtbnfpcfoeojceaaDoor
open Go.ChangeShapes Go.WideShapes Go.ChangeAt Go.RowKit

theorem bchain {B : Nat} {a b c : World} (hB : B ≤ a.heap.size) (h : Below B a b) (k : Below b.heap.size b c) : Below B a c := h.trans (k.mono (Nat.le_trans hB h.size))

theorem Own.isB {w : World} {B : Nat} {v : Value} {l : List Int} (h : Own w B v l) (hl : ∀ x ∈ l, 0 ≤ x ∧ x ≤ 255) (hn : l.length ≤ 140737488351232) : ∃ a cap, v = .slice a l.length cap ∧ IsB w a cap l := by
  have hc := h
  rcases h.2 with ⟨rfl, h0⟩ | ⟨g, cap, cur, rfl, _, hg, hle, _⟩
  · exact ⟨none, 0, by rw [h0], by omega, hn, Or.inl (List.length_eq_zero_iff.1 h0), hl⟩
  · exact ⟨_, cap, rfl, hle, hn, Or.inr ⟨g, 0, rfl, hc.lies hl⟩, hl⟩

theorem push_u8s (W : World) (B : Nat) (v : Value) (l m : List Int) (ty : TypeId) (h : Own W B v l) (hn : l.length ≤ 140737488350000) (hm : m.length ≤ 4) (h0 : 0 < m.length) (hB : B ≤ W.heap.size) :
    ∃ v' W', (Builtin.append_ #[22, 22] ty #[v, .slice (some ⟨W.heap.size, 0, none⟩) m.length m.length]).run Tryd.prog (W.alloc (.cells (m.map (Value.int .u8)).toArray 5)) = .ok v' W' ∧
      Own W' B v' (l ++ m) ∧ Below B W W' := by
  obtain ⟨i, hi, hz, hs, hby⟩ := info_u8
  have hr := World.ownsRow.alloc h (.cells (m.map (Value.int .u8)).toArray 5)
  obtain ⟨g, c, W', hrun, ho, hg, _, _⟩ := run_append_lies (P := Tryd.prog) (W.alloc (.cells (m.map (Value.int .u8)).toArray 5)) 22 ty B 5 i (.int .u8 0) 1 1 Tryd.underlying22 hi hz hs hby rfl (by decide)
    v l.length (l.map (Value.int .u8)) hr ⟨W.heap.size, 0, none⟩ m.length m.length (m.map (Value.int .u8)) (by simp)
    (fun j u hj => by
      rw [Addr.add_lit, Nat.zero_add]
      refine (World.cell?_alloc_mark W _ _ (0, 0) j).trans ?_
      rw [List.getElem?_toArray]; exact hj)
    (fun u hu => by obtain ⟨x, _, rfl⟩ := List.mem_map.1 hu; rfl) h0 (by unfold maxLen; omega) (by omega) (by simp; omega) _ rfl
  refine ⟨_, W', hrun, ?_, ((Below.refl B W).alloc hB _).grown hg (by simp; omega) (fun k hk => (hr.lt k hk).1)⟩
  unfold Own
  simpa using ho


theorem Own.push2 {W : World} {B : Nat} {v : Value} {l : List Int} (h : Own W B v l) (x y : Int) (hn : l.length ≤ 140737488350000) (hB : B ≤ W.heap.size) : ∃ v' W', (Builtin.append_ #[22, 22] 22 #[v, .slice (some ⟨W.heap.size, 0, none⟩) 2 2]).run Tryd.prog (W.alloc (.cells #[.int .u8 x, .int .u8 y] 5)) = .ok v' W' ∧ Own W' B v' (l ++ [x, y]) ∧ Below B W W' := by
  simpa using push_u8s W B v l [x, y] 22 h hn (by simp) (by simp) hB

/-- a row of integers of at most N elements, none of its cells frozen -/
def RwX (k : IntKind) (N : Nat) (W : World) (v : Value) : Prop := v = .slice none 0 0 ∨ ∃ g n cap, v = .slice (some ⟨g, 0, none⟩) n cap ∧ n ≤ N ∧ g < W.heap.size ∧ n ≤ cap ∧
  (∀ i, i < cap → (W.cell? ⟨g, i, none⟩).isSome = true ∧ W.frozen? ⟨g, i, none⟩ = false) ∧ ∀ i, i < n → ∃ b, W.cell? ⟨g, i, none⟩ = some (.int k b)
theorem grownO_trans {w w1 w2 : World} {r row : Option Nat} (h : w.grownBy w1 r) (h2 : w1.grownBy w2 row) (hr : ∀ k, row = some k → r = some k ∨ w.heap.size ≤ k) : w.grownBy w2 r := by
  refine ⟨h2.os.trans h.os, h2.tape.trans h.tape, h2.output.trans h.output, Nat.le_trans h.size h2.size, fun k hk hne => ?_⟩
  refine (h2.block k (Nat.lt_of_lt_of_le hk h.size) (fun e => ?_)).trans (h.block k hk hne)
  rcases hr k e.symm with h' | h'
  · exact hne h'.symm
  · omega
theorem setCells_one (w : World) (b o : Nat) (v : Value) : w.setCells b o [v] = w.setCell ⟨b, o, none⟩ v := rfl
theorem cell_set {w : World} {g k : Nat} {v : Value} (h : (w.cell? ⟨g, k, none⟩).isSome = true) (j : Nat) : (w.setCell ⟨g, k, none⟩ v).cell? ⟨g, j, none⟩ = if j = k then some v else w.cell? ⟨g, j, none⟩ := by
  rw [← setCells_one]
  by_cases hjk : j = k
  · subst hjk
    rw [if_pos rfl]
    have := World.cell?_setCells_in g [v] j w (fun i hi => by obtain rfl : i = 0 := by simpa using hi
                                                              exact h) 0 (by simp)
    simpa using this
  · rw [if_neg hjk]
    exact World.cell?_setCells_out g [v] k w ⟨g, j, none⟩ (fun _ _ => by simp; omega)
theorem frozen_set {w : World} {g k : Nat} {v : Value} (j : Nat) : (w.setCell ⟨g, k, none⟩ v).frozen? ⟨g, j, none⟩ = w.frozen? ⟨g, j, none⟩ := by
  rw [← setCells_one]
  exact World.frozen?_setCells g [v] k w ⟨g, j, none⟩
theorem size_set (w : World) (a : Addr) (v : Value) : (w.setCell a v).heap.size = w.heap.size := by simp [World.setCell]
theorem rwX_set {k : IntKind} {N : Nat} {W : World} {g n cap : Nat} (h : RwX k N W (.slice (some ⟨g, 0, none⟩) n cap)) (j : Nat) (x : Int) (hj : j < n) : RwX k N (W.setCell ⟨g, j, none⟩ (.int k x)) (.slice (some ⟨g, 0, none⟩) n cap) := by
  rcases h with h | ⟨g', n', cap', e, h1, h2, h3, h4, h5⟩
  · cases h
  · cases e
    have hs := (h4 j (by omega)).1
    refine Or.inr ⟨g, n, cap, rfl, h1, by rw [size_set]; exact h2, h3, fun i hi => ⟨?_, by rw [frozen_set]; exact (h4 i hi).2⟩, fun i hi => ?_⟩
    · rw [cell_set hs]; split
      · rfl
      · exact (h4 i hi).1
    · rw [cell_set hs]; split
      · exact ⟨x, rfl⟩
      · exact h5 i hi
theorem rwX_put {k : IntKind} {N : Nat} {W : World} {g n cap : Nat} (h : RwX k N W (.slice (some ⟨g, 0, none⟩) n cap)) (x : Int) (hr : n + 1 ≤ cap) : RwX k (N + 1) (W.setCell ⟨g, n, none⟩ (.int k x)) (.slice (some ⟨g, 0, none⟩) (n + 1) cap) := by
  rcases h with h | ⟨g', n', cap', e, h1, h2, h3, h4, h5⟩
  · cases h
  · cases e
    have hs := (h4 n (by omega)).1
    refine Or.inr ⟨g, n + 1, cap, rfl, by omega, by rw [size_set]; exact h2, hr, fun i hi => ⟨?_, by rw [frozen_set]; exact (h4 i hi).2⟩, fun i hi => ?_⟩
    · rw [cell_set hs]; split
      · rfl
      · exact (h4 i hi).1
    · rw [cell_set hs]; split
      · exact ⟨x, rfl⟩
      · exact h5 i (by omega)
/-- a new row -/
theorem rwX_new {k : IntKind} {N : Nat} (W : World) (t : TypeId) (xs : List Value) (n c : Nat) (hx : xs.length = n) (hn : n ≤ N) (hv : ∀ u ∈ xs, ∃ b, u = .int k b) (hc : n ≤ c) :
    RwX k N (W.alloc (.cells (xs.toArray ++ Builtin.zeroCells (Value.int k 0).cells (c - n)) t)) (.slice (some ⟨W.heap.size, 0, none⟩) n c) := by
  have hz1 : (Value.int k 0).cells.size = 1 := rfl
  refine Or.inr ⟨W.heap.size, n, c, rfl, hn, by simp, hc, fun i hi => ⟨?_, ?_⟩, fun i hi => ?_⟩
  · rw [World.cell?_alloc_mark]
    have : i < (xs.toArray ++ Builtin.zeroCells (Value.int k 0).cells (c - n)).size := by simp only [Array.size_append, List.size_toArray, size_zeroCells, hz1, hx]; omega
    rw [Array.getElem?_eq_getElem this]
    rfl
  · have e : (W.alloc (.cells (xs.toArray ++ Builtin.zeroCells (Value.int k 0).cells (c - n)) t)).heap[W.heap.size]? = some (.cells (xs.toArray ++ Builtin.zeroCells (Value.int k 0).cells (c - n)) t (0, 0)) := heap_alloc_new W _
    simp only [World.frozen?]
    rw [e]
    simp
  · rw [World.cell?_alloc_mark, Array.getElem?_append_left (by simpa [hx] using hi)]
    have hi' : i < xs.length := by omega
    obtain ⟨b, hb⟩ := hv xs[i] (List.getElem_mem hi')
    exact ⟨b, by simp [List.getElem?_eq_getElem hi', hb]⟩

theorem Own.below {w w' : World} {B : Nat} {v : Value} {l : List Int} (h : Own w B v l) (hb : Below w.heap.size w w') : Own w' B v l := h.kept (row := none) ⟨hb.os, hb.tape, hb.output, hb.size, fun k hk _ => hb.block k hk⟩ (Classical.em _)


theorem own_base {W : World} {B B' : Nat} {v : Value} {l : List Int} (h : Own W B v l) (hB : B' ≤ B) : Own W B' v l := by
  refine ⟨h.1, ?_⟩
  rcases h.2 with h2 | ⟨g', c', cur, h1, h2, h3⟩
  · exact Or.inl h2
  · exact Or.inr ⟨g', c', cur, h1, Nat.le_trans hB h2, h3⟩

/-- append one to such a row -/
theorem pushX_i64 (W : World) (N : Nat) (v : Value) (x : Int) (ty : TypeId) (h : RwX .i64 N W v) (hN : N ≤ 8388608) :
    ∃ v' W', (Builtin.append_ #[26, 26] ty #[v, .slice (some ⟨W.heap.size, 0, none⟩) 1 1]).run Tryd.prog (W.alloc (.cells #[.int .i64 x] 3)) = .ok v' W' ∧ RwX .i64 (N + 1) W' v' ∧
      (W.alloc (.cells #[.int .i64 x] 3)).grownBy W' v.ownBlock ∧ ((v'.ownBlock = v.ownBlock) ∨ ∃ g, v'.ownBlock = some g ∧ W.heap.size ≤ g) := by
  obtain ⟨i, hi, hz, hs, hby⟩ := info_intS
  have hsrc : Src Tryd.prog i.size 26 (.slice (some ⟨W.heap.size, 0, none⟩) 1 1) 1 [.int .i64 x] (W.alloc (.cells #[.int .i64 x] 3)) := by
    rw [hs]
    refine Src.ofSlice _ Tryd.underlying26 ⟨W.heap.size, 0, none⟩ 1 1 [.int .i64 x] rfl (fun j u hj => ?_) (fun u hu => by simp at hu; subst hu; rfl)
    cases j with
    | zero => simp at hj; subst hj; rw [Addr.add_lit]; exact (World.cell?_alloc_mark W _ _ (0, 0) 0).trans rfl
    | succ j => simp at hj
  rcases h with rfl | ⟨g, n, cap, rfl, hn, hg, hnc, hc, hv⟩
  · have := run_append_grow_src (P := Tryd.prog) (W.alloc (.cells #[.int .i64 x] 3)) 26 26 ty 3 i (.int .i64 0) Tryd.underlying26 hi hz none 0 0 []
      (by rw [hs]; rfl) _ 1 _ hsrc (by omega) (by omega) (by rw [hby]; decide)
    refine ⟨_, _, this, ?_, ⟨rfl, rfl, rfl, by simp, fun k hk _ => heap_alloc_old _ _ hk⟩, Or.inr ⟨_, rfl, by simp⟩⟩
    exact rwX_new _ _ [.int .i64 x] 1 _ rfl (by omega) (fun u hu => by simp at hu; subst hu; exact ⟨x, rfl⟩) (grownCap_ge _ _ _ _)
  · have hga : g ≠ W.heap.size := by omega
    have hcell : ∀ i, (W.alloc (.cells #[.int .i64 x] 3)).cell? ⟨g, i, none⟩ = W.cell? ⟨g, i, none⟩ := fun i => World.cell?_of_block (a := ⟨g, i, none⟩) (heap_alloc_old W _ hg)
    have hfro : ∀ i, (W.alloc (.cells #[.int .i64 x] 3)).frozen? ⟨g, i, none⟩ = W.frozen? ⟨g, i, none⟩ := fun i => by
      have e := heap_alloc_old W (.cells #[.int .i64 x] 3) hg
      simp only [World.frozen?, e]
    by_cases hroom : n + 1 ≤ cap
    · have := run_append_room_src (P := Tryd.prog) (W.alloc (.cells #[.int .i64 x] 3)) 26 26 ty 3 i Tryd.underlying26 hi g 0 n cap _ 1 _ hsrc hroom
        (fun j hj => by
          obtain rfl : j = 0 := by simpa using hj
          rw [hs, Nat.mul_one, Nat.zero_add, Nat.add_zero, hcell]; exact (hc n (by omega)).1)
        (fun j hj => by
          obtain rfl : j = 0 := by simpa using hj
          rw [hs, Nat.mul_one, Nat.zero_add, Nat.add_zero, hfro]; exact (hc n (by omega)).2)
      rw [hs, Nat.mul_one, Nat.zero_add] at this
      rw [setCells_one] at this
      refine ⟨_, _, this, ?_, grown_set _ _ _ _, Or.inl rfl⟩
      have hb : RwX .i64 N (W.alloc (.cells #[.int .i64 x] 3)) (.slice (some ⟨g, 0, none⟩) n cap) := Or.inr ⟨g, n, cap, rfl, hn, by simp; omega, hnc, fun i hi => ⟨by rw [hcell]; exact (hc i hi).1, by rw [hfro]; exact (hc i hi).2⟩, fun i hi => by rw [hcell]; exact hv i hi⟩
      exact rwX_put hb x hroom
    · have hold : (Builtin.firstCells i.size n (.slice (some ⟨g, 0, none⟩) n cap)).run Tryd.prog (W.alloc (.cells #[.int .i64 x] 3)).drew = .ok ((List.range n).map fun i => (W.cell? ⟨g, i, none⟩).getD undef).toArray (W.alloc (.cells #[.int .i64 x] 3)).drew := by
        refine run_firstCells_some _ _ n ⟨g, 0, none⟩ n cap _ (by rw [hs]; simp) (fun j u hj => ?_)
        have hj' : j < n := by
          rcases Nat.lt_or_ge j n with h | h
          · exact h
          · rw [List.getElem?_eq_none (by simpa using h)] at hj; cases hj
        obtain ⟨b, hb⟩ := hv j hj'
        rw [List.getElem?_map, List.getElem?_range hj'] at hj
        simp [hb] at hj
        subst hj
        rw [Addr.add_lit, Nat.zero_add]
        exact (hcell j).trans hb
      have := run_append_grow_src (P := Tryd.prog) (W.alloc (.cells #[.int .i64 x] 3)) 26 26 ty 3 i (.int .i64 0) Tryd.underlying26 hi hz (some ⟨g, 0, none⟩) n cap _ hold _ 1 _ hsrc (by omega) (by omega)
        (by rw [hby]; exact growslice_fits (by omega) (by omega))
      refine ⟨_, _, this, ?_, ⟨rfl, rfl, rfl, by simp, fun k hk _ => heap_alloc_old _ _ hk⟩, Or.inr ⟨_, rfl, by simp⟩⟩
      refine rwX_new _ _ _ (n + 1) _ (by simp) (by omega) (fun u hu => ?_) (grownCap_ge _ _ _ _)
      rcases List.mem_append.1 hu with hu | hu
      · obtain ⟨j, hj, rfl⟩ := List.mem_map.1 hu
        obtain ⟨b, hb⟩ := hv j (List.mem_range.1 hj)
        exact ⟨b, by rw [hb]; rfl⟩
      · simp at hu; subst hu; exact ⟨x, rfl⟩


theorem rowI_rwX {w : World} {B N : Nat} {v : Value} {l : List Int} (h : w.ownsRow B 3 1 v l.length (l.map (Value.int .i64))) (hN : l.length ≤ N) : RwX .i64 N w v := by
  have hh := h
  rcases h.2 with ⟨rfl, _⟩ | ⟨g, cap, cur, rfl, _, hg, hc, hm, hs, ht⟩
  · exact Or.inl rfl
  · refine Or.inr ⟨g, l.length, cap, rfl, hN, heap_lt hg, hc, fun i hi => ⟨?_, ?_⟩, fun i hi => ⟨l.getD i 0, ?_⟩⟩
    · simp only [World.cell?, hg]; simp; omega
    · simp [World.frozen?, hg]
    · have := World.ownsRow.cells hh rfl i (.int .i64 (l.getD i 0)) (by simp [List.getElem?_eq_getElem hi, List.getD])
      rwa [Addr.add_lit, Nat.zero_add] at this
theorem RwX.lt {k : IntKind} {N : Nat} {W : World} {v : Value} (h : RwX k N W v) {g : Nat} (hg : v.ownBlock = some g) : g < W.heap.size := by
  rcases h with rfl | ⟨g', n, cap, rfl, _, h2, _⟩
  · cases hg
  · cases hg; exact h2
theorem RwX.kept {k : IntKind} {N : Nat} {W W' : World} {v : Value} {row : Option Nat} (h : RwX k N W v) (hg : W.grownBy W' row) (hne : v.ownBlock = none ∨ v.ownBlock ≠ row) : RwX k N W' v := by
  rcases h with rfl | ⟨g, n, cap, rfl, h1, h2, h3, h4, h5⟩
  · exact Or.inl rfl
  · have e : W'.heap[g]? = W.heap[g]? := hg.block g h2 (by simpa [Value.ownBlock] using hne)
    have ec : ∀ i, W'.cell? ⟨g, i, none⟩ = W.cell? ⟨g, i, none⟩ := fun i => World.cell?_of_block (a := ⟨g, i, none⟩) e
    have ef : ∀ i, W'.frozen? ⟨g, i, none⟩ = W.frozen? ⟨g, i, none⟩ := fun i => by simp only [World.frozen?, e]
    exact Or.inr ⟨g, n, cap, rfl, h1, Nat.lt_of_lt_of_le h2 hg.size, h3, fun i hi => ⟨by rw [ec]; exact (h4 i hi).1, by rw [ef]; exact (h4 i hi).2⟩, fun i hi => by rw [ec]; exact h5 i hi⟩
theorem RwX.below {k : IntKind} {N : Nat} {W W' : World} {v : Value} (h : RwX k N W v) (hb : Below W.heap.size W W') : RwX k N W' v := h.kept (grown_below none hb) (Classical.em _)
/-- where a value's row lies -/
def Iv (v : Value) (lo hi : Nat) : Prop := ∀ k, v.ownBlock = some k → lo ≤ k ∧ k < hi
theorem iv_ne {v v' : Value} {lo hi lo' hi' k : Nat} (h : Iv v lo hi) (h' : Iv v' lo' hi') (hd : hi ≤ lo' ∨ hi' ≤ lo) (e : v.ownBlock = some k) : v'.ownBlock ≠ some k := by
  intro e'
  have := h k e
  have := h' k e'
  omega
theorem iv_row {v v' : Value} {lo hi lo' hi' : Nat} (h : Iv v lo hi) (h' : Iv v' lo' hi') (hd : hi ≤ lo' ∨ hi' ≤ lo) : v.ownBlock = none ∨ v.ownBlock ≠ v'.ownBlock := by
  cases e : v.ownBlock with
  | none => exact Or.inl rfl
  | some k => exact Or.inr (fun e' => iv_ne h h' hd e e'.symm)
theorem isB_kept {w w' : World} {row : Option Nat} {a0 : Option Addr} {cap : Nat} {l : List Int} (h : IsB w a0 cap l) (hg : w.grownBy w' row) (hne : ∀ k, row = some k → (Value.slice a0 l.length cap).ownBlock ≠ some k) : IsB w' a0 cap l := by
  obtain ⟨h1, h2, h3, h4⟩ := h
  refine ⟨h1, h2, ?_, h4⟩
  rcases h3 with h3 | ⟨g, off, rfl, hL⟩
  · exact Or.inl h3
  · exact Or.inr ⟨g, off, rfl, hL.grown hg (fun e => hne g e.symm rfl)⟩


theorem own_own (a0 : Option Addr) (cap : Nat) (l : List Int) (w : World) (hB : IsB w a0 cap l) :
    Calls Tryd.prog 12 #[.slice a0 l.length cap] w fun e w' => ∃ v, e = .returned v ∧ Own w' w.heap.size v l ∧ Below w.heap.size w w' := by
  obtain ⟨v1, w1, r1, o1, z1⟩ := run_copy_own w a0 cap l 22 hB
  have R1 := hide r1
  clear r1
  go_enter Tryd.func12, Tryd.ntmps12
  go_wp2_with (at_builtin; refine wpList_append_known rfl _ _ 22 22 rfl _ _ rfl rfl _ _ (unhide R1) ?_)
  go_ret
  exact ⟨v1, rfl, o1, z1⟩


theorem run_copyI (w : World) (g c : Nat) (ps : List Nat) (ty : TypeId) (hL : LiesI w g ps) (hg : g < w.heap.size) (h0 : 0 < ps.length) (hn : ps.length ≤ 4194304) :
    ∃ g' c' w', (Builtin.append_ #[26, 26] ty #[.slice (some ⟨w.heap.size, 0, none⟩) 0 0, .slice (some ⟨g, 0, none⟩) ps.length c]).run Tryd.prog (w.alloc (.cells #[] 3)) = .ok (.slice (some ⟨g', 0, none⟩) ps.length c') w' ∧
      w'.ownsRow w.heap.size 3 1 (.slice (some ⟨g', 0, none⟩) ps.length c') ps.length (ps.map fun (n : Nat) => Value.int .i64 (n : Int)) ∧ Below w.heap.size w w' := by
  obtain ⟨i, hi, hz, hs, hby⟩ := info_intS
  have hb0 : Below w.heap.size w (w.alloc (.cells #[] 3)) := (Below.refl _ _).alloc (Nat.le_refl _) _
  have hown : (w.alloc (.cells #[] 3)).ownsRow w.heap.size 3 1 (.slice (some ⟨w.heap.size, 0, none⟩) 0 0) 0 [] := World.ownsRow_made w #[] 0 (Nat.le_refl _) (Nat.zero_le _) rfl
  have hL' := hL.below hb0 hg
  obtain ⟨g', k, W', hrun, ho, hg', _, _⟩ := run_append_lies (P := Tryd.prog) (w.alloc (.cells #[] 3)) 26 ty w.heap.size 3 i (.int .i64 0) 1 8 Tryd.underlying26 hi hz hs hby rfl (by decide)
    _ 0 [] hown ⟨g, 0, none⟩ ps.length c (ps.map fun (n : Nat) => Value.int .i64 (n : Int)) (by simp)
    (fun j u hj => by
      have hlt : j < ps.length := by
        rcases Nat.lt_or_ge j ps.length with h' | h'
        · exact h'
        · rw [List.getElem?_eq_none (by simpa using h')] at hj; cases hj
      rw [Addr.add_lit, Nat.zero_add, hL' j hlt]
      simp [List.getElem?_eq_getElem hlt] at hj
      simp [List.getElem?_eq_getElem hlt, hj])
    (fun u hu => by obtain ⟨x, _, rfl⟩ := List.mem_map.1 hu; rfl) h0 (by unfold maxLen; omega) (by omega) (by simp) _ rfl
  rw [Nat.zero_add, List.nil_append] at ho
  rw [Nat.zero_add] at hrun
  exact ⟨g', k, W', hrun, ho, hb0.grown hg' (by simp) (fun k hk => (hown.lt k hk).1)⟩
theorem se_in {l : List Int} (hl : ∀ x ∈ l, 0 ≤ x ∧ x ≤ 255) : ∀ x ∈ l ++ [7, 8], 0 ≤ x ∧ x ≤ 255 := by
  intro x hx
  rcases List.mem_append.1 hx with h | h
  · exact hl x h
  · have : x = 7 ∨ x = 8 := by simpa using h
    omega
structure FU (w : World) (l : List Int) (B gf cf : Nat) (W : World) : Prop where
  full : Own W B (.slice (some ⟨gf, 0, none⟩) (l.length + 2) cf) (l ++ [7, 8])
  b : Below w.heap.size w W
theorem FU.on {w : World} {l : List Int} {B gf cf : Nat} {W W' : World} (h : FU w l B gf cf W) (hb : Below W.heap.size W W') : FU w l B gf cf W' := ⟨h.full.below hb, h.b.trans (hb.mono h.b.size)⟩
theorem FU.isB {w : World} {l : List Int} {B gf cf : Nat} {W : World} (h : FU w l B gf cf W) (hl : ∀ x ∈ l, 0 ≤ x ∧ x ≤ 255) (hn : l.length ≤ 1048576) : IsB W (some ⟨gf, 0, none⟩) cf l := by
  obtain ⟨g, c, e, _, _, hc⟩ := h.full.form (by simp)
  simp only [Value.slice.injEq, Option.some.injEq, Addr.mk.injEq] at e
  obtain ⟨⟨rfl, _⟩, _, rfl⟩ := e
  rw [List.length_append] at hc
  refine ⟨by omega, by omega, Or.inr ⟨gf, 0, rfl, (h.full.lies (se_in hl)).pre⟩, hl⟩
theorem FU.two {w : World} {l : List Int} {B gf cf : Nat} {W : World} (h : FU w l B gf cf W) (hl : ∀ x ∈ l, 0 ≤ x ∧ x ≤ 255) : W.cell? ⟨gf, l.length, none⟩ = some (.int .u8 7) ∧ W.cell? ⟨gf, l.length + 1, none⟩ = some (.int .u8 8) := by
  have hL := h.full.lies (se_in hl)
  have c0 := (hL l.length (by simp)).1
  have c1 := (hL (l.length + 1) (by simp)).1
  rw [Nat.zero_add] at c0 c1
  refine ⟨c0.trans ?_, c1.trans ?_⟩ <;> simp [List.getD]

end Go.Proofs.YtbnfpcfoeojceaaDoor
end

section
namespace Go.Proofs.YtbnfpcfoeojceaaDoor
open Go.ChangeShapes Go.WideShapes Go.ChangeAt Go.RowKit
attribute [local go_sem] Oper.semAt_some

theorem ask4 {W : World} {g : Nat} {t : TypeId} {a b c d : Value} (h : Cls W g t #[a, b, c, d]) : W.cell? ⟨g, 0, none⟩ = some a ∧ W.cell? ⟨g, 1, none⟩ = some b ∧ W.cell? ⟨g, 2, none⟩ = some c ∧ W.cell? ⟨g, 3, none⟩ = some d :=
  ⟨(h.cell 0).trans rfl, (h.cell 1).trans rfl, (h.cell 2).trans rfl, (h.cell 3).trans rfl⟩
theorem rwX_form {k : IntKind} {N : Nat} {w : World} {v : Value} (h : RwX k N w v) : ∃ a n cap, v = .slice a n cap ∧ n ≤ N := by
  rcases h with rfl | ⟨g, n, cap, rfl, hn, _⟩
  · exact ⟨none, 0, 0, rfl, Nat.zero_le _⟩
  · exact ⟨_, n, cap, rfl, hn⟩
/-- what must outlast all that is written -/
theorem liesI_row {W : World} {B g c : Nat} {ps : List Nat} (h : W.ownsRow B 3 1 (.slice (some ⟨g, 0, none⟩) ps.length c) ps.length (ps.map fun (n : Nat) => Value.int .i64 (n : Int))) : LiesI W g ps := fun k hk => by
  have := World.ownsRow.cells h rfl k (.int .i64 (ps.getD k 0 : Nat)) (by simp [List.getElem?_eq_getElem hk, List.getD])
  rwa [Addr.add_lit, Nat.zero_add] at this
theorem sts_ints (l : List Int) : stsV (LN l) = ((sts l).map fun (n : Nat) => (n : Int)).map (Value.int .i64) := by rw [sts_vals]; simp

set_option maxRecDepth 100000 in
set_option maxHeartbeats 8000000 in
theorem LinesOwn_any (a0 : Option Addr) (cap : Nat) (l : List Int) (place line col r m : Int) (w : World) (hB : IsB w a0 cap l) (qb : cap ≤ 1048576) (_hp : (Lit.int .i64 place).wf = true) (hT : Tab w) :
    Calls Tryd.prog 8 #[.slice a0 l.length cap, .int .i64 place, .agg #[.int .i64 line, .int .i64 col, .int .i64 r, .int .i64 m]] w fun e w' => e = .returned (.bool true) ∧ Below w.heap.size w w' := by
  clear _hp
  have hl : l.length ≤ 1048576 := Nat.le_trans hB.1 qb
  have HLB := hide hB.2.2.2
  have HB0 := hide hB
  have hN1 := LN_pos l
  have hN2 := LN_len l
  have HSL := hide (sts_len l)
  have L0 : Lw w a0 cap l [] w := ⟨hB, hT, Below.refl _ _, fun y hy => by cases hy⟩
  have L1 := L0.new 54 #[.int .i64 line, .int .i64 col, .int .i64 r, .int .i64 m]
  clear L0 hB hT
  go_enter Tryd.func8, Tryd.ntmps8
  go_wp2_with fail
  have hz1 : w.heap.size ≤ (w.alloc (.cells #[.int .i64 line, .int .i64 col, .int .i64 r, .int .i64 m] 54)).heap.size := L1.d.size
  generalize w.alloc (.cells #[.int .i64 line, .int .i64 col, .int .i64 r, .int .i64 m] 54) = w1 at *
  generalize hgX : w.heap.size = gX at L1 ⊢
  have HGX := hide hgX
  clear hgX
  refine (awake7_any w1 L1.t).mono ?_
  rintro e w2 ⟨rfl, x2⟩
  have L2 := L1.on x2
  have z2 := x2.size
  clear L1
  go_wp2_with fail
  refine (own_own a0 cap l w2 L2.b).mono ?_
  rintro e w3 ⟨v3, rfl, o3, x3⟩
  obtain ⟨v4, w4, r4, o4, x4⟩ := o3.push2 7 8 (by omega) x3.size
  obtain ⟨gf, cf, e4, gf1, gf2, _⟩ := o4.form (by simp)
  rw [List.length_append, show ([7, 8] : List Int).length = 2 from rfl] at e4
  subst e4
  have R4 := hide r4
  have z3 := x3.size
  have z4 := x4.size
  have L4 := L2.on (x3.trans x4)
  have fu4 : FU w2 l w2.heap.size gf cf w4 := ⟨o4, x3.trans x4⟩
  have hcf : l.length + 2 ≤ cf := by
    obtain ⟨g, c, e, _, _, hc⟩ := o4.form (by simp)
    simp only [Value.slice.injEq, Option.some.injEq, Addr.mk.injEq] at e
    obtain ⟨_, _, rfl⟩ := e
    rw [List.length_append] at hc
    exact hc
  have If : Iv (.slice (some ⟨gf, 0, none⟩) (l.length + 2) cf) w2.heap.size w4.heap.size := fun k e => by cases e; exact ⟨gf1, gf2⟩
  clear r4 o3 o4 gf1 gf2 L2
  have hcf' : l.length ≤ cf := by omega
  obtain ⟨q0, q1, q2, q3⟩ := ask4 L4.one
  go_wp2_with (at_builtin; refine wpList_append_known rfl _ _ 22 22 rfl _ _ rfl rfl _ _ (unhide R4) ?_)
  refine (Starts_at (some ⟨gf, 0, none⟩) cf l w4 (fu4.isB (unhide HLB) hl) hl).mono ?_
  rintro e w5 ⟨v5, rfl, o5, x5⟩
  have I5 : Iv v5 w4.heap.size w5.heap.size := World.ownsRow.lt o5
  have z5 := x5.size
  have L5 := L4.on x5
  have fu5 := fu4.on x5
  clear q0 q1 q2 q3 L4 fu4
  obtain ⟨q0, q1, q2, q3⟩ := ask4 L5.one
  go_wp2_with fail
  refine (Starts_at (some ⟨gf, 0, none⟩) cf l w5 (fu5.isB (unhide HLB) hl) hl).mono ?_
  rintro e w6 ⟨v6, rfl, o6, x6⟩
  have I6 : Iv v6 w5.heap.size w6.heap.size := World.ownsRow.lt o6
  have z6 := x6.size
  have L6 := L5.on x6
  have fu6 := fu5.on x6
  clear q0 q1 q2 q3 L5 fu5
  obtain ⟨q0, q1, q2, q3⟩ := ask4 L6.one
  go_wp2_with fail
  refine (Count_at (some ⟨gf, 0, none⟩) cf l w6 (fu6.isB (unhide HLB) hl)).mono ?_
  rintro e w7 ⟨rfl, x7⟩
  have z7 := x7.size
  have L7 := L6.on x7
  have fu7 := fu6.on x7
  clear q0 q1 q2 q3 L6
  obtain ⟨q0, q1, q2, q3⟩ := ask4 L7.one
  go_wp2_with fail
  refine (Line_at (some ⟨gf, 0, none⟩) cf l line w7 (fu7.isB (unhide HLB) hl)).mono ?_
  rintro e w8 ⟨rfl, x8⟩
  have z8 := x8.size
  have L8 := L7.on x8
  have fu8 := fu7.on x8
  clear q0 q1 q2 q3 L7
  obtain ⟨q0, q1, q2, q3⟩ := ask4 L8.one
  go_wp2_with fail
  refine (Where_at (some ⟨gf, 0, none⟩) cf l place w8 (fu8.isB (unhide HLB) hl) L8.t).mono ?_
  rintro e w9 ⟨rfl, x9⟩
  have z9 := x9.size
  have L9 := L8.on x9
  have fu9 := fu8.on x9
  clear q0 q1 q2 q3 L8
  obtain ⟨q0, q1, q2, q3⟩ := ask4 L9.one
  go_wp2_with fail
  refine (AtL_at (some ⟨gf, 0, none⟩) cf l line col r m w9 (fu9.isB (unhide HLB) hl) L9.t).mono ?_
  rintro e w10 ⟨rfl, x10⟩
  have z10 := x10.size
  have L10 := L9.on x10
  have fu10 := fu9.on x10
  clear q0 q1 q2 q3 L9
  obtain ⟨q0, q1, q2, q3⟩ := ask4 L10.one
  go_wp2_with fail
  refine (Spot_at (some ⟨gf, 0, none⟩) cf l place r w10 (fu10.isB (unhide HLB) hl) L10.t).mono ?_
  rintro e w11 ⟨rfl, x11⟩
  have z11 := x11.size
  have L11 := L10.on x11
  have fu11 := fu10.on x11
  clear q0 q1 q2 q3 L10
  obtain ⟨q0, q1, q2, q3⟩ := ask4 L11.one
  clear q0 q1 q2 q3
  have x611 : Below w6.heap.size w6 w11 := (((x7.trans (x8.mono x7.size)).trans (x9.mono (Nat.le_trans x7.size x8.size))).trans (x10.mono (Nat.le_trans (Nat.le_trans x7.size x8.size) x9.size))).trans (x11.mono (Nat.le_trans (Nat.le_trans (Nat.le_trans x7.size x8.size) x9.size) x10.size))
  have o511 : w11.ownsRow w4.heap.size 3 1 v5 (LN l).length (stsV (LN l)) := row_belowS (row_belowS o5 x6) x611
  have o611 : w11.ownsRow w5.heap.size 3 1 v6 (LN l).length (stsV (LN l)) := row_belowS o6 x611
  clear o5 o6 x611 x5 x6 x7 x8 x9 x10 x11
  have qt11 : RwX .i64 4194304 w11 v5 := rowI_rwX (l := (sts l).map fun (n : Nat) => (n : Int)) (by rw [← sts_ints, List.length_map, unhide HSL]; exact o511) (by rw [List.length_map, unhide HSL]; omega)
  rw [sts_vals, ← unhide HSL] at o611
  obtain ⟨gM, cM, rfl, lM, zM⟩ := rowI (ps := sts l) o611 (by intro h; have hsl := unhide HSL; rw [h] at hsl; simp at hsl; omega)
  obtain ⟨gW, cW, w12, r12, o12, x12⟩ := run_copyI w11 gM cM (sts l) 26 lM zM (by rw [unhide HSL]; omega) (by rw [unhide HSL]; omega)
  have IW : Iv (.slice (some ⟨gW, 0, none⟩) (sts l).length cW) w11.heap.size w12.heap.size := World.ownsRow.lt o12
  have z12 := x12.size
  have L12 := L11.on x12
  have o612 := row_belowS o611 x12
  have qt12 := qt11.below x12
  have R12 := hide r12
  have kf := str_lies w11 gf 0 cf l (fu11.full.lies (se_in (unhide HLB))).pre
  have kb := str_bs w11 a0 cap l L11.b.2.2.1
  obtain ⟨cc0, cc1⟩ := fu11.two (unhide HLB)
  have hw1 : wrap64 ((l.length : Int) + 1) = (l.length : Int) + 1 := wrap_nat _ 1 (by omega)
  obtain ⟨ac, nc, cc, ec, hnc⟩ := rwX_form qt12
  subst ec
  clear r12 fu11 lM zM o511 qt11 L11 o611
  have QC := hide qt12
  clear qt12
  rw [unhide HSL] at R12
  rw [unhide HSL]
  have HIV := hide (And.intro If (And.intro I5 (And.intro I6 IW)))
  have HZ := hide (And.intro hz1 (And.intro z2 (And.intro z3 (And.intro z4 (And.intro z5 (And.intro z6 (And.intro z7 (And.intro z8 (And.intro z9 (And.intro z10 (And.intro z11 z12)))))))))))
  have HO := hide (And.intro o612 o12)
  have HL12 := hide L12
  have HNC := hide hnc
  clear R4 I5 I6 IW If o612 o12 L12 x12 z2 z3 z4 z5 z6 z7 z8 z9 z10 z11 z12 hnc hcf' fu10 hz1 HGX x3 x4
  go_upto_region 13 with fail
  clear kf kb cc0 cc1 hw1
  go_wp2_with (at_builtin; refine wpList_append_known rfl _ _ 26 26 rfl _ _ rfl rfl _ _ (unhide R12) ?_)
  go_loopw [78] (fun i wx => ∃ k : Nat, k ≤ nc ∧ i = .int .i64 k ∧ Hid (RwX .i64 4194304 wx (.slice ac nc cc)) ∧ w12.grownBy wx (Value.slice ac nc cc).ownBlock) (fun i _ => nc - (intOf i).toNat)
  case atStart => exact ⟨0, Nat.zero_le _, rfl, QC, grown_refl _ _⟩
  case round =>
    obtain ⟨k, hk, rfl, hr, hg⟩ := hrel
    by_cases hlt : k < nc
    · rcases unhide hr with h0 | ⟨g, n', cap', e, hn', hgl, hnc', hc, hvv⟩
      · cases h0; omega
      · cases e
        obtain ⟨b, hb⟩ := hvv k hlt
        have hf := (hc k (by omega)).2
        have hst : RwX .i64 4194304 (wr.setCell ⟨g, k, none⟩ (.int .i64 (-1))) (.slice (some ⟨g, 0, none⟩) nc cc) := rwX_set (unhide hr) k _ hlt
        have hgr : w12.grownBy (wr.setCell ⟨g, k, none⟩ (.int .i64 (-1))) (some g) := grown_trans hg (grown_set wr g k _) (fun j e => Or.inl (by cases e; rfl))
        clear hc hvv
        go_wp2
        go_roundw
        case rel => exact ⟨k + 1, by omega, by go_num, hide hst, hgr⟩
        case measure => simp [intOf]; omega
    · clear QC
      go_wp2_with fail
      go_loopw [9, 13] (fun v i wx => ∃ k : Nat, k ≤ 40 ∧ i = .int .i64 k ∧ Hid (RwX .i64 (4194304 + k) wx v) ∧ Hid (v.ownBlock = (Value.slice ac nc cc).ownBlock ∨ ∃ g, v.ownBlock = some g ∧ w12.heap.size ≤ g) ∧ w12.grownBy wx (Value.slice ac nc cc).ownBlock) (fun _ i _ => 40 - (intOf i).toNat)
      case atStart => exact ⟨0, by omega, rfl, hr, hide (Or.inl rfl), hg⟩
      case round =>
        obtain ⟨j, hj, rfl, hr2, hw2, hg2⟩ := hrel
        clear hr hg
        by_cases hlt2 : j < 40
        · obtain ⟨v4, w4', r4, q4, g4, o4⟩ := pushX_i64 wr (4194304 + j) _ (-2) 26 (unhide hr2) (by omega)
          have R4' := hide r4
          have hsz := hg2.size
          have hga := (World.grownBy_alloc wr (.cells #[.int .i64 (-2)] 3) none)
          have G4 : Hid (w12.grownBy w4' (Value.slice ac nc cc).ownBlock) := hide (grownO_trans (grownO_trans hg2 hga (fun k e => by cases e)) g4 (fun k e => by
            rcases unhide hw2 with h | ⟨g, h, hle⟩
            · rw [h] at e; exact Or.inl e
            · rw [h] at e; cases e; exact Or.inr hle))
          have O4 : Hid (v4.ownBlock = (Value.slice ac nc cc).ownBlock ∨ ∃ g, v4.ownBlock = some g ∧ w12.heap.size ≤ g) := hide (by
            rcases o4 with h | ⟨g, h, hle⟩
            · rw [h]; exact unhide hw2
            · exact Or.inr ⟨g, h, Nat.le_trans hsz hle⟩)
          clear r4 g4 o4
          go_wp2_with (at_builtin; refine wpList_append_known rfl _ _ 26 26 rfl _ _ rfl rfl _ _ (unhide R4') ?_)
          go_roundw
          case rel => exact ⟨j + 1, by omega, by go_num, hide q4, O4, unhide G4⟩
          case measure => simp [intOf]; omega
        · obtain ⟨w13, hw13⟩ : ∃ w13, w13 = wr := ⟨_, rfl⟩
          subst hw13
          obtain ⟨_, I5, I6, IW⟩ := unhide HIV
          obtain ⟨hz1, z2, z3, z4, z5, z6, z7, z8, z9, z10, z11, z12⟩ := unhide HZ
          obtain ⟨o612, o12⟩ := unhide HO
          have L12 := unhide HL12
          have m13 := o612.kept hg2 (iv_row I6 I5 (by omega))
          have s13 := o12.kept hg2 (iv_row IW I5 (by omega))
          have b13 : Below w.heap.size w w13 := L12.d.grown hg2 L12.d.size (fun k hk => by have := I5 k hk; omega)
          have i13 : IsB w13 a0 cap l := (unhide HB0).below b13 (Nat.le_refl _)
          have hsi := SameI_some gM gW cM cW (sts l) w13 (liesI_row m13) (liesI_row s13) (by rw [unhide HSL]; unfold maxLen; omega)
          rw [unhide HSL] at hsi
          clear o612 o12 hr2 hw2 hg2 m13 s13 L12 I5 I6 IW hz1 z2 z3 z4 z5 z6 z7 z8 z9 z10 z11 z12
          go_wp2_with fail
          refine hsi.mono ?_
          rintro e w14 ⟨rfl, h14⟩
          have x14 : Below w13.heap.size w13 w14 := quiet_below h14 _
          have i14 := i13.below x14 (Nat.le_refl _)
          have b14 := b13.trans (x14.mono b13.size)
          clear hsi h14 x14 i13 b13
          go_wp2_with fail
          refine (Rows_at a0 cap l w14 i14 hl).mono ?_
          rintro e w15 ⟨v, rfl, o15, x15⟩
          obtain ⟨gR, cR, rfl, _, _⟩ := rowR o15 hN1
          have b15 := b14.trans (x15.mono b14.size)
          clear o15 x15 b14 i14
          go_wp2_with fail
          go_ret
          exact ⟨rfl, b15⟩

end Go.Proofs.YtbnfpcfoeojceaaDoor
end
