/- LinesRows: the walk. -/
import Derived.Test.YtbnfpcfoeojceaaDoorLrw
import Derived.Test.YtbnfpcfoeojceaaDoorLcl
import Derived.Deep.Cut
import Derived.Deep.DeepCutAuto
namespace Go.Proofs.YtbnfpcfoeojceaaDoor
open Go.ChangeShapes Go.WideShapes Go.ChangeAt Go.RowKit
attribute [local go_sem] Oper.semAt_some

def LiesR (W : World) (g : Nat) (E : List Ln) : Prop := ∀ k, k < E.length → W.cell? ⟨g, k * 3, none⟩ = some (.int .i64 ((E.getD k z4).2.1 : Int)) ∧ W.cell? ⟨g, k * 3 + 1, none⟩ = some (.int .i64 ((E.getD k z4).2.2.1 : Int)) ∧ W.cell? ⟨g, k * 3 + 2, none⟩ = some (.int .i64 ((E.getD k z4).2.2.2 : Int))
theorem LiesR.below {w w' : World} {B g : Nat} {E : List Ln} (h : LiesR w g E) (hb : Below B w w') (hg : g < B) : LiesR w' g E := fun k hk =>
  ⟨(hb.cell (p := ⟨g, _, none⟩) hg).trans (h k hk).1, (hb.cell (p := ⟨g, _, none⟩) hg).trans (h k hk).2.1, (hb.cell (p := ⟨g, _, none⟩) hg).trans (h k hk).2.2⟩
theorem rowR {W : World} {B : Nat} {v : Value} {E : List Ln} (h : W.ownsRow B 34 3 v E.length (rowsV E)) (h0 : 0 < E.length) : ∃ g c, v = .slice (some ⟨g, 0, none⟩) E.length c ∧ LiesR W g E ∧ g < W.heap.size := by
  have hc := h
  rcases h.2 with ⟨rfl, hz⟩ | ⟨g, cap, cur, rfl, _, hg, hle, _⟩
  · omega
  · refine ⟨g, cap, rfl, fun k hk => ?_, heap_lt hg⟩
    obtain ⟨r0, r1, r2⟩ := rowsV_get E hk
    have c0 := World.ownsRow.cells hc rfl _ _ r0
    have c1 := World.ownsRow.cells hc rfl _ _ r1
    have c2 := World.ownsRow.cells hc rfl _ _ r2
    rw [Addr.add_lit, Nat.zero_add] at c0 c1 c2
    exact ⟨c0, c1, c2⟩
theorem ln_bound {l : List Int} {i : Nat} (h : i < (LN l).length) : ((LN l).getD i z4).2.1 ≤ l.length ∧ ((LN l).getD i z4).2.2.1 ≤ l.length ∧ ((LN l).getD i z4).2.2.2 ≤ l.length := by
  obtain ⟨_, _, k⟩ := LN_at l h
  have := k.sc
  have := k.cn
  have := k.nl
  omega
structure LrS (w : World) (a0 : Option Addr) (cap : Nat) (l : List Int) (gT gR : Nat) (X : World) : Prop where
  s : LcS w a0 cap l gT [] X
  r : LiesR X gR (LN l)
  z : gR < X.heap.size
theorem LrS.on {w : World} {a0 : Option Addr} {cap : Nat} {l : List Int} {gT gR : Nat} {X Y : World} (h : LrS w a0 cap l gT gR X) (hb : Below X.heap.size X Y) : LrS w a0 cap l gT gR Y :=
  ⟨h.s.on hb, h.r.below hb h.z, Nat.lt_of_lt_of_le h.z hb.size⟩

set_option maxRecDepth 100000 in
set_option maxHeartbeats 8000000 in
theorem LinesRows_any (a0 : Option Addr) (cap : Nat) (l : List Int) (kk : Int) (w : World) (hB : IsB w a0 cap l) (hcap : cap ≤ 1048576) (_hk : (Lit.int .i64 kk).wf = true) (hT : Tab w) :
    Calls Tryd.prog 3 #[.slice a0 l.length cap, .int .i64 kk] w fun e w' => e = .returned (.bool true) ∧ Below w.heap.size w w' := by
  clear _hk
  have hl := hB.1
  have L0 : Lw w a0 cap l [] w := ⟨hB, hT, Below.refl _ _, fun y hy => by cases hy⟩
  clear hB hT
  have hN1 := LN_pos l
  have hN2 := LN_len l
  have h1 := awake7_any w L0.t
  go_enter Tryd.func3, Tryd.ntmps3
  go_wp2_with fail
  refine h1.mono ?_
  rintro e y1 ⟨rfl, x1⟩
  have L1 := L0.on x1
  clear h1 x1 L0
  go_wp2_with fail
  refine (Rows_at a0 cap l y1 L1.b (by omega)).mono ?_
  rintro e y2 ⟨v, rfl, o2, x2⟩
  have L2 := L1.on x2
  obtain ⟨gR, cR, rfl, lR, zR⟩ := rowR o2 hN1
  clear x2 L1 o2
  go_wp2_with fail
  refine (own7_at a0 cap l y2 L2.b).mono ?_
  rintro e y3 ⟨a3, c3, rfl, j3, x3⟩
  have L3 := L2.on x3
  have lR3 := lR.below x3 zR
  have zR3 := Nat.lt_of_lt_of_le zR x3.size
  clear x3 L2 lR zR
  go_wp2_with fail
  refine (Starts_at a3 c3 l y3 j3 (by omega)).mono ?_
  rintro e y4 ⟨v, rfl, o4, x4⟩
  have L4 := L3.on x4
  have lR4 := lR3.below x4 zR3
  have zR4 := Nat.lt_of_lt_of_le zR3 x4.size
  rw [sts_vals, ← sts_len] at o4
  obtain ⟨gT, cT, rfl, lT, zT⟩ := rowI (ps := sts l) o4 (by intro h; have := sts_len l; rw [h] at this; simp at this; omega)
  rw [sts_len]
  have HS : LrS w a0 cap l gT gR y4 := ⟨⟨L4, lT, zT⟩, lR4, zR4⟩
  clear x4 L3 o4 j3 L4 lT zT lR3 zR3 lR4 zR4
  go_wp2_with fail
  refine (own7_at a0 cap l y4 HS.s.L.b).mono ?_
  rintro e y5 ⟨a5, c5, rfl, j5, x5⟩
  have HS5 := HS.on x5
  clear x5 HS
  go_wp2_with fail
  refine (Count_at a5 c5 l y5 j5).mono ?_
  rintro e y6 ⟨rfl, x6⟩
  have HS6 := HS5.on x6
  clear x6 HS5 j5
  go_wp2_with fail
  generalize hNN : (LN l).length = N at *
  have HNN := hide hNN
  clear hNN
  go_loopw [7, 8, 9, 10, 11] (fun v v8 v9 v10 v11 wx => ∃ k : Nat, v = .int .i64 (k : Int) ∧ k ≤ N ∧ (∃ z, v8 = z) ∧ (∃ z, v9 = z) ∧ (∃ z, v10 = z) ∧ (∃ z, v11 = z) ∧ Hid (LrS w a0 cap l gT gR wx)) (fun v _ _ _ _ _ => N - (intOf v).toNat)
  case atStart => exact ⟨0, rfl, Nat.zero_le _, ⟨_, rfl⟩, ⟨_, rfl⟩, ⟨_, rfl⟩, ⟨_, rfl⟩, hide HS6⟩
  case round =>
    clear HS6
    obtain ⟨k, rfl, hk, ⟨z8, rfl⟩, ⟨z9, rfl⟩, ⟨z10, rfl⟩, ⟨z11, rfl⟩, HI⟩ := hrel
    have HS := unhide HI
    clear HI
    by_cases hlt : k < N ∧ k < 300
    · have t1 := lt_int hlt.1
      have t2 : decide ((k : Int) < 300) = true := decide_eq_true (by omega)
      have hLk : k < (LN l).length := by rw [unhide HNN]; exact hlt.1
      have hkN := hlt.1
      have hnb : nbr l (k : Int) = some ((LN l).getD k z4) := by unfold nbr; rw [if_pos ⟨by omega, by omega⟩]; simp
      have HLi := hide fun a c X j => Line_at a c l (k : Int) X j
      rw [hnb] at HLi
      unfold liV at HLi
      dsimp only at HLi
      have HST : Hid ((sts l).getD k 0 = ((LN l).getD k z4).2.1) := hide (sts_get hLk)
      have HC := hide fun (X : World) (h : LrS w a0 cap l gT gR X) => h.r k hLk
      clear hlt hnb
      generalize ((LN l).getD k z4).2.1 = st at *
      generalize ((LN l).getD k z4).2.2.1 = ct at *
      generalize ((LN l).getD k z4).2.2.2 = nx at *
      go_wp2_with fail
      refine (own7_at a0 cap l wr HS.s.L.b).mono ?_
      rintro e ya ⟨a4, c4, rfl, j4, x4⟩
      have HSa := HS.on x4
      clear HS x4
      go_wp2_with fail
      refine (unhide HLi a4 c4 ya j4).mono ?_
      rintro e yb ⟨rfl, x5⟩
      have HSb := HSa.on x5
      clear x5 HSa j4 HLi
      obtain ⟨e0', e1, e2⟩ := unhide HC _ HSb
      have cT' : yb.cell? ⟨gT, k, none⟩ = some (.int .i64 (st : Int)) := by have := HSb.s.t k (by rw [sts_len]; exact hLk); rw [unhide HST] at this; exact this
      have hwk : wrap64 ((k : Int) + 1) = (k : Int) + 1 := wrap_nat k 1 (by omega)
      clear hLk HC HST
      go_wp2_with fail
      go_roundw
      case rel => exact ⟨k + 1, by go_num, by omega, ⟨_, rfl⟩, ⟨_, rfl⟩, ⟨_, rfl⟩, ⟨_, rfl⟩, hide HSb⟩
      case measure => simp [intOf]; omega
    · have hor : (decide ((k : Int) < (N : Int)) = false ∧ k = N) ∨ (decide ((k : Int) < (N : Int)) = true ∧ decide ((k : Int) < 300) = false ∧ decide (k < 300) = false) := by
        by_cases h : k < N
        · exact Or.inr ⟨decide_eq_true (by omega), decide_eq_false (by omega), decide_eq_false (by omega)⟩
        · exact Or.inl ⟨decide_eq_false (by omega), by omega⟩
      clear hlt hk
      have hnk : nbr l kk = if 0 ≤ kk ∧ kk < (N : Int) then some ((LN l).getD kk.toNat z4) else none := by unfold nbr; rw [unhide HNN]
      have HLi := hide fun a c X j => Line_at a c l kk X j
      rw [hnk] at HLi
      clear hnk
      by_cases hin : 0 ≤ kk ∧ kk < (N : Int)
      · have t3 : decide (kk ≥ 0) = true := decide_eq_true (by omega)
        have t3' : decide (0 ≤ kk) = true := decide_eq_true (by omega)
        have t4 : decide (kk < (N : Int)) = true := decide_eq_true (by omega)
        have bel := HS.s.L.d
        clear HLi HS hin
        rcases hor with ⟨t1, rfl⟩ | ⟨t1, t2, t2'⟩
        · clear t1
          go_wp2_with fail
          all_goals go_ret
          all_goals exact ⟨rfl, bel⟩
        · go_wp2_with fail
          all_goals go_ret
          all_goals exact ⟨rfl, bel⟩
      · rw [if_neg hin] at HLi
        unfold liV at HLi
        dsimp only at HLi
        have h3 : decide (kk ≥ 0) = false ∧ decide (0 ≤ kk) = false ∨ (decide (kk ≥ 0) = true ∧ decide (0 ≤ kk) = true ∧ decide (kk < (N : Int)) = false) := by
          by_cases h : 0 ≤ kk
          · exact Or.inr ⟨decide_eq_true (by omega), decide_eq_true (by omega), decide_eq_false (by omega)⟩
          · exact Or.inl ⟨decide_eq_false (by omega), decide_eq_false (by omega)⟩
        clear hin
        rcases hor with ⟨t1, rfl⟩ | ⟨t1, t2, t2'⟩
        · clear t1
          rcases h3 with ⟨t3, t4⟩ | ⟨t3, t4, t5⟩
          · go_wp2_with fail
            refine (own7_at a0 cap l wr HS.s.L.b).mono ?_
            rintro e ya ⟨a4, c4, rfl, j4, x4⟩
            have HSa := HS.on x4
            clear x4
            go_wp2_with fail
            refine (unhide HLi a4 c4 ya j4).mono ?_
            rintro e yb ⟨rfl, x5⟩
            have HSb := HSa.on x5
            have bel := HSb.s.L.d
            clear x5 HSa HSb HS HLi j4
            go_wp2_with fail
            go_ret
            exact ⟨rfl, bel⟩
          · go_wp2_with fail
            refine (own7_at a0 cap l wr HS.s.L.b).mono ?_
            rintro e ya ⟨a4, c4, rfl, j4, x4⟩
            have HSa := HS.on x4
            clear x4
            go_wp2_with fail
            refine (unhide HLi a4 c4 ya j4).mono ?_
            rintro e yb ⟨rfl, x5⟩
            have HSb := HSa.on x5
            have bel := HSb.s.L.d
            clear x5 HSa HSb HS HLi j4
            go_wp2_with fail
            go_ret
            exact ⟨rfl, bel⟩
        · rcases h3 with ⟨t3, t4⟩ | ⟨t3, t4, t5⟩
          · go_wp2_with fail
            all_goals refine (own7_at a0 cap l wr HS.s.L.b).mono ?_
            all_goals rintro e ya ⟨a4, c4, rfl, j4, x4⟩
            all_goals have HSa := HS.on x4
            all_goals clear x4
            all_goals go_wp2_with fail
            all_goals refine (unhide HLi a4 c4 ya j4).mono ?_
            all_goals rintro e yb ⟨rfl, x5⟩
            all_goals have HSb := HSa.on x5
            all_goals have bel := HSb.s.L.d
            all_goals clear x5 HSa HSb HS HLi j4
            all_goals go_wp2_with fail
            all_goals go_ret
            all_goals exact ⟨rfl, bel⟩
          · go_wp2_with fail
            all_goals refine (own7_at a0 cap l wr HS.s.L.b).mono ?_
            all_goals rintro e ya ⟨a4, c4, rfl, j4, x4⟩
            all_goals have HSa := HS.on x4
            all_goals clear x4
            all_goals go_wp2_with fail
            all_goals refine (unhide HLi a4 c4 ya j4).mono ?_
            all_goals rintro e yb ⟨rfl, x5⟩
            all_goals have HSb := HSa.on x5
            all_goals have bel := HSb.s.L.d
            all_goals clear x5 HSa HSb HS HLi j4
            all_goals go_wp2_with fail
            all_goals go_ret
            all_goals exact ⟨rfl, bel⟩

end Go.Proofs.YtbnfpcfoeojceaaDoor
