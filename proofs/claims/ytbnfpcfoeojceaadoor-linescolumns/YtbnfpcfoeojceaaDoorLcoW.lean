/- LinesColumns: the walk (written by wip/tools/lco.py). -/
import Derived.Test.YtbnfpcfoeojceaaDoorLcl
import Derived.Deep.Cut
import Derived.Deep.DeepCutAuto
namespace Go.Proofs.YtbnfpcfoeojceaaDoor
open Go.ChangeShapes Go.WideShapes Go.ChangeAt Go.RowKit
attribute [local go_sem] Oper.semAt_some

set_option maxRecDepth 100000 in
set_option maxHeartbeats 8000000 in
theorem LinesColumns_any (a0 : Option Addr) (cap : Nat) (l : List Int) (w : World) (hB : IsB w a0 cap l) (hT : Tab w) :
    Calls Tryd.prog 6 #[.slice a0 l.length cap] w fun e w' => e = .returned (.bool true) ∧ Below w.heap.size w w' := by
  have HLB := hide hB.2.2.2
  have HBT := hide (And.intro hB hT)
  have L0 : Lw w a0 cap l [] w := ⟨hB, hT, Below.refl _ _, fun y hy => by cases hy⟩
  clear hB hT
  have hN1 := LN_pos l
  have hN2 := LN_len l
  have h1 := awake7_any w L0.t
  go_enter Tryd.func6, Tryd.ntmps6
  go_wp2_with fail
  refine h1.mono ?_
  rintro e y1 ⟨rfl, x1⟩
  have L1 := L0.on x1
  clear h1 x1 L0
  go_wp2_with fail
  refine (Large_at a0 l.length cap y1).mono ?_
  rintro e w1' ⟨rfl, hw1⟩
  rw [hw1]
  clear hw1 w1'
  by_cases hL : 600 < l.length
  · have q1 : decide (600 < l.length) = true := decide_eq_true hL
    rw [q1]
    go_wp2_with fail
    go_ret
    exact ⟨rfl, L1.d⟩
  · have q1 : decide (600 < l.length) = false := decide_eq_false hL
    rw [q1]
    have hl6 : l.length ≤ 600 := by omega
    clear q1 hL
    go_wp2_with fail
    refine (own7_at a0 cap l y1 L1.b).mono ?_
    rintro e y2 ⟨a2, c2, rfl, j2, x2⟩
    have L2 := L1.on x2
    clear x2 L1
    go_wp2_with fail
    refine (Starts_at a2 c2 l y2 j2 (by omega)).mono ?_
    rintro e y3 ⟨v, rfl, o3, x3⟩
    have L3 := L2.on x3
    rw [sts_vals, ← sts_len] at o3
    obtain ⟨gT, cT, rfl, lT, zT⟩ := rowI (ps := sts l) o3 (by intro h; have := sts_len l; rw [h] at this; simp at this; omega)
    rw [sts_len]
    clear x3 L2 o3 j2
    have HS1 : LcS w a0 cap l gT [] y3 := ⟨L3, lT, zT⟩
    have HS2 := HS1.new 39 (w7 0 0 0 0 0 0 0)
    have HI : Hid (LcI w a0 cap l gT y3.heap.size 0 0 0 0 0 0 0 0 (y3.alloc (.cells (w7 0 0 0 0 0 0 0) 39))) := hide ⟨HS2, L3.d.size, zT, Or.inl rfl⟩
    rw [show w7 0 0 0 0 0 0 0 = (#[.int .i64 0, .int .i64 0, .int .i64 0, .int .i64 0, .int .i64 0, .int .i64 0, .int .i64 0] : Array Value) from rfl] at HI
    clear HS1 HS2 L3 lT zT
    go_wp2_with fail
    generalize y3.alloc (.cells #[.int .i64 0, .int .i64 0, .int .i64 0, .int .i64 0, .int .i64 0, .int .i64 0, .int .i64 0] 39) = y4 at *
    generalize y3.heap.size = gL at *
    generalize hNN : (LN l).length = N at *
    have HNN := hide hNN
    clear hNN
    go_loopw [5] (fun v wx => ∃ p : Nat, v = .int .i64 (p : Int) ∧ p ≤ l.length + 1 ∧ ∃ q r u k b cr cu, Hid (LcI w a0 cap l gT gL p q r u k b cr cu wx)) (fun v _ => l.length + 1 - (intOf v).toNat)
    case atStart => exact ⟨0, rfl, by omega, 0, 0, 0, 0, 0, 0, 0, HI⟩
    case round =>
      clear HI
      obtain ⟨p, rfl, hp, q', r', u', k', b', cr', cu', HI⟩ := hrel
      have zL := (unhide HI).z
      have gTL := (unhide HI).g
      have HV := hide (unhide HI).v
      have HS := (unhide HI).s
      clear HI
      unfold w7 at HS
      by_cases hlt : p ≤ l.length
      · have t1 : decide ((p : Int) ≤ (l.length : Int)) = true := decide_eq_true (by omega)
        have hWV := whV_in hlt
        unfold whA at hWV
        obtain ⟨st, rs, us, f1, f2, f3, f4, f5, f6, f7, f8⟩ := col_at (unhide HLB) hlt
        rw [unhide HNN] at f2
        have f3' : (sts l).getD (wL l p) 0 = st := by rw [sts_get (by rw [unhide HNN]; exact f2)]; exact f3
        have HNX : Hid (p = 0 ∨ ∃ p0, p = p0 + 1 ∧ ((flr l (p0 + 1) = flr l p0 ∧ wR l (p0 + 1) = wR l p0 ∧ wU l (p0 + 1) = wU l p0 ∧ wL l (p0 + 1) = wL l p0) ∨
            (flr l p0 < flr l (p0 + 1) ∧ wR l (p0 + 1) = wR l p0 + 1 ∧ wU l p0 < wU l (p0 + 1) ∧ wL l p0 ≤ wL l (p0 + 1) ∧ (wL l (p0 + 1) = wL l p0 → wCR l (p0 + 1) = wCR l p0 + 1 ∧ wCU l p0 < wCU l (p0 + 1))))) := hide (by
          rcases Nat.eq_zero_or_pos p with h | h
          · exact Or.inl h
          · obtain ⟨p0, rfl⟩ : ∃ p0, p = p0 + 1 := ⟨p - 1, by omega⟩
            exact Or.inr ⟨p0, rfl, col_next (unhide HLB) hlt⟩)
        have HPQ : Hid (p = 0 ∨ (k' ≤ wL l p ∧ ((flr l p = q' ∧ wR l p = r' ∧ wU l p = u' ∧ wL l p = k') ∨ (q' < flr l p ∧ r' < wR l p ∧ u' < wU l p ∧ (wL l p = k' → wCR l p = cr' + 1 ∧ cu' < wCU l p))))) := hide (by
          rcases unhide HNX with h | ⟨p0, rfl, h⟩
          · exact Or.inl h
          · refine Or.inr ?_
            rcases unhide HV with h0 | ⟨v1, v2, v3, v4, v5, v6⟩
            · omega
            · rw [Nat.add_sub_cancel] at v1 v2 v3 v4 v5 v6
              rw [v1, v2, v3, v4, v5, v6]
              rcases h with ⟨g1, g2, g3, g4⟩ | ⟨g1, g2, g3, g4, g5⟩
              · exact ⟨by omega, Or.inl ⟨g1, g2, g3, g4⟩⟩
              · exact ⟨g4, Or.inr ⟨g1, by omega, g3, g5⟩⟩)
        have HWV := hide hWV
        have HUB := hide (col_le (unhide HLB) hlt)
        have HF := hide (And.intro f6 (And.intro f7 f8))
        clear f6 f7 f8
        have HWS := hide f5
        have HEQ : Hid (∃ q r u k b cr cu, q = flr l p ∧ r = wR l p ∧ u = wU l p ∧ k = wL l p ∧ b = wB l p ∧ cr = wCR l p ∧ cu = wCU l p) := hide ⟨_, _, _, _, _, _, _, rfl, rfl, rfl, rfl, rfl, rfl, rfl⟩
        clear HNX hWV f5 f3 HV
        have HLST : Hid (p = l.length → flr l p = l.length ∧ wL l p + 1 = N) := hide (fun h => by subst h; have := col_last l; rw [unhide HNN] at this; exact this)
        have HFIN : Hid (flr l p = flr l (p + 1 - 1) ∧ wR l p = wR l (p + 1 - 1) ∧ wU l p = wU l (p + 1 - 1) ∧ wL l p = wL l (p + 1 - 1) ∧ wCR l p = wCR l (p + 1 - 1) ∧ wCU l p = wCU l (p + 1 - 1)) := hide (by rw [Nat.add_sub_cancel]; exact ⟨rfl, rfl, rfl, rfl, rfl, rfl⟩)
        generalize flr l p = q at *
        generalize wR l p = r at *
        generalize wU l p = u at *
        generalize wL l p = k at *
        generalize wB l p = b at *
        generalize wCR l p = cr at *
        generalize wCU l p = cu at *
        have hub := unhide HUB
        clear HEQ
        go_wp2_with fail
        refine (own7_at a0 cap l wr HS.L.b).mono ?_
        rintro e ya ⟨a4, c4, rfl, j4, x4⟩
        have HSa := HS.on x4
        clear HS x4
        go_wp2_with fail
        have hwh := Where_at a4 c4 l (p : Int) ya j4 HSa.L.t
        rw [unhide HWV] at hwh
        refine hwh.mono ?_
        rintro e yb ⟨rfl, x5⟩
        have HSb := HSa.on x5
        clear hwh x5 HSa j4 HWV
        have HSc := HSb.new 39 #[.int .i64 (q : Int), .int .i64 (r : Int), .int .i64 (u : Int), .int .i64 (k : Int), .int .i64 (b : Int), .int .i64 (cr : Int), .int .i64 (cu : Int)]
        clear HSb
        go_upto_region 11 with fail
        generalize yb.alloc (.cells #[.int .i64 (q : Int), .int .i64 (r : Int), .int .i64 (u : Int), .int .i64 (k : Int), .int .i64 (b : Int), .int .i64 (cr : Int), .int .i64 (cu : Int)] 39) = yc at *
        generalize yb.heap.size = gW at *
        have kW : Cls yc gW _ _ := HSc.L.one
        obtain ⟨c0, c1, c2, c3, c4, c5, c6⟩ := cells7w kW
        have t100 : decide ((k : Int) < 0) = false := decide_eq_false (by omega)
        have t101 : decide ((k : Int) ≥ (N : Int)) = false := decide_eq_false (by omega)
        have t102 : decide ((N : Int) ≤ (k : Int)) = false := decide_eq_false (by omega)
        have t103 : decide ((q : Int) > (p : Int)) = false := decide_eq_false (by omega)
        have t104 : decide ((p : Int) < (q : Int)) = false := decide_eq_false (by omega)
        go_upto_region 13 with fail
        clear c0 c1 c2 c3 c4 c5 c6
        go_cut [8, 9] (fun pb e wz => e = .int .i64 0 ∧ ∃ gB, pb = .pointer (some ⟨gB, 0, none⟩) ∧ Hid (LcS w a0 cap l gT [(gW, 39, #[.int .i64 (q : Int), .int .i64 (r : Int), .int .i64 (u : Int), .int .i64 (k : Int), .int .i64 (b : Int), .int .i64 (cr : Int), .int .i64 (cu : Int)]), (gL, 39, #[.int .i64 (q' : Int), .int .i64 (r' : Int), .int .i64 (u' : Int), .int .i64 (k' : Int), .int .i64 (b' : Int), .int .i64 (cr' : Int), .int .i64 (cu' : Int)])] wz) ∧ Hid (Cls wz gB 39 #[.int .i64 (st : Int), .int .i64 (rs : Int), .int .i64 (us : Int), .int .i64 (k : Int), .int .i64 0, .int .i64 0, .int .i64 0]) ∧ Hid (yc.heap.size ≤ gB))
        case first =>
          have HS0 : LcS w a0 cap l gT [(gW, 39, #[.int .i64 (q : Int), .int .i64 (r : Int), .int .i64 (u : Int), .int .i64 (k : Int), .int .i64 (b : Int), .int .i64 (cr : Int), .int .i64 (cu : Int)]), (gL, 39, #[.int .i64 (q' : Int), .int .i64 (r' : Int), .int .i64 (u' : Int), .int .i64 (k' : Int), .int .i64 (b' : Int), .int .i64 (cr' : Int), .int .i64 (cu' : Int)])] yc.drew := HSc.on (drew_belowL yc)
          have HSW : Hid (∀ X : World, Below yc.drew.heap.size yc.drew X → (fun w' : World => w'.cell? ⟨gW, 3, none⟩ = some (.int .i64 (k : Int)) ∧ w'.cell? ⟨gT, k, none⟩ = some (.int .i64 (st : Int))) X) := hide (fun X hX => ⟨((HS0.on hX).L.one.cell 3).trans rfl, by have := (HS0.on hX).t k (by rw [sts_len, unhide HNN]; exact f2); rw [f3'] at this; exact this⟩)
          have D := Below.refl yc.drew.heap.size yc.drew
          have zy : yc.heap.size ≤ yc.drew.heap.size := (drew_belowL yc).size
          clear HSc kW
          refine regionL (S := fun w' => w'.cell? ⟨gW, 3, none⟩ = some (.int .i64 (k : Int)) ∧ w'.cell? ⟨gT, k, none⟩ = some (.int .i64 (st : Int))) (fun _ => false) (by kernel_rfl) ?_
          generalize yc.drew = y0 at *
          refine anyL_take (i := 0) (v := ?vq0) rfl (by kernel_rfl) (by kernel_rfl) (by kernel_rfl) (by kernel_rfl) (fun _ _ _ h => h) (Or.inl ⟨by rfl, ?hq0⟩) (unhide HSW _ D) ?_
          case hq0 => (intro w hSw; (try dsimp only at hSw); go_simp) <;> with_reducible rfl
          simp only [Act.put, List.getElem_toArray, List.getElem_cons_zero, List.setIfInBounds_toArray, List.set_cons_zero, List.set_cons_succ]
          refine anyL_take (i := 2) (v := ?vq1) rfl (by kernel_rfl) (by kernel_rfl) (by kernel_rfl) (by kernel_rfl) (fun _ _ _ h => h) (Or.inl ⟨by rfl, ?hq1⟩) (unhide HSW _ D) ?_
          case hq1 => (intro w hSw; (try dsimp only at hSw); go_simp) <;> with_reducible rfl
          simp only [Act.put, List.getElem_toArray, List.getElem_cons_zero, List.getElem_cons_succ, List.setIfInBounds_toArray, List.set_cons_zero, List.set_cons_succ]
          refine anyL_take (i := 3) (v := ?vq2) rfl (by kernel_rfl) (by kernel_rfl) (by kernel_rfl) (by kernel_rfl) (fun _ _ _ h => h) (Or.inl ⟨by rfl, ?hq2⟩) (unhide HSW _ D) ?_
          case hq2 => (intro w hSw; (try dsimp only at hSw); go_simp) <;> with_reducible rfl
          simp only [Act.put, List.getElem_toArray, List.getElem_cons_zero, List.getElem_cons_succ, List.setIfInBounds_toArray, List.set_cons_zero, List.set_cons_succ]
          refine anyL_take (i := 4) (v := ?vq3) rfl (by kernel_rfl) (by kernel_rfl) (by kernel_rfl) (by kernel_rfl) (fun _ _ _ h => h) (Or.inl ⟨by rfl, ?hq3⟩) (unhide HSW _ D) ?_
          case hq3 => (intro w hSw; (try dsimp only at hSw); go_simp) <;> with_reducible rfl
          simp only [Act.put, List.getElem_toArray, List.getElem_cons_zero, List.getElem_cons_succ, List.setIfInBounds_toArray, List.set_cons_zero, List.set_cons_succ]
          refine anyL_take (i := 5) (v := ?vq4) rfl (by kernel_rfl) (by kernel_rfl) (by kernel_rfl) (by kernel_rfl) (fun _ _ _ h => h) (Or.inl ⟨by rfl, ?hq4⟩) (unhide HSW _ D) ?_
          case hq4 => (intro w hSw; (try dsimp only at hSw); go_simp) <;> with_reducible rfl
          simp only [Act.put, List.getElem_toArray, List.getElem_cons_zero, List.getElem_cons_succ, List.setIfInBounds_toArray, List.set_cons_zero, List.set_cons_succ]
          refine anyL_take (i := 6) (v := ?vq5) rfl (by kernel_rfl) (by kernel_rfl) (by kernel_rfl) (by kernel_rfl) (fun _ _ _ h => h) (Or.inl ⟨by rfl, ?hq5⟩) (unhide HSW _ D) ?_
          case hq5 => (intro w hSw; (try dsimp only at hSw); go_simp) <;> with_reducible rfl
          simp only [Act.put, List.getElem_toArray, List.getElem_cons_zero, List.getElem_cons_succ, List.setIfInBounds_toArray, List.set_cons_zero, List.set_cons_succ]
          refine anyL_ready (rs := [1, 11]) (by kernel_rfl) (by simp) ?_
          refine AllL.cons rfl (fun K hK => ?_) (AllL.cons rfl (fun K hK => ?_) AllL.nil)
          · go_simp
            refine (own7_at a0 cap l y0 (HS0.on D).L.b).mono ?_
            rintro y z5 ⟨a5, c5, rfl, j5, x5⟩
            have D5 := D.trans (x5.mono D.size)
            refine unhide hK _ _ (fun _ => unhide HSW _ D5) ?_
            clear hK K x5
            refine anyL_ready (rs := [7, 11]) (by kernel_rfl) (by simp) ?_
            refine AllL.cons rfl (fun K hK => ?_) (AllL.cons rfl (fun K hK => ?_) AllL.nil)
            · go_simp
              have hwh := Where_at a5 c5 l (st : Int) z5 j5 (HS0.on D5).L.t
              rw [unhide HWS] at hwh
              unfold whA at hwh
              refine hwh.mono ?_
              rintro y z6 ⟨rfl, x6⟩
              clear hwh
              have D6 := D5.trans (x6.mono D5.size)
              refine unhide hK _ _ (fun _ => unhide HSW _ D6) ?_
              clear hK K x6
              refine anyL_take (i := 8) (v := ?vq6) rfl (by kernel_rfl) (by kernel_rfl) (by kernel_rfl) (by kernel_rfl) (fun _ _ _ h => h) (Or.inl ⟨by rfl, ?hq6⟩) (unhide HSW _ D6) ?_
              case hq6 => (intro w hSw; (try dsimp only at hSw); go_simp) <;> with_reducible rfl
              simp only [Act.put, List.getElem_toArray, List.getElem_cons_zero, List.getElem_cons_succ, List.setIfInBounds_toArray, List.set_cons_zero, List.set_cons_succ]
              refine anyL_take (i := 9) (v := ?vq7) rfl (by kernel_rfl) (by kernel_rfl) (by kernel_rfl) (by kernel_rfl) (fun _ _ _ h => h) (Or.inl ⟨by rfl, ?hq7⟩) (unhide HSW _ D6) ?_
              case hq7 => (intro w hSw; (try dsimp only at hSw); go_simp) <;> with_reducible rfl
              simp only [Act.put, List.getElem_toArray, List.getElem_cons_zero, List.getElem_cons_succ, List.setIfInBounds_toArray, List.set_cons_zero, List.set_cons_succ]
              refine anyL_take (i := 10) (v := ?vq8) rfl (by kernel_rfl) (by kernel_rfl) (by kernel_rfl) (by kernel_rfl) (fun _ _ _ h => h) (Or.inl ⟨by rfl, ?hq8⟩) (unhide HSW _ D6) ?_
              case hq8 => (intro w hSw; (try dsimp only at hSw); go_simp) <;> with_reducible rfl
              simp only [Act.put, List.getElem_toArray, List.getElem_cons_zero, List.getElem_cons_succ, List.setIfInBounds_toArray, List.set_cons_zero, List.set_cons_succ]
              refine anyL_ready (rs := [11]) (by kernel_rfl) (by simp) ?_
              refine AllL.cons rfl (fun K hK => ?_) AllL.nil
              go_simp
              have x7 := (Below.refl z6.heap.size z6).alloc (Nat.le_refl _) (.cells #[.int .i64 0, .int .i64 0, .int .i64 0, .int .i64 0, .int .i64 0, .int .i64 0, .int .i64 0] 39)
              have B7 := Cls.new z6 39 #[.int .i64 0, .int .i64 0, .int .i64 0, .int .i64 0, .int .i64 0, .int .i64 0, .int .i64 0]
              have D7 := D6.trans (x7.mono D6.size)
              refine unhide hK _ _ (fun _ => unhide HSW _ D7) ?_
              clear hK K x7
              generalize z6.alloc (.cells #[.int .i64 0, .int .i64 0, .int .i64 0, .int .i64 0, .int .i64 0, .int .i64 0, .int .i64 0] 39) = z7 at *
              generalize hgB : z6.heap.size = gB at B7 ⊢
              have zb : y0.heap.size ≤ gB := by rw [← hgB]; exact D6.size
              clear hgB
              refine anyL_ready (rs := [12]) (by kernel_rfl) (by simp) ?_
              refine AllL.cons rfl (fun K hK => ?_) AllL.nil
              obtain ⟨p0, p1, p2, p3, p4, p5, p6⟩ := cells7w B7
              have f0 := B7.frozen 0
              have f1 := B7.frozen 1
              have f2 := B7.frozen 2
              have f3 := B7.frozen 3
              have f4 := B7.frozen 4
              have f5 := B7.frozen 5
              have f6 := B7.frozen 6
              obtain ⟨s1, s2⟩ := sets7w z7 39 (.int .i64 (st : Int)) (.int .i64 (rs : Int)) (.int .i64 (us : Int)) (.int .i64 (k : Int)) (.int .i64 0) (.int .i64 0) (.int .i64 0) B7
              have D8 := D7.trans (s2.mono zb)
              go_simp
              refine unhide hK _ _ (fun _ => unhide HSW _ D8) ?_
              clear hK K p0 p1 p2 p3 p4 p5 p6 f0 f1 f2 f3 f4 f5 f6 s2
              generalize ((((((z7.setCell ⟨gB, 0, none⟩ (.int .i64 (st : Int))).setCell ⟨gB, 1, none⟩ (.int .i64 (rs : Int))).setCell ⟨gB, 2, none⟩ (.int .i64 (us : Int))).setCell ⟨gB, 3, none⟩ (.int .i64 (k : Int))).setCell ⟨gB, 4, none⟩ (.int .i64 0)).setCell ⟨gB, 5, none⟩ (.int .i64 0)).setCell ⟨gB, 6, none⟩ (.int .i64 0) = z8 at *
              refine anyL_take (i := 13) (v := ?vq9) rfl (by kernel_rfl) (by kernel_rfl) (by kernel_rfl) (by kernel_rfl) (fun _ _ _ h => h) (Or.inl ⟨by rfl, ?hq9⟩) (unhide HSW _ D8) ?_
              case hq9 => (intro w hSw; (try dsimp only at hSw); go_simp) <;> with_reducible rfl
              simp only [Act.put, List.getElem_toArray, List.getElem_cons_zero, List.getElem_cons_succ, List.setIfInBounds_toArray, List.set_cons_zero, List.set_cons_succ]
              refine anyL_done (by kernel_rfl) ?_ _
              go_wp2_with fail
              go_meet
              exact ⟨rfl, gB, rfl, hide (HS0.on D8), hide s1, hide (Nat.le_trans zy zb)⟩
            · go_simp
              have x9 := (Below.refl z5.heap.size z5).alloc (Nat.le_refl _) (.cells #[.int .i64 0, .int .i64 0, .int .i64 0, .int .i64 0, .int .i64 0, .int .i64 0, .int .i64 0] 39)
              have B9 := Cls.new z5 39 #[.int .i64 0, .int .i64 0, .int .i64 0, .int .i64 0, .int .i64 0, .int .i64 0, .int .i64 0]
              have j9 := j5.below x9 (Nat.le_refl _)
              have D9 := D5.trans (x9.mono D5.size)
              refine unhide hK _ _ (fun _ => unhide HSW _ D9) ?_
              clear hK K x9
              generalize z5.alloc (.cells #[.int .i64 0, .int .i64 0, .int .i64 0, .int .i64 0, .int .i64 0, .int .i64 0, .int .i64 0] 39) = z9 at *
              generalize hgB : z5.heap.size = gB at B9 ⊢
              have zb : y0.heap.size ≤ gB := by rw [← hgB]; exact D5.size
              clear hgB
              refine anyL_ready (rs := [7]) (by kernel_rfl) (by simp) ?_
              refine AllL.cons rfl (fun K hK => ?_) AllL.nil
              go_simp
              have hwh := Where_at a5 c5 l (st : Int) z9 j9 (HS0.on D9).L.t
              rw [unhide HWS] at hwh
              unfold whA at hwh
              refine hwh.mono ?_
              rintro y z10 ⟨rfl, x10⟩
              clear hwh
              have D10 := D9.trans (x10.mono D9.size)
              have B10 := B9.below x10 B9.lt
              refine unhide hK _ _ (fun _ => unhide HSW _ D10) ?_
              clear hK K x10
              refine anyL_take (i := 8) (v := ?vq10) rfl (by kernel_rfl) (by kernel_rfl) (by kernel_rfl) (by kernel_rfl) (fun _ _ _ h => h) (Or.inl ⟨by rfl, ?hq10⟩) (unhide HSW _ D10) ?_
              case hq10 => (intro w hSw; (try dsimp only at hSw); go_simp) <;> with_reducible rfl
              simp only [Act.put, List.getElem_toArray, List.getElem_cons_zero, List.getElem_cons_succ, List.setIfInBounds_toArray, List.set_cons_zero, List.set_cons_succ]
              refine anyL_take (i := 9) (v := ?vq11) rfl (by kernel_rfl) (by kernel_rfl) (by kernel_rfl) (by kernel_rfl) (fun _ _ _ h => h) (Or.inl ⟨by rfl, ?hq11⟩) (unhide HSW _ D10) ?_
              case hq11 => (intro w hSw; (try dsimp only at hSw); go_simp) <;> with_reducible rfl
              simp only [Act.put, List.getElem_toArray, List.getElem_cons_zero, List.getElem_cons_succ, List.setIfInBounds_toArray, List.set_cons_zero, List.set_cons_succ]
              refine anyL_take (i := 10) (v := ?vq12) rfl (by kernel_rfl) (by kernel_rfl) (by kernel_rfl) (by kernel_rfl) (fun _ _ _ h => h) (Or.inl ⟨by rfl, ?hq12⟩) (unhide HSW _ D10) ?_
              case hq12 => (intro w hSw; (try dsimp only at hSw); go_simp) <;> with_reducible rfl
              simp only [Act.put, List.getElem_toArray, List.getElem_cons_zero, List.getElem_cons_succ, List.setIfInBounds_toArray, List.set_cons_zero, List.set_cons_succ]
              refine anyL_ready (rs := [12]) (by kernel_rfl) (by simp) ?_
              refine AllL.cons rfl (fun K hK => ?_) AllL.nil
              obtain ⟨p0, p1, p2, p3, p4, p5, p6⟩ := cells7w B10
              have f0 := B10.frozen 0
              have f1 := B10.frozen 1
              have f2 := B10.frozen 2
              have f3 := B10.frozen 3
              have f4 := B10.frozen 4
              have f5 := B10.frozen 5
              have f6 := B10.frozen 6
              obtain ⟨s1, s2⟩ := sets7w z10 39 (.int .i64 (st : Int)) (.int .i64 (rs : Int)) (.int .i64 (us : Int)) (.int .i64 (k : Int)) (.int .i64 0) (.int .i64 0) (.int .i64 0) B10
              have D11 := D10.trans (s2.mono zb)
              go_simp
              refine unhide hK _ _ (fun _ => unhide HSW _ D11) ?_
              clear hK K p0 p1 p2 p3 p4 p5 p6 f0 f1 f2 f3 f4 f5 f6 s2
              generalize ((((((z10.setCell ⟨gB, 0, none⟩ (.int .i64 (st : Int))).setCell ⟨gB, 1, none⟩ (.int .i64 (rs : Int))).setCell ⟨gB, 2, none⟩ (.int .i64 (us : Int))).setCell ⟨gB, 3, none⟩ (.int .i64 (k : Int))).setCell ⟨gB, 4, none⟩ (.int .i64 0)).setCell ⟨gB, 5, none⟩ (.int .i64 0)).setCell ⟨gB, 6, none⟩ (.int .i64 0) = z11 at *
              refine anyL_take (i := 13) (v := ?vq13) rfl (by kernel_rfl) (by kernel_rfl) (by kernel_rfl) (by kernel_rfl) (fun _ _ _ h => h) (Or.inl ⟨by rfl, ?hq13⟩) (unhide HSW _ D11) ?_
              case hq13 => (intro w hSw; (try dsimp only at hSw); go_simp) <;> with_reducible rfl
              simp only [Act.put, List.getElem_toArray, List.getElem_cons_zero, List.getElem_cons_succ, List.setIfInBounds_toArray, List.set_cons_zero, List.set_cons_succ]
              refine anyL_done (by kernel_rfl) ?_ _
              go_wp2_with fail
              go_meet
              exact ⟨rfl, gB, rfl, hide (HS0.on D11), hide s1, hide (Nat.le_trans zy zb)⟩
          · go_simp
            have x12 := (Below.refl y0.heap.size y0).alloc (Nat.le_refl _) (.cells #[.int .i64 0, .int .i64 0, .int .i64 0, .int .i64 0, .int .i64 0, .int .i64 0, .int .i64 0] 39)
            have B12 := Cls.new y0 39 #[.int .i64 0, .int .i64 0, .int .i64 0, .int .i64 0, .int .i64 0, .int .i64 0, .int .i64 0]
            have D12 := D.trans (x12.mono D.size)
            refine unhide hK _ _ (fun _ => unhide HSW _ D12) ?_
            clear hK K x12
            generalize y0.alloc (.cells #[.int .i64 0, .int .i64 0, .int .i64 0, .int .i64 0, .int .i64 0, .int .i64 0, .int .i64 0] 39) = z12 at *
            generalize hgB : y0.heap.size = gB at B12 ⊢
            have zb : y0.heap.size ≤ gB := by rw [← hgB]; exact D.size
            clear hgB
            refine anyL_ready (rs := [1]) (by kernel_rfl) (by simp) ?_
            refine AllL.cons rfl (fun K hK => ?_) AllL.nil
            go_simp
            refine (own7_at a0 cap l z12 (HS0.on D12).L.b).mono ?_
            rintro y z13 ⟨a13, c13, rfl, j13, x13⟩
            have D13 := D12.trans (x13.mono D12.size)
            have B13 := B12.below x13 B12.lt
            refine unhide hK _ _ (fun _ => unhide HSW _ D13) ?_
            clear hK K x13
            refine anyL_ready (rs := [7]) (by kernel_rfl) (by simp) ?_
            refine AllL.cons rfl (fun K hK => ?_) AllL.nil
            go_simp
            have hwh := Where_at a13 c13 l (st : Int) z13 j13 (HS0.on D13).L.t
            rw [unhide HWS] at hwh
            unfold whA at hwh
            refine hwh.mono ?_
            rintro y z14 ⟨rfl, x14⟩
            clear hwh
            have D14 := D13.trans (x14.mono D13.size)
            have B14 := B13.below x14 B13.lt
            refine unhide hK _ _ (fun _ => unhide HSW _ D14) ?_
            clear hK K x14
            refine anyL_take (i := 8) (v := ?vq14) rfl (by kernel_rfl) (by kernel_rfl) (by kernel_rfl) (by kernel_rfl) (fun _ _ _ h => h) (Or.inl ⟨by rfl, ?hq14⟩) (unhide HSW _ D14) ?_
            case hq14 => (intro w hSw; (try dsimp only at hSw); go_simp) <;> with_reducible rfl
            simp only [Act.put, List.getElem_toArray, List.getElem_cons_zero, List.getElem_cons_succ, List.setIfInBounds_toArray, List.set_cons_zero, List.set_cons_succ]
            refine anyL_take (i := 9) (v := ?vq15) rfl (by kernel_rfl) (by kernel_rfl) (by kernel_rfl) (by kernel_rfl) (fun _ _ _ h => h) (Or.inl ⟨by rfl, ?hq15⟩) (unhide HSW _ D14) ?_
            case hq15 => (intro w hSw; (try dsimp only at hSw); go_simp) <;> with_reducible rfl
            simp only [Act.put, List.getElem_toArray, List.getElem_cons_zero, List.getElem_cons_succ, List.setIfInBounds_toArray, List.set_cons_zero, List.set_cons_succ]
            refine anyL_take (i := 10) (v := ?vq16) rfl (by kernel_rfl) (by kernel_rfl) (by kernel_rfl) (by kernel_rfl) (fun _ _ _ h => h) (Or.inl ⟨by rfl, ?hq16⟩) (unhide HSW _ D14) ?_
            case hq16 => (intro w hSw; (try dsimp only at hSw); go_simp) <;> with_reducible rfl
            simp only [Act.put, List.getElem_toArray, List.getElem_cons_zero, List.getElem_cons_succ, List.setIfInBounds_toArray, List.set_cons_zero, List.set_cons_succ]
            refine anyL_ready (rs := [12]) (by kernel_rfl) (by simp) ?_
            refine AllL.cons rfl (fun K hK => ?_) AllL.nil
            obtain ⟨p0, p1, p2, p3, p4, p5, p6⟩ := cells7w B14
            have f0 := B14.frozen 0
            have f1 := B14.frozen 1
            have f2 := B14.frozen 2
            have f3 := B14.frozen 3
            have f4 := B14.frozen 4
            have f5 := B14.frozen 5
            have f6 := B14.frozen 6
            obtain ⟨s1, s2⟩ := sets7w z14 39 (.int .i64 (st : Int)) (.int .i64 (rs : Int)) (.int .i64 (us : Int)) (.int .i64 (k : Int)) (.int .i64 0) (.int .i64 0) (.int .i64 0) B14
            have D15 := D14.trans (s2.mono zb)
            go_simp
            refine unhide hK _ _ (fun _ => unhide HSW _ D15) ?_
            clear hK K p0 p1 p2 p3 p4 p5 p6 f0 f1 f2 f3 f4 f5 f6 s2
            generalize ((((((z14.setCell ⟨gB, 0, none⟩ (.int .i64 (st : Int))).setCell ⟨gB, 1, none⟩ (.int .i64 (rs : Int))).setCell ⟨gB, 2, none⟩ (.int .i64 (us : Int))).setCell ⟨gB, 3, none⟩ (.int .i64 (k : Int))).setCell ⟨gB, 4, none⟩ (.int .i64 0)).setCell ⟨gB, 5, none⟩ (.int .i64 0)).setCell ⟨gB, 6, none⟩ (.int .i64 0) = z15 at *
            refine anyL_take (i := 13) (v := ?vq17) rfl (by kernel_rfl) (by kernel_rfl) (by kernel_rfl) (by kernel_rfl) (fun _ _ _ h => h) (Or.inl ⟨by rfl, ?hq17⟩) (unhide HSW _ D15) ?_
            case hq17 => (intro w hSw; (try dsimp only at hSw); go_simp) <;> with_reducible rfl
            simp only [Act.put, List.getElem_toArray, List.getElem_cons_zero, List.getElem_cons_succ, List.setIfInBounds_toArray, List.set_cons_zero, List.set_cons_succ]
            refine anyL_done (by kernel_rfl) ?_ _
            go_wp2_with fail
            go_meet
            exact ⟨rfl, gB, rfl, hide (HS0.on D15), hide s1, hide (Nat.le_trans zy zb)⟩
        case rest =>
          obtain ⟨rfl, gB, rfl, HS5, kB5, zB5⟩ := hcut
          have HSd := unhide HS5
          have kB := unhide kB5
          have zB := unhide zB5
          have kW' : Cls wc gW _ _ := HSd.L.one
          have kL : Cls wc gL _ _ := HSd.L.two
          clear kW HS5 kB5 zB5 HSc
          obtain ⟨c0, c1, c2, c3, c4, c5, c6⟩ := cells7w kW'
          obtain ⟨d0, d1, d2, d3, d4, d5, d6⟩ := cells7w kB
          have cT : wc.cell? ⟨gT, k, none⟩ = some (.int .i64 (st : Int)) := by have := HSd.t k (by rw [sts_len, unhide HNN]; exact f2); rw [f3'] at this; exact this
          have s1 : IntKind.i64.wrap ((q : Int) - (b : Int)) = (st : Int) := by have := unhide HF; rw [IntKind.wrap_i64]; omega
          have s2 : IntKind.i64.wrap ((r : Int) - (cr : Int)) = (rs : Int) := by have := unhide HF; rw [IntKind.wrap_i64]; omega
          have s3 : IntKind.i64.wrap ((u : Int) - (cu : Int)) = (us : Int) := by have := unhide HF; rw [IntKind.wrap_i64]; omega
          have mq : ((q : Int) - (b : Int) != (st : Int)) = false := by have := unhide HF; simp; omega
          have mq' : ((q : Int) - (b : Int) == (st : Int)) = true := by have := unhide HF; simp; omega
          have mr : ((r : Int) - (cr : Int) != (rs : Int)) = false := by have := unhide HF; simp; omega
          have mr' : ((r : Int) - (cr : Int) == (rs : Int)) = true := by have := unhide HF; simp; omega
          have mu : ((u : Int) - (cu : Int) != (us : Int)) = false := by have := unhide HF; simp; omega
          have mu' : ((u : Int) - (cu : Int) == (us : Int)) = true := by have := unhide HF; simp; omega
          go_upto_region 16 with fail
          have H16 : Hid ((fun w' : World => (w'.cell? ⟨gW, 0, none⟩ = some (.int .i64 (q : Int)) ∧ w'.cell? ⟨gW, 1, none⟩ = some (.int .i64 (r : Int)) ∧ w'.cell? ⟨gW, 2, none⟩ = some (.int .i64 (u : Int)) ∧ w'.cell? ⟨gW, 3, none⟩ = some (.int .i64 (k : Int)) ∧ w'.cell? ⟨gW, 4, none⟩ = some (.int .i64 (b : Int)) ∧ w'.cell? ⟨gW, 5, none⟩ = some (.int .i64 (cr : Int)) ∧ w'.cell? ⟨gW, 6, none⟩ = some (.int .i64 (cu : Int))) ∧ w'.cell? ⟨gT, k, none⟩ = some (.int .i64 (st : Int)) ∧ w'.cell? ⟨gB, 1, none⟩ = some (.int .i64 (rs : Int)) ∧ w'.cell? ⟨gB, 2, none⟩ = some (.int .i64 (us : Int))) wc.drew) := hide ⟨⟨c0, c1, c2, c3, c4, c5, c6⟩, cT, d1, d2⟩
          have HSe := HSd.on (drew_belowL wc)
          have kBe := kB.below (drew_belowL wc) kB.lt
          clear c0 c1 c2 c3 c4 c5 c6 d0 d1 d2 d3 d4 d5 d6 cT HSd kB kW' kL
          refine regionL (S := fun w' => (w'.cell? ⟨gW, 0, none⟩ = some (.int .i64 (q : Int)) ∧ w'.cell? ⟨gW, 1, none⟩ = some (.int .i64 (r : Int)) ∧ w'.cell? ⟨gW, 2, none⟩ = some (.int .i64 (u : Int)) ∧ w'.cell? ⟨gW, 3, none⟩ = some (.int .i64 (k : Int)) ∧ w'.cell? ⟨gW, 4, none⟩ = some (.int .i64 (b : Int)) ∧ w'.cell? ⟨gW, 5, none⟩ = some (.int .i64 (cr : Int)) ∧ w'.cell? ⟨gW, 6, none⟩ = some (.int .i64 (cu : Int))) ∧ w'.cell? ⟨gT, k, none⟩ = some (.int .i64 (st : Int)) ∧ w'.cell? ⟨gB, 1, none⟩ = some (.int .i64 (rs : Int)) ∧ w'.cell? ⟨gB, 2, none⟩ = some (.int .i64 (us : Int))) (fun _ => false) (by kernel_rfl) ?_
          generalize wc.drew = ye at *
          refine anyL_take (i := 0) (v := ?vq18) rfl (by kernel_rfl) (by kernel_rfl) (by kernel_rfl) (by kernel_rfl) (fun _ _ _ h => h) (Or.inl ⟨by rfl, ?hq18⟩) (unhide H16) ?_
          case hq18 => (intro w hSw; (try dsimp only at hSw); go_simp) <;> with_reducible rfl
          simp only [Act.put, List.getElem_toArray, List.getElem_cons_zero, List.setIfInBounds_toArray, List.set_cons_zero, List.set_cons_succ]
          refine anyL_take (i := 1) (v := ?vq19) rfl (by kernel_rfl) (by kernel_rfl) (by kernel_rfl) (by kernel_rfl) (fun _ _ _ h => h) (Or.inl ⟨by rfl, ?hq19⟩) (unhide H16) ?_
          case hq19 => (intro w hSw; (try dsimp only at hSw); go_simp) <;> with_reducible rfl
          simp only [Act.put, List.getElem_toArray, List.getElem_cons_zero, List.getElem_cons_succ, List.setIfInBounds_toArray, List.set_cons_zero, List.set_cons_succ]
          refine anyL_take (i := 2) (v := ?vq20) rfl (by kernel_rfl) (by kernel_rfl) (by kernel_rfl) (by kernel_rfl) (fun _ _ _ h => h) (Or.inl ⟨by rfl, ?hq20⟩) (unhide H16) ?_
          case hq20 => (intro w hSw; (try dsimp only at hSw); go_simp) <;> with_reducible rfl
          simp only [Act.put, List.getElem_toArray, List.getElem_cons_zero, List.getElem_cons_succ, List.setIfInBounds_toArray, List.set_cons_zero, List.set_cons_succ]
          refine anyL_take (i := 3) (v := ?vq21) rfl (by kernel_rfl) (by kernel_rfl) (by kernel_rfl) (by kernel_rfl) (fun _ _ _ h => h) (Or.inl ⟨by rfl, ?hq21⟩) (unhide H16) ?_
          case hq21 => (intro w hSw; (try dsimp only at hSw); go_simp) <;> with_reducible rfl
          simp only [Act.put, List.getElem_toArray, List.getElem_cons_zero, List.getElem_cons_succ, List.setIfInBounds_toArray, List.set_cons_zero, List.set_cons_succ]
          refine anyL_take (i := 4) (v := ?vq22) rfl (by kernel_rfl) (by kernel_rfl) (by kernel_rfl) (by kernel_rfl) (fun _ _ _ h => h) (Or.inl ⟨by rfl, ?hq22⟩) (unhide H16) ?_
          case hq22 => (intro w hSw; (try dsimp only at hSw); go_simp) <;> with_reducible rfl
          simp only [Act.put, List.getElem_toArray, List.getElem_cons_zero, List.getElem_cons_succ, List.setIfInBounds_toArray, List.set_cons_zero, List.set_cons_succ]
          refine anyL_take (i := 5) (v := ?vq23) rfl (by kernel_rfl) (by kernel_rfl) (by kernel_rfl) (by kernel_rfl) (fun _ _ _ h => h) (Or.inl ⟨by rfl, ?hq23⟩) (unhide H16) ?_
          case hq23 => (intro w hSw; (try dsimp only at hSw); go_simp) <;> with_reducible rfl
          simp only [Act.put, List.getElem_toArray, List.getElem_cons_zero, List.getElem_cons_succ, List.setIfInBounds_toArray, List.set_cons_zero, List.set_cons_succ]
          refine anyL_take (i := 6) (v := ?vq24) rfl (by kernel_rfl) (by kernel_rfl) (by kernel_rfl) (by kernel_rfl) (fun _ _ _ h => h) (Or.inl ⟨by rfl, ?hq24⟩) (unhide H16) ?_
          case hq24 => (intro w hSw; (try dsimp only at hSw); go_simp) <;> with_reducible rfl
          simp only [Act.put, List.getElem_toArray, List.getElem_cons_zero, List.getElem_cons_succ, List.setIfInBounds_toArray, List.set_cons_zero, List.set_cons_succ]
          refine anyL_take (i := 7) (v := ?vq25) rfl (by kernel_rfl) (by kernel_rfl) (by kernel_rfl) (by kernel_rfl) (fun _ _ _ h => h) (Or.inl ⟨by rfl, ?hq25⟩) (unhide H16) ?_
          case hq25 => (intro w hSw; (try dsimp only at hSw); go_simp) <;> with_reducible rfl
          simp only [Act.put, List.getElem_toArray, List.getElem_cons_zero, List.getElem_cons_succ, List.setIfInBounds_toArray, List.set_cons_zero, List.set_cons_succ]
          refine anyL_take (i := 8) (v := ?vq26) rfl (by kernel_rfl) (by kernel_rfl) (by kernel_rfl) (by kernel_rfl) (fun _ _ _ h => h) (Or.inl ⟨by rfl, ?hq26⟩) (unhide H16) ?_
          case hq26 => (intro w hSw; (try dsimp only at hSw); go_simp) <;> with_reducible rfl
          simp only [Act.put, List.getElem_toArray, List.getElem_cons_zero, List.getElem_cons_succ, List.setIfInBounds_toArray, List.set_cons_zero, List.set_cons_succ]
          refine anyL_take (i := 9) (v := ?vq27) rfl (by kernel_rfl) (by kernel_rfl) (by kernel_rfl) (by kernel_rfl) (fun _ _ _ h => h) (Or.inl ⟨by rfl, ?hq27⟩) (unhide H16) ?_
          case hq27 => (intro w hSw; (try dsimp only at hSw); go_simp) <;> with_reducible rfl
          simp only [Act.put, List.getElem_toArray, List.getElem_cons_zero, List.getElem_cons_succ, List.setIfInBounds_toArray, List.set_cons_zero, List.set_cons_succ]
          refine anyL_take (i := 10) (v := ?vq28) rfl (by kernel_rfl) (by kernel_rfl) (by kernel_rfl) (by kernel_rfl) (fun _ _ _ h => h) (Or.inl ⟨by rfl, ?hq28⟩) (unhide H16) ?_
          case hq28 => (intro w hSw; (try dsimp only at hSw); go_simp) <;> with_reducible rfl
          simp only [Act.put, List.getElem_toArray, List.getElem_cons_zero, List.getElem_cons_succ, List.setIfInBounds_toArray, List.set_cons_zero, List.set_cons_succ]
          refine anyL_take (i := 11) (v := ?vq29) rfl (by kernel_rfl) (by kernel_rfl) (by kernel_rfl) (by kernel_rfl) (fun _ _ _ h => h) (Or.inl ⟨by rfl, ?hq29⟩) (unhide H16) ?_
          case hq29 => (intro w hSw; (try dsimp only at hSw); go_simp) <;> with_reducible rfl
          simp only [Act.put, List.getElem_toArray, List.getElem_cons_zero, List.getElem_cons_succ, List.setIfInBounds_toArray, List.set_cons_zero, List.set_cons_succ]
          refine anyL_take (i := 12) (v := ?vq30) rfl (by kernel_rfl) (by kernel_rfl) (by kernel_rfl) (by kernel_rfl) (fun _ _ _ h => h) (Or.inl ⟨by rfl, ?hq30⟩) (unhide H16) ?_
          case hq30 => (intro w hSw; (try dsimp only at hSw); go_simp) <;> with_reducible rfl
          simp only [Act.put, List.getElem_toArray, List.getElem_cons_zero, List.getElem_cons_succ, List.setIfInBounds_toArray, List.set_cons_zero, List.set_cons_succ]
          refine anyL_take (i := 13) (v := ?vq31) rfl (by kernel_rfl) (by kernel_rfl) (by kernel_rfl) (by kernel_rfl) (fun _ _ _ h => h) (Or.inl ⟨by rfl, ?hq31⟩) (unhide H16) ?_
          case hq31 => (intro w hSw; (try dsimp only at hSw); go_simp) <;> with_reducible rfl
          simp only [Act.put, List.getElem_toArray, List.getElem_cons_zero, List.getElem_cons_succ, List.setIfInBounds_toArray, List.set_cons_zero, List.set_cons_succ]
          refine anyL_take (i := 14) (v := ?vq32) rfl (by kernel_rfl) (by kernel_rfl) (by kernel_rfl) (by kernel_rfl) (fun _ _ _ h => h) (Or.inl ⟨by rfl, ?hq32⟩) (unhide H16) ?_
          case hq32 => (intro w hSw; (try dsimp only at hSw); go_simp) <;> with_reducible rfl
          simp only [Act.put, List.getElem_toArray, List.getElem_cons_zero, List.getElem_cons_succ, List.setIfInBounds_toArray, List.set_cons_zero, List.set_cons_succ]
          refine anyL_take (i := 15) (v := ?vq33) rfl (by kernel_rfl) (by kernel_rfl) (by kernel_rfl) (by kernel_rfl) (fun _ _ _ h => h) (Or.inl ⟨by rfl, ?hq33⟩) (unhide H16) ?_
          case hq33 => (intro w hSw; (try dsimp only at hSw); go_simp) <;> with_reducible rfl
          simp only [Act.put, List.getElem_toArray, List.getElem_cons_zero, List.getElem_cons_succ, List.setIfInBounds_toArray, List.set_cons_zero, List.set_cons_succ]
          refine anyL_take (i := 16) (v := ?vq34) rfl (by kernel_rfl) (by kernel_rfl) (by kernel_rfl) (by kernel_rfl) (fun _ _ _ h => h) (Or.inl ⟨by rfl, ?hq34⟩) (unhide H16) ?_
          case hq34 => (intro w hSw; (try dsimp only at hSw); go_simp) <;> with_reducible rfl
          simp only [Act.put, List.getElem_toArray, List.getElem_cons_zero, List.getElem_cons_succ, List.setIfInBounds_toArray, List.set_cons_zero, List.set_cons_succ]
          refine anyL_take (i := 17) (v := ?vq35) rfl (by kernel_rfl) (by kernel_rfl) (by kernel_rfl) (by kernel_rfl) (fun _ _ _ h => h) (Or.inl ⟨by rfl, ?hq35⟩) (unhide H16) ?_
          case hq35 => (intro w hSw; (try dsimp only at hSw); go_simp) <;> with_reducible rfl
          simp only [Act.put, List.getElem_toArray, List.getElem_cons_zero, List.getElem_cons_succ, List.setIfInBounds_toArray, List.set_cons_zero, List.set_cons_succ]
          refine anyL_take (i := 18) (v := ?vq36) rfl (by kernel_rfl) (by kernel_rfl) (by kernel_rfl) (by kernel_rfl) (fun _ _ _ h => h) (Or.inl ⟨by rfl, ?hq36⟩) (unhide H16) ?_
          case hq36 => (intro w hSw; (try dsimp only at hSw); go_simp) <;> with_reducible rfl
          simp only [Act.put, List.getElem_toArray, List.getElem_cons_zero, List.getElem_cons_succ, List.setIfInBounds_toArray, List.set_cons_zero, List.set_cons_succ]
          refine anyL_take (i := 19) (v := ?vq37) rfl (by kernel_rfl) (by kernel_rfl) (by kernel_rfl) (by kernel_rfl) (fun _ _ _ h => h) (Or.inl ⟨by rfl, ?hq37⟩) (unhide H16) ?_
          case hq37 => (intro w hSw; (try dsimp only at hSw); go_simp) <;> with_reducible rfl
          simp only [Act.put, List.getElem_toArray, List.getElem_cons_zero, List.getElem_cons_succ, List.setIfInBounds_toArray, List.set_cons_zero, List.set_cons_succ]
          refine anyL_take (i := 20) (v := ?vq38) rfl (by kernel_rfl) (by kernel_rfl) (by kernel_rfl) (by kernel_rfl) (fun _ _ _ h => h) (Or.inl ⟨by rfl, ?hq38⟩) (unhide H16) ?_
          case hq38 => (intro w hSw; (try dsimp only at hSw); go_simp) <;> with_reducible rfl
          simp only [Act.put, List.getElem_toArray, List.getElem_cons_zero, List.getElem_cons_succ, List.setIfInBounds_toArray, List.set_cons_zero, List.set_cons_succ]
          refine anyL_take (i := 21) (v := ?vq39) rfl (by kernel_rfl) (by kernel_rfl) (by kernel_rfl) (by kernel_rfl) (fun _ _ _ h => h) (Or.inl ⟨by rfl, ?hq39⟩) (unhide H16) ?_
          case hq39 => (intro w hSw; (try dsimp only at hSw); go_simp) <;> with_reducible rfl
          simp only [Act.put, List.getElem_toArray, List.getElem_cons_zero, List.getElem_cons_succ, List.setIfInBounds_toArray, List.set_cons_zero, List.set_cons_succ]
          refine anyL_take (i := 22) (v := ?vq40) rfl (by kernel_rfl) (by kernel_rfl) (by kernel_rfl) (by kernel_rfl) (fun _ _ _ h => h) (Or.inl ⟨by rfl, ?hq40⟩) (unhide H16) ?_
          case hq40 => (intro w hSw; (try dsimp only at hSw); go_simp) <;> with_reducible rfl
          simp only [Act.put, List.getElem_toArray, List.getElem_cons_zero, List.getElem_cons_succ, List.setIfInBounds_toArray, List.set_cons_zero, List.set_cons_succ]
          refine anyL_take (i := 23) (v := ?vq41) rfl (by kernel_rfl) (by kernel_rfl) (by kernel_rfl) (by kernel_rfl) (fun _ _ _ h => h) (Or.inl ⟨by rfl, ?hq41⟩) (unhide H16) ?_
          case hq41 => (intro w hSw; (try dsimp only at hSw); go_simp) <;> with_reducible rfl
          simp only [Act.put, List.getElem_toArray, List.getElem_cons_zero, List.getElem_cons_succ, List.setIfInBounds_toArray, List.set_cons_zero, List.set_cons_succ]
          refine anyL_take (i := 24) (v := ?vq42) rfl (by kernel_rfl) (by kernel_rfl) (by kernel_rfl) (by kernel_rfl) (fun _ _ _ h => h) (Or.inl ⟨by rfl, ?hq42⟩) (unhide H16) ?_
          case hq42 => (intro w hSw; (try dsimp only at hSw); go_simp) <;> with_reducible rfl
          simp only [Act.put, List.getElem_toArray, List.getElem_cons_zero, List.getElem_cons_succ, List.setIfInBounds_toArray, List.set_cons_zero, List.set_cons_succ]
          refine anyL_take (i := 25) (v := ?vq43) rfl (by kernel_rfl) (by kernel_rfl) (by kernel_rfl) (by kernel_rfl) (fun _ _ _ h => h) (Or.inl ⟨by rfl, ?hq43⟩) (unhide H16) ?_
          case hq43 => (intro w hSw; (try dsimp only at hSw); go_simp) <;> with_reducible rfl
          simp only [Act.put, List.getElem_toArray, List.getElem_cons_zero, List.getElem_cons_succ, List.setIfInBounds_toArray, List.set_cons_zero, List.set_cons_succ]
          refine anyL_take (i := 26) (v := ?vq44) rfl (by kernel_rfl) (by kernel_rfl) (by kernel_rfl) (by kernel_rfl) (fun _ _ _ h => h) (Or.inl ⟨by rfl, ?hq44⟩) (unhide H16) ?_
          case hq44 => (intro w hSw; (try dsimp only at hSw); go_simp) <;> with_reducible rfl
          simp only [Act.put, List.getElem_toArray, List.getElem_cons_zero, List.getElem_cons_succ, List.setIfInBounds_toArray, List.set_cons_zero, List.set_cons_succ]
          refine anyL_take (i := 27) (v := ?vq45) rfl (by kernel_rfl) (by kernel_rfl) (by kernel_rfl) (by kernel_rfl) (fun _ _ _ h => h) (Or.inl ⟨by rfl, ?hq45⟩) (unhide H16) ?_
          case hq45 => (intro w hSw; (try dsimp only at hSw); go_simp) <;> with_reducible rfl
          simp only [Act.put, List.getElem_toArray, List.getElem_cons_zero, List.getElem_cons_succ, List.setIfInBounds_toArray, List.set_cons_zero, List.set_cons_succ]
          refine anyL_take (i := 28) (v := ?vq46) rfl (by kernel_rfl) (by kernel_rfl) (by kernel_rfl) (by kernel_rfl) (fun _ _ _ h => h) (Or.inl ⟨by rfl, ?hq46⟩) (unhide H16) ?_
          case hq46 => (intro w hSw; (try dsimp only at hSw); go_simp) <;> with_reducible rfl
          simp only [Act.put, List.getElem_toArray, List.getElem_cons_zero, List.getElem_cons_succ, List.setIfInBounds_toArray, List.set_cons_zero, List.set_cons_succ]
          refine anyL_take (i := 29) (v := ?vq47) rfl (by kernel_rfl) (by kernel_rfl) (by kernel_rfl) (by kernel_rfl) (fun _ _ _ h => h) (Or.inl ⟨by rfl, ?hq47⟩) (unhide H16) ?_
          case hq47 => (intro w hSw; (try dsimp only at hSw); go_simp) <;> with_reducible rfl
          simp only [Act.put, List.getElem_toArray, List.getElem_cons_zero, List.getElem_cons_succ, List.setIfInBounds_toArray, List.set_cons_zero, List.set_cons_succ]
          refine anyL_take (i := 30) (v := ?vq48) rfl (by kernel_rfl) (by kernel_rfl) (by kernel_rfl) (by kernel_rfl) (fun _ _ _ h => h) (Or.inl ⟨by rfl, ?hq48⟩) (unhide H16) ?_
          case hq48 => (intro w hSw; (try dsimp only at hSw); go_simp) <;> with_reducible rfl
          simp only [Act.put, List.getElem_toArray, List.getElem_cons_zero, List.getElem_cons_succ, List.setIfInBounds_toArray, List.set_cons_zero, List.set_cons_succ]
          refine anyL_done (by kernel_rfl) ?_ _
          clear H16 s1 s2 s3 mq mr mu mq' mr' mu'
          have kW : Cls ye gW _ _ := HSe.L.one
          have kL : Cls ye gL _ _ := HSe.L.two
          obtain ⟨c0, c1, c2, c3, c4, c5, c6⟩ := cells7w kW
          obtain ⟨e0, e1, e2, e3, e4, e5, e6⟩ := cells7w kL
          have g0 := kL.frozen 0
          have g1 := kL.frozen 1
          have g2 := kL.frozen 2
          have g3 := kL.frozen 3
          have g4 := kL.frozen 4
          have g5 := kL.frozen 5
          have g6 := kL.frozen 6
          obtain ⟨n1, n2⟩ := sets7w ye 39 (.int .i64 (q : Int)) (.int .i64 (r : Int)) (.int .i64 (u : Int)) (.int .i64 (k : Int)) (.int .i64 (b : Int)) (.int .i64 (cr : Int)) (.int .i64 (cu : Int)) kL
          have HI2 : Hid (LcI w a0 cap l gT gL (p + 1) q r u k b cr cu (((((((ye.setCell ⟨gL, 0, none⟩ (.int .i64 (q : Int))).setCell ⟨gL, 1, none⟩ (.int .i64 (r : Int))).setCell ⟨gL, 2, none⟩ (.int .i64 (u : Int))).setCell ⟨gL, 3, none⟩ (.int .i64 (k : Int))).setCell ⟨gL, 4, none⟩ (.int .i64 (b : Int))).setCell ⟨gL, 5, none⟩ (.int .i64 (cr : Int))).setCell ⟨gL, 6, none⟩ (.int .i64 (cu : Int)))) := hide ⟨lc_set (unhide HBT).1 (unhide HBT).2 HSe n1 n2 zL gTL, zL, gTL, Or.inr (unhide HFIN)⟩
          clear n1 n2 HSe kBe kW kL HFIN HWS HLST HF
          have HU := hide hub
          clear hub f1 f2 f4 f3' t100 t101 t102 t103 t104 zB
          have hwp : wrap64 ((p : Int) + 1) = (p : Int) + 1 := wrap_nat p 1 (by omega)
          rcases unhide HPQ with h0 | ⟨hk, h0⟩
          · subst h0
            clear HPQ
            go_wp2_with fail
            go_roundw
            case rel => exact ⟨0 + 1, by go_num, by omega, q, r, u, k, b, cr, cu, HI2⟩
            case measure => simp [intOf]
          · by_cases hp0 : p = 0
            · subst hp0
              clear HPQ h0
              go_wp2_with fail
              go_roundw
              case rel => exact ⟨0 + 1, by go_num, by omega, q, r, u, k, b, cr, cu, HI2⟩
              case measure => simp [intOf]
            · have t1' : decide ((p : Int) > 0) = true := decide_eq_true (by omega)
              have t2' : decide ((0 : Int) < (p : Int)) = true := decide_eq_true (by omega)
              have t3' : decide (0 < p) = true := decide_eq_true (by omega)
              clear HPQ
              have t4 : decide ((k : Int) < (k' : Int)) = false := decide_eq_false (by omega)
              have t4' : decide (k < k') = false := decide_eq_false (by omega)
              rcases h0 with ⟨rfl, rfl, rfl, rfl⟩ | ⟨h1, h2, h3, h4⟩
              · have t5 : decide ((q : Int) > (q : Int)) = false := decide_eq_false (by omega)
                have t5' : decide ((q : Int) < (q : Int)) = false := decide_eq_false (by omega)
                go_wp2_with fail
                go_roundw
                case rel => exact ⟨p + 1, by go_num, by omega, q, r, u, k, b, cr, cu, HI2⟩
                case measure => simp [intOf]; omega
              · have n16a : ((q : Int) == (q' : Int)) = false := by simp; omega
                have n16b : (q == q') = false := by simp; omega
                have n17a : ((r : Int) == (r' : Int)) = false := by simp; omega
                have n17b : (r == r') = false := by simp; omega
                have n18a : ((u : Int) == (u' : Int)) = false := by simp; omega
                have n18b : (u == u') = false := by simp; omega
                have t5 : decide ((q : Int) > (q' : Int)) = true := decide_eq_true (by omega)
                have t5' : decide ((q' : Int) < (q : Int)) = true := decide_eq_true (by omega)
                have t5'' : decide (q' < q) = true := decide_eq_true (by omega)
                by_cases hkk : k = k'
                · obtain ⟨h5, h6⟩ := h4 hkk
                  subst hkk
                  have s5 : wrap64 ((cr' : Int) + 1) = (cr : Int) := by have := unhide HU; rw [wrap_in _ (by omega) (by omega)]; omega
                  have t6 : decide ((cu : Int) ≤ (cu' : Int)) = false := decide_eq_false (by omega)
                  have t6' : decide (cu ≤ cu') = false := decide_eq_false (by omega)
                  clear h4 h5
                  go_wp2_with fail
                  go_roundw
                  case rel => exact ⟨p + 1, by go_num, by omega, q, r, u, k, b, cr, cu, HI2⟩
                  case measure => simp [intOf]; omega
                · have n19a : ((k : Int) == (k' : Int)) = false := by simp; omega
                  have n19b : (k == k') = false := by simp; omega
                  clear h4
                  go_wp2_with fail
                  go_roundw
                  case rel => exact ⟨p + 1, by go_num, by omega, q, r, u, k, b, cr, cu, HI2⟩
                  case measure => simp [intOf]; omega
      · have t1 : decide ((p : Int) ≤ (l.length : Int)) = false := decide_eq_false (by omega)
        have kL : Cls wr gL _ _ := HS.L.one
        obtain ⟨e0', e1, e2, e3, e4, e5, e6⟩ := cells7w kL
        have bel := HS.L.d
        have hq : q' = l.length ∧ k' + 1 = N := by
          rcases unhide HV with h | ⟨v1, v2, v3, v4, v5, v6⟩
          · omega
          · rw [show p - 1 = l.length by omega] at v1 v4
            have := col_last l
            rw [unhide HNN] at this
            omega
        obtain ⟨rfl, hkN⟩ := hq
        have s1 : True := trivial
        have qk : ((k' : Int) == (N : Int) - 1) = true := by simp; omega
        clear HS kL HV s1
        go_wp2_with fail
        go_ret
        exact ⟨rfl, bel⟩

end Go.Proofs.YtbnfpcfoeojceaaDoor
