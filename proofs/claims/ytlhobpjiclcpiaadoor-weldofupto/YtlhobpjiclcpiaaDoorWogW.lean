/- WeldOf: the walk (written by wip/tools/wof.py). -/
import Derived.Test.YtlhobpjiclcpiaaDoorWogM
import Derived.Deep.Cut
import Derived.Deep.DeepCutAuto
namespace Go.Proofs.YtlhobpjiclcpiaaDoor
open Go.ChangeShapes Go.WideShapes Go.ChangeAt Go.RowKit
attribute [local go_sem] Oper.semAt_some

set_option maxRecDepth 100000 in
set_option maxHeartbeats 16000000 in
theorem WeldOf_any (a0 : Option Addr) (cap : Nat) (l : List Int) (w : World) (hB : IsN w a0 cap l) (hcap : cap ≤ 1048576) (hW : Wt w) :
    Calls Tryd.prog 3 #[.slice a0 l.length cap] w fun e w' => e = .returned (.bool true) ∧ Below w.heap.size w w' := by
  have HLB := hide hB.1.2.2.2
  have hl : l.length ≤ 1048576 := by have := hB.1.1; omega
  have HIN := hide fun (X : World) (h : Below w.heap.size w X) => hB.below h (Nat.le_refl _)
  have HWW := hide fun (X : World) (h : Below w.heap.size w X) => hW.below h
  clear hB hW hcap
  go_enter Tryd.func3, Tryd.ntmps3
  go_wp2_with fail
  refine (fixed5_at w (unhide HWW w (Below.refl _ _))).mono ?_
  rintro e w1 ⟨rfl, b1⟩
  have hw2 : wrap64 ((l.length : Int) + 2) = (l.length : Int) + 2 := by unfold wrap64; omega
  obtain ⟨w2, r2, o2, x2⟩ := make_u8W w1 (l.length + 2) (by omega)
  have hcx : ((l.length + 2 : Nat) : Int) = (l.length : Int) + 2 := by omega
  rw [hcx] at r2
  clear hcx
  have b2 := b1.trans (x2.mono b1.size)
  obtain ⟨v3, w3, r3, o3, x3⟩ := appL5 22 o2 x2.size (unhide HIN _ b2).1 (by simp; omega)
  have x23 := x2.trans x3
  obtain ⟨v4, w4, r4, o4, x4⟩ := o3.push2 91 92 (by simp; omega) x23.size
  have x24 := x23.trans x4
  have b4 := b1.trans (x24.mono b1.size)
  rw [List.nil_append] at o4
  obtain ⟨gr, cr, rfl, hgr, _, _⟩ := o4.form (by simp)
  have hlen : (l ++ [91, 92]).length = l.length + 2 := by simp
  rw [hlen] at o4 r4
  have S4 : RoS w gr cr (l.length + 2) (l ++ [91, 92]) w4 := ⟨b4, row_base5 o4 b1.size⟩
  have R3' := hide r3
  have R4' := hide r4
  clear r3 r4 o2 o3 o4 x2 x3 x4 x23 x24 b4 b2 b1 hgr hlen
  dsimp only
  go_wp2_with (first | (at_builtin; refine wpList_append_known rfl _ _ 22 22 rfl _ _ rfl rfl _ _ (unhide R3') ?_; clear R3') | (at_builtin; refine wpList_append_known rfl _ _ 22 22 rfl _ _ rfl rfl _ _ (unhide R4') ?_))
  clear r2 hw2
  have HOf := hide fun (X : World) (h : RoS w gr cr (l.length + 2) (l ++ [91, 92]) X) => Of_at (some ⟨gr, 0, none⟩) cr l X (h.isN (unhide HLB) hl) (by omega) (unhide HWW X h.d)
  have HSz := hide fun (X : World) (h : RoS w gr cr (l.length + 2) (l ++ [91, 92]) X) => Sizes_at (some ⟨gr, 0, none⟩) cr l X (h.isN (unhide HLB) hl) (by omega) (unhide HWW X h.d)
  have HRO := hide fun (X : World) (h : Below w.heap.size w X) => ROf_at a0 cap l X (unhide HIN X h).1 (by omega)
  have HRS := hide fun (X : World) (h : Below w.heap.size w X) => RSizes_at a0 cap l X (unhide HIN X h).1 (by omega)
  have HVa := hide fun (X : World) (h : Below w.heap.size w X) => ValidW_at (ofL l) X (unhide HWW X h) (byw_of (unhide HLB))
  rw [valid_of (unhide HLB) (by omega)] at HVa
  obtain ⟨u1, u2, u3, u4⟩ := sz_bounds (unhide HLB)
  have wq : weV (ofL l) = .agg #[.int .i64 (szL l).b, .int .i64 (szL l).r, .int .i64 (szL l).u, .int .i64 (szL l).e, .string (strOfNums (l.take 3)), .string (strOfNums (tail3 l))] := rfl
  rw [wq] at HOf HRO HVa
  unfold szV at HSz HRS
  clear wq
  generalize (szL l).b = xb at *
  generalize (szL l).r = xr at *
  generalize (szL l).u = xu at *
  generalize (szL l).e = xe at *
  generalize strOfNums (List.take 3 l) = xh at *
  generalize strOfNums (tail3 l) = xt at *
  have v1 : decide (xr ≤ xb) = true := decide_eq_true u1
  have v2 : decide (xu ≥ xr) = true := decide_eq_true u2
  have v2' : decide (xr ≤ xu) = true := decide_eq_true u2
  have v3 : decide (xu ≤ xb) = true := decide_eq_true u3
  have v4 : decide (xe ≤ xr) = true := decide_eq_true u4
  have HVV := hide (And.intro v1 (And.intro v2 (And.intro v2' (And.intro v3 v4))))
  clear u1 u2 u3 u4 v1 v2 v2' v3 v4
  have hlc : l.length ≤ cr := (S4.isN (unhide HLB) hl).1.1
  go_wp2_with fail
  go_cut [4, 5] (fun p4 p5 wz => ∃ g4 g5, p4 = .pointer (some ⟨g4, 0, none⟩) ∧ p5 = .pointer (some ⟨g5, 0, none⟩) ∧ Hid (RoS w gr cr (l.length + 2) (l ++ [91, 92]) wz ∧ wz.heap[g4]? = some (.cells #[.int .i64 xb, .int .i64 xr, .int .i64 xu, .int .i64 xe, .string xh, .string xt] 27 (0, 0)) ∧ wz.heap[g5]? = some (.cells #[.int .i64 xb, .int .i64 xr, .int .i64 xu, .int .i64 xe] 25 (0, 0))) ∧ Hid (gr ≠ g4 ∧ gr ≠ g5 ∧ g4 ≠ g5 ∧ w.heap.size ≤ g4 ∧ w.heap.size ≤ g5))
  case first =>
    have S0 := S4.on (drewB w4)
    refine regionL (S := fun _ => True) (fun _ => false) (by kernel_rfl) ?_
    clear S4
    generalize w4.drew = y0 at *
    refine anyL_take (i := 0) (v := ?vq0) rfl (by kernel_rfl) (by kernel_rfl) (by kernel_rfl) (by kernel_rfl) (fun _ _ _ h => h) (Or.inl ⟨by rfl, ?hq0⟩) (trivial) ?_
    case hq0 => (intro w hSw; (try dsimp only at hSw); go_simp) <;> with_reducible rfl
    simp only [Act.put, List.getElem_toArray, List.getElem_cons_zero, List.setIfInBounds_toArray, List.set_cons_zero, List.set_cons_succ]
    refine anyL_take (i := 1) (v := ?vq1) rfl (by kernel_rfl) (by kernel_rfl) (by kernel_rfl) (by kernel_rfl) (fun _ _ _ h => h) (Or.inl ⟨by rfl, ?hq1⟩) (trivial) ?_
    case hq1 => (intro w hSw; (try dsimp only at hSw); go_simp) <;> with_reducible rfl
    simp only [Act.put, List.getElem_toArray, List.getElem_cons_zero, List.getElem_cons_succ, List.setIfInBounds_toArray, List.set_cons_zero, List.set_cons_succ]
    refine anyL_take (i := 2) (v := ?vq2) rfl (by kernel_rfl) (by kernel_rfl) (by kernel_rfl) (by kernel_rfl) (fun _ _ _ h => h) (Or.inl ⟨by rfl, ?hq2⟩) (trivial) ?_
    case hq2 => (intro w hSw; (try dsimp only at hSw); go_simp) <;> with_reducible rfl
    simp only [Act.put, List.getElem_toArray, List.getElem_cons_zero, List.getElem_cons_succ, List.setIfInBounds_toArray, List.set_cons_zero, List.set_cons_succ]
    refine anyL_take (i := 3) (v := ?vq3) rfl (by kernel_rfl) (by kernel_rfl) (by kernel_rfl) (by kernel_rfl) (fun _ _ _ h => h) (Or.inl ⟨by rfl, ?hq3⟩) (trivial) ?_
    case hq3 => (intro w hSw; (try dsimp only at hSw); go_simp) <;> with_reducible rfl
    simp only [Act.put, List.getElem_toArray, List.getElem_cons_zero, List.getElem_cons_succ, List.setIfInBounds_toArray, List.set_cons_zero, List.set_cons_succ]
    refine anyL_take (i := 5) (v := ?vq4) rfl (by kernel_rfl) (by kernel_rfl) (by kernel_rfl) (by kernel_rfl) (fun _ _ _ h => h) (Or.inl ⟨by rfl, ?hq4⟩) (trivial) ?_
    case hq4 => (intro w hSw; (try dsimp only at hSw); go_simp) <;> with_reducible rfl
    simp only [Act.put, List.getElem_toArray, List.getElem_cons_zero, List.getElem_cons_succ, List.setIfInBounds_toArray, List.set_cons_zero, List.set_cons_succ]
    refine anyL_take (i := 6) (v := ?vq5) rfl (by kernel_rfl) (by kernel_rfl) (by kernel_rfl) (by kernel_rfl) (fun _ _ _ h => h) (Or.inl ⟨by rfl, ?hq5⟩) (trivial) ?_
    case hq5 => (intro w hSw; (try dsimp only at hSw); go_simp) <;> with_reducible rfl
    simp only [Act.put, List.getElem_toArray, List.getElem_cons_zero, List.getElem_cons_succ, List.setIfInBounds_toArray, List.set_cons_zero, List.set_cons_succ]
    refine anyL_take (i := 7) (v := ?vq6) rfl (by kernel_rfl) (by kernel_rfl) (by kernel_rfl) (by kernel_rfl) (fun _ _ _ h => h) (Or.inl ⟨by rfl, ?hq6⟩) (trivial) ?_
    case hq6 => (intro w hSw; (try dsimp only at hSw); go_simp) <;> with_reducible rfl
    simp only [Act.put, List.getElem_toArray, List.getElem_cons_zero, List.getElem_cons_succ, List.setIfInBounds_toArray, List.set_cons_zero, List.set_cons_succ]
    refine anyL_take (i := 8) (v := ?vq7) rfl (by kernel_rfl) (by kernel_rfl) (by kernel_rfl) (by kernel_rfl) (fun _ _ _ h => h) (Or.inl ⟨by rfl, ?hq7⟩) (trivial) ?_
    case hq7 => (intro w hSw; (try dsimp only at hSw); go_simp) <;> with_reducible rfl
    simp only [Act.put, List.getElem_toArray, List.getElem_cons_zero, List.getElem_cons_succ, List.setIfInBounds_toArray, List.set_cons_zero, List.set_cons_succ]
    refine anyL_ready (rs := [4, 10, 11]) (by kernel_rfl) (by simp) ?_
    refine AllL.cons rfl (fun K hK => ?_) (AllL.cons rfl (fun K hK => ?_) (AllL.cons rfl (fun K hK => ?_) AllL.nil))
    · go_simp
      refine (unhide HOf _ S0).mono ?_
      rintro e y1 ⟨rfl, x1⟩
      have S1 := S0.on x1
      refine unhide hK _ _ (fun _ => trivial) ?_
      clear hK K x1
      refine anyL_ready (rs := [9, 10, 11]) (by kernel_rfl) (by simp) ?_
      refine AllL.cons rfl (fun K hK => ?_) (AllL.cons rfl (fun K hK => ?_) (AllL.cons rfl (fun K hK => ?_) AllL.nil))
      · go_simp
        refine (unhide HSz _ S1).mono ?_
        rintro e y2 ⟨rfl, x2⟩
        have S2 := S1.on x2
        refine unhide hK _ _ (fun _ => trivial) ?_
        clear hK K x2
        refine anyL_ready (rs := [10, 11]) (by kernel_rfl) (by simp) ?_
        refine AllL.cons rfl (fun K hK => ?_) (AllL.cons rfl (fun K hK => ?_) AllL.nil)
        · go_simp
          have x3 := (Below.refl y2.heap.size y2).alloc (Nat.le_refl _) (.cells #[.int .i64 0, .int .i64 0, .int .i64 0, .int .i64 0, .string ⟨#[]⟩, .string ⟨#[]⟩] 27)
          have k43n := push_get y2 (.cells #[.int .i64 0, .int .i64 0, .int .i64 0, .int .i64 0, .string ⟨#[]⟩, .string ⟨#[]⟩] 27)
          have hrg4 : gr ≠ y2.heap.size := by have := S2.lt; omega
          have hwg4 : w.heap.size ≤ y2.heap.size := S2.d.size
          have S3 := S2.on x3
          refine unhide hK _ _ (fun _ => trivial) ?_
          clear hK K x3
          generalize hgg : y2.heap.size = g4 at *
          clear hgg
          generalize y2.alloc (.cells #[.int .i64 0, .int .i64 0, .int .i64 0, .int .i64 0, .string ⟨#[]⟩, .string ⟨#[]⟩] 27) = y3 at *
          refine anyL_ready (rs := [11]) (by kernel_rfl) (by simp) ?_
          refine AllL.cons rfl (fun K hK => ?_) AllL.nil
          go_simp
          have x4 := (Below.refl y3.heap.size y3).alloc (Nat.le_refl _) (.cells #[.int .i64 0, .int .i64 0, .int .i64 0, .int .i64 0] 25)
          have k54n := push_get y3 (.cells #[.int .i64 0, .int .i64 0, .int .i64 0, .int .i64 0] 25)
          have hrg5 : gr ≠ y3.heap.size := by have := S3.lt; omega
          have hwg5 : w.heap.size ≤ y3.heap.size := S3.d.size
          have h45 : g4 ≠ y3.heap.size := by have := bk_lt k43n; omega
          have S4 := S3.on x4
          have k44 := bk_on k43n x4
          refine unhide hK _ _ (fun _ => trivial) ?_
          clear hK K x4
          generalize hgg : y3.heap.size = g5 at *
          clear hgg
          generalize y3.alloc (.cells #[.int .i64 0, .int .i64 0, .int .i64 0, .int .i64 0] 25) = y4 at *
          refine anyL_ready (rs := [12]) (by kernel_rfl) (by simp) ?_
          refine AllL.cons rfl (fun K hK => ?_) AllL.nil
          obtain ⟨p0, p1, p2, p3, p4, p5, pf⟩ := cells6 k44
          have f0 := pf 0
          have f1 := pf 1
          have f2 := pf 2
          have f3 := pf 3
          have f4 := pf 4
          have f5 := pf 5
          clear pf
          have S5 := S4.put6 hwg4 hrg4 (.int .i64 xb) (.int .i64 xr) (.int .i64 xu) (.int .i64 xe) (.string xh) (.string xt)
          have k45 := box6_all k44 (.int .i64 xb) (.int .i64 xr) (.int .i64 xu) (.int .i64 xe) (.string xh) (.string xt)
          have k55 := (set6_oth5 y4 g4 g5 (.int .i64 xb) (.int .i64 xr) (.int .i64 xu) (.int .i64 xe) (.string xh) (.string xt) (fun e => h45 e.symm)).trans k54n
          go_simp
          refine unhide hK _ _ (fun _ => trivial) ?_
          clear hK K p0 p1 p2 p3 p4 p5 f0 f1 f2 f3 f4 f5
          generalize (((((y4.setCell ⟨g4, 0, none⟩ (.int .i64 xb)).setCell ⟨g4, 1, none⟩ (.int .i64 xr)).setCell ⟨g4, 2, none⟩ (.int .i64 xu)).setCell ⟨g4, 3, none⟩ (.int .i64 xe)).setCell ⟨g4, 4, none⟩ (.string xh)).setCell ⟨g4, 5, none⟩ (.string xt) = y5 at *
          refine anyL_ready (rs := [13]) (by kernel_rfl) (by simp) ?_
          refine AllL.cons rfl (fun K hK => ?_) AllL.nil
          obtain ⟨p0, p1, p2, p3, pf⟩ := cells4 k55
          have f0 := pf 0
          have f1 := pf 1
          have f2 := pf 2
          have f3 := pf 3
          clear pf
          have S6 := S5.put4 hwg5 hrg5 (.int .i64 xb) (.int .i64 xr) (.int .i64 xu) (.int .i64 xe)
          have k56 := box4_all5 k55 (.int .i64 xb) (.int .i64 xr) (.int .i64 xu) (.int .i64 xe)
          have k46 := (set4_oth5 y5 g5 g4 (.int .i64 xb) (.int .i64 xr) (.int .i64 xu) (.int .i64 xe) h45).trans k45
          go_simp
          refine unhide hK _ _ (fun _ => trivial) ?_
          clear hK K p0 p1 p2 p3 f0 f1 f2 f3
          generalize (((y5.setCell ⟨g5, 0, none⟩ (.int .i64 xb)).setCell ⟨g5, 1, none⟩ (.int .i64 xr)).setCell ⟨g5, 2, none⟩ (.int .i64 xu)).setCell ⟨g5, 3, none⟩ (.int .i64 xe) = y6 at *
          refine anyL_done (by kernel_rfl) ?_ _
          go_wp2_with fail
          go_meet
          exact ⟨g4, g5, rfl, rfl, hide ⟨S6, k46, k56⟩, hide ⟨hrg4, hrg5, h45, hwg4, hwg5⟩⟩
        · go_simp
          have x7 := (Below.refl y2.heap.size y2).alloc (Nat.le_refl _) (.cells #[.int .i64 0, .int .i64 0, .int .i64 0, .int .i64 0] 25)
          have k57n := push_get y2 (.cells #[.int .i64 0, .int .i64 0, .int .i64 0, .int .i64 0] 25)
          have hrg5 : gr ≠ y2.heap.size := by have := S2.lt; omega
          have hwg5 : w.heap.size ≤ y2.heap.size := S2.d.size
          have S7 := S2.on x7
          refine unhide hK _ _ (fun _ => trivial) ?_
          clear hK K x7
          generalize hgg : y2.heap.size = g5 at *
          clear hgg
          generalize y2.alloc (.cells #[.int .i64 0, .int .i64 0, .int .i64 0, .int .i64 0] 25) = y7 at *
          refine anyL_ready (rs := [10]) (by kernel_rfl) (by simp) ?_
          refine AllL.cons rfl (fun K hK => ?_) AllL.nil
          go_simp
          have x8 := (Below.refl y7.heap.size y7).alloc (Nat.le_refl _) (.cells #[.int .i64 0, .int .i64 0, .int .i64 0, .int .i64 0, .string ⟨#[]⟩, .string ⟨#[]⟩] 27)
          have k48n := push_get y7 (.cells #[.int .i64 0, .int .i64 0, .int .i64 0, .int .i64 0, .string ⟨#[]⟩, .string ⟨#[]⟩] 27)
          have hrg4 : gr ≠ y7.heap.size := by have := S7.lt; omega
          have hwg4 : w.heap.size ≤ y7.heap.size := S7.d.size
          have h45 : y7.heap.size ≠ g5 := by have := bk_lt k57n; omega
          have S8 := S7.on x8
          have k58 := bk_on k57n x8
          refine unhide hK _ _ (fun _ => trivial) ?_
          clear hK K x8
          generalize hgg : y7.heap.size = g4 at *
          clear hgg
          generalize y7.alloc (.cells #[.int .i64 0, .int .i64 0, .int .i64 0, .int .i64 0, .string ⟨#[]⟩, .string ⟨#[]⟩] 27) = y8 at *
          refine anyL_ready (rs := [12]) (by kernel_rfl) (by simp) ?_
          refine AllL.cons rfl (fun K hK => ?_) AllL.nil
          obtain ⟨p0, p1, p2, p3, p4, p5, pf⟩ := cells6 k48n
          have f0 := pf 0
          have f1 := pf 1
          have f2 := pf 2
          have f3 := pf 3
          have f4 := pf 4
          have f5 := pf 5
          clear pf
          have S9 := S8.put6 hwg4 hrg4 (.int .i64 xb) (.int .i64 xr) (.int .i64 xu) (.int .i64 xe) (.string xh) (.string xt)
          have k49 := box6_all k48n (.int .i64 xb) (.int .i64 xr) (.int .i64 xu) (.int .i64 xe) (.string xh) (.string xt)
          have k59 := (set6_oth5 y8 g4 g5 (.int .i64 xb) (.int .i64 xr) (.int .i64 xu) (.int .i64 xe) (.string xh) (.string xt) (fun e => h45 e.symm)).trans k58
          go_simp
          refine unhide hK _ _ (fun _ => trivial) ?_
          clear hK K p0 p1 p2 p3 p4 p5 f0 f1 f2 f3 f4 f5
          generalize (((((y8.setCell ⟨g4, 0, none⟩ (.int .i64 xb)).setCell ⟨g4, 1, none⟩ (.int .i64 xr)).setCell ⟨g4, 2, none⟩ (.int .i64 xu)).setCell ⟨g4, 3, none⟩ (.int .i64 xe)).setCell ⟨g4, 4, none⟩ (.string xh)).setCell ⟨g4, 5, none⟩ (.string xt) = y9 at *
          refine anyL_ready (rs := [13]) (by kernel_rfl) (by simp) ?_
          refine AllL.cons rfl (fun K hK => ?_) AllL.nil
          obtain ⟨p0, p1, p2, p3, pf⟩ := cells4 k59
          have f0 := pf 0
          have f1 := pf 1
          have f2 := pf 2
          have f3 := pf 3
          clear pf
          have S10 := S9.put4 hwg5 hrg5 (.int .i64 xb) (.int .i64 xr) (.int .i64 xu) (.int .i64 xe)
          have k510 := box4_all5 k59 (.int .i64 xb) (.int .i64 xr) (.int .i64 xu) (.int .i64 xe)
          have k410 := (set4_oth5 y9 g5 g4 (.int .i64 xb) (.int .i64 xr) (.int .i64 xu) (.int .i64 xe) h45).trans k49
          go_simp
          refine unhide hK _ _ (fun _ => trivial) ?_
          clear hK K p0 p1 p2 p3 f0 f1 f2 f3
          generalize (((y9.setCell ⟨g5, 0, none⟩ (.int .i64 xb)).setCell ⟨g5, 1, none⟩ (.int .i64 xr)).setCell ⟨g5, 2, none⟩ (.int .i64 xu)).setCell ⟨g5, 3, none⟩ (.int .i64 xe) = y10 at *
          refine anyL_done (by kernel_rfl) ?_ _
          go_wp2_with fail
          go_meet
          exact ⟨g4, g5, rfl, rfl, hide ⟨S10, k410, k510⟩, hide ⟨hrg4, hrg5, h45, hwg4, hwg5⟩⟩
      · go_simp
        have x11 := (Below.refl y1.heap.size y1).alloc (Nat.le_refl _) (.cells #[.int .i64 0, .int .i64 0, .int .i64 0, .int .i64 0, .string ⟨#[]⟩, .string ⟨#[]⟩] 27)
        have k411n := push_get y1 (.cells #[.int .i64 0, .int .i64 0, .int .i64 0, .int .i64 0, .string ⟨#[]⟩, .string ⟨#[]⟩] 27)
        have hrg4 : gr ≠ y1.heap.size := by have := S1.lt; omega
        have hwg4 : w.heap.size ≤ y1.heap.size := S1.d.size
        have S11 := S1.on x11
        refine unhide hK _ _ (fun _ => trivial) ?_
        clear hK K x11
        generalize hgg : y1.heap.size = g4 at *
        clear hgg
        generalize y1.alloc (.cells #[.int .i64 0, .int .i64 0, .int .i64 0, .int .i64 0, .string ⟨#[]⟩, .string ⟨#[]⟩] 27) = y11 at *
        refine anyL_ready (rs := [9, 11]) (by kernel_rfl) (by simp) ?_
        refine AllL.cons rfl (fun K hK => ?_) (AllL.cons rfl (fun K hK => ?_) AllL.nil)
        · go_simp
          refine (unhide HSz _ S11).mono ?_
          rintro e y12 ⟨rfl, x12⟩
          have S12 := S11.on x12
          have k412 := bk_on k411n x12
          refine unhide hK _ _ (fun _ => trivial) ?_
          clear hK K x12
          refine anyL_ready (rs := [11]) (by kernel_rfl) (by simp) ?_
          refine AllL.cons rfl (fun K hK => ?_) AllL.nil
          go_simp
          have x13 := (Below.refl y12.heap.size y12).alloc (Nat.le_refl _) (.cells #[.int .i64 0, .int .i64 0, .int .i64 0, .int .i64 0] 25)
          have k513n := push_get y12 (.cells #[.int .i64 0, .int .i64 0, .int .i64 0, .int .i64 0] 25)
          have hrg5 : gr ≠ y12.heap.size := by have := S12.lt; omega
          have hwg5 : w.heap.size ≤ y12.heap.size := S12.d.size
          have h45 : g4 ≠ y12.heap.size := by have := bk_lt k412; omega
          have S13 := S12.on x13
          have k413 := bk_on k412 x13
          refine unhide hK _ _ (fun _ => trivial) ?_
          clear hK K x13
          generalize hgg : y12.heap.size = g5 at *
          clear hgg
          generalize y12.alloc (.cells #[.int .i64 0, .int .i64 0, .int .i64 0, .int .i64 0] 25) = y13 at *
          refine anyL_ready (rs := [12]) (by kernel_rfl) (by simp) ?_
          refine AllL.cons rfl (fun K hK => ?_) AllL.nil
          obtain ⟨p0, p1, p2, p3, p4, p5, pf⟩ := cells6 k413
          have f0 := pf 0
          have f1 := pf 1
          have f2 := pf 2
          have f3 := pf 3
          have f4 := pf 4
          have f5 := pf 5
          clear pf
          have S14 := S13.put6 hwg4 hrg4 (.int .i64 xb) (.int .i64 xr) (.int .i64 xu) (.int .i64 xe) (.string xh) (.string xt)
          have k414 := box6_all k413 (.int .i64 xb) (.int .i64 xr) (.int .i64 xu) (.int .i64 xe) (.string xh) (.string xt)
          have k514 := (set6_oth5 y13 g4 g5 (.int .i64 xb) (.int .i64 xr) (.int .i64 xu) (.int .i64 xe) (.string xh) (.string xt) (fun e => h45 e.symm)).trans k513n
          go_simp
          refine unhide hK _ _ (fun _ => trivial) ?_
          clear hK K p0 p1 p2 p3 p4 p5 f0 f1 f2 f3 f4 f5
          generalize (((((y13.setCell ⟨g4, 0, none⟩ (.int .i64 xb)).setCell ⟨g4, 1, none⟩ (.int .i64 xr)).setCell ⟨g4, 2, none⟩ (.int .i64 xu)).setCell ⟨g4, 3, none⟩ (.int .i64 xe)).setCell ⟨g4, 4, none⟩ (.string xh)).setCell ⟨g4, 5, none⟩ (.string xt) = y14 at *
          refine anyL_ready (rs := [13]) (by kernel_rfl) (by simp) ?_
          refine AllL.cons rfl (fun K hK => ?_) AllL.nil
          obtain ⟨p0, p1, p2, p3, pf⟩ := cells4 k514
          have f0 := pf 0
          have f1 := pf 1
          have f2 := pf 2
          have f3 := pf 3
          clear pf
          have S15 := S14.put4 hwg5 hrg5 (.int .i64 xb) (.int .i64 xr) (.int .i64 xu) (.int .i64 xe)
          have k515 := box4_all5 k514 (.int .i64 xb) (.int .i64 xr) (.int .i64 xu) (.int .i64 xe)
          have k415 := (set4_oth5 y14 g5 g4 (.int .i64 xb) (.int .i64 xr) (.int .i64 xu) (.int .i64 xe) h45).trans k414
          go_simp
          refine unhide hK _ _ (fun _ => trivial) ?_
          clear hK K p0 p1 p2 p3 f0 f1 f2 f3
          generalize (((y14.setCell ⟨g5, 0, none⟩ (.int .i64 xb)).setCell ⟨g5, 1, none⟩ (.int .i64 xr)).setCell ⟨g5, 2, none⟩ (.int .i64 xu)).setCell ⟨g5, 3, none⟩ (.int .i64 xe) = y15 at *
          refine anyL_done (by kernel_rfl) ?_ _
          go_wp2_with fail
          go_meet
          exact ⟨g4, g5, rfl, rfl, hide ⟨S15, k415, k515⟩, hide ⟨hrg4, hrg5, h45, hwg4, hwg5⟩⟩
        · go_simp
          have x16 := (Below.refl y11.heap.size y11).alloc (Nat.le_refl _) (.cells #[.int .i64 0, .int .i64 0, .int .i64 0, .int .i64 0] 25)
          have k516n := push_get y11 (.cells #[.int .i64 0, .int .i64 0, .int .i64 0, .int .i64 0] 25)
          have hrg5 : gr ≠ y11.heap.size := by have := S11.lt; omega
          have hwg5 : w.heap.size ≤ y11.heap.size := S11.d.size
          have h45 : g4 ≠ y11.heap.size := by have := bk_lt k411n; omega
          have S16 := S11.on x16
          have k416 := bk_on k411n x16
          refine unhide hK _ _ (fun _ => trivial) ?_
          clear hK K x16
          generalize hgg : y11.heap.size = g5 at *
          clear hgg
          generalize y11.alloc (.cells #[.int .i64 0, .int .i64 0, .int .i64 0, .int .i64 0] 25) = y16 at *
          refine anyL_ready (rs := [9]) (by kernel_rfl) (by simp) ?_
          refine AllL.cons rfl (fun K hK => ?_) AllL.nil
          go_simp
          refine (unhide HSz _ S16).mono ?_
          rintro e y17 ⟨rfl, x17⟩
          have S17 := S16.on x17
          have k417 := bk_on k416 x17
          have k517 := bk_on k516n x17
          refine unhide hK _ _ (fun _ => trivial) ?_
          clear hK K x17
          refine anyL_ready (rs := [12]) (by kernel_rfl) (by simp) ?_
          refine AllL.cons rfl (fun K hK => ?_) AllL.nil
          obtain ⟨p0, p1, p2, p3, p4, p5, pf⟩ := cells6 k417
          have f0 := pf 0
          have f1 := pf 1
          have f2 := pf 2
          have f3 := pf 3
          have f4 := pf 4
          have f5 := pf 5
          clear pf
          have S18 := S17.put6 hwg4 hrg4 (.int .i64 xb) (.int .i64 xr) (.int .i64 xu) (.int .i64 xe) (.string xh) (.string xt)
          have k418 := box6_all k417 (.int .i64 xb) (.int .i64 xr) (.int .i64 xu) (.int .i64 xe) (.string xh) (.string xt)
          have k518 := (set6_oth5 y17 g4 g5 (.int .i64 xb) (.int .i64 xr) (.int .i64 xu) (.int .i64 xe) (.string xh) (.string xt) (fun e => h45 e.symm)).trans k517
          go_simp
          refine unhide hK _ _ (fun _ => trivial) ?_
          clear hK K p0 p1 p2 p3 p4 p5 f0 f1 f2 f3 f4 f5
          generalize (((((y17.setCell ⟨g4, 0, none⟩ (.int .i64 xb)).setCell ⟨g4, 1, none⟩ (.int .i64 xr)).setCell ⟨g4, 2, none⟩ (.int .i64 xu)).setCell ⟨g4, 3, none⟩ (.int .i64 xe)).setCell ⟨g4, 4, none⟩ (.string xh)).setCell ⟨g4, 5, none⟩ (.string xt) = y18 at *
          refine anyL_ready (rs := [13]) (by kernel_rfl) (by simp) ?_
          refine AllL.cons rfl (fun K hK => ?_) AllL.nil
          obtain ⟨p0, p1, p2, p3, pf⟩ := cells4 k518
          have f0 := pf 0
          have f1 := pf 1
          have f2 := pf 2
          have f3 := pf 3
          clear pf
          have S19 := S18.put4 hwg5 hrg5 (.int .i64 xb) (.int .i64 xr) (.int .i64 xu) (.int .i64 xe)
          have k519 := box4_all5 k518 (.int .i64 xb) (.int .i64 xr) (.int .i64 xu) (.int .i64 xe)
          have k419 := (set4_oth5 y18 g5 g4 (.int .i64 xb) (.int .i64 xr) (.int .i64 xu) (.int .i64 xe) h45).trans k418
          go_simp
          refine unhide hK _ _ (fun _ => trivial) ?_
          clear hK K p0 p1 p2 p3 f0 f1 f2 f3
          generalize (((y18.setCell ⟨g5, 0, none⟩ (.int .i64 xb)).setCell ⟨g5, 1, none⟩ (.int .i64 xr)).setCell ⟨g5, 2, none⟩ (.int .i64 xu)).setCell ⟨g5, 3, none⟩ (.int .i64 xe) = y19 at *
          refine anyL_done (by kernel_rfl) ?_ _
          go_wp2_with fail
          go_meet
          exact ⟨g4, g5, rfl, rfl, hide ⟨S19, k419, k519⟩, hide ⟨hrg4, hrg5, h45, hwg4, hwg5⟩⟩
      · go_simp
        have x20 := (Below.refl y1.heap.size y1).alloc (Nat.le_refl _) (.cells #[.int .i64 0, .int .i64 0, .int .i64 0, .int .i64 0] 25)
        have k520n := push_get y1 (.cells #[.int .i64 0, .int .i64 0, .int .i64 0, .int .i64 0] 25)
        have hrg5 : gr ≠ y1.heap.size := by have := S1.lt; omega
        have hwg5 : w.heap.size ≤ y1.heap.size := S1.d.size
        have S20 := S1.on x20
        refine unhide hK _ _ (fun _ => trivial) ?_
        clear hK K x20
        generalize hgg : y1.heap.size = g5 at *
        clear hgg
        generalize y1.alloc (.cells #[.int .i64 0, .int .i64 0, .int .i64 0, .int .i64 0] 25) = y20 at *
        refine anyL_ready (rs := [9, 10]) (by kernel_rfl) (by simp) ?_
        refine AllL.cons rfl (fun K hK => ?_) (AllL.cons rfl (fun K hK => ?_) AllL.nil)
        · go_simp
          refine (unhide HSz _ S20).mono ?_
          rintro e y21 ⟨rfl, x21⟩
          have S21 := S20.on x21
          have k521 := bk_on k520n x21
          refine unhide hK _ _ (fun _ => trivial) ?_
          clear hK K x21
          refine anyL_ready (rs := [10]) (by kernel_rfl) (by simp) ?_
          refine AllL.cons rfl (fun K hK => ?_) AllL.nil
          go_simp
          have x22 := (Below.refl y21.heap.size y21).alloc (Nat.le_refl _) (.cells #[.int .i64 0, .int .i64 0, .int .i64 0, .int .i64 0, .string ⟨#[]⟩, .string ⟨#[]⟩] 27)
          have k422n := push_get y21 (.cells #[.int .i64 0, .int .i64 0, .int .i64 0, .int .i64 0, .string ⟨#[]⟩, .string ⟨#[]⟩] 27)
          have hrg4 : gr ≠ y21.heap.size := by have := S21.lt; omega
          have hwg4 : w.heap.size ≤ y21.heap.size := S21.d.size
          have h45 : y21.heap.size ≠ g5 := by have := bk_lt k521; omega
          have S22 := S21.on x22
          have k522 := bk_on k521 x22
          refine unhide hK _ _ (fun _ => trivial) ?_
          clear hK K x22
          generalize hgg : y21.heap.size = g4 at *
          clear hgg
          generalize y21.alloc (.cells #[.int .i64 0, .int .i64 0, .int .i64 0, .int .i64 0, .string ⟨#[]⟩, .string ⟨#[]⟩] 27) = y22 at *
          refine anyL_ready (rs := [12]) (by kernel_rfl) (by simp) ?_
          refine AllL.cons rfl (fun K hK => ?_) AllL.nil
          obtain ⟨p0, p1, p2, p3, p4, p5, pf⟩ := cells6 k422n
          have f0 := pf 0
          have f1 := pf 1
          have f2 := pf 2
          have f3 := pf 3
          have f4 := pf 4
          have f5 := pf 5
          clear pf
          have S23 := S22.put6 hwg4 hrg4 (.int .i64 xb) (.int .i64 xr) (.int .i64 xu) (.int .i64 xe) (.string xh) (.string xt)
          have k423 := box6_all k422n (.int .i64 xb) (.int .i64 xr) (.int .i64 xu) (.int .i64 xe) (.string xh) (.string xt)
          have k523 := (set6_oth5 y22 g4 g5 (.int .i64 xb) (.int .i64 xr) (.int .i64 xu) (.int .i64 xe) (.string xh) (.string xt) (fun e => h45 e.symm)).trans k522
          go_simp
          refine unhide hK _ _ (fun _ => trivial) ?_
          clear hK K p0 p1 p2 p3 p4 p5 f0 f1 f2 f3 f4 f5
          generalize (((((y22.setCell ⟨g4, 0, none⟩ (.int .i64 xb)).setCell ⟨g4, 1, none⟩ (.int .i64 xr)).setCell ⟨g4, 2, none⟩ (.int .i64 xu)).setCell ⟨g4, 3, none⟩ (.int .i64 xe)).setCell ⟨g4, 4, none⟩ (.string xh)).setCell ⟨g4, 5, none⟩ (.string xt) = y23 at *
          refine anyL_ready (rs := [13]) (by kernel_rfl) (by simp) ?_
          refine AllL.cons rfl (fun K hK => ?_) AllL.nil
          obtain ⟨p0, p1, p2, p3, pf⟩ := cells4 k523
          have f0 := pf 0
          have f1 := pf 1
          have f2 := pf 2
          have f3 := pf 3
          clear pf
          have S24 := S23.put4 hwg5 hrg5 (.int .i64 xb) (.int .i64 xr) (.int .i64 xu) (.int .i64 xe)
          have k524 := box4_all5 k523 (.int .i64 xb) (.int .i64 xr) (.int .i64 xu) (.int .i64 xe)
          have k424 := (set4_oth5 y23 g5 g4 (.int .i64 xb) (.int .i64 xr) (.int .i64 xu) (.int .i64 xe) h45).trans k423
          go_simp
          refine unhide hK _ _ (fun _ => trivial) ?_
          clear hK K p0 p1 p2 p3 f0 f1 f2 f3
          generalize (((y23.setCell ⟨g5, 0, none⟩ (.int .i64 xb)).setCell ⟨g5, 1, none⟩ (.int .i64 xr)).setCell ⟨g5, 2, none⟩ (.int .i64 xu)).setCell ⟨g5, 3, none⟩ (.int .i64 xe) = y24 at *
          refine anyL_done (by kernel_rfl) ?_ _
          go_wp2_with fail
          go_meet
          exact ⟨g4, g5, rfl, rfl, hide ⟨S24, k424, k524⟩, hide ⟨hrg4, hrg5, h45, hwg4, hwg5⟩⟩
        · go_simp
          have x25 := (Below.refl y20.heap.size y20).alloc (Nat.le_refl _) (.cells #[.int .i64 0, .int .i64 0, .int .i64 0, .int .i64 0, .string ⟨#[]⟩, .string ⟨#[]⟩] 27)
          have k425n := push_get y20 (.cells #[.int .i64 0, .int .i64 0, .int .i64 0, .int .i64 0, .string ⟨#[]⟩, .string ⟨#[]⟩] 27)
          have hrg4 : gr ≠ y20.heap.size := by have := S20.lt; omega
          have hwg4 : w.heap.size ≤ y20.heap.size := S20.d.size
          have h45 : y20.heap.size ≠ g5 := by have := bk_lt k520n; omega
          have S25 := S20.on x25
          have k525 := bk_on k520n x25
          refine unhide hK _ _ (fun _ => trivial) ?_
          clear hK K x25
          generalize hgg : y20.heap.size = g4 at *
          clear hgg
          generalize y20.alloc (.cells #[.int .i64 0, .int .i64 0, .int .i64 0, .int .i64 0, .string ⟨#[]⟩, .string ⟨#[]⟩] 27) = y25 at *
          refine anyL_ready (rs := [9]) (by kernel_rfl) (by simp) ?_
          refine AllL.cons rfl (fun K hK => ?_) AllL.nil
          go_simp
          refine (unhide HSz _ S25).mono ?_
          rintro e y26 ⟨rfl, x26⟩
          have S26 := S25.on x26
          have k426 := bk_on k425n x26
          have k526 := bk_on k525 x26
          refine unhide hK _ _ (fun _ => trivial) ?_
          clear hK K x26
          refine anyL_ready (rs := [12]) (by kernel_rfl) (by simp) ?_
          refine AllL.cons rfl (fun K hK => ?_) AllL.nil
          obtain ⟨p0, p1, p2, p3, p4, p5, pf⟩ := cells6 k426
          have f0 := pf 0
          have f1 := pf 1
          have f2 := pf 2
          have f3 := pf 3
          have f4 := pf 4
          have f5 := pf 5
          clear pf
          have S27 := S26.put6 hwg4 hrg4 (.int .i64 xb) (.int .i64 xr) (.int .i64 xu) (.int .i64 xe) (.string xh) (.string xt)
          have k427 := box6_all k426 (.int .i64 xb) (.int .i64 xr) (.int .i64 xu) (.int .i64 xe) (.string xh) (.string xt)
          have k527 := (set6_oth5 y26 g4 g5 (.int .i64 xb) (.int .i64 xr) (.int .i64 xu) (.int .i64 xe) (.string xh) (.string xt) (fun e => h45 e.symm)).trans k526
          go_simp
          refine unhide hK _ _ (fun _ => trivial) ?_
          clear hK K p0 p1 p2 p3 p4 p5 f0 f1 f2 f3 f4 f5
          generalize (((((y26.setCell ⟨g4, 0, none⟩ (.int .i64 xb)).setCell ⟨g4, 1, none⟩ (.int .i64 xr)).setCell ⟨g4, 2, none⟩ (.int .i64 xu)).setCell ⟨g4, 3, none⟩ (.int .i64 xe)).setCell ⟨g4, 4, none⟩ (.string xh)).setCell ⟨g4, 5, none⟩ (.string xt) = y27 at *
          refine anyL_ready (rs := [13]) (by kernel_rfl) (by simp) ?_
          refine AllL.cons rfl (fun K hK => ?_) AllL.nil
          obtain ⟨p0, p1, p2, p3, pf⟩ := cells4 k527
          have f0 := pf 0
          have f1 := pf 1
          have f2 := pf 2
          have f3 := pf 3
          clear pf
          have S28 := S27.put4 hwg5 hrg5 (.int .i64 xb) (.int .i64 xr) (.int .i64 xu) (.int .i64 xe)
          have k528 := box4_all5 k527 (.int .i64 xb) (.int .i64 xr) (.int .i64 xu) (.int .i64 xe)
          have k428 := (set4_oth5 y27 g5 g4 (.int .i64 xb) (.int .i64 xr) (.int .i64 xu) (.int .i64 xe) h45).trans k427
          go_simp
          refine unhide hK _ _ (fun _ => trivial) ?_
          clear hK K p0 p1 p2 p3 f0 f1 f2 f3
          generalize (((y27.setCell ⟨g5, 0, none⟩ (.int .i64 xb)).setCell ⟨g5, 1, none⟩ (.int .i64 xr)).setCell ⟨g5, 2, none⟩ (.int .i64 xu)).setCell ⟨g5, 3, none⟩ (.int .i64 xe) = y28 at *
          refine anyL_done (by kernel_rfl) ?_ _
          go_wp2_with fail
          go_meet
          exact ⟨g4, g5, rfl, rfl, hide ⟨S28, k428, k528⟩, hide ⟨hrg4, hrg5, h45, hwg4, hwg5⟩⟩
    · go_simp
      have x29 := (Below.refl y0.heap.size y0).alloc (Nat.le_refl _) (.cells #[.int .i64 0, .int .i64 0, .int .i64 0, .int .i64 0, .string ⟨#[]⟩, .string ⟨#[]⟩] 27)
      have k429n := push_get y0 (.cells #[.int .i64 0, .int .i64 0, .int .i64 0, .int .i64 0, .string ⟨#[]⟩, .string ⟨#[]⟩] 27)
      have hrg4 : gr ≠ y0.heap.size := by have := S0.lt; omega
      have hwg4 : w.heap.size ≤ y0.heap.size := S0.d.size
      have S29 := S0.on x29
      refine unhide hK _ _ (fun _ => trivial) ?_
      clear hK K x29
      generalize hgg : y0.heap.size = g4 at *
      clear hgg
      generalize y0.alloc (.cells #[.int .i64 0, .int .i64 0, .int .i64 0, .int .i64 0, .string ⟨#[]⟩, .string ⟨#[]⟩] 27) = y29 at *
      refine anyL_ready (rs := [4, 11]) (by kernel_rfl) (by simp) ?_
      refine AllL.cons rfl (fun K hK => ?_) (AllL.cons rfl (fun K hK => ?_) AllL.nil)
      · go_simp
        refine (unhide HOf _ S29).mono ?_
        rintro e y30 ⟨rfl, x30⟩
        have S30 := S29.on x30
        have k430 := bk_on k429n x30
        refine unhide hK _ _ (fun _ => trivial) ?_
        clear hK K x30
        refine anyL_ready (rs := [9, 11]) (by kernel_rfl) (by simp) ?_
        refine AllL.cons rfl (fun K hK => ?_) (AllL.cons rfl (fun K hK => ?_) AllL.nil)
        · go_simp
          refine (unhide HSz _ S30).mono ?_
          rintro e y31 ⟨rfl, x31⟩
          have S31 := S30.on x31
          have k431 := bk_on k430 x31
          refine unhide hK _ _ (fun _ => trivial) ?_
          clear hK K x31
          refine anyL_ready (rs := [11]) (by kernel_rfl) (by simp) ?_
          refine AllL.cons rfl (fun K hK => ?_) AllL.nil
          go_simp
          have x32 := (Below.refl y31.heap.size y31).alloc (Nat.le_refl _) (.cells #[.int .i64 0, .int .i64 0, .int .i64 0, .int .i64 0] 25)
          have k532n := push_get y31 (.cells #[.int .i64 0, .int .i64 0, .int .i64 0, .int .i64 0] 25)
          have hrg5 : gr ≠ y31.heap.size := by have := S31.lt; omega
          have hwg5 : w.heap.size ≤ y31.heap.size := S31.d.size
          have h45 : g4 ≠ y31.heap.size := by have := bk_lt k431; omega
          have S32 := S31.on x32
          have k432 := bk_on k431 x32
          refine unhide hK _ _ (fun _ => trivial) ?_
          clear hK K x32
          generalize hgg : y31.heap.size = g5 at *
          clear hgg
          generalize y31.alloc (.cells #[.int .i64 0, .int .i64 0, .int .i64 0, .int .i64 0] 25) = y32 at *
          refine anyL_ready (rs := [12]) (by kernel_rfl) (by simp) ?_
          refine AllL.cons rfl (fun K hK => ?_) AllL.nil
          obtain ⟨p0, p1, p2, p3, p4, p5, pf⟩ := cells6 k432
          have f0 := pf 0
          have f1 := pf 1
          have f2 := pf 2
          have f3 := pf 3
          have f4 := pf 4
          have f5 := pf 5
          clear pf
          have S33 := S32.put6 hwg4 hrg4 (.int .i64 xb) (.int .i64 xr) (.int .i64 xu) (.int .i64 xe) (.string xh) (.string xt)
          have k433 := box6_all k432 (.int .i64 xb) (.int .i64 xr) (.int .i64 xu) (.int .i64 xe) (.string xh) (.string xt)
          have k533 := (set6_oth5 y32 g4 g5 (.int .i64 xb) (.int .i64 xr) (.int .i64 xu) (.int .i64 xe) (.string xh) (.string xt) (fun e => h45 e.symm)).trans k532n
          go_simp
          refine unhide hK _ _ (fun _ => trivial) ?_
          clear hK K p0 p1 p2 p3 p4 p5 f0 f1 f2 f3 f4 f5
          generalize (((((y32.setCell ⟨g4, 0, none⟩ (.int .i64 xb)).setCell ⟨g4, 1, none⟩ (.int .i64 xr)).setCell ⟨g4, 2, none⟩ (.int .i64 xu)).setCell ⟨g4, 3, none⟩ (.int .i64 xe)).setCell ⟨g4, 4, none⟩ (.string xh)).setCell ⟨g4, 5, none⟩ (.string xt) = y33 at *
          refine anyL_ready (rs := [13]) (by kernel_rfl) (by simp) ?_
          refine AllL.cons rfl (fun K hK => ?_) AllL.nil
          obtain ⟨p0, p1, p2, p3, pf⟩ := cells4 k533
          have f0 := pf 0
          have f1 := pf 1
          have f2 := pf 2
          have f3 := pf 3
          clear pf
          have S34 := S33.put4 hwg5 hrg5 (.int .i64 xb) (.int .i64 xr) (.int .i64 xu) (.int .i64 xe)
          have k534 := box4_all5 k533 (.int .i64 xb) (.int .i64 xr) (.int .i64 xu) (.int .i64 xe)
          have k434 := (set4_oth5 y33 g5 g4 (.int .i64 xb) (.int .i64 xr) (.int .i64 xu) (.int .i64 xe) h45).trans k433
          go_simp
          refine unhide hK _ _ (fun _ => trivial) ?_
          clear hK K p0 p1 p2 p3 f0 f1 f2 f3
          generalize (((y33.setCell ⟨g5, 0, none⟩ (.int .i64 xb)).setCell ⟨g5, 1, none⟩ (.int .i64 xr)).setCell ⟨g5, 2, none⟩ (.int .i64 xu)).setCell ⟨g5, 3, none⟩ (.int .i64 xe) = y34 at *
          refine anyL_done (by kernel_rfl) ?_ _
          go_wp2_with fail
          go_meet
          exact ⟨g4, g5, rfl, rfl, hide ⟨S34, k434, k534⟩, hide ⟨hrg4, hrg5, h45, hwg4, hwg5⟩⟩
        · go_simp
          have x35 := (Below.refl y30.heap.size y30).alloc (Nat.le_refl _) (.cells #[.int .i64 0, .int .i64 0, .int .i64 0, .int .i64 0] 25)
          have k535n := push_get y30 (.cells #[.int .i64 0, .int .i64 0, .int .i64 0, .int .i64 0] 25)
          have hrg5 : gr ≠ y30.heap.size := by have := S30.lt; omega
          have hwg5 : w.heap.size ≤ y30.heap.size := S30.d.size
          have h45 : g4 ≠ y30.heap.size := by have := bk_lt k430; omega
          have S35 := S30.on x35
          have k435 := bk_on k430 x35
          refine unhide hK _ _ (fun _ => trivial) ?_
          clear hK K x35
          generalize hgg : y30.heap.size = g5 at *
          clear hgg
          generalize y30.alloc (.cells #[.int .i64 0, .int .i64 0, .int .i64 0, .int .i64 0] 25) = y35 at *
          refine anyL_ready (rs := [9]) (by kernel_rfl) (by simp) ?_
          refine AllL.cons rfl (fun K hK => ?_) AllL.nil
          go_simp
          refine (unhide HSz _ S35).mono ?_
          rintro e y36 ⟨rfl, x36⟩
          have S36 := S35.on x36
          have k436 := bk_on k435 x36
          have k536 := bk_on k535n x36
          refine unhide hK _ _ (fun _ => trivial) ?_
          clear hK K x36
          refine anyL_ready (rs := [12]) (by kernel_rfl) (by simp) ?_
          refine AllL.cons rfl (fun K hK => ?_) AllL.nil
          obtain ⟨p0, p1, p2, p3, p4, p5, pf⟩ := cells6 k436
          have f0 := pf 0
          have f1 := pf 1
          have f2 := pf 2
          have f3 := pf 3
          have f4 := pf 4
          have f5 := pf 5
          clear pf
          have S37 := S36.put6 hwg4 hrg4 (.int .i64 xb) (.int .i64 xr) (.int .i64 xu) (.int .i64 xe) (.string xh) (.string xt)
          have k437 := box6_all k436 (.int .i64 xb) (.int .i64 xr) (.int .i64 xu) (.int .i64 xe) (.string xh) (.string xt)
          have k537 := (set6_oth5 y36 g4 g5 (.int .i64 xb) (.int .i64 xr) (.int .i64 xu) (.int .i64 xe) (.string xh) (.string xt) (fun e => h45 e.symm)).trans k536
          go_simp
          refine unhide hK _ _ (fun _ => trivial) ?_
          clear hK K p0 p1 p2 p3 p4 p5 f0 f1 f2 f3 f4 f5
          generalize (((((y36.setCell ⟨g4, 0, none⟩ (.int .i64 xb)).setCell ⟨g4, 1, none⟩ (.int .i64 xr)).setCell ⟨g4, 2, none⟩ (.int .i64 xu)).setCell ⟨g4, 3, none⟩ (.int .i64 xe)).setCell ⟨g4, 4, none⟩ (.string xh)).setCell ⟨g4, 5, none⟩ (.string xt) = y37 at *
          refine anyL_ready (rs := [13]) (by kernel_rfl) (by simp) ?_
          refine AllL.cons rfl (fun K hK => ?_) AllL.nil
          obtain ⟨p0, p1, p2, p3, pf⟩ := cells4 k537
          have f0 := pf 0
          have f1 := pf 1
          have f2 := pf 2
          have f3 := pf 3
          clear pf
          have S38 := S37.put4 hwg5 hrg5 (.int .i64 xb) (.int .i64 xr) (.int .i64 xu) (.int .i64 xe)
          have k538 := box4_all5 k537 (.int .i64 xb) (.int .i64 xr) (.int .i64 xu) (.int .i64 xe)
          have k438 := (set4_oth5 y37 g5 g4 (.int .i64 xb) (.int .i64 xr) (.int .i64 xu) (.int .i64 xe) h45).trans k437
          go_simp
          refine unhide hK _ _ (fun _ => trivial) ?_
          clear hK K p0 p1 p2 p3 f0 f1 f2 f3
          generalize (((y37.setCell ⟨g5, 0, none⟩ (.int .i64 xb)).setCell ⟨g5, 1, none⟩ (.int .i64 xr)).setCell ⟨g5, 2, none⟩ (.int .i64 xu)).setCell ⟨g5, 3, none⟩ (.int .i64 xe) = y38 at *
          refine anyL_done (by kernel_rfl) ?_ _
          go_wp2_with fail
          go_meet
          exact ⟨g4, g5, rfl, rfl, hide ⟨S38, k438, k538⟩, hide ⟨hrg4, hrg5, h45, hwg4, hwg5⟩⟩
      · go_simp
        have x39 := (Below.refl y29.heap.size y29).alloc (Nat.le_refl _) (.cells #[.int .i64 0, .int .i64 0, .int .i64 0, .int .i64 0] 25)
        have k539n := push_get y29 (.cells #[.int .i64 0, .int .i64 0, .int .i64 0, .int .i64 0] 25)
        have hrg5 : gr ≠ y29.heap.size := by have := S29.lt; omega
        have hwg5 : w.heap.size ≤ y29.heap.size := S29.d.size
        have h45 : g4 ≠ y29.heap.size := by have := bk_lt k429n; omega
        have S39 := S29.on x39
        have k439 := bk_on k429n x39
        refine unhide hK _ _ (fun _ => trivial) ?_
        clear hK K x39
        generalize hgg : y29.heap.size = g5 at *
        clear hgg
        generalize y29.alloc (.cells #[.int .i64 0, .int .i64 0, .int .i64 0, .int .i64 0] 25) = y39 at *
        refine anyL_ready (rs := [4]) (by kernel_rfl) (by simp) ?_
        refine AllL.cons rfl (fun K hK => ?_) AllL.nil
        go_simp
        refine (unhide HOf _ S39).mono ?_
        rintro e y40 ⟨rfl, x40⟩
        have S40 := S39.on x40
        have k440 := bk_on k439 x40
        have k540 := bk_on k539n x40
        refine unhide hK _ _ (fun _ => trivial) ?_
        clear hK K x40
        refine anyL_ready (rs := [9]) (by kernel_rfl) (by simp) ?_
        refine AllL.cons rfl (fun K hK => ?_) AllL.nil
        go_simp
        refine (unhide HSz _ S40).mono ?_
        rintro e y41 ⟨rfl, x41⟩
        have S41 := S40.on x41
        have k441 := bk_on k440 x41
        have k541 := bk_on k540 x41
        refine unhide hK _ _ (fun _ => trivial) ?_
        clear hK K x41
        refine anyL_ready (rs := [12]) (by kernel_rfl) (by simp) ?_
        refine AllL.cons rfl (fun K hK => ?_) AllL.nil
        obtain ⟨p0, p1, p2, p3, p4, p5, pf⟩ := cells6 k441
        have f0 := pf 0
        have f1 := pf 1
        have f2 := pf 2
        have f3 := pf 3
        have f4 := pf 4
        have f5 := pf 5
        clear pf
        have S42 := S41.put6 hwg4 hrg4 (.int .i64 xb) (.int .i64 xr) (.int .i64 xu) (.int .i64 xe) (.string xh) (.string xt)
        have k442 := box6_all k441 (.int .i64 xb) (.int .i64 xr) (.int .i64 xu) (.int .i64 xe) (.string xh) (.string xt)
        have k542 := (set6_oth5 y41 g4 g5 (.int .i64 xb) (.int .i64 xr) (.int .i64 xu) (.int .i64 xe) (.string xh) (.string xt) (fun e => h45 e.symm)).trans k541
        go_simp
        refine unhide hK _ _ (fun _ => trivial) ?_
        clear hK K p0 p1 p2 p3 p4 p5 f0 f1 f2 f3 f4 f5
        generalize (((((y41.setCell ⟨g4, 0, none⟩ (.int .i64 xb)).setCell ⟨g4, 1, none⟩ (.int .i64 xr)).setCell ⟨g4, 2, none⟩ (.int .i64 xu)).setCell ⟨g4, 3, none⟩ (.int .i64 xe)).setCell ⟨g4, 4, none⟩ (.string xh)).setCell ⟨g4, 5, none⟩ (.string xt) = y42 at *
        refine anyL_ready (rs := [13]) (by kernel_rfl) (by simp) ?_
        refine AllL.cons rfl (fun K hK => ?_) AllL.nil
        obtain ⟨p0, p1, p2, p3, pf⟩ := cells4 k542
        have f0 := pf 0
        have f1 := pf 1
        have f2 := pf 2
        have f3 := pf 3
        clear pf
        have S43 := S42.put4 hwg5 hrg5 (.int .i64 xb) (.int .i64 xr) (.int .i64 xu) (.int .i64 xe)
        have k543 := box4_all5 k542 (.int .i64 xb) (.int .i64 xr) (.int .i64 xu) (.int .i64 xe)
        have k443 := (set4_oth5 y42 g5 g4 (.int .i64 xb) (.int .i64 xr) (.int .i64 xu) (.int .i64 xe) h45).trans k442
        go_simp
        refine unhide hK _ _ (fun _ => trivial) ?_
        clear hK K p0 p1 p2 p3 f0 f1 f2 f3
        generalize (((y42.setCell ⟨g5, 0, none⟩ (.int .i64 xb)).setCell ⟨g5, 1, none⟩ (.int .i64 xr)).setCell ⟨g5, 2, none⟩ (.int .i64 xu)).setCell ⟨g5, 3, none⟩ (.int .i64 xe) = y43 at *
        refine anyL_done (by kernel_rfl) ?_ _
        go_wp2_with fail
        go_meet
        exact ⟨g4, g5, rfl, rfl, hide ⟨S43, k443, k543⟩, hide ⟨hrg4, hrg5, h45, hwg4, hwg5⟩⟩
    · go_simp
      have x44 := (Below.refl y0.heap.size y0).alloc (Nat.le_refl _) (.cells #[.int .i64 0, .int .i64 0, .int .i64 0, .int .i64 0] 25)
      have k544n := push_get y0 (.cells #[.int .i64 0, .int .i64 0, .int .i64 0, .int .i64 0] 25)
      have hrg5 : gr ≠ y0.heap.size := by have := S0.lt; omega
      have hwg5 : w.heap.size ≤ y0.heap.size := S0.d.size
      have S44 := S0.on x44
      refine unhide hK _ _ (fun _ => trivial) ?_
      clear hK K x44
      generalize hgg : y0.heap.size = g5 at *
      clear hgg
      generalize y0.alloc (.cells #[.int .i64 0, .int .i64 0, .int .i64 0, .int .i64 0] 25) = y44 at *
      refine anyL_ready (rs := [4, 10]) (by kernel_rfl) (by simp) ?_
      refine AllL.cons rfl (fun K hK => ?_) (AllL.cons rfl (fun K hK => ?_) AllL.nil)
      · go_simp
        refine (unhide HOf _ S44).mono ?_
        rintro e y45 ⟨rfl, x45⟩
        have S45 := S44.on x45
        have k545 := bk_on k544n x45
        refine unhide hK _ _ (fun _ => trivial) ?_
        clear hK K x45
        refine anyL_ready (rs := [9, 10]) (by kernel_rfl) (by simp) ?_
        refine AllL.cons rfl (fun K hK => ?_) (AllL.cons rfl (fun K hK => ?_) AllL.nil)
        · go_simp
          refine (unhide HSz _ S45).mono ?_
          rintro e y46 ⟨rfl, x46⟩
          have S46 := S45.on x46
          have k546 := bk_on k545 x46
          refine unhide hK _ _ (fun _ => trivial) ?_
          clear hK K x46
          refine anyL_ready (rs := [10]) (by kernel_rfl) (by simp) ?_
          refine AllL.cons rfl (fun K hK => ?_) AllL.nil
          go_simp
          have x47 := (Below.refl y46.heap.size y46).alloc (Nat.le_refl _) (.cells #[.int .i64 0, .int .i64 0, .int .i64 0, .int .i64 0, .string ⟨#[]⟩, .string ⟨#[]⟩] 27)
          have k447n := push_get y46 (.cells #[.int .i64 0, .int .i64 0, .int .i64 0, .int .i64 0, .string ⟨#[]⟩, .string ⟨#[]⟩] 27)
          have hrg4 : gr ≠ y46.heap.size := by have := S46.lt; omega
          have hwg4 : w.heap.size ≤ y46.heap.size := S46.d.size
          have h45 : y46.heap.size ≠ g5 := by have := bk_lt k546; omega
          have S47 := S46.on x47
          have k547 := bk_on k546 x47
          refine unhide hK _ _ (fun _ => trivial) ?_
          clear hK K x47
          generalize hgg : y46.heap.size = g4 at *
          clear hgg
          generalize y46.alloc (.cells #[.int .i64 0, .int .i64 0, .int .i64 0, .int .i64 0, .string ⟨#[]⟩, .string ⟨#[]⟩] 27) = y47 at *
          refine anyL_ready (rs := [12]) (by kernel_rfl) (by simp) ?_
          refine AllL.cons rfl (fun K hK => ?_) AllL.nil
          obtain ⟨p0, p1, p2, p3, p4, p5, pf⟩ := cells6 k447n
          have f0 := pf 0
          have f1 := pf 1
          have f2 := pf 2
          have f3 := pf 3
          have f4 := pf 4
          have f5 := pf 5
          clear pf
          have S48 := S47.put6 hwg4 hrg4 (.int .i64 xb) (.int .i64 xr) (.int .i64 xu) (.int .i64 xe) (.string xh) (.string xt)
          have k448 := box6_all k447n (.int .i64 xb) (.int .i64 xr) (.int .i64 xu) (.int .i64 xe) (.string xh) (.string xt)
          have k548 := (set6_oth5 y47 g4 g5 (.int .i64 xb) (.int .i64 xr) (.int .i64 xu) (.int .i64 xe) (.string xh) (.string xt) (fun e => h45 e.symm)).trans k547
          go_simp
          refine unhide hK _ _ (fun _ => trivial) ?_
          clear hK K p0 p1 p2 p3 p4 p5 f0 f1 f2 f3 f4 f5
          generalize (((((y47.setCell ⟨g4, 0, none⟩ (.int .i64 xb)).setCell ⟨g4, 1, none⟩ (.int .i64 xr)).setCell ⟨g4, 2, none⟩ (.int .i64 xu)).setCell ⟨g4, 3, none⟩ (.int .i64 xe)).setCell ⟨g4, 4, none⟩ (.string xh)).setCell ⟨g4, 5, none⟩ (.string xt) = y48 at *
          refine anyL_ready (rs := [13]) (by kernel_rfl) (by simp) ?_
          refine AllL.cons rfl (fun K hK => ?_) AllL.nil
          obtain ⟨p0, p1, p2, p3, pf⟩ := cells4 k548
          have f0 := pf 0
          have f1 := pf 1
          have f2 := pf 2
          have f3 := pf 3
          clear pf
          have S49 := S48.put4 hwg5 hrg5 (.int .i64 xb) (.int .i64 xr) (.int .i64 xu) (.int .i64 xe)
          have k549 := box4_all5 k548 (.int .i64 xb) (.int .i64 xr) (.int .i64 xu) (.int .i64 xe)
          have k449 := (set4_oth5 y48 g5 g4 (.int .i64 xb) (.int .i64 xr) (.int .i64 xu) (.int .i64 xe) h45).trans k448
          go_simp
          refine unhide hK _ _ (fun _ => trivial) ?_
          clear hK K p0 p1 p2 p3 f0 f1 f2 f3
          generalize (((y48.setCell ⟨g5, 0, none⟩ (.int .i64 xb)).setCell ⟨g5, 1, none⟩ (.int .i64 xr)).setCell ⟨g5, 2, none⟩ (.int .i64 xu)).setCell ⟨g5, 3, none⟩ (.int .i64 xe) = y49 at *
          refine anyL_done (by kernel_rfl) ?_ _
          go_wp2_with fail
          go_meet
          exact ⟨g4, g5, rfl, rfl, hide ⟨S49, k449, k549⟩, hide ⟨hrg4, hrg5, h45, hwg4, hwg5⟩⟩
        · go_simp
          have x50 := (Below.refl y45.heap.size y45).alloc (Nat.le_refl _) (.cells #[.int .i64 0, .int .i64 0, .int .i64 0, .int .i64 0, .string ⟨#[]⟩, .string ⟨#[]⟩] 27)
          have k450n := push_get y45 (.cells #[.int .i64 0, .int .i64 0, .int .i64 0, .int .i64 0, .string ⟨#[]⟩, .string ⟨#[]⟩] 27)
          have hrg4 : gr ≠ y45.heap.size := by have := S45.lt; omega
          have hwg4 : w.heap.size ≤ y45.heap.size := S45.d.size
          have h45 : y45.heap.size ≠ g5 := by have := bk_lt k545; omega
          have S50 := S45.on x50
          have k550 := bk_on k545 x50
          refine unhide hK _ _ (fun _ => trivial) ?_
          clear hK K x50
          generalize hgg : y45.heap.size = g4 at *
          clear hgg
          generalize y45.alloc (.cells #[.int .i64 0, .int .i64 0, .int .i64 0, .int .i64 0, .string ⟨#[]⟩, .string ⟨#[]⟩] 27) = y50 at *
          refine anyL_ready (rs := [9]) (by kernel_rfl) (by simp) ?_
          refine AllL.cons rfl (fun K hK => ?_) AllL.nil
          go_simp
          refine (unhide HSz _ S50).mono ?_
          rintro e y51 ⟨rfl, x51⟩
          have S51 := S50.on x51
          have k451 := bk_on k450n x51
          have k551 := bk_on k550 x51
          refine unhide hK _ _ (fun _ => trivial) ?_
          clear hK K x51
          refine anyL_ready (rs := [12]) (by kernel_rfl) (by simp) ?_
          refine AllL.cons rfl (fun K hK => ?_) AllL.nil
          obtain ⟨p0, p1, p2, p3, p4, p5, pf⟩ := cells6 k451
          have f0 := pf 0
          have f1 := pf 1
          have f2 := pf 2
          have f3 := pf 3
          have f4 := pf 4
          have f5 := pf 5
          clear pf
          have S52 := S51.put6 hwg4 hrg4 (.int .i64 xb) (.int .i64 xr) (.int .i64 xu) (.int .i64 xe) (.string xh) (.string xt)
          have k452 := box6_all k451 (.int .i64 xb) (.int .i64 xr) (.int .i64 xu) (.int .i64 xe) (.string xh) (.string xt)
          have k552 := (set6_oth5 y51 g4 g5 (.int .i64 xb) (.int .i64 xr) (.int .i64 xu) (.int .i64 xe) (.string xh) (.string xt) (fun e => h45 e.symm)).trans k551
          go_simp
          refine unhide hK _ _ (fun _ => trivial) ?_
          clear hK K p0 p1 p2 p3 p4 p5 f0 f1 f2 f3 f4 f5
          generalize (((((y51.setCell ⟨g4, 0, none⟩ (.int .i64 xb)).setCell ⟨g4, 1, none⟩ (.int .i64 xr)).setCell ⟨g4, 2, none⟩ (.int .i64 xu)).setCell ⟨g4, 3, none⟩ (.int .i64 xe)).setCell ⟨g4, 4, none⟩ (.string xh)).setCell ⟨g4, 5, none⟩ (.string xt) = y52 at *
          refine anyL_ready (rs := [13]) (by kernel_rfl) (by simp) ?_
          refine AllL.cons rfl (fun K hK => ?_) AllL.nil
          obtain ⟨p0, p1, p2, p3, pf⟩ := cells4 k552
          have f0 := pf 0
          have f1 := pf 1
          have f2 := pf 2
          have f3 := pf 3
          clear pf
          have S53 := S52.put4 hwg5 hrg5 (.int .i64 xb) (.int .i64 xr) (.int .i64 xu) (.int .i64 xe)
          have k553 := box4_all5 k552 (.int .i64 xb) (.int .i64 xr) (.int .i64 xu) (.int .i64 xe)
          have k453 := (set4_oth5 y52 g5 g4 (.int .i64 xb) (.int .i64 xr) (.int .i64 xu) (.int .i64 xe) h45).trans k452
          go_simp
          refine unhide hK _ _ (fun _ => trivial) ?_
          clear hK K p0 p1 p2 p3 f0 f1 f2 f3
          generalize (((y52.setCell ⟨g5, 0, none⟩ (.int .i64 xb)).setCell ⟨g5, 1, none⟩ (.int .i64 xr)).setCell ⟨g5, 2, none⟩ (.int .i64 xu)).setCell ⟨g5, 3, none⟩ (.int .i64 xe) = y53 at *
          refine anyL_done (by kernel_rfl) ?_ _
          go_wp2_with fail
          go_meet
          exact ⟨g4, g5, rfl, rfl, hide ⟨S53, k453, k553⟩, hide ⟨hrg4, hrg5, h45, hwg4, hwg5⟩⟩
      · go_simp
        have x54 := (Below.refl y44.heap.size y44).alloc (Nat.le_refl _) (.cells #[.int .i64 0, .int .i64 0, .int .i64 0, .int .i64 0, .string ⟨#[]⟩, .string ⟨#[]⟩] 27)
        have k454n := push_get y44 (.cells #[.int .i64 0, .int .i64 0, .int .i64 0, .int .i64 0, .string ⟨#[]⟩, .string ⟨#[]⟩] 27)
        have hrg4 : gr ≠ y44.heap.size := by have := S44.lt; omega
        have hwg4 : w.heap.size ≤ y44.heap.size := S44.d.size
        have h45 : y44.heap.size ≠ g5 := by have := bk_lt k544n; omega
        have S54 := S44.on x54
        have k554 := bk_on k544n x54
        refine unhide hK _ _ (fun _ => trivial) ?_
        clear hK K x54
        generalize hgg : y44.heap.size = g4 at *
        clear hgg
        generalize y44.alloc (.cells #[.int .i64 0, .int .i64 0, .int .i64 0, .int .i64 0, .string ⟨#[]⟩, .string ⟨#[]⟩] 27) = y54 at *
        refine anyL_ready (rs := [4]) (by kernel_rfl) (by simp) ?_
        refine AllL.cons rfl (fun K hK => ?_) AllL.nil
        go_simp
        refine (unhide HOf _ S54).mono ?_
        rintro e y55 ⟨rfl, x55⟩
        have S55 := S54.on x55
        have k455 := bk_on k454n x55
        have k555 := bk_on k554 x55
        refine unhide hK _ _ (fun _ => trivial) ?_
        clear hK K x55
        refine anyL_ready (rs := [9]) (by kernel_rfl) (by simp) ?_
        refine AllL.cons rfl (fun K hK => ?_) AllL.nil
        go_simp
        refine (unhide HSz _ S55).mono ?_
        rintro e y56 ⟨rfl, x56⟩
        have S56 := S55.on x56
        have k456 := bk_on k455 x56
        have k556 := bk_on k555 x56
        refine unhide hK _ _ (fun _ => trivial) ?_
        clear hK K x56
        refine anyL_ready (rs := [12]) (by kernel_rfl) (by simp) ?_
        refine AllL.cons rfl (fun K hK => ?_) AllL.nil
        obtain ⟨p0, p1, p2, p3, p4, p5, pf⟩ := cells6 k456
        have f0 := pf 0
        have f1 := pf 1
        have f2 := pf 2
        have f3 := pf 3
        have f4 := pf 4
        have f5 := pf 5
        clear pf
        have S57 := S56.put6 hwg4 hrg4 (.int .i64 xb) (.int .i64 xr) (.int .i64 xu) (.int .i64 xe) (.string xh) (.string xt)
        have k457 := box6_all k456 (.int .i64 xb) (.int .i64 xr) (.int .i64 xu) (.int .i64 xe) (.string xh) (.string xt)
        have k557 := (set6_oth5 y56 g4 g5 (.int .i64 xb) (.int .i64 xr) (.int .i64 xu) (.int .i64 xe) (.string xh) (.string xt) (fun e => h45 e.symm)).trans k556
        go_simp
        refine unhide hK _ _ (fun _ => trivial) ?_
        clear hK K p0 p1 p2 p3 p4 p5 f0 f1 f2 f3 f4 f5
        generalize (((((y56.setCell ⟨g4, 0, none⟩ (.int .i64 xb)).setCell ⟨g4, 1, none⟩ (.int .i64 xr)).setCell ⟨g4, 2, none⟩ (.int .i64 xu)).setCell ⟨g4, 3, none⟩ (.int .i64 xe)).setCell ⟨g4, 4, none⟩ (.string xh)).setCell ⟨g4, 5, none⟩ (.string xt) = y57 at *
        refine anyL_ready (rs := [13]) (by kernel_rfl) (by simp) ?_
        refine AllL.cons rfl (fun K hK => ?_) AllL.nil
        obtain ⟨p0, p1, p2, p3, pf⟩ := cells4 k557
        have f0 := pf 0
        have f1 := pf 1
        have f2 := pf 2
        have f3 := pf 3
        clear pf
        have S58 := S57.put4 hwg5 hrg5 (.int .i64 xb) (.int .i64 xr) (.int .i64 xu) (.int .i64 xe)
        have k558 := box4_all5 k557 (.int .i64 xb) (.int .i64 xr) (.int .i64 xu) (.int .i64 xe)
        have k458 := (set4_oth5 y57 g5 g4 (.int .i64 xb) (.int .i64 xr) (.int .i64 xu) (.int .i64 xe) h45).trans k457
        go_simp
        refine unhide hK _ _ (fun _ => trivial) ?_
        clear hK K p0 p1 p2 p3 f0 f1 f2 f3
        generalize (((y57.setCell ⟨g5, 0, none⟩ (.int .i64 xb)).setCell ⟨g5, 1, none⟩ (.int .i64 xr)).setCell ⟨g5, 2, none⟩ (.int .i64 xu)).setCell ⟨g5, 3, none⟩ (.int .i64 xe) = y58 at *
        refine anyL_done (by kernel_rfl) ?_ _
        go_wp2_with fail
        go_meet
        exact ⟨g4, g5, rfl, rfl, hide ⟨S58, k458, k558⟩, hide ⟨hrg4, hrg5, h45, hwg4, hwg5⟩⟩
  case rest =>
    clear S4
    obtain ⟨g4, g5, rfl, rfl, HK, HNE⟩ := hcut
    have S5 := (unhide HK).1
    go_wp2_with fail
    refine (unhide HOf _ S5).mono ?_
    rintro e z1 ⟨rfl, x1⟩
    have x2 := (Below.refl z1.heap.size z1).alloc (Nat.le_refl _) (.cells #[.int .i64 xb, .int .i64 xr, .int .i64 xu, .int .i64 xe, .string xh, .string xt] 27)
    have g2 := push_get z1 (.cells #[.int .i64 xb, .int .i64 xr, .int .i64 xu, .int .i64 xe, .string xh, .string xt] 27)
    have x12 := x1.trans (x2.mono x1.size)
    have HR : Hid (R3 w gr cr (l.length + 2) (l ++ [91, 92]) g4 g5 z1.heap.size #[.int .i64 xb, .int .i64 xr, .int .i64 xu, .int .i64 xe, .string xh, .string xt] #[.int .i64 xb, .int .i64 xr, .int .i64 xu, .int .i64 xe] (z1.alloc (.cells #[.int .i64 xb, .int .i64 xr, .int .i64 xu, .int .i64 xe, .string xh, .string xt] 27))) := hide ⟨S5.on x12, bk_on (unhide HK).2.1 x12, bk_on (unhide HK).2.2 x12, g2⟩
    have HN6 : Hid (z1.heap.size ≠ gr) := hide (by have := (S5.on x1).lt; omega)
    clear x1 x2 x12 g2 S5 HK HOf HSz hlc
    go_wp2_with fail
    generalize hg6 : z1.heap.size = g6 at *
    clear hg6
    generalize z1.alloc (.cells #[.int .i64 xb, .int .i64 xr, .int .i64 xu, .int .i64 xe, .string xh, .string xt] 27) = z2 at *
    have hap := str_app l [91, 92]
    have hap2 : strOfNums [91, 92] = ⟨#[91, 92]⟩ := by decide
    rw [hap2] at hap
    clear hap2
    have hsl := strOfNums_size l
    have hcat : ¬ 9223372036854775807 < l.length + 2 := by omega
    have HSW : Hid (∀ X : World, R3 w gr cr (l.length + 2) (l ++ [91, 92]) g4 g5 g6 #[.int .i64 xb, .int .i64 xr, .int .i64 xu, .int .i64 xe, .string xh, .string xt] #[.int .i64 xb, .int .i64 xr, .int .i64 xu, .int .i64 xe] X → (fun w' : World => ((convert 22 9 (.slice (some ⟨gr, 0, none⟩) (l.length + 2) cr)).run Tryd.prog w' = .ok (.string (strOfNums (l ++ [91, 92]))) w' ∧ (convert 22 9 (.slice a0 l.length cap)).run Tryd.prog w' = .ok (.string (strOfNums l)) w') ∧ (w'.cell? ⟨g4, 0, none⟩ = some (.int .i64 xb) ∧ w'.cell? ⟨g4, 1, none⟩ = some (.int .i64 xr) ∧ w'.cell? ⟨g4, 2, none⟩ = some (.int .i64 xu) ∧ w'.cell? ⟨g4, 3, none⟩ = some (.int .i64 xe) ∧ w'.cell? ⟨g4, 4, none⟩ = some (.string xh) ∧ w'.cell? ⟨g4, 5, none⟩ = some (.string xt)) ∧ (w'.cell? ⟨g5, 0, none⟩ = some (.int .i64 xb) ∧ w'.cell? ⟨g5, 1, none⟩ = some (.int .i64 xr) ∧ w'.cell? ⟨g5, 2, none⟩ = some (.int .i64 xu) ∧ w'.cell? ⟨g5, 3, none⟩ = some (.int .i64 xe)) ∧ (w'.cell? ⟨g6, 0, none⟩ = some (.int .i64 xb) ∧ w'.cell? ⟨g6, 1, none⟩ = some (.int .i64 xr) ∧ w'.cell? ⟨g6, 2, none⟩ = some (.int .i64 xu) ∧ w'.cell? ⟨g6, 3, none⟩ = some (.int .i64 xe) ∧ w'.cell? ⟨g6, 4, none⟩ = some (.string xh) ∧ w'.cell? ⟨g6, 5, none⟩ = some (.string xt))) X) := hide fun X h => by
      obtain ⟨p0, p1, p2, p3, p4, p5, _⟩ := cells6 h.a
      obtain ⟨q0, q1, q2, q3, _⟩ := cells4 h.b
      obtain ⟨s0, s1, s2, s3, s4, s5, _⟩ := cells6 h.c
      exact ⟨⟨h.s.all (unhide HLB), str_bs X a0 cap l (unhide HIN X h.s.d).1.2.2.1⟩, ⟨p0, p1, p2, p3, p4, p5⟩, ⟨q0, q1, q2, q3⟩, s0, s1, s2, s3, s4, s5⟩
    have HR0 := hide ((unhide HR).on (drewB z2))
    clear HR
    refine regionL (S := fun w' => ((convert 22 9 (.slice (some ⟨gr, 0, none⟩) (l.length + 2) cr)).run Tryd.prog w' = .ok (.string (strOfNums (l ++ [91, 92]))) w' ∧ (convert 22 9 (.slice a0 l.length cap)).run Tryd.prog w' = .ok (.string (strOfNums l)) w') ∧ (w'.cell? ⟨g4, 0, none⟩ = some (.int .i64 xb) ∧ w'.cell? ⟨g4, 1, none⟩ = some (.int .i64 xr) ∧ w'.cell? ⟨g4, 2, none⟩ = some (.int .i64 xu) ∧ w'.cell? ⟨g4, 3, none⟩ = some (.int .i64 xe) ∧ w'.cell? ⟨g4, 4, none⟩ = some (.string xh) ∧ w'.cell? ⟨g4, 5, none⟩ = some (.string xt)) ∧ (w'.cell? ⟨g5, 0, none⟩ = some (.int .i64 xb) ∧ w'.cell? ⟨g5, 1, none⟩ = some (.int .i64 xr) ∧ w'.cell? ⟨g5, 2, none⟩ = some (.int .i64 xu) ∧ w'.cell? ⟨g5, 3, none⟩ = some (.int .i64 xe)) ∧ (w'.cell? ⟨g6, 0, none⟩ = some (.int .i64 xb) ∧ w'.cell? ⟨g6, 1, none⟩ = some (.int .i64 xr) ∧ w'.cell? ⟨g6, 2, none⟩ = some (.int .i64 xu) ∧ w'.cell? ⟨g6, 3, none⟩ = some (.int .i64 xe) ∧ w'.cell? ⟨g6, 4, none⟩ = some (.string xh) ∧ w'.cell? ⟨g6, 5, none⟩ = some (.string xt))) (fun _ => false) (by kernel_rfl) ?_
    generalize z2.drew = q0 at *
    refine anyL_take (i := 0) (v := ?vr68) rfl (by kernel_rfl) (by kernel_rfl) (by kernel_rfl) (by kernel_rfl) (fun _ _ _ h => h) (Or.inl ⟨by rfl, ?hr68⟩) (unhide HSW _ (unhide HR0)) ?_
    case hr68 => (intro w hSw; (try dsimp only at hSw); go_simp) <;> with_reducible rfl
    simp only [Act.put, List.getElem_toArray, List.getElem_cons_zero, List.setIfInBounds_toArray, List.set_cons_zero, List.set_cons_succ]
    refine anyL_take (i := 1) (v := ?vr69) rfl (by kernel_rfl) (by kernel_rfl) (by kernel_rfl) (by kernel_rfl) (fun _ _ _ h => h) (Or.inl ⟨by rfl, ?hr69⟩) (unhide HSW _ (unhide HR0)) ?_
    case hr69 => (intro w hSw; (try dsimp only at hSw); go_simp) <;> with_reducible rfl
    simp only [Act.put, List.getElem_toArray, List.getElem_cons_zero, List.getElem_cons_succ, List.setIfInBounds_toArray, List.set_cons_zero, List.set_cons_succ]
    refine anyL_take (i := 2) (v := ?vr610) rfl (by kernel_rfl) (by kernel_rfl) (by kernel_rfl) (by kernel_rfl) (fun _ _ _ h => h) (Or.inl ⟨by rfl, ?hr610⟩) (unhide HSW _ (unhide HR0)) ?_
    case hr610 => (intro w hSw; (try dsimp only at hSw); go_simp) <;> with_reducible rfl
    simp only [Act.put, List.getElem_toArray, List.getElem_cons_zero, List.getElem_cons_succ, List.setIfInBounds_toArray, List.set_cons_zero, List.set_cons_succ]
    refine anyL_take (i := 3) (v := ?vr611) rfl (by kernel_rfl) (by kernel_rfl) (by kernel_rfl) (by kernel_rfl) (fun _ _ _ h => h) (Or.inl ⟨by rfl, ?hr611⟩) (unhide HSW _ (unhide HR0)) ?_
    case hr611 => (intro w hSw; (try dsimp only at hSw); go_simp) <;> with_reducible rfl
    simp only [Act.put, List.getElem_toArray, List.getElem_cons_zero, List.getElem_cons_succ, List.setIfInBounds_toArray, List.set_cons_zero, List.set_cons_succ]
    refine anyL_take (i := 4) (v := ?vr612) rfl (by kernel_rfl) (by kernel_rfl) (by kernel_rfl) (by kernel_rfl) (fun _ _ _ h => h) (Or.inl ⟨by rfl, ?hr612⟩) (unhide HSW _ (unhide HR0)) ?_
    case hr612 => (intro w hSw; (try dsimp only at hSw); go_simp) <;> with_reducible rfl
    simp only [Act.put, List.getElem_toArray, List.getElem_cons_zero, List.getElem_cons_succ, List.setIfInBounds_toArray, List.set_cons_zero, List.set_cons_succ]
    refine anyL_take (i := 5) (v := ?vr613) rfl (by kernel_rfl) (by kernel_rfl) (by kernel_rfl) (by kernel_rfl) (fun _ _ _ h => h) (Or.inl ⟨by rfl, ?hr613⟩) (unhide HSW _ (unhide HR0)) ?_
    case hr613 => (intro w hSw; (try dsimp only at hSw); go_simp) <;> with_reducible rfl
    simp only [Act.put, List.getElem_toArray, List.getElem_cons_zero, List.getElem_cons_succ, List.setIfInBounds_toArray, List.set_cons_zero, List.set_cons_succ]
    refine anyL_take (i := 6) (v := ?vr614) rfl (by kernel_rfl) (by kernel_rfl) (by kernel_rfl) (by kernel_rfl) (fun _ _ _ h => h) (Or.inl ⟨by rfl, ?hr614⟩) (unhide HSW _ (unhide HR0)) ?_
    case hr614 => (intro w hSw; (try dsimp only at hSw); go_simp) <;> with_reducible rfl
    simp only [Act.put, List.getElem_toArray, List.getElem_cons_zero, List.getElem_cons_succ, List.setIfInBounds_toArray, List.set_cons_zero, List.set_cons_succ]
    refine anyL_take (i := 7) (v := ?vr615) rfl (by kernel_rfl) (by kernel_rfl) (by kernel_rfl) (by kernel_rfl) (fun _ _ _ h => h) (Or.inl ⟨by rfl, ?hr615⟩) (unhide HSW _ (unhide HR0)) ?_
    case hr615 => (intro w hSw; (try dsimp only at hSw); go_simp) <;> with_reducible rfl
    simp only [Act.put, List.getElem_toArray, List.getElem_cons_zero, List.getElem_cons_succ, List.setIfInBounds_toArray, List.set_cons_zero, List.set_cons_succ]
    refine anyL_take (i := 8) (v := ?vr616) rfl (by kernel_rfl) (by kernel_rfl) (by kernel_rfl) (by kernel_rfl) (fun _ _ _ h => h) (Or.inl ⟨by rfl, ?hr616⟩) (unhide HSW _ (unhide HR0)) ?_
    case hr616 => (intro w hSw; (try dsimp only at hSw); go_simp) <;> with_reducible rfl
    simp only [Act.put, List.getElem_toArray, List.getElem_cons_zero, List.getElem_cons_succ, List.setIfInBounds_toArray, List.set_cons_zero, List.set_cons_succ]
    refine anyL_ready (rs := [9]) (by kernel_rfl) (by simp) ?_
    refine AllL.cons rfl (fun K hK => ?_) AllL.nil
    go_simp
    refine (unhide HRO _ (unhide HR0).s.d).mono ?_
    rintro e q1 ⟨rfl, bx⟩
    have HR1 := hide ((unhide HR0).on bx)
    refine unhide hK _ _ (fun _ => unhide HSW _ (unhide HR1)) ?_
    clear hK K bx HR0
    refine anyL_take (i := 10) (v := ?vr617) rfl (by kernel_rfl) (by kernel_rfl) (by kernel_rfl) (by kernel_rfl) (fun _ _ _ h => h) (Or.inl ⟨by rfl, ?hr617⟩) (unhide HSW _ (unhide HR1)) ?_
    case hr617 => (intro w hSw; (try dsimp only at hSw); go_simp) <;> with_reducible rfl
    simp only [Act.put, List.getElem_toArray, List.getElem_cons_zero, List.getElem_cons_succ, List.setIfInBounds_toArray, List.set_cons_zero, List.set_cons_succ]
    refine anyL_take (i := 11) (v := ?vr618) rfl (by kernel_rfl) (by kernel_rfl) (by kernel_rfl) (by kernel_rfl) (fun _ _ _ h => h) (Or.inl ⟨by rfl, ?hr618⟩) (unhide HSW _ (unhide HR1)) ?_
    case hr618 => (intro w hSw; (try dsimp only at hSw); go_simp) <;> with_reducible rfl
    simp only [Act.put, List.getElem_toArray, List.getElem_cons_zero, List.getElem_cons_succ, List.setIfInBounds_toArray, List.set_cons_zero, List.set_cons_succ]
    refine anyL_take (i := 12) (v := ?vr619) rfl (by kernel_rfl) (by kernel_rfl) (by kernel_rfl) (by kernel_rfl) (fun _ _ _ h => h) (Or.inl ⟨by rfl, ?hr619⟩) (unhide HSW _ (unhide HR1)) ?_
    case hr619 => (intro w hSw; (try dsimp only at hSw); go_simp) <;> with_reducible rfl
    simp only [Act.put, List.getElem_toArray, List.getElem_cons_zero, List.getElem_cons_succ, List.setIfInBounds_toArray, List.set_cons_zero, List.set_cons_succ]
    refine anyL_take (i := 13) (v := ?vr620) rfl (by kernel_rfl) (by kernel_rfl) (by kernel_rfl) (by kernel_rfl) (fun _ _ _ h => h) (Or.inl ⟨by rfl, ?hr620⟩) (unhide HSW _ (unhide HR1)) ?_
    case hr620 => (intro w hSw; (try dsimp only at hSw); go_simp) <;> with_reducible rfl
    simp only [Act.put, List.getElem_toArray, List.getElem_cons_zero, List.getElem_cons_succ, List.setIfInBounds_toArray, List.set_cons_zero, List.set_cons_succ]
    refine anyL_take (i := 14) (v := ?vr621) rfl (by kernel_rfl) (by kernel_rfl) (by kernel_rfl) (by kernel_rfl) (fun _ _ _ h => h) (Or.inl ⟨by rfl, ?hr621⟩) (unhide HSW _ (unhide HR1)) ?_
    case hr621 => (intro w hSw; (try dsimp only at hSw); go_simp) <;> with_reducible rfl
    simp only [Act.put, List.getElem_toArray, List.getElem_cons_zero, List.getElem_cons_succ, List.setIfInBounds_toArray, List.set_cons_zero, List.set_cons_succ]
    refine anyL_ready (rs := [15]) (by kernel_rfl) (by simp) ?_
    refine AllL.cons rfl (fun K hK => ?_) AllL.nil
    go_simp
    refine (unhide HRS _ (unhide HR1).s.d).mono ?_
    rintro e q2 ⟨rfl, bx⟩
    have HR2 := hide ((unhide HR1).on bx)
    refine unhide hK _ _ (fun _ => unhide HSW _ (unhide HR2)) ?_
    clear hK K bx HR1
    refine anyL_take (i := 16) (v := ?vr622) rfl (by kernel_rfl) (by kernel_rfl) (by kernel_rfl) (by kernel_rfl) (fun _ _ _ h => h) (Or.inl ⟨by rfl, ?hr622⟩) (unhide HSW _ (unhide HR2)) ?_
    case hr622 => (intro w hSw; (try dsimp only at hSw); go_simp) <;> with_reducible rfl
    simp only [Act.put, List.getElem_toArray, List.getElem_cons_zero, List.getElem_cons_succ, List.setIfInBounds_toArray, List.set_cons_zero, List.set_cons_succ]
    refine anyL_take (i := 17) (v := ?vr623) rfl (by kernel_rfl) (by kernel_rfl) (by kernel_rfl) (by kernel_rfl) (fun _ _ _ h => h) (Or.inl ⟨by rfl, ?hr623⟩) (unhide HSW _ (unhide HR2)) ?_
    case hr623 => (intro w hSw; (try dsimp only at hSw); go_simp) <;> with_reducible rfl
    simp only [Act.put, List.getElem_toArray, List.getElem_cons_zero, List.getElem_cons_succ, List.setIfInBounds_toArray, List.set_cons_zero, List.set_cons_succ]
    refine anyL_take (i := 18) (v := ?vr624) rfl (by kernel_rfl) (by kernel_rfl) (by kernel_rfl) (by kernel_rfl) (fun _ _ _ h => h) (Or.inl ⟨by rfl, ?hr624⟩) (unhide HSW _ (unhide HR2)) ?_
    case hr624 => (intro w hSw; (try dsimp only at hSw); go_simp) <;> with_reducible rfl
    simp only [Act.put, List.getElem_toArray, List.getElem_cons_zero, List.getElem_cons_succ, List.setIfInBounds_toArray, List.set_cons_zero, List.set_cons_succ]
    refine anyL_take (i := 19) (v := ?vr625) rfl (by kernel_rfl) (by kernel_rfl) (by kernel_rfl) (by kernel_rfl) (fun _ _ _ h => h) (Or.inl ⟨by rfl, ?hr625⟩) (unhide HSW _ (unhide HR2)) ?_
    case hr625 => (intro w hSw; (try dsimp only at hSw); go_simp) <;> with_reducible rfl
    simp only [Act.put, List.getElem_toArray, List.getElem_cons_zero, List.getElem_cons_succ, List.setIfInBounds_toArray, List.set_cons_zero, List.set_cons_succ]
    refine anyL_take (i := 20) (v := ?vr626) rfl (by kernel_rfl) (by kernel_rfl) (by kernel_rfl) (by kernel_rfl) (fun _ _ _ h => h) (Or.inl ⟨by rfl, ?hr626⟩) (unhide HSW _ (unhide HR2)) ?_
    case hr626 => (intro w hSw; (try dsimp only at hSw); go_simp) <;> with_reducible rfl
    simp only [Act.put, List.getElem_toArray, List.getElem_cons_zero, List.getElem_cons_succ, List.setIfInBounds_toArray, List.set_cons_zero, List.set_cons_succ]
    refine anyL_take (i := 21) (v := ?vr627) rfl (by kernel_rfl) (by kernel_rfl) (by kernel_rfl) (by kernel_rfl) (fun _ _ _ h => h) (Or.inl ⟨by rfl, ?hr627⟩) (unhide HSW _ (unhide HR2)) ?_
    case hr627 => (intro w hSw; (try dsimp only at hSw); go_simp) <;> with_reducible rfl
    simp only [Act.put, List.getElem_toArray, List.getElem_cons_zero, List.getElem_cons_succ, List.setIfInBounds_toArray, List.set_cons_zero, List.set_cons_succ]
    refine anyL_take (i := 22) (v := ?vr628) rfl (by kernel_rfl) (by kernel_rfl) (by kernel_rfl) (by kernel_rfl) (fun _ _ _ h => h) (Or.inl ⟨by rfl, ?hr628⟩) (unhide HSW _ (unhide HR2)) ?_
    case hr628 => (intro w hSw; (try dsimp only at hSw); go_simp) <;> with_reducible rfl
    simp only [Act.put, List.getElem_toArray, List.getElem_cons_zero, List.getElem_cons_succ, List.setIfInBounds_toArray, List.set_cons_zero, List.set_cons_succ]
    refine anyL_done (by kernel_rfl) ?_ _
    clear hap hsl hcat HSW
    go_wp2_with fail
    go_loopw [7, 58] (fun v7 vk wx => ∃ (k : Nat) (L : List Int), vk = .int .i64 (k : Int) ∧ k ≤ l.length + 2 ∧ (∃ z, v7 = z) ∧ L.length = l.length + 2 ∧ Hid (R3 w gr cr (l.length + 2) L g4 g5 g6 #[.int .i64 xb, .int .i64 xr, .int .i64 xu, .int .i64 xe, .string xh, .string xt] #[.int .i64 xb, .int .i64 xr, .int .i64 xu, .int .i64 xe] wx)) (fun _ vk _ => l.length + 2 - (intOf vk).toNat)
    case atStart => exact ⟨0, l ++ [91, 92], rfl, Nat.zero_le _, ⟨_, rfl⟩, by simp, HR2⟩
    case round =>
      clear HR2
      obtain ⟨k, L, rfl, hk, ⟨z, rfl⟩, hLl, HI⟩ := hrel
      by_cases hlt : k < l.length + 2
      · have t1 : decide ((k : Int) < ((l.length + 2 : Nat) : Int)) = true := decide_eq_true (by omega)
        have t1' : decide ((k : Int) < (l.length : Int) + 2) = true := decide_eq_true (by omega)
        have t1'' : decide (k < l.length + 2) = true := decide_eq_true hlt
        obtain ⟨c1, c2⟩ := (unhide HI).s.o.cell k (by omega)
        have HI2 := hide ((unhide HI).write k 120 (fun e => (unhide HNE).1 e.symm) (fun e => (unhide HNE).2.1 e.symm) (unhide HN6))
        obtain ⟨u, hu⟩ := Option.isSome_iff_exists.1 c1
        have hL2 : (L.set k 120).length = l.length + 2 := by simpa using hLl
        clear c1 HI
        go_wp2_with fail
        go_roundw
        case rel => exact ⟨k + 1, L.set k 120, by go_num, hlt, ⟨_, rfl⟩, hL2, HI2⟩
        case measure => simp [intOf]; omega
      · obtain rfl : k = l.length + 2 := by omega
        have t1 : decide (((l.length + 2 : Nat) : Int) < ((l.length + 2 : Nat) : Int)) = false := decide_eq_false (by omega)
        obtain ⟨p0, p1, p2, p3, p4, p5, _⟩ := cells6 (unhide HI).a
        obtain ⟨q0, q1, q2, q3, qf⟩ := cells4 (unhide HI).b
        have f0 := qf 0
        have f1 := qf 1
        have f2 := qf 2
        have f3 := qf 3
        have HS2 := hide ((unhide HI).s.put4 (unhide HNE).2.2.2.2 (unhide HNE).2.1 (.int .i64 xb) (.int .i64 xr) (.int .i64 xu) (.int .i64 xe))
        have HA2 := hide ((set4_oth5 wr g5 g4 (.int .i64 xb) (.int .i64 xr) (.int .i64 xu) (.int .i64 xe) (unhide HNE).2.2.1).trans (unhide HI).a)
        have HB2 := hide (box4_all5 (unhide HI).b (.int .i64 xb) (.int .i64 xr) (.int .i64 xu) (.int .i64 xe))
        clear qf HI
        go_wp2_with fail
        clear p0 p1 p2 p3 p4 p5 q0 q1 q2 q3 f0 f1 f2 f3
        generalize (((wr.setCell ⟨g5, 0, none⟩ (.int .i64 xb)).setCell ⟨g5, 1, none⟩ (.int .i64 xr)).setCell ⟨g5, 2, none⟩ (.int .i64 xu)).setCell ⟨g5, 3, none⟩ (.int .i64 xe) = z3 at *
        obtain ⟨v1, v2, v2', v3, v4⟩ := unhide HVV
        have HT : Hid (∀ X : World, Below z3.heap.size z3 X → (fun w' : World => (w'.cell? ⟨g4, 0, none⟩ = some (.int .i64 xb) ∧ w'.cell? ⟨g4, 1, none⟩ = some (.int .i64 xr) ∧ w'.cell? ⟨g4, 2, none⟩ = some (.int .i64 xu) ∧ w'.cell? ⟨g4, 3, none⟩ = some (.int .i64 xe) ∧ w'.cell? ⟨g4, 4, none⟩ = some (.string xh) ∧ w'.cell? ⟨g4, 5, none⟩ = some (.string xt)) ∧ (w'.cell? ⟨g5, 0, none⟩ = some (.int .i64 xb) ∧ w'.cell? ⟨g5, 1, none⟩ = some (.int .i64 xr) ∧ w'.cell? ⟨g5, 2, none⟩ = some (.int .i64 xu) ∧ w'.cell? ⟨g5, 3, none⟩ = some (.int .i64 xe))) X) := hide fun X h => by
          obtain ⟨p0, p1, p2, p3, p4, p5, _⟩ := cells6 (bk_on (unhide HA2) h)
          obtain ⟨q0, q1, q2, q3, _⟩ := cells4 (bk_on (unhide HB2) h)
          exact ⟨⟨p0, p1, p2, p3, p4, p5⟩, q0, q1, q2, q3⟩
        have xd := drewB z3
        have HD := hide ((unhide HS2).d.trans (xd.mono (unhide HS2).d.size))
        have HX := hide xd
        clear xd HS2 HA2 HB2
        refine regionL (S := fun w' => (w'.cell? ⟨g4, 0, none⟩ = some (.int .i64 xb) ∧ w'.cell? ⟨g4, 1, none⟩ = some (.int .i64 xr) ∧ w'.cell? ⟨g4, 2, none⟩ = some (.int .i64 xu) ∧ w'.cell? ⟨g4, 3, none⟩ = some (.int .i64 xe) ∧ w'.cell? ⟨g4, 4, none⟩ = some (.string xh) ∧ w'.cell? ⟨g4, 5, none⟩ = some (.string xt)) ∧ (w'.cell? ⟨g5, 0, none⟩ = some (.int .i64 xb) ∧ w'.cell? ⟨g5, 1, none⟩ = some (.int .i64 xr) ∧ w'.cell? ⟨g5, 2, none⟩ = some (.int .i64 xu) ∧ w'.cell? ⟨g5, 3, none⟩ = some (.int .i64 xe))) (fun _ => false) (by kernel_rfl) ?_
        generalize z3.drew = s0 at *
        refine anyL_take (i := 0) (v := ?vr1429) rfl (by kernel_rfl) (by kernel_rfl) (by kernel_rfl) (by kernel_rfl) (fun _ _ _ h => h) (Or.inl ⟨by rfl, ?hr1429⟩) (unhide HT _ (unhide HX)) ?_
        case hr1429 => (intro w hSw; (try dsimp only at hSw); go_simp) <;> with_reducible rfl
        simp only [Act.put, List.getElem_toArray, List.getElem_cons_zero, List.setIfInBounds_toArray, List.set_cons_zero, List.set_cons_succ]
        refine anyL_take (i := 1) (v := ?vr1430) rfl (by kernel_rfl) (by kernel_rfl) (by kernel_rfl) (by kernel_rfl) (fun _ _ _ h => h) (Or.inl ⟨by rfl, ?hr1430⟩) (unhide HT _ (unhide HX)) ?_
        case hr1430 => (intro w hSw; (try dsimp only at hSw); go_simp) <;> with_reducible rfl
        simp only [Act.put, List.getElem_toArray, List.getElem_cons_zero, List.getElem_cons_succ, List.setIfInBounds_toArray, List.set_cons_zero, List.set_cons_succ]
        refine anyL_ready (rs := [2]) (by kernel_rfl) (by simp) ?_
        refine AllL.cons rfl (fun K hK => ?_) AllL.nil
        go_simp
        refine (unhide HRO _ (unhide HD)).mono ?_
        rintro e s1 ⟨rfl, bx⟩
        have HD1 := hide ((unhide HD).trans (bx.mono (unhide HD).size))
        have HX1 := hide ((unhide HX).trans (bx.mono (unhide HX).size))
        refine unhide hK _ _ (fun _ => unhide HT _ (unhide HX1)) ?_
        clear hK K bx HD HX
        refine anyL_take (i := 3) (v := ?vr1431) rfl (by kernel_rfl) (by kernel_rfl) (by kernel_rfl) (by kernel_rfl) (fun _ _ _ h => h) (Or.inl ⟨by rfl, ?hr1431⟩) (unhide HT _ (unhide HX1)) ?_
        case hr1431 => (intro w hSw; (try dsimp only at hSw); go_simp) <;> with_reducible rfl
        simp only [Act.put, List.getElem_toArray, List.getElem_cons_zero, List.getElem_cons_succ, List.setIfInBounds_toArray, List.set_cons_zero, List.set_cons_succ]
        refine anyL_take (i := 4) (v := ?vr1432) rfl (by kernel_rfl) (by kernel_rfl) (by kernel_rfl) (by kernel_rfl) (fun _ _ _ h => h) (Or.inl ⟨by rfl, ?hr1432⟩) (unhide HT _ (unhide HX1)) ?_
        case hr1432 => (intro w hSw; (try dsimp only at hSw); go_simp) <;> with_reducible rfl
        simp only [Act.put, List.getElem_toArray, List.getElem_cons_zero, List.getElem_cons_succ, List.setIfInBounds_toArray, List.set_cons_zero, List.set_cons_succ]
        refine anyL_take (i := 5) (v := ?vr1433) rfl (by kernel_rfl) (by kernel_rfl) (by kernel_rfl) (by kernel_rfl) (fun _ _ _ h => h) (Or.inl ⟨by rfl, ?hr1433⟩) (unhide HT _ (unhide HX1)) ?_
        case hr1433 => (intro w hSw; (try dsimp only at hSw); go_simp) <;> with_reducible rfl
        simp only [Act.put, List.getElem_toArray, List.getElem_cons_zero, List.getElem_cons_succ, List.setIfInBounds_toArray, List.set_cons_zero, List.set_cons_succ]
        refine anyL_ready (rs := [6]) (by kernel_rfl) (by simp) ?_
        refine AllL.cons rfl (fun K hK => ?_) AllL.nil
        go_simp
        refine (unhide HVa _ (unhide HD1)).mono ?_
        rintro e s2 ⟨rfl, bx⟩
        have HDE := hide ((unhide HD1).trans (bx.mono (unhide HD1).size))
        have HX2 := hide ((unhide HX1).trans (bx.mono (unhide HX1).size))
        refine unhide hK _ _ (fun _ => unhide HT _ (unhide HX2)) ?_
        clear hK K bx HD1 HX1
        refine anyL_take (i := 7) (v := ?vr1434) rfl (by kernel_rfl) (by kernel_rfl) (by kernel_rfl) (by kernel_rfl) (fun _ _ _ h => h) (Or.inl ⟨by rfl, ?hr1434⟩) (unhide HT _ (unhide HX2)) ?_
        case hr1434 => (intro w hSw; (try dsimp only at hSw); go_simp) <;> with_reducible rfl
        simp only [Act.put, List.getElem_toArray, List.getElem_cons_zero, List.getElem_cons_succ, List.setIfInBounds_toArray, List.set_cons_zero, List.set_cons_succ]
        refine anyL_take (i := 8) (v := ?vr1435) rfl (by kernel_rfl) (by kernel_rfl) (by kernel_rfl) (by kernel_rfl) (fun _ _ _ h => h) (Or.inl ⟨by rfl, ?hr1435⟩) (unhide HT _ (unhide HX2)) ?_
        case hr1435 => (intro w hSw; (try dsimp only at hSw); go_simp) <;> with_reducible rfl
        simp only [Act.put, List.getElem_toArray, List.getElem_cons_zero, List.getElem_cons_succ, List.setIfInBounds_toArray, List.set_cons_zero, List.set_cons_succ]
        refine anyL_take (i := 9) (v := ?vr1436) rfl (by kernel_rfl) (by kernel_rfl) (by kernel_rfl) (by kernel_rfl) (fun _ _ _ h => h) (Or.inl ⟨by rfl, ?hr1436⟩) (unhide HT _ (unhide HX2)) ?_
        case hr1436 => (intro w hSw; (try dsimp only at hSw); go_simp) <;> with_reducible rfl
        simp only [Act.put, List.getElem_toArray, List.getElem_cons_zero, List.getElem_cons_succ, List.setIfInBounds_toArray, List.set_cons_zero, List.set_cons_succ]
        refine anyL_take (i := 10) (v := ?vr1437) rfl (by kernel_rfl) (by kernel_rfl) (by kernel_rfl) (by kernel_rfl) (fun _ _ _ h => h) (Or.inl ⟨by rfl, ?hr1437⟩) (unhide HT _ (unhide HX2)) ?_
        case hr1437 => (intro w hSw; (try dsimp only at hSw); go_simp) <;> with_reducible rfl
        simp only [Act.put, List.getElem_toArray, List.getElem_cons_zero, List.getElem_cons_succ, List.setIfInBounds_toArray, List.set_cons_zero, List.set_cons_succ]
        refine anyL_take (i := 11) (v := ?vr1438) rfl (by kernel_rfl) (by kernel_rfl) (by kernel_rfl) (by kernel_rfl) (fun _ _ _ h => h) (Or.inl ⟨by rfl, ?hr1438⟩) (unhide HT _ (unhide HX2)) ?_
        case hr1438 => (intro w hSw; (try dsimp only at hSw); go_simp) <;> with_reducible rfl
        simp only [Act.put, List.getElem_toArray, List.getElem_cons_zero, List.getElem_cons_succ, List.setIfInBounds_toArray, List.set_cons_zero, List.set_cons_succ]
        refine anyL_take (i := 12) (v := ?vr1439) rfl (by kernel_rfl) (by kernel_rfl) (by kernel_rfl) (by kernel_rfl) (fun _ _ _ h => h) (Or.inl ⟨by rfl, ?hr1439⟩) (unhide HT _ (unhide HX2)) ?_
        case hr1439 => (intro w hSw; (try dsimp only at hSw); go_simp) <;> with_reducible rfl
        simp only [Act.put, List.getElem_toArray, List.getElem_cons_zero, List.getElem_cons_succ, List.setIfInBounds_toArray, List.set_cons_zero, List.set_cons_succ]
        refine anyL_take (i := 13) (v := ?vr1440) rfl (by kernel_rfl) (by kernel_rfl) (by kernel_rfl) (by kernel_rfl) (fun _ _ _ h => h) (Or.inl ⟨by rfl, ?hr1440⟩) (unhide HT _ (unhide HX2)) ?_
        case hr1440 => (intro w hSw; (try dsimp only at hSw); go_simp) <;> with_reducible rfl
        simp only [Act.put, List.getElem_toArray, List.getElem_cons_zero, List.getElem_cons_succ, List.setIfInBounds_toArray, List.set_cons_zero, List.set_cons_succ]
        refine anyL_take (i := 14) (v := ?vr1441) rfl (by kernel_rfl) (by kernel_rfl) (by kernel_rfl) (by kernel_rfl) (fun _ _ _ h => h) (Or.inl ⟨by rfl, ?hr1441⟩) (unhide HT _ (unhide HX2)) ?_
        case hr1441 => (intro w hSw; (try dsimp only at hSw); go_simp) <;> with_reducible rfl
        simp only [Act.put, List.getElem_toArray, List.getElem_cons_zero, List.getElem_cons_succ, List.setIfInBounds_toArray, List.set_cons_zero, List.set_cons_succ]
        refine anyL_take (i := 15) (v := ?vr1442) rfl (by kernel_rfl) (by kernel_rfl) (by kernel_rfl) (by kernel_rfl) (fun _ _ _ h => h) (Or.inl ⟨by rfl, ?hr1442⟩) (unhide HT _ (unhide HX2)) ?_
        case hr1442 => (intro w hSw; (try dsimp only at hSw); go_simp) <;> with_reducible rfl
        simp only [Act.put, List.getElem_toArray, List.getElem_cons_zero, List.getElem_cons_succ, List.setIfInBounds_toArray, List.set_cons_zero, List.set_cons_succ]
        refine anyL_take (i := 16) (v := ?vr1443) rfl (by kernel_rfl) (by kernel_rfl) (by kernel_rfl) (by kernel_rfl) (fun _ _ _ h => h) (Or.inl ⟨by rfl, ?hr1443⟩) (unhide HT _ (unhide HX2)) ?_
        case hr1443 => (intro w hSw; (try dsimp only at hSw); go_simp) <;> with_reducible rfl
        simp only [Act.put, List.getElem_toArray, List.getElem_cons_zero, List.getElem_cons_succ, List.setIfInBounds_toArray, List.set_cons_zero, List.set_cons_succ]
        refine anyL_take (i := 17) (v := ?vr1444) rfl (by kernel_rfl) (by kernel_rfl) (by kernel_rfl) (by kernel_rfl) (fun _ _ _ h => h) (Or.inl ⟨by rfl, ?hr1444⟩) (unhide HT _ (unhide HX2)) ?_
        case hr1444 => (intro w hSw; (try dsimp only at hSw); go_simp) <;> with_reducible rfl
        simp only [Act.put, List.getElem_toArray, List.getElem_cons_zero, List.getElem_cons_succ, List.setIfInBounds_toArray, List.set_cons_zero, List.set_cons_succ]
        refine anyL_take (i := 18) (v := ?vr1445) rfl (by kernel_rfl) (by kernel_rfl) (by kernel_rfl) (by kernel_rfl) (fun _ _ _ h => h) (Or.inl ⟨by rfl, ?hr1445⟩) (unhide HT _ (unhide HX2)) ?_
        case hr1445 => (intro w hSw; (try dsimp only at hSw); go_simp) <;> with_reducible rfl
        simp only [Act.put, List.getElem_toArray, List.getElem_cons_zero, List.getElem_cons_succ, List.setIfInBounds_toArray, List.set_cons_zero, List.set_cons_succ]
        refine anyL_take (i := 19) (v := ?vr1446) rfl (by kernel_rfl) (by kernel_rfl) (by kernel_rfl) (by kernel_rfl) (fun _ _ _ h => h) (Or.inl ⟨by rfl, ?hr1446⟩) (unhide HT _ (unhide HX2)) ?_
        case hr1446 => (intro w hSw; (try dsimp only at hSw); go_simp) <;> with_reducible rfl
        simp only [Act.put, List.getElem_toArray, List.getElem_cons_zero, List.getElem_cons_succ, List.setIfInBounds_toArray, List.set_cons_zero, List.set_cons_succ]
        refine anyL_take (i := 20) (v := ?vr1447) rfl (by kernel_rfl) (by kernel_rfl) (by kernel_rfl) (by kernel_rfl) (fun _ _ _ h => h) (Or.inl ⟨by rfl, ?hr1447⟩) (unhide HT _ (unhide HX2)) ?_
        case hr1447 => (intro w hSw; (try dsimp only at hSw); go_simp) <;> with_reducible rfl
        simp only [Act.put, List.getElem_toArray, List.getElem_cons_zero, List.getElem_cons_succ, List.setIfInBounds_toArray, List.set_cons_zero, List.set_cons_succ]
        refine anyL_take (i := 21) (v := ?vr1448) rfl (by kernel_rfl) (by kernel_rfl) (by kernel_rfl) (by kernel_rfl) (fun _ _ _ h => h) (Or.inl ⟨by rfl, ?hr1448⟩) (unhide HT _ (unhide HX2)) ?_
        case hr1448 => (intro w hSw; (try dsimp only at hSw); go_simp) <;> with_reducible rfl
        simp only [Act.put, List.getElem_toArray, List.getElem_cons_zero, List.getElem_cons_succ, List.setIfInBounds_toArray, List.set_cons_zero, List.set_cons_succ]
        refine anyL_take (i := 22) (v := ?vr1449) rfl (by kernel_rfl) (by kernel_rfl) (by kernel_rfl) (by kernel_rfl) (fun _ _ _ h => h) (Or.inl ⟨by rfl, ?hr1449⟩) (unhide HT _ (unhide HX2)) ?_
        case hr1449 => (intro w hSw; (try dsimp only at hSw); go_simp) <;> with_reducible rfl
        simp only [Act.put, List.getElem_toArray, List.getElem_cons_zero, List.getElem_cons_succ, List.setIfInBounds_toArray, List.set_cons_zero, List.set_cons_succ]
        refine anyL_take (i := 23) (v := ?vr1450) rfl (by kernel_rfl) (by kernel_rfl) (by kernel_rfl) (by kernel_rfl) (fun _ _ _ h => h) (Or.inl ⟨by rfl, ?hr1450⟩) (unhide HT _ (unhide HX2)) ?_
        case hr1450 => (intro w hSw; (try dsimp only at hSw); go_simp) <;> with_reducible rfl
        simp only [Act.put, List.getElem_toArray, List.getElem_cons_zero, List.getElem_cons_succ, List.setIfInBounds_toArray, List.set_cons_zero, List.set_cons_succ]
        refine anyL_take (i := 24) (v := ?vr1451) rfl (by kernel_rfl) (by kernel_rfl) (by kernel_rfl) (by kernel_rfl) (fun _ _ _ h => h) (Or.inl ⟨by rfl, ?hr1451⟩) (unhide HT _ (unhide HX2)) ?_
        case hr1451 => (intro w hSw; (try dsimp only at hSw); go_simp) <;> with_reducible rfl
        simp only [Act.put, List.getElem_toArray, List.getElem_cons_zero, List.getElem_cons_succ, List.setIfInBounds_toArray, List.set_cons_zero, List.set_cons_succ]
        refine anyL_take (i := 25) (v := ?vr1452) rfl (by kernel_rfl) (by kernel_rfl) (by kernel_rfl) (by kernel_rfl) (fun _ _ _ h => h) (Or.inl ⟨by rfl, ?hr1452⟩) (unhide HT _ (unhide HX2)) ?_
        case hr1452 => (intro w hSw; (try dsimp only at hSw); go_simp) <;> with_reducible rfl
        simp only [Act.put, List.getElem_toArray, List.getElem_cons_zero, List.getElem_cons_succ, List.setIfInBounds_toArray, List.set_cons_zero, List.set_cons_succ]
        refine anyL_take (i := 26) (v := ?vr1453) rfl (by kernel_rfl) (by kernel_rfl) (by kernel_rfl) (by kernel_rfl) (fun _ _ _ h => h) (Or.inl ⟨by rfl, ?hr1453⟩) (unhide HT _ (unhide HX2)) ?_
        case hr1453 => (intro w hSw; (try dsimp only at hSw); go_simp) <;> with_reducible rfl
        simp only [Act.put, List.getElem_toArray, List.getElem_cons_zero, List.getElem_cons_succ, List.setIfInBounds_toArray, List.set_cons_zero, List.set_cons_succ]
        refine anyL_take (i := 27) (v := ?vr1454) rfl (by kernel_rfl) (by kernel_rfl) (by kernel_rfl) (by kernel_rfl) (fun _ _ _ h => h) (Or.inl ⟨by rfl, ?hr1454⟩) (unhide HT _ (unhide HX2)) ?_
        case hr1454 => (intro w hSw; (try dsimp only at hSw); go_simp) <;> with_reducible rfl
        simp only [Act.put, List.getElem_toArray, List.getElem_cons_zero, List.getElem_cons_succ, List.setIfInBounds_toArray, List.set_cons_zero, List.set_cons_succ]
        refine anyL_take (i := 28) (v := ?vr1455) rfl (by kernel_rfl) (by kernel_rfl) (by kernel_rfl) (by kernel_rfl) (fun _ _ _ h => h) (Or.inl ⟨by rfl, ?hr1455⟩) (unhide HT _ (unhide HX2)) ?_
        case hr1455 => (intro w hSw; (try dsimp only at hSw); go_simp) <;> with_reducible rfl
        simp only [Act.put, List.getElem_toArray, List.getElem_cons_zero, List.getElem_cons_succ, List.setIfInBounds_toArray, List.set_cons_zero, List.set_cons_succ]
        refine anyL_take (i := 29) (v := ?vr1456) rfl (by kernel_rfl) (by kernel_rfl) (by kernel_rfl) (by kernel_rfl) (fun _ _ _ h => h) (Or.inl ⟨by rfl, ?hr1456⟩) (unhide HT _ (unhide HX2)) ?_
        case hr1456 => (intro w hSw; (try dsimp only at hSw); go_simp) <;> with_reducible rfl
        simp only [Act.put, List.getElem_toArray, List.getElem_cons_zero, List.getElem_cons_succ, List.setIfInBounds_toArray, List.set_cons_zero, List.set_cons_succ]
        refine anyL_take (i := 30) (v := ?vr1457) rfl (by kernel_rfl) (by kernel_rfl) (by kernel_rfl) (by kernel_rfl) (fun _ _ _ h => h) (Or.inl ⟨by rfl, ?hr1457⟩) (unhide HT _ (unhide HX2)) ?_
        case hr1457 => (intro w hSw; (try dsimp only at hSw); go_simp) <;> with_reducible rfl
        simp only [Act.put, List.getElem_toArray, List.getElem_cons_zero, List.getElem_cons_succ, List.setIfInBounds_toArray, List.set_cons_zero, List.set_cons_succ]
        refine anyL_take (i := 31) (v := ?vr1458) rfl (by kernel_rfl) (by kernel_rfl) (by kernel_rfl) (by kernel_rfl) (fun _ _ _ h => h) (Or.inl ⟨by rfl, ?hr1458⟩) (unhide HT _ (unhide HX2)) ?_
        case hr1458 => (intro w hSw; (try dsimp only at hSw); go_simp) <;> with_reducible rfl
        simp only [Act.put, List.getElem_toArray, List.getElem_cons_zero, List.getElem_cons_succ, List.setIfInBounds_toArray, List.set_cons_zero, List.set_cons_succ]
        refine anyL_take (i := 32) (v := ?vr1459) rfl (by kernel_rfl) (by kernel_rfl) (by kernel_rfl) (by kernel_rfl) (fun _ _ _ h => h) (Or.inl ⟨by rfl, ?hr1459⟩) (unhide HT _ (unhide HX2)) ?_
        case hr1459 => (intro w hSw; (try dsimp only at hSw); go_simp) <;> with_reducible rfl
        simp only [Act.put, List.getElem_toArray, List.getElem_cons_zero, List.getElem_cons_succ, List.setIfInBounds_toArray, List.set_cons_zero, List.set_cons_succ]
        refine anyL_take (i := 33) (v := ?vr1460) rfl (by kernel_rfl) (by kernel_rfl) (by kernel_rfl) (by kernel_rfl) (fun _ _ _ h => h) (Or.inl ⟨by rfl, ?hr1460⟩) (unhide HT _ (unhide HX2)) ?_
        case hr1460 => (intro w hSw; (try dsimp only at hSw); go_simp) <;> with_reducible rfl
        simp only [Act.put, List.getElem_toArray, List.getElem_cons_zero, List.getElem_cons_succ, List.setIfInBounds_toArray, List.set_cons_zero, List.set_cons_succ]
        refine anyL_take (i := 34) (v := ?vr1461) rfl (by kernel_rfl) (by kernel_rfl) (by kernel_rfl) (by kernel_rfl) (fun _ _ _ h => h) (Or.inl ⟨by rfl, ?hr1461⟩) (unhide HT _ (unhide HX2)) ?_
        case hr1461 => (intro w hSw; (try dsimp only at hSw); go_simp) <;> with_reducible rfl
        simp only [Act.put, List.getElem_toArray, List.getElem_cons_zero, List.getElem_cons_succ, List.setIfInBounds_toArray, List.set_cons_zero, List.set_cons_succ]
        refine anyL_take (i := 35) (v := ?vr1462) rfl (by kernel_rfl) (by kernel_rfl) (by kernel_rfl) (by kernel_rfl) (fun _ _ _ h => h) (Or.inl ⟨by rfl, ?hr1462⟩) (unhide HT _ (unhide HX2)) ?_
        case hr1462 => (intro w hSw; (try dsimp only at hSw); go_simp) <;> with_reducible rfl
        simp only [Act.put, List.getElem_toArray, List.getElem_cons_zero, List.getElem_cons_succ, List.setIfInBounds_toArray, List.set_cons_zero, List.set_cons_succ]
        refine anyL_take (i := 36) (v := ?vr1463) rfl (by kernel_rfl) (by kernel_rfl) (by kernel_rfl) (by kernel_rfl) (fun _ _ _ h => h) (Or.inl ⟨by rfl, ?hr1463⟩) (unhide HT _ (unhide HX2)) ?_
        case hr1463 => (intro w hSw; (try dsimp only at hSw); go_simp) <;> with_reducible rfl
        simp only [Act.put, List.getElem_toArray, List.getElem_cons_zero, List.getElem_cons_succ, List.setIfInBounds_toArray, List.set_cons_zero, List.set_cons_succ]
        refine anyL_done (by kernel_rfl) ?_ _
        go_wp2_with fail
        go_ret
        exact ⟨rfl, unhide HDE⟩

end Go.Proofs.YtlhobpjiclcpiaaDoor
