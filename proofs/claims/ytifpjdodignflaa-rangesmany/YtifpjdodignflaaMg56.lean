/- Layer 16: RangesMany's walk. -/
import Derived.Test.YtifpjdodignflaaMg55
import Derived.Test.YtifpjdodignflaaMg09

namespace Go.Proofs.Ytifpjdodignflaa
open Go.ChangeShapes Go.WideShapes Go.ChangeAt Go.RowKit
attribute [local go_sem] Oper.semAt_some

/-- a conversion whose run is known -/
theorem wpList_convR {P : Program} {ops : Array Oper} {rest : List Oper} {o : Oper} {a : Act} {Q : Exit → Act → World → Prop} {w : World} (hw : Region.wanted o (yielded ops a.tmps) = true) (s d : TypeId) (x : Operand)
    (ho : o.op = .convert s d x) (u v' : Value) (hx : a.eval x = u) (hr : (convert s d u).run P w = .ok v' w) (h : wpList P ops Q rest (a.put o.dst v') w) : wpList P ops Q (o :: rest) a w := by
  unfold wpList
  rw [if_pos hw]
  left
  unfold Oper.wp execOp
  simp only [ho]
  go_simp
  subst hx
  have e := hr
  unfold Act.eval at e
  simp only [Array.getD_eq_getD_getElem?] at e
  rw [e]
  exact h
def nmCR (j : Nat) : Array Value := #[.int .u8 ((j : Int) % 256), .int .u8 ((j : Int) / 256)]
theorem conv_nmR (W : World) (g j : Nat) (h : Cls W g 5 (nmCR j)) : (convert 43 9 (.slice (some ⟨g, 0, none⟩) 2 2)).run Try.prog W = .ok (.string (strOfNums (nmR j))) W :=
  run_convert_bytes_arg W 43 5 Try.underlying43 Try.underlying5 g 0 2 2 (nmR j) rfl (fun i hi => by
    rw [Nat.zero_add, h.cell i]
    match i, hi with
    | 0, _ => rfl
    | 1, _ => rfl) 9 Try.underlying9
theorem rgm_V (i : Nat) : rgV (rgm i) = .agg #[.string (strOfNums (nmR i)), .int .i64 2, .int .i64 5, .int .i64 1, .int .i64 1] := rfl
def nmS : Nat → ByteArray
  | 0 => ⟨#[]⟩
  | j + 1 => strOfNums (nmR j)
/-- what the loop keeps -/
structure RyI (w wx : World) (bx : Nat) (i g : Nat) : Prop where
  m : IsRs wx g 9 (rny i)
  n : Cls wx bx 37 #[.string (nmS i), .int .i64 2, .int .i64 5, .int .i64 1, .int .i64 1]
  b : Below w.heap.size w wx
  a : w.heap.size ≤ bx
theorem rs_set {wx : World} {bx g j : Nat} {n : Int} {L : List Rg} {t : TypeId} {cs : Array Value} (hm : IsRs wx g n L) (hn : Cls wx bx t cs) (ht : t ≠ 67) (v : Value) : IsRs (wx.setCell ⟨bx, j, none⟩ v) g n L := by
  obtain ⟨r, h1, h2⟩ := hm.c
  have hg : g ≠ bx := fun e => by
    have a1 := hn
    unfold Cls at a1 h1
    rw [← e, h1] at a1
    cases a1
    exact ht rfl
  have hr : r ≠ bx := fun e => by
    obtain ⟨es, clock, h3, _⟩ := h2
    have a1 := hn
    unfold Cls at a1
    rw [← e, h3] at a1; cases a1
  exact ⟨r, h1.other ⟨bx, j, none⟩ _ hg, h2.same (Below.heap_setCell _ ⟨bx, j, none⟩ _ r hr)⟩
/-- behind the name's store -/
theorem RyI.named {w wx : World} {bx i g : Nat} (h : RyI w wx bx i g) : IsRs ((wx.alloc (.cells (nmCR i) 5)).setCell ⟨bx, 0, none⟩ (.string (strOfNums (nmR i)))) g 9 (rny i) ∧ Cls ((wx.alloc (.cells (nmCR i) 5)).setCell ⟨bx, 0, none⟩ (.string (strOfNums (nmR i)))) bx 37 #[.string (strOfNums (nmR i)), .int .i64 2, .int .i64 5, .int .i64 1, .int .i64 1] ∧ Below w.heap.size w ((wx.alloc (.cells (nmCR i) 5)).setCell ⟨bx, 0, none⟩ (.string (strOfNums (nmR i)))) := by
  have b1 := (Below.refl wx.heap.size wx).alloc (Nat.le_refl _) (.cells (nmCR i) 5)
  have n1 := h.n.below b1 h.n.lt
  exact ⟨rs_set (h.m.below b1 (Nat.le_refl _)) n1 (by decide) _, n1.set 0 _, (h.b.trans (b1.mono h.b.size)).setCell (p := ⟨bx, 0, none⟩) h.a _⟩
set_option maxRecDepth 100000 in
set_option maxHeartbeats 8000000 in
theorem RangesMany_any (w : World) : Calls Try.prog 4 #[] w fun y w' => y = .returned (.bool true) ∧ Below w.heap.size w w' := by
  have HAw := hide (awake16_at w)
  have HNw := hide fun (Y : World) => GNew_at 9 Y (by decide)
  have HSt := hide fun (Y : World) (g i : Nat) (hi : i < 1024) (h : IsRs Y g 9 (rny i)) => GSet_at g 9 (rny i) (rgm i) Y h (rny_ref hi)
  simp only [rgm_V] at HSt
  have HSA := hide fun (Y : World) (g : Nat) (h : IsRs Y g 9 (rny 1024)) => GSetE_at g 9 (rny 1024) rnA Y h (by rw [rnA_ref]; decide)
  have HSB := hide fun (Y : World) (g : Nat) (h : IsRs Y g 9 (rny 1024)) => GSet_at g 9 (rny 1024) rnB Y h rnB_ref
  have HL1 := hide fun (Y : World) (g : Nat) (h : IsRs Y g 9 (rny 1024)) => GList_at g 9 (rny 1024) Y h (by rw [rny_len]; decide)
  have HL2 := hide fun (Y : World) (g : Nat) (h : IsRs Y g 9 rn2) => GList_at g 9 rn2 Y h (by rw [rn2_len]; decide)
  rw [show rgV rnA = .agg #[.string ⟨#[111, 110, 101, 32, 109, 111, 114, 101]⟩, .int .i64 3, .int .i64 5, .int .i64 1, .int .i64 1] from rfl, rnA_ref] at HSA
  rw [show rgV rnB = .agg #[.string (strOfNums (nmR 1023)), .int .i64 3, .int .i64 5, .int .i64 1, .int .i64 1] from rfl] at HSB
  go_enter Try.func4, Try.ntmps4
  go_wp2_with fail
  refine (unhide HAw).mono ?_
  rintro y w1 ⟨rfl, x1⟩
  dsimp only
  have HX1 := hide x1
  have HC2 := hide (unhide HNw w1)
  clear HAw HNw x1
  go_wp2_with fail
  refine (unhide HC2).mono ?_
  rintro y w2 ⟨g2, rfl, _, s2, x2⟩
  dsimp only
  have hx2 := (unhide HX1).trans (x2.mono (unhide HX1).size)
  have b3 := (Below.refl w2.heap.size w2).alloc (Nat.le_refl _) (.cells #[.string ⟨#[]⟩, .int .i64 2, .int .i64 5, .int .i64 1, .int .i64 1] 37)
  have HI0 : Hid (RyI w (w2.alloc (.cells #[.string ⟨#[]⟩, .int .i64 2, .int .i64 5, .int .i64 1, .int .i64 1] 37)) w2.heap.size 0 g2) := hide ⟨s2.below b3 (Nat.le_refl _), Cls.new w2 37 _, hx2.trans (b3.mono hx2.size), hx2.size⟩
  clear HC2 HX1 s2 x2 hx2 b3
  go_wp2_with fail
  generalize w2.heap.size = bx at *
  go_loopw [1, 2, 4] (fun v1 v2 v4 wx => v2 = .int .i64 0 ∧ ∃ (i g : Nat), v4 = .int .i64 (i : Int) ∧ v1 = .pointer (some ⟨g, 0, none⟩) ∧ i ≤ 1024 ∧ Hid (RyI w wx bx i g)) (fun _ _ v4 _ => 1024 - (intOf v4).toNat)
  case atStart => exact ⟨rfl, 0, g2, rfl, rfl, Nat.zero_le _, HI0⟩
  case round =>
    clear HI0
    obtain ⟨rfl, i, g, rfl, rfl, hi, HI⟩ := hrel
    by_cases hlt : i < 1024
    · have t1 : decide ((i : Int) < 1024) = true := decide_eq_true (by omega)
      have k1 := (unhide HI).n
      have f0 := (k1.below ((Below.refl wr.heap.size wr).alloc (Nat.le_refl _) (.cells (nmCR i) 5)) k1.lt).frozen 0
      have d0 := (k1.below ((Below.refl wr.heap.size wr).alloc (Nat.le_refl _) (.cells (nmCR i) 5)) k1.lt).cell 0
      have CV := hide (conv_nmR (wr.alloc (.cells (nmCR i) 5)) wr.heap.size i (Cls.new wr 5 (nmCR i)))
      have HN := hide (unhide HI).named
      simp only [List.getElem?_toArray, List.getElem?_cons_zero] at d0
      unfold nmCR at f0 d0 CV HN
      clear k1
      go_upto_region 9 with (refine wpList_convR rfl 43 9 _ rfl _ _ rfl (unhide CV) ?_; clear CV)
      clear d0 f0
      obtain ⟨m5, k5, b5⟩ := unhide HN
      have HA : Hid (Below w.heap.size w ((wr.alloc (.cells #[.int .u8 ((i : Int) % 256), .int .u8 ((i : Int) / 256)] 5)).setCell ⟨bx, 0, none⟩ (.string (strOfNums (nmR i)))) ∧ w.heap.size ≤ bx ∧ Cls ((wr.alloc (.cells #[.int .u8 ((i : Int) % 256), .int .u8 ((i : Int) / 256)] 5)).setCell ⟨bx, 0, none⟩ (.string (strOfNums (nmR i)))) bx 37 #[.string (strOfNums (nmR i)), .int .i64 2, .int .i64 5, .int .i64 1, .int .i64 1]) := hide ⟨b5, (unhide HI).a, k5⟩
      have HC := hide (unhide HSt _ g i hlt m5)
      clear HN HI m5 k5 b5
      generalize (wr.alloc (.cells #[.int .u8 ((i : Int) % 256), .int .u8 ((i : Int) / 256)] 5)).setCell ⟨bx, 0, none⟩ (.string (strOfNums (nmR i))) = wA at *
      have c0 := (unhide HA).2.2.cell 0
      have c1 := (unhide HA).2.2.cell 1
      have c2 := (unhide HA).2.2.cell 2
      have c3 := (unhide HA).2.2.cell 3
      have c4 := (unhide HA).2.2.cell 4
      simp only [List.getElem?_toArray, List.getElem?_cons_zero, List.getElem?_cons_succ] at c0 c1 c2 c3 c4
      go_wp2_with fail
      refine (unhide HC).mono ?_
      rintro y wB ⟨g', rfl, sB, xB⟩
      dsimp only
      rw [rny_put (by omega)] at sB
      have HIB : Hid (RyI w wB bx (i + 1) g') := hide ⟨sB, (unhide HA).2.2.below xB (unhide HA).2.2.lt, (unhide HA).1.trans (xB.mono (unhide HA).1.size), (unhide HA).2.1⟩
      clear HC HA sB xB c0 c1 c2 c3 c4
      go_wp2_with fail
      go_roundw
      case rel => exact ⟨rfl, i + 1, g', by go_num, rfl, hlt, HIB⟩
      case measure => simp [intOf]; omega
    · obtain rfl : i = 1024 := by omega
      clear hi hlt HSt
      have HM := hide fun (Y : World) (hY : Below wr.heap.size wr Y) => (unhide HI).m.below hY (Nat.le_refl _)
      have HK := hide fun (Y : World) (hY : Below wr.heap.size wr Y) => (unhide HI).n.below hY (unhide HI).n.lt
      have HX0 := hide (unhide HI).b
      have HAB := hide (unhide HI).a
      clear HI
      have HC1 := hide (unhide HL1 wr g (unhide HM wr (Below.refl _ _)))
      go_wp2_with fail
      refine (unhide HC1).mono ?_
      rintro y v1 ⟨a1, c1, E1, rfl, p1, _, _, x1⟩
      dsimp only
      have z1 : E1.length = 1024 := by have := p1.length_eq; rw [rny_in, rny_len] at this; exact this
      rw [z1]
      have k1 := unhide HK v1 x1
      have m1 := unhide HM v1 x1
      have f1 := k1.frozen 1
      have d1 := k1.cell 1
      simp only [List.getElem?_toArray, List.getElem?_cons_zero, List.getElem?_cons_succ] at d1
      have HX1 := hide ((unhide HX0).trans (x1.mono (unhide HX0).size))
      have HKB := hide (And.intro (k1.set 1 (.int .i64 3)) (And.intro (rs_set (j := 1) m1 k1 (by decide) (.int .i64 3)) ((unhide HX1).setCell (p := ⟨bx, 1, none⟩) (unhide HAB) (.int .i64 3))))
      clear HC1 HX0 p1 z1 k1 m1 x1 HM HK HX1
      unfold nmS at HKB
      go_upto_region 13 with fail
      clear d1 f1
      generalize v1.setCell ⟨bx, 1, none⟩ (.int .i64 3) = v2 at *
      obtain ⟨k2, m2, b2⟩ := unhide HKB
      have d0 := k2.cell 0
      have d1 := k2.cell 1
      have d2 := k2.cell 2
      have d3 := k2.cell 3
      have d4 := k2.cell 4
      simp only [List.setIfInBounds_toArray, List.set_cons_zero, List.set_cons_succ, List.getElem?_toArray, List.getElem?_cons_zero, List.getElem?_cons_succ] at d0 d1 d2 d3 d4
      have HC3 := hide (unhide HSB v2 g m2)
      have HK2 := hide k2
      have HM2 := hide m2
      have HB2 := hide b2
      clear HKB k2 m2 b2
      go_wp2_with fail
      refine (unhide HC3).mono ?_
      rintro y v3 ⟨g3, rfl, s3, x3⟩
      dsimp only
      change IsRs v3 g3 9 rn2 at s3
      have k3 := (unhide HK2).below x3 (unhide HK2).lt
      have m3 := (unhide HM2).below x3 (Nat.le_refl _)
      have hb3 := (unhide HB2).trans (x3.mono (unhide HB2).size)
      have f0 := k3.frozen 0
      have e0 := k3.cell 0
      simp only [List.setIfInBounds_toArray, List.set_cons_zero, List.set_cons_succ, List.getElem?_toArray, List.getElem?_cons_zero] at e0
      have HKD := hide (And.intro (k3.set 0 (.string ⟨#[111, 110, 101, 32, 109, 111, 114, 101]⟩)) (And.intro (rs_set (j := 0) m3 k3 (by decide) (.string ⟨#[111, 110, 101, 32, 109, 111, 114, 101]⟩)) (And.intro (rs_set (j := 0) s3 k3 (by decide) (.string ⟨#[111, 110, 101, 32, 109, 111, 114, 101]⟩)) (hb3.setCell (p := ⟨bx, 0, none⟩) (unhide HAB) (.string ⟨#[111, 110, 101, 32, 109, 111, 114, 101]⟩)))))
      clear HC3 HK2 HM2 HB2 HSB s3 k3 m3 hb3 x3 d0 d1 d2 d3 d4
      go_upto_region 15 with fail
      clear e0 f0
      generalize v3.setCell ⟨bx, 0, none⟩ (.string ⟨#[111, 110, 101, 32, 109, 111, 114, 101]⟩) = v4 at *
      obtain ⟨k4, m4, s4, b4⟩ := unhide HKD
      have d0 := k4.cell 0
      have d1 := k4.cell 1
      have d2 := k4.cell 2
      have d3 := k4.cell 3
      have d4 := k4.cell 4
      simp only [List.setIfInBounds_toArray, List.set_cons_zero, List.set_cons_succ, List.getElem?_toArray, List.getElem?_cons_zero, List.getElem?_cons_succ] at d0 d1 d2 d3 d4
      have HC5 := hide (unhide HSA v4 g m4)
      have HS4 := hide s4
      have HB4 := hide b4
      clear HKD k4 m4 s4 b4
      go_wp2_with fail
      refine (unhide HC5).mono ?_
      rintro y v5 ⟨rfl, x5⟩
      dsimp only
      have HS5 := hide ((unhide HS4).below x5 (Nat.le_refl _))
      have HB5 := hide ((unhide HB4).trans (x5.mono (unhide HB4).size))
      clear HC5 HS4 HB4 x5 d0 d1 d2 d3 d4
      have HC6 := hide (unhide HL2 v5 g3 (unhide HS5))
      go_wp2_with fail
      refine (unhide HC6).mono ?_
      rintro y v6 ⟨a6, c6, E6, rfl, p6, q6, _, x6⟩
      dsimp only
      obtain ⟨z6, _⟩ := rn2_last p6 q6
      rw [z6]
      have HS6 := hide ((unhide HS5).below x6 (Nat.le_refl _))
      have HB6 := hide ((unhide HB5).trans (x6.mono (unhide HB5).size))
      clear HC6 HS5 HB5 x6 p6 q6 z6
      have HC7 := hide (unhide HL2 v6 g3 (unhide HS6))
      go_wp2_with fail
      refine (unhide HC7).mono ?_
      rintro y v7 ⟨a7, c7, E7, rfl, p7, q7, o7, x7⟩
      dsimp only
      obtain ⟨z7, l7⟩ := rn2_last p7 q7
      obtain ⟨_, _, e7, i7, _⟩ := own_isRl o7
      obtain ⟨fg, fo, ha, _, _, n1, _, _, _⟩ := i7.five (k := 1023) (by omega)
      injection e7 with e71 e72 e73
      subst e71
      subst ha
      rw [l7] at n1
      rw [z7]
      have HB7 := hide ((unhide HB6).trans (x7.mono (unhide HB6).size))
      clear HC7 HS6 HB6 x7 p7 q7 z7 o7 i7 l7 e72 e73
      go_wp2_with fail
      refine bodyPost_ret (results_tmp rfl _ _ _) rfl ⟨rfl, unhide HB7⟩
end Go.Proofs.Ytifpjdodignflaa
