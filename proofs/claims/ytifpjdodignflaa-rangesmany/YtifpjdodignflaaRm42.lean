/- Layer 16: RangesMany's walk. · Layer 13: arguments: bytes and a list of operations that came in, of whatever size. -/
import Derived.Test.YtifpjdodignflaaRm41
import Derived.Test.YtifpjdodignflaaRm09
import Derived.Test.YtifpjdodignflaaRows
import Derived.Test.YtifpjdodignflaaRm28
import Derived.SizedLaws
import Derived.LaidLaws
import Derived.Deep.DeepHandedRow
import Derived.Deep.Slices
import Derived.Deep.SlicePairs
import Derived.OpenShut

section
namespace Go.Proofs.Ytifpjdodignflaa
open Go.ChangeShapes Go.WideShapes Go.ChangeAt Go.RowKit
attribute [local go_sem] Oper.semAt_some

/-- a conversion whose run is known -/
theorem wpList_convR {P : Program} {ops : Array Oper} {rest : List Oper} {o : Oper} {a : Act} {Q : Exit → Act → World → Prop} {w : World} (hw : Region.wanted o (yielded ops a.tmps) = true) (s d : TypeId) (x : Operand)
    (ho : o.op = .convert s d x) (u v' : Value) (hx : a.eval x = u) (hr : (convert s d u).run P w = .ok v' w) (h : wpList P ops Q rest (a.put o.dst v') w) : wpList P ops Q (o :: rest) a w := by
  unfold wpList
  rw [if_pos hw]
  left
  unfold Oper.wp execOp
  simp only [ho]
  go_simp
  subst hx
  have e := hr
  unfold Act.eval at e
  simp only [Array.getD_eq_getD_getElem?] at e
  rw [e]
  exact h
def nmCR (j : Nat) : Array Value := #[.int .u8 ((j : Int) % 256), .int .u8 ((j : Int) / 256)]
theorem conv_nmR (W : World) (g j : Nat) (h : Cls W g 5 (nmCR j)) : (convert 43 9 (.slice (some ⟨g, 0, none⟩) 2 2)).run Try.prog W = .ok (.string (strOfNums (nmR j))) W :=
  run_convert_bytes_arg W 43 5 Try.underlying43 Try.underlying5 g 0 2 2 (nmR j) rfl (fun i hi => by
    rw [Nat.zero_add, h.cell i]
    match i, hi with
    | 0, _ => rfl
    | 1, _ => rfl) 9 Try.underlying9
theorem rgm_V (i : Nat) : rgV (rgm i) = .agg #[.string (strOfNums (nmR i)), .int .i64 2, .int .i64 5, .int .i64 1, .int .i64 1] := rfl
def nmS : Nat → ByteArray
  | 0 => ⟨#[]⟩
  | j + 1 => strOfNums (nmR j)
/-- what the loop keeps -/
structure RyI (w wx : World) (bx : Nat) (i g : Nat) : Prop where
  m : IsRs wx g 9 (rny i)
  n : Cls wx bx 37 #[.string (nmS i), .int .i64 2, .int .i64 5, .int .i64 1, .int .i64 1]
  b : Below w.heap.size w wx
  a : w.heap.size ≤ bx
theorem rs_set {wx : World} {bx g j : Nat} {n : Int} {L : List Rg} {t : TypeId} {cs : Array Value} (hm : IsRs wx g n L) (hn : Cls wx bx t cs) (ht : t ≠ 67) (v : Value) : IsRs (wx.setCell ⟨bx, j, none⟩ v) g n L := by
  obtain ⟨r, h1, h2⟩ := hm.c
  have hg : g ≠ bx := fun e => by
    have a1 := hn
    unfold Cls at a1 h1
    rw [← e, h1] at a1
    cases a1
    exact ht rfl
  have hr : r ≠ bx := fun e => by
    obtain ⟨es, clock, h3, _⟩ := h2
    have a1 := hn
    unfold Cls at a1
    rw [← e, h3] at a1; cases a1
  exact ⟨r, h1.other ⟨bx, j, none⟩ _ hg, h2.same (Below.heap_setCell _ ⟨bx, j, none⟩ _ r hr)⟩
/-- behind the name's store -/
theorem RyI.named {w wx : World} {bx i g : Nat} (h : RyI w wx bx i g) : IsRs ((wx.alloc (.cells (nmCR i) 5)).setCell ⟨bx, 0, none⟩ (.string (strOfNums (nmR i)))) g 9 (rny i) ∧ Cls ((wx.alloc (.cells (nmCR i) 5)).setCell ⟨bx, 0, none⟩ (.string (strOfNums (nmR i)))) bx 37 #[.string (strOfNums (nmR i)), .int .i64 2, .int .i64 5, .int .i64 1, .int .i64 1] ∧ Below w.heap.size w ((wx.alloc (.cells (nmCR i) 5)).setCell ⟨bx, 0, none⟩ (.string (strOfNums (nmR i)))) := by
  have b1 := (Below.refl wx.heap.size wx).alloc (Nat.le_refl _) (.cells (nmCR i) 5)
  have n1 := h.n.below b1 h.n.lt
  exact ⟨rs_set (h.m.below b1 (Nat.le_refl _)) n1 (by decide) _, n1.set 0 _, (h.b.trans (b1.mono h.b.size)).setCell (p := ⟨bx, 0, none⟩) h.a _⟩
set_option maxRecDepth 100000 in
set_option maxHeartbeats 8000000 in
theorem RangesMany_any (w : World) : Calls Try.prog 4 #[] w fun y w' => y = .returned (.bool true) ∧ Below w.heap.size w w' := by
  have HAw := hide (awake16_at w)
  have HNw := hide fun (Y : World) => GNew_at 9 Y (by decide)
  have HSt := hide fun (Y : World) (g i : Nat) (hi : i < 1024) (h : IsRs Y g 9 (rny i)) => GSet_at g 9 (rny i) (rgm i) Y h (rny_ref hi)
  simp only [rgm_V] at HSt
  have HSA := hide fun (Y : World) (g : Nat) (h : IsRs Y g 9 (rny 1024)) => GSetE_at g 9 (rny 1024) rnA Y h (by rw [rnA_ref]; decide)
  have HSB := hide fun (Y : World) (g : Nat) (h : IsRs Y g 9 (rny 1024)) => GSet_at g 9 (rny 1024) rnB Y h rnB_ref
  have HL1 := hide fun (Y : World) (g : Nat) (h : IsRs Y g 9 (rny 1024)) => GList_at g 9 (rny 1024) Y h (by rw [rny_len]; decide)
  have HL2 := hide fun (Y : World) (g : Nat) (h : IsRs Y g 9 rn2) => GList_at g 9 rn2 Y h (by rw [rn2_len]; decide)
  rw [show rgV rnA = .agg #[.string ⟨#[111, 110, 101, 32, 109, 111, 114, 101]⟩, .int .i64 3, .int .i64 5, .int .i64 1, .int .i64 1] from rfl, rnA_ref] at HSA
  rw [show rgV rnB = .agg #[.string (strOfNums (nmR 1023)), .int .i64 3, .int .i64 5, .int .i64 1, .int .i64 1] from rfl] at HSB
  go_enter Try.func4, Try.ntmps4
  go_wp2_with fail
  refine (unhide HAw).mono ?_
  rintro y w1 ⟨rfl, x1⟩
  dsimp only
  have HX1 := hide x1
  have HC2 := hide (unhide HNw w1)
  clear HAw HNw x1
  go_wp2_with fail
  refine (unhide HC2).mono ?_
  rintro y w2 ⟨g2, rfl, _, s2, x2⟩
  dsimp only
  have hx2 := (unhide HX1).trans (x2.mono (unhide HX1).size)
  have b3 := (Below.refl w2.heap.size w2).alloc (Nat.le_refl _) (.cells #[.string ⟨#[]⟩, .int .i64 2, .int .i64 5, .int .i64 1, .int .i64 1] 37)
  have HI0 : Hid (RyI w (w2.alloc (.cells #[.string ⟨#[]⟩, .int .i64 2, .int .i64 5, .int .i64 1, .int .i64 1] 37)) w2.heap.size 0 g2) := hide ⟨s2.below b3 (Nat.le_refl _), Cls.new w2 37 _, hx2.trans (b3.mono hx2.size), hx2.size⟩
  clear HC2 HX1 s2 x2 hx2 b3
  go_wp2_with fail
  generalize w2.heap.size = bx at *
  go_loopw [1, 2, 4] (fun v1 v2 v4 wx => v2 = .int .i64 0 ∧ ∃ (i g : Nat), v4 = .int .i64 (i : Int) ∧ v1 = .pointer (some ⟨g, 0, none⟩) ∧ i ≤ 1024 ∧ Hid (RyI w wx bx i g)) (fun _ _ v4 _ => 1024 - (intOf v4).toNat)
  case atStart => exact ⟨rfl, 0, g2, rfl, rfl, Nat.zero_le _, HI0⟩
  case round =>
    clear HI0
    obtain ⟨rfl, i, g, rfl, rfl, hi, HI⟩ := hrel
    by_cases hlt : i < 1024
    · have t1 : decide ((i : Int) < 1024) = true := decide_eq_true (by omega)
      have k1 := (unhide HI).n
      have f0 := (k1.below ((Below.refl wr.heap.size wr).alloc (Nat.le_refl _) (.cells (nmCR i) 5)) k1.lt).frozen 0
      have d0 := (k1.below ((Below.refl wr.heap.size wr).alloc (Nat.le_refl _) (.cells (nmCR i) 5)) k1.lt).cell 0
      have CV := hide (conv_nmR (wr.alloc (.cells (nmCR i) 5)) wr.heap.size i (Cls.new wr 5 (nmCR i)))
      have HN := hide (unhide HI).named
      simp only [List.getElem?_toArray, List.getElem?_cons_zero] at d0
      unfold nmCR at f0 d0 CV HN
      clear k1
      go_upto_region 9 with (refine wpList_convR rfl 43 9 _ rfl _ _ rfl (unhide CV) ?_; clear CV)
      clear d0 f0
      obtain ⟨m5, k5, b5⟩ := unhide HN
      have HA : Hid (Below w.heap.size w ((wr.alloc (.cells #[.int .u8 ((i : Int) % 256), .int .u8 ((i : Int) / 256)] 5)).setCell ⟨bx, 0, none⟩ (.string (strOfNums (nmR i)))) ∧ w.heap.size ≤ bx ∧ Cls ((wr.alloc (.cells #[.int .u8 ((i : Int) % 256), .int .u8 ((i : Int) / 256)] 5)).setCell ⟨bx, 0, none⟩ (.string (strOfNums (nmR i)))) bx 37 #[.string (strOfNums (nmR i)), .int .i64 2, .int .i64 5, .int .i64 1, .int .i64 1]) := hide ⟨b5, (unhide HI).a, k5⟩
      have HC := hide (unhide HSt _ g i hlt m5)
      clear HN HI m5 k5 b5
      generalize (wr.alloc (.cells #[.int .u8 ((i : Int) % 256), .int .u8 ((i : Int) / 256)] 5)).setCell ⟨bx, 0, none⟩ (.string (strOfNums (nmR i))) = wA at *
      have c0 := (unhide HA).2.2.cell 0
      have c1 := (unhide HA).2.2.cell 1
      have c2 := (unhide HA).2.2.cell 2
      have c3 := (unhide HA).2.2.cell 3
      have c4 := (unhide HA).2.2.cell 4
      simp only [List.getElem?_toArray, List.getElem?_cons_zero, List.getElem?_cons_succ] at c0 c1 c2 c3 c4
      go_wp2_with fail
      refine (unhide HC).mono ?_
      rintro y wB ⟨g', rfl, sB, xB⟩
      dsimp only
      rw [rny_put (by omega)] at sB
      have HIB : Hid (RyI w wB bx (i + 1) g') := hide ⟨sB, (unhide HA).2.2.below xB (unhide HA).2.2.lt, (unhide HA).1.trans (xB.mono (unhide HA).1.size), (unhide HA).2.1⟩
      clear HC HA sB xB c0 c1 c2 c3 c4
      go_wp2_with fail
      go_roundw
      case rel => exact ⟨rfl, i + 1, g', by go_num, rfl, hlt, HIB⟩
      case measure => simp [intOf]; omega
    · obtain rfl : i = 1024 := by omega
      clear hi hlt HSt
      have HM := hide fun (Y : World) (hY : Below wr.heap.size wr Y) => (unhide HI).m.below hY (Nat.le_refl _)
      have HK := hide fun (Y : World) (hY : Below wr.heap.size wr Y) => (unhide HI).n.below hY (unhide HI).n.lt
      have HX0 := hide (unhide HI).b
      have HAB := hide (unhide HI).a
      clear HI
      have HC1 := hide (unhide HL1 wr g (unhide HM wr (Below.refl _ _)))
      go_wp2_with fail
      refine (unhide HC1).mono ?_
      rintro y v1 ⟨a1, c1, E1, rfl, p1, _, _, x1⟩
      dsimp only
      have z1 : E1.length = 1024 := by have := p1.length_eq; rw [rny_in, rny_len] at this; exact this
      rw [z1]
      have k1 := unhide HK v1 x1
      have m1 := unhide HM v1 x1
      have f1 := k1.frozen 1
      have d1 := k1.cell 1
      simp only [List.getElem?_toArray, List.getElem?_cons_zero, List.getElem?_cons_succ] at d1
      have HX1 := hide ((unhide HX0).trans (x1.mono (unhide HX0).size))
      have HKB := hide (And.intro (k1.set 1 (.int .i64 3)) (And.intro (rs_set (j := 1) m1 k1 (by decide) (.int .i64 3)) ((unhide HX1).setCell (p := ⟨bx, 1, none⟩) (unhide HAB) (.int .i64 3))))
      clear HC1 HX0 p1 z1 k1 m1 x1 HM HK HX1
      unfold nmS at HKB
      go_upto_region 13 with fail
      clear d1 f1
      generalize v1.setCell ⟨bx, 1, none⟩ (.int .i64 3) = v2 at *
      obtain ⟨k2, m2, b2⟩ := unhide HKB
      have d0 := k2.cell 0
      have d1 := k2.cell 1
      have d2 := k2.cell 2
      have d3 := k2.cell 3
      have d4 := k2.cell 4
      simp only [List.setIfInBounds_toArray, List.set_cons_zero, List.set_cons_succ, List.getElem?_toArray, List.getElem?_cons_zero, List.getElem?_cons_succ] at d0 d1 d2 d3 d4
      have HC3 := hide (unhide HSB v2 g m2)
      have HK2 := hide k2
      have HM2 := hide m2
      have HB2 := hide b2
      clear HKB k2 m2 b2
      go_wp2_with fail
      refine (unhide HC3).mono ?_
      rintro y v3 ⟨g3, rfl, s3, x3⟩
      dsimp only
      change IsRs v3 g3 9 rn2 at s3
      have k3 := (unhide HK2).below x3 (unhide HK2).lt
      have m3 := (unhide HM2).below x3 (Nat.le_refl _)
      have hb3 := (unhide HB2).trans (x3.mono (unhide HB2).size)
      have f0 := k3.frozen 0
      have e0 := k3.cell 0
      simp only [List.setIfInBounds_toArray, List.set_cons_zero, List.set_cons_succ, List.getElem?_toArray, List.getElem?_cons_zero] at e0
      have HKD := hide (And.intro (k3.set 0 (.string ⟨#[111, 110, 101, 32, 109, 111, 114, 101]⟩)) (And.intro (rs_set (j := 0) m3 k3 (by decide) (.string ⟨#[111, 110, 101, 32, 109, 111, 114, 101]⟩)) (And.intro (rs_set (j := 0) s3 k3 (by decide) (.string ⟨#[111, 110, 101, 32, 109, 111, 114, 101]⟩)) (hb3.setCell (p := ⟨bx, 0, none⟩) (unhide HAB) (.string ⟨#[111, 110, 101, 32, 109, 111, 114, 101]⟩)))))
      clear HC3 HK2 HM2 HB2 HSB s3 k3 m3 hb3 x3 d0 d1 d2 d3 d4
      go_upto_region 15 with fail
      clear e0 f0
      generalize v3.setCell ⟨bx, 0, none⟩ (.string ⟨#[111, 110, 101, 32, 109, 111, 114, 101]⟩) = v4 at *
      obtain ⟨k4, m4, s4, b4⟩ := unhide HKD
      have d0 := k4.cell 0
      have d1 := k4.cell 1
      have d2 := k4.cell 2
      have d3 := k4.cell 3
      have d4 := k4.cell 4
      simp only [List.setIfInBounds_toArray, List.set_cons_zero, List.set_cons_succ, List.getElem?_toArray, List.getElem?_cons_zero, List.getElem?_cons_succ] at d0 d1 d2 d3 d4
      have HC5 := hide (unhide HSA v4 g m4)
      have HS4 := hide s4
      have HB4 := hide b4
      clear HKD k4 m4 s4 b4
      go_wp2_with fail
      refine (unhide HC5).mono ?_
      rintro y v5 ⟨rfl, x5⟩
      dsimp only
      have HS5 := hide ((unhide HS4).below x5 (Nat.le_refl _))
      have HB5 := hide ((unhide HB4).trans (x5.mono (unhide HB4).size))
      clear HC5 HS4 HB4 x5 d0 d1 d2 d3 d4
      have HC6 := hide (unhide HL2 v5 g3 (unhide HS5))
      go_wp2_with fail
      refine (unhide HC6).mono ?_
      rintro y v6 ⟨a6, c6, E6, rfl, p6, q6, _, x6⟩
      dsimp only
      obtain ⟨z6, _⟩ := rn2_last p6 q6
      rw [z6]
      have HS6 := hide ((unhide HS5).below x6 (Nat.le_refl _))
      have HB6 := hide ((unhide HB5).trans (x6.mono (unhide HB5).size))
      clear HC6 HS5 HB5 x6 p6 q6 z6
      have HC7 := hide (unhide HL2 v6 g3 (unhide HS6))
      go_wp2_with fail
      refine (unhide HC7).mono ?_
      rintro y v7 ⟨a7, c7, E7, rfl, p7, q7, o7, x7⟩
      dsimp only
      obtain ⟨z7, l7⟩ := rn2_last p7 q7
      obtain ⟨_, _, e7, i7, _⟩ := own_isRl o7
      obtain ⟨fg, fo, ha, _, _, n1, _, _, _⟩ := i7.five (k := 1023) (by omega)
      injection e7 with e71 e72 e73
      subst e71
      subst ha
      rw [l7] at n1
      rw [z7]
      have HB7 := hide ((unhide HB6).trans (x7.mono (unhide HB6).size))
      clear HC7 HS6 HB6 x7 p7 q7 z7 o7 i7 l7 e72 e73
      go_wp2_with fail
      refine bodyPost_ret (results_tmp rfl _ _ _) rfl ⟨rfl, unhide HB7⟩
end Go.Proofs.Ytifpjdodignflaa
end

section
namespace Go.Proofs.Ytifpjdodignflaa
open Go.ChangeShapes Go.WideShapes Go.ChangeAt Go.RowKit

theorem ownC : ownKnob Try.prog.godebug = none := by kernel_rfl
theorem laidOut : laidOutB Try.prog = true := by kernel_rfl
noncomputable def laidWorld (os : Os) : World := World.holding Try.prog os ⟨#[], #[], []⟩
/-- a []byte that came in reads as these bytes -/
theorem row_of_trod {H : Type} {enc : TypeId × Value → H} {W : World} {a0 : Option Addr} {len0 cap0 : Nat} {d0 : DataW H} {p0 : List MemPlace}
    (h0 : DataW.Trod enc Try.prog W 0 (fun _ => true) true 43 (Value.slice a0 len0 cap0) d0 p0)
    {ts : List TypeId} {ds : List (DataW H)} {j : Nat} (hsz : (DataW.weightsEach Try.prog ts ds).all (· ≤ reachBytes) = true) (ht : ts[j]? = some 43) (hd : ds[j]? = some d0) :
    ∃ l : List Int, len0 = l.length ∧ IsB W a0 cap0 l := by
  obtain ⟨fuel, hf⟩ := h0
  rcases open_ints Try.underlying43 Try.underlying5 (by kernel_rfl) hf with ⟨hcs, _⟩ | ⟨x, l, c, zs, hcs, _, hl, hm, hz, hx, hcell, hwz⟩
  · simp [Value.cells] at hcs
    obtain ⟨rfl, rfl, rfl⟩ := hcs
    exact ⟨[], rfl, by simp, by simp, Or.inl rfl, by simp⟩
  · simp [Value.cells] at hcs
    obtain ⟨rfl, rfl, rfl⟩ := hcs
    simp only [Prod.mk.injEq] at hx
    obtain ⟨rfl, _⟩ := hx
    have hz' : zs.length = cap0 := by simpa using hz
    have hs := sized_slice hsz ht hd Try.underlying43
    rw [show Try.prog.bytesOf 5 = 1 by kernel_rfl] at hs
    have hr : reachBytes = 140737488351232 := rfl
    simp [lits] at hs
    have hlen : (zs.take len0).length = len0 := by simp; omega
    have hby : ∀ x ∈ zs, 0 ≤ x ∧ x ≤ 255 := fun n hn => bounds_u8 (hwz n hn)
    refine ⟨zs.take len0, hlen.symm, by rw [hlen]; omega, by rw [hlen]; omega, ?_, fun y hy => hby y (List.mem_of_mem_take hy)⟩
    rcases Nat.eq_zero_or_pos len0 with h0 | h0
    · subst h0; exact Or.inl rfl
    · obtain ⟨b, off, spot⟩ := x
      have hspot : spot = none := by simpa [Addr.add] using World.cell?_spot (hcell 0 (by omega))
      subst hspot
      refine Or.inr ⟨b, off, rfl, fun i hi => ?_⟩
      rw [hlen] at hi
      have e : (zs.take len0).getD i 0 = zs.getD i 0 := by simp [List.getD, hi]
      rw [e]
      have hc := hcell i (by omega)
      rw [Addr.add_lit] at hc
      refine ⟨hc, ?_⟩
      have := hby (zs[i]'(by omega)) (List.getElem_mem _)
      simpa [List.getD, List.getElem?_eq_getElem (show i < zs.length by omega)] using this
theorem one_intO {H : Type} {enc : TypeId × Value → H} {P : Program} {W : World} {spare : Nat → Bool} {m : Nat} {t : TypeId} (ht : P.underlying t = some (.int .i64)) {xs : List (DataW H × List MemPlace)} {L : List Value} {i k : Nat} (hi : i < xs.length)
    (h : DataW.trod enc P W 0 spare true m t ((L.drop k).take 1) = xs[i]?) : ∃ n : Int, L[k]? = some (.int .i64 n) := by
  rw [List.getElem?_eq_getElem hi] at h
  obtain ⟨n, hn, _⟩ := DataW.trod_int ht h
  refine ⟨n, ?_⟩
  have := congrArg (·[0]?) hn
  simpa [List.getElem?_take, List.getElem?_drop] using this
theorem one_strO {H : Type} {enc : TypeId × Value → H} {P : Program} {W : World} {spare : Nat → Bool} {m : Nat} {t : TypeId} (ht : P.underlying t = some .string) {xs : List (DataW H × List MemPlace)} {L : List Value} {i k : Nat} (hi : i < xs.length)
    (h : DataW.trod enc P W 0 spare true m t ((L.drop k).take 1) = xs[i]?) : ∃ s : ByteArray, L[k]? = some (.string s) ∧ (xs[i]'hi).1 = .lit (.string s.data.toList) := by
  rw [List.getElem?_eq_getElem hi] at h
  obtain ⟨n, hn, hx⟩ := DataW.trod_string ht h
  refine ⟨n, ?_, by rw [hx.1]⟩
  have := congrArg (·[0]?) hn
  simpa [List.getElem?_take, List.getElem?_drop] using this
/-- a string's bytes as numbers -/
def numsO (s : ByteArray) : List Int := s.data.toList.map fun u => (u.toNat : Int)
theorem numsO_in (s : ByteArray) : ∀ x ∈ numsO s, 0 ≤ x ∧ x ≤ 255 := by
  intro x hx
  obtain ⟨u, _, rfl⟩ := List.mem_map.1 hx
  have := u.toNat_lt
  omega
theorem str_numsO (s : ByteArray) : strOfNums (numsO s) = s := by
  unfold strOfNums numsO
  apply ByteArray.ext
  have e : ((fun n : Int => UInt8.ofNat n.toNat) ∘ fun u : UInt8 => (u.toNat : Int)) = id := by
    funext u
    simp
  rw [List.map_map, e, List.map_id]
theorem wE_atO {H : Type} {P : Program} : ∀ {ts : List TypeId} {ds : List (DataW H)} {j : Nat} {t : TypeId} {d : DataW H}, ts[j]? = some t → ds[j]? = some d → ∀ x ∈ d.weights P t, x ∈ DataW.weightsEach P ts ds
  | [], _, _, _, _, ht, _, _, _ => by simp at ht
  | _ :: _, [], _, _, _, _, hd, _, _ => by simp at hd
  | t0 :: ts, d0 :: ds, 0, t, d, ht, hd, x, hx => by
    simp only [List.getElem?_cons_zero, Option.some.injEq] at ht hd
    subst ht hd
    rw [DataW.weightsEach]
    exact List.mem_append_left _ hx
  | t0 :: ts, d0 :: ds, j + 1, t, d, ht, hd, x, hx => by
    simp only [List.getElem?_cons_succ] at ht hd
    rw [DataW.weightsEach]
    exact List.mem_append_right _ (wE_atO ht hd x hx)
theorem wA_atO {H : Type} {P : Program} {e : TypeId} : ∀ {l : List (DataW H)} {d : DataW H}, d ∈ l → ∀ x ∈ d.weights P e, x ∈ DataW.weightsAll P e l
  | [], _, h, _, _ => by simp at h
  | d0 :: r, d, h, x, hx => by
    rw [DataW.weightsAll]
    rcases List.mem_cons.1 h with rfl | h
    · exact List.mem_append_left _ hx
    · exact List.mem_append_right _ (wA_atO h x hx)
instance : Inhabited Dop := ⟨opZ⟩
set_option maxRecDepth 100000 in
theorem op_cells {H : Type} {enc : TypeId × Value → H} {W : World} {cs : List Value} {fuel : Nat} {x : DataW H × List MemPlace}
    (hl : cs.length = 3) (hb : ∀ y ∈ x.1.weights Try.prog 54, y ≤ reachBytes) (hf : DataW.trod enc Try.prog W 0 (fun _ => true) true fuel 54 cs = some x) : ∃ q : Dop, cs = opL q ∧ TbD q ∧ q.t.length ≤ 140737488355328 := by
  obtain ⟨xs, n, _, hxx, _, hx, hall⟩ := DataW.trod_struct Try.underlying54 hf
  have hx' : xs.length = 3 := hx
  have hc : Try.prog.cellsOf 3 = 1 := by kernel_rfl
  have hc1 : Try.prog.cellsOf 52 = 1 := by kernel_rfl
  have hc2 : Try.prog.cellsOf 9 = 1 := by kernel_rfl
  have j0 : DataW.trod enc Try.prog W 0 (fun _ => true) true n 52 ((cs.drop 0).take (Try.prog.cellsOf 52)) = xs[0]? := hall 0 _ rfl
  have j1 : DataW.trod enc Try.prog W 0 (fun _ => true) true n 3 ((cs.drop 1).take (Try.prog.cellsOf 3)) = xs[1]? := hall 1 _ rfl
  have j2 : DataW.trod enc Try.prog W 0 (fun _ => true) true n 9 ((cs.drop 2).take (Try.prog.cellsOf 9)) = xs[2]? := hall 2 _ rfl
  rw [hc1] at j0
  rw [hc] at j1
  rw [hc2] at j2
  obtain ⟨k, e0⟩ := one_intO Try.underlying52 (by omega) j0
  obtain ⟨m, e1⟩ := one_intO Try.underlying3 (by omega) j1
  obtain ⟨s, e2, es⟩ := one_strO Try.underlying9 (by omega) j2
  refine ⟨⟨k, m, numsO s⟩, ?_, numsO_in s, ?_⟩
  · unfold opL
    dsimp only
    rw [str_numsO]
    apply List.ext_getElem?
    intro i
    match i with
    | 0 => exact e0
    | 1 => exact e1
    | 2 => exact e2
    | i + 3 => rw [List.getElem?_eq_none (by omega)]; rfl
  · have h1 : (xs.map fun x => x.1)[2]? = some (xs[2]'(by omega)).1 := by simp [List.getElem?_eq_getElem (show 2 < xs.length by omega)]
    have hr : reachBytes = 140737488351232 := rfl
    have := hb s.data.toList.length (by
      rw [hxx]
      simp only [DataW.weights, Try.underlying54]
      refine wE_atO (j := 2) (t := 9) rfl h1 _ ?_
      rw [es]
      simp [DataW.weights])
    simp only [numsO, List.length_map]
    omega
set_option maxRecDepth 100000 in
/-- the list of operations -/
theorem ops_of_trod {H : Type} {enc : TypeId × Value → H} {W : World} {a0 : Option Addr} {len0 cap0 : Nat} {d0 : DataW H} {p0 : List MemPlace}
    (h0 : DataW.Trod enc Try.prog W 0 (fun _ => true) true 39 (Value.slice a0 len0 cap0) d0 p0)
    {ts : List TypeId} {ds : List (DataW H)} {j : Nat} (hsz : (DataW.weightsEach Try.prog ts ds).all (· ≤ reachBytes) = true) (ht : ts[j]? = some 39) (hd : ds[j]? = some d0) :
    ∃ q : List Dop, len0 = q.length ∧ IsO W a0 q ∧ (q = [] ∨ ∃ p, a0 = some p) ∧ q.length * 32 ≤ 140737488355328 ∧ ∀ o ∈ q, TbD o ∧ o.t.length ≤ 140737488355328 := by
  have hall : ∀ y ∈ d0.weights Try.prog 39, y ≤ reachBytes := fun y hy => of_decide_eq_true (List.all_eq_true.1 hsz y (wE_atO ht hd y hy))
  obtain ⟨fuel, hf⟩ := h0
  rcases Go.Deep.open_slice Try.underlying39 hf with ⟨hcs, _⟩ | ⟨a, len, cap, m, n, D, Pl, hcs, _, hl, hm, hmm, hx, hrow⟩
  · simp [Value.cells] at hcs
    obtain ⟨rfl, rfl, rfl⟩ := hcs
    exact ⟨[], rfl, Or.inl rfl, Or.inl rfl, by simp, by simp⟩
  · simp [Value.cells] at hcs
    obtain ⟨rfl, rfl, rfl⟩ := hcs
    simp only [Prod.mk.injEq] at hx
    obtain ⟨rfl, _⟩ := hx
    have hs := sized_slice hsz ht hd Try.underlying39
    rw [show Try.prog.bytesOf 54 = 32 by kernel_rfl] at hs
    have hr : reachBytes = 140737488351232 := rfl
    simp only [List.length_map, List.length_range] at hs
    simp only [DataW.weights, Try.underlying39] at hall
    simp only [if_true] at hmm
    subst hmm
    have ce : Try.prog.cellsOf 54 = 3 := by kernel_rfl
    have each : ∀ r, r < len0 → ∃ y : Dop, (TbD y ∧ y.t.length ≤ 140737488355328) ∧ ∀ j, j < 3 → W.cell? (a.add (r * 3 + j)) = (opL y)[j]? := by
      intro r hr
      obtain ⟨cs', h1, h2⟩ := hrow r (by omega)
      rw [ce] at h1
      obtain ⟨_, hlen, hcell⟩ := World.cells?_some h1
      have hbr : ∀ y ∈ (D r).weights Try.prog 54, y ≤ reachBytes := fun y hy => hall y (List.mem_cons_of_mem _ (List.mem_append_left _ (wA_atO (by simp; exact ⟨r, hr, rfl⟩) y hy)))
      obtain ⟨y, rfl, hby⟩ := op_cells hlen hbr h2
      refine ⟨y, hby, fun j hj => ?_⟩
      have e := hcell j (by omega)
      rw [Go.Deep.add_add] at e
      rw [e, List.getElem?_eq_getElem (by simpa [opL] using hj)]
    obtain ⟨y, hy⟩ := Go.Deep.choose_lt each
    refine ⟨(List.range len0).map y, by simp, ?_, Or.inr ⟨_, rfl⟩, by simp; omega, ?_⟩
    · rcases Nat.eq_zero_or_pos len0 with h0 | h0
      · subst h0; exact Or.inl rfl
      · obtain ⟨b, off, spot⟩ := a
        have hc1 : W.cell? (Addr.add ⟨b, off, spot⟩ (0 * 3 + 0)) = some (.int .i64 (y 0).k) := (hy 0 (by omega)).2 0 (by decide)
        have hspot : spot = none := by simpa [Addr.add] using World.cell?_spot hc1
        subst hspot
        have hbl : b < W.heap.size := by
          rcases Nat.lt_or_ge b W.heap.size with h | h
          · exact h
          · rw [Addr.add_lit] at hc1
            simp [World.cell?, Array.getElem?_eq_none h] at hc1
        refine Or.inr ⟨b, off, rfl, hbl, fun r hr => ?_⟩
        simp only [List.length_map, List.length_range] at hr
        have hgr : ((List.range len0).map y).getD r opZ = y r := by simp [List.getD, hr]
        rw [hgr]
        have f : ∀ j, j < 3 → W.cell? ⟨b, off + (r * 3 + j), none⟩ = (opL (y r))[j]? := fun j hj => by have := (hy r hr).2 j hj; rwa [Addr.add_lit] at this
        exact ⟨f 0 (by decide), f 1 (by decide), f 2 (by decide)⟩
    · intro o ho
      obtain ⟨r, hr, rfl⟩ := List.mem_map.1 ho
      exact (hy r (by simpa using hr)).1
end Go.Proofs.Ytifpjdodignflaa
end
