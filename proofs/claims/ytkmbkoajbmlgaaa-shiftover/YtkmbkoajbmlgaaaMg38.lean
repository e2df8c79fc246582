/- Layer 14: ShiftOver's walk, first form (written by wip/tools/shb.py out of Sgv). · Layer 13: arguments: bytes and a list of operations that came in, of whatever size. · ShiftOver: for every input the law returns true and every argument reads afterwards as it read before; conditions: none. -/
import Derived.Test.YtkmbkoajbmlgaaaMg37
import Derived.Test.YtkmbkoajbmlgaaaRows
import Derived.Test.YtkmbkoajbmlgaaaMg20
import Derived.SizedLaws
import Derived.LaidLaws
import Derived.Deep.DeepHandedRow
import Derived.Deep.Slices
import Derived.Deep.SlicePairs
import Derived.OpenShut
import Derived.Below
import Derived.ChangeOld
import Derived.ShutString

section
namespace Go.Proofs.Ytkmbkoajbmlgaaa
open Go.ChangeShapes Go.WideShapes Go.ChangeAt Go.RowKit
attribute [local go_sem] Oper.semAt_some

/-- great of two, as the law calls it -/
theorem great2W_at (x y : Dl) (w X : World) (hx : IsO w x.a x.d) (hy : IsO w y.a y.d) (tx : ∀ o ∈ x.d, o.t.length ≤ 140737488355328) (ty : ∀ o ∈ y.d, o.t.length ≤ 140737488355328) (hd : Below w.heap.size w X) (lx : x.d.length ≤ 4611686018427387904) (ly : y.d.length ≤ 4611686018427387904) :
    Calls Try.prog 31 #[.slice (some ⟨X.heap.size, 0, none⟩) 2 2] (X.alloc (.cells #[.slice x.a x.d.length x.c, .slice y.a y.d.length y.c] 24)) fun z X' => z = .returned (.bool (gwB [x, y])) ∧ Below X.heap.size X X' := by
  have kN := Cls.new X 24 #[.slice x.a x.d.length x.c, .slice y.a y.d.length y.c]
  have bA := (Below.refl X.heap.size X).alloc (Nat.le_refl _) (.cells #[.slice x.a x.d.length x.c, .slice y.a y.d.length y.c] 24)
  have hD : IsDx w (X.alloc (.cells #[.slice x.a x.d.length x.c, .slice y.a y.d.length y.c] 24)) (some ⟨X.heap.size, 0, none⟩) [x, y] := ⟨fun i hi => by
    match i with
    | 0 => exact ⟨_, 0, rfl, kN.lt, kN.cell 0⟩
    | 1 => exact ⟨_, 0, rfl, kN.lt, kN.cell 1⟩
    | i + 2 => simp at hi; omega, fun i hi => by
    match i with
    | 0 => exact ⟨hx, tx⟩
    | 1 => exact ⟨hy, ty⟩
    | i + 2 => simp at hi; omega⟩
  exact (great14W_at _ 2 [x, y] w _ hD (hd.trans (bA.mono hd.size)) (by simp) (fun z hz => by
    simp only [List.mem_cons, List.not_mem_nil, or_false] at hz
    rcases hz with rfl | rfl
    · exact lx
    · exact ly)).mono fun z X' ⟨e, x⟩ => ⟨e, bA.trans (x.mono bA.size)⟩
set_option maxRecDepth 100000 in
set_option maxHeartbeats 4000000 in
theorem ShiftOverS_any (a1 : Option Addr) (c1 : Nat) (d : List Dop) (a2 : Option Addr) (c2 : Nat) (e : List Dop) (f : Bool) (w : World) (hx : IsO w a1 d) (hzx : d = [] ∨ ∃ q, a1 = some q) (hlx : d.length * 32 ≤ 140737488355328) (htx : ∀ o ∈ d, TbD o ∧ o.t.length ≤ 140737488355328) (hy : IsO w a2 e) (hzy : e = [] ∨ ∃ q, a2 = some q) (hly : e.length * 32 ≤ 140737488355328) (hty : ∀ o ∈ e, TbD o ∧ o.t.length ≤ 140737488355328) :
    Calls Try.prog 5 #[.slice a1 d.length c1, .slice a2 e.length c2, .bool f] w fun y w' => y = .returned (.bool true) ∧ Below w.heap.size w w' := by
  have HAw := hide (fixed14_at w)
  have qX : ∀ o ∈ d, o.t.length ≤ 140737488355328 := fun o ho => (htx o ho).2
  have qY : ∀ o ∈ e, o.t.length ≤ 140737488355328 := fun o ho => (hty o ho).2
  have lX : d.length ≤ 4611686018427387904 := by omega
  have lY : e.length ≤ 4611686018427387904 := by omega
  have HGR := hide fun (X : World) (hX : Below w.heap.size w X) => great2W_at ⟨a1, c1, d⟩ ⟨a2, c2, e⟩ w X hx hy qX qY hX lX lY
  dsimp only at HGR
  have HCA := hide fun (X : World) (hX : Below w.heap.size w X) => copiedO_at a1 c1 d X (hx.below hX (Nat.le_refl _)) hzx (by omega)
  have HCB := hide fun (X : World) (hX : Below w.heap.size w X) => copiedO_at a2 c2 e X (hy.below hX (Nat.le_refl _)) hzy (by omega)
  have HOV := hide fun (X : World) (_ : Below w.heap.size w X) (a3 : Option Addr) (c3 : Nat) (a4 : Option Addr) (c4 : Nat) (h3 : IsO X a3 d) (h4 : IsO X a4 e) (k3 : d.length ≤ c3) (k4 : e.length ≤ c4) => OverO_at a3 c3 d a4 c4 e f X ⟨h3, k3⟩ ⟨h4, k4⟩ qX lX lY
  have HBO := hide fun (X : World) (_ : Below w.heap.size w X) (a3 : Option Addr) (c3 : Nat) (a4 : Option Addr) (c4 : Nat) (h3 : IsO X a3 d) (h4 : IsO X a4 e) (k3 : d.length ≤ c3) (k4 : e.length ≤ c4) => Both_at a3 c3 d a4 c4 e X ⟨h3, k3⟩ ⟨h4, k4⟩ qX qY lX lY
  have HRO := hide fun (X : World) (hX : Below w.heap.size w X) (tX : vW d = valB d) (tY : vW e = valB e) => ROverOV_at a1 c1 d a2 c2 e f X (hx.below hX (Nat.le_refl _)) (hy.below hX (Nat.le_refl _)) tX tY lX lY
  have HRB := hide fun (X : World) (hX : Below w.heap.size w X) (tX : vW d = valB d) (tY : vW e = valB e) => RBoth14V_at a1 c1 d a2 c2 e X (hx.below hX (Nat.le_refl _)) (hy.below hX (Nat.le_refl _)) tX tY lX lY
  have bO : ∀ o ∈ ovD d e f, TbD o := ovD_tb fun o ho => (hty o ho).1
  obtain ⟨bA, bB⟩ := bo_tb (fun o ho => (htx o ho).1) (fun o ho => (hty o ho).1)
  obtain ⟨sA, sB⟩ := boA_small d e
  have sO := ovD_small d e f
  have HS1 := hide fun (X : World) (_ : Below w.heap.size w X) (a3 : Option Addr) (c3 : Nat) (a4 : Option Addr) (c4 : Nat) (h3 : IsO X a3 (ovD d e f)) (h4 : IsO X a4 (ovD d e f)) => RSame14_at a3 c3 _ a4 c4 _ X h3 h4 sO sO bO bO
  have HS2 := hide fun (X : World) (_ : Below w.heap.size w X) (a3 : Option Addr) (c3 : Nat) (a4 : Option Addr) (c4 : Nat) (h3 : IsO X a3 (boA d e)) (h4 : IsO X a4 (boA d e)) => RSame14_at a3 c3 _ a4 c4 _ X h3 h4 sA sA bA bA
  have HS3 := hide fun (X : World) (_ : Below w.heap.size w X) (a3 : Option Addr) (c3 : Nat) (a4 : Option Addr) (c4 : Nat) (h3 : IsO X a3 (boB d e)) (h4 : IsO X a4 (boB d e)) => RSame14_at a3 c3 _ a4 c4 _ X h3 h4 sB sB bB bB
  simp only [decide_true] at HS1 HS2 HS3
  have HGO := hide (fun (hg : gwB [⟨a1, c1, d⟩, ⟨a2, c2, e⟩] = false) => And.intro (gw_ok (x := ⟨a1, c1, d⟩) hg (by simp) qX) (gw_ok (x := ⟨a2, c2, e⟩) hg (by simp) qY))
  dsimp only at HGO
  clear hx hzx hlx htx hy hzy hly hty qX qY lX lY bO bA bB sA sB sO
  generalize ovD d e f = O at *
  generalize ovE d e f = OE at *
  generalize boA d e = A at *
  generalize boB d e = B at *
  generalize boE d e = BE at *
  generalize gwB [⟨a1, c1, d⟩, ⟨a2, c2, e⟩] = G at *
  go_enter Try.func5, Try.ntmps5
  go_wp2_with fail
  refine (unhide HAw).mono ?_
  rintro y w1 ⟨rfl, x1⟩
  dsimp only
  have HX1 := hide x1
  clear HAw x1
  have HC2 := hide (unhide HGR w1 (unhide HX1))
  go_wp2_with fail
  refine (unhide HC2).mono ?_
  rintro y w2 ⟨rfl, x2⟩
  dsimp only
  have HX2 := hide ((unhide HX1).trans (x2.mono (unhide HX1).size))
  clear HC2 HX1 x2  HGR
  cases G with
  | true =>
    go_wp2_with fail
    refine bodyPost_ret (results_tmp rfl _ _ _) rfl ⟨rfl, unhide HX2⟩
  | false =>
    obtain ⟨tX, tY⟩ := unhide HGO rfl
    have HRO2 := hide fun (X : World) (hX : Below w.heap.size w X) => unhide HRO X hX tX tY
    have HRB2 := hide fun (X : World) (hX : Below w.heap.size w X) => unhide HRB X hX tX tY
    clear HGO HRO HRB tX tY
    have HC3 := hide (unhide HCA w2 (unhide HX2))
    go_wp2_with fail
    refine (unhide HC3).mono ?_
    rintro y w3 ⟨a3, c3, rfl, ⟨i3, k3⟩, x3⟩
    dsimp only
    have HX3 := hide ((unhide HX2).trans (x3.mono (unhide HX2).size))
    have I3_3 := hide (i3)
    clear HC3 HX2 x3  
    have K3 := hide k3
    clear i3 k3
    have HC4 := hide (unhide HCB w3 (unhide HX3))
    go_wp2_with fail
    refine (unhide HC4).mono ?_
    rintro y w4 ⟨a4, c4, rfl, ⟨i4, k4⟩, x4⟩
    dsimp only
    have HX4 := hide ((unhide HX3).trans (x4.mono (unhide HX3).size))
    have I3_4 := hide ((unhide I3_3).below x4 (Nat.le_refl _))
    have I4_4 := hide (i4)
    clear HC4 HX3 x4 I3_3 
    have K4 := hide k4
    clear i4 k4
    have HC5 := hide (unhide HOV w4 (unhide HX4) a3 c3 a4 c4 (unhide I3_4) (unhide I4_4) (unhide K3) (unhide K4))
    go_wp2_with fail
    refine (unhide HC5).mono ?_
    rintro y w5 ⟨a5, c5, rfl, ⟨i5, k5⟩, x5⟩
    dsimp only
    have HX5 := hide ((unhide HX4).trans (x5.mono (unhide HX4).size))
    have I3_5 := hide ((unhide I3_4).below x5 (Nat.le_refl _))
    have I4_5 := hide ((unhide I4_4).below x5 (Nat.le_refl _))
    have I5_5 := hide (i5)
    clear HC5 HX4 x5 I3_4 I4_4 HOV K3 K4 i5 k5
    clear I3_5
    clear I4_5
    have HC6 := hide (unhide HRO2 w5 (unhide HX5))
    go_wp2_with fail
    refine (unhide HC6).mono ?_
    rintro y w6 ⟨a6, c6, rfl, ⟨i6, k6⟩, x6⟩
    dsimp only
    have HX6 := hide ((unhide HX5).trans (x6.mono (unhide HX5).size))
    have I5_6 := hide ((unhide I5_5).below x6 (Nat.le_refl _))
    have I6_6 := hide (i6)
    clear HC6 HX5 x6 I5_5 HRO2 i6 k6
    have HC7 := hide (unhide HCA w6 (unhide HX6))
    go_wp2_with fail
    refine (unhide HC7).mono ?_
    rintro y w7 ⟨a7, c7, rfl, ⟨i7, k7⟩, x7⟩
    dsimp only
    have HX7 := hide ((unhide HX6).trans (x7.mono (unhide HX6).size))
    have I5_7 := hide ((unhide I5_6).below x7 (Nat.le_refl _))
    have I6_7 := hide ((unhide I6_6).below x7 (Nat.le_refl _))
    have I7_7 := hide (i7)
    clear HC7 HX6 x7 I5_6 I6_6 
    have K7 := hide k7
    clear i7 k7
    have HC8 := hide (unhide HCB w7 (unhide HX7))
    go_wp2_with fail
    refine (unhide HC8).mono ?_
    rintro y w8 ⟨a8, c8, rfl, ⟨i8, k8⟩, x8⟩
    dsimp only
    have HX8 := hide ((unhide HX7).trans (x8.mono (unhide HX7).size))
    have I5_8 := hide ((unhide I5_7).below x8 (Nat.le_refl _))
    have I6_8 := hide ((unhide I6_7).below x8 (Nat.le_refl _))
    have I7_8 := hide ((unhide I7_7).below x8 (Nat.le_refl _))
    have I8_8 := hide (i8)
    clear HC8 HX7 x8 I5_7 I6_7 I7_7 
    have K8 := hide k8
    clear i8 k8
    have HC9 := hide (unhide HBO w8 (unhide HX8) a7 c7 a8 c8 (unhide I7_8) (unhide I8_8) (unhide K7) (unhide K8))
    go_wp2_with fail
    refine (unhide HC9).mono ?_
    rintro y w9 ⟨aA, cA, aB, cB, rfl, ⟨iA, kA⟩, ⟨iB, kB⟩, x9⟩
    dsimp only
    have HX9 := hide ((unhide HX8).trans (x9.mono (unhide HX8).size))
    have I5_9 := hide ((unhide I5_8).below x9 (Nat.le_refl _))
    have I6_9 := hide ((unhide I6_8).below x9 (Nat.le_refl _))
    have I7_9 := hide ((unhide I7_8).below x9 (Nat.le_refl _))
    have I8_9 := hide ((unhide I8_8).below x9 (Nat.le_refl _))
    have IA_9 := hide (iA)
    have IB_9 := hide (iB)
    clear HC9 HX8 x9 I5_8 I6_8 I7_8 I8_8 HBO HCA HCB K7 K8 iA kA iB kB
    clear I7_9
    clear I8_9
    have HC10 := hide (unhide HRB2 w9 (unhide HX9))
    go_wp2_with fail
    refine (unhide HC10).mono ?_
    rintro y w10 ⟨aC, cC, aD, cD, rfl, ⟨iC, kC⟩, ⟨iD, kD⟩, x10⟩
    dsimp only
    have HX10 := hide ((unhide HX9).trans (x10.mono (unhide HX9).size))
    have I5_10 := hide ((unhide I5_9).below x10 (Nat.le_refl _))
    have I6_10 := hide ((unhide I6_9).below x10 (Nat.le_refl _))
    have IA_10 := hide ((unhide IA_9).below x10 (Nat.le_refl _))
    have IB_10 := hide ((unhide IB_9).below x10 (Nat.le_refl _))
    have IC_10 := hide (iC)
    have ID_10 := hide (iD)
    clear HC10 HX9 x10 I5_9 I6_9 IA_9 IB_9 HRB2 iC kC iD kD
    have HC11 := hide (unhide HS1 w10 (unhide HX10) a5 c5 a6 c6 (unhide I5_10) (unhide I6_10))
    go_wp2_with fail
    refine (unhide HC11).mono ?_
    rintro y w11 ⟨rfl, x11⟩
    dsimp only
    have HX11 := hide ((unhide HX10).trans (x11.mono (unhide HX10).size))
    have I5_11 := hide ((unhide I5_10).below x11 (Nat.le_refl _))
    have I6_11 := hide ((unhide I6_10).below x11 (Nat.le_refl _))
    have IA_11 := hide ((unhide IA_10).below x11 (Nat.le_refl _))
    have IB_11 := hide ((unhide IB_10).below x11 (Nat.le_refl _))
    have IC_11 := hide ((unhide IC_10).below x11 (Nat.le_refl _))
    have ID_11 := hide ((unhide ID_10).below x11 (Nat.le_refl _))
    clear HC11 HX10 x11 I5_10 I6_10 IA_10 IB_10 IC_10 ID_10 HS1
    have HC12 := hide (unhide HS2 w11 (unhide HX11) aA cA aC cC (unhide IA_11) (unhide IC_11))
    go_wp2_with fail
    refine (unhide HC12).mono ?_
    rintro y w12 ⟨rfl, x12⟩
    dsimp only
    have HX12 := hide ((unhide HX11).trans (x12.mono (unhide HX11).size))
    have I5_12 := hide ((unhide I5_11).below x12 (Nat.le_refl _))
    have I6_12 := hide ((unhide I6_11).below x12 (Nat.le_refl _))
    have IA_12 := hide ((unhide IA_11).below x12 (Nat.le_refl _))
    have IB_12 := hide ((unhide IB_11).below x12 (Nat.le_refl _))
    have IC_12 := hide ((unhide IC_11).below x12 (Nat.le_refl _))
    have ID_12 := hide ((unhide ID_11).below x12 (Nat.le_refl _))
    clear HC12 HX11 x12 I5_11 I6_11 IA_11 IB_11 IC_11 ID_11 HS2
    have HC13 := hide (unhide HS3 w12 (unhide HX12) aB cB aD cD (unhide IB_12) (unhide ID_12))
    go_wp2_with fail
    refine (unhide HC13).mono ?_
    rintro y w13 ⟨rfl, x13⟩
    dsimp only
    have HX13 := hide ((unhide HX12).trans (x13.mono (unhide HX12).size))
    have I5_13 := hide ((unhide I5_12).below x13 (Nat.le_refl _))
    have I6_13 := hide ((unhide I6_12).below x13 (Nat.le_refl _))
    have IA_13 := hide ((unhide IA_12).below x13 (Nat.le_refl _))
    have IB_13 := hide ((unhide IB_12).below x13 (Nat.le_refl _))
    have IC_13 := hide ((unhide IC_12).below x13 (Nat.le_refl _))
    have ID_13 := hide ((unhide ID_12).below x13 (Nat.le_refl _))
    clear HC13 HX12 x13 I5_12 I6_12 IA_12 IB_12 IC_12 ID_12 HS3
    go_wp2_with fail
    refine bodyPost_ret (results_tmp rfl _ _ _) rfl ⟨rfl, unhide HX13⟩

end Go.Proofs.Ytkmbkoajbmlgaaa
end

section
namespace Go.Proofs.Ytkmbkoajbmlgaaa
open Go.ChangeShapes Go.WideShapes Go.ChangeAt Go.RowKit

theorem ownC : ownKnob Try.prog.godebug = none := by kernel_rfl
theorem laidOut : laidOutB Try.prog = true := by kernel_rfl
noncomputable def laidWorld (os : Os) : World := World.holding Try.prog os ⟨#[], #[], []⟩
/-- a []byte that came in reads as these bytes -/
theorem row_of_trod {H : Type} {enc : TypeId × Value → H} {W : World} {a0 : Option Addr} {len0 cap0 : Nat} {d0 : DataW H} {p0 : List MemPlace}
    (h0 : DataW.Trod enc Try.prog W 0 (fun _ => true) true 22 (Value.slice a0 len0 cap0) d0 p0)
    {ts : List TypeId} {ds : List (DataW H)} {j : Nat} (hsz : (DataW.weightsEach Try.prog ts ds).all (· ≤ reachBytes) = true) (ht : ts[j]? = some 22) (hd : ds[j]? = some d0) :
    ∃ l : List Int, len0 = l.length ∧ IsB W a0 cap0 l := by
  obtain ⟨fuel, hf⟩ := h0
  rcases open_ints Try.underlying22 Try.underlying5 (by kernel_rfl) hf with ⟨hcs, _⟩ | ⟨x, l, c, zs, hcs, _, hl, hm, hz, hx, hcell, hwz⟩
  · simp [Value.cells] at hcs
    obtain ⟨rfl, rfl, rfl⟩ := hcs
    exact ⟨[], rfl, by simp, by simp, Or.inl rfl, by simp⟩
  · simp [Value.cells] at hcs
    obtain ⟨rfl, rfl, rfl⟩ := hcs
    simp only [Prod.mk.injEq] at hx
    obtain ⟨rfl, _⟩ := hx
    have hz' : zs.length = cap0 := by simpa using hz
    have hs := sized_slice hsz ht hd Try.underlying22
    rw [show Try.prog.bytesOf 5 = 1 by kernel_rfl] at hs
    have hr : reachBytes = 140737488351232 := rfl
    simp [lits] at hs
    have hlen : (zs.take len0).length = len0 := by simp; omega
    have hby : ∀ x ∈ zs, 0 ≤ x ∧ x ≤ 255 := fun n hn => bounds_u8 (hwz n hn)
    refine ⟨zs.take len0, hlen.symm, by rw [hlen]; omega, by rw [hlen]; omega, ?_, fun y hy => hby y (List.mem_of_mem_take hy)⟩
    rcases Nat.eq_zero_or_pos len0 with h0 | h0
    · subst h0; exact Or.inl rfl
    · obtain ⟨b, off, spot⟩ := x
      have hspot : spot = none := by simpa [Addr.add] using World.cell?_spot (hcell 0 (by omega))
      subst hspot
      refine Or.inr ⟨b, off, rfl, fun i hi => ?_⟩
      rw [hlen] at hi
      have e : (zs.take len0).getD i 0 = zs.getD i 0 := by simp [List.getD, hi]
      rw [e]
      have hc := hcell i (by omega)
      rw [Addr.add_lit] at hc
      refine ⟨hc, ?_⟩
      have := hby (zs[i]'(by omega)) (List.getElem_mem _)
      simpa [List.getD, List.getElem?_eq_getElem (show i < zs.length by omega)] using this
theorem one_intO {H : Type} {enc : TypeId × Value → H} {P : Program} {W : World} {spare : Nat → Bool} {m : Nat} {t : TypeId} (ht : P.underlying t = some (.int .i64)) {xs : List (DataW H × List MemPlace)} {L : List Value} {i k : Nat} (hi : i < xs.length)
    (h : DataW.trod enc P W 0 spare true m t ((L.drop k).take 1) = xs[i]?) : ∃ n : Int, L[k]? = some (.int .i64 n) := by
  rw [List.getElem?_eq_getElem hi] at h
  obtain ⟨n, hn, _⟩ := DataW.trod_int ht h
  refine ⟨n, ?_⟩
  have := congrArg (·[0]?) hn
  simpa [List.getElem?_take, List.getElem?_drop] using this
theorem one_strO {H : Type} {enc : TypeId × Value → H} {P : Program} {W : World} {spare : Nat → Bool} {m : Nat} {t : TypeId} (ht : P.underlying t = some .string) {xs : List (DataW H × List MemPlace)} {L : List Value} {i k : Nat} (hi : i < xs.length)
    (h : DataW.trod enc P W 0 spare true m t ((L.drop k).take 1) = xs[i]?) : ∃ s : ByteArray, L[k]? = some (.string s) ∧ (xs[i]'hi).1 = .lit (.string s.data.toList) := by
  rw [List.getElem?_eq_getElem hi] at h
  obtain ⟨n, hn, hx⟩ := DataW.trod_string ht h
  refine ⟨n, ?_, by rw [hx.1]⟩
  have := congrArg (·[0]?) hn
  simpa [List.getElem?_take, List.getElem?_drop] using this
/-- a string's bytes as numbers -/
def numsO (s : ByteArray) : List Int := s.data.toList.map fun u => (u.toNat : Int)
theorem numsO_in (s : ByteArray) : ∀ x ∈ numsO s, 0 ≤ x ∧ x ≤ 255 := by
  intro x hx
  obtain ⟨u, _, rfl⟩ := List.mem_map.1 hx
  have := u.toNat_lt
  omega
theorem str_numsO (s : ByteArray) : strOfNums (numsO s) = s := by
  unfold strOfNums numsO
  apply ByteArray.ext
  have e : ((fun n : Int => UInt8.ofNat n.toNat) ∘ fun u : UInt8 => (u.toNat : Int)) = id := by
    funext u
    simp
  rw [List.map_map, e, List.map_id]
theorem wE_atO {H : Type} {P : Program} : ∀ {ts : List TypeId} {ds : List (DataW H)} {j : Nat} {t : TypeId} {d : DataW H}, ts[j]? = some t → ds[j]? = some d → ∀ x ∈ d.weights P t, x ∈ DataW.weightsEach P ts ds
  | [], _, _, _, _, ht, _, _, _ => by simp at ht
  | _ :: _, [], _, _, _, _, hd, _, _ => by simp at hd
  | t0 :: ts, d0 :: ds, 0, t, d, ht, hd, x, hx => by
    simp only [List.getElem?_cons_zero, Option.some.injEq] at ht hd
    subst ht hd
    rw [DataW.weightsEach]
    exact List.mem_append_left _ hx
  | t0 :: ts, d0 :: ds, j + 1, t, d, ht, hd, x, hx => by
    simp only [List.getElem?_cons_succ] at ht hd
    rw [DataW.weightsEach]
    exact List.mem_append_right _ (wE_atO ht hd x hx)
theorem wA_atO {H : Type} {P : Program} {e : TypeId} : ∀ {l : List (DataW H)} {d : DataW H}, d ∈ l → ∀ x ∈ d.weights P e, x ∈ DataW.weightsAll P e l
  | [], _, h, _, _ => by simp at h
  | d0 :: r, d, h, x, hx => by
    rw [DataW.weightsAll]
    rcases List.mem_cons.1 h with rfl | h
    · exact List.mem_append_left _ hx
    · exact List.mem_append_right _ (wA_atO h x hx)
instance : Inhabited Dop := ⟨opZ⟩
set_option maxRecDepth 100000 in
theorem op_cells {H : Type} {enc : TypeId × Value → H} {W : World} {cs : List Value} {fuel : Nat} {x : DataW H × List MemPlace}
    (hl : cs.length = 3) (hb : ∀ y ∈ x.1.weights Try.prog 34, y ≤ reachBytes) (hf : DataW.trod enc Try.prog W 0 (fun _ => true) true fuel 34 cs = some x) : ∃ q : Dop, cs = opL q ∧ TbD q ∧ q.t.length ≤ 140737488355328 := by
  obtain ⟨xs, n, _, hxx, _, hx, hall⟩ := DataW.trod_struct Try.underlying34 hf
  have hx' : xs.length = 3 := hx
  have hc : Try.prog.cellsOf 3 = 1 := by kernel_rfl
  have hc1 : Try.prog.cellsOf 32 = 1 := by kernel_rfl
  have hc2 : Try.prog.cellsOf 9 = 1 := by kernel_rfl
  have j0 : DataW.trod enc Try.prog W 0 (fun _ => true) true n 32 ((cs.drop 0).take (Try.prog.cellsOf 32)) = xs[0]? := hall 0 _ rfl
  have j1 : DataW.trod enc Try.prog W 0 (fun _ => true) true n 3 ((cs.drop 1).take (Try.prog.cellsOf 3)) = xs[1]? := hall 1 _ rfl
  have j2 : DataW.trod enc Try.prog W 0 (fun _ => true) true n 9 ((cs.drop 2).take (Try.prog.cellsOf 9)) = xs[2]? := hall 2 _ rfl
  rw [hc1] at j0
  rw [hc] at j1
  rw [hc2] at j2
  obtain ⟨k, e0⟩ := one_intO Try.underlying32 (by omega) j0
  obtain ⟨m, e1⟩ := one_intO Try.underlying3 (by omega) j1
  obtain ⟨s, e2, es⟩ := one_strO Try.underlying9 (by omega) j2
  refine ⟨⟨k, m, numsO s⟩, ?_, numsO_in s, ?_⟩
  · unfold opL
    dsimp only
    rw [str_numsO]
    apply List.ext_getElem?
    intro i
    match i with
    | 0 => exact e0
    | 1 => exact e1
    | 2 => exact e2
    | i + 3 => rw [List.getElem?_eq_none (by omega)]; rfl
  · have h1 : (xs.map fun x => x.1)[2]? = some (xs[2]'(by omega)).1 := by simp [List.getElem?_eq_getElem (show 2 < xs.length by omega)]
    have hr : reachBytes = 140737488351232 := rfl
    have := hb s.data.toList.length (by
      rw [hxx]
      simp only [DataW.weights, Try.underlying34]
      refine wE_atO (j := 2) (t := 9) rfl h1 _ ?_
      rw [es]
      simp [DataW.weights])
    simp only [numsO, List.length_map]
    omega
set_option maxRecDepth 100000 in
/-- the list of operations -/
theorem ops_of_trod {H : Type} {enc : TypeId × Value → H} {W : World} {a0 : Option Addr} {len0 cap0 : Nat} {d0 : DataW H} {p0 : List MemPlace}
    (h0 : DataW.Trod enc Try.prog W 0 (fun _ => true) true 24 (Value.slice a0 len0 cap0) d0 p0)
    {ts : List TypeId} {ds : List (DataW H)} {j : Nat} (hsz : (DataW.weightsEach Try.prog ts ds).all (· ≤ reachBytes) = true) (ht : ts[j]? = some 24) (hd : ds[j]? = some d0) :
    ∃ q : List Dop, len0 = q.length ∧ IsO W a0 q ∧ (q = [] ∨ ∃ p, a0 = some p) ∧ q.length * 32 ≤ 140737488355328 ∧ ∀ o ∈ q, TbD o ∧ o.t.length ≤ 140737488355328 := by
  have hall : ∀ y ∈ d0.weights Try.prog 24, y ≤ reachBytes := fun y hy => of_decide_eq_true (List.all_eq_true.1 hsz y (wE_atO ht hd y hy))
  obtain ⟨fuel, hf⟩ := h0
  rcases Go.Deep.open_slice Try.underlying24 hf with ⟨hcs, _⟩ | ⟨a, len, cap, m, n, D, Pl, hcs, _, hl, hm, hmm, hx, hrow⟩
  · simp [Value.cells] at hcs
    obtain ⟨rfl, rfl, rfl⟩ := hcs
    exact ⟨[], rfl, Or.inl rfl, Or.inl rfl, by simp, by simp⟩
  · simp [Value.cells] at hcs
    obtain ⟨rfl, rfl, rfl⟩ := hcs
    simp only [Prod.mk.injEq] at hx
    obtain ⟨rfl, _⟩ := hx
    have hs := sized_slice hsz ht hd Try.underlying24
    rw [show Try.prog.bytesOf 34 = 32 by kernel_rfl] at hs
    have hr : reachBytes = 140737488351232 := rfl
    simp only [List.length_map, List.length_range] at hs
    simp only [DataW.weights, Try.underlying24] at hall
    simp only [if_true] at hmm
    subst hmm
    have ce : Try.prog.cellsOf 34 = 3 := by kernel_rfl
    have each : ∀ r, r < len0 → ∃ y : Dop, (TbD y ∧ y.t.length ≤ 140737488355328) ∧ ∀ j, j < 3 → W.cell? (a.add (r * 3 + j)) = (opL y)[j]? := by
      intro r hr
      obtain ⟨cs', h1, h2⟩ := hrow r (by omega)
      rw [ce] at h1
      obtain ⟨_, hlen, hcell⟩ := World.cells?_some h1
      have hbr : ∀ y ∈ (D r).weights Try.prog 34, y ≤ reachBytes := fun y hy => hall y (List.mem_cons_of_mem _ (List.mem_append_left _ (wA_atO (by simp; exact ⟨r, hr, rfl⟩) y hy)))
      obtain ⟨y, rfl, hby⟩ := op_cells hlen hbr h2
      refine ⟨y, hby, fun j hj => ?_⟩
      have e := hcell j (by omega)
      rw [Go.Deep.add_add] at e
      rw [e, List.getElem?_eq_getElem (by simpa [opL] using hj)]
    obtain ⟨y, hy⟩ := Go.Deep.choose_lt each
    refine ⟨(List.range len0).map y, by simp, ?_, Or.inr ⟨_, rfl⟩, by simp; omega, ?_⟩
    · rcases Nat.eq_zero_or_pos len0 with h0 | h0
      · subst h0; exact Or.inl rfl
      · obtain ⟨b, off, spot⟩ := a
        have hc1 : W.cell? (Addr.add ⟨b, off, spot⟩ (0 * 3 + 0)) = some (.int .i64 (y 0).k) := (hy 0 (by omega)).2 0 (by decide)
        have hspot : spot = none := by simpa [Addr.add] using World.cell?_spot hc1
        subst hspot
        have hbl : b < W.heap.size := by
          rcases Nat.lt_or_ge b W.heap.size with h | h
          · exact h
          · rw [Addr.add_lit] at hc1
            simp [World.cell?, Array.getElem?_eq_none h] at hc1
        refine Or.inr ⟨b, off, rfl, hbl, fun r hr => ?_⟩
        simp only [List.length_map, List.length_range] at hr
        have hgr : ((List.range len0).map y).getD r opZ = y r := by simp [List.getD, hr]
        rw [hgr]
        have f : ∀ j, j < 3 → W.cell? ⟨b, off + (r * 3 + j), none⟩ = (opL (y r))[j]? := fun j hj => by have := (hy r hr).2 j hj; rwa [Addr.add_lit] at this
        exact ⟨f 0 (by decide), f 1 (by decide), f 2 (by decide)⟩
    · intro o ho
      obtain ⟨r, hr, rfl⟩ := List.mem_map.1 ho
      exact (hy r (by simpa using hr)).1
end Go.Proofs.Ytkmbkoajbmlgaaa
end

section
namespace Go.Proofs.Ytkmbkoajbmlgaaa
open Go.ChangeShapes Go.WideShapes Go.ChangeAt Go.RowKit
open Go.ChangeMaps (open_string shut_string)

set_option maxRecDepth 100000 in
theorem shiftOver_contract (H : Type) (enc : TypeId × Value → H) (W : World) (base : Nat) (args : Array Value) (ds gs : List (DataW H)) (before : List MemPlace)
    (hval : ∀ (j : Nat) t v, Try.f5.params[j]? = some t → args[j]? = some v → Value.okWide Try.prog W .any base t v)
    (hW : DataW.Whole enc Try.prog Try.f5.params.toList Rows.shiftOverSpec.vars false W args.toList ds gs before) (hsz : (DataW.weightsEach Try.prog (Try.f5.params.toList ++ (OpenSpec.ofChange Rows.shiftOverSpec).bare.plain.varTypes Try.prog) (ds ++ gs)).all (· ≤ reachBytes) = true) (_hL : laidMetH Try.prog Rows.shiftOverRow.laid W) :
    Calls Try.prog 5 args W fun e W' => ∃ v, e = .returned v ∧ Rows.shiftOverSpec.post enc Try.prog Try.f5 false true false false W args v W' := by
  have hW' := hW
  obtain ⟨p, q, hA0, hV, rfl, _, _⟩ := hW
  have hA : DataW.TrodAll enc Try.prog W 0 (fun _ => true) true Try.f5.params.toList args.toList ds p := hA0
  rw [Try.params5] at hA hval hsz
  obtain ⟨v0, vs0, d0, ds0, p0, q0, hargs, rfl, rfl, h0, r0⟩ := trodAll_cons hA
  obtain ⟨v1, vs1, d1, ds1, p1, q1, rfl, rfl, rfl, h1, r1⟩ := trodAll_cons r0
  obtain ⟨v2, vs2, d2, ds2, p2, q2, rfl, rfl, rfl, h2, r2⟩ := trodAll_cons r1
  obtain ⟨rfl, rfl, rfl⟩ := trodAll_nil r2
  obtain rfl : args = #[v0, v1, v2] := by cases args; simp_all
  obtain ⟨rfl, rfl⟩ := trodVars_none hV
  obtain ⟨a0, len0, cap0, rfl⟩ := okWide_slice Try.underlying24 (hval 0 24 v0 rfl rfl)
  have k0 := h0
  have lt0 : ∀ x ∈ p0, x.block < W.heap.size := by obtain ⟨m, hm⟩ := k0; exact DataW.trod_lt m _ _ _ hm
  obtain ⟨l0, rfl, w0, u0⟩ := ops_of_trod h0 hsz (j := 0) rfl rfl
  obtain ⟨a1, len1, cap1, rfl⟩ := okWide_slice Try.underlying24 (hval 1 24 v1 rfl rfl)
  have k1 := h1
  have lt1 : ∀ x ∈ p1, x.block < W.heap.size := by obtain ⟨m, hm⟩ := k1; exact DataW.trod_lt m _ _ _ hm
  obtain ⟨l1, rfl, w1, u1⟩ := ops_of_trod h1 hsz (j := 1) rfl rfl
  obtain ⟨x2, rfl, rfl, rfl⟩ := open_bool Try.underlying4 (hval 2 4 v2 rfl rfl) h2
  clear hA0
  refine (ShiftOverS_any a0 cap0 l0 a1 cap1 l1 x2 W w0 u0.1 u0.2.1 u0.2.2 w1 u1.1 u1.2.1 u1.2.2).mono fun e W' ⟨he, bel⟩ => ?_
  subst he
  exact ⟨_, rfl, _, _, _, [], _, [], hW', trodAll_mk1 (shut_bool Try.underlying4 _), (trodAll_cons_mk (Below.trod laidOut (by kernel_rfl) (of_decide_eq_true (by kernel_rfl)) k0 bel lt0) (trodAll_cons_mk (Below.trod laidOut (by kernel_rfl) (of_decide_eq_true (by kernel_rfl)) k1 bel lt1) (trodAll_cons_mk (shut_bool Try.underlying4 _) trodAll_mk0))), rfl, bel.frame _, fun h => by cases h⟩

theorem shiftOver_met (os : Os) : laidMet Try.prog Rows.shiftOverRow.laid ((laidWorld os).forCall (fun _ _ => 0) ⟨#[], #[.slice none 0 0, .slice none 0 0, .bool false], []⟩).memory :=
  laidMet_of_run' 8 (by kernel_rfl) (by kernel_rfl)
theorem shiftOver_reads (os : Os) {H : Type} (enc : TypeId × Value → H) : ∃ places, DataW.whole enc Try.prog ((laidWorld os).forCall (fun _ _ => 0) ⟨#[], #[.slice none 0 0, .slice none 0 0, .bool false], []⟩).memory Try.f5.params.toList Rows.shiftOverSpec.vars false (#[.slice none 0 0, .slice none 0 0, .bool false] : Array Value).toList 8 = some ([.nil, .nil, .lit (.bool false)], [], places) :=
  ⟨[], by kernel_rfl⟩

set_option maxRecDepth 100000 in
theorem shiftOver_lifted (os : Os) (started : os.Started) (H : Type) (enc : TypeId × Value → H) (F : Stop.Interp) :
    ReturnsInHanded {} Try.checked os 5 .any ((OpenSpec.ofChange Rows.shiftOverSpec).preRow enc Try.prog Try.f5 Rows.shiftOverRow.domain false Rows.shiftOverRow.laid) (((OpenSpec.ofChange Rows.shiftOverSpec).at F).post enc Try.prog Try.f5 false true false false) := by
  obtain ⟨places, hx⟩ := shiftOver_reads os enc
  refine returnsInHanded_of_row (C := Try.checked) (s := OpenSpec.ofChange Rows.shiftOverSpec) ownC started (by kernel_rfl) Try.func5
    (witness_row_at (enc := enc) (C := Try.checked) false (laidWorld os) #[.slice none 0 0, .slice none 0 0, .bool false] rfl (by kernel_rfl) (by kernel_rfl) (by kernel_rfl)
      (OpenSpec.preRow_of_cond 8 hx (by kernel_rfl) (fun k hk => by cases hk) (by kernel_rfl) (shiftOver_met os))) ?_
  intro W base args ds gs before hval hW _ _ hsz hL _ _
  exact shiftOver_contract H enc W base args ds gs before hval hW hsz hL

theorem shiftOver_said : Rows.ShiftOverSaid :=
  OpenClaim.holds_of_cond 5 Try.f5 rfl rfl rfl rfl rfl rfl rfl ⟨rfl, rfl, rfl, rfl, rfl⟩ rfl rfl rfl rfl rfl (by kernel_rfl) Try.func5 (by kernel_rfl)
    (of_decide_eq_true (by kernel_rfl)) (by unfold Func.isWrapper; first | (rw [if_pos (by decide +kernel)]; kernel_rfl) | (rw [if_neg (by decide +kernel)]; exact ⟨rfl, rfl⟩))
    (fun os started H enc _ F => by rw [OpenClaim.pre_eq_preRow]; exact shiftOver_lifted os started H enc F)

#print axioms shiftOver_said
end Go.Proofs.Ytkmbkoajbmlgaaa
end
