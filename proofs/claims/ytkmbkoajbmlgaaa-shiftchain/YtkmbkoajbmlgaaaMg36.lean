/- Layer 14: ShiftOver's walk (written by wip/tools/sgv.py). · Layer 14: the document's SameAll for lists that lie anywhere (written by wip/tools/sgw.py). -/
import Derived.Test.YtkmbkoajbmlgaaaMg35

section
namespace Go.Proofs.Ytkmbkoajbmlgaaa
open Go.ChangeShapes Go.WideShapes Go.ChangeAt Go.RowKit
attribute [local go_sem] Oper.semAt_some

theorem copiedO_at (a : Option Addr) (c : Nat) (d : List Dop) (w : World) (h : IsO w a d) (hz : d = [] ∨ ∃ q, a = some q) (hb : d.length * 32 ≤ 140737488355328) :
    Calls Try.prog 29 #[.slice a d.length c] w fun y w' => ∃ a' c', y = .returned (.slice a' d.length c') ∧ (IsO w' a' d ∧ d.length ≤ c') ∧ Below w.heap.size w w' :=
  (copied14_at a c d w h hz hb).mono fun y w' ⟨v, e, ho, x⟩ => by
    obtain ⟨a', c', rfl, h1, h2⟩ := own_isO ho
    exact ⟨a', c', e, ⟨h1, h2⟩, x⟩
theorem ovD_small (d e : List Dop) (f : Bool) : (ovD d e f).length ≤ 4611686018427387904 := by
  by_cases hE : ovE d e f = 0
  · exact (val_small (ov_ok hE).v).1
  · unfold ovD; rw [if_neg hE]; simp
theorem boA_small (d e : List Dop) : (boA d e).length ≤ 4611686018427387904 ∧ (boB d e).length ≤ 4611686018427387904 := by
  unfold boA boB
  split
  · exact ⟨ovD_small _ _ _, ovD_small _ _ _⟩
  · simp
theorem bo_tb {d e : List Dop} (hd : ∀ o ∈ d, TbD o) (he : ∀ o ∈ e, TbD o) : (∀ o ∈ boA d e, TbD o) ∧ (∀ o ∈ boB d e, TbD o) := by
  unfold boA boB
  split
  · exact ⟨ovD_tb hd, ovD_tb he⟩
  · simp
/-- great of two, as the law calls it -/
theorem great2_at (x y : Dl) (w X : World) (hx : IsO w x.a x.d) (hy : IsO w y.a y.d) (tx : ∀ o ∈ x.d, o.t.length ≤ 140737488355328) (ty : ∀ o ∈ y.d, o.t.length ≤ 140737488355328) (hd : Below w.heap.size w X) (lx : x.d.length ≤ 4611686018427387904 ∧ txD x.d ≤ 1099511627776) (ly : y.d.length ≤ 4611686018427387904 ∧ txD y.d ≤ 1099511627776) :
    Calls Try.prog 31 #[.slice (some ⟨X.heap.size, 0, none⟩) 2 2] (X.alloc (.cells #[.slice x.a x.d.length x.c, .slice y.a y.d.length y.c] 24)) fun z X' => z = .returned (.bool (grB [x, y])) ∧ Below X.heap.size X X' := by
  have kN := Cls.new X 24 #[.slice x.a x.d.length x.c, .slice y.a y.d.length y.c]
  have bA := (Below.refl X.heap.size X).alloc (Nat.le_refl _) (.cells #[.slice x.a x.d.length x.c, .slice y.a y.d.length y.c] 24)
  have hD : IsDx w (X.alloc (.cells #[.slice x.a x.d.length x.c, .slice y.a y.d.length y.c] 24)) (some ⟨X.heap.size, 0, none⟩) [x, y] := ⟨fun i hi => by
    match i with
    | 0 => exact ⟨_, 0, rfl, kN.lt, kN.cell 0⟩
    | 1 => exact ⟨_, 0, rfl, kN.lt, kN.cell 1⟩
    | i + 2 => simp at hi; omega, fun i hi => by
    match i with
    | 0 => exact ⟨hx, tx⟩
    | 1 => exact ⟨hy, ty⟩
    | i + 2 => simp at hi; omega⟩
  exact (great14_at _ 2 [x, y] w _ hD (hd.trans (bA.mono hd.size)) (by simp) (fun z hz => by
    simp only [List.mem_cons, List.not_mem_nil, or_false] at hz
    rcases hz with rfl | rfl
    · exact lx
    · exact ly)).mono fun z X' ⟨e, x⟩ => ⟨e, bA.trans (x.mono bA.size)⟩
theorem tx_of {d : List Dop} (hl : d.length ≤ 1048576) (ht : ∀ o ∈ d, TbD o ∧ o.t.length ≤ 1048576) : txD d ≤ 1099511627776 := by
  have h1 := txD_le (fun o ho => (ht o ho).2)
  have h2 := Nat.mul_le_mul_right 1048576 hl
  omega
set_option maxRecDepth 100000 in
set_option maxHeartbeats 4000000 in
theorem ShiftOver_any (a1 : Option Addr) (c1 : Nat) (d : List Dop) (a2 : Option Addr) (c2 : Nat) (e : List Dop) (f : Bool) (w : World) (hx : IsO w a1 d) (hzx : d = [] ∨ ∃ q, a1 = some q) (hlx : d.length ≤ 1048576) (htx : ∀ o ∈ d, TbD o ∧ o.t.length ≤ 1048576) (hy : IsO w a2 e) (hzy : e = [] ∨ ∃ q, a2 = some q) (hly : e.length ≤ 1048576) (hty : ∀ o ∈ e, TbD o ∧ o.t.length ≤ 1048576) :
    Calls Try.prog 5 #[.slice a1 d.length c1, .slice a2 e.length c2, .bool f] w fun y w' => y = .returned (.bool true) ∧ Below w.heap.size w w' := by
  have HAw := hide (fixed14_at w)
  have tX := tx_of hlx htx
  have tY := tx_of hly hty
  have qX : ∀ o ∈ d, o.t.length ≤ 140737488355328 := fun o ho => Nat.le_trans (htx o ho).2 (by decide)
  have qY : ∀ o ∈ e, o.t.length ≤ 140737488355328 := fun o ho => Nat.le_trans (hty o ho).2 (by decide)
  have lX : d.length ≤ 4611686018427387904 := Nat.le_trans hlx (by decide)
  have lY : e.length ≤ 4611686018427387904 := Nat.le_trans hly (by decide)
  have HGR := hide fun (X : World) (hX : Below w.heap.size w X) => great2_at ⟨a1, c1, d⟩ ⟨a2, c2, e⟩ w X hx hy qX qY hX ⟨lX, tX⟩ ⟨lY, tY⟩
  dsimp only at HGR
  have HCA := hide fun (X : World) (hX : Below w.heap.size w X) => copiedO_at a1 c1 d X (hx.below hX (Nat.le_refl _)) hzx (by omega)
  have HCB := hide fun (X : World) (hX : Below w.heap.size w X) => copiedO_at a2 c2 e X (hy.below hX (Nat.le_refl _)) hzy (by omega)
  have HOV := hide fun (X : World) (_ : Below w.heap.size w X) (a3 : Option Addr) (c3 : Nat) (a4 : Option Addr) (c4 : Nat) (h3 : IsO X a3 d) (h4 : IsO X a4 e) (k3 : d.length ≤ c3) (k4 : e.length ≤ c4) => OverO_at a3 c3 d a4 c4 e f X ⟨h3, k3⟩ ⟨h4, k4⟩ qX lX lY
  have HBO := hide fun (X : World) (_ : Below w.heap.size w X) (a3 : Option Addr) (c3 : Nat) (a4 : Option Addr) (c4 : Nat) (h3 : IsO X a3 d) (h4 : IsO X a4 e) (k3 : d.length ≤ c3) (k4 : e.length ≤ c4) => Both_at a3 c3 d a4 c4 e X ⟨h3, k3⟩ ⟨h4, k4⟩ qX qY lX lY
  have HRO := hide fun (X : World) (hX : Below w.heap.size w X) => ROverO_at a1 c1 d a2 c2 e f X (hx.below hX (Nat.le_refl _)) (hy.below hX (Nat.le_refl _)) tX tY lX lY
  have HRB := hide fun (X : World) (hX : Below w.heap.size w X) => RBoth14_at a1 c1 d a2 c2 e X (hx.below hX (Nat.le_refl _)) (hy.below hX (Nat.le_refl _)) tX tY lX lY
  have bO : ∀ o ∈ ovD d e f, TbD o := ovD_tb fun o ho => (hty o ho).1
  obtain ⟨bA, bB⟩ := bo_tb (fun o ho => (htx o ho).1) (fun o ho => (hty o ho).1)
  obtain ⟨sA, sB⟩ := boA_small d e
  have sO := ovD_small d e f
  have HS1 := hide fun (X : World) (_ : Below w.heap.size w X) (a3 : Option Addr) (c3 : Nat) (a4 : Option Addr) (c4 : Nat) (h3 : IsO X a3 (ovD d e f)) (h4 : IsO X a4 (ovD d e f)) => RSame14_at a3 c3 _ a4 c4 _ X h3 h4 sO sO bO bO
  have HS2 := hide fun (X : World) (_ : Below w.heap.size w X) (a3 : Option Addr) (c3 : Nat) (a4 : Option Addr) (c4 : Nat) (h3 : IsO X a3 (boA d e)) (h4 : IsO X a4 (boA d e)) => RSame14_at a3 c3 _ a4 c4 _ X h3 h4 sA sA bA bA
  have HS3 := hide fun (X : World) (_ : Below w.heap.size w X) (a3 : Option Addr) (c3 : Nat) (a4 : Option Addr) (c4 : Nat) (h3 : IsO X a3 (boB d e)) (h4 : IsO X a4 (boB d e)) => RSame14_at a3 c3 _ a4 c4 _ X h3 h4 sB sB bB bB
  simp only [decide_true] at HS1 HS2 HS3
  clear hx hzx hlx htx hy hzy hly hty tX tY qX qY lX lY bO bA bB sA sB sO
  generalize ovD d e f = O at *
  generalize ovE d e f = OE at *
  generalize boA d e = A at *
  generalize boB d e = B at *
  generalize boE d e = BE at *
  generalize grB [⟨a1, c1, d⟩, ⟨a2, c2, e⟩] = G at *
  go_enter Try.func5, Try.ntmps5
  go_wp2_with fail
  refine (unhide HAw).mono ?_
  rintro y w1 ⟨rfl, x1⟩
  dsimp only
  have HX1 := hide x1
  clear HAw x1
  have HC2 := hide (unhide HGR w1 (unhide HX1))
  go_wp2_with fail
  refine (unhide HC2).mono ?_
  rintro y w2 ⟨rfl, x2⟩
  dsimp only
  have HX2 := hide ((unhide HX1).trans (x2.mono (unhide HX1).size))
  clear HC2 HX1 x2  HGR
  cases G with
  | true =>
    go_wp2_with fail
    refine bodyPost_ret (results_tmp rfl _ _ _) rfl ⟨rfl, unhide HX2⟩
  | false =>
    have HC3 := hide (unhide HCA w2 (unhide HX2))
    go_wp2_with fail
    refine (unhide HC3).mono ?_
    rintro y w3 ⟨a3, c3, rfl, ⟨i3, k3⟩, x3⟩
    dsimp only
    have HX3 := hide ((unhide HX2).trans (x3.mono (unhide HX2).size))
    have I3_3 := hide (i3)
    clear HC3 HX2 x3  
    have K3 := hide k3
    clear i3 k3
    have HC4 := hide (unhide HCB w3 (unhide HX3))
    go_wp2_with fail
    refine (unhide HC4).mono ?_
    rintro y w4 ⟨a4, c4, rfl, ⟨i4, k4⟩, x4⟩
    dsimp only
    have HX4 := hide ((unhide HX3).trans (x4.mono (unhide HX3).size))
    have I3_4 := hide ((unhide I3_3).below x4 (Nat.le_refl _))
    have I4_4 := hide (i4)
    clear HC4 HX3 x4 I3_3 
    have K4 := hide k4
    clear i4 k4
    have HC5 := hide (unhide HOV w4 (unhide HX4) a3 c3 a4 c4 (unhide I3_4) (unhide I4_4) (unhide K3) (unhide K4))
    go_wp2_with fail
    refine (unhide HC5).mono ?_
    rintro y w5 ⟨a5, c5, rfl, ⟨i5, k5⟩, x5⟩
    dsimp only
    have HX5 := hide ((unhide HX4).trans (x5.mono (unhide HX4).size))
    have I3_5 := hide ((unhide I3_4).below x5 (Nat.le_refl _))
    have I4_5 := hide ((unhide I4_4).below x5 (Nat.le_refl _))
    have I5_5 := hide (i5)
    clear HC5 HX4 x5 I3_4 I4_4 HOV K3 K4 i5 k5
    clear I3_5
    clear I4_5
    have HC6 := hide (unhide HRO w5 (unhide HX5))
    go_wp2_with fail
    refine (unhide HC6).mono ?_
    rintro y w6 ⟨a6, c6, rfl, ⟨i6, k6⟩, x6⟩
    dsimp only
    have HX6 := hide ((unhide HX5).trans (x6.mono (unhide HX5).size))
    have I5_6 := hide ((unhide I5_5).below x6 (Nat.le_refl _))
    have I6_6 := hide (i6)
    clear HC6 HX5 x6 I5_5 HRO i6 k6
    have HC7 := hide (unhide HCA w6 (unhide HX6))
    go_wp2_with fail
    refine (unhide HC7).mono ?_
    rintro y w7 ⟨a7, c7, rfl, ⟨i7, k7⟩, x7⟩
    dsimp only
    have HX7 := hide ((unhide HX6).trans (x7.mono (unhide HX6).size))
    have I5_7 := hide ((unhide I5_6).below x7 (Nat.le_refl _))
    have I6_7 := hide ((unhide I6_6).below x7 (Nat.le_refl _))
    have I7_7 := hide (i7)
    clear HC7 HX6 x7 I5_6 I6_6 
    have K7 := hide k7
    clear i7 k7
    have HC8 := hide (unhide HCB w7 (unhide HX7))
    go_wp2_with fail
    refine (unhide HC8).mono ?_
    rintro y w8 ⟨a8, c8, rfl, ⟨i8, k8⟩, x8⟩
    dsimp only
    have HX8 := hide ((unhide HX7).trans (x8.mono (unhide HX7).size))
    have I5_8 := hide ((unhide I5_7).below x8 (Nat.le_refl _))
    have I6_8 := hide ((unhide I6_7).below x8 (Nat.le_refl _))
    have I7_8 := hide ((unhide I7_7).below x8 (Nat.le_refl _))
    have I8_8 := hide (i8)
    clear HC8 HX7 x8 I5_7 I6_7 I7_7 
    have K8 := hide k8
    clear i8 k8
    have HC9 := hide (unhide HBO w8 (unhide HX8) a7 c7 a8 c8 (unhide I7_8) (unhide I8_8) (unhide K7) (unhide K8))
    go_wp2_with fail
    refine (unhide HC9).mono ?_
    rintro y w9 ⟨aA, cA, aB, cB, rfl, ⟨iA, kA⟩, ⟨iB, kB⟩, x9⟩
    dsimp only
    have HX9 := hide ((unhide HX8).trans (x9.mono (unhide HX8).size))
    have I5_9 := hide ((unhide I5_8).below x9 (Nat.le_refl _))
    have I6_9 := hide ((unhide I6_8).below x9 (Nat.le_refl _))
    have I7_9 := hide ((unhide I7_8).below x9 (Nat.le_refl _))
    have I8_9 := hide ((unhide I8_8).below x9 (Nat.le_refl _))
    have IA_9 := hide (iA)
    have IB_9 := hide (iB)
    clear HC9 HX8 x9 I5_8 I6_8 I7_8 I8_8 HBO HCA HCB K7 K8 iA kA iB kB
    clear I7_9
    clear I8_9
    have HC10 := hide (unhide HRB w9 (unhide HX9))
    go_wp2_with fail
    refine (unhide HC10).mono ?_
    rintro y w10 ⟨aC, cC, aD, cD, rfl, ⟨iC, kC⟩, ⟨iD, kD⟩, x10⟩
    dsimp only
    have HX10 := hide ((unhide HX9).trans (x10.mono (unhide HX9).size))
    have I5_10 := hide ((unhide I5_9).below x10 (Nat.le_refl _))
    have I6_10 := hide ((unhide I6_9).below x10 (Nat.le_refl _))
    have IA_10 := hide ((unhide IA_9).below x10 (Nat.le_refl _))
    have IB_10 := hide ((unhide IB_9).below x10 (Nat.le_refl _))
    have IC_10 := hide (iC)
    have ID_10 := hide (iD)
    clear HC10 HX9 x10 I5_9 I6_9 IA_9 IB_9 HRB iC kC iD kD
    have HC11 := hide (unhide HS1 w10 (unhide HX10) a5 c5 a6 c6 (unhide I5_10) (unhide I6_10))
    go_wp2_with fail
    refine (unhide HC11).mono ?_
    rintro y w11 ⟨rfl, x11⟩
    dsimp only
    have HX11 := hide ((unhide HX10).trans (x11.mono (unhide HX10).size))
    have I5_11 := hide ((unhide I5_10).below x11 (Nat.le_refl _))
    have I6_11 := hide ((unhide I6_10).below x11 (Nat.le_refl _))
    have IA_11 := hide ((unhide IA_10).below x11 (Nat.le_refl _))
    have IB_11 := hide ((unhide IB_10).below x11 (Nat.le_refl _))
    have IC_11 := hide ((unhide IC_10).below x11 (Nat.le_refl _))
    have ID_11 := hide ((unhide ID_10).below x11 (Nat.le_refl _))
    clear HC11 HX10 x11 I5_10 I6_10 IA_10 IB_10 IC_10 ID_10 HS1
    have HC12 := hide (unhide HS2 w11 (unhide HX11) aA cA aC cC (unhide IA_11) (unhide IC_11))
    go_wp2_with fail
    refine (unhide HC12).mono ?_
    rintro y w12 ⟨rfl, x12⟩
    dsimp only
    have HX12 := hide ((unhide HX11).trans (x12.mono (unhide HX11).size))
    have I5_12 := hide ((unhide I5_11).below x12 (Nat.le_refl _))
    have I6_12 := hide ((unhide I6_11).below x12 (Nat.le_refl _))
    have IA_12 := hide ((unhide IA_11).below x12 (Nat.le_refl _))
    have IB_12 := hide ((unhide IB_11).below x12 (Nat.le_refl _))
    have IC_12 := hide ((unhide IC_11).below x12 (Nat.le_refl _))
    have ID_12 := hide ((unhide ID_11).below x12 (Nat.le_refl _))
    clear HC12 HX11 x12 I5_11 I6_11 IA_11 IB_11 IC_11 ID_11 HS2
    have HC13 := hide (unhide HS3 w12 (unhide HX12) aB cB aD cD (unhide IB_12) (unhide ID_12))
    go_wp2_with fail
    refine (unhide HC13).mono ?_
    rintro y w13 ⟨rfl, x13⟩
    dsimp only
    have HX13 := hide ((unhide HX12).trans (x13.mono (unhide HX12).size))
    have I5_13 := hide ((unhide I5_12).below x13 (Nat.le_refl _))
    have I6_13 := hide ((unhide I6_12).below x13 (Nat.le_refl _))
    have IA_13 := hide ((unhide IA_12).below x13 (Nat.le_refl _))
    have IB_13 := hide ((unhide IB_12).below x13 (Nat.le_refl _))
    have IC_13 := hide ((unhide IC_12).below x13 (Nat.le_refl _))
    have ID_13 := hide ((unhide ID_12).below x13 (Nat.le_refl _))
    clear HC13 HX12 x13 I5_12 I6_12 IA_12 IB_12 IC_12 ID_12 HS3
    go_wp2_with fail
    refine bodyPost_ret (results_tmp rfl _ _ _) rfl ⟨rfl, unhide HX13⟩

end Go.Proofs.Ytkmbkoajbmlgaaa
end

section
namespace Go.Proofs.Ytkmbkoajbmlgaaa
open Go.ChangeShapes Go.WideShapes Go.ChangeAt Go.RowKit
attribute [local go_sem] Oper.semAt_some

/-- a list of lists in a row of one's own lies there -/
theorem ch_isDx {w X : World} {v1 v8 : Value} {b : List Dop} {L : List (List Dop)} (h : ChM w X v1 v8 b L) (ht : ∀ d ∈ L, ∀ o ∈ d, o.t.length ≤ 140737488355328) : ∃ A0 c ds, v8 = .slice A0 L.length c ∧ ds.map (·.d) = L ∧ IsDx X X A0 ds := by
  by_cases hne : L = []
  · obtain ⟨vs, h1, _⟩ := h.l
    obtain ⟨a, c, e, _⟩ := rowD_form h1
    exact ⟨a, c, [], e, by rw [hne]; rfl, ⟨fun i hi => by simp at hi, fun i hi => by simp at hi⟩⟩
  · obtain ⟨G, c, ds, e1, e2, e3⟩ := ch_isDs h hne ht
    exact ⟨_, c, ds, e1, e2, ⟨fun i hi => ⟨G, 0, rfl, e3.g, by rw [Nat.zero_add]; exact e3.c i hi⟩, e3.o⟩⟩
set_option maxRecDepth 100000 in
set_option maxHeartbeats 4000000 in
theorem RSameAllX_at (A0 A1 : Option Addr) (cc cc' : Nat) (ds ds' : List Dl) (w X : World) (h : IsDx w X A0 ds) (h' : IsDx w X A1 ds') (hd : Below w.heap.size w X) (he : ds.map (·.d) = ds'.map (·.d)) (hl : ds.length ≤ 4611686018427387904) (hb : ∀ x ∈ ds, x.d.length ≤ 4611686018427387904 ∧ ∀ o ∈ x.d, TbD o) :
    Calls Try.prog 39 #[.slice A0 ds.length cc, .slice A1 ds'.length cc'] X fun y X' => y = .returned (.bool true) ∧ Below X.heap.size X X' := by
  have hlen : ds.length = ds'.length := by have := congrArg List.length he; simpa using this
  have HH := hide fun (Y : World) (hY : Below X.heap.size X Y) => h.on hY
  have HH' := hide fun (Y : World) (hY : Below X.heap.size X Y) => h'.on hY
  have HW := hide fun (Y : World) (hY : Below X.heap.size X Y) => hd.trans (hY.mono hd.size)
  have HE : Hid (∀ k, k < ds.length → (ds'.getD k dlZ).d = (ds.getD k dlZ).d) := hide fun k hk => by
    have h1 := congrArg (fun l => l[k]?) he
    simp [List.getElem?_eq_getElem hk, List.getElem?_eq_getElem (show k < ds'.length by omega)] at h1
    simp [List.getD, List.getElem?_eq_getElem hk, List.getElem?_eq_getElem (show k < ds'.length by omega), h1]
  have HB := hide hb
  rw [← hlen]
  have HLN := hide hlen
  clear h h' hd he hb hlen
  go_enter Try.func39, Try.ntmps39
  go_wp2_with fail
  go_loopw [5] (fun v5 wx => ∃ k : Nat, v5 = .int .i64 (k : Int) ∧ k ≤ ds.length ∧ Hid (Below X.heap.size X wx)) (fun v5 _ => ds.length - (intOf v5).toNat)
  case atStart => exact ⟨0, rfl, Nat.zero_le _, hide (Below.refl _ _)⟩
  case round =>
    obtain ⟨k, rfl, hk, HI⟩ := hrel
    by_cases hlt : k < ds.length
    · have s1 : decide ((k : Int) < (ds.length : Int)) = true := decide_eq_true (by omega)
      have s1' : (k : Int) < (ds.length : Int) := by omega
      have hlt' : k < ds'.length := by rw [← unhide HLN]; exact hlt
      obtain ⟨G, O, hA0, _, _⟩ := (unhide HH wr (unhide HI)).c k hlt
      obtain ⟨G', O', hA1, _, _⟩ := (unhide HH' wr (unhide HI)).c k hlt'
      have HSQ : Hid (∀ (Y : World), Below X.heap.size X Y → Y.cell? ⟨G, O + k, none⟩ = some (.slice (ds.getD k dlZ).a (ds.getD k dlZ).d.length (ds.getD k dlZ).c) ∧ Y.cell? ⟨G', O' + k, none⟩ = some (.slice (ds'.getD k dlZ).a (ds'.getD k dlZ).d.length (ds'.getD k dlZ).c)) := hide fun Y hY => by
        obtain ⟨_, _, e1, _, q1⟩ := (unhide HH Y hY).c k hlt
        obtain ⟨_, _, e2, _, q2⟩ := (unhide HH' Y hY).c k hlt'
        rw [hA0] at e1
        rw [hA1] at e2
        cases e1
        cases e2
        exact ⟨q1, q2⟩
      have hBD := (unhide HI).drew
      have hO := ((unhide HH wr.drew hBD).o k hlt).1.below (unhide HW wr.drew hBD) (Nat.le_refl _)
      have hO' := ((unhide HH' wr.drew hBD).o k hlt').1.below (unhide HW wr.drew hBD) (Nat.le_refl _)
      have hdd := unhide HE k hlt
      obtain ⟨b1, b2⟩ := unhide HB _ (mem_dl hlt)
      rw [hdd] at hO' HSQ
      have HC1 := hide (RSame14_at (ds.getD k dlZ).a (ds.getD k dlZ).c (ds.getD k dlZ).d (ds'.getD k dlZ).a (ds'.getD k dlZ).c (ds.getD k dlZ).d wr.drew hO hO' b1 b1 b2 b2)
      simp only [decide_true] at HC1
      have HS0 := hide (unhide HSQ wr.drew hBD)
      have HBD := hide hBD
      clear hO hO' hdd b1 b2 hlt' hBD HI hk
      subst hA0 hA1
      generalize ds.getD k dlZ = x at *
      generalize ds'.getD k dlZ = y at *
      obtain ⟨xa, xc, d⟩ := x
      obtain ⟨ya, yc, d2⟩ := y
      dsimp only at HSQ HC1 HS0
      go_upto_region 6 with fail
      refine regionL (S := fun w' => w'.cell? ⟨G, O + k, none⟩ = some (.slice xa d.length xc) ∧ w'.cell? ⟨G', O' + k, none⟩ = some (.slice ya d.length yc)) (fun _ => false) (by kernel_rfl) ?_
      refine anyL_take (i := 0) (v := ?vrz0) rfl (by kernel_rfl) (by kernel_rfl) (by kernel_rfl) (by kernel_rfl) (fun _ _ _ h => h) (Or.inl ⟨by rfl, ?hrz0⟩) (unhide HS0) ?_
      case hrz0 => (intro w hSw; (try dsimp only at hSw); go_simp) <;> with_reducible rfl
      simp only [Act.put, List.getElem_toArray, List.getElem_cons_zero, List.setIfInBounds_toArray, List.set_cons_zero, List.set_cons_succ]
      refine anyL_take (i := 1) (v := ?vrz1) rfl (by kernel_rfl) (by kernel_rfl) (by kernel_rfl) (by kernel_rfl) (fun _ _ _ h => h) (Or.inl ⟨by rfl, ?hrz1⟩) (unhide HS0) ?_
      case hrz1 => (intro w hSw; (try dsimp only at hSw); go_simp) <;> with_reducible rfl
      simp only [Act.put, List.getElem_toArray, List.getElem_cons_zero, List.getElem_cons_succ, List.setIfInBounds_toArray, List.set_cons_zero, List.set_cons_succ]
      refine anyL_take (i := 2) (v := ?vrz2) rfl (by kernel_rfl) (by kernel_rfl) (by kernel_rfl) (by kernel_rfl) (fun _ _ _ h => h) (Or.inl ⟨by rfl, ?hrz2⟩) (unhide HS0) ?_
      case hrz2 => (intro w hSw; (try dsimp only at hSw); go_simp) <;> with_reducible rfl
      simp only [Act.put, List.getElem_toArray, List.getElem_cons_zero, List.getElem_cons_succ, List.setIfInBounds_toArray, List.set_cons_zero, List.set_cons_succ]
      refine anyL_take (i := 3) (v := ?vrz3) rfl (by kernel_rfl) (by kernel_rfl) (by kernel_rfl) (by kernel_rfl) (fun _ _ _ h => h) (Or.inl ⟨by rfl, ?hrz3⟩) (unhide HS0) ?_
      case hrz3 => (intro w hSw; (try dsimp only at hSw); go_simp) <;> with_reducible rfl
      simp only [Act.put, List.getElem_toArray, List.getElem_cons_zero, List.getElem_cons_succ, List.setIfInBounds_toArray, List.set_cons_zero, List.set_cons_succ]
      refine anyL_take (i := 4) (v := ?vrz4) rfl (by kernel_rfl) (by kernel_rfl) (by kernel_rfl) (by kernel_rfl) (fun _ _ _ h => h) (Or.inl ⟨by rfl, ?hrz4⟩) (unhide HS0) ?_
      case hrz4 => (intro w hSw; (try dsimp only at hSw); go_simp) <;> with_reducible rfl
      simp only [Act.put, List.getElem_toArray, List.getElem_cons_zero, List.getElem_cons_succ, List.setIfInBounds_toArray, List.set_cons_zero, List.set_cons_succ]
      refine anyL_take (i := 5) (v := ?vrz5) rfl (by kernel_rfl) (by kernel_rfl) (by kernel_rfl) (by kernel_rfl) (fun _ _ _ h => h) (Or.inl ⟨by rfl, ?hrz5⟩) (unhide HS0) ?_
      case hrz5 => (intro w hSw; (try dsimp only at hSw); go_simp) <;> with_reducible rfl
      simp only [Act.put, List.getElem_toArray, List.getElem_cons_zero, List.getElem_cons_succ, List.setIfInBounds_toArray, List.set_cons_zero, List.set_cons_succ]
      refine anyL_take (i := 6) (v := ?vrz6) rfl (by kernel_rfl) (by kernel_rfl) (by kernel_rfl) (by kernel_rfl) (fun _ _ _ h => h) (Or.inl ⟨by rfl, ?hrz6⟩) (unhide HS0) ?_
      case hrz6 => (intro w hSw; (try dsimp only at hSw); go_simp) <;> with_reducible rfl
      simp only [Act.put, List.getElem_toArray, List.getElem_cons_zero, List.getElem_cons_succ, List.setIfInBounds_toArray, List.set_cons_zero, List.set_cons_succ]
      refine anyL_take (i := 7) (v := ?vrz7) rfl (by kernel_rfl) (by kernel_rfl) (by kernel_rfl) (by kernel_rfl) (fun _ _ _ h => h) (Or.inl ⟨by rfl, ?hrz7⟩) (unhide HS0) ?_
      case hrz7 => (intro w hSw; (try dsimp only at hSw); go_simp) <;> with_reducible rfl
      simp only [Act.put, List.getElem_toArray, List.getElem_cons_zero, List.getElem_cons_succ, List.setIfInBounds_toArray, List.set_cons_zero, List.set_cons_succ]
      refine anyL_ready (rs := [8]) (by kernel_rfl) (by simp) ?_
      refine AllL.cons rfl (fun K hK => ?_) AllL.nil
      go_simp
      refine (unhide HC1).mono ?_
      rintro yy v1 ⟨rfl, x1⟩
      have HI1 := hide ((unhide HBD).trans (x1.mono (unhide HBD).size))
      have HS1 := hide (unhide HSQ v1 (unhide HI1))
      clear HC1 x1
      refine unhide hK _ _ (fun _ => unhide HS1) ?_
      clear hK K
      refine anyL_take (i := 9) (v := ?vrz8) rfl (by kernel_rfl) (by kernel_rfl) (by kernel_rfl) (by kernel_rfl) (fun _ _ _ h => h) (Or.inl ⟨by rfl, ?hrz8⟩) (unhide HS1) ?_
      case hrz8 => (intro w hSw; (try dsimp only at hSw); go_simp) <;> with_reducible rfl
      simp only [Act.put, List.getElem_toArray, List.getElem_cons_zero, List.getElem_cons_succ, List.setIfInBounds_toArray, List.set_cons_zero, List.set_cons_succ]
      refine anyL_done (by kernel_rfl) ?_ _
      clear HS0 HSQ HBD
      go_wp2_with fail
      go_roundw
      case rel => exact ⟨k + 1, by go_num, hlt, HI1⟩
      case measure => simp [intOf]; omega
    · obtain rfl : k = ds.length := by omega
      have s1 : decide ((ds.length : Int) < (ds.length : Int)) = false := by simp
      clear hk hlt
      go_wp2_with fail
      refine bodyPost_ret (results_tmp rfl _ _ _) rfl ⟨rfl, unhide HI⟩


end Go.Proofs.Ytkmbkoajbmlgaaa
end
