/- Layer 14: the document's Over, Both and Lens, and great (written by wip/tools/sgu.py). · Layer 14: ShiftMeets' walk (written by wip/tools/sfu.py). · Layer 14: ShiftOver's walk (written by wip/tools/sgv.py). · Layer 14: the document's SameAll for lists that lie anywhere (written by wip/tools/sgw.py). -/
import Derived.Test.YtjjdgfjlpkhgcaaMg35
import Derived.Test.YtjjdgfjlpkhgcaaMg29
import Derived.Test.YtjjdgfjlpkhgcaaMg27
import Derived.Test.YtjjdgfjlpkhgcaaMg33

section
namespace Go.Proofs.Ytjjdgfjlpkhgcaa
open Go.ChangeShapes Go.WideShapes Go.ChangeAt Go.RowKit
attribute [local go_sem] Oper.semAt_some

set_option maxRecDepth 100000 in
set_option maxHeartbeats 4000000 in
theorem ROver14_at (a : Option Addr) (c : Nat) (d : List Dop) (a' : Option Addr) (c' : Nat) (e : List Dop) (f : Bool) (w : World) (h : IsO w a d) (h' : IsO w a' e) (ht : txD d ≤ 1099511627776) (ht' : txD e ≤ 1099511627776) (hl : d.length ≤ 4611686018427387904) (hl' : e.length ≤ 4611686018427387904) :
    Calls Try.prog 82 #[.slice a d.length c, .slice a' e.length c', .bool f] w fun y w' => ∃ v, y = .returned (.tuple #[v, .int .i64 (ovE d e f)]) ∧ w'.ownsRow w.heap.size 34 3 v (ovD d e f).length (opsV (ovD d e f)) ∧ Below w.heap.size w w' := by
  have HVA := hide (RValid14_at a c d w h hl ht)
  have HVB := hide fun (X : World) (hX : Below w.heap.size w X) => RValid14_at a' c' e X (h'.below hX (Nat.le_refl _)) hl' ht'
  cases hv : valB d with
  | false =>
    have hE : ovE d e f = 130 := by unfold ovE; rw [hv]; rfl
    have hD : ovD d e f = [] := by unfold ovD; rw [hE]; rfl
    rw [hE, hD]
    rw [hv] at HVA
    clear h h' hE hD hv HVB
    go_enter Try.func82, Try.ntmps82
    go_wp2_with fail
    refine (unhide HVA).mono ?_
    rintro y w1 ⟨rfl, x1⟩
    dsimp only
    clear HVA
    go_wp2_with fail
    refine bodyPost_ret (results_tmp2 rfl _ _ _) rfl ⟨.slice none 0 0, rfl, ⟨rfl, .inl ⟨rfl, rfl⟩⟩, x1⟩
  | true =>
    cases hv' : valB e with
    | false =>
      have hE : ovE d e f = 130 := by unfold ovE; rw [hv, hv']; rfl
      have hD : ovD d e f = [] := by unfold ovD; rw [hE]; rfl
      rw [hE, hD]
      rw [hv] at HVA
      rw [hv'] at HVB
      clear h h' hE hD hv hv'
      go_enter Try.func82, Try.ntmps82
      go_wp2_with fail
      refine (unhide HVA).mono ?_
      rintro y w1 ⟨rfl, x1⟩
      dsimp only
      have HC := hide (unhide HVB w1 x1)
      have HX := hide x1
      clear HVA HVB x1
      go_wp2_with fail
      refine (unhide HC).mono ?_
      rintro y w2 ⟨rfl, x2⟩
      dsimp only
      have HX2 := hide ((unhide HX).trans (x2.mono (unhide HX).size))
      clear HC HX x2
      go_wp2_with fail
      refine bodyPost_ret (results_tmp2 rfl _ _ _) rfl ⟨.slice none 0 0, rfl, ⟨rfl, .inl ⟨rfl, rfl⟩⟩, unhide HX2⟩
    | true =>
      by_cases hf : frD d = frD e
      · exact ROver_main a c d a' c' e f w h h' hl hl' hv hv' hf
      · have hE : ovE d e f = 131 := by unfold ovE; rw [hv, hv', if_neg hf]; rfl
        have hD : ovD d e f = [] := by unfold ovD; rw [hE]; rfl
        have hnn := (valB_nn hv).2
        have hnn' := (valB_nn hv').2
        have HLA := hide fun (X : World) (hX : Below w.heap.size w X) => lens14_at a c d X (h.below hX (Nat.le_refl _)) hl (val_PlO hv) (by omega) (by omega)
        have HLB := hide fun (X : World) (hX : Below w.heap.size w X) => lens14_at a' c' e X (h'.below hX (Nat.le_refl _)) hl' (val_PlO hv') (by omega) (by omega)
        rw [hE, hD]
        rw [hv] at HVA
        rw [hv'] at HVB
        clear h h' hE hD hv hv' hnn hnn'
        generalize frD d = fd at *
        generalize frD e = fe at *
        generalize toD d = td at *
        generalize toD e = te at *
        have t1 : ((fd : Int) != (fe : Int)) = true := by simp; omega
        clear hf
        go_enter Try.func82, Try.ntmps82
        go_wp2_with fail
        refine (unhide HVA).mono ?_
        rintro y w1 ⟨rfl, x1⟩
        dsimp only
        have HX1 := hide x1
        have HC1 := hide (unhide HVB w1 x1)
        clear HVA HVB x1
        go_wp2_with fail
        refine (unhide HC1).mono ?_
        rintro y w2 ⟨rfl, x2⟩
        dsimp only
        have HX2 := hide ((unhide HX1).trans (x2.mono (unhide HX1).size))
        have HC2 := hide (unhide HLA w2 (unhide HX2))
        clear HC1 HX1 x2 HLA
        go_wp2_with fail
        refine (unhide HC2).mono ?_
        rintro y w3 ⟨rfl, x3⟩
        dsimp only
        have HX3 := hide ((unhide HX2).trans (x3.mono (unhide HX2).size))
        have HC3 := hide (unhide HLB w3 (unhide HX3))
        clear HC2 HX2 x3 HLB
        go_wp2_with fail
        refine (unhide HC3).mono ?_
        rintro y w4 ⟨rfl, x4⟩
        dsimp only
        have HX4 := hide ((unhide HX3).trans (x4.mono (unhide HX3).size))
        clear HC3 HX3 x4
        go_wp2_with fail
        refine bodyPost_ret (results_tmp2 rfl _ _ _) rfl ⟨.slice none 0 0, rfl, ⟨rfl, .inl ⟨rfl, rfl⟩⟩, unhide HX4⟩
theorem ROverO_at (a : Option Addr) (c : Nat) (d : List Dop) (a' : Option Addr) (c' : Nat) (e : List Dop) (f : Bool) (w : World) (h : IsO w a d) (h' : IsO w a' e) (ht : txD d ≤ 1099511627776) (ht' : txD e ≤ 1099511627776) (hl : d.length ≤ 4611686018427387904) (hl' : e.length ≤ 4611686018427387904) :
    Calls Try.prog 82 #[.slice a d.length c, .slice a' e.length c', .bool f] w fun y w' => ∃ a2 c2, y = .returned (.tuple #[.slice a2 (ovD d e f).length c2, .int .i64 (ovE d e f)]) ∧ (IsO w' a2 (ovD d e f) ∧ (ovD d e f).length ≤ c2) ∧ Below w.heap.size w w' :=
  (ROver14_at a c d a' c' e f w h h' ht ht' hl hl').mono fun y w' ⟨v, e, ho, x⟩ => by
    obtain ⟨a2, c2, rfl, h1, h2⟩ := own_isO ho
    exact ⟨a2, c2, e, ⟨h1, h2⟩, x⟩
set_option maxRecDepth 100000 in
set_option maxHeartbeats 4000000 in
theorem RBoth14_at (a : Option Addr) (c : Nat) (d : List Dop) (a' : Option Addr) (c' : Nat) (e : List Dop) (w : World) (h : IsO w a d) (h' : IsO w a' e) (ht : txD d ≤ 1099511627776) (ht' : txD e ≤ 1099511627776) (hl : d.length ≤ 4611686018427387904) (hl' : e.length ≤ 4611686018427387904) :
    Calls Try.prog 71 #[.slice a d.length c, .slice a' e.length c'] w fun y w' => ∃ a2 c2 a3 c3, y = .returned (.tuple #[.slice a2 (boA d e).length c2, .slice a3 (boB d e).length c3, .int .i64 (boE d e)]) ∧ (IsO w' a2 (boA d e) ∧ (boA d e).length ≤ c2) ∧ (IsO w' a3 (boB d e) ∧ (boB d e).length ≤ c3) ∧ Below w.heap.size w w' := by
  have H1 := hide (ROverO_at a' c' e a c d true w h' h ht' ht hl' hl)
  have H2 := hide fun (X : World) (hX : Below w.heap.size w X) => ROverO_at a c d a' c' e false X (h.below hX (Nat.le_refl _)) (h'.below hX (Nat.le_refl _)) ht ht' hl hl'
  obtain ⟨E1, hE1⟩ : ∃ E1, E1 = ovE e d true := ⟨_, rfl⟩
  obtain ⟨E2, hE2⟩ : ∃ E2, E2 = ovE d e false := ⟨_, rfl⟩
  obtain ⟨L1, hL1⟩ : ∃ L1, L1 = ovD e d true := ⟨_, rfl⟩
  obtain ⟨L2, hL2⟩ : ∃ L2, L2 = ovD d e false := ⟨_, rfl⟩
  have hbE : boE d e = if E1 = 0 then E2 else E1 := by unfold boE; rw [hE1, hE2]
  have hbA : boA d e = if (if E1 = 0 then E2 else E1) = 0 then L1 else [] := by unfold boA; rw [hbE, hL1]
  have hbB : boB d e = if (if E1 = 0 then E2 else E1) = 0 then L2 else [] := by unfold boB; rw [hbE, hL2]
  rw [hbE, hbA, hbB]
  rw [← hE1, ← hL1] at H1
  rw [← hE2, ← hL2] at H2
  clear h h' ht ht' hl hl' hE1 hE2 hL1 hL2 hbE hbA hbB
  by_cases e1 : E1 = 0
  · subst e1
    simp only [if_true]
    by_cases e2 : E2 = 0
    · subst e2
      simp only [if_true]
      go_enter Try.func71, Try.ntmps71
      go_wp2_with fail
      refine (unhide H1).mono ?_
      rintro y w1 ⟨a2, c2, rfl, i2, x1⟩
      dsimp only
      have HX1 := hide x1
      have HI := hide i2
      have HC := hide (unhide H2 w1 x1)
      clear H1 H2 i2 x1
      go_wp2_with fail
      refine (unhide HC).mono ?_
      rintro y w2 ⟨a3, c3, rfl, i3, x2⟩
      dsimp only
      have HI2 := hide (And.intro (And.intro ((unhide HI).1.below x2 (Nat.le_refl _)) (unhide HI).2) i3)
      have HX2 := hide ((unhide HX1).trans (x2.mono (unhide HX1).size))
      clear HC HI HX1 i3 x2
      go_wp2_with fail
      refine bodyPost_ret (results_tmp3 rfl _ _) rfl ⟨_, _, _, _, rfl, (unhide HI2).1, (unhide HI2).2, unhide HX2⟩
    · have t2 : (E2 != 0) = true := by simpa using e2
      have t2' : (E2 == 0) = false := by simpa using e2
      rw [if_neg e2, if_neg e2]
      go_enter Try.func71, Try.ntmps71
      go_wp2_with fail
      refine (unhide H1).mono ?_
      rintro y w1 ⟨a2, c2, rfl, _, x1⟩
      dsimp only
      have HX1 := hide x1
      have HC := hide (unhide H2 w1 x1)
      clear H1 H2 x1
      go_wp2_with fail
      refine (unhide HC).mono ?_
      rintro y w2 ⟨a3, c3, rfl, _, x2⟩
      dsimp only
      have HX2 := hide ((unhide HX1).trans (x2.mono (unhide HX1).size))
      clear HC HX1 x2 e2
      go_wp2_with fail
      refine bodyPost_ret (results_tmp3 rfl _ _) rfl ⟨none, 0, none, 0, rfl, ⟨.inl rfl, by simp⟩, ⟨.inl rfl, by simp⟩, unhide HX2⟩
  · have t1 : (E1 != 0) = true := by simpa using e1
    have t1' : (E1 == 0) = false := by simpa using e1
    rw [if_neg e1, if_neg e1, if_neg e1]
    go_enter Try.func71, Try.ntmps71
    go_wp2_with fail
    refine (unhide H1).mono ?_
    rintro y w1 ⟨a2, c2, rfl, _, x1⟩
    dsimp only
    have HX1 := hide x1
    clear H1 H2 x1 e1
    go_wp2_with fail
    refine bodyPost_ret (results_tmp3 rfl _ _) rfl ⟨none, 0, none, 0, rfl, ⟨.inl rfl, by simp⟩, ⟨.inl rfl, by simp⟩, unhide HX1⟩
set_option maxRecDepth 100000 in
set_option maxHeartbeats 1000000 in
theorem RLens14_at (a : Option Addr) (c : Nat) (d : List Dop) (w : World) (h : IsO w a d) (hl : d.length ≤ 4611686018427387904) (hv : valB d = true) :
    Calls Try.prog 66 #[.slice a d.length c] w fun y w' => y = .returned (.tuple #[.int .i64 (frD d : Int), .int .i64 (toD d : Int)]) ∧ Below w.heap.size w w' := by
  have hnn := (valB_nn hv).2
  have HL := hide (lens14_at a c d w h hl (val_PlO hv) (by omega) (by omega))
  clear h hl hv hnn
  go_enter Try.func66, Try.ntmps66
  go_wp2_with fail
  refine (unhide HL).mono ?_
  rintro y w1 ⟨rfl, x1⟩
  dsimp only
  clear HL
  go_wp2_with fail
  refine bodyPost_ret (results_tmp2 rfl _ _ _) rfl ⟨rfl, x1⟩
/-- does one speak of more than a few thousand bytes? -/
def gr1 (x : Dl) : Bool := valB x.d && decide (5000 < frD x.d)
def grB (ds : List Dl) : Bool := ds.any gr1
theorem gr_take {ds : List Dl} {k : Nat} (hk : k < ds.length) : grB (ds.take (k + 1)) = (grB (ds.take k) || gr1 (ds.getD k dlZ)) := by
  unfold grB
  rw [List.take_add_one, List.getElem?_eq_getElem hk, Option.toList_some, List.any_append]
  simp [List.getD, List.getElem?_eq_getElem hk]
theorem gr_yes {ds : List Dl} {k : Nat} (hk : k < ds.length) (h : gr1 (ds.getD k dlZ) = true) : grB ds = true := List.any_eq_true.2 ⟨_, mem_dl hk, h⟩
theorem t5000 (n : Nat) : (5000 < n ∧ decide ((n : Int) > 5000) = true ∧ decide ((5000 : Int) < (n : Int)) = true ∧ decide (5000 < n) = true) ∨ (¬ 5000 < n ∧ decide ((n : Int) > 5000) = false ∧ decide ((5000 : Int) < (n : Int)) = false ∧ decide (5000 < n) = false) := by
  by_cases h : 5000 < n
  · exact .inl ⟨h, decide_eq_true (by omega), decide_eq_true (by omega), decide_eq_true h⟩
  · exact .inr ⟨h, decide_eq_false (by omega), decide_eq_false (by omega), decide_eq_false h⟩
theorem gr_ms {k n : Nat} (h : k < n) (hw : wrap64 ((k : Int) + 1) = ((k + 1 : Nat) : Int)) : n - (intOf (.int .i64 (wrap64 ((k : Int) + 1)))).toNat < n - (intOf (.int .i64 (k : Int))).toNat := by
  rw [hw]
  show n - (((k + 1 : Nat) : Int)).toNat < n - ((k : Int)).toNat
  rw [Int.toNat_natCast, Int.toNat_natCast]
  omega
theorem gr_ms3 {k n : Nat} (h : k < n) : n - (intOf (.int .i64 ((k : Int) + 1))).toNat < n - (intOf (.int .i64 (k : Int))).toNat := by
  show n - ((k : Int) + 1).toNat < n - ((k : Int)).toNat
  omega
theorem gr_w {k n : Nat} (h : k < n) (hn : n ≤ 4611686018427387904) : wrap64 ((k : Int) + 1) = ((k + 1 : Nat) : Int) := by rw [wrapD _ (by omega) (by omega)]; omega
set_option maxRecDepth 100000 in
set_option maxHeartbeats 4000000 in
theorem great14_at (A0 : Option Addr) (cc : Nat) (ds : List Dl) (w X : World) (h : IsDx w X A0 ds) (hd : Below w.heap.size w X) (hl : ds.length ≤ 4611686018427387904) (hds : ∀ x ∈ ds, x.d.length ≤ 4611686018427387904 ∧ txD x.d ≤ 1099511627776) :
    Calls Try.prog 25 #[.slice A0 ds.length cc] X fun y X' => y = .returned (.bool (grB ds)) ∧ Below X.heap.size X X' := by
  have HH := hide fun (Y : World) (hY : Below X.heap.size X Y) => h.on hY
  have HW := hide fun (Y : World) (hY : Below X.heap.size X Y) => hd.trans (hY.mono hd.size)
  have HDS := hide hds
  obtain ⟨V, hV⟩ : ∃ V, V = grB ds := ⟨_, rfl⟩
  rw [← hV]
  have HV := hide hV
  clear h hd hds hV
  go_enter Try.func25, Try.ntmps25
  go_wp2_with fail
  go_loopw [4, 5, 6, 9] (fun v4 v5 v6 v9 wx => ((∃ z, v4 = z) ∧ (∃ z, v5 = z) ∧ (∃ z, v6 = z)) ∧ ∃ k : Nat, v9 = .int .i64 (k : Int) ∧ k ≤ ds.length ∧ Hid (grB (ds.take k) = false ∧ Below X.heap.size X wx)) (fun _ _ _ v9 _ => ds.length - (intOf v9).toNat)
  case atStart => exact ⟨⟨⟨_, rfl⟩, ⟨_, rfl⟩, ⟨_, rfl⟩⟩, ⟨0, rfl, Nat.zero_le _, hide ⟨rfl, Below.refl _ _⟩⟩⟩
  case round =>
    obtain ⟨⟨⟨z1, rfl⟩, ⟨z2, rfl⟩, ⟨z3, rfl⟩⟩, ⟨k, rfl, hk, HI⟩⟩ := hrel
    by_cases hlt : k < ds.length
    · obtain ⟨s1, s2, s3⟩ := dlt hlt
      have hS := unhide HH wr (unhide HI).2
      obtain ⟨gA, oA, hA0, _, q0⟩ := hS.c k hlt
      subst hA0
      have hO := (hS.o k hlt).1
      obtain ⟨hlen, htx⟩ := unhide HDS _ (mem_dl hlt)
      have HY := hide (gr_yes hlt)
      have HT := hide (gr_take hlt)
      have Wk := gr_w hlt hl
      have HLT := hide hlt
      have HVA := hide (RValid14_at (ds.getD k dlZ).a (ds.getD k dlZ).c (ds.getD k dlZ).d wr (hO.below (unhide HW wr (unhide HI).2) (Nat.le_refl _)) hlen htx)
      have HLN := hide fun (Y : World) (hY : Below X.heap.size X Y) (hv : valB (ds.getD k dlZ).d = true) => RLens14_at (ds.getD k dlZ).a (ds.getD k dlZ).c (ds.getD k dlZ).d Y (hO.below (unhide HW Y hY) (Nat.le_refl _)) hlen hv
      clear hS hO hlen htx hk
      unfold gr1 at HY HT
      generalize ds.getD k dlZ = q at *
      obtain ⟨qa, qc, qd⟩ := q
      dsimp only at *
      cases hv : valB qd with
      | false =>
        rw [hv] at HVA HT
        have HN : Hid (grB (ds.take (k + 1)) = false) := hide (by rw [unhide HT, (unhide HI).1]; rfl)
        have HB := hide (unhide HI).2
        clear HT HY HLN hv HI
        go_wp2_with fail
        refine (unhide HVA).mono ?_
        rintro y w1 ⟨rfl, x1⟩
        dsimp only
        have HB2 := hide ((unhide HB).trans (x1.mono (unhide HB).size))
        clear HVA HB x1
        go_wp2_with fail
        go_roundw
        case rel => exact ⟨⟨⟨_, rfl⟩, ⟨_, rfl⟩, ⟨_, rfl⟩⟩, ⟨k + 1, by first | rfl | exact congrArg _ Wk | go_num, hlt, hide ⟨unhide HN, unhide HB2⟩⟩⟩
        case measure => first | exact gr_ms3 hlt | exact gr_ms hlt Wk
      | true =>
        rw [hv] at HVA HT HY
        have HB := hide (unhide HI).2
        have HI1 := hide (unhide HI).1
        have HVV := hide hv
        clear hv HI
        go_wp2_with fail
        refine (unhide HVA).mono ?_
        rintro y w1 ⟨rfl, x1⟩
        dsimp only
        have HB2 := hide ((unhide HB).trans (x1.mono (unhide HB).size))
        have HC := hide (unhide HLN w1 (unhide HB2) (unhide HVV))
        clear HVA HB x1 HLN HVV
        go_wp2_with fail
        refine (unhide HC).mono ?_
        rintro y w2 ⟨rfl, x2⟩
        dsimp only
        have HB3 := hide ((unhide HB2).trans (x2.mono (unhide HB2).size))
        clear HC HB2 x2
        generalize frD qd = fr at *
        generalize toD qd = tq at *
        rcases t5000 fr with ⟨_, b1, b2, b3⟩ | ⟨_, b1, b2, b3⟩
        · have HV2 : Hid (V = true) := hide (by rw [unhide HV]; exact unhide HY (by rw [b3]; rfl))
          clear HT HY HI1
          go_wp2_with fail
          rw [unhide HV2]
          refine bodyPost_ret (results_tmp rfl _ _ _) rfl ⟨rfl, unhide HB3⟩
        · have HN : Hid (grB (ds.take (k + 1)) = false) := hide (by rw [unhide HT, unhide HI1, b3]; rfl)
          clear HT HY HI1
          go_wp2_with fail
          go_roundw
          case rel => exact ⟨⟨⟨_, rfl⟩, ⟨_, rfl⟩, ⟨_, rfl⟩⟩, ⟨k + 1, by first | rfl | exact congrArg _ Wk | go_num, hlt, hide ⟨unhide HN, unhide HB3⟩⟩⟩
          case measure => first | exact gr_ms3 hlt | exact gr_ms hlt Wk
    · obtain rfl : k = ds.length := Nat.le_antisymm hk (Nat.not_lt.1 hlt)
      obtain ⟨s1, s2, s3⟩ := dnl hlt
      have HV2 : Hid (V = false) := hide (by have := (unhide HI).1; rw [List.take_length] at this; rw [unhide HV]; exact this)
      have HB := hide (unhide HI).2
      clear HI hk hlt
      go_wp2_with fail
      rw [unhide HV2]
      refine bodyPost_ret (results_tmp rfl _ _ _) rfl ⟨rfl, unhide HB⟩

end Go.Proofs.Ytjjdgfjlpkhgcaa
end

section
namespace Go.Proofs.Ytjjdgfjlpkhgcaa
open Go.ChangeShapes Go.WideShapes Go.ChangeAt Go.RowKit
attribute [local go_sem] Oper.semAt_some

theorem passP_mem {g : List Atm → List Atm} {x : Int} (hg : ∀ b : List Atm, Atm.p x ∈ g b → Atm.p x ∈ b) : ∀ b : List Atm, Atm.p x ∈ passP g b → Atm.p x ∈ b
  | [], h => hg [] h
  | .k :: b, h => hg (.k :: b) h
  | .d :: b, h => hg (.d :: b) h
  | .p y :: b, h => by
    simp only [passP, List.mem_cons] at h ⊢
    rcases h with h | h
    · exact .inl h
    · exact .inr (passP_mem hg b h)
theorem ov_mem (f : Bool) {x : Int} : ∀ (a b : List Atm), Atm.p x ∈ ovA f a b → Atm.p x ∈ b
  | [], b, h => mem_puts h
  | .p y :: a, b, h => by
    have hg : ∀ b : List Atm, Atm.p x ∈ (.k :: ovA f a b) → Atm.p x ∈ b := fun b h => by
      simp only [List.mem_cons] at h
      rcases h with h | h
      · cases h
      · exact ov_mem f a b h
    unfold ovA at h
    cases f with
    | true => exact passP_mem hg b h
    | false => exact hg b h
  | .k :: a, b, h => by
    refine passP_mem (g := byK (ovA f a)) (fun b h => ?_) b h
    cases b with
    | nil => exact ov_mem f a [] h
    | cons z b => cases z with
      | k => simp [byK] at h; exact List.mem_cons_of_mem _ (ov_mem f a b h)
      | d => simp [byK] at h; exact List.mem_cons_of_mem _ (ov_mem f a b h)
      | p y => exact ov_mem f a (.p y :: b) h
  | .d :: a, b, h => by
    refine passP_mem (g := byD (ovA f a)) (fun b h => ?_) b h
    cases b with
    | nil => exact ov_mem f a [] h
    | cons z b => cases z with
      | k => simp [byD] at h; exact List.mem_cons_of_mem _ (ov_mem f a b h)
      | d => simp [byD] at h; exact List.mem_cons_of_mem _ (ov_mem f a b h)
      | p y => exact ov_mem f a (.p y :: b) h
theorem ovD_tb {d e : List Dop} {f : Bool} (he : ∀ o ∈ e, TbD o) : ∀ o ∈ ovD d e f, TbD o := by
  unfold ovD
  split
  · exact canA_tb fun z hz => dA_by he z (ov_mem f _ _ hz)
  · simp
end Go.Proofs.Ytjjdgfjlpkhgcaa
end

section
namespace Go.Proofs.Ytjjdgfjlpkhgcaa
open Go.ChangeShapes Go.WideShapes Go.ChangeAt Go.RowKit
theorem ovD_small (d e : List Dop) (f : Bool) : (ovD d e f).length ≤ 4611686018427387904 := by
  by_cases hE : ovE d e f = 0
  · exact (val_small (ov_ok hE).v).1
  · unfold ovD; rw [if_neg hE]; simp
theorem boA_small (d e : List Dop) : (boA d e).length ≤ 4611686018427387904 ∧ (boB d e).length ≤ 4611686018427387904 := by
  unfold boA boB
  split
  · exact ⟨ovD_small _ _ _, ovD_small _ _ _⟩
  · simp
theorem bo_tb {d e : List Dop} (hd : ∀ o ∈ d, TbD o) (he : ∀ o ∈ e, TbD o) : (∀ o ∈ boA d e, TbD o) ∧ (∀ o ∈ boB d e, TbD o) := by
  unfold boA boB
  split
  · exact ⟨ovD_tb hd, ovD_tb he⟩
  · simp
/-- great of two, as the law calls it -/
theorem great2_at (x y : Dl) (w X : World) (hx : IsO w x.a x.d) (hy : IsO w y.a y.d) (tx : ∀ o ∈ x.d, o.t.length ≤ 140737488355328) (ty : ∀ o ∈ y.d, o.t.length ≤ 140737488355328) (hd : Below w.heap.size w X) (lx : x.d.length ≤ 4611686018427387904 ∧ txD x.d ≤ 1099511627776) (ly : y.d.length ≤ 4611686018427387904 ∧ txD y.d ≤ 1099511627776) :
    Calls Try.prog 25 #[.slice (some ⟨X.heap.size, 0, none⟩) 2 2] (X.alloc (.cells #[.slice x.a x.d.length x.c, .slice y.a y.d.length y.c] 24)) fun z X' => z = .returned (.bool (grB [x, y])) ∧ Below X.heap.size X X' := by
  have kN := Cls.new X 24 #[.slice x.a x.d.length x.c, .slice y.a y.d.length y.c]
  have bA := (Below.refl X.heap.size X).alloc (Nat.le_refl _) (.cells #[.slice x.a x.d.length x.c, .slice y.a y.d.length y.c] 24)
  have hD : IsDx w (X.alloc (.cells #[.slice x.a x.d.length x.c, .slice y.a y.d.length y.c] 24)) (some ⟨X.heap.size, 0, none⟩) [x, y] := ⟨fun i hi => by
    match i with
    | 0 => exact ⟨_, 0, rfl, kN.lt, kN.cell 0⟩
    | 1 => exact ⟨_, 0, rfl, kN.lt, kN.cell 1⟩
    | i + 2 => simp at hi; omega, fun i hi => by
    match i with
    | 0 => exact ⟨hx, tx⟩
    | 1 => exact ⟨hy, ty⟩
    | i + 2 => simp at hi; omega⟩
  exact (great14_at _ 2 [x, y] w _ hD (hd.trans (bA.mono hd.size)) (by simp) (fun z hz => by
    simp only [List.mem_cons, List.not_mem_nil, or_false] at hz
    rcases hz with rfl | rfl
    · exact lx
    · exact ly)).mono fun z X' ⟨e, x⟩ => ⟨e, bA.trans (x.mono bA.size)⟩
theorem tx_of {d : List Dop} (hl : d.length ≤ 1048576) (ht : ∀ o ∈ d, TbD o ∧ o.t.length ≤ 1048576) : txD d ≤ 1099511627776 := by
  have h1 := txD_le (fun o ho => (ht o ho).2)
  have h2 := Nat.mul_le_mul_right 1048576 hl
  omega
end Go.Proofs.Ytjjdgfjlpkhgcaa
end

section
namespace Go.Proofs.Ytjjdgfjlpkhgcaa
open Go.ChangeShapes Go.WideShapes Go.ChangeAt Go.RowKit
attribute [local go_sem] Oper.semAt_some

/-- a list of lists in a row of one's own lies there -/
theorem ch_isDx {w X : World} {v1 v8 : Value} {b : List Dop} {L : List (List Dop)} (h : ChM w X v1 v8 b L) (ht : ∀ d ∈ L, ∀ o ∈ d, o.t.length ≤ 140737488355328) : ∃ A0 c ds, v8 = .slice A0 L.length c ∧ ds.map (·.d) = L ∧ IsDx X X A0 ds := by
  by_cases hne : L = []
  · obtain ⟨vs, h1, _⟩ := h.l
    obtain ⟨a, c, e, _⟩ := rowD_form h1
    exact ⟨a, c, [], e, by rw [hne]; rfl, ⟨fun i hi => by simp at hi, fun i hi => by simp at hi⟩⟩
  · obtain ⟨G, c, ds, e1, e2, e3⟩ := ch_isDs h hne ht
    exact ⟨_, c, ds, e1, e2, ⟨fun i hi => ⟨G, 0, rfl, e3.g, by rw [Nat.zero_add]; exact e3.c i hi⟩, e3.o⟩⟩
set_option maxRecDepth 100000 in
set_option maxHeartbeats 4000000 in
theorem RSameAllX_at (A0 A1 : Option Addr) (cc cc' : Nat) (ds ds' : List Dl) (w X : World) (h : IsDx w X A0 ds) (h' : IsDx w X A1 ds') (hd : Below w.heap.size w X) (he : ds.map (·.d) = ds'.map (·.d)) (hl : ds.length ≤ 4611686018427387904) (hb : ∀ x ∈ ds, x.d.length ≤ 4611686018427387904 ∧ ∀ o ∈ x.d, TbD o) :
    Calls Try.prog 33 #[.slice A0 ds.length cc, .slice A1 ds'.length cc'] X fun y X' => y = .returned (.bool true) ∧ Below X.heap.size X X' := by
  have hlen : ds.length = ds'.length := by have := congrArg List.length he; simpa using this
  have HH := hide fun (Y : World) (hY : Below X.heap.size X Y) => h.on hY
  have HH' := hide fun (Y : World) (hY : Below X.heap.size X Y) => h'.on hY
  have HW := hide fun (Y : World) (hY : Below X.heap.size X Y) => hd.trans (hY.mono hd.size)
  have HE : Hid (∀ k, k < ds.length → (ds'.getD k dlZ).d = (ds.getD k dlZ).d) := hide fun k hk => by
    have h1 := congrArg (fun l => l[k]?) he
    simp [List.getElem?_eq_getElem hk, List.getElem?_eq_getElem (show k < ds'.length by omega)] at h1
    simp [List.getD, List.getElem?_eq_getElem hk, List.getElem?_eq_getElem (show k < ds'.length by omega), h1]
  have HB := hide hb
  rw [← hlen]
  have HLN := hide hlen
  clear h h' hd he hb hlen
  go_enter Try.func33, Try.ntmps33
  go_wp2_with fail
  go_loopw [5] (fun v5 wx => ∃ k : Nat, v5 = .int .i64 (k : Int) ∧ k ≤ ds.length ∧ Hid (Below X.heap.size X wx)) (fun v5 _ => ds.length - (intOf v5).toNat)
  case atStart => exact ⟨0, rfl, Nat.zero_le _, hide (Below.refl _ _)⟩
  case round =>
    obtain ⟨k, rfl, hk, HI⟩ := hrel
    by_cases hlt : k < ds.length
    · have s1 : decide ((k : Int) < (ds.length : Int)) = true := decide_eq_true (by omega)
      have s1' : (k : Int) < (ds.length : Int) := by omega
      have hlt' : k < ds'.length := by rw [← unhide HLN]; exact hlt
      obtain ⟨G, O, hA0, _, _⟩ := (unhide HH wr (unhide HI)).c k hlt
      obtain ⟨G', O', hA1, _, _⟩ := (unhide HH' wr (unhide HI)).c k hlt'
      have HSQ : Hid (∀ (Y : World), Below X.heap.size X Y → Y.cell? ⟨G, O + k, none⟩ = some (.slice (ds.getD k dlZ).a (ds.getD k dlZ).d.length (ds.getD k dlZ).c) ∧ Y.cell? ⟨G', O' + k, none⟩ = some (.slice (ds'.getD k dlZ).a (ds'.getD k dlZ).d.length (ds'.getD k dlZ).c)) := hide fun Y hY => by
        obtain ⟨_, _, e1, _, q1⟩ := (unhide HH Y hY).c k hlt
        obtain ⟨_, _, e2, _, q2⟩ := (unhide HH' Y hY).c k hlt'
        rw [hA0] at e1
        rw [hA1] at e2
        cases e1
        cases e2
        exact ⟨q1, q2⟩
      have hBD := (unhide HI).drew
      have hO := ((unhide HH wr.drew hBD).o k hlt).1.below (unhide HW wr.drew hBD) (Nat.le_refl _)
      have hO' := ((unhide HH' wr.drew hBD).o k hlt').1.below (unhide HW wr.drew hBD) (Nat.le_refl _)
      have hdd := unhide HE k hlt
      obtain ⟨b1, b2⟩ := unhide HB _ (mem_dl hlt)
      rw [hdd] at hO' HSQ
      have HC1 := hide (RSame14_at (ds.getD k dlZ).a (ds.getD k dlZ).c (ds.getD k dlZ).d (ds'.getD k dlZ).a (ds'.getD k dlZ).c (ds.getD k dlZ).d wr.drew hO hO' b1 b1 b2 b2)
      simp only [decide_true] at HC1
      have HS0 := hide (unhide HSQ wr.drew hBD)
      have HBD := hide hBD
      clear hO hO' hdd b1 b2 hlt' hBD HI hk
      subst hA0 hA1
      generalize ds.getD k dlZ = x at *
      generalize ds'.getD k dlZ = y at *
      obtain ⟨xa, xc, d⟩ := x
      obtain ⟨ya, yc, d2⟩ := y
      dsimp only at HSQ HC1 HS0
      go_upto_region 6 with fail
      refine regionL (S := fun w' => w'.cell? ⟨G, O + k, none⟩ = some (.slice xa d.length xc) ∧ w'.cell? ⟨G', O' + k, none⟩ = some (.slice ya d.length yc)) (fun _ => false) (by kernel_rfl) ?_
      refine anyL_take (i := 0) (v := ?vrz0) rfl (by kernel_rfl) (by kernel_rfl) (by kernel_rfl) (by kernel_rfl) (fun _ _ _ h => h) (Or.inl ⟨by rfl, ?hrz0⟩) (unhide HS0) ?_
      case hrz0 => (intro w hSw; (try dsimp only at hSw); go_simp) <;> with_reducible rfl
      simp only [Act.put, List.getElem_toArray, List.getElem_cons_zero, List.setIfInBounds_toArray, List.set_cons_zero, List.set_cons_succ]
      refine anyL_take (i := 1) (v := ?vrz1) rfl (by kernel_rfl) (by kernel_rfl) (by kernel_rfl) (by kernel_rfl) (fun _ _ _ h => h) (Or.inl ⟨by rfl, ?hrz1⟩) (unhide HS0) ?_
      case hrz1 => (intro w hSw; (try dsimp only at hSw); go_simp) <;> with_reducible rfl
      simp only [Act.put, List.getElem_toArray, List.getElem_cons_zero, List.getElem_cons_succ, List.setIfInBounds_toArray, List.set_cons_zero, List.set_cons_succ]
      refine anyL_take (i := 2) (v := ?vrz2) rfl (by kernel_rfl) (by kernel_rfl) (by kernel_rfl) (by kernel_rfl) (fun _ _ _ h => h) (Or.inl ⟨by rfl, ?hrz2⟩) (unhide HS0) ?_
      case hrz2 => (intro w hSw; (try dsimp only at hSw); go_simp) <;> with_reducible rfl
      simp only [Act.put, List.getElem_toArray, List.getElem_cons_zero, List.getElem_cons_succ, List.setIfInBounds_toArray, List.set_cons_zero, List.set_cons_succ]
      refine anyL_take (i := 3) (v := ?vrz3) rfl (by kernel_rfl) (by kernel_rfl) (by kernel_rfl) (by kernel_rfl) (fun _ _ _ h => h) (Or.inl ⟨by rfl, ?hrz3⟩) (unhide HS0) ?_
      case hrz3 => (intro w hSw; (try dsimp only at hSw); go_simp) <;> with_reducible rfl
      simp only [Act.put, List.getElem_toArray, List.getElem_cons_zero, List.getElem_cons_succ, List.setIfInBounds_toArray, List.set_cons_zero, List.set_cons_succ]
      refine anyL_take (i := 4) (v := ?vrz4) rfl (by kernel_rfl) (by kernel_rfl) (by kernel_rfl) (by kernel_rfl) (fun _ _ _ h => h) (Or.inl ⟨by rfl, ?hrz4⟩) (unhide HS0) ?_
      case hrz4 => (intro w hSw; (try dsimp only at hSw); go_simp) <;> with_reducible rfl
      simp only [Act.put, List.getElem_toArray, List.getElem_cons_zero, List.getElem_cons_succ, List.setIfInBounds_toArray, List.set_cons_zero, List.set_cons_succ]
      refine anyL_take (i := 5) (v := ?vrz5) rfl (by kernel_rfl) (by kernel_rfl) (by kernel_rfl) (by kernel_rfl) (fun _ _ _ h => h) (Or.inl ⟨by rfl, ?hrz5⟩) (unhide HS0) ?_
      case hrz5 => (intro w hSw; (try dsimp only at hSw); go_simp) <;> with_reducible rfl
      simp only [Act.put, List.getElem_toArray, List.getElem_cons_zero, List.getElem_cons_succ, List.setIfInBounds_toArray, List.set_cons_zero, List.set_cons_succ]
      refine anyL_take (i := 6) (v := ?vrz6) rfl (by kernel_rfl) (by kernel_rfl) (by kernel_rfl) (by kernel_rfl) (fun _ _ _ h => h) (Or.inl ⟨by rfl, ?hrz6⟩) (unhide HS0) ?_
      case hrz6 => (intro w hSw; (try dsimp only at hSw); go_simp) <;> with_reducible rfl
      simp only [Act.put, List.getElem_toArray, List.getElem_cons_zero, List.getElem_cons_succ, List.setIfInBounds_toArray, List.set_cons_zero, List.set_cons_succ]
      refine anyL_take (i := 7) (v := ?vrz7) rfl (by kernel_rfl) (by kernel_rfl) (by kernel_rfl) (by kernel_rfl) (fun _ _ _ h => h) (Or.inl ⟨by rfl, ?hrz7⟩) (unhide HS0) ?_
      case hrz7 => (intro w hSw; (try dsimp only at hSw); go_simp) <;> with_reducible rfl
      simp only [Act.put, List.getElem_toArray, List.getElem_cons_zero, List.getElem_cons_succ, List.setIfInBounds_toArray, List.set_cons_zero, List.set_cons_succ]
      refine anyL_ready (rs := [8]) (by kernel_rfl) (by simp) ?_
      refine AllL.cons rfl (fun K hK => ?_) AllL.nil
      go_simp
      refine (unhide HC1).mono ?_
      rintro yy v1 ⟨rfl, x1⟩
      have HI1 := hide ((unhide HBD).trans (x1.mono (unhide HBD).size))
      have HS1 := hide (unhide HSQ v1 (unhide HI1))
      clear HC1 x1
      refine unhide hK _ _ (fun _ => unhide HS1) ?_
      clear hK K
      refine anyL_take (i := 9) (v := ?vrz8) rfl (by kernel_rfl) (by kernel_rfl) (by kernel_rfl) (by kernel_rfl) (fun _ _ _ h => h) (Or.inl ⟨by rfl, ?hrz8⟩) (unhide HS1) ?_
      case hrz8 => (intro w hSw; (try dsimp only at hSw); go_simp) <;> with_reducible rfl
      simp only [Act.put, List.getElem_toArray, List.getElem_cons_zero, List.getElem_cons_succ, List.setIfInBounds_toArray, List.set_cons_zero, List.set_cons_succ]
      refine anyL_done (by kernel_rfl) ?_ _
      clear HS0 HSQ HBD
      go_wp2_with fail
      go_roundw
      case rel => exact ⟨k + 1, by go_num, hlt, HI1⟩
      case measure => simp [intOf]; omega
    · obtain rfl : k = ds.length := by omega
      have s1 : decide ((ds.length : Int) < (ds.length : Int)) = false := by simp
      clear hk hlt
      go_wp2_with fail
      refine bodyPost_ret (results_tmp rfl _ _ _) rfl ⟨rfl, unhide HI⟩


end Go.Proofs.Ytjjdgfjlpkhgcaa
end
