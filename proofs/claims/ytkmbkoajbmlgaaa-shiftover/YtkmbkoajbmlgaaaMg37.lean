/- Layer 14: the document's Over and Both, and great, for lists of any size (written by wip/tools/shb.py). · Layer 14: ShiftPlaces' walk (written in round 15). · Layer 14: ShiftMeets' walk (written by wip/tools/sfu.py). · Layer 14: ShiftOver's walk (written by wip/tools/sgv.py). -/
import Derived.Test.YtkmbkoajbmlgaaaMg35
import Derived.Test.YtkmbkoajbmlgaaaMg36
import Derived.Test.YtkmbkoajbmlgaaaMg31
import Derived.Test.YtkmbkoajbmlgaaaMg28
import Derived.Test.YtkmbkoajbmlgaaaMg29

section
namespace Go.Proofs.Ytkmbkoajbmlgaaa
open Go.ChangeShapes Go.WideShapes Go.ChangeAt Go.RowKit
attribute [local go_sem] Oper.semAt_some

set_option maxRecDepth 100000 in
set_option maxHeartbeats 4000000 in
theorem ROver14V_at (a : Option Addr) (c : Nat) (d : List Dop) (a' : Option Addr) (c' : Nat) (e : List Dop) (f : Bool) (w : World) (h : IsO w a d) (h' : IsO w a' e) (ht : vW d = valB d) (ht' : vW e = valB e) (hl : d.length ≤ 4611686018427387904) (hl' : e.length ≤ 4611686018427387904) :
    Calls Try.prog 33 #[.slice a d.length c, .slice a' e.length c', .bool f] w fun y w' => ∃ v, y = .returned (.tuple #[v, .int .i64 (ovE d e f)]) ∧ w'.ownsRow w.heap.size 34 3 v (ovD d e f).length (opsV (ovD d e f)) ∧ Below w.heap.size w w' := by
  have HVA := hide (RValid14V_at a c d w h hl ht)
  have HVB := hide fun (X : World) (hX : Below w.heap.size w X) => RValid14V_at a' c' e X (h'.below hX (Nat.le_refl _)) hl' ht'
  cases hv : valB d with
  | false =>
    have hE : ovE d e f = 130 := by unfold ovE; rw [hv]; rfl
    have hD : ovD d e f = [] := by unfold ovD; rw [hE]; rfl
    rw [hE, hD]
    rw [hv] at HVA
    clear h h' hE hD hv HVB
    go_enter Try.func33, Try.ntmps33
    go_wp2_with fail
    refine (unhide HVA).mono ?_
    rintro y w1 ⟨rfl, x1⟩
    dsimp only
    clear HVA
    go_wp2_with fail
    refine bodyPost_ret (results_tmp2 rfl _ _ _) rfl ⟨.slice none 0 0, rfl, ⟨rfl, .inl ⟨rfl, rfl⟩⟩, x1⟩
  | true =>
    cases hv' : valB e with
    | false =>
      have hE : ovE d e f = 130 := by unfold ovE; rw [hv, hv']; rfl
      have hD : ovD d e f = [] := by unfold ovD; rw [hE]; rfl
      rw [hE, hD]
      rw [hv] at HVA
      rw [hv'] at HVB
      clear h h' hE hD hv hv'
      go_enter Try.func33, Try.ntmps33
      go_wp2_with fail
      refine (unhide HVA).mono ?_
      rintro y w1 ⟨rfl, x1⟩
      dsimp only
      have HC := hide (unhide HVB w1 x1)
      have HX := hide x1
      clear HVA HVB x1
      go_wp2_with fail
      refine (unhide HC).mono ?_
      rintro y w2 ⟨rfl, x2⟩
      dsimp only
      have HX2 := hide ((unhide HX).trans (x2.mono (unhide HX).size))
      clear HC HX x2
      go_wp2_with fail
      refine bodyPost_ret (results_tmp2 rfl _ _ _) rfl ⟨.slice none 0 0, rfl, ⟨rfl, .inl ⟨rfl, rfl⟩⟩, unhide HX2⟩
    | true =>
      by_cases hf : frD d = frD e
      · exact ROver_main a c d a' c' e f w h h' hl hl' hv hv' hf
      · have hE : ovE d e f = 131 := by unfold ovE; rw [hv, hv', if_neg hf]; rfl
        have hD : ovD d e f = [] := by unfold ovD; rw [hE]; rfl
        have hnn := (valB_nn hv).2
        have hnn' := (valB_nn hv').2
        have HLA := hide fun (X : World) (hX : Below w.heap.size w X) => lens14_at a c d X (h.below hX (Nat.le_refl _)) hl (val_PlO hv) (by omega) (by omega)
        have HLB := hide fun (X : World) (hX : Below w.heap.size w X) => lens14_at a' c' e X (h'.below hX (Nat.le_refl _)) hl' (val_PlO hv') (by omega) (by omega)
        rw [hE, hD]
        rw [hv] at HVA
        rw [hv'] at HVB
        clear h h' hE hD hv hv' hnn hnn'
        generalize frD d = fd at *
        generalize frD e = fe at *
        generalize toD d = td at *
        generalize toD e = te at *
        have t1 : ((fd : Int) != (fe : Int)) = true := by simp; omega
        clear hf
        go_enter Try.func33, Try.ntmps33
        go_wp2_with fail
        refine (unhide HVA).mono ?_
        rintro y w1 ⟨rfl, x1⟩
        dsimp only
        have HX1 := hide x1
        have HC1 := hide (unhide HVB w1 x1)
        clear HVA HVB x1
        go_wp2_with fail
        refine (unhide HC1).mono ?_
        rintro y w2 ⟨rfl, x2⟩
        dsimp only
        have HX2 := hide ((unhide HX1).trans (x2.mono (unhide HX1).size))
        have HC2 := hide (unhide HLA w2 (unhide HX2))
        clear HC1 HX1 x2 HLA
        go_wp2_with fail
        refine (unhide HC2).mono ?_
        rintro y w3 ⟨rfl, x3⟩
        dsimp only
        have HX3 := hide ((unhide HX2).trans (x3.mono (unhide HX2).size))
        have HC3 := hide (unhide HLB w3 (unhide HX3))
        clear HC2 HX2 x3 HLB
        go_wp2_with fail
        refine (unhide HC3).mono ?_
        rintro y w4 ⟨rfl, x4⟩
        dsimp only
        have HX4 := hide ((unhide HX3).trans (x4.mono (unhide HX3).size))
        clear HC3 HX3 x4
        go_wp2_with fail
        refine bodyPost_ret (results_tmp2 rfl _ _ _) rfl ⟨.slice none 0 0, rfl, ⟨rfl, .inl ⟨rfl, rfl⟩⟩, unhide HX4⟩
theorem ROverOV_at (a : Option Addr) (c : Nat) (d : List Dop) (a' : Option Addr) (c' : Nat) (e : List Dop) (f : Bool) (w : World) (h : IsO w a d) (h' : IsO w a' e) (ht : vW d = valB d) (ht' : vW e = valB e) (hl : d.length ≤ 4611686018427387904) (hl' : e.length ≤ 4611686018427387904) :
    Calls Try.prog 33 #[.slice a d.length c, .slice a' e.length c', .bool f] w fun y w' => ∃ a2 c2, y = .returned (.tuple #[.slice a2 (ovD d e f).length c2, .int .i64 (ovE d e f)]) ∧ (IsO w' a2 (ovD d e f) ∧ (ovD d e f).length ≤ c2) ∧ Below w.heap.size w w' :=
  (ROver14V_at a c d a' c' e f w h h' ht ht' hl hl').mono fun y w' ⟨v, e, ho, x⟩ => by
    obtain ⟨a2, c2, rfl, h1, h2⟩ := own_isO ho
    exact ⟨a2, c2, e, ⟨h1, h2⟩, x⟩
set_option maxRecDepth 100000 in
set_option maxHeartbeats 4000000 in
theorem RBoth14V_at (a : Option Addr) (c : Nat) (d : List Dop) (a' : Option Addr) (c' : Nat) (e : List Dop) (w : World) (h : IsO w a d) (h' : IsO w a' e) (ht : vW d = valB d) (ht' : vW e = valB e) (hl : d.length ≤ 4611686018427387904) (hl' : e.length ≤ 4611686018427387904) :
    Calls Try.prog 35 #[.slice a d.length c, .slice a' e.length c'] w fun y w' => ∃ a2 c2 a3 c3, y = .returned (.tuple #[.slice a2 (boA d e).length c2, .slice a3 (boB d e).length c3, .int .i64 (boE d e)]) ∧ (IsO w' a2 (boA d e) ∧ (boA d e).length ≤ c2) ∧ (IsO w' a3 (boB d e) ∧ (boB d e).length ≤ c3) ∧ Below w.heap.size w w' := by
  have H1 := hide (ROverOV_at a' c' e a c d true w h' h ht' ht hl' hl)
  have H2 := hide fun (X : World) (hX : Below w.heap.size w X) => ROverOV_at a c d a' c' e false X (h.below hX (Nat.le_refl _)) (h'.below hX (Nat.le_refl _)) ht ht' hl hl'
  obtain ⟨E1, hE1⟩ : ∃ E1, E1 = ovE e d true := ⟨_, rfl⟩
  obtain ⟨E2, hE2⟩ : ∃ E2, E2 = ovE d e false := ⟨_, rfl⟩
  obtain ⟨L1, hL1⟩ : ∃ L1, L1 = ovD e d true := ⟨_, rfl⟩
  obtain ⟨L2, hL2⟩ : ∃ L2, L2 = ovD d e false := ⟨_, rfl⟩
  have hbE : boE d e = if E1 = 0 then E2 else E1 := by unfold boE; rw [hE1, hE2]
  have hbA : boA d e = if (if E1 = 0 then E2 else E1) = 0 then L1 else [] := by unfold boA; rw [hbE, hL1]
  have hbB : boB d e = if (if E1 = 0 then E2 else E1) = 0 then L2 else [] := by unfold boB; rw [hbE, hL2]
  rw [hbE, hbA, hbB]
  rw [← hE1, ← hL1] at H1
  rw [← hE2, ← hL2] at H2
  clear h h' ht ht' hl hl' hE1 hE2 hL1 hL2 hbE hbA hbB
  by_cases e1 : E1 = 0
  · subst e1
    simp only [if_true]
    by_cases e2 : E2 = 0
    · subst e2
      simp only [if_true]
      go_enter Try.func35, Try.ntmps35
      go_wp2_with fail
      refine (unhide H1).mono ?_
      rintro y w1 ⟨a2, c2, rfl, i2, x1⟩
      dsimp only
      have HX1 := hide x1
      have HI := hide i2
      have HC := hide (unhide H2 w1 x1)
      clear H1 H2 i2 x1
      go_wp2_with fail
      refine (unhide HC).mono ?_
      rintro y w2 ⟨a3, c3, rfl, i3, x2⟩
      dsimp only
      have HI2 := hide (And.intro (And.intro ((unhide HI).1.below x2 (Nat.le_refl _)) (unhide HI).2) i3)
      have HX2 := hide ((unhide HX1).trans (x2.mono (unhide HX1).size))
      clear HC HI HX1 i3 x2
      go_wp2_with fail
      refine bodyPost_ret (results_tmp3 rfl _ _) rfl ⟨_, _, _, _, rfl, (unhide HI2).1, (unhide HI2).2, unhide HX2⟩
    · have t2 : (E2 != 0) = true := by simpa using e2
      have t2' : (E2 == 0) = false := by simpa using e2
      rw [if_neg e2, if_neg e2]
      go_enter Try.func35, Try.ntmps35
      go_wp2_with fail
      refine (unhide H1).mono ?_
      rintro y w1 ⟨a2, c2, rfl, _, x1⟩
      dsimp only
      have HX1 := hide x1
      have HC := hide (unhide H2 w1 x1)
      clear H1 H2 x1
      go_wp2_with fail
      refine (unhide HC).mono ?_
      rintro y w2 ⟨a3, c3, rfl, _, x2⟩
      dsimp only
      have HX2 := hide ((unhide HX1).trans (x2.mono (unhide HX1).size))
      clear HC HX1 x2 e2
      go_wp2_with fail
      refine bodyPost_ret (results_tmp3 rfl _ _) rfl ⟨none, 0, none, 0, rfl, ⟨.inl rfl, by simp⟩, ⟨.inl rfl, by simp⟩, unhide HX2⟩
  · have t1 : (E1 != 0) = true := by simpa using e1
    have t1' : (E1 == 0) = false := by simpa using e1
    rw [if_neg e1, if_neg e1, if_neg e1]
    go_enter Try.func35, Try.ntmps35
    go_wp2_with fail
    refine (unhide H1).mono ?_
    rintro y w1 ⟨a2, c2, rfl, _, x1⟩
    dsimp only
    have HX1 := hide x1
    clear H1 H2 x1 e1
    go_wp2_with fail
    refine bodyPost_ret (results_tmp3 rfl _ _) rfl ⟨none, 0, none, 0, rfl, ⟨.inl rfl, by simp⟩, ⟨.inl rfl, by simp⟩, unhide HX1⟩
set_option maxRecDepth 100000 in
set_option maxHeartbeats 1000000 in
theorem RLens14W_at (a : Option Addr) (c : Nat) (d : List Dop) (w : World) (h : IsO w a d) (hl : d.length ≤ 4611686018427387904) (hv : vW d = true) :
    Calls Try.prog 75 #[.slice a d.length c] w fun y w' => y = .returned (.tuple #[.int .i64 (frD d : Int), .int .i64 (wrap64 (toD d : Int))]) ∧ Below w.heap.size w w' := by
  have hv' := hv
  unfold vW at hv'
  simp only [Bool.and_eq_true] at hv'
  have HL := hide (lens14W_at a c d w h hl (pl_of hv'.1 hv'.2.1) (Nat.le_trans (of_decide_eq_true hv'.2.2.1) (by decide)))
  clear h hl hv hv'
  go_enter Try.func75, Try.ntmps75
  go_wp2_with fail
  refine (unhide HL).mono ?_
  rintro y w1 ⟨rfl, x1⟩
  dsimp only
  clear HL
  go_wp2_with fail
  refine bodyPost_ret (results_tmp2 rfl _ _ _) rfl ⟨rfl, x1⟩
def gw1 (x : Dl) : Bool := vW x.d && decide (5000 < frD x.d)
def gwB (ds : List Dl) : Bool := ds.any gw1
theorem gw_take {ds : List Dl} {k : Nat} (hk : k < ds.length) : gwB (ds.take (k + 1)) = (gwB (ds.take k) || gw1 (ds.getD k dlZ)) := by
  unfold gwB
  rw [List.take_add_one, List.getElem?_eq_getElem hk, Option.toList_some, List.any_append]
  simp [List.getD, List.getElem?_eq_getElem hk]
theorem gw_yes {ds : List Dl} {k : Nat} (hk : k < ds.length) (h : gw1 (ds.getD k dlZ) = true) : gwB ds = true := List.any_eq_true.2 ⟨_, mem_dl hk, h⟩
/-- where none is great, the document's Valid is right of each -/
theorem gw_ok {ds : List Dl} (h : gwB ds = false) {x : Dl} (hx : x ∈ ds) (ht : ∀ o ∈ x.d, o.t.length ≤ 140737488355328) : vW x.d = valB x.d := by
  refine vw_small ht ?_
  have h1 : gw1 x = false := by
    cases hg : gw1 x with
    | false => rfl
    | true => rw [show gwB ds = true from List.any_eq_true.2 ⟨x, hx, hg⟩] at h; cases h
  unfold gw1 at h1
  cases hv : vW x.d with
  | false => exact .inl rfl
  | true =>
    rw [hv] at h1
    right
    have := of_decide_eq_false (show decide (5000 < frD x.d) = false by simpa using h1)
    omega
set_option maxRecDepth 100000 in
set_option maxHeartbeats 4000000 in
theorem great14W_at (A0 : Option Addr) (cc : Nat) (ds : List Dl) (w X : World) (h : IsDx w X A0 ds) (hd : Below w.heap.size w X) (hl : ds.length ≤ 4611686018427387904) (hds : ∀ x ∈ ds, x.d.length ≤ 4611686018427387904) :
    Calls Try.prog 31 #[.slice A0 ds.length cc] X fun y X' => y = .returned (.bool (gwB ds)) ∧ Below X.heap.size X X' := by
  have HH := hide fun (Y : World) (hY : Below X.heap.size X Y) => h.on hY
  have HW := hide fun (Y : World) (hY : Below X.heap.size X Y) => hd.trans (hY.mono hd.size)
  have HDS := hide hds
  obtain ⟨V, hV⟩ : ∃ V, V = gwB ds := ⟨_, rfl⟩
  rw [← hV]
  have HV := hide hV
  clear h hd hds hV
  go_enter Try.func31, Try.ntmps31
  go_wp2_with fail
  go_loopw [4, 5, 6, 9] (fun v4 v5 v6 v9 wx => ((∃ z, v4 = z) ∧ (∃ z, v5 = z) ∧ (∃ z, v6 = z)) ∧ ∃ k : Nat, v9 = .int .i64 (k : Int) ∧ k ≤ ds.length ∧ Hid (gwB (ds.take k) = false ∧ Below X.heap.size X wx)) (fun _ _ _ v9 _ => ds.length - (intOf v9).toNat)
  case atStart => exact ⟨⟨⟨_, rfl⟩, ⟨_, rfl⟩, ⟨_, rfl⟩⟩, ⟨0, rfl, Nat.zero_le _, hide ⟨rfl, Below.refl _ _⟩⟩⟩
  case round =>
    obtain ⟨⟨⟨z1, rfl⟩, ⟨z2, rfl⟩, ⟨z3, rfl⟩⟩, ⟨k, rfl, hk, HI⟩⟩ := hrel
    by_cases hlt : k < ds.length
    · obtain ⟨s1, s2, s3⟩ := dlt hlt
      have hS := unhide HH wr (unhide HI).2
      obtain ⟨gA, oA, hA0, _, q0⟩ := hS.c k hlt
      subst hA0
      have hO := (hS.o k hlt).1
      have hlen := unhide HDS _ (mem_dl hlt)
      have HY := hide (gw_yes hlt)
      have HT := hide (gw_take hlt)
      have Wk := gr_w hlt hl
      have HLT := hide hlt
      have HVA := hide (RValid14W_at (ds.getD k dlZ).a (ds.getD k dlZ).c (ds.getD k dlZ).d wr (hO.below (unhide HW wr (unhide HI).2) (Nat.le_refl _)) hlen)
      have HLN := hide fun (Y : World) (hY : Below X.heap.size X Y) (hv : vW (ds.getD k dlZ).d = true) => RLens14W_at (ds.getD k dlZ).a (ds.getD k dlZ).c (ds.getD k dlZ).d Y (hO.below (unhide HW Y hY) (Nat.le_refl _)) hlen hv
      clear hS hO hlen hk
      unfold gw1 at HY HT
      generalize ds.getD k dlZ = q at *
      obtain ⟨qa, qc, qd⟩ := q
      dsimp only at *
      cases hv : vW qd with
      | false =>
        rw [hv] at HVA HT
        have HN : Hid (gwB (ds.take (k + 1)) = false) := hide (by rw [unhide HT, (unhide HI).1]; rfl)
        have HB := hide (unhide HI).2
        clear HT HY HLN hv HI
        go_wp2_with fail
        refine (unhide HVA).mono ?_
        rintro y w1 ⟨rfl, x1⟩
        dsimp only
        have HB2 := hide ((unhide HB).trans (x1.mono (unhide HB).size))
        clear HVA HB x1
        go_wp2_with fail
        go_roundw
        case rel => exact ⟨⟨⟨_, rfl⟩, ⟨_, rfl⟩, ⟨_, rfl⟩⟩, ⟨k + 1, by first | rfl | exact congrArg _ Wk | go_num, hlt, hide ⟨unhide HN, unhide HB2⟩⟩⟩
        case measure => first | exact gr_ms3 hlt | exact gr_ms hlt Wk
      | true =>
        rw [hv] at HVA HT HY
        have HB := hide (unhide HI).2
        have HI1 := hide (unhide HI).1
        have HVV := hide hv
        clear hv HI
        go_wp2_with fail
        refine (unhide HVA).mono ?_
        rintro y w1 ⟨rfl, x1⟩
        dsimp only
        have HB2 := hide ((unhide HB).trans (x1.mono (unhide HB).size))
        have HC := hide (unhide HLN w1 (unhide HB2) (unhide HVV))
        clear HVA HB x1 HLN HVV
        go_wp2_with fail
        refine (unhide HC).mono ?_
        rintro y w2 ⟨rfl, x2⟩
        dsimp only
        have HB3 := hide ((unhide HB2).trans (x2.mono (unhide HB2).size))
        clear HC HB2 x2
        generalize frD qd = fr at *
        generalize wrap64 (toD qd : Int) = tq at *
        rcases t5000 fr with ⟨_, b1, b2, b3⟩ | ⟨_, b1, b2, b3⟩
        · have HV2 : Hid (V = true) := hide (by rw [unhide HV]; exact unhide HY (by rw [b3]; rfl))
          clear HT HY HI1
          go_wp2_with fail
          rw [unhide HV2]
          refine bodyPost_ret (results_tmp rfl _ _ _) rfl ⟨rfl, unhide HB3⟩
        · have HN : Hid (gwB (ds.take (k + 1)) = false) := hide (by rw [unhide HT, unhide HI1, b3]; rfl)
          clear HT HY HI1
          go_wp2_with fail
          go_roundw
          case rel => exact ⟨⟨⟨_, rfl⟩, ⟨_, rfl⟩, ⟨_, rfl⟩⟩, ⟨k + 1, by first | rfl | exact congrArg _ Wk | go_num, hlt, hide ⟨unhide HN, unhide HB3⟩⟩⟩
          case measure => first | exact gr_ms3 hlt | exact gr_ms hlt Wk
    · obtain rfl : k = ds.length := Nat.le_antisymm hk (Nat.not_lt.1 hlt)
      obtain ⟨s1, s2, s3⟩ := dnl hlt
      have HV2 : Hid (V = false) := hide (by have := (unhide HI).1; rw [List.take_length] at this; rw [unhide HV]; exact this)
      have HB := hide (unhide HI).2
      clear HI hk hlt
      go_wp2_with fail
      rw [unhide HV2]
      refine bodyPost_ret (results_tmp rfl _ _ _) rfl ⟨rfl, unhide HB⟩

end Go.Proofs.Ytkmbkoajbmlgaaa
end

section
namespace Go.Proofs.Ytkmbkoajbmlgaaa
open Go.ChangeShapes Go.WideShapes Go.ChangeAt Go.RowKit
attribute [local go_sem] Oper.semAt_some

set_option maxRecDepth 100000 in
set_option maxHeartbeats 1000000 in
theorem copied14_at (a : Option Addr) (c : Nat) (d : List Dop) (w : World) (h : IsO w a d) (hz : d = [] ∨ ∃ q, a = some q) (hb : d.length * 32 ≤ 140737488355328) :
    Calls Try.prog 29 #[.slice a d.length c] w fun y w' => ∃ v, y = .returned v ∧ w'.ownsRow w.heap.size 34 3 v d.length (opsV d) ∧ Below w.heap.size w w' := by
  obtain ⟨v', w', hr, ho, hbb⟩ := copy_op w a c d 24 h hz hb
  have R2 := hide hr
  have HO := hide ho
  have HB := hide hbb
  clear hr ho hbb h hz hb
  go_enter Try.func29, Try.ntmps29
  go_wp2_with (at_builtin; refine wpList_append_known rfl _ _ 24 24 rfl _ _ rfl rfl _ _ (unhide R2) ?_; clear R2)
  refine bodyPost_ret (results_tmp rfl _ _ _) rfl ⟨v', rfl, unhide HO, unhide HB⟩
set_option maxRecDepth 100000 in
set_option maxHeartbeats 4000000 in
theorem ShiftPlaces_any (a1 : Option Addr) (c1 : Nat) (d : List Dop) (p g : Int) (w : World) (hx : IsO w a1 d) (hzx : d = [] ∨ ∃ q, a1 = some q) (hlx : d.length ≤ 1048576) (htx : ∀ o ∈ d, TbD o ∧ o.t.length ≤ 1048576) (_hp : (Lit.int .i64 p).wf = true) (_hg : (Lit.int .i64 g).wf = true) :
    Calls Try.prog 4 #[.slice a1 d.length c1, .int .i64 p, .int .i64 g] w fun y w' => y = .returned (.bool true) ∧ Below w.heap.size w w' := by
  have HAw := hide (fixed14_at w)
  have HCP := hide fun (X : World) (hX : Below w.heap.size w X) => copied14_at a1 c1 d X (hx.below hX (Nat.le_refl _)) hzx (by omega)
  have HP := hide fun (X : World) (_ : Below w.heap.size w X) (a : Option Addr) (c : Nat) (h : IsO X a d) => Place_at a c d p g X h (by omega)
  have htd : txD d ≤ 1099511627776 := by
    have h1 := txD_le (fun o ho => (htx o ho).2)
    have h2 := Nat.mul_le_mul_right 1048576 hlx
    omega
  have HR := hide fun (X : World) (hX : Below w.heap.size w X) => RPlace14_at a1 c1 d p g X (hx.below hX (Nat.le_refl _)) (by omega) htd
  clear hx hzx hlx htx _hp _hg htd
  generalize plV d p g = V at *
  generalize plE d p g = E at *
  go_enter Try.func4, Try.ntmps4
  go_wp2_with fail
  refine (unhide HAw).mono ?_
  rintro y w1 ⟨rfl, x1⟩
  dsimp only
  have HX1 := hide x1
  clear HAw x1
  have HC2 := hide (unhide HCP w1 (unhide HX1))
  go_wp2_with fail
  refine (unhide HC2).mono ?_
  rintro y w2 ⟨v, rfl, o2, x2⟩
  dsimp only
  have HX2 := hide ((unhide HX1).trans (x2.mono (unhide HX1).size))
  clear HC2 HX1 x2  HCP
  obtain ⟨a9, c9, rfl, i9, _⟩ := own_isO o2
  have I9_2 := hide i9
  clear o2 i9
  have HC3 := hide (unhide HP w2 (unhide HX2) a9 c9 (unhide I9_2))
  go_wp2_with fail
  refine (unhide HC3).mono ?_
  rintro y w3 ⟨rfl, x3⟩
  dsimp only
  have HX3 := hide ((unhide HX2).trans (x3.mono (unhide HX2).size))
  clear HC3 HX2 x3  HP I9_2
  have HC4 := hide (unhide HR w3 (unhide HX3))
  go_wp2_with fail
  refine (unhide HC4).mono ?_
  rintro y w4 ⟨rfl, x4⟩
  dsimp only
  have HX4 := hide ((unhide HX3).trans (x4.mono (unhide HX3).size))
  clear HC4 HX3 x4  HR
  go_wp2_with fail
  refine bodyPost_ret (results_tmp rfl _ _ _) rfl ⟨rfl, unhide HX4⟩

end Go.Proofs.Ytkmbkoajbmlgaaa
end

section
namespace Go.Proofs.Ytkmbkoajbmlgaaa
open Go.ChangeShapes Go.WideShapes Go.ChangeAt Go.RowKit
attribute [local go_sem] Oper.semAt_some

theorem passP_mem {g : List Atm → List Atm} {x : Int} (hg : ∀ b : List Atm, Atm.p x ∈ g b → Atm.p x ∈ b) : ∀ b : List Atm, Atm.p x ∈ passP g b → Atm.p x ∈ b
  | [], h => hg [] h
  | .k :: b, h => hg (.k :: b) h
  | .d :: b, h => hg (.d :: b) h
  | .p y :: b, h => by
    simp only [passP, List.mem_cons] at h ⊢
    rcases h with h | h
    · exact .inl h
    · exact .inr (passP_mem hg b h)
theorem ov_mem (f : Bool) {x : Int} : ∀ (a b : List Atm), Atm.p x ∈ ovA f a b → Atm.p x ∈ b
  | [], b, h => mem_puts h
  | .p y :: a, b, h => by
    have hg : ∀ b : List Atm, Atm.p x ∈ (.k :: ovA f a b) → Atm.p x ∈ b := fun b h => by
      simp only [List.mem_cons] at h
      rcases h with h | h
      · cases h
      · exact ov_mem f a b h
    unfold ovA at h
    cases f with
    | true => exact passP_mem hg b h
    | false => exact hg b h
  | .k :: a, b, h => by
    refine passP_mem (g := byK (ovA f a)) (fun b h => ?_) b h
    cases b with
    | nil => exact ov_mem f a [] h
    | cons z b => cases z with
      | k => simp [byK] at h; exact List.mem_cons_of_mem _ (ov_mem f a b h)
      | d => simp [byK] at h; exact List.mem_cons_of_mem _ (ov_mem f a b h)
      | p y => exact ov_mem f a (.p y :: b) h
  | .d :: a, b, h => by
    refine passP_mem (g := byD (ovA f a)) (fun b h => ?_) b h
    cases b with
    | nil => exact ov_mem f a [] h
    | cons z b => cases z with
      | k => simp [byD] at h; exact List.mem_cons_of_mem _ (ov_mem f a b h)
      | d => simp [byD] at h; exact List.mem_cons_of_mem _ (ov_mem f a b h)
      | p y => exact ov_mem f a (.p y :: b) h
theorem ovD_tb {d e : List Dop} {f : Bool} (he : ∀ o ∈ e, TbD o) : ∀ o ∈ ovD d e f, TbD o := by
  unfold ovD
  split
  · exact canA_tb fun z hz => dA_by he z (ov_mem f _ _ hz)
  · simp
end Go.Proofs.Ytkmbkoajbmlgaaa
end

section
namespace Go.Proofs.Ytkmbkoajbmlgaaa
open Go.ChangeShapes Go.WideShapes Go.ChangeAt Go.RowKit
attribute [local go_sem] Oper.semAt_some

theorem copiedO_at (a : Option Addr) (c : Nat) (d : List Dop) (w : World) (h : IsO w a d) (hz : d = [] ∨ ∃ q, a = some q) (hb : d.length * 32 ≤ 140737488355328) :
    Calls Try.prog 29 #[.slice a d.length c] w fun y w' => ∃ a' c', y = .returned (.slice a' d.length c') ∧ (IsO w' a' d ∧ d.length ≤ c') ∧ Below w.heap.size w w' :=
  (copied14_at a c d w h hz hb).mono fun y w' ⟨v, e, ho, x⟩ => by
    obtain ⟨a', c', rfl, h1, h2⟩ := own_isO ho
    exact ⟨a', c', e, ⟨h1, h2⟩, x⟩
theorem ovD_small (d e : List Dop) (f : Bool) : (ovD d e f).length ≤ 4611686018427387904 := by
  by_cases hE : ovE d e f = 0
  · exact (val_small (ov_ok hE).v).1
  · unfold ovD; rw [if_neg hE]; simp
theorem boA_small (d e : List Dop) : (boA d e).length ≤ 4611686018427387904 ∧ (boB d e).length ≤ 4611686018427387904 := by
  unfold boA boB
  split
  · exact ⟨ovD_small _ _ _, ovD_small _ _ _⟩
  · simp
theorem bo_tb {d e : List Dop} (hd : ∀ o ∈ d, TbD o) (he : ∀ o ∈ e, TbD o) : (∀ o ∈ boA d e, TbD o) ∧ (∀ o ∈ boB d e, TbD o) := by
  unfold boA boB
  split
  · exact ⟨ovD_tb hd, ovD_tb he⟩
  · simp
/-- great of two, as the law calls it -/
theorem great2_at (x y : Dl) (w X : World) (hx : IsO w x.a x.d) (hy : IsO w y.a y.d) (tx : ∀ o ∈ x.d, o.t.length ≤ 140737488355328) (ty : ∀ o ∈ y.d, o.t.length ≤ 140737488355328) (hd : Below w.heap.size w X) (lx : x.d.length ≤ 4611686018427387904 ∧ txD x.d ≤ 1099511627776) (ly : y.d.length ≤ 4611686018427387904 ∧ txD y.d ≤ 1099511627776) :
    Calls Try.prog 31 #[.slice (some ⟨X.heap.size, 0, none⟩) 2 2] (X.alloc (.cells #[.slice x.a x.d.length x.c, .slice y.a y.d.length y.c] 24)) fun z X' => z = .returned (.bool (grB [x, y])) ∧ Below X.heap.size X X' := by
  have kN := Cls.new X 24 #[.slice x.a x.d.length x.c, .slice y.a y.d.length y.c]
  have bA := (Below.refl X.heap.size X).alloc (Nat.le_refl _) (.cells #[.slice x.a x.d.length x.c, .slice y.a y.d.length y.c] 24)
  have hD : IsDx w (X.alloc (.cells #[.slice x.a x.d.length x.c, .slice y.a y.d.length y.c] 24)) (some ⟨X.heap.size, 0, none⟩) [x, y] := ⟨fun i hi => by
    match i with
    | 0 => exact ⟨_, 0, rfl, kN.lt, kN.cell 0⟩
    | 1 => exact ⟨_, 0, rfl, kN.lt, kN.cell 1⟩
    | i + 2 => simp at hi; omega, fun i hi => by
    match i with
    | 0 => exact ⟨hx, tx⟩
    | 1 => exact ⟨hy, ty⟩
    | i + 2 => simp at hi; omega⟩
  exact (great14_at _ 2 [x, y] w _ hD (hd.trans (bA.mono hd.size)) (by simp) (fun z hz => by
    simp only [List.mem_cons, List.not_mem_nil, or_false] at hz
    rcases hz with rfl | rfl
    · exact lx
    · exact ly)).mono fun z X' ⟨e, x⟩ => ⟨e, bA.trans (x.mono bA.size)⟩
theorem tx_of {d : List Dop} (hl : d.length ≤ 1048576) (ht : ∀ o ∈ d, TbD o ∧ o.t.length ≤ 1048576) : txD d ≤ 1099511627776 := by
  have h1 := txD_le (fun o ho => (ht o ho).2)
  have h2 := Nat.mul_le_mul_right 1048576 hl
  omega
set_option maxRecDepth 100000 in
set_option maxHeartbeats 4000000 in
theorem ShiftOver_any (a1 : Option Addr) (c1 : Nat) (d : List Dop) (a2 : Option Addr) (c2 : Nat) (e : List Dop) (f : Bool) (w : World) (hx : IsO w a1 d) (hzx : d = [] ∨ ∃ q, a1 = some q) (hlx : d.length ≤ 1048576) (htx : ∀ o ∈ d, TbD o ∧ o.t.length ≤ 1048576) (hy : IsO w a2 e) (hzy : e = [] ∨ ∃ q, a2 = some q) (hly : e.length ≤ 1048576) (hty : ∀ o ∈ e, TbD o ∧ o.t.length ≤ 1048576) :
    Calls Try.prog 5 #[.slice a1 d.length c1, .slice a2 e.length c2, .bool f] w fun y w' => y = .returned (.bool true) ∧ Below w.heap.size w w' := by
  have HAw := hide (fixed14_at w)
  have tX := tx_of hlx htx
  have tY := tx_of hly hty
  have qX : ∀ o ∈ d, o.t.length ≤ 140737488355328 := fun o ho => Nat.le_trans (htx o ho).2 (by decide)
  have qY : ∀ o ∈ e, o.t.length ≤ 140737488355328 := fun o ho => Nat.le_trans (hty o ho).2 (by decide)
  have lX : d.length ≤ 4611686018427387904 := Nat.le_trans hlx (by decide)
  have lY : e.length ≤ 4611686018427387904 := Nat.le_trans hly (by decide)
  have HGR := hide fun (X : World) (hX : Below w.heap.size w X) => great2_at ⟨a1, c1, d⟩ ⟨a2, c2, e⟩ w X hx hy qX qY hX ⟨lX, tX⟩ ⟨lY, tY⟩
  dsimp only at HGR
  have HCA := hide fun (X : World) (hX : Below w.heap.size w X) => copiedO_at a1 c1 d X (hx.below hX (Nat.le_refl _)) hzx (by omega)
  have HCB := hide fun (X : World) (hX : Below w.heap.size w X) => copiedO_at a2 c2 e X (hy.below hX (Nat.le_refl _)) hzy (by omega)
  have HOV := hide fun (X : World) (_ : Below w.heap.size w X) (a3 : Option Addr) (c3 : Nat) (a4 : Option Addr) (c4 : Nat) (h3 : IsO X a3 d) (h4 : IsO X a4 e) (k3 : d.length ≤ c3) (k4 : e.length ≤ c4) => OverO_at a3 c3 d a4 c4 e f X ⟨h3, k3⟩ ⟨h4, k4⟩ qX lX lY
  have HBO := hide fun (X : World) (_ : Below w.heap.size w X) (a3 : Option Addr) (c3 : Nat) (a4 : Option Addr) (c4 : Nat) (h3 : IsO X a3 d) (h4 : IsO X a4 e) (k3 : d.length ≤ c3) (k4 : e.length ≤ c4) => Both_at a3 c3 d a4 c4 e X ⟨h3, k3⟩ ⟨h4, k4⟩ qX qY lX lY
  have HRO := hide fun (X : World) (hX : Below w.heap.size w X) => ROverO_at a1 c1 d a2 c2 e f X (hx.below hX (Nat.le_refl _)) (hy.below hX (Nat.le_refl _)) tX tY lX lY
  have HRB := hide fun (X : World) (hX : Below w.heap.size w X) => RBoth14_at a1 c1 d a2 c2 e X (hx.below hX (Nat.le_refl _)) (hy.below hX (Nat.le_refl _)) tX tY lX lY
  have bO : ∀ o ∈ ovD d e f, TbD o := ovD_tb fun o ho => (hty o ho).1
  obtain ⟨bA, bB⟩ := bo_tb (fun o ho => (htx o ho).1) (fun o ho => (hty o ho).1)
  obtain ⟨sA, sB⟩ := boA_small d e
  have sO := ovD_small d e f
  have HS1 := hide fun (X : World) (_ : Below w.heap.size w X) (a3 : Option Addr) (c3 : Nat) (a4 : Option Addr) (c4 : Nat) (h3 : IsO X a3 (ovD d e f)) (h4 : IsO X a4 (ovD d e f)) => RSame14_at a3 c3 _ a4 c4 _ X h3 h4 sO sO bO bO
  have HS2 := hide fun (X : World) (_ : Below w.heap.size w X) (a3 : Option Addr) (c3 : Nat) (a4 : Option Addr) (c4 : Nat) (h3 : IsO X a3 (boA d e)) (h4 : IsO X a4 (boA d e)) => RSame14_at a3 c3 _ a4 c4 _ X h3 h4 sA sA bA bA
  have HS3 := hide fun (X : World) (_ : Below w.heap.size w X) (a3 : Option Addr) (c3 : Nat) (a4 : Option Addr) (c4 : Nat) (h3 : IsO X a3 (boB d e)) (h4 : IsO X a4 (boB d e)) => RSame14_at a3 c3 _ a4 c4 _ X h3 h4 sB sB bB bB
  simp only [decide_true] at HS1 HS2 HS3
  clear hx hzx hlx htx hy hzy hly hty tX tY qX qY lX lY bO bA bB sA sB sO
  generalize ovD d e f = O at *
  generalize ovE d e f = OE at *
  generalize boA d e = A at *
  generalize boB d e = B at *
  generalize boE d e = BE at *
  generalize grB [⟨a1, c1, d⟩, ⟨a2, c2, e⟩] = G at *
  go_enter Try.func5, Try.ntmps5
  go_wp2_with fail
  refine (unhide HAw).mono ?_
  rintro y w1 ⟨rfl, x1⟩
  dsimp only
  have HX1 := hide x1
  clear HAw x1
  have HC2 := hide (unhide HGR w1 (unhide HX1))
  go_wp2_with fail
  refine (unhide HC2).mono ?_
  rintro y w2 ⟨rfl, x2⟩
  dsimp only
  have HX2 := hide ((unhide HX1).trans (x2.mono (unhide HX1).size))
  clear HC2 HX1 x2  HGR
  cases G with
  | true =>
    go_wp2_with fail
    refine bodyPost_ret (results_tmp rfl _ _ _) rfl ⟨rfl, unhide HX2⟩
  | false =>
    have HC3 := hide (unhide HCA w2 (unhide HX2))
    go_wp2_with fail
    refine (unhide HC3).mono ?_
    rintro y w3 ⟨a3, c3, rfl, ⟨i3, k3⟩, x3⟩
    dsimp only
    have HX3 := hide ((unhide HX2).trans (x3.mono (unhide HX2).size))
    have I3_3 := hide (i3)
    clear HC3 HX2 x3  
    have K3 := hide k3
    clear i3 k3
    have HC4 := hide (unhide HCB w3 (unhide HX3))
    go_wp2_with fail
    refine (unhide HC4).mono ?_
    rintro y w4 ⟨a4, c4, rfl, ⟨i4, k4⟩, x4⟩
    dsimp only
    have HX4 := hide ((unhide HX3).trans (x4.mono (unhide HX3).size))
    have I3_4 := hide ((unhide I3_3).below x4 (Nat.le_refl _))
    have I4_4 := hide (i4)
    clear HC4 HX3 x4 I3_3 
    have K4 := hide k4
    clear i4 k4
    have HC5 := hide (unhide HOV w4 (unhide HX4) a3 c3 a4 c4 (unhide I3_4) (unhide I4_4) (unhide K3) (unhide K4))
    go_wp2_with fail
    refine (unhide HC5).mono ?_
    rintro y w5 ⟨a5, c5, rfl, ⟨i5, k5⟩, x5⟩
    dsimp only
    have HX5 := hide ((unhide HX4).trans (x5.mono (unhide HX4).size))
    have I3_5 := hide ((unhide I3_4).below x5 (Nat.le_refl _))
    have I4_5 := hide ((unhide I4_4).below x5 (Nat.le_refl _))
    have I5_5 := hide (i5)
    clear HC5 HX4 x5 I3_4 I4_4 HOV K3 K4 i5 k5
    clear I3_5
    clear I4_5
    have HC6 := hide (unhide HRO w5 (unhide HX5))
    go_wp2_with fail
    refine (unhide HC6).mono ?_
    rintro y w6 ⟨a6, c6, rfl, ⟨i6, k6⟩, x6⟩
    dsimp only
    have HX6 := hide ((unhide HX5).trans (x6.mono (unhide HX5).size))
    have I5_6 := hide ((unhide I5_5).below x6 (Nat.le_refl _))
    have I6_6 := hide (i6)
    clear HC6 HX5 x6 I5_5 HRO i6 k6
    have HC7 := hide (unhide HCA w6 (unhide HX6))
    go_wp2_with fail
    refine (unhide HC7).mono ?_
    rintro y w7 ⟨a7, c7, rfl, ⟨i7, k7⟩, x7⟩
    dsimp only
    have HX7 := hide ((unhide HX6).trans (x7.mono (unhide HX6).size))
    have I5_7 := hide ((unhide I5_6).below x7 (Nat.le_refl _))
    have I6_7 := hide ((unhide I6_6).below x7 (Nat.le_refl _))
    have I7_7 := hide (i7)
    clear HC7 HX6 x7 I5_6 I6_6 
    have K7 := hide k7
    clear i7 k7
    have HC8 := hide (unhide HCB w7 (unhide HX7))
    go_wp2_with fail
    refine (unhide HC8).mono ?_
    rintro y w8 ⟨a8, c8, rfl, ⟨i8, k8⟩, x8⟩
    dsimp only
    have HX8 := hide ((unhide HX7).trans (x8.mono (unhide HX7).size))
    have I5_8 := hide ((unhide I5_7).below x8 (Nat.le_refl _))
    have I6_8 := hide ((unhide I6_7).below x8 (Nat.le_refl _))
    have I7_8 := hide ((unhide I7_7).below x8 (Nat.le_refl _))
    have I8_8 := hide (i8)
    clear HC8 HX7 x8 I5_7 I6_7 I7_7 
    have K8 := hide k8
    clear i8 k8
    have HC9 := hide (unhide HBO w8 (unhide HX8) a7 c7 a8 c8 (unhide I7_8) (unhide I8_8) (unhide K7) (unhide K8))
    go_wp2_with fail
    refine (unhide HC9).mono ?_
    rintro y w9 ⟨aA, cA, aB, cB, rfl, ⟨iA, kA⟩, ⟨iB, kB⟩, x9⟩
    dsimp only
    have HX9 := hide ((unhide HX8).trans (x9.mono (unhide HX8).size))
    have I5_9 := hide ((unhide I5_8).below x9 (Nat.le_refl _))
    have I6_9 := hide ((unhide I6_8).below x9 (Nat.le_refl _))
    have I7_9 := hide ((unhide I7_8).below x9 (Nat.le_refl _))
    have I8_9 := hide ((unhide I8_8).below x9 (Nat.le_refl _))
    have IA_9 := hide (iA)
    have IB_9 := hide (iB)
    clear HC9 HX8 x9 I5_8 I6_8 I7_8 I8_8 HBO HCA HCB K7 K8 iA kA iB kB
    clear I7_9
    clear I8_9
    have HC10 := hide (unhide HRB w9 (unhide HX9))
    go_wp2_with fail
    refine (unhide HC10).mono ?_
    rintro y w10 ⟨aC, cC, aD, cD, rfl, ⟨iC, kC⟩, ⟨iD, kD⟩, x10⟩
    dsimp only
    have HX10 := hide ((unhide HX9).trans (x10.mono (unhide HX9).size))
    have I5_10 := hide ((unhide I5_9).below x10 (Nat.le_refl _))
    have I6_10 := hide ((unhide I6_9).below x10 (Nat.le_refl _))
    have IA_10 := hide ((unhide IA_9).below x10 (Nat.le_refl _))
    have IB_10 := hide ((unhide IB_9).below x10 (Nat.le_refl _))
    have IC_10 := hide (iC)
    have ID_10 := hide (iD)
    clear HC10 HX9 x10 I5_9 I6_9 IA_9 IB_9 HRB iC kC iD kD
    have HC11 := hide (unhide HS1 w10 (unhide HX10) a5 c5 a6 c6 (unhide I5_10) (unhide I6_10))
    go_wp2_with fail
    refine (unhide HC11).mono ?_
    rintro y w11 ⟨rfl, x11⟩
    dsimp only
    have HX11 := hide ((unhide HX10).trans (x11.mono (unhide HX10).size))
    have I5_11 := hide ((unhide I5_10).below x11 (Nat.le_refl _))
    have I6_11 := hide ((unhide I6_10).below x11 (Nat.le_refl _))
    have IA_11 := hide ((unhide IA_10).below x11 (Nat.le_refl _))
    have IB_11 := hide ((unhide IB_10).below x11 (Nat.le_refl _))
    have IC_11 := hide ((unhide IC_10).below x11 (Nat.le_refl _))
    have ID_11 := hide ((unhide ID_10).below x11 (Nat.le_refl _))
    clear HC11 HX10 x11 I5_10 I6_10 IA_10 IB_10 IC_10 ID_10 HS1
    have HC12 := hide (unhide HS2 w11 (unhide HX11) aA cA aC cC (unhide IA_11) (unhide IC_11))
    go_wp2_with fail
    refine (unhide HC12).mono ?_
    rintro y w12 ⟨rfl, x12⟩
    dsimp only
    have HX12 := hide ((unhide HX11).trans (x12.mono (unhide HX11).size))
    have I5_12 := hide ((unhide I5_11).below x12 (Nat.le_refl _))
    have I6_12 := hide ((unhide I6_11).below x12 (Nat.le_refl _))
    have IA_12 := hide ((unhide IA_11).below x12 (Nat.le_refl _))
    have IB_12 := hide ((unhide IB_11).below x12 (Nat.le_refl _))
    have IC_12 := hide ((unhide IC_11).below x12 (Nat.le_refl _))
    have ID_12 := hide ((unhide ID_11).below x12 (Nat.le_refl _))
    clear HC12 HX11 x12 I5_11 I6_11 IA_11 IB_11 IC_11 ID_11 HS2
    have HC13 := hide (unhide HS3 w12 (unhide HX12) aB cB aD cD (unhide IB_12) (unhide ID_12))
    go_wp2_with fail
    refine (unhide HC13).mono ?_
    rintro y w13 ⟨rfl, x13⟩
    dsimp only
    have HX13 := hide ((unhide HX12).trans (x13.mono (unhide HX12).size))
    have I5_13 := hide ((unhide I5_12).below x13 (Nat.le_refl _))
    have I6_13 := hide ((unhide I6_12).below x13 (Nat.le_refl _))
    have IA_13 := hide ((unhide IA_12).below x13 (Nat.le_refl _))
    have IB_13 := hide ((unhide IB_12).below x13 (Nat.le_refl _))
    have IC_13 := hide ((unhide IC_12).below x13 (Nat.le_refl _))
    have ID_13 := hide ((unhide ID_12).below x13 (Nat.le_refl _))
    clear HC13 HX12 x13 I5_12 I6_12 IA_12 IB_12 IC_12 ID_12 HS3
    go_wp2_with fail
    refine bodyPost_ret (results_tmp rfl _ _ _) rfl ⟨rfl, unhide HX13⟩

end Go.Proofs.Ytkmbkoajbmlgaaa
end
