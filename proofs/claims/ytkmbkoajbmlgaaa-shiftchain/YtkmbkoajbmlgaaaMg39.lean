/- Layer 14: the document's Over and Both, and great, for lists of any size (written by wip/tools/shb.py). · Layer 14, the document's Chain for lists of any size (written by wip/tools/shd.py out of Sgx). -/
import Derived.Test.YtkmbkoajbmlgaaaMg35
import Derived.Test.YtkmbkoajbmlgaaaMg38
import Derived.Test.YtkmbkoajbmlgaaaMg37

section
namespace Go.Proofs.Ytkmbkoajbmlgaaa
open Go.ChangeShapes Go.WideShapes Go.ChangeAt Go.RowKit
attribute [local go_sem] Oper.semAt_some

set_option maxRecDepth 100000 in
set_option maxHeartbeats 4000000 in
theorem ROver14V_at (a : Option Addr) (c : Nat) (d : List Dop) (a' : Option Addr) (c' : Nat) (e : List Dop) (f : Bool) (w : World) (h : IsO w a d) (h' : IsO w a' e) (ht : vW d = valB d) (ht' : vW e = valB e) (hl : d.length ≤ 4611686018427387904) (hl' : e.length ≤ 4611686018427387904) :
    Calls Try.prog 33 #[.slice a d.length c, .slice a' e.length c', .bool f] w fun y w' => ∃ v, y = .returned (.tuple #[v, .int .i64 (ovE d e f)]) ∧ w'.ownsRow w.heap.size 34 3 v (ovD d e f).length (opsV (ovD d e f)) ∧ Below w.heap.size w w' := by
  have HVA := hide (RValid14V_at a c d w h hl ht)
  have HVB := hide fun (X : World) (hX : Below w.heap.size w X) => RValid14V_at a' c' e X (h'.below hX (Nat.le_refl _)) hl' ht'
  cases hv : valB d with
  | false =>
    have hE : ovE d e f = 130 := by unfold ovE; rw [hv]; rfl
    have hD : ovD d e f = [] := by unfold ovD; rw [hE]; rfl
    rw [hE, hD]
    rw [hv] at HVA
    clear h h' hE hD hv HVB
    go_enter Try.func33, Try.ntmps33
    go_wp2_with fail
    refine (unhide HVA).mono ?_
    rintro y w1 ⟨rfl, x1⟩
    dsimp only
    clear HVA
    go_wp2_with fail
    refine bodyPost_ret (results_tmp2 rfl _ _ _) rfl ⟨.slice none 0 0, rfl, ⟨rfl, .inl ⟨rfl, rfl⟩⟩, x1⟩
  | true =>
    cases hv' : valB e with
    | false =>
      have hE : ovE d e f = 130 := by unfold ovE; rw [hv, hv']; rfl
      have hD : ovD d e f = [] := by unfold ovD; rw [hE]; rfl
      rw [hE, hD]
      rw [hv] at HVA
      rw [hv'] at HVB
      clear h h' hE hD hv hv'
      go_enter Try.func33, Try.ntmps33
      go_wp2_with fail
      refine (unhide HVA).mono ?_
      rintro y w1 ⟨rfl, x1⟩
      dsimp only
      have HC := hide (unhide HVB w1 x1)
      have HX := hide x1
      clear HVA HVB x1
      go_wp2_with fail
      refine (unhide HC).mono ?_
      rintro y w2 ⟨rfl, x2⟩
      dsimp only
      have HX2 := hide ((unhide HX).trans (x2.mono (unhide HX).size))
      clear HC HX x2
      go_wp2_with fail
      refine bodyPost_ret (results_tmp2 rfl _ _ _) rfl ⟨.slice none 0 0, rfl, ⟨rfl, .inl ⟨rfl, rfl⟩⟩, unhide HX2⟩
    | true =>
      by_cases hf : frD d = frD e
      · exact ROver_main a c d a' c' e f w h h' hl hl' hv hv' hf
      · have hE : ovE d e f = 131 := by unfold ovE; rw [hv, hv', if_neg hf]; rfl
        have hD : ovD d e f = [] := by unfold ovD; rw [hE]; rfl
        have hnn := (valB_nn hv).2
        have hnn' := (valB_nn hv').2
        have HLA := hide fun (X : World) (hX : Below w.heap.size w X) => lens14_at a c d X (h.below hX (Nat.le_refl _)) hl (val_PlO hv) (by omega) (by omega)
        have HLB := hide fun (X : World) (hX : Below w.heap.size w X) => lens14_at a' c' e X (h'.below hX (Nat.le_refl _)) hl' (val_PlO hv') (by omega) (by omega)
        rw [hE, hD]
        rw [hv] at HVA
        rw [hv'] at HVB
        clear h h' hE hD hv hv' hnn hnn'
        generalize frD d = fd at *
        generalize frD e = fe at *
        generalize toD d = td at *
        generalize toD e = te at *
        have t1 : ((fd : Int) != (fe : Int)) = true := by simp; omega
        clear hf
        go_enter Try.func33, Try.ntmps33
        go_wp2_with fail
        refine (unhide HVA).mono ?_
        rintro y w1 ⟨rfl, x1⟩
        dsimp only
        have HX1 := hide x1
        have HC1 := hide (unhide HVB w1 x1)
        clear HVA HVB x1
        go_wp2_with fail
        refine (unhide HC1).mono ?_
        rintro y w2 ⟨rfl, x2⟩
        dsimp only
        have HX2 := hide ((unhide HX1).trans (x2.mono (unhide HX1).size))
        have HC2 := hide (unhide HLA w2 (unhide HX2))
        clear HC1 HX1 x2 HLA
        go_wp2_with fail
        refine (unhide HC2).mono ?_
        rintro y w3 ⟨rfl, x3⟩
        dsimp only
        have HX3 := hide ((unhide HX2).trans (x3.mono (unhide HX2).size))
        have HC3 := hide (unhide HLB w3 (unhide HX3))
        clear HC2 HX2 x3 HLB
        go_wp2_with fail
        refine (unhide HC3).mono ?_
        rintro y w4 ⟨rfl, x4⟩
        dsimp only
        have HX4 := hide ((unhide HX3).trans (x4.mono (unhide HX3).size))
        clear HC3 HX3 x4
        go_wp2_with fail
        refine bodyPost_ret (results_tmp2 rfl _ _ _) rfl ⟨.slice none 0 0, rfl, ⟨rfl, .inl ⟨rfl, rfl⟩⟩, unhide HX4⟩
theorem ROverOV_at (a : Option Addr) (c : Nat) (d : List Dop) (a' : Option Addr) (c' : Nat) (e : List Dop) (f : Bool) (w : World) (h : IsO w a d) (h' : IsO w a' e) (ht : vW d = valB d) (ht' : vW e = valB e) (hl : d.length ≤ 4611686018427387904) (hl' : e.length ≤ 4611686018427387904) :
    Calls Try.prog 33 #[.slice a d.length c, .slice a' e.length c', .bool f] w fun y w' => ∃ a2 c2, y = .returned (.tuple #[.slice a2 (ovD d e f).length c2, .int .i64 (ovE d e f)]) ∧ (IsO w' a2 (ovD d e f) ∧ (ovD d e f).length ≤ c2) ∧ Below w.heap.size w w' :=
  (ROver14V_at a c d a' c' e f w h h' ht ht' hl hl').mono fun y w' ⟨v, e, ho, x⟩ => by
    obtain ⟨a2, c2, rfl, h1, h2⟩ := own_isO ho
    exact ⟨a2, c2, e, ⟨h1, h2⟩, x⟩
set_option maxRecDepth 100000 in
set_option maxHeartbeats 4000000 in
theorem RBoth14V_at (a : Option Addr) (c : Nat) (d : List Dop) (a' : Option Addr) (c' : Nat) (e : List Dop) (w : World) (h : IsO w a d) (h' : IsO w a' e) (ht : vW d = valB d) (ht' : vW e = valB e) (hl : d.length ≤ 4611686018427387904) (hl' : e.length ≤ 4611686018427387904) :
    Calls Try.prog 35 #[.slice a d.length c, .slice a' e.length c'] w fun y w' => ∃ a2 c2 a3 c3, y = .returned (.tuple #[.slice a2 (boA d e).length c2, .slice a3 (boB d e).length c3, .int .i64 (boE d e)]) ∧ (IsO w' a2 (boA d e) ∧ (boA d e).length ≤ c2) ∧ (IsO w' a3 (boB d e) ∧ (boB d e).length ≤ c3) ∧ Below w.heap.size w w' := by
  have H1 := hide (ROverOV_at a' c' e a c d true w h' h ht' ht hl' hl)
  have H2 := hide fun (X : World) (hX : Below w.heap.size w X) => ROverOV_at a c d a' c' e false X (h.below hX (Nat.le_refl _)) (h'.below hX (Nat.le_refl _)) ht ht' hl hl'
  obtain ⟨E1, hE1⟩ : ∃ E1, E1 = ovE e d true := ⟨_, rfl⟩
  obtain ⟨E2, hE2⟩ : ∃ E2, E2 = ovE d e false := ⟨_, rfl⟩
  obtain ⟨L1, hL1⟩ : ∃ L1, L1 = ovD e d true := ⟨_, rfl⟩
  obtain ⟨L2, hL2⟩ : ∃ L2, L2 = ovD d e false := ⟨_, rfl⟩
  have hbE : boE d e = if E1 = 0 then E2 else E1 := by unfold boE; rw [hE1, hE2]
  have hbA : boA d e = if (if E1 = 0 then E2 else E1) = 0 then L1 else [] := by unfold boA; rw [hbE, hL1]
  have hbB : boB d e = if (if E1 = 0 then E2 else E1) = 0 then L2 else [] := by unfold boB; rw [hbE, hL2]
  rw [hbE, hbA, hbB]
  rw [← hE1, ← hL1] at H1
  rw [← hE2, ← hL2] at H2
  clear h h' ht ht' hl hl' hE1 hE2 hL1 hL2 hbE hbA hbB
  by_cases e1 : E1 = 0
  · subst e1
    simp only [if_true]
    by_cases e2 : E2 = 0
    · subst e2
      simp only [if_true]
      go_enter Try.func35, Try.ntmps35
      go_wp2_with fail
      refine (unhide H1).mono ?_
      rintro y w1 ⟨a2, c2, rfl, i2, x1⟩
      dsimp only
      have HX1 := hide x1
      have HI := hide i2
      have HC := hide (unhide H2 w1 x1)
      clear H1 H2 i2 x1
      go_wp2_with fail
      refine (unhide HC).mono ?_
      rintro y w2 ⟨a3, c3, rfl, i3, x2⟩
      dsimp only
      have HI2 := hide (And.intro (And.intro ((unhide HI).1.below x2 (Nat.le_refl _)) (unhide HI).2) i3)
      have HX2 := hide ((unhide HX1).trans (x2.mono (unhide HX1).size))
      clear HC HI HX1 i3 x2
      go_wp2_with fail
      refine bodyPost_ret (results_tmp3 rfl _ _) rfl ⟨_, _, _, _, rfl, (unhide HI2).1, (unhide HI2).2, unhide HX2⟩
    · have t2 : (E2 != 0) = true := by simpa using e2
      have t2' : (E2 == 0) = false := by simpa using e2
      rw [if_neg e2, if_neg e2]
      go_enter Try.func35, Try.ntmps35
      go_wp2_with fail
      refine (unhide H1).mono ?_
      rintro y w1 ⟨a2, c2, rfl, _, x1⟩
      dsimp only
      have HX1 := hide x1
      have HC := hide (unhide H2 w1 x1)
      clear H1 H2 x1
      go_wp2_with fail
      refine (unhide HC).mono ?_
      rintro y w2 ⟨a3, c3, rfl, _, x2⟩
      dsimp only
      have HX2 := hide ((unhide HX1).trans (x2.mono (unhide HX1).size))
      clear HC HX1 x2 e2
      go_wp2_with fail
      refine bodyPost_ret (results_tmp3 rfl _ _) rfl ⟨none, 0, none, 0, rfl, ⟨.inl rfl, by simp⟩, ⟨.inl rfl, by simp⟩, unhide HX2⟩
  · have t1 : (E1 != 0) = true := by simpa using e1
    have t1' : (E1 == 0) = false := by simpa using e1
    rw [if_neg e1, if_neg e1, if_neg e1]
    go_enter Try.func35, Try.ntmps35
    go_wp2_with fail
    refine (unhide H1).mono ?_
    rintro y w1 ⟨a2, c2, rfl, _, x1⟩
    dsimp only
    have HX1 := hide x1
    clear H1 H2 x1 e1
    go_wp2_with fail
    refine bodyPost_ret (results_tmp3 rfl _ _) rfl ⟨none, 0, none, 0, rfl, ⟨.inl rfl, by simp⟩, ⟨.inl rfl, by simp⟩, unhide HX1⟩
set_option maxRecDepth 100000 in
set_option maxHeartbeats 1000000 in
theorem RLens14W_at (a : Option Addr) (c : Nat) (d : List Dop) (w : World) (h : IsO w a d) (hl : d.length ≤ 4611686018427387904) (hv : vW d = true) :
    Calls Try.prog 75 #[.slice a d.length c] w fun y w' => y = .returned (.tuple #[.int .i64 (frD d : Int), .int .i64 (wrap64 (toD d : Int))]) ∧ Below w.heap.size w w' := by
  have hv' := hv
  unfold vW at hv'
  simp only [Bool.and_eq_true] at hv'
  have HL := hide (lens14W_at a c d w h hl (pl_of hv'.1 hv'.2.1) (Nat.le_trans (of_decide_eq_true hv'.2.2.1) (by decide)))
  clear h hl hv hv'
  go_enter Try.func75, Try.ntmps75
  go_wp2_with fail
  refine (unhide HL).mono ?_
  rintro y w1 ⟨rfl, x1⟩
  dsimp only
  clear HL
  go_wp2_with fail
  refine bodyPost_ret (results_tmp2 rfl _ _ _) rfl ⟨rfl, x1⟩
def gw1 (x : Dl) : Bool := vW x.d && decide (5000 < frD x.d)
def gwB (ds : List Dl) : Bool := ds.any gw1
theorem gw_take {ds : List Dl} {k : Nat} (hk : k < ds.length) : gwB (ds.take (k + 1)) = (gwB (ds.take k) || gw1 (ds.getD k dlZ)) := by
  unfold gwB
  rw [List.take_add_one, List.getElem?_eq_getElem hk, Option.toList_some, List.any_append]
  simp [List.getD, List.getElem?_eq_getElem hk]
theorem gw_yes {ds : List Dl} {k : Nat} (hk : k < ds.length) (h : gw1 (ds.getD k dlZ) = true) : gwB ds = true := List.any_eq_true.2 ⟨_, mem_dl hk, h⟩
/-- where none is great, the document's Valid is right of each -/
theorem gw_ok {ds : List Dl} (h : gwB ds = false) {x : Dl} (hx : x ∈ ds) (ht : ∀ o ∈ x.d, o.t.length ≤ 140737488355328) : vW x.d = valB x.d := by
  refine vw_small ht ?_
  have h1 : gw1 x = false := by
    cases hg : gw1 x with
    | false => rfl
    | true => rw [show gwB ds = true from List.any_eq_true.2 ⟨x, hx, hg⟩] at h; cases h
  unfold gw1 at h1
  cases hv : vW x.d with
  | false => exact .inl rfl
  | true =>
    rw [hv] at h1
    right
    have := of_decide_eq_false (show decide (5000 < frD x.d) = false by simpa using h1)
    omega
set_option maxRecDepth 100000 in
set_option maxHeartbeats 4000000 in
theorem great14W_at (A0 : Option Addr) (cc : Nat) (ds : List Dl) (w X : World) (h : IsDx w X A0 ds) (hd : Below w.heap.size w X) (hl : ds.length ≤ 4611686018427387904) (hds : ∀ x ∈ ds, x.d.length ≤ 4611686018427387904) :
    Calls Try.prog 31 #[.slice A0 ds.length cc] X fun y X' => y = .returned (.bool (gwB ds)) ∧ Below X.heap.size X X' := by
  have HH := hide fun (Y : World) (hY : Below X.heap.size X Y) => h.on hY
  have HW := hide fun (Y : World) (hY : Below X.heap.size X Y) => hd.trans (hY.mono hd.size)
  have HDS := hide hds
  obtain ⟨V, hV⟩ : ∃ V, V = gwB ds := ⟨_, rfl⟩
  rw [← hV]
  have HV := hide hV
  clear h hd hds hV
  go_enter Try.func31, Try.ntmps31
  go_wp2_with fail
  go_loopw [4, 5, 6, 9] (fun v4 v5 v6 v9 wx => ((∃ z, v4 = z) ∧ (∃ z, v5 = z) ∧ (∃ z, v6 = z)) ∧ ∃ k : Nat, v9 = .int .i64 (k : Int) ∧ k ≤ ds.length ∧ Hid (gwB (ds.take k) = false ∧ Below X.heap.size X wx)) (fun _ _ _ v9 _ => ds.length - (intOf v9).toNat)
  case atStart => exact ⟨⟨⟨_, rfl⟩, ⟨_, rfl⟩, ⟨_, rfl⟩⟩, ⟨0, rfl, Nat.zero_le _, hide ⟨rfl, Below.refl _ _⟩⟩⟩
  case round =>
    obtain ⟨⟨⟨z1, rfl⟩, ⟨z2, rfl⟩, ⟨z3, rfl⟩⟩, ⟨k, rfl, hk, HI⟩⟩ := hrel
    by_cases hlt : k < ds.length
    · obtain ⟨s1, s2, s3⟩ := dlt hlt
      have hS := unhide HH wr (unhide HI).2
      obtain ⟨gA, oA, hA0, _, q0⟩ := hS.c k hlt
      subst hA0
      have hO := (hS.o k hlt).1
      have hlen := unhide HDS _ (mem_dl hlt)
      have HY := hide (gw_yes hlt)
      have HT := hide (gw_take hlt)
      have Wk := gr_w hlt hl
      have HLT := hide hlt
      have HVA := hide (RValid14W_at (ds.getD k dlZ).a (ds.getD k dlZ).c (ds.getD k dlZ).d wr (hO.below (unhide HW wr (unhide HI).2) (Nat.le_refl _)) hlen)
      have HLN := hide fun (Y : World) (hY : Below X.heap.size X Y) (hv : vW (ds.getD k dlZ).d = true) => RLens14W_at (ds.getD k dlZ).a (ds.getD k dlZ).c (ds.getD k dlZ).d Y (hO.below (unhide HW Y hY) (Nat.le_refl _)) hlen hv
      clear hS hO hlen hk
      unfold gw1 at HY HT
      generalize ds.getD k dlZ = q at *
      obtain ⟨qa, qc, qd⟩ := q
      dsimp only at *
      cases hv : vW qd with
      | false =>
        rw [hv] at HVA HT
        have HN : Hid (gwB (ds.take (k + 1)) = false) := hide (by rw [unhide HT, (unhide HI).1]; rfl)
        have HB := hide (unhide HI).2
        clear HT HY HLN hv HI
        go_wp2_with fail
        refine (unhide HVA).mono ?_
        rintro y w1 ⟨rfl, x1⟩
        dsimp only
        have HB2 := hide ((unhide HB).trans (x1.mono (unhide HB).size))
        clear HVA HB x1
        go_wp2_with fail
        go_roundw
        case rel => exact ⟨⟨⟨_, rfl⟩, ⟨_, rfl⟩, ⟨_, rfl⟩⟩, ⟨k + 1, by first | rfl | exact congrArg _ Wk | go_num, hlt, hide ⟨unhide HN, unhide HB2⟩⟩⟩
        case measure => first | exact gr_ms3 hlt | exact gr_ms hlt Wk
      | true =>
        rw [hv] at HVA HT HY
        have HB := hide (unhide HI).2
        have HI1 := hide (unhide HI).1
        have HVV := hide hv
        clear hv HI
        go_wp2_with fail
        refine (unhide HVA).mono ?_
        rintro y w1 ⟨rfl, x1⟩
        dsimp only
        have HB2 := hide ((unhide HB).trans (x1.mono (unhide HB).size))
        have HC := hide (unhide HLN w1 (unhide HB2) (unhide HVV))
        clear HVA HB x1 HLN HVV
        go_wp2_with fail
        refine (unhide HC).mono ?_
        rintro y w2 ⟨rfl, x2⟩
        dsimp only
        have HB3 := hide ((unhide HB2).trans (x2.mono (unhide HB2).size))
        clear HC HB2 x2
        generalize frD qd = fr at *
        generalize wrap64 (toD qd : Int) = tq at *
        rcases t5000 fr with ⟨_, b1, b2, b3⟩ | ⟨_, b1, b2, b3⟩
        · have HV2 : Hid (V = true) := hide (by rw [unhide HV]; exact unhide HY (by rw [b3]; rfl))
          clear HT HY HI1
          go_wp2_with fail
          rw [unhide HV2]
          refine bodyPost_ret (results_tmp rfl _ _ _) rfl ⟨rfl, unhide HB3⟩
        · have HN : Hid (gwB (ds.take (k + 1)) = false) := hide (by rw [unhide HT, unhide HI1, b3]; rfl)
          clear HT HY HI1
          go_wp2_with fail
          go_roundw
          case rel => exact ⟨⟨⟨_, rfl⟩, ⟨_, rfl⟩, ⟨_, rfl⟩⟩, ⟨k + 1, by first | rfl | exact congrArg _ Wk | go_num, hlt, hide ⟨unhide HN, unhide HB3⟩⟩⟩
          case measure => first | exact gr_ms3 hlt | exact gr_ms hlt Wk
    · obtain rfl : k = ds.length := Nat.le_antisymm hk (Nat.not_lt.1 hlt)
      obtain ⟨s1, s2, s3⟩ := dnl hlt
      have HV2 : Hid (V = false) := hide (by have := (unhide HI).1; rw [List.take_length] at this; rw [unhide HV]; exact this)
      have HB := hide (unhide HI).2
      clear HI hk hlt
      go_wp2_with fail
      rw [unhide HV2]
      refine bodyPost_ret (results_tmp rfl _ _ _) rfl ⟨rfl, unhide HB⟩

end Go.Proofs.Ytkmbkoajbmlgaaa
end

section
namespace Go.Proofs.Ytkmbkoajbmlgaaa
open Go.ChangeShapes Go.WideShapes Go.ChangeAt Go.RowKit
attribute [local go_sem] Oper.semAt_some

theorem len24 {n : Nat} (h : n * 24 ≤ 140737488355328) : n ≤ 4611686018427387904 := by omega
theorem two_kV {k n : Nat} (hn : n ≤ 4611686018427387904) (hk : k ≤ n) : wrap64 ((k : Int) + 1) = ((k + 1 : Nat) : Int) := by rw [wrapD _ (by omega) (by omega)]; omega
theorem ch_szV {L : List (List Dop)} {k n : Nat} (h1 : L.length = k) (h2 : k < n) (h3 : n * 24 ≤ 140737488355328) : (L.length + 1) * 24 ≤ 140737488355328 := by rw [h1]; omega
set_option maxRecDepth 100000 in
set_option maxHeartbeats 4000000 in
theorem RBothR14V_at (a : Option Addr) (c : Nat) (d : List Dop) (a' : Option Addr) (c' : Nat) (e : List Dop) (w : World) (h : IsO w a d) (h' : IsO w a' e) (ht : vW d = valB d) (ht' : vW e = valB e) (hl : d.length ≤ 4611686018427387904) (hl' : e.length ≤ 4611686018427387904) :
    Calls Try.prog 35 #[.slice a d.length c, .slice a' e.length c'] w fun y w' => ∃ v2 v3, y = .returned (.tuple #[v2, v3, .int .i64 (boE d e)]) ∧ w'.ownsRow w.heap.size 34 3 v2 (boA d e).length (opsV (boA d e)) ∧ w'.ownsRow w.heap.size 34 3 v3 (boB d e).length (opsV (boB d e)) ∧ Below w.heap.size w w' := by
  have H1 := hide (ROver14V_at a' c' e a c d true w h' h ht' ht hl' hl)
  have H2 := hide fun (X : World) (hX : Below w.heap.size w X) => ROver14V_at a c d a' c' e false X (h.below hX (Nat.le_refl _)) (h'.below hX (Nat.le_refl _)) ht ht' hl hl'
  obtain ⟨E1, hE1⟩ : ∃ E1, E1 = ovE e d true := ⟨_, rfl⟩
  obtain ⟨E2, hE2⟩ : ∃ E2, E2 = ovE d e false := ⟨_, rfl⟩
  obtain ⟨L1, hL1⟩ : ∃ L1, L1 = ovD e d true := ⟨_, rfl⟩
  obtain ⟨L2, hL2⟩ : ∃ L2, L2 = ovD d e false := ⟨_, rfl⟩
  have hbE : boE d e = if E1 = 0 then E2 else E1 := by unfold boE; rw [hE1, hE2]
  have hbA : boA d e = if (if E1 = 0 then E2 else E1) = 0 then L1 else [] := by unfold boA; rw [hbE, hL1]
  have hbB : boB d e = if (if E1 = 0 then E2 else E1) = 0 then L2 else [] := by unfold boB; rw [hbE, hL2]
  rw [hbE, hbA, hbB]
  rw [← hE1, ← hL1] at H1
  rw [← hE2, ← hL2] at H2
  clear h h' ht ht' hl hl' hE1 hE2 hL1 hL2 hbE hbA hbB
  by_cases e1 : E1 = 0
  · subst e1
    simp only [if_true]
    by_cases e2 : E2 = 0
    · subst e2
      simp only [if_true]
      go_enter Try.func35, Try.ntmps35
      go_wp2_with fail
      refine (unhide H1).mono ?_
      rintro y w1 ⟨v2, rfl, i2, x1⟩
      dsimp only
      have HX1 := hide x1
      have HI := hide i2
      have HC := hide (unhide H2 w1 x1)
      clear H1 H2 i2 x1
      go_wp2_with fail
      refine (unhide HC).mono ?_
      rintro y w2 ⟨v3, rfl, i3, x2⟩
      dsimp only
      have HI2 := hide (And.intro (rowD_below (unhide HI) x2 (Nat.le_refl _)) (own_lower i3 (unhide HX1).size))
      have HX2 := hide ((unhide HX1).trans (x2.mono (unhide HX1).size))
      clear HC HI HX1 i3 x2
      go_wp2_with fail
      refine bodyPost_ret (results_tmp3 rfl _ _) rfl ⟨_, _, rfl, (unhide HI2).1, (unhide HI2).2, unhide HX2⟩
    · have t2 : (E2 != 0) = true := by simpa using e2
      have t2' : (E2 == 0) = false := by simpa using e2
      rw [if_neg e2, if_neg e2]
      go_enter Try.func35, Try.ntmps35
      go_wp2_with fail
      refine (unhide H1).mono ?_
      rintro y w1 ⟨v2, rfl, _, x1⟩
      dsimp only
      have HX1 := hide x1
      have HC := hide (unhide H2 w1 x1)
      clear H1 H2 x1
      go_wp2_with fail
      refine (unhide HC).mono ?_
      rintro y w2 ⟨v3, rfl, _, x2⟩
      dsimp only
      have HX2 := hide ((unhide HX1).trans (x2.mono (unhide HX1).size))
      clear HC HX1 x2 e2
      go_wp2_with fail
      refine bodyPost_ret (results_tmp3 rfl _ _) rfl ⟨.slice none 0 0, .slice none 0 0, rfl, row_nilD _ _, row_nilD _ _, unhide HX2⟩
  · have t1 : (E1 != 0) = true := by simpa using e1
    have t1' : (E1 == 0) = false := by simpa using e1
    rw [if_neg e1, if_neg e1, if_neg e1]
    go_enter Try.func35, Try.ntmps35
    go_wp2_with fail
    refine (unhide H1).mono ?_
    rintro y w1 ⟨v2, rfl, _, x1⟩
    dsimp only
    have HX1 := hide x1
    clear H1 H2 x1 e1
    go_wp2_with fail
    refine bodyPost_ret (results_tmp3 rfl _ _) rfl ⟨.slice none 0 0, .slice none 0 0, rfl, row_nilD _ _, row_nilD _ _, unhide HX1⟩
set_option maxRecDepth 100000 in
set_option maxHeartbeats 8000000 in
theorem RChain14V_at (A0 : Option Addr) (cc : Nat) (ds : List Dl) (a' : Option Addr) (c' : Nat) (e : List Dop) (w : World) (h : IsDx w w A0 ds) (h' : IsO w a' e) (hl : ds.length * 24 ≤ 140737488355328) (hl' : e.length ≤ 4611686018427387904) (ht' : vW e = valB e) (hds : ∀ x ∈ ds, x.d.length ≤ 4611686018427387904 ∧ vW x.d = valB x.d) :
    Calls Try.prog 38 #[.slice A0 ds.length cc, .slice a' e.length c'] w (RChP ds e w) := by
  have HH := hide fun (Y : World) (hY : Below w.heap.size w Y) => h.on hY
  have HDS := hide hds
  have HVE := hide fun (X : World) (hX : Below w.heap.size w X) => RValid14V_at a' c' e X (h'.below hX (Nat.le_refl _)) hl' ht'
  have HEI := hide fun (X : World) (hX : Below w.heap.size w X) => h'.below hX (Nat.le_refl _)
  have HTE := hide (And.intro ht' hl')
  have hnil : ∀ (X : World), Below w.heap.size w X → ∀ E : Int, cnQ ds e = (([], []), E) → RChP ds e w (.returned (.tuple #[.slice none 0 0, .slice none 0 0, .int .i64 E])) X := fun X hX E hE => by
    refine ⟨none, 0, .slice none 0 0, by rw [hE]; rfl, by rw [hE]; exact .inl rfl, by rw [hE]; exact ChM.nil w X hX⟩
  have HNIL := hide hnil
  clear h h' hds ht' hl' hnil
  go_enter Try.func38, Try.ntmps38
  go_wp2_with fail
  go_loopw [7] (fun v7 wx => ∃ k : Nat, v7 = .int .i64 (k : Int) ∧ k ≤ ds.length ∧ Hid ((ds.take k).all (fun x => valB x.d) = true ∧ Below w.heap.size w wx)) (fun v7 _ => ds.length - (intOf v7).toNat)
  case atStart => exact ⟨0, rfl, Nat.zero_le _, hide ⟨rfl, Below.refl _ _⟩⟩
  case round =>
    obtain ⟨k, rfl, hk, HI⟩ := hrel
    by_cases hlt : k < ds.length
    · obtain ⟨s1, s2, s3⟩ := dlt hlt
      have hS := unhide HH wr (unhide HI).2
      obtain ⟨gA, oA, hA0, _, q0⟩ := hS.c k hlt
      subst hA0
      have hO := (hS.o k hlt).1
      obtain ⟨hlen, htx⟩ := unhide HDS _ (mem_dl hlt)
      have HVA := hide (RValid14V_at (ds.getD k dlZ).a (ds.getD k dlZ).c (ds.getD k dlZ).d wr (hO.below (unhide HI).2 (Nat.le_refl _)) hlen htx)
      have HT := hide (all_dl hlt)
      have HNO := hide (all_dn hlt)
      have Wk := gr_w hlt (len24 hl)
      have HB := hide (unhide HI).2
      have HI1 := hide (unhide HI).1
      clear hS hO hlen htx hk HI
      generalize ds.getD k dlZ = q at *
      obtain ⟨qa, qc, qd⟩ := q
      dsimp only at *
      go_wp2_with fail
      refine (unhide HVA).mono ?_
      rintro y w1 ⟨rfl, x1⟩
      dsimp only
      have HB2 := hide ((unhide HB).trans (x1.mono (unhide HB).size))
      cases hv : valB qd with
      | false =>
        have HQ := hide (unhide HNIL w1 (unhide HB2) 130 (cn_130 (.inl (unhide HNO hv))))
        clear HVA HB x1 hv HT HNO HI1 q0
        go_wp2_with fail
        refine bodyPost_ret (results_tmp3 rfl _ _) rfl ?_
        exact unhide HQ
      | true =>
        have HN : Hid ((ds.take (k + 1)).all (fun x => valB x.d) = true) := hide (by rw [unhide HT, unhide HI1, hv]; rfl)
        clear HVA HB x1 hv HT HNO HI1 q0
        go_wp2_with fail
        go_roundw
        case rel => exact ⟨k + 1, by first | rfl | exact congrArg _ Wk | go_num, hlt, hide ⟨unhide HN, unhide HB2⟩⟩
        case measure => first | exact gr_ms3 hlt | exact gr_ms hlt Wk
    · obtain rfl : k = ds.length := Nat.le_antisymm hk (Nat.not_lt.1 hlt)
      obtain ⟨s1, s2, s3⟩ := dnl hlt
      have HAL : Hid (ds.all (fun x => valB x.d) = true) := hide (by have := (unhide HI).1; rw [List.take_length] at this; exact this)
      have HB := hide (unhide HI).2
      have HC := hide (unhide HVE wr (unhide HB))
      clear HI hk hlt HVE
      go_wp2_with fail
      refine (unhide HC).mono ?_
      rintro y w1 ⟨rfl, x1⟩
      dsimp only
      have HB2 := hide ((unhide HB).trans (x1.mono (unhide HB).size))
      clear HC HB x1
      cases hv : valB e with
      | false =>
        have HQ := hide (unhide HNIL w1 (unhide HB2) 130 (cn_130 (.inr hv)))
        clear hv HAL
        go_wp2_with fail
        refine bodyPost_ret (results_tmp3 rfl _ _) rfl ?_
        exact unhide HQ
      | true =>
        have HVV := hide hv
        clear hv s1 s2 s3
        go_wp2_with fail
        go_loopw [8, 9, 10, 11, 12] (fun v8 v9 v10 v11 v12 wx => ((∃ z, v9 = z) ∧ (∃ z, v10 = z) ∧ (∃ z, v11 = z) ∧ (∃ z, v12 = z)) ∧ ∃ k : Nat, v8 = .int .i64 (k : Int) ∧ k ≤ ds.length ∧ Hid ((∀ j, j < k → j + 1 < ds.length → toD (ds.getD j dlZ).d = frD (ds.getD (j + 1) dlZ).d) ∧ Below w.heap.size w wx)) (fun v8 _ _ _ _ _ => ds.length - (intOf v8).toNat)
        case atStart => exact ⟨⟨⟨_, rfl⟩, ⟨_, rfl⟩, ⟨_, rfl⟩, ⟨_, rfl⟩⟩, ⟨0, rfl, Nat.zero_le _, hide ⟨fun j hj => by omega, unhide HB2⟩⟩⟩
        case round =>
          clear HB2
          obtain ⟨⟨⟨z1, rfl⟩, ⟨z2, rfl⟩, ⟨z3, rfl⟩, ⟨z4, rfl⟩⟩, ⟨k, rfl, hk, HI⟩⟩ := hrel
          have Wk := two_kV (len24 hl) hk
          by_cases hlt : k + 1 < ds.length
          · obtain ⟨s1, s2, s3, s4, s5, s6, s7⟩ := dlt1 hlt
            have hlt0 : k < ds.length := Nat.lt_of_succ_lt hlt
            have HS := hide fun X hX => unhide HH X hX
            obtain ⟨gA, oA, hA0, _, q0⟩ := (unhide HH wr (unhide HI).2).c k hlt0
            subst hA0
            obtain ⟨_, _, hA1, _, q1⟩ := (unhide HH wr (unhide HI).2).c (k + 1) hlt
            cases hA1
            have HCE : Hid (∀ X, Below w.heap.size w X → X.cell? ⟨gA, oA + (k + 1), none⟩ = some (.slice (ds.getD (k + 1) dlZ).a (ds.getD (k + 1) dlZ).d.length (ds.getD (k + 1) dlZ).c)) := hide fun X hX => by
              obtain ⟨_, _, e1, _, q⟩ := (unhide HH X hX).c (k + 1) hlt
              cases e1
              exact q
            have v0 := val_dl (unhide HAL) hlt0
            have v1 := val_dl (unhide HAL) hlt
            have n0 := (valB_nn v0).2
            have n1 := (valB_nn v1).2
            have HL0 := hide (lens14_at (ds.getD k dlZ).a (ds.getD k dlZ).c (ds.getD k dlZ).d wr (((unhide HH wr (unhide HI).2).o k hlt0).1.below (unhide HI).2 (Nat.le_refl _)) (unhide HDS _ (mem_dl hlt0)).1 (val_PlO v0) (Nat.le_trans n0.1 (by decide)) (Nat.le_trans n0.2 (by decide)))
            have HL1 := hide fun X (hX : Below w.heap.size w X) => lens14_at (ds.getD (k + 1) dlZ).a (ds.getD (k + 1) dlZ).c (ds.getD (k + 1) dlZ).d X (((unhide HH X hX).o (k + 1) hlt).1.below hX (Nat.le_refl _)) (unhide HDS _ (mem_dl hlt)).1 (val_PlO v1) (Nat.le_trans n1.1 (by decide)) (Nat.le_trans n1.2 (by decide))
            have HB := hide (unhide HI).2
            have HNX : Hid (toD (ds.getD k dlZ).d = frD (ds.getD (k + 1) dlZ).d → ∀ j, j < k + 1 → j + 1 < ds.length → toD (ds.getD j dlZ).d = frD (ds.getD (j + 1) dlZ).d) := hide fun hh j h1 h2 => by
              rcases Nat.lt_or_ge j k with h3 | h3
              · exact (unhide HI).1 j h3 h2
              · obtain rfl : j = k := by omega
                exact hh
            have HNO : Hid (¬ toD (ds.getD k dlZ).d = frD (ds.getD (k + 1) dlZ).d → ¬ LnkD ds) := hide fun hh hL => hh (hL k hlt)
            clear v0 v1 n0 n1 HI HS q1
            generalize ds.getD k dlZ = x at *
            generalize ds.getD (k + 1) dlZ = x' at *
            obtain ⟨xa, xc, xd⟩ := x
            obtain ⟨ya, yc, yd⟩ := x'
            dsimp only at *
            generalize toD xd = tx at *
            generalize frD xd = fx at *
            generalize toD yd = ty at *
            generalize frD yd = fy at *
            go_wp2_with fail
            refine (unhide HL0).mono ?_
            rintro y w2 ⟨rfl, x2⟩
            dsimp only
            have HB3 := hide ((unhide HB).trans (x2.mono (unhide HB).size))
            have HC1 := hide (unhide HL1 w2 (unhide HB3))
            have q1 := unhide HCE w2 (unhide HB3)
            clear HL0 HB x2 HL1 q0 HCE
            go_wp2_with fail
            refine (unhide HC1).mono ?_
            rintro y w3 ⟨rfl, x3⟩
            dsimp only
            have HB4 := hide ((unhide HB3).trans (x3.mono (unhide HB3).size))
            clear HC1 HB3 x3 q1
            by_cases hE : tx = fy
            · subst hE
              have t1 : ((tx : Int) != (tx : Int)) = false := by simp
              have HN2 := hide (unhide HNX rfl)
              clear HNX HNO
              go_wp2_with fail
              go_roundw
              case rel => exact ⟨⟨⟨_, rfl⟩, ⟨_, rfl⟩, ⟨_, rfl⟩, ⟨_, rfl⟩⟩, ⟨k + 1, by first | rfl | exact congrArg _ Wk | go_num, hlt0, hide ⟨unhide HN2, unhide HB4⟩⟩⟩
              case measure => first | exact gr_ms3 hlt0 | exact gr_ms hlt0 Wk
            · have t1 : ((tx : Int) != (fy : Int)) = true := nat_ne hE
              have HQ := hide (unhide HNIL w3 (unhide HB4) 131 (cn_131 (unhide HAL) (unhide HVV) (unhide HNO hE)))
              clear HNX HNO hE
              go_wp2_with fail
              refine bodyPost_ret (results_tmp3 rfl _ _) rfl ?_
              exact unhide HQ
          · obtain ⟨s1, s2, s3, s4⟩ := dnl1 hlt
            have HLK : Hid (LnkD ds) := hide fun j hj => (unhide HI).1 j (by omega) hj
            have HQ0 := hide (cn_doc (unhide HAL) (unhide HVV) (unhide HLK))
            have HB := hide (unhide HI).2
            clear HI HLK hlt hk
            go_wp2_with fail
            go_loopw [1, 13, 14, 15, 16, 17] (fun v1 v13 v14 v15 v16 v17 wx => ((∃ z, v15 = z) ∧ (∃ z, v16 = z) ∧ (∃ z, v17 = z)) ∧ ∃ (k : Nat) (b : List Dop) (L : List (List Dop)) (a1 : Option Addr) (c1 : Nat), v14 = .int .i64 (k : Int) ∧ v1 = .slice a1 b.length c1 ∧ k ≤ ds.length ∧ Hid (ChM w wx (.slice none 0 0) v13 [] L) ∧ Hid (IsO wx a1 b ∧ vW b = valB b ∧ b.length ≤ 4611686018427387904 ∧ L.length = k ∧ cnQ ds e = preL L (chL ((ds.drop k).map (·.d)) b))) (fun _ _ v14 _ _ _ _ => ds.length - (intOf v14).toNat)
            case atStart => exact ⟨⟨⟨_, rfl⟩, ⟨_, rfl⟩, ⟨_, rfl⟩⟩, ⟨0, e, [], _, _, rfl, rfl, Nat.zero_le _, hide (ChM.nil w _ (unhide HB)), hide ⟨unhide HEI _ (unhide HB), (unhide HTE).1, (unhide HTE).2, rfl, by rw [unhide HQ0, List.drop_zero]; exact pre_nil _⟩⟩⟩
            case round =>
              clear HB HQ0
              obtain ⟨⟨⟨z1, rfl⟩, ⟨z2, rfl⟩, ⟨z3, rfl⟩⟩, ⟨k, b, L, a1, c1, rfl, rfl, hk, HM, HI⟩⟩ := hrel
              by_cases hlt : k < ds.length
              · obtain ⟨s1, s2, s3⟩ := dlt hlt
                obtain ⟨i1, i2, i3, i4, i5⟩ := unhide HI
                have hS := unhide HH wr (unhide HM).d
                obtain ⟨gA, oA, hA0, _, q0⟩ := hS.c k hlt
                subst hA0
                have hO := (hS.o k hlt).1.below (unhide HM).d (Nat.le_refl _)
                obtain ⟨hlen, htx⟩ := unhide HDS _ (mem_dl hlt)
                have HBO := hide (RBothR14V_at (ds.getD k dlZ).a (ds.getD k dlZ).c (ds.getD k dlZ).d a1 c1 b wr hO i1 htx i2 hlen i3)
                rw [drop_dl hlt, List.map_cons] at i5
                simp only [chL] at i5
                have Wk := gr_w hlt (len24 hl)
                have hLl := ch_szV i4 hlt hl
                have HLT := hide hlt
                have HI4 := hide i4
                clear HI hS hO hlen htx i1 i2 i3 i4 hk
                generalize ds.getD k dlZ = x at *
                obtain ⟨xa, xc, d⟩ := x
                dsimp only at q0 HBO i5
                by_cases hE : boE d b = 0
                · rw [if_pos hE, pre_pre] at i5
                  rw [hE] at HBO
                  have hv2 : valB (boB d b) = true := by
                    obtain ⟨_, o2, _, eB⟩ := bo_ok hE
                    rw [eB]; exact o2.v
                  have HQ2 := hide (And.intro (vw_val hv2) (And.intro (val_small hv2).1 i5))
                  clear hE hv2 i5
                  generalize boA d b = XA at *
                  generalize boB d b = YB at *
                  go_wp2_with fail
                  refine (unhide HBO).mono ?_
                  rintro y w3 ⟨v2, v3, rfl, o2, o3, x3⟩
                  dsimp only
                  obtain ⟨a6, c6, rfl, _, _⟩ := own_isOC o2
                  obtain ⟨a7, c7, rfl, _, _⟩ := own_isOC o3
                  have hm3 := (unhide HM).on x3
                  have hwl := (unhide HM).d.size
                  obtain ⟨v', W', r2, m2⟩ := hm3.push (own_lower o2 hwl) (own_lower o3 hwl) hLl
                  have R2 := hide r2
                  have HIY := hide (own_isD m2.b)
                  have HM2 : Hid (ChM w W' (.slice none 0 0) v' [] (L ++ [XA])) := hide ⟨row_nilD _ _, m2.l, m2.d⟩
                  clear HBO HM o2 o3 x3 hm3 hwl r2 m2 q0 hLl
                  go_wp2_with (at_builtin; refine wpList_append_known rfl _ _ 57 57 rfl _ _ rfl rfl _ _ (unhide R2) ?_; clear R2)
                  go_roundw
                  case rel => exact ⟨⟨⟨_, rfl⟩, ⟨_, rfl⟩, ⟨_, rfl⟩⟩, ⟨k + 1, YB, L ++ [XA], a7, c7, by first | rfl | exact congrArg _ Wk | go_num, rfl, hlt, HM2, hide ⟨unhide HIY, (unhide HQ2).1, (unhide HQ2).2.1, by simp [unhide HI4], (unhide HQ2).2.2⟩⟩⟩
                  case measure => first | exact gr_ms3 hlt | exact gr_ms hlt Wk
                · rw [if_neg hE, pre_err hE] at i5
                  have t2 : (boE d b != 0) = true := by simpa using hE
                  have HE := hide hE
                  have HQ5 := hide i5
                  clear hE i5
                  generalize boE d b = BE at *
                  generalize boA d b = XA at *
                  generalize boB d b = YB at *
                  go_wp2_with fail
                  refine (unhide HBO).mono ?_
                  rintro y w3 ⟨v2, v3, rfl, o2, o3, x3⟩
                  dsimp only
                  have HQ := hide (unhide HNIL w3 ((unhide HM).on x3).d BE (unhide HQ5))
                  clear HBO HM o2 o3 x3 q0 HQ5
                  go_wp2_with fail
                  refine bodyPost_ret (results_tmp3 rfl _ _) rfl ?_
                  exact unhide HQ
              · obtain rfl : k = ds.length := Nat.le_antisymm hk (Nat.not_lt.1 hlt)
                obtain ⟨s1, s2, s3⟩ := dnl hlt
                obtain ⟨i1, _, _, _, i5⟩ := unhide HI
                rw [List.drop_length] at i5
                have hq : cnQ ds e = ((b, L), 0) := by rw [i5]; simp [chL, preL]
                have HQ : Hid (RChP ds e w (.returned (.tuple #[.slice a1 b.length c1, u13, .int .i64 0])) wr) := hide ⟨a1, c1, u13, by rw [hq], by rw [hq]; exact i1, by rw [hq]; exact unhide HM⟩
                clear HI i1 i5 hq hk hlt
                go_wp2_with fail
                refine bodyPost_ret (results_tmp3 rfl _ _) rfl ?_
                exact unhide HQ


end Go.Proofs.Ytkmbkoajbmlgaaa
end
