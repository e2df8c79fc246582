/- Layer 14: linked and Chain, for lists of deltas that lie anywhere (written by wip/tools/sgh.py). · Layer 14: the document's Over, Both and Lens, and great (written by wip/tools/sgu.py). · Layer 14: ShiftPlaces' walk (written in round 15). · Layer 14: ShiftMeets' walk (written by wip/tools/sfu.py). -/
import Derived.Test.YtkmbkoajbmlgaaaMg34
import Derived.Test.YtkmbkoajbmlgaaaMg33
import Derived.Test.YtkmbkoajbmlgaaaMg31
import Derived.Test.YtkmbkoajbmlgaaaMg28
import Derived.Test.YtkmbkoajbmlgaaaMg29

section
namespace Go.Proofs.Ytkmbkoajbmlgaaa
open Go.ChangeShapes Go.WideShapes Go.ChangeAt Go.RowKit
attribute [local go_sem] Oper.semAt_some

/-- lists of operations in a row of slices that lies anywhere -/
structure IsDx (w X : World) (A0 : Option Addr) (ds : List Dl) : Prop where
  c : ∀ i, i < ds.length → ∃ G O, A0 = some ⟨G, O, none⟩ ∧ G < X.heap.size ∧ X.cell? ⟨G, O + i, none⟩ = some (.slice (ds.getD i dlZ).a (ds.getD i dlZ).d.length (ds.getD i dlZ).c)
  o : ∀ i, i < ds.length → IsO w (ds.getD i dlZ).a (ds.getD i dlZ).d ∧ (∀ o ∈ (ds.getD i dlZ).d, o.t.length ≤ 140737488355328)
theorem IsDx.on {w X Y : World} {A0 : Option Addr} {ds : List Dl} (h : IsDx w X A0 ds) (hb : Below X.heap.size X Y) : IsDx w Y A0 ds :=
  ⟨fun i hi => by
    obtain ⟨G, O, e, hg, hc⟩ := h.c i hi
    exact ⟨G, O, e, Nat.lt_of_lt_of_le hg hb.size, (hb.cell (p := ⟨G, O + i, none⟩) hg).trans hc⟩, h.o⟩
set_option maxRecDepth 100000 in
set_option maxHeartbeats 4000000 in
theorem linkedX_at (A0 : Option Addr) (cc : Nat) (ds : List Dl) (a' : Option Addr) (c' : Nat) (e : List Dop) (w X : World) (h : IsDx w X A0 ds) (h' : IsO w a' e) (hd : Below w.heap.size w X) (hl : ds.length ≤ 4611686018427387904) (hl' : e.length ≤ 4611686018427387904) (hds : ∀ x ∈ ds, x.d.length ≤ 4611686018427387904) :
    Calls Try.prog 76 #[.slice A0 ds.length cc, .slice a' e.length c'] X fun y X' => y = .returned (.int .i64 (lkE ds e)) ∧ Below X.heap.size X X' := by
  have HH := hide fun (Y : World) (hY : Below X.heap.size X Y) => h.on hY
  have HW := hide fun (Y : World) (hY : Below X.heap.size X Y) => hd.trans (hY.mono hd.size)
  have HDS := hide hds
  have HLE := hide (Lens_at a' c' e X (h'.below hd (Nat.le_refl _)) hl')
  obtain ⟨V, hV⟩ : ∃ V, V = lkE ds e := ⟨_, rfl⟩
  rw [← hV]
  unfold lkE at hV
  clear h hd hds h' hl'
  cases hve : valB e with
  | false =>
    rw [hve] at hV
    simp only [Bool.false_eq_true, if_false] at hV
    subst hV
    unfold lensV at HLE
    rw [hve] at HLE
    simp only [Bool.false_eq_true, if_false] at HLE
    clear HH HW HDS hve
    go_enter Try.func76, Try.ntmps76
    go_wp2_with fail
    refine (unhide HLE).mono ?_
    rintro y w1 ⟨rfl, x1⟩
    dsimp only
    clear HLE
    go_wp2_with fail
    refine bodyPost_ret (results_tmp rfl _ _ _) rfl ⟨rfl, x1⟩
  | true =>
    rw [hve] at hV
    simp only [if_true] at hV
    unfold lensV at HLE
    rw [hve] at HLE
    simp only [if_true] at HLE
    have HV := hide hV
    clear hve hV
    generalize frD e = fe at *
    generalize toD e = te at *
    go_enter Try.func76, Try.ntmps76
    go_wp2_with fail
    refine (unhide HLE).mono ?_
    rintro y w1 ⟨rfl, x1⟩
    dsimp only
    have HX1 := hide x1
    clear HLE x1
    go_wp2_with fail
    go_loopw [5, 8, 10, 11, 12, 13, 25, 29] (fun v5 v8 v10 v11 v12 v13 v25 v29 wx => ((∃ z, v10 = z) ∧ (∃ z, v11 = z) ∧ (∃ z, v12 = z) ∧ (∃ z, v13 = z) ∧ (∃ z, v29 = z)) ∧ ∃ (k A : Nat) (F : Bool), v25 = .int .i64 (k : Int) ∧ v5 = .int .i64 (A : Int) ∧ v8 = .bool F ∧ k ≤ ds.length ∧ Hid ((F && lkF A (ds.drop k)) = lkF fe ds ∧ (ds.drop k).all (fun x => valB x.d) = ds.all (fun x => valB x.d) ∧ Below X.heap.size X wx)) (fun _ _ _ _ _ _ v25 _ _ => ds.length - (intOf v25).toNat)
    case atStart => exact ⟨⟨⟨_, rfl⟩, ⟨_, rfl⟩, ⟨_, rfl⟩, ⟨_, rfl⟩, ⟨_, rfl⟩⟩, ⟨0, fe, true, rfl, rfl, rfl, Nat.zero_le _, hide ⟨rfl, rfl, unhide HX1⟩⟩⟩
    case round =>
      clear HX1
      obtain ⟨⟨⟨z1, rfl⟩, ⟨z2, rfl⟩, ⟨z3, rfl⟩, ⟨z4, rfl⟩, ⟨z5, rfl⟩⟩, ⟨k, A, F, rfl, rfl, rfl, hk, HI⟩⟩ := hrel
      by_cases hlt : k < ds.length
      · have s1 : decide ((k : Int) < (ds.length : Int)) = true := decide_eq_true (by omega)
        have s1' : (k : Int) < (ds.length : Int) := by omega
        have hS := unhide HH wr (unhide HI).2.2
        obtain ⟨gA, oA, hA0, _, q0⟩ := hS.c k hlt
        subst hA0
        have hO := (hS.o k hlt).1
        have hlen := unhide HDS _ (mem_dl hlt)
        have hi1 := (unhide HI).1
        have hi2 := (unhide HI).2.1
        rw [drop_dl hlt] at hi1 hi2
        have HB := hide (unhide HI).2.2
        have HLN := hide (Lens_at (ds.getD k dlZ).a (ds.getD k dlZ).c (ds.getD k dlZ).d wr (hO.below (unhide HW wr (unhide HI).2.2) (Nat.le_refl _)) hlen)
        clear HI hS hO hk hlen
        generalize ds.getD k dlZ = x at *
        obtain ⟨xa, xc, d⟩ := x
        dsimp only at q0 HLN
        simp only [lkF, List.all_cons] at hi1 hi2
        unfold lensV at HLN
        cases hvd : valB d with
        | false =>
          rw [hvd] at HLN hi2
          simp only [Bool.false_eq_true, if_false] at HLN
          simp only [Bool.false_and] at hi2
          have hV := unhide HV
          rw [← hi2] at hV
          simp only [Bool.false_eq_true, if_false] at hV
          subst hV
          clear HV hi1 hi2 hvd
          go_wp2_with fail
          refine (unhide HLN).mono ?_
          rintro y w2 ⟨rfl, x2⟩
          dsimp only
          have HX2 := hide ((unhide HB).trans (x2.mono (unhide HB).size))
          clear HLN x2 HB
          go_wp2_with fail
          refine bodyPost_ret (results_tmp rfl _ _ _) rfl ⟨rfl, unhide HX2⟩
        | true =>
          rw [hvd] at HLN hi2
          simp only [if_true] at HLN
          simp only [Bool.true_and] at hi2
          have HI2 := hide hi2
          clear hvd hi2
          go_wp2_with fail
          refine (unhide HLN).mono ?_
          rintro y w2 ⟨rfl, x2⟩
          dsimp only
          have HX2 := hide ((unhide HB).trans (x2.mono (unhide HB).size))
          clear HLN x2 HB q0
          have e1 : ((frD d : Int) == (A : Int)) = decide (frD d = A) := by
            by_cases h : frD d = A
            · rw [h]; simp
            · rw [decide_eq_false h]; simp; omega
          have e2 : (frD d == A) = decide (frD d = A) := rfl
          have HI1 := hide hi1
          clear hi1
          generalize toD d = td at *
          generalize hD : decide (frD d = A) = D at *
          clear hD
          generalize frD d = fd at *
          cases F with
          | false =>
            go_wp2_with fail
            go_roundw
            case rel => exact ⟨⟨⟨_, rfl⟩, ⟨_, rfl⟩, ⟨_, rfl⟩, ⟨_, rfl⟩, ⟨_, rfl⟩⟩, ⟨k + 1, td, false, by go_num, rfl, rfl, hlt, hide ⟨by have := unhide HI1; simpa using this, unhide HI2, unhide HX2⟩⟩⟩
            case measure => simp [intOf]; omega
          | true =>
            go_wp2_with fail
            try rw [e1]
            go_roundw
            case rel => exact ⟨⟨⟨_, rfl⟩, ⟨_, rfl⟩, ⟨_, rfl⟩, ⟨_, rfl⟩, ⟨_, rfl⟩⟩, ⟨k + 1, td, D, by go_num, rfl, by first | rfl | rw [e1] | rw [e2], hlt, hide ⟨by have := unhide HI1; simpa using this, unhide HI2, unhide HX2⟩⟩⟩
            case measure => simp [intOf]; omega
      · obtain rfl : k = ds.length := by omega
        have s1 : decide ((ds.length : Int) < (ds.length : Int)) = false := by simp
        have hi1 := (unhide HI).1
        have hi2 := (unhide HI).2.1
        rw [List.drop_length] at hi1 hi2
        simp only [lkF, Bool.and_true, List.all_nil] at hi1 hi2
        have hV := unhide HV
        rw [← hi1, ← hi2] at hV
        simp only [if_true] at hV
        have HB := hide (unhide HI).2.2
        clear HI HV hi1 hi2 hk hlt
        cases F with
        | false =>
          simp only [Bool.false_eq_true, if_false] at hV
          subst hV
          go_wp2_with fail
          refine bodyPost_ret (results_tmp rfl _ _ _) rfl ⟨rfl, unhide HB⟩
        | true =>
          simp only [if_true] at hV
          subst hV
          go_wp2_with fail
          refine bodyPost_ret (results_tmp rfl _ _ _) rfl ⟨rfl, unhide HB⟩

set_option maxRecDepth 100000 in
set_option maxHeartbeats 4000000 in
theorem ChainX_at (A0 : Option Addr) (cc : Nat) (ds : List Dl) (a' : Option Addr) (c' : Nat) (e : List Dop) (w : World) (h : IsDx w w A0 ds) (h' : IsO w a' e) (hl : ds.length * 24 ≤ 140737488355328) (hl' : e.length * 32 ≤ 140737488355328) (hds : ∀ x ∈ ds, x.d.length ≤ 4611686018427387904 ∧ x.d.length ≤ x.c) :
    Calls Try.prog 37 #[.slice A0 ds.length cc, .slice a' e.length c'] w fun y w' => ∃ v1 v8, y = .returned (.tuple #[v1, v8, .int .i64 (cnQ ds e).2]) ∧ ChM w w' v1 v8 (cnQ ds e).1.1 (cnQ ds e).1.2 := by
  have HLK := hide (linkedX_at A0 cc ds a' c' e w w h h' (Below.refl _ _) (by omega) (by omega) (fun x hx => (hds x hx).1))
  obtain ⟨Q, hQ⟩ : ∃ Q, Q = cnQ ds e := ⟨_, rfl⟩
  rw [← hQ]
  unfold cnQ at hQ
  by_cases hE : lkE ds e = 0
  · rw [hE] at HLK
    rw [if_pos hE] at hQ
    have HVE := hide (lk_val hE)
    have HCL := hide fun (X : World) (hX : Below w.heap.size w X) => clone_at a' c' e X (h'.below hX (Nat.le_refl _)) hl'
    have HH := hide fun (Y : World) (hY : Below w.heap.size w Y) => h.on hY
    have HDS := hide hds
    have HQ := hide hQ
    clear h h' hl' hds hE hQ
    go_enter Try.func37, Try.ntmps37
    go_wp2_with fail
    refine (unhide HLK).mono ?_
    rintro y w1 ⟨rfl, x1⟩
    dsimp only
    have HX1 := hide x1
    have HC1 := hide (unhide HCL w1 x1)
    clear HLK HCL x1
    go_wp2_with fail
    refine (unhide HC1).mono ?_
    rintro y w2 ⟨v1, rfl, o1, x2⟩
    dsimp only
    have HM0 : Hid (ChM w w2 v1 (.slice none 0 0) e []) := hide ⟨own_lower o1 (unhide HX1).size, ⟨[], World.ownsRow_nil _ _ _ _, rfl, fun i hi => by simp at hi⟩, (unhide HX1).trans (x2.mono (unhide HX1).size)⟩
    clear HC1 HX1 o1 x2
    go_wp2_with fail
    go_loopw [1, 8, 10, 11, 12, 13, 24, 28] (fun v1 v8 v10 v11 v12 v13 v24 v28 wx => ((∃ z, v10 = z) ∧ (∃ z, v11 = z) ∧ (∃ z, v12 = z) ∧ (∃ z, v13 = z) ∧ (∃ z, v28 = z)) ∧ ∃ (k : Nat) (b : List Dop) (L : List (List Dop)), v24 = .int .i64 (k : Int) ∧ k ≤ ds.length ∧ Hid (ChM w wx v1 v8 b L ∧ valB b = true ∧ L.length = k ∧ Q = preL L (chL ((ds.drop k).map (·.d)) b))) (fun _ _ _ _ _ _ v24 _ _ => ds.length - (intOf v24).toNat)
    case atStart => exact ⟨⟨⟨_, rfl⟩, ⟨_, rfl⟩, ⟨_, rfl⟩, ⟨_, rfl⟩, ⟨_, rfl⟩⟩, ⟨0, e, [], rfl, Nat.zero_le _, hide ⟨unhide HM0, unhide HVE, rfl, by
      rw [unhide HQ, List.drop_zero]
      unfold preL
      split
      · rename_i hz; rw [List.nil_append, ← hz]
      · rfl⟩⟩⟩
    case round =>
      clear HM0 HVE HQ
      obtain ⟨⟨⟨z1, rfl⟩, ⟨z2, rfl⟩, ⟨z3, rfl⟩, ⟨z4, rfl⟩, ⟨z5, rfl⟩⟩, ⟨k, b, L, rfl, hk, HI⟩⟩ := hrel
      by_cases hlt : k < ds.length
      · have s1 : decide ((k : Int) < (ds.length : Int)) = true := decide_eq_true (by omega)
        have s1' : (k : Int) < (ds.length : Int) := by omega
        obtain ⟨hm, hvb, hlk, hQ⟩ := unhide HI
        have hS := unhide HH wr hm.d
        obtain ⟨gA, oA, hA0, _, q0⟩ := hS.c k hlt
        subst hA0
        obtain ⟨hO, hT⟩ := hS.o k hlt
        obtain ⟨hd1, hd2⟩ := unhide HDS _ (mem_dl hlt)
        obtain ⟨a5, c5, hv5, i5, l5⟩ := own_isOC hm.b
        have HBO := hide (BothR_at (ds.getD k dlZ).a (ds.getD k dlZ).c (ds.getD k dlZ).d a5 c5 b wr ⟨hO.below hm.d (Nat.le_refl _), hd2⟩ ⟨i5, l5⟩ hT (val_tl hvb) hd1 (by have := val_len hvb; omega))
        rw [drop_dl hlt, List.map_cons] at hQ
        simp only [chL] at hQ
        have HM := hide hm
        clear HI hS hO hT hd1 hd2 i5 l5 hm hk
        generalize ds.getD k dlZ = x at *
        obtain ⟨xa, xc, d⟩ := x
        dsimp only at q0 HBO hQ
        subst hv5
        by_cases hE : boE d b = 0
        · rw [if_pos hE, pre_pre] at hQ
          rw [hE] at HBO
          have hv2 : valB (boB d b) = true := by
            obtain ⟨_, o2, _, eB⟩ := bo_ok hE
            rw [eB]; exact o2.v
          have HQ2 := hide (And.intro hv2 hQ)
          clear hE hv2 hQ hvb
          generalize boA d b = XA at *
          generalize boB d b = YB at *
          go_wp2_with fail
          refine (unhide HBO).mono ?_
          rintro y w3 ⟨v2, v3, rfl, o2, o3, x3⟩
          dsimp only
          obtain ⟨a6, c6, rfl, _, _⟩ := own_isOC o2
          obtain ⟨a7, c7, rfl, _, _⟩ := own_isOC o3
          have hm3 := (unhide HM).on x3
          have hwl := (unhide HM).d.size
          obtain ⟨v', W', r2, m2⟩ := hm3.push (own_lower o2 hwl) (own_lower o3 hwl) (by omega)
          have R2 := hide r2
          have HM2 := hide m2
          clear HBO HM o2 o3 x3 hm3 hwl r2 m2 q0
          go_wp2_with (at_builtin; refine wpList_append_known rfl _ _ 57 57 rfl _ _ rfl rfl _ _ (unhide R2) ?_; clear R2)
          go_roundw
          case rel => exact ⟨⟨⟨_, rfl⟩, ⟨_, rfl⟩, ⟨_, rfl⟩, ⟨_, rfl⟩, ⟨_, rfl⟩⟩, ⟨k + 1, YB, L ++ [XA], by go_num, hlt, hide ⟨unhide HM2, (unhide HQ2).1, by simp [hlk], (unhide HQ2).2⟩⟩⟩
          case measure => simp [intOf]; omega
        · rw [if_neg hE] at hQ
          have hQ' : Q = (([], []), boE d b) := by rw [hQ]; unfold preL; rw [if_neg hE]
          have HQ2 := hide hQ'
          generalize boE d b = E at *
          have t1 : (E != 0) = true := by simpa using hE
          have t1' : (E == 0) = false := by simpa using hE
          clear hE hQ hQ' hvb
          go_wp2_with fail
          refine (unhide HBO).mono ?_
          rintro y w3 ⟨v2, v3, rfl, _, _, x3⟩
          dsimp only
          have HB := hide ((unhide HM).d.trans (x3.mono (unhide HM).d.size))
          clear HBO HM x3 q0
          go_wp2_with fail
          have hQ := unhide HQ2
          subst hQ
          refine bodyPost_ret (results_tmp3 rfl _ _) rfl ⟨_, _, rfl, ChM.nil _ _ (unhide HB)⟩
      · obtain rfl : k = ds.length := by omega
        have s1 : decide ((ds.length : Int) < (ds.length : Int)) = false := by simp
        obtain ⟨hm, _, _, hQ⟩ := unhide HI
        rw [List.drop_length] at hQ
        simp only [List.map_nil, chL] at hQ
        have hQ' : Q = ((b, L), 0) := by rw [hQ]; simp [preL]
        have HM := hide hm
        have HQ2 := hide hQ'
        clear HI hm hQ hQ' hk hlt
        go_wp2_with fail
        have hQ := unhide HQ2
        subst hQ
        refine bodyPost_ret (results_tmp3 rfl _ _) rfl ⟨_, _, rfl, unhide HM⟩
  · rw [if_neg hE] at hQ
    subst hQ
    dsimp only
    generalize lkE ds e = E at *
    have t1 : (E != 0) = true := by simpa using hE
    have t1' : (E == 0) = false := by simpa using hE
    clear h h' hl hl' hds hE
    go_enter Try.func37, Try.ntmps37
    go_wp2_with fail
    refine (unhide HLK).mono ?_
    rintro y w1 ⟨rfl, x1⟩
    dsimp only
    have HX1 := hide x1
    clear HLK x1
    go_wp2_with fail
    refine bodyPost_ret (results_tmp3 rfl _ _) rfl ⟨_, _, rfl, ChM.nil _ _ (unhide HX1)⟩

end Go.Proofs.Ytkmbkoajbmlgaaa
end

section
namespace Go.Proofs.Ytkmbkoajbmlgaaa
open Go.ChangeShapes Go.WideShapes Go.ChangeAt Go.RowKit
attribute [local go_sem] Oper.semAt_some

set_option maxRecDepth 100000 in
set_option maxHeartbeats 4000000 in
theorem ROver14_at (a : Option Addr) (c : Nat) (d : List Dop) (a' : Option Addr) (c' : Nat) (e : List Dop) (f : Bool) (w : World) (h : IsO w a d) (h' : IsO w a' e) (ht : txD d ≤ 1099511627776) (ht' : txD e ≤ 1099511627776) (hl : d.length ≤ 4611686018427387904) (hl' : e.length ≤ 4611686018427387904) :
    Calls Try.prog 33 #[.slice a d.length c, .slice a' e.length c', .bool f] w fun y w' => ∃ v, y = .returned (.tuple #[v, .int .i64 (ovE d e f)]) ∧ w'.ownsRow w.heap.size 34 3 v (ovD d e f).length (opsV (ovD d e f)) ∧ Below w.heap.size w w' := by
  have HVA := hide (RValid14_at a c d w h hl ht)
  have HVB := hide fun (X : World) (hX : Below w.heap.size w X) => RValid14_at a' c' e X (h'.below hX (Nat.le_refl _)) hl' ht'
  cases hv : valB d with
  | false =>
    have hE : ovE d e f = 130 := by unfold ovE; rw [hv]; rfl
    have hD : ovD d e f = [] := by unfold ovD; rw [hE]; rfl
    rw [hE, hD]
    rw [hv] at HVA
    clear h h' hE hD hv HVB
    go_enter Try.func33, Try.ntmps33
    go_wp2_with fail
    refine (unhide HVA).mono ?_
    rintro y w1 ⟨rfl, x1⟩
    dsimp only
    clear HVA
    go_wp2_with fail
    refine bodyPost_ret (results_tmp2 rfl _ _ _) rfl ⟨.slice none 0 0, rfl, ⟨rfl, .inl ⟨rfl, rfl⟩⟩, x1⟩
  | true =>
    cases hv' : valB e with
    | false =>
      have hE : ovE d e f = 130 := by unfold ovE; rw [hv, hv']; rfl
      have hD : ovD d e f = [] := by unfold ovD; rw [hE]; rfl
      rw [hE, hD]
      rw [hv] at HVA
      rw [hv'] at HVB
      clear h h' hE hD hv hv'
      go_enter Try.func33, Try.ntmps33
      go_wp2_with fail
      refine (unhide HVA).mono ?_
      rintro y w1 ⟨rfl, x1⟩
      dsimp only
      have HC := hide (unhide HVB w1 x1)
      have HX := hide x1
      clear HVA HVB x1
      go_wp2_with fail
      refine (unhide HC).mono ?_
      rintro y w2 ⟨rfl, x2⟩
      dsimp only
      have HX2 := hide ((unhide HX).trans (x2.mono (unhide HX).size))
      clear HC HX x2
      go_wp2_with fail
      refine bodyPost_ret (results_tmp2 rfl _ _ _) rfl ⟨.slice none 0 0, rfl, ⟨rfl, .inl ⟨rfl, rfl⟩⟩, unhide HX2⟩
    | true =>
      by_cases hf : frD d = frD e
      · exact ROver_main a c d a' c' e f w h h' hl hl' hv hv' hf
      · have hE : ovE d e f = 131 := by unfold ovE; rw [hv, hv', if_neg hf]; rfl
        have hD : ovD d e f = [] := by unfold ovD; rw [hE]; rfl
        have hnn := (valB_nn hv).2
        have hnn' := (valB_nn hv').2
        have HLA := hide fun (X : World) (hX : Below w.heap.size w X) => lens14_at a c d X (h.below hX (Nat.le_refl _)) hl (val_PlO hv) (by omega) (by omega)
        have HLB := hide fun (X : World) (hX : Below w.heap.size w X) => lens14_at a' c' e X (h'.below hX (Nat.le_refl _)) hl' (val_PlO hv') (by omega) (by omega)
        rw [hE, hD]
        rw [hv] at HVA
        rw [hv'] at HVB
        clear h h' hE hD hv hv' hnn hnn'
        generalize frD d = fd at *
        generalize frD e = fe at *
        generalize toD d = td at *
        generalize toD e = te at *
        have t1 : ((fd : Int) != (fe : Int)) = true := by simp; omega
        clear hf
        go_enter Try.func33, Try.ntmps33
        go_wp2_with fail
        refine (unhide HVA).mono ?_
        rintro y w1 ⟨rfl, x1⟩
        dsimp only
        have HX1 := hide x1
        have HC1 := hide (unhide HVB w1 x1)
        clear HVA HVB x1
        go_wp2_with fail
        refine (unhide HC1).mono ?_
        rintro y w2 ⟨rfl, x2⟩
        dsimp only
        have HX2 := hide ((unhide HX1).trans (x2.mono (unhide HX1).size))
        have HC2 := hide (unhide HLA w2 (unhide HX2))
        clear HC1 HX1 x2 HLA
        go_wp2_with fail
        refine (unhide HC2).mono ?_
        rintro y w3 ⟨rfl, x3⟩
        dsimp only
        have HX3 := hide ((unhide HX2).trans (x3.mono (unhide HX2).size))
        have HC3 := hide (unhide HLB w3 (unhide HX3))
        clear HC2 HX2 x3 HLB
        go_wp2_with fail
        refine (unhide HC3).mono ?_
        rintro y w4 ⟨rfl, x4⟩
        dsimp only
        have HX4 := hide ((unhide HX3).trans (x4.mono (unhide HX3).size))
        clear HC3 HX3 x4
        go_wp2_with fail
        refine bodyPost_ret (results_tmp2 rfl _ _ _) rfl ⟨.slice none 0 0, rfl, ⟨rfl, .inl ⟨rfl, rfl⟩⟩, unhide HX4⟩
theorem ROverO_at (a : Option Addr) (c : Nat) (d : List Dop) (a' : Option Addr) (c' : Nat) (e : List Dop) (f : Bool) (w : World) (h : IsO w a d) (h' : IsO w a' e) (ht : txD d ≤ 1099511627776) (ht' : txD e ≤ 1099511627776) (hl : d.length ≤ 4611686018427387904) (hl' : e.length ≤ 4611686018427387904) :
    Calls Try.prog 33 #[.slice a d.length c, .slice a' e.length c', .bool f] w fun y w' => ∃ a2 c2, y = .returned (.tuple #[.slice a2 (ovD d e f).length c2, .int .i64 (ovE d e f)]) ∧ (IsO w' a2 (ovD d e f) ∧ (ovD d e f).length ≤ c2) ∧ Below w.heap.size w w' :=
  (ROver14_at a c d a' c' e f w h h' ht ht' hl hl').mono fun y w' ⟨v, e, ho, x⟩ => by
    obtain ⟨a2, c2, rfl, h1, h2⟩ := own_isO ho
    exact ⟨a2, c2, e, ⟨h1, h2⟩, x⟩
set_option maxRecDepth 100000 in
set_option maxHeartbeats 4000000 in
theorem RBoth14_at (a : Option Addr) (c : Nat) (d : List Dop) (a' : Option Addr) (c' : Nat) (e : List Dop) (w : World) (h : IsO w a d) (h' : IsO w a' e) (ht : txD d ≤ 1099511627776) (ht' : txD e ≤ 1099511627776) (hl : d.length ≤ 4611686018427387904) (hl' : e.length ≤ 4611686018427387904) :
    Calls Try.prog 35 #[.slice a d.length c, .slice a' e.length c'] w fun y w' => ∃ a2 c2 a3 c3, y = .returned (.tuple #[.slice a2 (boA d e).length c2, .slice a3 (boB d e).length c3, .int .i64 (boE d e)]) ∧ (IsO w' a2 (boA d e) ∧ (boA d e).length ≤ c2) ∧ (IsO w' a3 (boB d e) ∧ (boB d e).length ≤ c3) ∧ Below w.heap.size w w' := by
  have H1 := hide (ROverO_at a' c' e a c d true w h' h ht' ht hl' hl)
  have H2 := hide fun (X : World) (hX : Below w.heap.size w X) => ROverO_at a c d a' c' e false X (h.below hX (Nat.le_refl _)) (h'.below hX (Nat.le_refl _)) ht ht' hl hl'
  obtain ⟨E1, hE1⟩ : ∃ E1, E1 = ovE e d true := ⟨_, rfl⟩
  obtain ⟨E2, hE2⟩ : ∃ E2, E2 = ovE d e false := ⟨_, rfl⟩
  obtain ⟨L1, hL1⟩ : ∃ L1, L1 = ovD e d true := ⟨_, rfl⟩
  obtain ⟨L2, hL2⟩ : ∃ L2, L2 = ovD d e false := ⟨_, rfl⟩
  have hbE : boE d e = if E1 = 0 then E2 else E1 := by unfold boE; rw [hE1, hE2]
  have hbA : boA d e = if (if E1 = 0 then E2 else E1) = 0 then L1 else [] := by unfold boA; rw [hbE, hL1]
  have hbB : boB d e = if (if E1 = 0 then E2 else E1) = 0 then L2 else [] := by unfold boB; rw [hbE, hL2]
  rw [hbE, hbA, hbB]
  rw [← hE1, ← hL1] at H1
  rw [← hE2, ← hL2] at H2
  clear h h' ht ht' hl hl' hE1 hE2 hL1 hL2 hbE hbA hbB
  by_cases e1 : E1 = 0
  · subst e1
    simp only [if_true]
    by_cases e2 : E2 = 0
    · subst e2
      simp only [if_true]
      go_enter Try.func35, Try.ntmps35
      go_wp2_with fail
      refine (unhide H1).mono ?_
      rintro y w1 ⟨a2, c2, rfl, i2, x1⟩
      dsimp only
      have HX1 := hide x1
      have HI := hide i2
      have HC := hide (unhide H2 w1 x1)
      clear H1 H2 i2 x1
      go_wp2_with fail
      refine (unhide HC).mono ?_
      rintro y w2 ⟨a3, c3, rfl, i3, x2⟩
      dsimp only
      have HI2 := hide (And.intro (And.intro ((unhide HI).1.below x2 (Nat.le_refl _)) (unhide HI).2) i3)
      have HX2 := hide ((unhide HX1).trans (x2.mono (unhide HX1).size))
      clear HC HI HX1 i3 x2
      go_wp2_with fail
      refine bodyPost_ret (results_tmp3 rfl _ _) rfl ⟨_, _, _, _, rfl, (unhide HI2).1, (unhide HI2).2, unhide HX2⟩
    · have t2 : (E2 != 0) = true := by simpa using e2
      have t2' : (E2 == 0) = false := by simpa using e2
      rw [if_neg e2, if_neg e2]
      go_enter Try.func35, Try.ntmps35
      go_wp2_with fail
      refine (unhide H1).mono ?_
      rintro y w1 ⟨a2, c2, rfl, _, x1⟩
      dsimp only
      have HX1 := hide x1
      have HC := hide (unhide H2 w1 x1)
      clear H1 H2 x1
      go_wp2_with fail
      refine (unhide HC).mono ?_
      rintro y w2 ⟨a3, c3, rfl, _, x2⟩
      dsimp only
      have HX2 := hide ((unhide HX1).trans (x2.mono (unhide HX1).size))
      clear HC HX1 x2 e2
      go_wp2_with fail
      refine bodyPost_ret (results_tmp3 rfl _ _) rfl ⟨none, 0, none, 0, rfl, ⟨.inl rfl, by simp⟩, ⟨.inl rfl, by simp⟩, unhide HX2⟩
  · have t1 : (E1 != 0) = true := by simpa using e1
    have t1' : (E1 == 0) = false := by simpa using e1
    rw [if_neg e1, if_neg e1, if_neg e1]
    go_enter Try.func35, Try.ntmps35
    go_wp2_with fail
    refine (unhide H1).mono ?_
    rintro y w1 ⟨a2, c2, rfl, _, x1⟩
    dsimp only
    have HX1 := hide x1
    clear H1 H2 x1 e1
    go_wp2_with fail
    refine bodyPost_ret (results_tmp3 rfl _ _) rfl ⟨none, 0, none, 0, rfl, ⟨.inl rfl, by simp⟩, ⟨.inl rfl, by simp⟩, unhide HX1⟩
set_option maxRecDepth 100000 in
set_option maxHeartbeats 1000000 in
theorem RLens14_at (a : Option Addr) (c : Nat) (d : List Dop) (w : World) (h : IsO w a d) (hl : d.length ≤ 4611686018427387904) (hv : valB d = true) :
    Calls Try.prog 75 #[.slice a d.length c] w fun y w' => y = .returned (.tuple #[.int .i64 (frD d : Int), .int .i64 (toD d : Int)]) ∧ Below w.heap.size w w' := by
  have hnn := (valB_nn hv).2
  have HL := hide (lens14_at a c d w h hl (val_PlO hv) (by omega) (by omega))
  clear h hl hv hnn
  go_enter Try.func75, Try.ntmps75
  go_wp2_with fail
  refine (unhide HL).mono ?_
  rintro y w1 ⟨rfl, x1⟩
  dsimp only
  clear HL
  go_wp2_with fail
  refine bodyPost_ret (results_tmp2 rfl _ _ _) rfl ⟨rfl, x1⟩
/-- does one speak of more than a few thousand bytes? -/
def gr1 (x : Dl) : Bool := valB x.d && decide (5000 < frD x.d)
def grB (ds : List Dl) : Bool := ds.any gr1
theorem gr_take {ds : List Dl} {k : Nat} (hk : k < ds.length) : grB (ds.take (k + 1)) = (grB (ds.take k) || gr1 (ds.getD k dlZ)) := by
  unfold grB
  rw [List.take_add_one, List.getElem?_eq_getElem hk, Option.toList_some, List.any_append]
  simp [List.getD, List.getElem?_eq_getElem hk]
theorem gr_yes {ds : List Dl} {k : Nat} (hk : k < ds.length) (h : gr1 (ds.getD k dlZ) = true) : grB ds = true := List.any_eq_true.2 ⟨_, mem_dl hk, h⟩
theorem t5000 (n : Nat) : (5000 < n ∧ decide ((n : Int) > 5000) = true ∧ decide ((5000 : Int) < (n : Int)) = true ∧ decide (5000 < n) = true) ∨ (¬ 5000 < n ∧ decide ((n : Int) > 5000) = false ∧ decide ((5000 : Int) < (n : Int)) = false ∧ decide (5000 < n) = false) := by
  by_cases h : 5000 < n
  · exact .inl ⟨h, decide_eq_true (by omega), decide_eq_true (by omega), decide_eq_true h⟩
  · exact .inr ⟨h, decide_eq_false (by omega), decide_eq_false (by omega), decide_eq_false h⟩
theorem gr_ms {k n : Nat} (h : k < n) (hw : wrap64 ((k : Int) + 1) = ((k + 1 : Nat) : Int)) : n - (intOf (.int .i64 (wrap64 ((k : Int) + 1)))).toNat < n - (intOf (.int .i64 (k : Int))).toNat := by
  rw [hw]
  show n - (((k + 1 : Nat) : Int)).toNat < n - ((k : Int)).toNat
  rw [Int.toNat_natCast, Int.toNat_natCast]
  omega
theorem gr_ms3 {k n : Nat} (h : k < n) : n - (intOf (.int .i64 ((k : Int) + 1))).toNat < n - (intOf (.int .i64 (k : Int))).toNat := by
  show n - ((k : Int) + 1).toNat < n - ((k : Int)).toNat
  omega
theorem gr_w {k n : Nat} (h : k < n) (hn : n ≤ 4611686018427387904) : wrap64 ((k : Int) + 1) = ((k + 1 : Nat) : Int) := by rw [wrapD _ (by omega) (by omega)]; omega
set_option maxRecDepth 100000 in
set_option maxHeartbeats 4000000 in
theorem great14_at (A0 : Option Addr) (cc : Nat) (ds : List Dl) (w X : World) (h : IsDx w X A0 ds) (hd : Below w.heap.size w X) (hl : ds.length ≤ 4611686018427387904) (hds : ∀ x ∈ ds, x.d.length ≤ 4611686018427387904 ∧ txD x.d ≤ 1099511627776) :
    Calls Try.prog 31 #[.slice A0 ds.length cc] X fun y X' => y = .returned (.bool (grB ds)) ∧ Below X.heap.size X X' := by
  have HH := hide fun (Y : World) (hY : Below X.heap.size X Y) => h.on hY
  have HW := hide fun (Y : World) (hY : Below X.heap.size X Y) => hd.trans (hY.mono hd.size)
  have HDS := hide hds
  obtain ⟨V, hV⟩ : ∃ V, V = grB ds := ⟨_, rfl⟩
  rw [← hV]
  have HV := hide hV
  clear h hd hds hV
  go_enter Try.func31, Try.ntmps31
  go_wp2_with fail
  go_loopw [4, 5, 6, 9] (fun v4 v5 v6 v9 wx => ((∃ z, v4 = z) ∧ (∃ z, v5 = z) ∧ (∃ z, v6 = z)) ∧ ∃ k : Nat, v9 = .int .i64 (k : Int) ∧ k ≤ ds.length ∧ Hid (grB (ds.take k) = false ∧ Below X.heap.size X wx)) (fun _ _ _ v9 _ => ds.length - (intOf v9).toNat)
  case atStart => exact ⟨⟨⟨_, rfl⟩, ⟨_, rfl⟩, ⟨_, rfl⟩⟩, ⟨0, rfl, Nat.zero_le _, hide ⟨rfl, Below.refl _ _⟩⟩⟩
  case round =>
    obtain ⟨⟨⟨z1, rfl⟩, ⟨z2, rfl⟩, ⟨z3, rfl⟩⟩, ⟨k, rfl, hk, HI⟩⟩ := hrel
    by_cases hlt : k < ds.length
    · obtain ⟨s1, s2, s3⟩ := dlt hlt
      have hS := unhide HH wr (unhide HI).2
      obtain ⟨gA, oA, hA0, _, q0⟩ := hS.c k hlt
      subst hA0
      have hO := (hS.o k hlt).1
      obtain ⟨hlen, htx⟩ := unhide HDS _ (mem_dl hlt)
      have HY := hide (gr_yes hlt)
      have HT := hide (gr_take hlt)
      have Wk := gr_w hlt hl
      have HLT := hide hlt
      have HVA := hide (RValid14_at (ds.getD k dlZ).a (ds.getD k dlZ).c (ds.getD k dlZ).d wr (hO.below (unhide HW wr (unhide HI).2) (Nat.le_refl _)) hlen htx)
      have HLN := hide fun (Y : World) (hY : Below X.heap.size X Y) (hv : valB (ds.getD k dlZ).d = true) => RLens14_at (ds.getD k dlZ).a (ds.getD k dlZ).c (ds.getD k dlZ).d Y (hO.below (unhide HW Y hY) (Nat.le_refl _)) hlen hv
      clear hS hO hlen htx hk
      unfold gr1 at HY HT
      generalize ds.getD k dlZ = q at *
      obtain ⟨qa, qc, qd⟩ := q
      dsimp only at *
      cases hv : valB qd with
      | false =>
        rw [hv] at HVA HT
        have HN : Hid (grB (ds.take (k + 1)) = false) := hide (by rw [unhide HT, (unhide HI).1]; rfl)
        have HB := hide (unhide HI).2
        clear HT HY HLN hv HI
        go_wp2_with fail
        refine (unhide HVA).mono ?_
        rintro y w1 ⟨rfl, x1⟩
        dsimp only
        have HB2 := hide ((unhide HB).trans (x1.mono (unhide HB).size))
        clear HVA HB x1
        go_wp2_with fail
        go_roundw
        case rel => exact ⟨⟨⟨_, rfl⟩, ⟨_, rfl⟩, ⟨_, rfl⟩⟩, ⟨k + 1, by first | rfl | exact congrArg _ Wk | go_num, hlt, hide ⟨unhide HN, unhide HB2⟩⟩⟩
        case measure => first | exact gr_ms3 hlt | exact gr_ms hlt Wk
      | true =>
        rw [hv] at HVA HT HY
        have HB := hide (unhide HI).2
        have HI1 := hide (unhide HI).1
        have HVV := hide hv
        clear hv HI
        go_wp2_with fail
        refine (unhide HVA).mono ?_
        rintro y w1 ⟨rfl, x1⟩
        dsimp only
        have HB2 := hide ((unhide HB).trans (x1.mono (unhide HB).size))
        have HC := hide (unhide HLN w1 (unhide HB2) (unhide HVV))
        clear HVA HB x1 HLN HVV
        go_wp2_with fail
        refine (unhide HC).mono ?_
        rintro y w2 ⟨rfl, x2⟩
        dsimp only
        have HB3 := hide ((unhide HB2).trans (x2.mono (unhide HB2).size))
        clear HC HB2 x2
        generalize frD qd = fr at *
        generalize toD qd = tq at *
        rcases t5000 fr with ⟨_, b1, b2, b3⟩ | ⟨_, b1, b2, b3⟩
        · have HV2 : Hid (V = true) := hide (by rw [unhide HV]; exact unhide HY (by rw [b3]; rfl))
          clear HT HY HI1
          go_wp2_with fail
          rw [unhide HV2]
          refine bodyPost_ret (results_tmp rfl _ _ _) rfl ⟨rfl, unhide HB3⟩
        · have HN : Hid (grB (ds.take (k + 1)) = false) := hide (by rw [unhide HT, unhide HI1, b3]; rfl)
          clear HT HY HI1
          go_wp2_with fail
          go_roundw
          case rel => exact ⟨⟨⟨_, rfl⟩, ⟨_, rfl⟩, ⟨_, rfl⟩⟩, ⟨k + 1, by first | rfl | exact congrArg _ Wk | go_num, hlt, hide ⟨unhide HN, unhide HB3⟩⟩⟩
          case measure => first | exact gr_ms3 hlt | exact gr_ms hlt Wk
    · obtain rfl : k = ds.length := Nat.le_antisymm hk (Nat.not_lt.1 hlt)
      obtain ⟨s1, s2, s3⟩ := dnl hlt
      have HV2 : Hid (V = false) := hide (by have := (unhide HI).1; rw [List.take_length] at this; rw [unhide HV]; exact this)
      have HB := hide (unhide HI).2
      clear HI hk hlt
      go_wp2_with fail
      rw [unhide HV2]
      refine bodyPost_ret (results_tmp rfl _ _ _) rfl ⟨rfl, unhide HB⟩

end Go.Proofs.Ytkmbkoajbmlgaaa
end

section
namespace Go.Proofs.Ytkmbkoajbmlgaaa
open Go.ChangeShapes Go.WideShapes Go.ChangeAt Go.RowKit
attribute [local go_sem] Oper.semAt_some

set_option maxRecDepth 100000 in
set_option maxHeartbeats 1000000 in
theorem copied14_at (a : Option Addr) (c : Nat) (d : List Dop) (w : World) (h : IsO w a d) (hz : d = [] ∨ ∃ q, a = some q) (hb : d.length * 32 ≤ 140737488355328) :
    Calls Try.prog 29 #[.slice a d.length c] w fun y w' => ∃ v, y = .returned v ∧ w'.ownsRow w.heap.size 34 3 v d.length (opsV d) ∧ Below w.heap.size w w' := by
  obtain ⟨v', w', hr, ho, hbb⟩ := copy_op w a c d 24 h hz hb
  have R2 := hide hr
  have HO := hide ho
  have HB := hide hbb
  clear hr ho hbb h hz hb
  go_enter Try.func29, Try.ntmps29
  go_wp2_with (at_builtin; refine wpList_append_known rfl _ _ 24 24 rfl _ _ rfl rfl _ _ (unhide R2) ?_; clear R2)
  refine bodyPost_ret (results_tmp rfl _ _ _) rfl ⟨v', rfl, unhide HO, unhide HB⟩
set_option maxRecDepth 100000 in
set_option maxHeartbeats 4000000 in
theorem ShiftPlaces_any (a1 : Option Addr) (c1 : Nat) (d : List Dop) (p g : Int) (w : World) (hx : IsO w a1 d) (hzx : d = [] ∨ ∃ q, a1 = some q) (hlx : d.length ≤ 1048576) (htx : ∀ o ∈ d, TbD o ∧ o.t.length ≤ 1048576) (_hp : (Lit.int .i64 p).wf = true) (_hg : (Lit.int .i64 g).wf = true) :
    Calls Try.prog 4 #[.slice a1 d.length c1, .int .i64 p, .int .i64 g] w fun y w' => y = .returned (.bool true) ∧ Below w.heap.size w w' := by
  have HAw := hide (fixed14_at w)
  have HCP := hide fun (X : World) (hX : Below w.heap.size w X) => copied14_at a1 c1 d X (hx.below hX (Nat.le_refl _)) hzx (by omega)
  have HP := hide fun (X : World) (_ : Below w.heap.size w X) (a : Option Addr) (c : Nat) (h : IsO X a d) => Place_at a c d p g X h (by omega)
  have htd : txD d ≤ 1099511627776 := by
    have h1 := txD_le (fun o ho => (htx o ho).2)
    have h2 := Nat.mul_le_mul_right 1048576 hlx
    omega
  have HR := hide fun (X : World) (hX : Below w.heap.size w X) => RPlace14_at a1 c1 d p g X (hx.below hX (Nat.le_refl _)) (by omega) htd
  clear hx hzx hlx htx _hp _hg htd
  generalize plV d p g = V at *
  generalize plE d p g = E at *
  go_enter Try.func4, Try.ntmps4
  go_wp2_with fail
  refine (unhide HAw).mono ?_
  rintro y w1 ⟨rfl, x1⟩
  dsimp only
  have HX1 := hide x1
  clear HAw x1
  have HC2 := hide (unhide HCP w1 (unhide HX1))
  go_wp2_with fail
  refine (unhide HC2).mono ?_
  rintro y w2 ⟨v, rfl, o2, x2⟩
  dsimp only
  have HX2 := hide ((unhide HX1).trans (x2.mono (unhide HX1).size))
  clear HC2 HX1 x2  HCP
  obtain ⟨a9, c9, rfl, i9, _⟩ := own_isO o2
  have I9_2 := hide i9
  clear o2 i9
  have HC3 := hide (unhide HP w2 (unhide HX2) a9 c9 (unhide I9_2))
  go_wp2_with fail
  refine (unhide HC3).mono ?_
  rintro y w3 ⟨rfl, x3⟩
  dsimp only
  have HX3 := hide ((unhide HX2).trans (x3.mono (unhide HX2).size))
  clear HC3 HX2 x3  HP I9_2
  have HC4 := hide (unhide HR w3 (unhide HX3))
  go_wp2_with fail
  refine (unhide HC4).mono ?_
  rintro y w4 ⟨rfl, x4⟩
  dsimp only
  have HX4 := hide ((unhide HX3).trans (x4.mono (unhide HX3).size))
  clear HC4 HX3 x4  HR
  go_wp2_with fail
  refine bodyPost_ret (results_tmp rfl _ _ _) rfl ⟨rfl, unhide HX4⟩

end Go.Proofs.Ytkmbkoajbmlgaaa
end

section
namespace Go.Proofs.Ytkmbkoajbmlgaaa
open Go.ChangeShapes Go.WideShapes Go.ChangeAt Go.RowKit
attribute [local go_sem] Oper.semAt_some

theorem passP_mem {g : List Atm → List Atm} {x : Int} (hg : ∀ b : List Atm, Atm.p x ∈ g b → Atm.p x ∈ b) : ∀ b : List Atm, Atm.p x ∈ passP g b → Atm.p x ∈ b
  | [], h => hg [] h
  | .k :: b, h => hg (.k :: b) h
  | .d :: b, h => hg (.d :: b) h
  | .p y :: b, h => by
    simp only [passP, List.mem_cons] at h ⊢
    rcases h with h | h
    · exact .inl h
    · exact .inr (passP_mem hg b h)
theorem ov_mem (f : Bool) {x : Int} : ∀ (a b : List Atm), Atm.p x ∈ ovA f a b → Atm.p x ∈ b
  | [], b, h => mem_puts h
  | .p y :: a, b, h => by
    have hg : ∀ b : List Atm, Atm.p x ∈ (.k :: ovA f a b) → Atm.p x ∈ b := fun b h => by
      simp only [List.mem_cons] at h
      rcases h with h | h
      · cases h
      · exact ov_mem f a b h
    unfold ovA at h
    cases f with
    | true => exact passP_mem hg b h
    | false => exact hg b h
  | .k :: a, b, h => by
    refine passP_mem (g := byK (ovA f a)) (fun b h => ?_) b h
    cases b with
    | nil => exact ov_mem f a [] h
    | cons z b => cases z with
      | k => simp [byK] at h; exact List.mem_cons_of_mem _ (ov_mem f a b h)
      | d => simp [byK] at h; exact List.mem_cons_of_mem _ (ov_mem f a b h)
      | p y => exact ov_mem f a (.p y :: b) h
  | .d :: a, b, h => by
    refine passP_mem (g := byD (ovA f a)) (fun b h => ?_) b h
    cases b with
    | nil => exact ov_mem f a [] h
    | cons z b => cases z with
      | k => simp [byD] at h; exact List.mem_cons_of_mem _ (ov_mem f a b h)
      | d => simp [byD] at h; exact List.mem_cons_of_mem _ (ov_mem f a b h)
      | p y => exact ov_mem f a (.p y :: b) h
theorem ovD_tb {d e : List Dop} {f : Bool} (he : ∀ o ∈ e, TbD o) : ∀ o ∈ ovD d e f, TbD o := by
  unfold ovD
  split
  · exact canA_tb fun z hz => dA_by he z (ov_mem f _ _ hz)
  · simp
end Go.Proofs.Ytkmbkoajbmlgaaa
end
