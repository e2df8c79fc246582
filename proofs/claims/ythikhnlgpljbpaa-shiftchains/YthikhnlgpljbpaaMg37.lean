/- Layer 14: linked and Chain, for lists of deltas that lie anywhere (written by wip/tools/sgh.py). -/
import Derived.Test.YthikhnlgpljbpaaMg36

namespace Go.Proofs.Ythikhnlgpljbpaa
open Go.ChangeShapes Go.WideShapes Go.ChangeAt Go.RowKit
attribute [local go_sem] Oper.semAt_some

/-- lists of operations in a row of slices that lies anywhere -/
structure IsDx (w X : World) (A0 : Option Addr) (ds : List Dl) : Prop where
  c : ∀ i, i < ds.length → ∃ G O, A0 = some ⟨G, O, none⟩ ∧ G < X.heap.size ∧ X.cell? ⟨G, O + i, none⟩ = some (.slice (ds.getD i dlZ).a (ds.getD i dlZ).d.length (ds.getD i dlZ).c)
  o : ∀ i, i < ds.length → IsO w (ds.getD i dlZ).a (ds.getD i dlZ).d ∧ (∀ o ∈ (ds.getD i dlZ).d, o.t.length ≤ 140737488355328)
theorem IsDx.on {w X Y : World} {A0 : Option Addr} {ds : List Dl} (h : IsDx w X A0 ds) (hb : Below X.heap.size X Y) : IsDx w Y A0 ds :=
  ⟨fun i hi => by
    obtain ⟨G, O, e, hg, hc⟩ := h.c i hi
    exact ⟨G, O, e, Nat.lt_of_lt_of_le hg hb.size, (hb.cell (p := ⟨G, O + i, none⟩) hg).trans hc⟩, h.o⟩
set_option maxRecDepth 100000 in
set_option maxHeartbeats 4000000 in
theorem linkedX_at (A0 : Option Addr) (cc : Nat) (ds : List Dl) (a' : Option Addr) (c' : Nat) (e : List Dop) (w X : World) (h : IsDx w X A0 ds) (h' : IsO w a' e) (hd : Below w.heap.size w X) (hl : ds.length ≤ 4611686018427387904) (hl' : e.length ≤ 4611686018427387904) (hds : ∀ x ∈ ds, x.d.length ≤ 4611686018427387904) :
    Calls Try.prog 28 #[.slice A0 ds.length cc, .slice a' e.length c'] X fun y X' => y = .returned (.int .i64 (lkE ds e)) ∧ Below X.heap.size X X' := by
  have HH := hide fun (Y : World) (hY : Below X.heap.size X Y) => h.on hY
  have HW := hide fun (Y : World) (hY : Below X.heap.size X Y) => hd.trans (hY.mono hd.size)
  have HDS := hide hds
  have HLE := hide (Lens_at a' c' e X (h'.below hd (Nat.le_refl _)) hl')
  obtain ⟨V, hV⟩ : ∃ V, V = lkE ds e := ⟨_, rfl⟩
  rw [← hV]
  unfold lkE at hV
  clear h hd hds h' hl'
  cases hve : valB e with
  | false =>
    rw [hve] at hV
    simp only [Bool.false_eq_true, if_false] at hV
    subst hV
    unfold lensV at HLE
    rw [hve] at HLE
    simp only [Bool.false_eq_true, if_false] at HLE
    clear HH HW HDS hve
    go_enter Try.func28, Try.ntmps28
    go_wp2_with fail
    refine (unhide HLE).mono ?_
    rintro y w1 ⟨rfl, x1⟩
    dsimp only
    clear HLE
    go_wp2_with fail
    refine bodyPost_ret (results_tmp rfl _ _ _) rfl ⟨rfl, x1⟩
  | true =>
    rw [hve] at hV
    simp only [if_true] at hV
    unfold lensV at HLE
    rw [hve] at HLE
    simp only [if_true] at HLE
    have HV := hide hV
    clear hve hV
    generalize frD e = fe at *
    generalize toD e = te at *
    go_enter Try.func28, Try.ntmps28
    go_wp2_with fail
    refine (unhide HLE).mono ?_
    rintro y w1 ⟨rfl, x1⟩
    dsimp only
    have HX1 := hide x1
    clear HLE x1
    go_wp2_with fail
    go_loopw [5, 8, 10, 11, 12, 13, 25, 29] (fun v5 v8 v10 v11 v12 v13 v25 v29 wx => ((∃ z, v10 = z) ∧ (∃ z, v11 = z) ∧ (∃ z, v12 = z) ∧ (∃ z, v13 = z) ∧ (∃ z, v29 = z)) ∧ ∃ (k A : Nat) (F : Bool), v25 = .int .i64 (k : Int) ∧ v5 = .int .i64 (A : Int) ∧ v8 = .bool F ∧ k ≤ ds.length ∧ Hid ((F && lkF A (ds.drop k)) = lkF fe ds ∧ (ds.drop k).all (fun x => valB x.d) = ds.all (fun x => valB x.d) ∧ Below X.heap.size X wx)) (fun _ _ _ _ _ _ v25 _ _ => ds.length - (intOf v25).toNat)
    case atStart => exact ⟨⟨⟨_, rfl⟩, ⟨_, rfl⟩, ⟨_, rfl⟩, ⟨_, rfl⟩, ⟨_, rfl⟩⟩, ⟨0, fe, true, rfl, rfl, rfl, Nat.zero_le _, hide ⟨rfl, rfl, unhide HX1⟩⟩⟩
    case round =>
      clear HX1
      obtain ⟨⟨⟨z1, rfl⟩, ⟨z2, rfl⟩, ⟨z3, rfl⟩, ⟨z4, rfl⟩, ⟨z5, rfl⟩⟩, ⟨k, A, F, rfl, rfl, rfl, hk, HI⟩⟩ := hrel
      by_cases hlt : k < ds.length
      · have s1 : decide ((k : Int) < (ds.length : Int)) = true := decide_eq_true (by omega)
        have s1' : (k : Int) < (ds.length : Int) := by omega
        have hS := unhide HH wr (unhide HI).2.2
        obtain ⟨gA, oA, hA0, _, q0⟩ := hS.c k hlt
        subst hA0
        have hO := (hS.o k hlt).1
        have hlen := unhide HDS _ (mem_dl hlt)
        have hi1 := (unhide HI).1
        have hi2 := (unhide HI).2.1
        rw [drop_dl hlt] at hi1 hi2
        have HB := hide (unhide HI).2.2
        have HLN := hide (Lens_at (ds.getD k dlZ).a (ds.getD k dlZ).c (ds.getD k dlZ).d wr (hO.below (unhide HW wr (unhide HI).2.2) (Nat.le_refl _)) hlen)
        clear HI hS hO hk hlen
        generalize ds.getD k dlZ = x at *
        obtain ⟨xa, xc, d⟩ := x
        dsimp only at q0 HLN
        simp only [lkF, List.all_cons] at hi1 hi2
        unfold lensV at HLN
        cases hvd : valB d with
        | false =>
          rw [hvd] at HLN hi2
          simp only [Bool.false_eq_true, if_false] at HLN
          simp only [Bool.false_and] at hi2
          have hV := unhide HV
          rw [← hi2] at hV
          simp only [Bool.false_eq_true, if_false] at hV
          subst hV
          clear HV hi1 hi2 hvd
          go_wp2_with fail
          refine (unhide HLN).mono ?_
          rintro y w2 ⟨rfl, x2⟩
          dsimp only
          have HX2 := hide ((unhide HB).trans (x2.mono (unhide HB).size))
          clear HLN x2 HB
          go_wp2_with fail
          refine bodyPost_ret (results_tmp rfl _ _ _) rfl ⟨rfl, unhide HX2⟩
        | true =>
          rw [hvd] at HLN hi2
          simp only [if_true] at HLN
          simp only [Bool.true_and] at hi2
          have HI2 := hide hi2
          clear hvd hi2
          go_wp2_with fail
          refine (unhide HLN).mono ?_
          rintro y w2 ⟨rfl, x2⟩
          dsimp only
          have HX2 := hide ((unhide HB).trans (x2.mono (unhide HB).size))
          clear HLN x2 HB q0
          have e1 : ((frD d : Int) == (A : Int)) = decide (frD d = A) := by
            by_cases h : frD d = A
            · rw [h]; simp
            · rw [decide_eq_false h]; simp; omega
          have e2 : (frD d == A) = decide (frD d = A) := rfl
          have HI1 := hide hi1
          clear hi1
          generalize toD d = td at *
          generalize hD : decide (frD d = A) = D at *
          clear hD
          generalize frD d = fd at *
          cases F with
          | false =>
            go_wp2_with fail
            go_roundw
            case rel => exact ⟨⟨⟨_, rfl⟩, ⟨_, rfl⟩, ⟨_, rfl⟩, ⟨_, rfl⟩, ⟨_, rfl⟩⟩, ⟨k + 1, td, false, by go_num, rfl, rfl, hlt, hide ⟨by have := unhide HI1; simpa using this, unhide HI2, unhide HX2⟩⟩⟩
            case measure => simp [intOf]; omega
          | true =>
            go_wp2_with fail
            try rw [e1]
            go_roundw
            case rel => exact ⟨⟨⟨_, rfl⟩, ⟨_, rfl⟩, ⟨_, rfl⟩, ⟨_, rfl⟩, ⟨_, rfl⟩⟩, ⟨k + 1, td, D, by go_num, rfl, by first | rfl | rw [e1] | rw [e2], hlt, hide ⟨by have := unhide HI1; simpa using this, unhide HI2, unhide HX2⟩⟩⟩
            case measure => simp [intOf]; omega
      · obtain rfl : k = ds.length := by omega
        have s1 : decide ((ds.length : Int) < (ds.length : Int)) = false := by simp
        have hi1 := (unhide HI).1
        have hi2 := (unhide HI).2.1
        rw [List.drop_length] at hi1 hi2
        simp only [lkF, Bool.and_true, List.all_nil] at hi1 hi2
        have hV := unhide HV
        rw [← hi1, ← hi2] at hV
        simp only [if_true] at hV
        have HB := hide (unhide HI).2.2
        clear HI HV hi1 hi2 hk hlt
        cases F with
        | false =>
          simp only [Bool.false_eq_true, if_false] at hV
          subst hV
          go_wp2_with fail
          refine bodyPost_ret (results_tmp rfl _ _ _) rfl ⟨rfl, unhide HB⟩
        | true =>
          simp only [if_true] at hV
          subst hV
          go_wp2_with fail
          refine bodyPost_ret (results_tmp rfl _ _ _) rfl ⟨rfl, unhide HB⟩

set_option maxRecDepth 100000 in
set_option maxHeartbeats 4000000 in
theorem ChainX_at (A0 : Option Addr) (cc : Nat) (ds : List Dl) (a' : Option Addr) (c' : Nat) (e : List Dop) (w : World) (h : IsDx w w A0 ds) (h' : IsO w a' e) (hl : ds.length * 24 ≤ 140737488355328) (hl' : e.length * 32 ≤ 140737488355328) (hds : ∀ x ∈ ds, x.d.length ≤ 4611686018427387904 ∧ x.d.length ≤ x.c) :
    Calls Try.prog 13 #[.slice A0 ds.length cc, .slice a' e.length c'] w fun y w' => ∃ v1 v8, y = .returned (.tuple #[v1, v8, .int .i64 (cnQ ds e).2]) ∧ ChM w w' v1 v8 (cnQ ds e).1.1 (cnQ ds e).1.2 := by
  have HLK := hide (linkedX_at A0 cc ds a' c' e w w h h' (Below.refl _ _) (by omega) (by omega) (fun x hx => (hds x hx).1))
  obtain ⟨Q, hQ⟩ : ∃ Q, Q = cnQ ds e := ⟨_, rfl⟩
  rw [← hQ]
  unfold cnQ at hQ
  by_cases hE : lkE ds e = 0
  · rw [hE] at HLK
    rw [if_pos hE] at hQ
    have HVE := hide (lk_val hE)
    have HCL := hide fun (X : World) (hX : Below w.heap.size w X) => clone_at a' c' e X (h'.below hX (Nat.le_refl _)) hl'
    have HH := hide fun (Y : World) (hY : Below w.heap.size w Y) => h.on hY
    have HDS := hide hds
    have HQ := hide hQ
    clear h h' hl' hds hE hQ
    go_enter Try.func13, Try.ntmps13
    go_wp2_with fail
    refine (unhide HLK).mono ?_
    rintro y w1 ⟨rfl, x1⟩
    dsimp only
    have HX1 := hide x1
    have HC1 := hide (unhide HCL w1 x1)
    clear HLK HCL x1
    go_wp2_with fail
    refine (unhide HC1).mono ?_
    rintro y w2 ⟨v1, rfl, o1, x2⟩
    dsimp only
    have HM0 : Hid (ChM w w2 v1 (.slice none 0 0) e []) := hide ⟨own_lower o1 (unhide HX1).size, ⟨[], World.ownsRow_nil _ _ _ _, rfl, fun i hi => by simp at hi⟩, (unhide HX1).trans (x2.mono (unhide HX1).size)⟩
    clear HC1 HX1 o1 x2
    go_wp2_with fail
    go_loopw [1, 8, 10, 11, 12, 13, 24, 28] (fun v1 v8 v10 v11 v12 v13 v24 v28 wx => ((∃ z, v10 = z) ∧ (∃ z, v11 = z) ∧ (∃ z, v12 = z) ∧ (∃ z, v13 = z) ∧ (∃ z, v28 = z)) ∧ ∃ (k : Nat) (b : List Dop) (L : List (List Dop)), v24 = .int .i64 (k : Int) ∧ k ≤ ds.length ∧ Hid (ChM w wx v1 v8 b L ∧ valB b = true ∧ L.length = k ∧ Q = preL L (chL ((ds.drop k).map (·.d)) b))) (fun _ _ _ _ _ _ v24 _ _ => ds.length - (intOf v24).toNat)
    case atStart => exact ⟨⟨⟨_, rfl⟩, ⟨_, rfl⟩, ⟨_, rfl⟩, ⟨_, rfl⟩, ⟨_, rfl⟩⟩, ⟨0, e, [], rfl, Nat.zero_le _, hide ⟨unhide HM0, unhide HVE, rfl, by
      rw [unhide HQ, List.drop_zero]
      unfold preL
      split
      · rename_i hz; rw [List.nil_append, ← hz]
      · rfl⟩⟩⟩
    case round =>
      clear HM0 HVE HQ
      obtain ⟨⟨⟨z1, rfl⟩, ⟨z2, rfl⟩, ⟨z3, rfl⟩, ⟨z4, rfl⟩, ⟨z5, rfl⟩⟩, ⟨k, b, L, rfl, hk, HI⟩⟩ := hrel
      by_cases hlt : k < ds.length
      · have s1 : decide ((k : Int) < (ds.length : Int)) = true := decide_eq_true (by omega)
        have s1' : (k : Int) < (ds.length : Int) := by omega
        obtain ⟨hm, hvb, hlk, hQ⟩ := unhide HI
        have hS := unhide HH wr hm.d
        obtain ⟨gA, oA, hA0, _, q0⟩ := hS.c k hlt
        subst hA0
        obtain ⟨hO, hT⟩ := hS.o k hlt
        obtain ⟨hd1, hd2⟩ := unhide HDS _ (mem_dl hlt)
        obtain ⟨a5, c5, hv5, i5, l5⟩ := own_isOC hm.b
        have HBO := hide (BothR_at (ds.getD k dlZ).a (ds.getD k dlZ).c (ds.getD k dlZ).d a5 c5 b wr ⟨hO.below hm.d (Nat.le_refl _), hd2⟩ ⟨i5, l5⟩ hT (val_tl hvb) hd1 (by have := val_len hvb; omega))
        rw [drop_dl hlt, List.map_cons] at hQ
        simp only [chL] at hQ
        have HM := hide hm
        clear HI hS hO hT hd1 hd2 i5 l5 hm hk
        generalize ds.getD k dlZ = x at *
        obtain ⟨xa, xc, d⟩ := x
        dsimp only at q0 HBO hQ
        subst hv5
        by_cases hE : boE d b = 0
        · rw [if_pos hE, pre_pre] at hQ
          rw [hE] at HBO
          have hv2 : valB (boB d b) = true := by
            obtain ⟨_, o2, _, eB⟩ := bo_ok hE
            rw [eB]; exact o2.v
          have HQ2 := hide (And.intro hv2 hQ)
          clear hE hv2 hQ hvb
          generalize boA d b = XA at *
          generalize boB d b = YB at *
          go_wp2_with fail
          refine (unhide HBO).mono ?_
          rintro y w3 ⟨v2, v3, rfl, o2, o3, x3⟩
          dsimp only
          obtain ⟨a6, c6, rfl, _, _⟩ := own_isOC o2
          obtain ⟨a7, c7, rfl, _, _⟩ := own_isOC o3
          have hm3 := (unhide HM).on x3
          have hwl := (unhide HM).d.size
          obtain ⟨v', W', r2, m2⟩ := hm3.push (own_lower o2 hwl) (own_lower o3 hwl) (by omega)
          have R2 := hide r2
          have HM2 := hide m2
          clear HBO HM o2 o3 x3 hm3 hwl r2 m2 q0
          go_wp2_with (at_builtin; refine wpList_append_known rfl _ _ 32 32 rfl _ _ rfl rfl _ _ (unhide R2) ?_; clear R2)
          go_roundw
          case rel => exact ⟨⟨⟨_, rfl⟩, ⟨_, rfl⟩, ⟨_, rfl⟩, ⟨_, rfl⟩, ⟨_, rfl⟩⟩, ⟨k + 1, YB, L ++ [XA], by go_num, hlt, hide ⟨unhide HM2, (unhide HQ2).1, by simp [hlk], (unhide HQ2).2⟩⟩⟩
          case measure => simp [intOf]; omega
        · rw [if_neg hE] at hQ
          have hQ' : Q = (([], []), boE d b) := by rw [hQ]; unfold preL; rw [if_neg hE]
          have HQ2 := hide hQ'
          generalize boE d b = E at *
          have t1 : (E != 0) = true := by simpa using hE
          have t1' : (E == 0) = false := by simpa using hE
          clear hE hQ hQ' hvb
          go_wp2_with fail
          refine (unhide HBO).mono ?_
          rintro y w3 ⟨v2, v3, rfl, _, _, x3⟩
          dsimp only
          have HB := hide ((unhide HM).d.trans (x3.mono (unhide HM).d.size))
          clear HBO HM x3 q0
          go_wp2_with fail
          have hQ := unhide HQ2
          subst hQ
          refine bodyPost_ret (results_tmp3 rfl _ _) rfl ⟨_, _, rfl, ChM.nil _ _ (unhide HB)⟩
      · obtain rfl : k = ds.length := by omega
        have s1 : decide ((ds.length : Int) < (ds.length : Int)) = false := by simp
        obtain ⟨hm, _, _, hQ⟩ := unhide HI
        rw [List.drop_length] at hQ
        simp only [List.map_nil, chL] at hQ
        have hQ' : Q = ((b, L), 0) := by rw [hQ]; simp [preL]
        have HM := hide hm
        have HQ2 := hide hQ'
        clear HI hm hQ hQ' hk hlt
        go_wp2_with fail
        have hQ := unhide HQ2
        subst hQ
        refine bodyPost_ret (results_tmp3 rfl _ _) rfl ⟨_, _, rfl, unhide HM⟩
  · rw [if_neg hE] at hQ
    subst hQ
    dsimp only
    generalize lkE ds e = E at *
    have t1 : (E != 0) = true := by simpa using hE
    have t1' : (E == 0) = false := by simpa using hE
    clear h h' hl hl' hds hE
    go_enter Try.func13, Try.ntmps13
    go_wp2_with fail
    refine (unhide HLK).mono ?_
    rintro y w1 ⟨rfl, x1⟩
    dsimp only
    have HX1 := hide x1
    clear HLK x1
    go_wp2_with fail
    refine bodyPost_ret (results_tmp3 rfl _ _) rfl ⟨_, _, rfl, ChM.nil _ _ (unhide HX1)⟩

end Go.Proofs.Ythikhnlgpljbpaa
