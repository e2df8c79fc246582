/- Layer 14: linked and Chain, for lists of deltas that lie anywhere (written by wip/tools/sgh.py). · Rows of one's own that are grown: what lay there stays, also under the old value. · Layer 14: Both and Chain answer rows that do not share blocks (written by wip/tools/shf.py). · Layer 14, plain: places behind changes. -/
import Derived.Test.YtjjdgfjlpkhgcaaMg28
import Derived.Test.YtjjdgfjlpkhgcaaProg
import Derived.WalkKit
import Derived.Below
import Derived.Maps.AppendAt
import Derived.Carry
import Derived.ChangeAt
import Derived.Test.YtjjdgfjlpkhgcaaMg26

section
namespace Go.Proofs.Ytjjdgfjlpkhgcaa
open Go.ChangeShapes Go.WideShapes Go.ChangeAt Go.RowKit
attribute [local go_sem] Oper.semAt_some

/-- lists of operations in a row of slices that lies anywhere -/
structure IsDx (w X : World) (A0 : Option Addr) (ds : List Dl) : Prop where
  c : ∀ i, i < ds.length → ∃ G O, A0 = some ⟨G, O, none⟩ ∧ G < X.heap.size ∧ X.cell? ⟨G, O + i, none⟩ = some (.slice (ds.getD i dlZ).a (ds.getD i dlZ).d.length (ds.getD i dlZ).c)
  o : ∀ i, i < ds.length → IsO w (ds.getD i dlZ).a (ds.getD i dlZ).d ∧ (∀ o ∈ (ds.getD i dlZ).d, o.t.length ≤ 140737488355328)
theorem IsDx.on {w X Y : World} {A0 : Option Addr} {ds : List Dl} (h : IsDx w X A0 ds) (hb : Below X.heap.size X Y) : IsDx w Y A0 ds :=
  ⟨fun i hi => by
    obtain ⟨G, O, e, hg, hc⟩ := h.c i hi
    exact ⟨G, O, e, Nat.lt_of_lt_of_le hg hb.size, (hb.cell (p := ⟨G, O + i, none⟩) hg).trans hc⟩, h.o⟩
set_option maxRecDepth 100000 in
set_option maxHeartbeats 4000000 in
theorem linkedX_at (A0 : Option Addr) (cc : Nat) (ds : List Dl) (a' : Option Addr) (c' : Nat) (e : List Dop) (w X : World) (h : IsDx w X A0 ds) (h' : IsO w a' e) (hd : Below w.heap.size w X) (hl : ds.length ≤ 4611686018427387904) (hl' : e.length ≤ 4611686018427387904) (hds : ∀ x ∈ ds, x.d.length ≤ 4611686018427387904) :
    Calls Try.prog 67 #[.slice A0 ds.length cc, .slice a' e.length c'] X fun y X' => y = .returned (.int .i64 (lkE ds e)) ∧ Below X.heap.size X X' := by
  have HH := hide fun (Y : World) (hY : Below X.heap.size X Y) => h.on hY
  have HW := hide fun (Y : World) (hY : Below X.heap.size X Y) => hd.trans (hY.mono hd.size)
  have HDS := hide hds
  have HLE := hide (Lens_at a' c' e X (h'.below hd (Nat.le_refl _)) hl')
  obtain ⟨V, hV⟩ : ∃ V, V = lkE ds e := ⟨_, rfl⟩
  rw [← hV]
  unfold lkE at hV
  clear h hd hds h' hl'
  cases hve : valB e with
  | false =>
    rw [hve] at hV
    simp only [Bool.false_eq_true, if_false] at hV
    subst hV
    unfold lensV at HLE
    rw [hve] at HLE
    simp only [Bool.false_eq_true, if_false] at HLE
    clear HH HW HDS hve
    go_enter Try.func67, Try.ntmps67
    go_wp2_with fail
    refine (unhide HLE).mono ?_
    rintro y w1 ⟨rfl, x1⟩
    dsimp only
    clear HLE
    go_wp2_with fail
    refine bodyPost_ret (results_tmp rfl _ _ _) rfl ⟨rfl, x1⟩
  | true =>
    rw [hve] at hV
    simp only [if_true] at hV
    unfold lensV at HLE
    rw [hve] at HLE
    simp only [if_true] at HLE
    have HV := hide hV
    clear hve hV
    generalize frD e = fe at *
    generalize toD e = te at *
    go_enter Try.func67, Try.ntmps67
    go_wp2_with fail
    refine (unhide HLE).mono ?_
    rintro y w1 ⟨rfl, x1⟩
    dsimp only
    have HX1 := hide x1
    clear HLE x1
    go_wp2_with fail
    go_loopw [5, 8, 10, 11, 12, 13, 25, 29] (fun v5 v8 v10 v11 v12 v13 v25 v29 wx => ((∃ z, v10 = z) ∧ (∃ z, v11 = z) ∧ (∃ z, v12 = z) ∧ (∃ z, v13 = z) ∧ (∃ z, v29 = z)) ∧ ∃ (k A : Nat) (F : Bool), v25 = .int .i64 (k : Int) ∧ v5 = .int .i64 (A : Int) ∧ v8 = .bool F ∧ k ≤ ds.length ∧ Hid ((F && lkF A (ds.drop k)) = lkF fe ds ∧ (ds.drop k).all (fun x => valB x.d) = ds.all (fun x => valB x.d) ∧ Below X.heap.size X wx)) (fun _ _ _ _ _ _ v25 _ _ => ds.length - (intOf v25).toNat)
    case atStart => exact ⟨⟨⟨_, rfl⟩, ⟨_, rfl⟩, ⟨_, rfl⟩, ⟨_, rfl⟩, ⟨_, rfl⟩⟩, ⟨0, fe, true, rfl, rfl, rfl, Nat.zero_le _, hide ⟨rfl, rfl, unhide HX1⟩⟩⟩
    case round =>
      clear HX1
      obtain ⟨⟨⟨z1, rfl⟩, ⟨z2, rfl⟩, ⟨z3, rfl⟩, ⟨z4, rfl⟩, ⟨z5, rfl⟩⟩, ⟨k, A, F, rfl, rfl, rfl, hk, HI⟩⟩ := hrel
      by_cases hlt : k < ds.length
      · have s1 : decide ((k : Int) < (ds.length : Int)) = true := decide_eq_true (by omega)
        have s1' : (k : Int) < (ds.length : Int) := by omega
        have hS := unhide HH wr (unhide HI).2.2
        obtain ⟨gA, oA, hA0, _, q0⟩ := hS.c k hlt
        subst hA0
        have hO := (hS.o k hlt).1
        have hlen := unhide HDS _ (mem_dl hlt)
        have hi1 := (unhide HI).1
        have hi2 := (unhide HI).2.1
        rw [drop_dl hlt] at hi1 hi2
        have HB := hide (unhide HI).2.2
        have HLN := hide (Lens_at (ds.getD k dlZ).a (ds.getD k dlZ).c (ds.getD k dlZ).d wr (hO.below (unhide HW wr (unhide HI).2.2) (Nat.le_refl _)) hlen)
        clear HI hS hO hk hlen
        generalize ds.getD k dlZ = x at *
        obtain ⟨xa, xc, d⟩ := x
        dsimp only at q0 HLN
        simp only [lkF, List.all_cons] at hi1 hi2
        unfold lensV at HLN
        cases hvd : valB d with
        | false =>
          rw [hvd] at HLN hi2
          simp only [Bool.false_eq_true, if_false] at HLN
          simp only [Bool.false_and] at hi2
          have hV := unhide HV
          rw [← hi2] at hV
          simp only [Bool.false_eq_true, if_false] at hV
          subst hV
          clear HV hi1 hi2 hvd
          go_wp2_with fail
          refine (unhide HLN).mono ?_
          rintro y w2 ⟨rfl, x2⟩
          dsimp only
          have HX2 := hide ((unhide HB).trans (x2.mono (unhide HB).size))
          clear HLN x2 HB
          go_wp2_with fail
          refine bodyPost_ret (results_tmp rfl _ _ _) rfl ⟨rfl, unhide HX2⟩
        | true =>
          rw [hvd] at HLN hi2
          simp only [if_true] at HLN
          simp only [Bool.true_and] at hi2
          have HI2 := hide hi2
          clear hvd hi2
          go_wp2_with fail
          refine (unhide HLN).mono ?_
          rintro y w2 ⟨rfl, x2⟩
          dsimp only
          have HX2 := hide ((unhide HB).trans (x2.mono (unhide HB).size))
          clear HLN x2 HB q0
          have e1 : ((frD d : Int) == (A : Int)) = decide (frD d = A) := by
            by_cases h : frD d = A
            · rw [h]; simp
            · rw [decide_eq_false h]; simp; omega
          have e2 : (frD d == A) = decide (frD d = A) := rfl
          have HI1 := hide hi1
          clear hi1
          generalize toD d = td at *
          generalize hD : decide (frD d = A) = D at *
          clear hD
          generalize frD d = fd at *
          cases F with
          | false =>
            go_wp2_with fail
            go_roundw
            case rel => exact ⟨⟨⟨_, rfl⟩, ⟨_, rfl⟩, ⟨_, rfl⟩, ⟨_, rfl⟩, ⟨_, rfl⟩⟩, ⟨k + 1, td, false, by go_num, rfl, rfl, hlt, hide ⟨by have := unhide HI1; simpa using this, unhide HI2, unhide HX2⟩⟩⟩
            case measure => simp [intOf]; omega
          | true =>
            go_wp2_with fail
            try rw [e1]
            go_roundw
            case rel => exact ⟨⟨⟨_, rfl⟩, ⟨_, rfl⟩, ⟨_, rfl⟩, ⟨_, rfl⟩, ⟨_, rfl⟩⟩, ⟨k + 1, td, D, by go_num, rfl, by first | rfl | rw [e1] | rw [e2], hlt, hide ⟨by have := unhide HI1; simpa using this, unhide HI2, unhide HX2⟩⟩⟩
            case measure => simp [intOf]; omega
      · obtain rfl : k = ds.length := by omega
        have s1 : decide ((ds.length : Int) < (ds.length : Int)) = false := by simp
        have hi1 := (unhide HI).1
        have hi2 := (unhide HI).2.1
        rw [List.drop_length] at hi1 hi2
        simp only [lkF, Bool.and_true, List.all_nil] at hi1 hi2
        have hV := unhide HV
        rw [← hi1, ← hi2] at hV
        simp only [if_true] at hV
        have HB := hide (unhide HI).2.2
        clear HI HV hi1 hi2 hk hlt
        cases F with
        | false =>
          simp only [Bool.false_eq_true, if_false] at hV
          subst hV
          go_wp2_with fail
          refine bodyPost_ret (results_tmp rfl _ _ _) rfl ⟨rfl, unhide HB⟩
        | true =>
          simp only [if_true] at hV
          subst hV
          go_wp2_with fail
          refine bodyPost_ret (results_tmp rfl _ _ _) rfl ⟨rfl, unhide HB⟩

set_option maxRecDepth 100000 in
set_option maxHeartbeats 4000000 in
theorem ChainX_at (A0 : Option Addr) (cc : Nat) (ds : List Dl) (a' : Option Addr) (c' : Nat) (e : List Dop) (w : World) (h : IsDx w w A0 ds) (h' : IsO w a' e) (hl : ds.length * 24 ≤ 140737488355328) (hl' : e.length * 32 ≤ 140737488355328) (hds : ∀ x ∈ ds, x.d.length ≤ 4611686018427387904 ∧ x.d.length ≤ x.c) :
    Calls Try.prog 28 #[.slice A0 ds.length cc, .slice a' e.length c'] w fun y w' => ∃ v1 v8, y = .returned (.tuple #[v1, v8, .int .i64 (cnQ ds e).2]) ∧ ChM w w' v1 v8 (cnQ ds e).1.1 (cnQ ds e).1.2 := by
  have HLK := hide (linkedX_at A0 cc ds a' c' e w w h h' (Below.refl _ _) (by omega) (by omega) (fun x hx => (hds x hx).1))
  obtain ⟨Q, hQ⟩ : ∃ Q, Q = cnQ ds e := ⟨_, rfl⟩
  rw [← hQ]
  unfold cnQ at hQ
  by_cases hE : lkE ds e = 0
  · rw [hE] at HLK
    rw [if_pos hE] at hQ
    have HVE := hide (lk_val hE)
    have HCL := hide fun (X : World) (hX : Below w.heap.size w X) => clone_at a' c' e X (h'.below hX (Nat.le_refl _)) hl'
    have HH := hide fun (Y : World) (hY : Below w.heap.size w Y) => h.on hY
    have HDS := hide hds
    have HQ := hide hQ
    clear h h' hl' hds hE hQ
    go_enter Try.func28, Try.ntmps28
    go_wp2_with fail
    refine (unhide HLK).mono ?_
    rintro y w1 ⟨rfl, x1⟩
    dsimp only
    have HX1 := hide x1
    have HC1 := hide (unhide HCL w1 x1)
    clear HLK HCL x1
    go_wp2_with fail
    refine (unhide HC1).mono ?_
    rintro y w2 ⟨v1, rfl, o1, x2⟩
    dsimp only
    have HM0 : Hid (ChM w w2 v1 (.slice none 0 0) e []) := hide ⟨own_lower o1 (unhide HX1).size, ⟨[], World.ownsRow_nil _ _ _ _, rfl, fun i hi => by simp at hi⟩, (unhide HX1).trans (x2.mono (unhide HX1).size)⟩
    clear HC1 HX1 o1 x2
    go_wp2_with fail
    go_loopw [1, 8, 10, 11, 12, 13, 24, 28] (fun v1 v8 v10 v11 v12 v13 v24 v28 wx => ((∃ z, v10 = z) ∧ (∃ z, v11 = z) ∧ (∃ z, v12 = z) ∧ (∃ z, v13 = z) ∧ (∃ z, v28 = z)) ∧ ∃ (k : Nat) (b : List Dop) (L : List (List Dop)), v24 = .int .i64 (k : Int) ∧ k ≤ ds.length ∧ Hid (ChM w wx v1 v8 b L ∧ valB b = true ∧ L.length = k ∧ Q = preL L (chL ((ds.drop k).map (·.d)) b))) (fun _ _ _ _ _ _ v24 _ _ => ds.length - (intOf v24).toNat)
    case atStart => exact ⟨⟨⟨_, rfl⟩, ⟨_, rfl⟩, ⟨_, rfl⟩, ⟨_, rfl⟩, ⟨_, rfl⟩⟩, ⟨0, e, [], rfl, Nat.zero_le _, hide ⟨unhide HM0, unhide HVE, rfl, by
      rw [unhide HQ, List.drop_zero]
      unfold preL
      split
      · rename_i hz; rw [List.nil_append, ← hz]
      · rfl⟩⟩⟩
    case round =>
      clear HM0 HVE HQ
      obtain ⟨⟨⟨z1, rfl⟩, ⟨z2, rfl⟩, ⟨z3, rfl⟩, ⟨z4, rfl⟩, ⟨z5, rfl⟩⟩, ⟨k, b, L, rfl, hk, HI⟩⟩ := hrel
      by_cases hlt : k < ds.length
      · have s1 : decide ((k : Int) < (ds.length : Int)) = true := decide_eq_true (by omega)
        have s1' : (k : Int) < (ds.length : Int) := by omega
        obtain ⟨hm, hvb, hlk, hQ⟩ := unhide HI
        have hS := unhide HH wr hm.d
        obtain ⟨gA, oA, hA0, _, q0⟩ := hS.c k hlt
        subst hA0
        obtain ⟨hO, hT⟩ := hS.o k hlt
        obtain ⟨hd1, hd2⟩ := unhide HDS _ (mem_dl hlt)
        obtain ⟨a5, c5, hv5, i5, l5⟩ := own_isOC hm.b
        have HBO := hide (BothR_at (ds.getD k dlZ).a (ds.getD k dlZ).c (ds.getD k dlZ).d a5 c5 b wr ⟨hO.below hm.d (Nat.le_refl _), hd2⟩ ⟨i5, l5⟩ hT (val_tl hvb) hd1 (by have := val_len hvb; omega))
        rw [drop_dl hlt, List.map_cons] at hQ
        simp only [chL] at hQ
        have HM := hide hm
        clear HI hS hO hT hd1 hd2 i5 l5 hm hk
        generalize ds.getD k dlZ = x at *
        obtain ⟨xa, xc, d⟩ := x
        dsimp only at q0 HBO hQ
        subst hv5
        by_cases hE : boE d b = 0
        · rw [if_pos hE, pre_pre] at hQ
          rw [hE] at HBO
          have hv2 : valB (boB d b) = true := by
            obtain ⟨_, o2, _, eB⟩ := bo_ok hE
            rw [eB]; exact o2.v
          have HQ2 := hide (And.intro hv2 hQ)
          clear hE hv2 hQ hvb
          generalize boA d b = XA at *
          generalize boB d b = YB at *
          go_wp2_with fail
          refine (unhide HBO).mono ?_
          rintro y w3 ⟨v2, v3, rfl, o2, o3, x3⟩
          dsimp only
          obtain ⟨a6, c6, rfl, _, _⟩ := own_isOC o2
          obtain ⟨a7, c7, rfl, _, _⟩ := own_isOC o3
          have hm3 := (unhide HM).on x3
          have hwl := (unhide HM).d.size
          obtain ⟨v', W', r2, m2⟩ := hm3.push (own_lower o2 hwl) (own_lower o3 hwl) (by omega)
          have R2 := hide r2
          have HM2 := hide m2
          clear HBO HM o2 o3 x3 hm3 hwl r2 m2 q0
          go_wp2_with (at_builtin; refine wpList_append_known rfl _ _ 57 57 rfl _ _ rfl rfl _ _ (unhide R2) ?_; clear R2)
          go_roundw
          case rel => exact ⟨⟨⟨_, rfl⟩, ⟨_, rfl⟩, ⟨_, rfl⟩, ⟨_, rfl⟩, ⟨_, rfl⟩⟩, ⟨k + 1, YB, L ++ [XA], by go_num, hlt, hide ⟨unhide HM2, (unhide HQ2).1, by simp [hlk], (unhide HQ2).2⟩⟩⟩
          case measure => simp [intOf]; omega
        · rw [if_neg hE] at hQ
          have hQ' : Q = (([], []), boE d b) := by rw [hQ]; unfold preL; rw [if_neg hE]
          have HQ2 := hide hQ'
          generalize boE d b = E at *
          have t1 : (E != 0) = true := by simpa using hE
          have t1' : (E == 0) = false := by simpa using hE
          clear hE hQ hQ' hvb
          go_wp2_with fail
          refine (unhide HBO).mono ?_
          rintro y w3 ⟨v2, v3, rfl, _, _, x3⟩
          dsimp only
          have HB := hide ((unhide HM).d.trans (x3.mono (unhide HM).d.size))
          clear HBO HM x3 q0
          go_wp2_with fail
          have hQ := unhide HQ2
          subst hQ
          refine bodyPost_ret (results_tmp3 rfl _ _) rfl ⟨_, _, rfl, ChM.nil _ _ (unhide HB)⟩
      · obtain rfl : k = ds.length := by omega
        have s1 : decide ((ds.length : Int) < (ds.length : Int)) = false := by simp
        obtain ⟨hm, _, _, hQ⟩ := unhide HI
        rw [List.drop_length] at hQ
        simp only [List.map_nil, chL] at hQ
        have hQ' : Q = ((b, L), 0) := by rw [hQ]; simp [preL]
        have HM := hide hm
        have HQ2 := hide hQ'
        clear HI hm hQ hQ' hk hlt
        go_wp2_with fail
        have hQ := unhide HQ2
        subst hQ
        refine bodyPost_ret (results_tmp3 rfl _ _) rfl ⟨_, _, rfl, unhide HM⟩
  · rw [if_neg hE] at hQ
    subst hQ
    dsimp only
    generalize lkE ds e = E at *
    have t1 : (E != 0) = true := by simpa using hE
    have t1' : (E == 0) = false := by simpa using hE
    clear h h' hl hl' hds hE
    go_enter Try.func28, Try.ntmps28
    go_wp2_with fail
    refine (unhide HLK).mono ?_
    rintro y w1 ⟨rfl, x1⟩
    dsimp only
    have HX1 := hide x1
    clear HLK x1
    go_wp2_with fail
    refine bodyPost_ret (results_tmp3 rfl _ _) rfl ⟨_, _, rfl, ChM.nil _ _ (unhide HX1)⟩

end Go.Proofs.Ytjjdgfjlpkhgcaa
end

section
namespace Go.Proofs.Ytjjdgfjlpkhgcaa
open Go.ChangeShapes Go.WideShapes Go.ChangeAt Go.RowKit

section
variable {P : Program}
theorem rwk_cut {W : World} {B s n m c : Nat} {e : TypeId} {a : Option Addr} {xs ys : List Value} (h : W.ownsRow B e s (.slice a (n + m) c) (n + m) (xs ++ ys)) (hx : xs.length = n * s) (ha : a ≠ none) : W.ownsRow B e s (.slice a n c) n xs := by
  rcases h.2 with ⟨e1, _⟩ | ⟨g, cap, cur, e1, hb, hg, hn, hm, hs, ht⟩
  · injection e1 with e1; exact absurd e1 ha
  · cases e1
    refine ⟨hx, .inr ⟨g, c, cur, rfl, hb, hg, by omega, hm, hs, ?_⟩⟩
    have h2 := congrArg (List.take (n * s)) ht
    rw [List.take_take, Nat.min_eq_left (Nat.mul_le_mul_right _ (by omega)), ← hx, List.take_left] at h2
    rw [← hx]; exact h2
theorem push_kept (w : World) (base : Nat) (t ty e : TypeId) (i : TypeInfo) (z : Value) (size bytes : Nat) (ht : P.underlying t = some (.slice e)) (hi : P.info? e = some i) (hz : i.zero = some z)
    (hsize : i.size = size) (hby : i.bytes = bytes) (hzs : z.cells.size = size) (hsz : 0 < size)
    (v : Value) (n : Nat) (xs : List Value) (hown : w.ownsRow base e size v n xs)
    (a : Addr) (m c : Nat) (news : List Value) (hl : news.length = m * size) (hnews : ∀ j u, news[j]? = some u → w.cell? (a.add j) = some u) (h1 : ∀ u ∈ news, u.oneCell' = true)
    (h63 : n + m ≤ maxLen) (hbytes : (n + m) * bytes ≤ 140737488355328) (hbase : base ≤ w.heap.size) :
    ∃ v' w', (Builtin.append_ #[t, t] ty #[v, .slice (some a) m c]).run P w = .ok v' w' ∧ w'.ownsRow base e size v' (n + m) (xs ++ news) ∧ w'.ownsRow base e size v n xs ∧ w.grownBy w' v.ownBlock ∧
      ((∃ g c, v = .slice (some ⟨g, 0, none⟩) n c ∧ v' = .slice (some ⟨g, 0, none⟩) (n + m) c) ∨ v' = .slice none 0 0 ∨ v'.ownBlock = some w.heap.size) := by
  obtain ⟨v', w', hr, h2, h3, _, h5⟩ := run_append_own_at (P := P) w base t ty e i z size bytes ht hi hz hsize hby hzs hsz v n xs hown a m c news hl hnews h1 h63 hbytes hbase
  refine ⟨v', w', hr, h2, ?_⟩
  subst hsize
  subst hby
  rcases hown.2 with ⟨rfl, rfl⟩ | ⟨g, cap, cur, rfl, hbg, hg, hnc, hcm, hcs, htake⟩
  · refine ⟨⟨hown.1, .inl ⟨rfl, rfl⟩⟩, h3, .inr ?_⟩
    rcases h5 with h5 | h5
    · left
      rcases h2.2 with ⟨e1, _⟩ | ⟨g, cap, cur, e1, _⟩
      · exact e1
      · subst e1; cases h5
    · exact .inr h5
  · by_cases hroom : n + m ≤ cap
    · have hr2 := run_append_room (P := P) w t ty e i ht hi g n cap cur hg a m c news hl hnews h1 hroom (by rw [hl, hcs, ← Nat.add_mul]; exact Nat.mul_le_mul_right _ hroom)
      rw [hr] at hr2
      injection hr2 with e1 e2
      subst e1
      exact ⟨rwk_cut h2 hown.1 (by simp), h3, .inl ⟨g, cap, rfl, rfl⟩⟩
    · have hr2 := run_append_grow (P := P) w t ty e i z ht hi hz ⟨g, 0, none⟩ n cap xs hown.1 (hown.cells (g := g) rfl) a m c news hl hnews (by omega) (by simp only [maxLen] at h63; omega) (growslice_fits (by omega) hbytes)
      rw [hr] at hr2
      injection hr2 with e1 e2
      subst e2
      refine ⟨⟨hown.1, .inr ⟨g, cap, cur, rfl, hbg, ?_, hnc, hcm, hcs, htake⟩⟩, h3, .inr (.inr (by rw [e1]; rfl))⟩
      rw [← hg]
      exact heap_alloc_old w.drew _ (Array.getElem?_eq_some_iff.1 hg).1
/-- one cell of a row is written -/
theorem rwk_set {W : World} {B s n cap g : Nat} {e : TypeId} {xs : List Value} (h : W.ownsRow B e s (.slice (some ⟨g, 0, none⟩) n cap) n xs) (j : Nat) (u : Value) : (W.setCell ⟨g, j, none⟩ u).ownsRow B e s (.slice (some ⟨g, 0, none⟩) n cap) n (xs.set j u) := by
  rcases h.2 with ⟨e1, _⟩ | ⟨g', cap', cur, e1, hb, hg, hn, hm, hs, ht⟩
  · cases e1
  · cases e1
    refine ⟨by rw [List.length_set]; exact h.1, .inr ⟨g, cap, cur.setIfInBounds j u, rfl, hb, ?_, hn, hm, by rw [Array.size_setIfInBounds]; exact hs, ?_⟩⟩
    · have hl := (Array.getElem?_eq_some_iff.1 hg).1
      show (W.heap.modify g _)[g]? = _
      rw [Array.getElem?_eq_getElem (by rw [Array.size_modify]; exact hl), Array.getElem_modify_self]
      rw [Array.getElem?_eq_getElem hl] at hg
      rw [Option.some.inj hg]
      rfl
    · rw [Array.toList_setIfInBounds, List.take_set, ht]
/-- and how it is read -/
theorem rwk_cell {W : World} {B s n cap g : Nat} {e : TypeId} {xs : List Value} (h : W.ownsRow B e s (.slice (some ⟨g, 0, none⟩) n cap) n xs) (j : Nat) (hj : j < n * s) : W.cell? ⟨g, j, none⟩ = xs[j]? ∧ W.frozen? ⟨g, j, none⟩ = false := by
  rcases h.2 with ⟨e1, _⟩ | ⟨g', cap', cur, e1, hb, hg, hn, hm, hs, ht⟩
  · cases e1
  · cases e1
    refine ⟨?_, by simp [World.frozen?, hg]⟩
    rw [← ht, List.getElem?_take_of_lt hj]
    simp [World.cell?, hg]
/-- two rows do not share a block -/
def NB (a b : Value) : Prop := ∀ g, a.ownBlock = some g → b.ownBlock ≠ some g
theorem NB.symm {a b : Value} (h : NB a b) : NB b a := fun g h1 h2 => h g h2 h1
theorem rwk_other {W : World} {B s n cap g j : Nat} {e : TypeId} {v u : Value} {xs : List Value} (h : W.ownsRow B e s v n xs) (hne : NB (.slice (some ⟨g, 0, none⟩) 0 cap) v) : (W.setCell ⟨g, j, none⟩ u).ownsRow B e s v n xs := by
  refine World.ownsRow.kept (row := some g) h ⟨rfl, rfl, rfl, by simp [World.setCell], fun k hk hk' => ?_⟩ ?_
  · exact Below.heap_setCell W ⟨g, j, none⟩ u k (fun e => hk' (by rw [e]))
  · right; exact hne g rfl
end
end Go.Proofs.Ytjjdgfjlpkhgcaa
end

section
namespace Go.Proofs.Ytjjdgfjlpkhgcaa
open Go.ChangeShapes Go.WideShapes Go.ChangeAt Go.RowKit
attribute [local go_sem] Oper.semAt_some

theorem nb_nil (v : Value) : NB (.slice none 0 0) v := fun g h => by cases h
theorem nb_of {X Y : World} {B s s' n m : Nat} {t t' : TypeId} {v v' : Value} {xs ys : List Value} (h : X.ownsRow B t s v n xs) (h' : Y.ownsRow X.heap.size t' s' v' m ys) : NB v v' := fun g h1 h2 => by
  obtain ⟨_, c, hc⟩ := rowD_block h h1
  have := (Array.getElem?_eq_some_iff.1 hc).1
  have := (rowD_block h' h2).1
  omega
theorem own_fun {X : World} {B s n : Nat} {t : TypeId} {v : Value} {xs ys : List Value} (h : X.ownsRow B t s v n xs) (h' : X.ownsRow B t s v n ys) : xs = ys := by
  rcases h.2 with ⟨rfl, hn⟩ | ⟨g, c, cur, rfl, _, hg, _, _, _, ht⟩
  · have a := h.1; have b := h'.1
    rw [hn, Nat.zero_mul] at a b
    rw [List.eq_nil_of_length_eq_zero a, List.eq_nil_of_length_eq_zero b]
  · rcases h'.2 with ⟨e, _⟩ | ⟨g', c', cur', e, _, hg', _, _, _, ht'⟩
    · cases e
    · cases e
      rw [hg] at hg'
      cases hg'
      rw [← ht, ← ht']
/-- the delta and the lists of a chain's answer share no block -/
def ChA (w X : World) (v1 v8 : Value) (n : Nat) : Prop := ∃ vs, X.ownsRow w.heap.size 24 1 v8 n vs ∧ (v1 :: vs).Pairwise NB
theorem ChA.nil (w X : World) (v1 : Value) : ChA w X v1 (.slice none 0 0) 0 := ⟨[], World.ownsRow_nil _ _ _ _, by simp⟩
theorem ChA.on {w X Y : World} {v1 v8 : Value} {n : Nat} (h : ChA w X v1 v8 n) (hb : Below X.heap.size X Y) : ChA w Y v1 v8 n := by
  obtain ⟨vs, h1, h2⟩ := h
  exact ⟨vs, rowD_below h1 hb (Nat.le_refl _), h2⟩
theorem chA_push {w X Y : World} {v1 v8 v2 v3 : Value} {b x y : List Dop} {L : List (List Dop)} (h : ChM w X v1 v8 b L) (ha : ChA w X v1 v8 L.length) (hb : Below X.heap.size X Y) (o2 : Y.ownsRow X.heap.size 34 3 v2 x.length (opsV x)) (o3 : Y.ownsRow X.heap.size 34 3 v3 y.length (opsV y)) (hn : NB v2 v3) (hl : (L.length + 1) * 24 ≤ 140737488355328) :
    ∃ v' W', (Builtin.append_ #[57, 57] 57 #[v8, .slice (some ⟨Y.heap.size, 0, none⟩) 1 1]).run Try.prog (Y.alloc (.cells #[v2] 24)) = .ok v' W' ∧ ChM w W' v3 v' y (L ++ [x]) ∧ ChA w W' v3 v' (L ++ [x]).length := by
  obtain ⟨v', W', r, m⟩ := (h.on hb).push (own_lower o2 h.d.size) (own_lower o3 h.d.size) hl
  refine ⟨v', W', r, m, ?_⟩
  obtain ⟨vs, a1, a2⟩ := ha
  obtain ⟨vs', h1, h2, h3⟩ := h.l
  obtain rfl := own_fun a1 h1
  obtain ⟨i, hi, hz, hs, hby⟩ := info_dl
  have hr := World.ownsRow.alloc (rowD_below a1 hb (Nat.le_refl _)) (.cells #[v2] 24)
  have kN := Cls.new Y 24 #[v2]
  have hone : v2.oneCell' = true := by rcases o2.2 with ⟨rfl, _⟩ | ⟨_, _, _, rfl, _⟩ <;> rfl
  obtain ⟨g, k, W2, hrun, ho, _, _, _⟩ := run_append_lies (P := Try.prog) (Y.alloc (.cells #[v2] 24)) 57 57 w.heap.size 24 i (.slice none 0 0) 1 24 Try.underlying57 hi hz hs hby rfl (by decide)
    v8 L.length vs hr ⟨Y.heap.size, 0, none⟩ 1 1 [v2] rfl
    (fun j u hj => by
      rw [Addr.add_lit, Nat.zero_add]
      exact (kN.cell j).trans (by simpa using hj))
    (fun u hu => by
      have e : u = v2 := by simpa using hu
      rw [e]; exact hone) (by decide) (by unfold maxLen; omega) (by omega) (by simp; have := h.d.size; have := hb.size; omega) _ rfl
  rw [r] at hrun
  injection hrun with e1 e2
  subst e1 e2
  have hvs : ∀ v ∈ vs, ∀ (u : Value) (n' : Nat) (xs' : List Value), Y.ownsRow X.heap.size 34 3 u n' xs' → NB v u := fun v hv u n' xs' hu => by
    obtain ⟨j, hj, rfl⟩ := List.getElem_of_mem hv
    have := h3 j (by omega)
    rw [show vs.getD j undef = vs[j] by simp [List.getD, List.getElem?_eq_getElem hj]] at this
    exact nb_of this hu
  refine ⟨vs ++ [v2], by rw [List.length_append, List.length_singleton]; exact ho, ?_⟩
  rw [List.pairwise_cons] at a2 ⊢
  refine ⟨fun a ha => ?_, ?_⟩
  · rcases List.mem_append.1 ha with ha | ha
    · exact (hvs a ha v3 _ _ o3).symm
    · rw [List.mem_singleton.1 ha]; exact hn.symm
  · rw [List.pairwise_append]
    refine ⟨a2.2, List.pairwise_singleton _ _, fun a ha c hc => ?_⟩
    rw [List.mem_singleton.1 hc]; exact hvs a ha v2 _ _ o2
set_option maxRecDepth 100000 in
set_option maxHeartbeats 4000000 in
theorem BothA_at (a : Option Addr) (c : Nat) (d : List Dop) (a' : Option Addr) (c' : Nat) (e : List Dop) (w : World) (h : IsO w a d ∧ d.length ≤ c) (h' : IsO w a' e ∧ e.length ≤ c') (ht : ∀ o ∈ d, o.t.length ≤ 140737488355328) (ht' : ∀ o ∈ e, o.t.length ≤ 140737488355328) (hl : d.length ≤ 4611686018427387904) (hl' : e.length ≤ 4611686018427387904) :
    Calls Try.prog 29 #[.slice a d.length c, .slice a' e.length c'] w fun y w' => ∃ v2 v3, y = .returned (.tuple #[v2, v3, .int .i64 (boE d e)]) ∧ w'.ownsRow w.heap.size 34 3 v2 (boA d e).length (opsV (boA d e)) ∧ w'.ownsRow w.heap.size 34 3 v3 (boB d e).length (opsV (boB d e)) ∧ NB v2 v3 ∧ Below w.heap.size w w' := by
  have H1 := hide (Over_at a' c' e a c d true w h'.1 h.1 h'.2 h.2 ht' hl' hl)
  have H2 := hide fun (X : World) (hX : Below w.heap.size w X) => Over_at a c d a' c' e false X (h.1.below hX (Nat.le_refl _)) (h'.1.below hX (Nat.le_refl _)) h.2 h'.2 ht hl hl'
  obtain ⟨E1, hE1⟩ : ∃ E1, E1 = ovE e d true := ⟨_, rfl⟩
  obtain ⟨E2, hE2⟩ : ∃ E2, E2 = ovE d e false := ⟨_, rfl⟩
  obtain ⟨L1, hL1⟩ : ∃ L1, L1 = ovD e d true := ⟨_, rfl⟩
  obtain ⟨L2, hL2⟩ : ∃ L2, L2 = ovD d e false := ⟨_, rfl⟩
  have hbE : boE d e = if E1 = 0 then E2 else E1 := by unfold boE; rw [hE1, hE2]
  have hbA : boA d e = if (if E1 = 0 then E2 else E1) = 0 then L1 else [] := by unfold boA; rw [hbE, hL1]
  have hbB : boB d e = if (if E1 = 0 then E2 else E1) = 0 then L2 else [] := by unfold boB; rw [hbE, hL2]
  rw [hbE, hbA, hbB]
  rw [← hE1, ← hL1] at H1
  rw [← hE2, ← hL2] at H2
  clear h h' ht ht' hl hl' hE1 hE2 hL1 hL2 hbE hbA hbB
  by_cases e1 : E1 = 0
  · subst e1
    simp only [if_true]
    by_cases e2 : E2 = 0
    · subst e2
      simp only [if_true]
      go_enter Try.func29, Try.ntmps29
      go_wp2_with fail
      refine (unhide H1).mono ?_
      rintro y w1 ⟨v2, rfl, i2, x1⟩
      dsimp only
      have HX1 := hide x1
      have HI := hide i2
      have HC := hide (unhide H2 w1 x1)
      clear H1 H2 i2 x1
      go_wp2_with fail
      refine (unhide HC).mono ?_
      rintro y w2 ⟨v3, rfl, i3, x2⟩
      dsimp only
      have HI2 := hide (And.intro (rowD_below (unhide HI) x2 (Nat.le_refl _)) (And.intro (own_lower i3 (unhide HX1).size) (nb_of (unhide HI) i3)))
      have HX2 := hide ((unhide HX1).trans (x2.mono (unhide HX1).size))
      clear HC HI HX1 i3 x2
      go_wp2_with fail
      refine bodyPost_ret (results_tmp3 rfl _ _) rfl ⟨_, _, rfl, (unhide HI2).1, (unhide HI2).2.1, (unhide HI2).2.2, unhide HX2⟩
    · have t2 : (E2 != 0) = true := by simpa using e2
      have t2' : (E2 == 0) = false := by simpa using e2
      rw [if_neg e2, if_neg e2]
      go_enter Try.func29, Try.ntmps29
      go_wp2_with fail
      refine (unhide H1).mono ?_
      rintro y w1 ⟨v2, rfl, _, x1⟩
      dsimp only
      have HX1 := hide x1
      have HC := hide (unhide H2 w1 x1)
      clear H1 H2 x1
      go_wp2_with fail
      refine (unhide HC).mono ?_
      rintro y w2 ⟨v3, rfl, _, x2⟩
      dsimp only
      have HX2 := hide ((unhide HX1).trans (x2.mono (unhide HX1).size))
      clear HC HX1 x2 e2
      go_wp2_with fail
      refine bodyPost_ret (results_tmp3 rfl _ _) rfl ⟨.slice none 0 0, .slice none 0 0, rfl, row_nilD _ _, row_nilD _ _, nb_nil _, unhide HX2⟩
  · have t1 : (E1 != 0) = true := by simpa using e1
    have t1' : (E1 == 0) = false := by simpa using e1
    rw [if_neg e1, if_neg e1, if_neg e1]
    go_enter Try.func29, Try.ntmps29
    go_wp2_with fail
    refine (unhide H1).mono ?_
    rintro y w1 ⟨v2, rfl, _, x1⟩
    dsimp only
    have HX1 := hide x1
    clear H1 H2 x1 e1
    go_wp2_with fail
    refine bodyPost_ret (results_tmp3 rfl _ _) rfl ⟨.slice none 0 0, .slice none 0 0, rfl, row_nilD _ _, row_nilD _ _, nb_nil _, unhide HX1⟩
set_option maxRecDepth 100000 in
set_option maxHeartbeats 4000000 in
theorem ChainA_at (A0 : Option Addr) (cc : Nat) (ds : List Dl) (a' : Option Addr) (c' : Nat) (e : List Dop) (w : World) (h : IsDx w w A0 ds) (h' : IsO w a' e) (hl : ds.length * 24 ≤ 140737488355328) (hl' : e.length * 32 ≤ 140737488355328) (hds : ∀ x ∈ ds, x.d.length ≤ 4611686018427387904 ∧ x.d.length ≤ x.c) :
    Calls Try.prog 28 #[.slice A0 ds.length cc, .slice a' e.length c'] w fun y w' => ∃ v1 v8, y = .returned (.tuple #[v1, v8, .int .i64 (cnQ ds e).2]) ∧ ChM w w' v1 v8 (cnQ ds e).1.1 (cnQ ds e).1.2 ∧ ChA w w' v1 v8 (cnQ ds e).1.2.length := by
  have HLK := hide (linkedX_at A0 cc ds a' c' e w w h h' (Below.refl _ _) (by omega) (by omega) (fun x hx => (hds x hx).1))
  obtain ⟨Q, hQ⟩ : ∃ Q, Q = cnQ ds e := ⟨_, rfl⟩
  rw [← hQ]
  unfold cnQ at hQ
  by_cases hE : lkE ds e = 0
  · rw [hE] at HLK
    rw [if_pos hE] at hQ
    have HVE := hide (lk_val hE)
    have HCL := hide fun (X : World) (hX : Below w.heap.size w X) => clone_at a' c' e X (h'.below hX (Nat.le_refl _)) hl'
    have HH := hide fun (Y : World) (hY : Below w.heap.size w Y) => h.on hY
    have HDS := hide hds
    have HQ := hide hQ
    clear h h' hl' hds hE hQ
    go_enter Try.func28, Try.ntmps28
    go_wp2_with fail
    refine (unhide HLK).mono ?_
    rintro y w1 ⟨rfl, x1⟩
    dsimp only
    have HX1 := hide x1
    have HC1 := hide (unhide HCL w1 x1)
    clear HLK HCL x1
    go_wp2_with fail
    refine (unhide HC1).mono ?_
    rintro y w2 ⟨v1, rfl, o1, x2⟩
    dsimp only
    have HM0 : Hid (ChM w w2 v1 (.slice none 0 0) e []) := hide ⟨own_lower o1 (unhide HX1).size, ⟨[], World.ownsRow_nil _ _ _ _, rfl, fun i hi => by simp at hi⟩, (unhide HX1).trans (x2.mono (unhide HX1).size)⟩
    clear HC1 HX1 o1 x2
    go_wp2_with fail
    go_loopw [1, 8, 10, 11, 12, 13, 24, 28] (fun v1 v8 v10 v11 v12 v13 v24 v28 wx => ((∃ z, v10 = z) ∧ (∃ z, v11 = z) ∧ (∃ z, v12 = z) ∧ (∃ z, v13 = z) ∧ (∃ z, v28 = z)) ∧ ∃ (k : Nat) (b : List Dop) (L : List (List Dop)), v24 = .int .i64 (k : Int) ∧ k ≤ ds.length ∧ Hid (ChM w wx v1 v8 b L ∧ ChA w wx v1 v8 L.length ∧ valB b = true ∧ L.length = k ∧ Q = preL L (chL ((ds.drop k).map (·.d)) b))) (fun _ _ _ _ _ _ v24 _ _ => ds.length - (intOf v24).toNat)
    case atStart => exact ⟨⟨⟨_, rfl⟩, ⟨_, rfl⟩, ⟨_, rfl⟩, ⟨_, rfl⟩, ⟨_, rfl⟩⟩, ⟨0, e, [], rfl, Nat.zero_le _, hide ⟨unhide HM0, ChA.nil _ _ _, unhide HVE, rfl, by
      rw [unhide HQ, List.drop_zero]
      unfold preL
      split
      · rename_i hz; rw [List.nil_append, ← hz]
      · rfl⟩⟩⟩
    case round =>
      clear HM0 HVE HQ
      obtain ⟨⟨⟨z1, rfl⟩, ⟨z2, rfl⟩, ⟨z3, rfl⟩, ⟨z4, rfl⟩, ⟨z5, rfl⟩⟩, ⟨k, b, L, rfl, hk, HI⟩⟩ := hrel
      by_cases hlt : k < ds.length
      · have s1 : decide ((k : Int) < (ds.length : Int)) = true := decide_eq_true (by omega)
        have s1' : (k : Int) < (ds.length : Int) := by omega
        obtain ⟨hm, hA, hvb, hlk, hQ⟩ := unhide HI
        have HA := hide hA
        clear hA
        have hS := unhide HH wr hm.d
        obtain ⟨gA, oA, hA0, _, q0⟩ := hS.c k hlt
        subst hA0
        obtain ⟨hO, hT⟩ := hS.o k hlt
        obtain ⟨hd1, hd2⟩ := unhide HDS _ (mem_dl hlt)
        obtain ⟨a5, c5, hv5, i5, l5⟩ := own_isOC hm.b
        have HBO := hide (BothA_at (ds.getD k dlZ).a (ds.getD k dlZ).c (ds.getD k dlZ).d a5 c5 b wr ⟨hO.below hm.d (Nat.le_refl _), hd2⟩ ⟨i5, l5⟩ hT (val_tl hvb) hd1 (by have := val_len hvb; omega))
        rw [drop_dl hlt, List.map_cons] at hQ
        simp only [chL] at hQ
        have HM := hide hm
        clear HI hS hO hT hd1 hd2 i5 l5 hm hk
        generalize ds.getD k dlZ = x at *
        obtain ⟨xa, xc, d⟩ := x
        dsimp only at q0 HBO hQ
        subst hv5
        by_cases hE : boE d b = 0
        · rw [if_pos hE, pre_pre] at hQ
          rw [hE] at HBO
          have hv2 : valB (boB d b) = true := by
            obtain ⟨_, o2, _, eB⟩ := bo_ok hE
            rw [eB]; exact o2.v
          have HQ2 := hide (And.intro hv2 hQ)
          clear hE hv2 hQ hvb
          generalize boA d b = XA at *
          generalize boB d b = YB at *
          go_wp2_with fail
          refine (unhide HBO).mono ?_
          rintro y w3 ⟨v2, v3, rfl, o2, o3, hn, x3⟩
          dsimp only
          obtain ⟨a6, c6, rfl, _, _⟩ := own_isOC o2
          obtain ⟨a7, c7, rfl, _, _⟩ := own_isOC o3
          obtain ⟨v', W', r2, m2⟩ := chA_push (unhide HM) (unhide HA) x3 o2 o3 hn (by omega)
          have R2 := hide r2
          have HM2 := hide m2
          clear HBO HM HA o2 o3 x3 hn r2 m2 q0
          go_wp2_with (at_builtin; refine wpList_append_known rfl _ _ 57 57 rfl _ _ rfl rfl _ _ (unhide R2) ?_; clear R2)
          go_roundw
          case rel => exact ⟨⟨⟨_, rfl⟩, ⟨_, rfl⟩, ⟨_, rfl⟩, ⟨_, rfl⟩, ⟨_, rfl⟩⟩, ⟨k + 1, YB, L ++ [XA], by go_num, hlt, hide ⟨(unhide HM2).1, (unhide HM2).2, (unhide HQ2).1, by simp [hlk], (unhide HQ2).2⟩⟩⟩
          case measure => simp [intOf]; omega
        · rw [if_neg hE] at hQ
          have hQ' : Q = (([], []), boE d b) := by rw [hQ]; unfold preL; rw [if_neg hE]
          have HQ2 := hide hQ'
          generalize boE d b = E at *
          have t1 : (E != 0) = true := by simpa using hE
          have t1' : (E == 0) = false := by simpa using hE
          clear hE hQ hQ' hvb
          go_wp2_with fail
          refine (unhide HBO).mono ?_
          rintro y w3 ⟨v2, v3, rfl, _, _, _, x3⟩
          dsimp only
          have HB := hide ((unhide HM).d.trans (x3.mono (unhide HM).d.size))
          clear HBO HM HA x3 q0
          go_wp2_with fail
          have hQ := unhide HQ2
          subst hQ
          refine bodyPost_ret (results_tmp3 rfl _ _) rfl ⟨_, _, rfl, ChM.nil _ _ (unhide HB), ChA.nil _ _ _⟩
      · obtain rfl : k = ds.length := by omega
        have s1 : decide ((ds.length : Int) < (ds.length : Int)) = false := by simp
        obtain ⟨hm, hA, _, _, hQ⟩ := unhide HI
        have HA := hide hA
        clear hA
        rw [List.drop_length] at hQ
        simp only [List.map_nil, chL] at hQ
        have hQ' : Q = ((b, L), 0) := by rw [hQ]; simp [preL]
        have HM := hide hm
        have HQ2 := hide hQ'
        clear HI hm hQ hQ' hk hlt
        go_wp2_with fail
        have hQ := unhide HQ2
        subst hQ
        refine bodyPost_ret (results_tmp3 rfl _ _) rfl ⟨_, _, rfl, unhide HM, unhide HA⟩
  · rw [if_neg hE] at hQ
    subst hQ
    dsimp only
    generalize lkE ds e = E at *
    have t1 : (E != 0) = true := by simpa using hE
    have t1' : (E == 0) = false := by simpa using hE
    clear h h' hl hl' hds hE
    go_enter Try.func28, Try.ntmps28
    go_wp2_with fail
    refine (unhide HLK).mono ?_
    rintro y w1 ⟨rfl, x1⟩
    dsimp only
    have HX1 := hide x1
    clear HLK x1
    go_wp2_with fail
    refine bodyPost_ret (results_tmp3 rfl _ _) rfl ⟨_, _, rfl, ChM.nil _ _ (unhide HX1), ChA.nil _ _ _⟩


end Go.Proofs.Ytjjdgfjlpkhgcaa
end

section
namespace Go.Proofs.Ytjjdgfjlpkhgcaa

theorem mv_lb (g : Int) : ∀ (cs : List Dop) (h q s : Int), GapC h cs → h ≤ q → h + s ≤ mvC q g s cs
  | [], h, q, s, _, hq => by simp only [mvC]; omega
  | c :: r, h, q, s, hg, hq => by
    have h1 := hg.1
    have h2 := hg.2.1
    simp only [mvC]
    split
    · omega
    · split
      · split <;> omega
      · have ih := mv_lb g r c.n q (s + ((c.t.length : Int) - (c.n - c.k))) hg.2.2 (by omega)
        omega
theorem mv_mono (g : Int) : ∀ (cs : List Dop) (h p q s : Int), GapC h cs → h ≤ p → p ≤ q → mvC p g s cs ≤ mvC q g s cs
  | [], _, p, q, s, _, _, hq => by simp only [mvC]; omega
  | c :: r, h, p, q, s, hg, hp, hq => by
    have h1 := hg.1
    have h2 := hg.2.1
    have lb : c.n < q → c.n + (s + ((c.t.length : Int) - (c.n - c.k))) ≤ mvC q g (s + ((c.t.length : Int) - (c.n - c.k))) r := fun h => mv_lb g r c.n q _ hg.2.2 (by omega)
    simp only [mvC]
    by_cases p1 : p < c.k
    · rw [if_pos p1]
      by_cases q1 : q < c.k
      · rw [if_pos q1]; omega
      · rw [if_neg q1]
        by_cases q2 : q ≤ c.n
        · rw [if_pos q2]; split <;> omega
        · rw [if_neg q2]
          have := lb (by omega)
          omega
    · rw [if_neg p1, if_neg (show ¬ q < c.k by omega)]
      by_cases p2 : p ≤ c.n
      · rw [if_pos p2]
        by_cases q2 : q ≤ c.n
        · rw [if_pos q2]; exact Int.le_refl _
        · rw [if_neg q2]
          have := lb (by omega)
          split <;> omega
      · rw [if_neg p2, if_neg (show ¬ q ≤ c.n by omega)]
        exact mv_mono g r c.n p q _ hg.2.2 (by omega) hq
theorem mv_lr : ∀ (cs : List Dop) (p s : Int), mvC p 1 s cs ≤ mvC p 2 s cs
  | [], _, _ => Int.le_refl _
  | c :: r, p, s => by
    simp only [mvC]
    split
    · exact Int.le_refl _
    · split
      · simp; omega
      · exact mv_lr r p _
theorem mv_end : ∀ (cs : List Dop) (h n s : Int), GapC h cs → lstC h cs ≤ n → mvC n 2 s cs = n + s + dlC cs
  | [], _, _, _, _, _ => by simp [mvC, dlC]
  | c :: r, h, n, s, hg, hl => by
    have h1 := hg.1
    have h2 := hg.2.1
    have h3 := gap_le hg.2.2
    simp only [lstC] at hl
    simp only [mvC, dlC]
    rw [if_neg (by omega)]
    by_cases q2 : n ≤ c.n
    · rw [if_pos q2, if_neg (by decide)]
      cases r with
      | nil => simp only [dlC]; omega
      | cons c2 r2 =>
        have := hg.2.2.1
        have := hg.2.2.2.1
        have := h3.2 c2 (by simp)
        omega
    · rw [if_neg q2, mv_end r c.n n _ hg.2.2 hl]
      omega
theorem mv_zero : ∀ (cs : List Dop), GapC (-1) cs → mvC 0 1 0 cs = 0
  | [], _ => rfl
  | c :: r, hg => by
    have h1 := hg.1
    have h2 := hg.2.1
    simp only [mvC]
    by_cases q : (0 : Int) < c.k
    · rw [if_pos q]; rfl
    · rw [if_neg q, if_pos (by omega)]; simp; omega
/-- the lengths by the changes -/
theorem to_ch {d : List Dop} (hv : valB d = true) : GapC (-1) (runL d).2 ∧ lstC (-1) (runL d).2 ≤ frD d ∧ (toD d : Int) = frD d + dlC (runL d).2 := by
  have hs := chs_run (val_Can hv)
  have hm := hs.f
  generalize (runL d).2 = cs at *
  generalize (runL d).1 = m at *
  have hl := hs.l
  have hg := hs.g
  have hlm : lstC (-1) cs ≤ m := by
    by_cases hc : cs = []
    · rw [hc]; simp only [lstC]; omega
    · have := lstC_two 0 (-1) hc
      omega
  have t5 := opC_sizes cs 0 m (gap_okL hg hlm (by omega) (by omega))
  have h1 := congrArg toA hs.a
  rw [to_app, (frA_dA (opC_k 0 cs)).2, (frA_dA (valB_k hv)).2, (fr_rep_k _).2] at h1
  exact ⟨hg, by omega, by omega⟩
theorem pl_zero {d : List Dop} {p g : Int} (hv : valB d = true) (hp : 0 ≤ p ∧ p ≤ frD d) (hg : g = 1 ∨ g = 2) : plE d p g = 0 ∧ plV d p g = mvC p g 0 (runL d).2 := by
  have h : plE d p g = 0 := by unfold plE; rw [hv, if_pos rfl, if_pos ⟨hp, hg⟩]
  exact ⟨h, by unfold plV; rw [if_pos h]⟩

end Go.Proofs.Ytjjdgfjlpkhgcaa
end
