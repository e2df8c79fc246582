/- Layer 14: ShiftChains' walk. -/
import Derived.Test.YthikhnlgpljbpaaMg38

namespace Go.Proofs.Ythikhnlgpljbpaa
open Go.ChangeShapes Go.WideShapes Go.ChangeAt Go.RowKit
attribute [local go_sem] Oper.semAt_some

set_option maxRecDepth 100000 in
set_option maxHeartbeats 8000000 in
theorem ShiftChains_any (A0 : Option Addr) (cc : Nat) (ds : List Dl) (a' : Option Addr) (c' : Nat) (e : List Dop) (w : World) (h : IsDx w w A0 ds) (hl : ds.length * 24 ≤ 140737488355328) (hds : ∀ x ∈ ds, x.d.length * 32 ≤ 140737488355328 ∧ x.d.length ≤ x.c ∧ ∀ o ∈ x.d, TbD o)
    (h' : IsO w a' e) (hl' : e.length * 32 ≤ 140737488355328) (ht' : ∀ o ∈ e, TbD o) (hc' : e.length ≤ c') :
    Calls Try.prog 8 #[.slice A0 ds.length cc, .slice a' e.length c'] w fun y w' => y = .returned (.bool true) ∧ Below w.heap.size w w' := by
  have HFX := hide (fixed14_at w)
  have HH := hide fun (Y : World) (hY : Below w.heap.size w Y) => h.up hY
  have HE := hide fun (Y : World) (hY : Below w.heap.size w Y) => h'.below hY (Nat.le_refl _)
  have HDS := hide hds
  have HTE := hide ht'
  have HCH := hide fun (Y : World) (hY : Below w.heap.size w Y) => ChainX_at A0 cc ds a' c' e Y (h.up hY) (h'.below hY (Nat.le_refl _)) hl hl' (fun x hx => ⟨by have := (hds x hx).1; omega, (hds x hx).2.1⟩)
  obtain ⟨⟨⟨last, L⟩, E⟩, hQ⟩ : ∃ Q, Q = cnQ ds e := ⟨_, rfl⟩
  simp only [← hQ] at HCH
  have HQ := hide hQ
  clear h h' hds ht' hQ
  go_enter Try.func8, Try.ntmps8
  go_wp2_with fail
  refine (unhide HFX).mono ?_
  rintro y w1 ⟨rfl, x1⟩
  dsimp only
  have HX1 := hide x1
  have HC1 := hide (unhide HCH w1 x1)
  clear HFX HCH x1
  go_wp2_with fail
  refine (unhide HC1).mono ?_
  rintro y w2 ⟨v1, v8, rfl, hM⟩
  dsimp only
  have HX2 := hide ((unhide HX1).trans (hM.d.mono (unhide HX1).size))
  clear HC1 HX1
  by_cases hE : E = 0
  · subst hE
    obtain ⟨hlk, hQ2⟩ := cn_ok (ds := ds) (e := e) (by rw [← unhide HQ])
    rw [← unhide HQ] at hQ2
    have hve := lk_val hlk
    have hlen : L.length = ds.length := by
      have := ch_len (ds.map (·.d)) e (by rw [← hQ2])
      rw [← hQ2] at this
      simpa using this
    obtain ⟨a1, c1, rfl, i1, l1⟩ := own_isOC hM.b
    by_cases hz : ds.length = 0
    · obtain rfl : ds = [] := List.length_eq_zero_iff.1 hz
      simp only [List.map_nil, chL, Prod.mk.injEq, and_true] at hQ2
      obtain ⟨rfl, rfl⟩ := hQ2
      obtain ⟨a8, c8, rfl⟩ := ch_form hM
      have HSM := hide (RSame14_at a1 c1 last a' c' last w2 i1 (unhide HE w2 (unhide HX2)) (by omega) (by omega) (unhide HTE) (unhide HTE))
      simp only [decide_true] at HSM
      simp only [List.length_nil]
      clear HH HE HDS HTE HQ hM i1 l1 hlk hve hlen hl hl' hc' hz
      go_wp2_with fail
      refine (unhide HSM).mono ?_
      rintro y w3 ⟨rfl, x3⟩
      dsimp only
      have HX3 := hide ((unhide HX2).trans (x3.mono (unhide HX2).size))
      clear HSM HX2 x3
      go_wp2_with fail
      refine bodyPost_ret (results_tmp rfl _ _ _) rfl ⟨rfl, unhide HX3⟩
    · have hp : 0 < ds.length := by omega
      obtain ⟨G8, c8, rfl⟩ := ch_form2 hM (by omega)
      rw [hlen] at hM ⊢
      obtain ⟨gA, oA, hA0, _, q0⟩ := (unhide HH w2 (unhide HX2)).c 0 hp
      subst hA0
      have q0' : w2.cell? ⟨gA, oA, none⟩ = some (.slice (ds.getD 0 dlZ).a (ds.getD 0 dlZ).d.length (ds.getD 0 dlZ).c) := q0
      have hO0 := ((unhide HH w2 (unhide HX2)).o 0 hp).1
      have hd0 := unhide HDS _ (mem_dl hp)
      have hv0 : valB (ds.getD 0 dlZ).d = true := by
        have hq := hQ2
        have hd := drop_dl hp
        rw [List.drop_zero] at hd
        rw [hd, List.map_cons] at hq
        obtain ⟨b1, _, _⟩ := ch_cons (by rw [← hq])
        exact (bo_ok b1).2.1.v1
      have HI0 : Hid (RdI ds e last L 0 (ds.getD 0 dlZ).d e e ∧ IsO w2 (ds.getD 0 dlZ).a (ds.getD 0 dlZ).d ∧ (ds.getD 0 dlZ).d.length ≤ (ds.getD 0 dlZ).c ∧ IsO w2 a' e ∧ e.length ≤ c' ∧ ChM w1 w2 (.slice a1 last.length c1) (.slice (some ⟨G8, 0, none⟩) ds.length c8) last L ∧ Below w.heap.size w w2) :=
        hide ⟨⟨Or.inl ⟨rfl, rfl, rfl, rfl⟩, by rw [List.drop_zero, List.drop_zero]; exact hQ2.symm, hd0.2.2, unhide HTE, hv0, hve⟩, hO0, hd0.2.1, unhide HE w2 (unhide HX2), hc', hM, unhide HX2⟩
      have HLN := hide hlen
      have HP := hide hp
      have s0 : decide ((0 : Int) < (ds.length : Int)) = true := decide_eq_true (by omega)
      have s0' : (0 : Int) < (ds.length : Int) := by omega
      have s2 : ((ds.length : Int) == 0) = false := by simpa using hz
      have s3 : decide ((ds.length : Int) = 0) = false := decide_eq_false (by omega)
      have s4 : ((ds.length : Int) != (ds.length : Int)) = false := by simp
      clear HE HTE HQ hM i1 l1 hlk hve hlen hl' hc' hz hp q0 hO0 hd0 hv0 hQ2 HX2
      go_wp2_with fail
      clear s0 s0' s2 s3 s4 q0'
      go_loopw [8, 9, 10, 11, 12, 13, 14, 53, 58, 70] (fun v8 v9 v10 v11 v12 v13 v14 v53 v58 v70 wx => ((∃ z, v10 = z) ∧ (∃ z, v11 = z) ∧ (∃ z, v12 = z) ∧ (∃ z, v13 = z) ∧ (∃ z, v14 = z) ∧ (∃ z, v58 = z) ∧ (∃ z, v70 = z)) ∧ ∃ (k : Nat) (ao : Option Addr) (co : Nat) (one : List Dop) (aw : Option Addr) (cw : Nat) (two : List Dop), v53 = .int .i64 (k : Int) ∧ v8 = .slice ao one.length co ∧ v9 = .slice aw two.length cw ∧ k ≤ ds.length ∧ Hid (∃ bk, RdI ds e last L k one two bk ∧ IsO wx ao one ∧ one.length ≤ co ∧ IsO wx aw two ∧ two.length ≤ cw ∧ ChM w1 wx (.slice a1 last.length c1) (.slice (some ⟨G8, 0, none⟩) ds.length c8) last L ∧ Below w.heap.size w wx)) (fun _ _ _ _ _ _ _ v53 _ _ _ => ds.length - (intOf v53).toNat)
      case atStart => exact ⟨⟨⟨_, rfl⟩, ⟨_, rfl⟩, ⟨_, rfl⟩, ⟨_, rfl⟩, ⟨_, rfl⟩, ⟨_, rfl⟩, ⟨_, rfl⟩⟩, ⟨0, _, _, _, _, _, _, rfl, rfl, rfl, Nat.zero_le _, hide ⟨_, unhide HI0⟩⟩⟩
      case round =>
        clear HI0
        obtain ⟨⟨⟨z1, rfl⟩, ⟨z2, rfl⟩, ⟨z3, rfl⟩, ⟨z4, rfl⟩, ⟨z5, rfl⟩, ⟨z6, rfl⟩, ⟨z7, rfl⟩⟩, ⟨k, ao, co, one, aw, cw, two, rfl, rfl, rfl, hk, HI⟩⟩ := hrel
        obtain ⟨bk, hI, io, lo, iw, lw, hm, hB⟩ := unhide HI
        clear HI
        by_cases hlt : k < ds.length
        · have s1 : decide ((k : Int) < (ds.length : Int)) = true := decide_eq_true (by omega)
          have s1' : (k : Int) < (ds.length : Int) := by omega
          by_cases h0 : k = 0
          · have g1 : decide ((k : Int) > 0) = false := decide_eq_false (by omega)
            have g2 : decide ((0 : Int) < (k : Int)) = false := decide_eq_false (by omega)
            have g3 : decide (0 < k) = false := decide_eq_false (by omega)
            have g4 : ¬ (0 < k) := by omega
            obtain ⟨b', n1, n2, n3⟩ : ∃ b', RdI ds e last L (k + 1) one (cmD two (L.getD k [])) b' ∧ cmE two (L.getD k []) = 0 ∧ valB (L.getD k []) = true := by subst h0; exact rd_first hI hlt (unhide HLN)
            obtain ⟨ax, cx, q1, i2, l2⟩ := ch_cell hm (k := k) (by rw [unhide HLN]; exact hlt)
            have HCO := hide (Compose_atD aw cw two ax cx (L.getD k []) wr iw i2 lw l2 (val_small hI.v2).1 (val_small n3).1)
            rw [n2] at HCO
            have HN := hide n1
            have HA := hide (And.intro io lo)
            have HM := hide hm
            have HB := hide hB
            clear hI io lo iw lw hm hB n1 n2 n3 i2 l2 h0 hk
            generalize L.getD k [] = l at *
            generalize cmD two l = t2 at *
            go_wp2_with fail
            refine (unhide HCO).mono ?_
            rintro y w3 ⟨v, rfl, o3, x3⟩
            dsimp only
            obtain ⟨a2, c2, rfl, i3, l3⟩ := own_isOC o3
            have HI3 : Hid (∃ bk, RdI ds e last L (k + 1) one t2 bk ∧ IsO w3 ao one ∧ one.length ≤ co ∧ IsO w3 a2 t2 ∧ t2.length ≤ c2 ∧ ChM w1 w3 (.slice a1 last.length c1) (.slice (some ⟨G8, 0, none⟩) ds.length c8) last L ∧ Below w.heap.size w w3) :=
              hide ⟨b', unhide HN, (unhide HA).1.below x3 (Nat.le_refl _), (unhide HA).2, i3, l3, (unhide HM).on x3, (unhide HB).trans (x3.mono (unhide HB).size)⟩
            clear HCO HN HA HM HB o3 x3 i3 l3 q1
            go_wp2_with fail
            go_roundw
            case rel => exact ⟨⟨⟨_, rfl⟩, ⟨_, rfl⟩, ⟨_, rfl⟩, ⟨_, rfl⟩, ⟨_, rfl⟩, ⟨_, rfl⟩, ⟨_, rfl⟩⟩, ⟨k + 1, _, _, _, _, _, _, by go_num, rfl, rfl, hlt, HI3⟩⟩
            case measure => simp [intOf]; omega
          · have g1 : decide ((k : Int) > 0) = true := decide_eq_true (by omega)
            have g2 : decide ((0 : Int) < (k : Int)) = true := decide_eq_true (by omega)
            have g3 : decide (0 < k) = true := decide_eq_true (by omega)
            have g4 : 0 < k := by omega
            have hdk := unhide HDS _ (mem_dl hlt)
            obtain ⟨b', n1, n2, n3, n4⟩ := rd_next hI (by omega) hlt (unhide HLN) hdk.2.2
            obtain ⟨_, _, he, _, q0⟩ := (unhide HH wr hB).c k hlt
            cases he
            have HC1 := hide (Compose_atD ao co one (ds.getD k dlZ).a (ds.getD k dlZ).c (ds.getD k dlZ).d wr io ((unhide HH wr hB).o k hlt).1 lo hdk.2.1 (val_small hI.v1).1 (by have := hdk.1; omega))
            have HC2 := hide fun (Y : World) (hY : Below wr.heap.size wr Y) (ax : Option Addr) (cx : Nat) (i2 : IsO Y ax (L.getD k [])) (l2 : (L.getD k []).length ≤ cx) => Compose_atD aw cw two ax cx (L.getD k []) Y (iw.below hY (Nat.le_refl _)) i2 lw l2 (val_small hI.v2).1 (val_small n4).1
            have HCC := hide fun (Y : World) (hY : Below wr.heap.size wr Y) => ch_cell (hm.on hY) (k := k) (by rw [unhide HLN]; exact hlt)
            rw [n2] at HC1
            simp only [n3] at HC2
            have HN := hide n1
            have HM := hide hm
            have HB := hide hB
            clear hI io lo iw lw hm hB n1 n2 n3 n4 h0 hk hdk
            generalize L.getD k [] = l at *
            generalize ds.getD k dlZ = x at *
            obtain ⟨xa, xc, d⟩ := x
            dsimp only at q0 HC1 HN
            generalize cmD two l = t2 at *
            generalize cmD one d = o2 at *
            go_wp2_with fail
            refine (unhide HC1).mono ?_
            rintro y w3 ⟨v, rfl, o3, x3⟩
            dsimp only
            obtain ⟨a2, c2, rfl, i3, l3⟩ := own_isOC o3
            obtain ⟨ax, cx, q1, i2, l2⟩ := unhide HCC w3 x3
            have HCO := hide (unhide HC2 w3 x3 ax cx i2 l2)
            have HA := hide (And.intro i3 l3)
            have HM3 := hide ((unhide HM).on x3)
            have HB3 := hide ((unhide HB).trans (x3.mono (unhide HB).size))
            clear HC1 HC2 HCC HM HB o3 x3 i3 l3 i2 l2 q0
            go_wp2_with fail
            refine (unhide HCO).mono ?_
            rintro y w4 ⟨v, rfl, o4, x4⟩
            dsimp only
            obtain ⟨a3, c3, rfl, i4, l4⟩ := own_isOC o4
            have HI3 : Hid (∃ bk, RdI ds e last L (k + 1) o2 t2 bk ∧ IsO w4 a2 o2 ∧ o2.length ≤ c2 ∧ IsO w4 a3 t2 ∧ t2.length ≤ c3 ∧ ChM w1 w4 (.slice a1 last.length c1) (.slice (some ⟨G8, 0, none⟩) ds.length c8) last L ∧ Below w.heap.size w w4) :=
              hide ⟨b', unhide HN, (unhide HA).1.below x4 (Nat.le_refl _), (unhide HA).2, i4, l4, (unhide HM3).on x4, (unhide HB3).trans (x4.mono (unhide HB3).size)⟩
            clear HCO HN HA HM3 HB3 o4 x4 i4 l4 q1
            go_wp2_with fail
            go_roundw
            case rel => exact ⟨⟨⟨_, rfl⟩, ⟨_, rfl⟩, ⟨_, rfl⟩, ⟨_, rfl⟩, ⟨_, rfl⟩, ⟨_, rfl⟩, ⟨_, rfl⟩⟩, ⟨k + 1, _, _, _, _, _, _, by go_num, rfl, rfl, hlt, HI3⟩⟩
            case measure => simp [intOf]; omega
        · obtain rfl : k = ds.length := by omega
          have s1 : decide ((ds.length : Int) < (ds.length : Int)) = false := by simp
          obtain ⟨n1, n2, n3, n4⟩ := rd_end hI (unhide HP)
          obtain ⟨_, _, he, i1, l1⟩ := own_isOC hm.b
          cases he
          have HCO := hide (Compose_atD ao co one a1 c1 last wr io i1 lo l1 (val_small hI.v1).1 (val_small n3).1)
          rw [n1, n2] at HCO
          have HSM := hide fun (Y : World) (hY : Below wr.heap.size wr Y) (a2 : Option Addr) (c2 : Nat) (i2 : IsO Y a2 two) => RSame14_at a2 c2 two aw cw two Y i2 (iw.below hY (Nat.le_refl _)) (val_small hI.v2).1 (val_small hI.v2).1 n4 n4
          simp only [decide_true] at HSM
          have HB := hide hB
          clear hI io lo iw lw hm hB n1 n2 n3 n4 i1 l1 hk hlt
          go_wp2_with fail
          refine (unhide HCO).mono ?_
          rintro y w3 ⟨v, rfl, o3, x3⟩
          dsimp only
          obtain ⟨a2, c2, rfl, i3, l3⟩ := own_isOC o3
          have HS := hide (unhide HSM w3 x3 a2 c2 i3)
          have HB3 := hide ((unhide HB).trans (x3.mono (unhide HB).size))
          clear HCO HSM HB o3 x3 i3 l3
          go_wp2_with fail
          refine (unhide HS).mono ?_
          rintro y w4 ⟨rfl, x4⟩
          dsimp only
          have HB4 := hide ((unhide HB3).trans (x4.mono (unhide HB3).size))
          clear HS HB3 x4
          go_wp2_with fail
          refine bodyPost_ret (results_tmp rfl _ _ _) rfl ⟨rfl, unhide HB4⟩
  · have hn : ((last, L), E).1 = ([], []) := by rw [unhide HQ]; exact cn_no (by rw [← unhide HQ]; exact hE)
    simp only [Prod.mk.injEq] at hn
    obtain ⟨rfl, rfl⟩ := hn
    obtain ⟨a1, c1, rfl, _, _⟩ := own_isOC hM.b
    obtain ⟨a8, c8, rfl⟩ := ch_form hM
    simp only [List.length_nil]
    have t1 : (E != 0) = true := by simpa using hE
    have t1' : (E == 0) = false := by simpa using hE
    clear HH HE HDS HTE HQ hM hl hl' hc' hE
    go_wp2_with fail
    refine bodyPost_ret (results_tmp rfl _ _ _) rfl ⟨rfl, unhide HX2⟩

end Go.Proofs.Ythikhnlgpljbpaa
