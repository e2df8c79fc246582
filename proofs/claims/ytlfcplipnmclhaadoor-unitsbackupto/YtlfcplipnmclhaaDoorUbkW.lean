/- The walk of UnitsBack, for arguments under the bound. -/
import Derived.Test.YtlfcplipnmclhaaDoorUls
import Derived.Deep.RegionHeldLaw
namespace Go.Proofs.YtlfcplipnmclhaaDoor
open Go.ChangeShapes Go.WideShapes Go.ChangeAt Go.RowKit

theorem stp_same_len (l : List Int) (p : Nat) : (stpU l p).length = (uni (first (l.drop p)).1).length := by
  unfold stpU
  split
  · rfl
  · rename_i h
    rw [first_bad (whl_false.1 (by simpa using h))]
    rfl
theorem same_len (l : List Int) : ∀ ps : List Nat, (exP l ps).length = (toP l ps).length
  | [] => rfl
  | p :: ps => by
    have h1 := same_len l ps
    have h2 := stp_same_len l p
    simp only [exP, toP, List.flatMap_cons, List.length_append] at h1 h2 ⊢
    omega
theorem exL_toL_len (l : List Int) : (exL l).length = (toL l).length := by rw [toL_toP]; exact same_len l _
theorem split_at {l : List Int} {pre : List Nat} {p : Nat} (h : spots l 0 = pre ++ spots l p) (hp : p < l.length) :
    (∃ t, toL l = toP l pre ++ (uni (first (l.drop p)).1 ++ t)) ∧ ∃ t, exL l = exP l pre ++ (stpU l p ++ t) := by
  rw [toL_toP, exL, h, spots_cons hp]
  exact ⟨⟨toP l (spots l (p + wid (l.drop p))), by simp [toP]⟩, ⟨exP l (spots l (p + wid (l.drop p))), by simp [exP]⟩⟩
theorem getD_mid (a b t : List Int) (k : Nat) (h1 : a.length ≤ k) (h2 : k < a.length + b.length) : (a ++ (b ++ t)).getD k 0 = b.getD (k - a.length) 0 := by
  simp only [List.getD]
  rw [List.getElem?_append_right h1, List.getElem?_append_left (by omega)]
/-- the units of a step: the same just if it is whole -/
theorem unit_same {l : List Int} (hl : ∀ x ∈ l, 0 ≤ x ∧ x ≤ 255) {pre : List Nat} {p k : Nat} (h : spots l 0 = pre ++ spots l p) (hp : p < l.length) (h1 : (toP l pre).length ≤ k) (h2 : k < (toP l pre).length + (uni (first (l.drop p)).1).length) :
    ((toL l).getD k 0 == (exL l).getD k 0) = whl (l.drop p) := by
  obtain ⟨⟨t, e1⟩, ⟨s, e2⟩⟩ := split_at h hp
  have hs := same_len l pre
  have hn := stp_same_len l p
  rw [e1, e2, getD_mid _ _ _ _ h1 h2, getD_mid _ _ _ _ (by omega) (by omega), hs]
  cases hw : whl (l.drop p) with
  | true => rw [stpU, if_pos hw]; simp
  | false =>
    have h0 := first_bad (whl_false.1 hw)
    rw [h0] at h2 ⊢
    have : (uni 65533).length = 1 := rfl
    have hk : k - (toP l pre).length = 0 := by omega
    rw [hk, stpU, if_neg (by rw [hw]; decide)]
    have := hl _ (getD_mem hp)
    rw [beq_eq_false_iff_ne]
    show (65533 : Int) ≠ 56320 + l.getD p 0
    omega
theorem len_in {l : List Int} {pre : List Nat} {p : Nat} (h : spots l 0 = pre ++ spots l p) (hp : p < l.length) : (toP l pre).length + (uni (first (l.drop p)).1).length ≤ (toL l).length := by
  obtain ⟨⟨t, e1⟩, _⟩ := split_at h hp
  rw [e1]
  simp
def plP (l : List Int) (ps : List Nat) : List Int := ps.flatMap fun p => enc (first (l.drop p)).1
theorem plP_snoc (l : List Int) (ps : List Nat) (p : Nat) : plP l (ps ++ [p]) = plP l ps ++ enc (first (l.drop p)).1 := by simp [plP]
theorem plP_all (l : List Int) : plP l (spots l 0) = (runesL l).flatMap enc := by simp [plP, runesL, List.flatMap_map]
theorem plP_len (l : List Int) : ∀ ps : List Nat, (plP l ps).length ≤ 4 * ps.length
  | [] => by simp [plP]
  | p :: ps => by
    have h1 := plP_len l ps
    have h2 := (enc_len (first (l.drop p)).1).1
    rw [show plP l (p :: ps) = enc (first (l.drop p)).1 ++ plP l ps by simp [plP], List.length_append, List.length_cons]
    omega
theorem plP_in (l : List Int) (ps : List Nat) : ∀ x ∈ plP l ps, 0 ≤ x ∧ x ≤ 255 := by
  intro x hx
  obtain ⟨p, _, hp⟩ := List.mem_flatMap.1 hx
  exact enc_bytes _ x hp

/-- what lies in memory all along -/
structure UB (w : World) (a0 : Option Addr) (cap : Nat) (l : List Int) (ax ay ast at' : Option Addr) (cx cy cs : Nat) (wx : World) : Prop where
  isB : IsB wx a0 cap l
  tab : Tab wx
  ux : IsU wx ax cx (toL l)
  uy : IsU wx ay cy (exL l)
  st : StepsAt wx l ast (spots l 0)
  seen : IsB wx at' cs ((runesL l).flatMap enc)
  below : Below w.heap.size w wx
theorem UB.on {w : World} {a0 : Option Addr} {cap : Nat} {l : List Int} {ax ay ast at' : Option Addr} {cx cy cs : Nat} {wx wy : World} (h : UB w a0 cap l ax ay ast at' cx cy cs wx) (hb : Below wx.heap.size wx wy) : UB w a0 cap l ax ay ast at' cx cy cs wy :=
  ⟨h.isB.below hb (Nat.le_refl _), h.tab.below hb h.tab.size, h.ux.below hb (Nat.le_refl _), h.uy.below hb (Nat.le_refl _), h.st.below hb (Nat.le_refl _), h.seen.below hb (Nat.le_refl _), h.below.trans (hb.mono h.below.size)⟩

set_option maxRecDepth 100000 in
set_option maxHeartbeats 4000000 in
theorem UnitsBack_any (a0 : Option Addr) (cap : Nat) (l : List Int) (w : World) (hB : IsB w a0 cap l) (qb : cap ≤ 1048576) (hT : Tab w) :
    Calls Tryd.prog 7 #[.slice a0 l.length cap] w fun e w' => e = .returned (.bool true) ∧ Below w.heap.size w w' := by
  have lB : l.length ≤ 1048576 := Nat.le_trans hB.1 qb
  have HLB := hide hB.2.2.2
  have L := Nat.le_refl w.heap.size
  have htl := toL_len l
  have hel := exL_len l
  have hxy := exL_toL_len l
  have hsl := spots_le l
  go_enter Tryd.func7, Tryd.ntmps7
  go_wp2_with fail
  refine (wakes_any w hT).mono ?_
  rintro e w1 ⟨rfl, x1⟩
  have hB1 := hB.below x1 (Nat.le_refl _)
  have hT1 := hT.below x1 hT.size
  obtain ⟨a2, c2, w2, r2, i2, x2⟩ := run_copyB w1 a0 cap l 30 hB1
  have R2 := hide r2
  clear r2
  go_wp2_with (at_builtin; refine wpList_append_known rfl _ _ 30 30 rfl _ _ rfl rfl _ _ (unhide R2) ?_)
  refine (To_at a2 c2 l w2 i2 (by omega)).mono ?_
  rintro e w3 ⟨v3, rfl, o3, x3⟩
  have y3 := bchain (Nat.le_refl _) x2 x3
  have hB3 := hB1.below y3 (Nat.le_refl _)
  have hT3 := hT1.below y3 hT1.size
  obtain ⟨a4, c4, w4, r4, i4, x4⟩ := run_copyB w3 a0 cap l 30 hB3
  have R4 := hide r4
  clear r4 R2
  have hT4 := hT3.below x4 hT3.size
  go_wp2_with (at_builtin; refine wpList_append_known rfl _ _ 30 30 rfl _ _ rfl rfl _ _ (unhide R4) ?_)
  refine (ToExact_at a4 c4 l w4 i4 (by omega) hT4).mono ?_
  rintro e w5 ⟨v5, rfl, o5, x5⟩
  have y5 := bchain (Nat.le_refl _) x4 x5
  have hB5 := hB3.below y5 (Nat.le_refl _)
  have hT5 := hT3.below y5 hT3.size
  obtain ⟨a3, c3, rfl, u3⟩ := (o3.below y5).isU (toL_in (unhide HLB))
  obtain ⟨a5, c5, rfl, u5⟩ := o5.isU (exL_in (unhide HLB))
  clear R4 o3 o5
  have HC := hide (copied_at a5 c5 (exL l) w5 u5 (by omega))
  rw [hxy] at HC ⊢
  go_wp2_with fail
  refine (unhide HC).mono ?_
  rintro e w6 ⟨a6, c6, rfl, u6, x6⟩
  have HE := hide (FromExact_at a6 c6 (exL l) w6 u6 (by omega) (hT5.below x6 hT5.size))
  rw [hxy, exactL_exL (unhide HLB)] at HE
  clear HC
  go_wp2_with fail
  refine (unhide HE).mono ?_
  rintro e w7 ⟨⟨a7, c7, rfl, i7⟩, x7⟩
  have y7 := bchain (Nat.le_refl _) x6 x7
  have hB7 := hB5.below y7 (Nat.le_refl _)
  have hT7 := hT5.below y7 hT5.size
  have u37 := u3.below y7 (Nat.le_refl _)
  have u57 := u5.below y7 (Nat.le_refl _)
  clear HE
  go_wp2_with fail
  refine (copied_at a3 c3 (toL l) w7 u37 (by omega)).mono ?_
  rintro e w8 ⟨a8, c8, rfl, u8, x8⟩
  have HE := hide (From_at a8 c8 (toL l) w8 u8 (by omega))
  rw [fromL_toL (unhide HLB)] at HE
  go_wp2_with fail
  refine (unhide HE).mono ?_
  rintro e w9 ⟨⟨a9, c9, rfl, i9⟩, x9⟩
  have y9 := bchain (Nat.le_refl _) x8 x9
  have hB9 := hB7.below y9 (Nat.le_refl _)
  have hT9 := hT7.below y9 hT7.size
  have u39 := u37.below y9 (Nat.le_refl _)
  have u59 := u57.below y9 (Nat.le_refl _)
  have i79 := i7.below y9 (Nat.le_refl _)
  have z9 : Below w.heap.size w w9 := bchain L (bchain L (bchain L (bchain L x1 y3) y5) y7) y9
  have k7 := str_bs w9 a7 c7 l i79.2.2.1
  have k0 := str_bs w9 a0 cap l hB9.2.2.1
  simp only at *
  clear HE hB hT hB1 hT1 i2 hB3 hT3 i4 hT4 hB5 hT5 u3 u5 u6 hB7 hT7 u37 u57 u8 i7 x1 x2 x3 y3 x4 x5 y5 x6 x7 y7 x8 x9 y9
  generalize hpl : ((runesL l).flatMap enc).length = np at *
  have HPL := hide hpl
  clear hpl
  go_wp2_with fail
  refine (Steps_at a0 cap l w9 hB9 lB).mono ?_
  rintro e w10 ⟨ast, cst, rfl, kst, jst, x10⟩
  have ub : UB w a0 cap l a3 a5 ast a9 c3 c5 c9 w10 := ⟨hB9.below x10 (Nat.le_refl _), hT9.below x10 hT9.size, u39.below x10 (Nat.le_refl _), u59.below x10 (Nat.le_refl _), jst, i9.below x10 (Nat.le_refl _), z9.trans (x10.mono z9.size)⟩
  clear hB9 hT9 u39 u59 jst i9 x10 z9 i79 k7 k0
  generalize hn : (spots l 0).length = n at *
  have HN := hide hn
  clear hn
  generalize hnx : (toL l).length = nx at *
  have HNX := hide hnx
  have HXY := hide hxy
  clear hnx hxy hel
  go_wp2_with fail
  go_loopw [12, 13, 14, 15] (fun av pv v i wx => ∃ (pre : List Nat) (p at1 : Nat), i = .int .i64 pre.length ∧ pv = .int .i64 p ∧ av = .int .i64 at1 ∧ p ≤ l.length ∧ Hid (at1 = (toP l pre).length) ∧ Hid (spots l 0 = pre ++ spots l p) ∧ Hid (Own wx w10.heap.size v (plP l pre)) ∧ Below w10.heap.size w10 wx) (fun _ pv _ _ _ => l.length - (intOf pv).toNat)
  case atStart => exact ⟨[], 0, 0, rfl, rfl, rfl, Nat.zero_le _, hide rfl, hide rfl, hide (World.ownsRow_nil _ _ _ _), Below.refl _ _⟩
  case round =>
    obtain ⟨pre, p, at1, rfl, rfl, rfl, hpl, HAT, hsp, ho, hb⟩ := hrel
    have ux := ub.on hb
    by_cases hp : p < l.length
    · obtain ⟨hkn, hg⟩ := spots_get (unhide hsp) hp
      have hkl := hkn
      rw [unhide HN] at hkn
      have hlin := len_in (unhide hsp) hp
      rw [unhide HNX, ← unhide HAT] at hlin
      have hsm : ∀ k, at1 ≤ k → k < at1 + (uni (first (l.drop p)).1).length → ((toL l).getD k 0 == (exL l).getD k 0) = whl (l.drop p) := fun k h1 h2 => unit_same (unhide HLB) (unhide hsp) hp (by rw [← unhide HAT]; exact h1) (by rw [← unhide HAT]; exact h2)
      have HSM := hide hsm
      have hat2 : at1 + (uni (first (l.drop p)).1).length = (toP l (pre ++ [p])).length := by rw [toP_snoc, List.length_append, unhide HAT]
      have HAT2 := hide hat2
      obtain ⟨gx, ox, rfl, lx, zx⟩ := ux.ux.lies (by rw [unhide HNX]; have := (uni_len (first (l.drop p)).1).2; omega)
      obtain ⟨gy, oy, rfl, ly, zy⟩ := ux.uy.lies (by rw [unhide HXY]; have := (uni_len (first (l.drop p)).1).2; omega)
      have hxc : ∀ k, k < nx → wr.cell? ⟨gx, ox + k, none⟩ = some (.int .u16 ((toL l).getD k 0)) := fun k hk => (lx k (by rw [unhide HNX]; exact hk)).1
      have hyc : ∀ k, k < nx → wr.cell? ⟨gy, oy + k, none⟩ = some (.int .u16 ((exL l).getD k 0)) := fun k hk => (ly k (by rw [unhide HXY]; exact hk)).1
      have HXC := hide hxc
      have HYC := hide hyc
      obtain ⟨g, rfl, hgw, c0, c1, c2⟩ : ∃ g, ast = some ⟨g, 0, none⟩ ∧ g < w10.heap.size ∧ wr.cell? ⟨g, pre.length * 3, none⟩ = some (.int .i32 (first (l.drop p)).1) ∧ wr.cell? ⟨g, pre.length * 3 + 1, none⟩ = some (.int .i64 (wid (l.drop p))) ∧ wr.cell? ⟨g, pre.length * 3 + 2, none⟩ = some (.bool (whl (l.drop p))) := by
        rcases ub.st with h | ⟨g, h1, h2, h3⟩
        · rw [h] at hkl; simp at hkl
        · have := h3 pre.length hkl
          rw [hg] at this
          exact ⟨g, h1, h2, (hb.cell (p := ⟨g, pre.length * 3, none⟩) h2).trans this.1, (hb.cell (p := ⟨g, pre.length * 3 + 1, none⟩) h2).trans this.2.1, (hb.cell (p := ⟨g, pre.length * 3 + 2, none⟩) h2).trans this.2.2⟩
      have hr1 := rune_step (unhide HLB) hp
      have hr2 : 0 ≤ (first (l.drop p)).1 ∧ (first (l.drop p)).1 < 55296 ∨ 57343 < (first (l.drop p)).1 ∧ (first (l.drop p)).1 ≤ 1114111 := of_decide_eq_true hr1
      have hul : ((first (l.drop p)).1 > 65535 ∧ (uni (first (l.drop p)).1).length = 2) ∨ (¬ (first (l.drop p)).1 > 65535 ∧ (uni (first (l.drop p)).1).length = 1) := by
        cases h2 : two (first (l.drop p)).1 with
        | true => have : 65536 ≤ (first (l.drop p)).1 ∧ _ := of_decide_eq_true h2; left; exact ⟨by omega, by rw [uni, if_pos h2]; rfl⟩
        | false => have : ¬ (65536 ≤ (first (l.drop p)).1 ∧ _) := of_decide_eq_false h2; right; exact ⟨by omega, by rw [uni, if_neg (by rw [h2]; decide)]; rfl⟩
      have HPP := hide (plP_snoc l pre p)
      have hppl := plP_len l pre
      have hel := enc_len (first (l.drop p)).1
      have HSC := hide (spots_cons hp)
      have hwl := wid_len hp
      have hwp := wid_pos hp
      have hsz := hb.size
      have hgl : g < wr.heap.size := Nat.lt_of_lt_of_le hgw hsz
      generalize hpre : pre.length = k at *
      have HPRE := hide hpre
      clear hpre hg hkl lx ly hsm hat2 hxc hyc hr1
      generalize hwd : wid (l.drop p) = wd at *
      generalize (first (l.drop p)).1 = r at *
      generalize whl (l.drop p) = wh at *
      generalize hm : (uni r).length = m at *
      have HM := hide hm
      clear hm hwd
      obtain ⟨wo, hwo⟩ : ∃ wo, wo = wr := ⟨_, rfl⟩
      subst hwo
      rcases hul with ⟨hr, hm⟩ | ⟨hr, hm⟩
      · subst hm
        have d1 : ¬ ((at1 : Int) + 2 > (nx : Int)) := by omega
        go_wp2_with fail
        go_loopw [17] (fun kv wx => ∃ k2 q : Nat, at1 ≤ k2 ∧ k2 ≤ at1 + 2 ∧ kv = .int .i64 k2 ∧ wx = wo.drewN q) (fun kv _ => at1 + 2 - (intOf kv).toNat)
        case atStart => exact ⟨at1, 0, Nat.le_refl _, Nat.le_add_right _ _, rfl, rfl⟩
        case round =>
          obtain ⟨k2, q, hk1, hk2, rfl, rfl⟩ := hrel
          by_cases hk3 : k2 < at1 + 2
          · have e1 := unhide HXC k2 (by omega)
            have e2 := unhide HYC k2 (by omega)
            have e3 := unhide HSM k2 hk1 hk3
            generalize (toL l).getD k2 0 = X at *
            generalize (exL l).getD k2 0 = Y at *
            have d2 : (k2 : Int) < (at1 : Int) + 2 := by omega
            go_wp2
            go_quiet (fail)
            go_wp2
            go_roundw
            case rel => exact ⟨k2 + 1, q + _, by omega, by omega, by go_num, by simp [World.drewN]; rfl⟩
            case measure => simp [intOf]; omega
          · have d2 : ¬ (k2 : Int) < (at1 : Int) + 2 := by omega
            obtain rfl : k2 = at1 + 2 := by omega
            have hcd0 : (wo.drewN q).cell? ⟨g, k * 3, none⟩ = some (.int .i32 r) := c0
            go_wp2_with fail
            refine (RBytes_fresh r (wo.drewN q) (by omega) (by omega)).mono ?_
            rintro e w4 ⟨g4, rfl, l4, b4⟩
            have o4 := Own.below (w := wo.drewN q) (unhide ho) b4
            have y4 := bchain (Nat.le_refl _) (Below.drewN hb q) b4
            have hcd1 : w4.cell? ⟨g, k * 3 + 1, none⟩ = some (.int .i64 wd) := (b4.cell (p := ⟨g, k * 3 + 1, none⟩) hgl).trans c1
            obtain ⟨v5, w5, r5, o5, b5⟩ := push_more w4 w10.heap.size _ (plP l pre) (enc r) g4 (enc r).length 30 o4 l4 (by omega) hel.1 hel.2 y4.size
            have hcd2 : w5.cell? ⟨g, k * 3 + 1, none⟩ = some (.int .i64 wd) := (b5.cell (p := ⟨g, k * 3 + 1, none⟩) hgw).trans hcd1
            have R5 := hide r5
            clear r5 o4 l4
            generalize (enc r).length = me at *
            go_wp2_with (at_builtin; refine wpList_append_known rfl _ _ 30 30 rfl _ _ rfl rfl _ _ (unhide R5) ?_)
            go_roundw
            case rel =>
              refine ⟨pre ++ [p], p + wd, at1 + 2, ?_, by go_num, by go_num, by omega, hide (unhide HAT2), ?_, by rw [unhide HPP]; exact hide o5, y4.trans b5⟩
              · rw [List.length_append, unhide HPRE]; go_num
              · refine hide ?_
                rw [unhide hsp, unhide HSC]
                simp
            case measure => simp [intOf]; omega
      · subst hm
        have d1 : ¬ ((at1 : Int) + 1 > (nx : Int)) := by omega
        go_wp2_with fail
        go_loopw [17] (fun kv wx => ∃ k2 q : Nat, at1 ≤ k2 ∧ k2 ≤ at1 + 1 ∧ kv = .int .i64 k2 ∧ wx = wo.drewN q) (fun kv _ => at1 + 1 - (intOf kv).toNat)
        case atStart => exact ⟨at1, 0, Nat.le_refl _, Nat.le_add_right _ _, rfl, rfl⟩
        case round =>
          obtain ⟨k2, q, hk1, hk2, rfl, rfl⟩ := hrel
          by_cases hk3 : k2 < at1 + 1
          · have e1 := unhide HXC k2 (by omega)
            have e2 := unhide HYC k2 (by omega)
            have e3 := unhide HSM k2 hk1 hk3
            generalize (toL l).getD k2 0 = X at *
            generalize (exL l).getD k2 0 = Y at *
            have d2 : (k2 : Int) < (at1 : Int) + 1 := by omega
            go_wp2
            go_quiet (fail)
            go_wp2
            go_roundw
            case rel => exact ⟨k2 + 1, q + _, by omega, by omega, by go_num, by simp [World.drewN]; rfl⟩
            case measure => simp [intOf]; omega
          · have d2 : ¬ (k2 : Int) < (at1 : Int) + 1 := by omega
            obtain rfl : k2 = at1 + 1 := by omega
            have hcd0 : (wo.drewN q).cell? ⟨g, k * 3, none⟩ = some (.int .i32 r) := c0
            go_wp2_with fail
            refine (RBytes_fresh r (wo.drewN q) (by omega) (by omega)).mono ?_
            rintro e w4 ⟨g4, rfl, l4, b4⟩
            have o4 := Own.below (w := wo.drewN q) (unhide ho) b4
            have y4 := bchain (Nat.le_refl _) (Below.drewN hb q) b4
            have hcd1 : w4.cell? ⟨g, k * 3 + 1, none⟩ = some (.int .i64 wd) := (b4.cell (p := ⟨g, k * 3 + 1, none⟩) hgl).trans c1
            obtain ⟨v5, w5, r5, o5, b5⟩ := push_more w4 w10.heap.size _ (plP l pre) (enc r) g4 (enc r).length 30 o4 l4 (by omega) hel.1 hel.2 y4.size
            have hcd2 : w5.cell? ⟨g, k * 3 + 1, none⟩ = some (.int .i64 wd) := (b5.cell (p := ⟨g, k * 3 + 1, none⟩) hgw).trans hcd1
            have R5 := hide r5
            clear r5 o4 l4
            generalize (enc r).length = me at *
            go_wp2_with (at_builtin; refine wpList_append_known rfl _ _ 30 30 rfl _ _ rfl rfl _ _ (unhide R5) ?_)
            go_roundw
            case rel =>
              refine ⟨pre ++ [p], p + wd, at1 + 1, ?_, by go_num, by go_num, by omega, hide (unhide HAT2), ?_, by rw [unhide HPP]; exact hide o5, y4.trans b5⟩
              · rw [List.length_append, unhide HPRE]; go_num
              · refine hide ?_
                rw [unhide hsp, unhide HSC]
                simp
            case measure => simp [intOf]; omega
    · have hfull := spots_full (unhide hsp) hp
      rw [unhide HN] at hfull
      have e : pre = spots l 0 := by rw [unhide hsp, spots_end hp]; simp
      have hat : at1 = nx := by rw [unhide HAT, e, ← toL_toP, unhide HNX]
      have ho' := unhide ho
      rw [e, plP_all] at ho'
      obtain rfl : p = l.length := by omega
      subst hat
      obtain ⟨a11, c11, e11, i11⟩ := ho'.isB (encs_in _) (by rw [unhide HPL]; have := encs_len (runesL l); have := runesL_le l; rw [← unhide HPL]; omega)
      subst e11
      rw [unhide HPL]
      have hq : ((strOfNums ((runesL l).flatMap enc)).toList == (strOfNums l).toList) = valid l := by rw [str_beq (encs_in _) (unhide HLB), valid_back (unhide HLB)]
      have HQ := hide hq
      have i9 := ux.seen
      have i0 := ux.isB
      have t0 := ux.tab
      obtain ⟨a12, c12, w12, r12, i12, x12⟩ := run_copyB wr.drew a0 cap l 30 i0
      have R12 := hide r12
      have kseen : ∀ w', Bs w' a9 ((runesL l).flatMap enc) → (convert 30 9 (.slice a9 np c9)).run Tryd.prog w' = .ok (.string (strOfNums ((runesL l).flatMap enc))) w' := fun w' h => by rw [← unhide HPL]; exact str_bs w' a9 c9 _ h
      have kplain : ∀ w', Bs w' a11 ((runesL l).flatMap enc) → (convert 30 9 (.slice a11 np c11)).run Tryd.prog w' = .ok (.string (strOfNums ((runesL l).flatMap enc))) w' := fun w' h => by rw [← unhide HPL]; exact str_bs w' a11 c11 _ h
      have kb : ∀ w', Bs w' a0 l → (convert 30 9 (.slice a0 l.length cap)).run Tryd.prog w' = .ok (.string (strOfNums l)) w' := fun w' h => str_bs w' a0 cap l h
      have da := (Below.refl wr.drew.heap.size wr.drew).alloc (Nat.le_refl _) (.cells #[] 5)
      have HS0 : Hid (Bs wr.drew a9 ((runesL l).flatMap enc) ∧ Bs wr.drew a11 ((runesL l).flatMap enc) ∧ Bs wr.drew a0 l) := hide ⟨i9.2.2.1, i11.2.2.1, i0.2.2.1⟩
      have HS1 : Hid (Bs (wr.drew.alloc (.cells #[] 5)) a9 ((runesL l).flatMap enc) ∧ Bs (wr.drew.alloc (.cells #[] 5)) a11 ((runesL l).flatMap enc) ∧ Bs (wr.drew.alloc (.cells #[] 5)) a0 l) := hide ⟨(IsB.below (w := wr.drew) i9 da (Nat.le_refl _)).2.2.1, (IsB.below (w := wr.drew) i11 da (Nat.le_refl _)).2.2.1, (IsB.below (w := wr.drew) i0 da (Nat.le_refl _)).2.2.1⟩
      have j9 := IsB.below (w := wr.drew) i9 x12 (Nat.le_refl _)
      have j11 := IsB.below (w := wr.drew) i11 x12 (Nat.le_refl _)
      have j0 := IsB.below (w := wr.drew) i0 x12 (Nat.le_refl _)
      have HS2 : Hid (Bs w12 a9 ((runesL l).flatMap enc) ∧ Bs w12 a11 ((runesL l).flatMap enc) ∧ Bs w12 a0 l) := hide ⟨j9.2.2.1, j11.2.2.1, j0.2.2.1⟩
      have t12 := Tab.below (w := wr.drew) t0 x12 t0.size
      have z12 : Below w.heap.size w w12 := bchain L ux.below.drew x12
      have hnl : ¬ pre.length < n := by omega
      clear r12 hq ho ho' e hfull
      go_upto_region 28 with fail
      go_region_held_law (fun w' => Bs w' a9 ((runesL l).flatMap enc) ∧ Bs w' a11 ((runesL l).flatMap enc) ∧ Bs w' a0 l) (first | exact unhide HS0 | exact unhide HS1 | exact unhide HS2 | exact unhide HS3)
        (first
          | (refine step_append_in rfl _ _ 30 30 rfl _ _ rfl rfl _ _ (unhide R12) ?_)
          | (go_at_call 28; refine (Valid_at a12 c12 l w12 i12 t12).mono ?_; rintro e w13 ⟨rfl, x13⟩
             have HS3 : Hid (Bs w13 a9 ((runesL l).flatMap enc) ∧ Bs w13 a11 ((runesL l).flatMap enc) ∧ Bs w13 a0 l) := hide ⟨(j9.below x13 (Nat.le_refl _)).2.2.1, (j11.below x13 (Nat.le_refl _)).2.2.1, (j0.below x13 (Nat.le_refl _)).2.2.1⟩))
      rw [unhide HQ]
      go_wp2_with fail
      go_ret
      exact ⟨ret_bool (by simp), bchain L z12 x13⟩

end Go.Proofs.YtlfcplipnmclhaaDoor
