/- The walk of UnitsOwn, for arguments under the bound. -/
import Derived.Test.YtlfcplipnmclhabDoorUoy
namespace Go.Proofs.YtlfcplipnmclhabDoor
open Go.ChangeShapes Go.WideShapes Go.ChangeAt Go.RowKit

/-- where a value's row lies -/
def Iv (v : Value) (lo hi : Nat) : Prop := ∀ k, v.ownBlock = some k → lo ≤ k ∧ k < hi
theorem iv_ne {v v' : Value} {lo hi lo' hi' k : Nat} (h : Iv v lo hi) (h' : Iv v' lo' hi') (hd : hi ≤ lo' ∨ hi' ≤ lo) (e : v.ownBlock = some k) : v'.ownBlock ≠ some k := by
  intro e'
  have := h k e
  have := h' k e'
  omega
theorem iv_row {v v' : Value} {lo hi lo' hi' : Nat} (h : Iv v lo hi) (h' : Iv v' lo' hi') (hd : hi ≤ lo' ∨ hi' ≤ lo) : v.ownBlock = none ∨ v.ownBlock ≠ v'.ownBlock := by
  cases e : v.ownBlock with
  | none => exact Or.inl rfl
  | some k => exact Or.inr (fun e' => iv_ne h h' hd e e'.symm)
theorem isB_kept {w w' : World} {row : Option Nat} {a0 : Option Addr} {cap : Nat} {l : List Int} (h : IsB w a0 cap l) (hg : w.grownBy w' row) (hne : ∀ k, row = some k → (Value.slice a0 l.length cap).ownBlock ≠ some k) : IsB w' a0 cap l := by
  obtain ⟨h1, h2, h3, h4⟩ := h
  refine ⟨h1, h2, ?_, h4⟩
  rcases h3 with h3 | ⟨g, off, rfl, hL⟩
  · exact Or.inl h3
  · exact Or.inr ⟨g, off, rfl, hL.grown hg (fun e => hne g e.symm rfl)⟩

/-- what must outlast all that is written -/
structure UO (w : World) (l u : List Int) (vy vw : Value) (aq at' : Option Addr) (cq ct : Nat) (W : World) : Prop where
  oy : OwnU W 0 vy (toL l)
  ow : OwnU W 0 vw (exL l)
  q : IsB W aq cq (fromL u).1
  t : IsB W at' ct (exactL u).1
  below : Below w.heap.size w W
theorem UO.kept {w : World} {l u : List Int} {vy vw : Value} {aq at' : Option Addr} {cq ct : Nat} {W W' : World} {row : Option Nat} (h : UO w l u vy vw aq at' cq ct W) (hg : W.grownBy W' row)
    (hr : ∀ k, row = some k → w.heap.size ≤ k ∧ vy.ownBlock ≠ some k ∧ vw.ownBlock ≠ some k ∧ (Value.slice aq (fromL u).1.length cq).ownBlock ≠ some k ∧ (Value.slice at' (exactL u).1.length ct).ownBlock ≠ some k) : UO w l u vy vw aq at' cq ct W' := by
  have hy : vy.ownBlock = none ∨ vy.ownBlock ≠ row := by
    cases e : vy.ownBlock with
    | none => exact Or.inl rfl
    | some k => exact Or.inr (fun e' => (hr k e'.symm).2.1 e)
  have hw : vw.ownBlock = none ∨ vw.ownBlock ≠ row := by
    cases e : vw.ownBlock with
    | none => exact Or.inl rfl
    | some k => exact Or.inr (fun e' => (hr k e'.symm).2.2.1 e)
  exact ⟨World.ownsRow.kept h.oy hg hy, World.ownsRow.kept h.ow hg hw, isB_kept h.q hg (fun k e => (hr k e).2.2.2.1), isB_kept h.t hg (fun k e => (hr k e).2.2.2.2), h.below.grown hg h.below.size (fun k e => (hr k e).1)⟩
theorem UO.on {w : World} {l u : List Int} {vy vw : Value} {aq at' : Option Addr} {cq ct : Nat} {W W' : World} (h : UO w l u vy vw aq at' cq ct W) (hb : Below W.heap.size W W') : UO w l u vy vw aq at' cq ct W' := h.kept (grown_below none hb) (fun k e => by cases e)

/-- the two lists with spare room -/
structure FW (w : World) (l u : List Int) (gf cf gw cw : Nat) (W : World) : Prop where
  full : Own W w.heap.size (.slice (some ⟨gf, 0, none⟩) (l.length + 2) cf) (l ++ [65, 66])
  wide : OwnU W w.heap.size (.slice (some ⟨gw, 0, none⟩) (u.length + 2) cw) (u ++ [67, 68])
  below : Below w.heap.size w W
theorem FW.on {w : World} {l u : List Int} {gf cf gw cw : Nat} {W W' : World} (h : FW w l u gf cf gw cw W) (hb : Below W.heap.size W W') : FW w l u gf cf gw cw W' := ⟨h.full.below hb, h.wide.below hb, h.below.trans (hb.mono h.below.size)⟩
theorem ab_in {l : List Int} (hl : ∀ x ∈ l, 0 ≤ x ∧ x ≤ 255) : ∀ x ∈ l ++ [65, 66], 0 ≤ x ∧ x ≤ 255 := by
  intro x hx
  rcases List.mem_append.1 hx with h | h
  · exact hl x h
  · simp at h; omega
theorem cd_in {u : List Int} (hu : ∀ x ∈ u, 0 ≤ x ∧ x ≤ 65535) : ∀ x ∈ u ++ [67, 68], 0 ≤ x ∧ x ≤ 65535 := by
  intro x hx
  rcases List.mem_append.1 hx with h | h
  · exact hu x h
  · simp at h; omega
theorem FW.isB {w : World} {l u : List Int} {gf cf gw cw : Nat} {W : World} (h : FW w l u gf cf gw cw W) (hl : ∀ x ∈ l, 0 ≤ x ∧ x ≤ 255) (hn : l.length ≤ 1048576) : IsB W (some ⟨gf, 0, none⟩) cf l := by
  obtain ⟨g, c, e, _, _, hc⟩ := h.full.form (by simp)
  simp only [Value.slice.injEq, Option.some.injEq, Addr.mk.injEq] at e
  obtain ⟨⟨rfl, _⟩, _, rfl⟩ := e
  rw [List.length_append] at hc
  refine ⟨by omega, by omega, Or.inr ⟨gf, 0, rfl, (h.full.lies (ab_in hl)).pre⟩, hl⟩
theorem FW.isU {w : World} {l u : List Int} {gf cf gw cw : Nat} {W : World} (h : FW w l u gf cf gw cw W) (hu : ∀ x ∈ u, 0 ≤ x ∧ x ≤ 65535) : IsU W (some ⟨gw, 0, none⟩) cw u ∧ W.cell? ⟨gw, u.length, none⟩ = some (.int .u16 67) ∧ W.cell? ⟨gw, u.length + 1, none⟩ = some (.int .u16 68) := by
  obtain ⟨a, c, e, i1, i2, _⟩ := h.wide.isU (cd_in hu)
  simp only [Value.slice.injEq] at e
  obtain ⟨rfl, _, rfl⟩ := e
  rw [List.length_append] at i1
  obtain ⟨g, off, e, hL⟩ := i2.resolve_left (by simp)
  cases e
  refine ⟨⟨by simp at i1; omega, Or.inr ⟨gw, 0, rfl, fun i hi => ?_⟩, hu⟩, ?_, ?_⟩
  · have := hL i (by simp; omega)
    have e2 : (u ++ [67, 68]).getD i 0 = u.getD i 0 := by simp [List.getD, List.getElem?_append_left hi]
    rwa [e2] at this
  · have := (hL u.length (by simp)).1
    simpa using this
  · have := (hL (u.length + 1) (by simp)).1
    simpa [List.getD] using this
theorem str_ab (l : List Int) : strOfNums (l ++ [65, 66]) = strOfNums l ++ ⟨#[65, 66]⟩ := by rw [← str_append]; rfl

set_option maxRecDepth 100000 in
set_option maxHeartbeats 8000000 in
theorem UnitsOwn_any (a0 : Option Addr) (cap : Nat) (l : List Int) (a1 : Option Addr) (cap1 : Nat) (u : List Int) (w : World) (hB : IsB w a0 cap l) (qb : cap ≤ 1048576) (hU : IsU w a1 cap1 u) (qu : cap1 ≤ 1048576) (hT : Tab w) :
    Calls Tryd.prog 4 #[.slice a0 l.length cap, .slice a1 u.length cap1] w fun e w' => e = .returned (.bool true) ∧ Below w.heap.size w w' := by
  have lB : l.length ≤ 1048576 := Nat.le_trans hB.1 qb
  have lU : u.length ≤ 1048576 := Nat.le_trans hU.1 qu
  have HLB := hide hB.2.2.2
  have HLU := hide hU.2.2
  have HB := hide hB
  have HU := hide hU
  have HT := hide hT
  have L := Nat.le_refl w.heap.size
  have htl := toL_len l
  have hel := exL_len l
  go_enter Tryd.func4, Tryd.ntmps4
  go_wp2_with fail
  refine (wakes_any w hT).mono ?_
  rintro e w1 ⟨rfl, x1⟩
  have hB1 := hB.below x1 (Nat.le_refl _)
  have hU1 := hU.below x1 (Nat.le_refl _)
  obtain ⟨v2, w2, r2, o2, x2⟩ := run_copy_own w1 a0 cap l 30 hB1
  obtain ⟨v3, w3, r3, o3, x3⟩ := o2.push2 65 66 (by omega) x2.size
  obtain ⟨gf, cf, e3, gf1, gf2, _⟩ := o3.form (by simp)
  rw [List.length_append, show ([65, 66] : List Int).length = 2 from rfl] at e3
  subst e3
  have s1 := x1.size
  have s2 := x2.size
  have s3 := x3.size
  have y3 : Below w.heap.size w w3 := (x1.trans (x2.mono s1)).trans (x3.mono s1)
  have hU3 := hU.below y3 (Nat.le_refl _)
  obtain ⟨a4, c4, w4, r4, _, o4, x4⟩ := run_copyU w3 a1 cap1 u 31 hU3 (by omega)
  obtain ⟨v5, w5, r5, o5, x5, _⟩ := push_u16x2 w4 w3.heap.size _ u 67 68 31 o4 (by omega) x4.size
  obtain ⟨gw, cw, e5, gw1, gw2⟩ : ∃ gw cw, v5 = .slice (some ⟨gw, 0, none⟩) (u.length + 2) cw ∧ w3.heap.size ≤ gw ∧ gw < w5.heap.size := by
    rcases o5.2 with ⟨_, h0⟩ | ⟨g, c, cur, e, h1, h2, _⟩
    · simp at h0
    · exact ⟨g, c, by rw [e]; simp, h1, heap_lt h2⟩
  subst e5
  have s4 := x4.size
  have s5 := x5.size
  have R2 := hide r2
  have R3 := hide r3
  have R4 := hide r4
  have R5 := hide r5
  have y5 : Below w.heap.size w w5 := (y3.trans (x4.mono y3.size)).trans (x5.mono y3.size)
  have fw : FW w l u gf cf gw cw w5 := by
    refine ⟨?_, OwnU.mono o5 y3.size, y5⟩
    have b35 : Below w3.heap.size w3 w5 := x4.trans x5
    refine Own.below ?_ b35
    rcases o3.2 with h0 | ⟨g, c, cur, h1, h2, h3⟩
    · exact ⟨o3.1, Or.inl h0⟩
    · exact ⟨o3.1, Or.inr ⟨g, c, cur, h1, Nat.le_trans s1 h2, h3⟩⟩
  have hcf : l.length ≤ cf := (fw.isB (unhide HLB) lB).1
  have hcw : u.length ≤ cw := (fw.isU (unhide HLU)).1.1
  have t5 := hT.below y5 hT.size
  clear r2 r3 r4 r5 o2 o3 o4 o5 hB1 hU1 hU3
  go_wp2_with (first
    | (at_builtin; refine wpList_append_known rfl _ _ 30 30 rfl _ _ rfl rfl _ _ (unhide R2) ?_)
    | (at_builtin; refine wpList_append_known rfl _ _ 30 30 rfl _ _ rfl rfl _ _ (unhide R3) ?_)
    | (at_builtin; refine wpList_append_known rfl _ _ 31 31 rfl _ _ rfl rfl _ _ (unhide R4) ?_)
    | (at_builtin; refine wpList_append_known rfl _ _ 31 31 rfl _ _ rfl rfl _ _ (unhide R5) ?_))
  have hsz5 := y5.size
  refine (To_at (some ⟨gf, 0, none⟩) cf l w5 (fw.isB (unhide HLB) lB) (by omega)).mono ?_
  rintro e w6 ⟨vx, rfl, ox, x6⟩
  have Ix : Iv vx w5.heap.size w6.heap.size := World.ownsRow.lt ox
  have s6 := x6.size
  have fw6 := fw.on x6
  have t6 := t5.below x6 t5.size
  go_wp2_with fail
  refine (To_at (some ⟨gf, 0, none⟩) cf l w6 (fw6.isB (unhide HLB) lB) (by omega)).mono ?_
  rintro e w7 ⟨vy, rfl, oy, x7⟩
  have Iy : Iv vy w6.heap.size w7.heap.size := World.ownsRow.lt oy
  have s7 := x7.size
  have fw7 := fw6.on x7
  have t7 := t6.below x7 t6.size
  go_wp2_with fail
  refine (ToExact_at (some ⟨gf, 0, none⟩) cf l w7 (fw7.isB (unhide HLB) lB) (by omega) t7).mono ?_
  rintro e w8 ⟨vz, rfl, oz, x8⟩
  have Iz : Iv vz w7.heap.size w8.heap.size := World.ownsRow.lt oz
  have s8 := x8.size
  have fw8 := fw7.on x8
  have t8 := t7.below x8 t7.size
  go_wp2_with fail
  refine (ToExact_at (some ⟨gf, 0, none⟩) cf l w8 (fw8.isB (unhide HLB) lB) (by omega) t8).mono ?_
  rintro e w9 ⟨vw, rfl, ow, x9⟩
  have Iw : Iv vw w8.heap.size w9.heap.size := World.ownsRow.lt ow
  have s9 := x9.size
  have fw9 := fw8.on x9
  have t9 := t8.below x9 t8.size
  go_wp2_with fail
  refine (From_own (some ⟨gw, 0, none⟩) cw u w9 (fw9.isU (unhide HLU)).1 lU).mono ?_
  rintro e w10 ⟨⟨bp, cp, rfl, ip, qp, Ip⟩, x10⟩
  have s10 := x10.size
  have fw10 := fw9.on x10
  have t10 := t9.below x10 t9.size
  go_wp2_with fail
  refine (From_own (some ⟨gw, 0, none⟩) cw u w10 (fw10.isU (unhide HLU)).1 lU).mono ?_
  rintro e w11 ⟨⟨bq, cq, rfl, iq, qq, Iq⟩, x11⟩
  have s11 := x11.size
  have fw11 := fw10.on x11
  have t11 := t10.below x11 t10.size
  go_wp2_with fail
  refine (FromExact_own (some ⟨gw, 0, none⟩) cw u w11 (fw11.isU (unhide HLU)).1 lU t11).mono ?_
  rintro e w12 ⟨⟨bs, cs, rfl, is, qs, Is⟩, x12⟩
  have s12 := x12.size
  have fw12 := fw11.on x12
  have t12 := t11.below x12 t11.size
  go_wp2_with fail
  refine (FromExact_own (some ⟨gw, 0, none⟩) cw u w12 (fw12.isU (unhide HLU)).1 lU t12).mono ?_
  rintro e w13 ⟨⟨bt, ct, rfl, it, qt, It⟩, x13⟩
  have s13 := x13.size
  have fw13 := fw12.on x13
  have t13 := t12.below x13 t12.size
  have hB13 := (unhide HB).below fw13.below L
  have hU13 := (unhide HU).below fw13.below L
  obtain ⟨uw13, d67, d68⟩ := fw13.isU (unhide HLU)
  have kf := str_lies w13 gf 0 cf (l ++ [65, 66]) (fw13.full.lies (ab_in (unhide HLB)))
  rw [List.length_append, show ([65, 66] : List Int).length = 2 from rfl, str_ab] at kf
  have kb := str_bs w13 a0 cap l hB13.2.2.1
  have uo13 : UO w l u vy vw bq bt cq ct w13 := ⟨OwnU.mono ((((((oy.below x8).below x9).below x10).below x11).below x12).below x13) (Nat.zero_le _), OwnU.mono ((((ow.below x10).below x11).below x12).below x13) (Nat.zero_le _), ((iq.below x12 (Nat.le_refl _)).below x13 (Nat.le_refl _)), it, fw13.below⟩
  have qx13 : RwX .u16 4194304 w13 vx := OwnU.rwX (((((((ox.below x7).below x8).below x9).below x10).below x11).below x12).below x13) (by omega)
  have qz13 : RwX .u16 4194304 w13 vz := OwnU.rwX (((((oz.below x9).below x10).below x11).below x12).below x13) (by omega)
  have qp13 := ((qp.below x11).below x12).below x13
  have qs13 := qs.below x13
  have If : Iv (.slice (some ⟨gf, 0, none⟩) (l.length + 2) cf) w.heap.size w3.heap.size := fun k e => by cases e; exact ⟨Nat.le_trans s1 gf1, gf2⟩
  have Ig : Iv (.slice (some ⟨gw, 0, none⟩) (u.length + 2) cw) w3.heap.size w5.heap.size := fun k e => by cases e; exact ⟨gw1, gw2⟩
  have hml : u.length ≤ maxLen := by unfold maxLen; omega
  have hcat : (strOfNums l).size + (⟨#[65, 66]⟩ : ByteArray).size ≤ 9223372036854775807 := by rw [strOfNums_size]; show l.length + 2 ≤ _; omega
  have hadd : (Op.stringOp .add (strOfNums l) ⟨#[65, 66]⟩).run Tryd.prog w13 = .ok (.string (strOfNums l ++ ⟨#[65, 66]⟩)) w13 := run_string_add_sum _ _ _ hcat
  clear ox oy oz ow ip iq is it qp qq qs qt
  clear fw fw6 fw7 fw8 fw9 fw10 fw11 fw12 t5 t6 t7 t8 t9 t10 t11 t12
  go_wp2_with fail
  refine (SameU_at (some ⟨gw, 0, none⟩) a1 cw cap1 u w13 uw13 hU13 hml).mono ?_
  rintro e w14 ⟨rfl, x14⟩
  have fw14 := fw13.on x14
  have uo14 := uo13.on x14
  obtain ⟨_, c67, c68⟩ := fw14.isU (unhide HLU)
  have qx14 := qx13.below x14
  have qz14 := qz13.below x14
  have qp14 := qp13.below x14
  have qs14 := qs13.below x14
  have of14 := fw14.full
  have og14 := fw14.wide.rwX (N := 4194304) (by rw [List.length_append]; simp; omega)
  have s14 := x14.size
  clear qx13 qz13 qp13 qs13 uo13 fw13 fw14 uw13 hU13 hB13 d67 d68
  go_wp2_with fail
  refine (spoil_at 4194304 vx w14 qx14 (by omega)).mono ?_
  rintro e w15 ⟨⟨z15, rfl⟩, g15⟩
  have uo15 := uo14.kept g15 (fun k e => ⟨by have := Ix k e; omega, iv_ne Ix Iy (by omega) e, iv_ne Ix Iw (by omega) e, iv_ne Ix Iq (by omega) e, iv_ne Ix It (by omega) e⟩)
  have of15 := of14.kept g15 (iv_row If Ix (by omega))
  have og15 := og14.kept g15 (iv_row Ig Ix (by omega))
  have qz15 := qz14.kept g15 (iv_row Iz Ix (by omega))
  have qp15 := qp14.kept g15 (iv_row Ip Ix (by omega))
  have qs15 := qs14.kept g15 (iv_row Is Ix (by omega))
  have s15 := g15.size
  clear uo14 of14 og14 qx14 qz14 qp14 qs14
  go_wp2_with fail
  refine (spoil_at 4194304 vz w15 qz15 (by omega)).mono ?_
  rintro e w16 ⟨⟨z16, rfl⟩, g16⟩
  have uo16 := uo15.kept g16 (fun k e => ⟨by have := Iz k e; omega, iv_ne Iz Iy (by omega) e, iv_ne Iz Iw (by omega) e, iv_ne Iz Iq (by omega) e, iv_ne Iz It (by omega) e⟩)
  have of16 := of15.kept g16 (iv_row If Iz (by omega))
  have og16 := og15.kept g16 (iv_row Ig Iz (by omega))
  have qp16 := qp15.kept g16 (iv_row Ip Iz (by omega))
  have qs16 := qs15.kept g16 (iv_row Is Iz (by omega))
  have s16 := g16.size
  clear uo15 of15 og15 qz15 qp15 qs15
  go_wp2_with fail
  refine (rot_at 4194304 (.slice bp (fromL u).1.length cp) w16 qp16 (by omega)).mono ?_
  rintro e w17 ⟨⟨z17, rfl⟩, g17⟩
  have uo17 := uo16.kept g17 (fun k e => ⟨by have := Ip k e; omega, iv_ne Ip Iy (by omega) e, iv_ne Ip Iw (by omega) e, iv_ne Ip Iq (by omega) e, iv_ne Ip It (by omega) e⟩)
  have of17 := of16.kept g17 (iv_row If Ip (by omega))
  have og17 := og16.kept g17 (iv_row Ig Ip (by omega))
  have qs17 := qs16.kept g17 (iv_row Is Ip (by omega))
  have s17 := g17.size
  clear uo16 of16 og16 qp16 qs16
  go_wp2_with fail
  refine (rot_at 4194304 (.slice bs (exactL u).1.length cs) w17 qs17 (by omega)).mono ?_
  rintro e w18 ⟨⟨z18, rfl⟩, g18⟩
  have uo18 := uo17.kept g18 (fun k e => ⟨by have := Is k e; omega, iv_ne Is Iy (by omega) e, iv_ne Is Iw (by omega) e, iv_ne Is Iq (by omega) e, iv_ne Is It (by omega) e⟩)
  have of18 := of17.kept g18 (iv_row If Is (by omega))
  have og18 := og17.kept g18 (iv_row Ig Is (by omega))
  have s18 := g18.size
  clear uo17 of17 og17 qs17
  go_wp2_with fail
  go_loopw [136] (fun i wx => ∃ (k : Nat) (F : List Int), k ≤ l.length + 2 ∧ i = .int .i64 k ∧ F.length = l.length + 2 ∧ Hid (∀ x ∈ F, 0 ≤ x ∧ x ≤ 255) ∧ Hid (Own wx w.heap.size (.slice (some ⟨gf, 0, none⟩) (l.length + 2) cf) F) ∧ w18.grownBy wx (some gf)) (fun i _ => l.length + 2 - (intOf i).toNat)
  case atStart => exact ⟨0, l ++ [65, 66], Nat.zero_le _, rfl, by simp, hide (ab_in (unhide HLB)), hide of18, grown_refl _ _⟩
  case round =>
    obtain ⟨k, F, hk, rfl, hF, hin, hof, hg⟩ := hrel
    by_cases hlt : k < l.length + 2
    · obtain ⟨hc1, hc2⟩ := (unhide hof).cell k (by omega)
      obtain ⟨cv, hcv⟩ := Option.isSome_iff_exists.1 hc1
      have hst := (unhide hof).set k 122
      have hgr := grown_trans hg (grown_set wr gf k (.int .u8 122)) (fun j e => Or.inl (by cases e; rfl))
      have hin2 : Hid (∀ x ∈ F.set k 122, 0 ≤ x ∧ x ≤ 255) := hide (fun x hx => by
        rcases List.mem_or_eq_of_mem_set hx with h | h
        · exact unhide hin x h
        · omega)
      go_wp2
      go_roundw
      case rel => exact ⟨k + 1, F.set k 122, by omega, by go_num, by rw [List.length_set]; exact hF, hin2, hide hst, hgr⟩
      case measure => simp [intOf]; omega
    · obtain ⟨wo, hwo⟩ : ∃ wo, wo = wr := ⟨_, rfl⟩
      subst hwo
      have uo19 := uo18.kept hg (fun k e => by
        have e' : (Value.slice (some ⟨gf, 0, none⟩) (l.length + 2) cf).ownBlock = some k := e
        exact ⟨(If k e').1, iv_ne If Iy (by omega) e', iv_ne If Iw (by omega) e', iv_ne If Iq (by omega) e', iv_ne If It (by omega) e'⟩)
      have og19 := og18.kept hg (iv_row (v' := .slice (some ⟨gf, 0, none⟩) (l.length + 2) cf) Ig If (by omega))
      clear uo18 og18 of18
      go_wp2_with fail
      go_loopw [145] (fun i wx => ∃ k : Nat, k ≤ u.length + 2 ∧ i = .int .i64 k ∧ Hid (RwX .u16 4194304 wx (.slice (some ⟨gw, 0, none⟩) (u.length + 2) cw)) ∧ wo.grownBy wx (some gw)) (fun i _ => u.length + 2 - (intOf i).toNat)
      case atStart => exact ⟨0, Nat.zero_le _, rfl, hide og19, grown_refl _ _⟩
      case round =>
        obtain ⟨k2, hk2, rfl, hog, hg2⟩ := hrel
        by_cases hlt2 : k2 < u.length + 2
        · rcases unhide hog with h0 | ⟨g', n', c', e', h1, h2, h3, h4, h5⟩
          · cases h0
          · simp only [Value.slice.injEq, Option.some.injEq, Addr.mk.injEq] at e'
            obtain ⟨⟨rfl, _⟩, rfl, rfl⟩ := e'
            obtain ⟨cb, hcb⟩ := h5 k2 hlt2
            have hf2 := (h4 k2 (by omega)).2
            have hst := rwX_set (unhide hog) k2 122 hlt2
            have hgr := grown_trans hg2 (grown_set wr gw k2 (.int .u16 122)) (fun j e => Or.inl (by cases e; rfl))
            clear h4 h5
            go_wp2
            go_roundw
            case rel => exact ⟨k2 + 1, by omega, by go_num, hide hst, hgr⟩
            case measure => simp [intOf]; omega
        · have uo20 := uo19.kept hg2 (fun k e => by
            have e' : (Value.slice (some ⟨gw, 0, none⟩) (u.length + 2) cw).ownBlock = some k := e
            exact ⟨by have := (Ig k e').1; omega, iv_ne Ig Iy (by omega) e', iv_ne Ig Iw (by omega) e', iv_ne Ig Iq (by omega) e', iv_ne Ig It (by omega) e'⟩)
          have of20 := (unhide hof).kept hg2 (iv_row (v' := .slice (some ⟨gw, 0, none⟩) (u.length + 2) cw) If Ig (by omega))
          clear uo19 og19 hof hog
          have hU20 := (unhide HU).below uo20.below L
          have iF : IsB wr (some ⟨gf, 0, none⟩) cf F := by
            obtain ⟨a, c, e, h⟩ := of20.isB (unhide hin) (by omega)
            simp only [Value.slice.injEq] at e
            obtain ⟨rfl, _, rfl⟩ := e
            exact h
          have HFI := hide (unhide hin)
          clear of20 hin hg hg2
          go_wp2_with fail
          refine (RFrom_at a1 cap1 u wr hU20 (by omega)).mono ?_
          rintro e w21 ⟨⟨d1, f1, rfl, j1⟩, x21⟩
          have uo21 := uo20.on x21
          have iF21 := iF.below x21 (Nat.le_refl _)
          have hU21 := hU20.below x21 (Nat.le_refl _)
          clear uo20 iF hU20
          go_wp2_with fail
          refine (RFromExact_at a1 cap1 u w21 hU21 (by omega)).mono ?_
          rintro e w22 ⟨⟨d2, f2, rfl, j2⟩, x22⟩
          have uo22 := uo21.on x22
          have iF22 := iF21.below x22 (Nat.le_refl _)
          have j12 := j1.below x22 (Nat.le_refl _)
          clear uo21 iF21 hU21 j1
          have hB22 := (unhide HB).below uo22.below L
          go_wp2_with fail
          refine (RTo_at a0 cap l w22 hB22 lB).mono ?_
          rintro e w23 ⟨v23, rfl, o23, x23⟩
          have uo23 := uo22.on x23
          have iF23 := iF22.below x23 (Nat.le_refl _)
          have j13 := j12.below x23 (Nat.le_refl _)
          have j23 := j2.below x23 (Nat.le_refl _)
          obtain ⟨ay, cy, ey, uy⟩ := uo23.oy.isU (toL_in (unhide HLB))
          obtain ⟨a23, c23, rfl, u23⟩ := o23.isU (toL_in (unhide HLB))
          have HS := hide (SameU_at ay a23 cy c23 (toL l) w23 uy u23 (by unfold maxLen; omega))
          rw [ey] at *
          clear uo22 iF22 j12 j2 o23
          go_wp2_with fail
          refine (unhide HS).mono ?_
          rintro e w24 ⟨rfl, x24⟩
          have uo24 := uo23.on x24
          have iF24 := iF23.below x24 (Nat.le_refl _)
          have j14 := j13.below x24 (Nat.le_refl _)
          have j24 := j23.below x24 (Nat.le_refl _)
          have hB24 := (unhide HB).below uo24.below L
          clear HS uo23 iF23 j13 j23 uy u23
          go_wp2_with fail
          refine (RToExact_at a0 cap l w24 hB24 lB).mono ?_
          rintro e w25 ⟨v25, rfl, o25, x25⟩
          have uo25 := uo24.on x25
          have iF25 := iF24.below x25 (Nat.le_refl _)
          have j15 := j14.below x25 (Nat.le_refl _)
          have j25 := j24.below x25 (Nat.le_refl _)
          obtain ⟨aw, c_w, ew, uw⟩ := uo25.ow.isU (exL_in (unhide HLB))
          obtain ⟨a25, c25, rfl, u25⟩ := o25.isU (exL_in (unhide HLB))
          have HS := hide (SameU_at aw a25 c_w c25 (exL l) w25 uw u25 (by unfold maxLen; omega))
          rw [ew] at *
          clear uo24 iF24 j14 j24 o25 hB24
          go_wp2_with fail
          refine (unhide HS).mono ?_
          rintro e w26 ⟨rfl, x26⟩
          have uo26 := uo25.on x26
          have iF26 := iF25.below x26 (Nat.le_refl _)
          have k1 := str_bs w26 d1 f1 _ (j15.below x26 (Nat.le_refl _)).2.2.1
          have k2 := str_bs w26 d2 f2 _ (j25.below x26 (Nat.le_refl _)).2.2.1
          have k3 := str_bs w26 bq cq _ uo26.q.2.2.1
          have k4 := str_bs w26 bt ct _ uo26.t.2.2.1
          have HC := hide (To_at (some ⟨gf, 0, none⟩) cf F w26 iF26 (by omega))
          rw [hF] at HC
          clear HS uo25 iF25 j15 j25 uw u25
          go_wp2_with fail
          refine (unhide HC).mono ?_
          rintro e w27 ⟨v27, rfl, o27, x27⟩
          have iF27 := iF26.below x27 (Nat.le_refl _)
          have HC2 := hide (RTo_wd (some ⟨gf, 0, none⟩) cf F w27 iF27 (by omega))
          rw [hF] at HC2
          clear HC iF26 k1 k2 k3 k4
          go_wp2_with fail
          refine (unhide HC2).mono ?_
          rintro e w28 ⟨v28, rfl, o28, x28⟩
          have hFl := toL_len F
          obtain ⟨a27, c27, rfl, u27⟩ := (o27.below x28).isU (toL_in (unhide HFI))
          obtain ⟨a28, c28, rfl, u28⟩ := o28.isU (toL_in (unhide HFI))
          have HS := hide (SameU_at a27 a28 c27 c28 (toL F) w28 u27 u28 (by unfold maxLen; omega))
          clear HC2 o27 o28 u27 u28
          go_wp2_with fail
          refine (unhide HS).mono ?_
          rintro e w29 ⟨rfl, x29⟩
          go_wp2_with fail
          go_ret
          exact ⟨ret_bool (by simp), bchain L (bchain L (bchain L uo26.below x27) x28) x29⟩

end Go.Proofs.YtlfcplipnmclhabDoor
