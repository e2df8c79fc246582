/- The walk of OctetShape: it answers true wherever the table holds the classes, and changes nothing that was there. -/
import Derived.Test.YtgebpboimecdhaaDoorShapeL
import Derived.Test.YtgebpboimecdhaaDoorCopy
import Derived.Test.YtgebpboimecdhaaDoorNew
import Derived.Laws.RangeAny
import Derived.Deep.RegionLaw
import Derived.Deep.RegionHeldLaw
import Derived.Deep.DeepCutAuto
import Derived.Deep.Light
namespace Go.Proofs.YtgebpboimecdhaaDoor
open Go.ChangeShapes Go.WideShapes Go.ChangeAt Go.RowKit

theorem bad_eq {l : List Int} (hl : ∀ x ∈ l, 0 ≤ x ∧ x ≤ 255) : ((strOfNums l).toList == (⟨#[239, 191, 189]⟩ : ByteArray).toList) = decide (l = [239, 191, 189]) := by
  have : (⟨#[239, 191, 189]⟩ : ByteArray) = strOfNums [239, 191, 189] := by decide
  rw [this]
  exact str_beq hl (by decide)

theorem bad_eq' {l : List Int} (hl : ∀ x ∈ l, 0 ≤ x ∧ x ≤ 255) : ((strOfNums l).toList == ([239, 191, 189] : List UInt8)) = decide (l = [239, 191, 189]) := by
  have h := str_beq (m := [239, 191, 189]) hl (by decide)
  rw [Lib.strOfNums_toList, Lib.strOfNums_toList] at h
  rw [Lib.strOfNums_toList]
  exact h

theorem step_append_known {P : Program} {ops : Array Oper} {o : Oper} {a : Act} {w : World} {K : Act → World → Prop} {Q : Exit → Act → World → Prop} {E : Prop} (hw : Region.wanted o (yielded ops a.tmps) = true) (s x : Operand) (t tx : TypeId)
    (ho : o.op = .call { callee := .builtin .append, args := #[s, x], argTypes := #[t, tx] }) (v u : Value) (hs : a.eval s = v) (hx : a.eval x = u) (v' : Value) (w' : World)
    (hr : (Builtin.append_ #[t, tx] o.type #[v, u]).run P w = .ok v' w') (h : K (a.put o.dst v') w') : if Region.wanted o (yielded ops a.tmps) = true then Oper.wp P o a w K Q else E := by
  rw [if_pos hw]
  unfold Oper.wp execOp
  simp only [ho, resolve, invoke, builtin, Sem.run_bind, Sem.run_pure, Result.andThen_ok, List.map_toArray, List.map_cons, List.map_nil, hs, hx, hr]
  exact h

theorem value_bounds {l : List Int} (h : whole l = true) (hl : ∀ x ∈ l, 0 ≤ x ∧ x ≤ 255) : -2147483648 ≤ value l ∧ value l ≤ 2147483647 := by
  match l with
  | [] => cases h
  | a :: r =>
    have := fold_wide (hl a (by simp)).1 (whole_need h)
    rw [value_yes h]
    omega
theorem lies_on {w wx w5 w6 w7 : World} {g off : Nat} {l : List Int} (hb : Below w.heap.size w wx) (h5 : Below wx.heap.size wx w5) (h6 : Below w5.heap.size w5 w6) (h7 : Below w6.heap.size w6 w7) (hL : Lies wx g off l) (hg : g < wx.heap.size) :
    Below w.heap.size w w7 ∧ Lies w7 g off l := by
  have s1 := hb.size; have s2 := h5.size; have s3 := h6.size
  have hx : Below wx.heap.size wx w7 := h5.trans ((h6.mono (by omega)).trans (h7.mono (by omega)))
  exact ⟨hb.trans (hx.mono s1), hL.below hx hg⟩
theorem cells_on {w : World} {g off : Nat} {l : List Int} {b : Int} (hL : Lies w g off l) (hb : l.getD 1 0 = b) (h : 1 < l.length) : w.cell? ⟨g, off, none⟩ = some (.int .u8 (l.getD 0 0)) ∧ w.cell? ⟨g, off + 1, none⟩ = some (.int .u8 b) := by
  refine ⟨(hL 0 (by omega)).1, ?_⟩
  rw [← hb]
  exact (hL 1 h).1

/-- what is read of the bytes that came in, in whatever world -/
def SW (g off : Nat) (a : Int) (o : Option Value) (l : List Int) (w : World) : Prop := w.cell? ⟨g, off, none⟩ = some (.int .u8 a) ∧ w.cell? ⟨g, off + 1, none⟩ = o ∧ Lies w g off l
theorem holds_start {w : World} {g off : Nat} {l : List Int} {a : Int} {o : Option Value} (hL : Lies w g off l) (ha : l.getD 0 0 = a) (h0 : 0 < l.length) (ho : w.cell? ⟨g, off + 1, none⟩ = o) : SW g off a o l w :=
  ⟨by rw [← ha]; exact (hL 0 h0).1, ho, hL⟩
theorem holds_on {w w' : World} {g off B : Nat} {l : List Int} {a : Int} {o : Option Value} (h : SW g off a o l w) (hb : Below B w w') (hg : g < B) : SW g off a o l w' :=
  ⟨(hb.cell (p := ⟨g, off, none⟩) hg).trans h.1, (hb.cell (p := ⟨g, off + 1, none⟩) hg).trans h.2.1, h.2.2.below hb hg⟩

/-- what bytes that are whole look like -/
theorem whole_parts {l : List Int} (h : whole l = true) : ∃ a, 0 < l.length ∧ (l.length : Int) = need a ∧ (l.getD 0 0 = a ∧ ∀ i, 1 ≤ i → i < l.length → isTail (l.getD i 0) = true) ∧ (1 < l.length → sec a (l.getD 1 0) = true) := by
  match l with
  | [] => cases h
  | a :: r =>
    have hn := (whole_first h).2
    refine ⟨a, by simp, by simp only [List.length_cons]; omega, ⟨rfl, fun i h1 h2 => ?_⟩, fun h1 => ?_⟩
    · obtain ⟨j, rfl⟩ : ∃ j, i = j + 1 := ⟨i - 1, by omega⟩
      have hj : j < r.length := by simpa using h2
      have := whole_tails h r[j] (List.getElem_mem hj)
      simpa [List.getD, List.getElem?_eq_getElem hj] using this
    · match r with
      | [] => simp at h1
      | b :: t =>
        have := h
        rw [whole_more (by rw [← hn]; simp only [List.length_cons]; omega), Bool.and_eq_true] at this
        exact this.1

theorem Bytes_back (l : List Int) (h : whole l = true) (hl : ∀ x ∈ l, 0 ≤ x ∧ x ≤ 255) (w : World) :
    Calls Tryd.prog 20 #[.int .i32 (value l)] w fun e w' => ∃ g, e = .returned (.slice (some ⟨g, 0, none⟩) l.length l.length) ∧ Lies w' g 0 l ∧ g < w'.heap.size ∧ Below w.heap.size w w' := by
  have hb := value_bounds h hl
  have := Bytes_new (value l) w hb.1 hb.2
  rw [enc_value h hl] at this
  exact this.mono fun e w' ⟨g, h1, h2, _, h3, h4⟩ => ⟨g, h1, h2, h3, h4⟩

set_option maxRecDepth 100000 in
set_option maxHeartbeats 8000000 in
theorem OctetShape_any (a0 : Option Addr) (cap : Nat) (l : List Int) (w : World) (hB : IsB w a0 cap l) (hT : Tab w) :
    Calls Tryd.prog 7 #[.slice a0 l.length cap] w fun e w' => e = .returned (.bool true) ∧ Below w.heap.size w w' := by
  have hlc := hB.1
  have hcb := hB.2.1
  have hlb := hB.2.2.2
  have HLB := hide hlb
  have HQ := hide (bad_eq hlb)
  have hm : l.length ≤ maxLen := by unfold maxLen; omega
  clear hlb
  go_enter Tryd.func7, Tryd.ntmps7
  go_wp2_with (first
    | (go_at_call 9; refine (awake_any _ hT).mono ?_; rintro e w1 ⟨rfl, b1⟩; obtain ⟨a1, c1, w2, r1, x1, y1, z1⟩ := run_copy w1 a0 cap l 27 (hB.below b1 (Nat.le_refl _)); have R1 := hide r1; clear r1)
    | (at_builtin; refine wpList_append_known rfl _ _ 27 27 rfl _ _ rfl rfl _ _ (unhide R1) ?_))
  have hT1 := hT.below b1 hT.size
  have hB1 := hB.below b1 (Nat.le_refl _)
  have hT2 := hT1.below z1 hT1.size
  have hB2 := hB1.below z1 (Nat.le_refl _)
  refine (Whole_at a1 c1 l w2 hm x1 y1 hT2).mono ?_
  rintro e w3 ⟨rfl, q3⟩
  have b3 := quiet_below q3 w2.heap.size
  have hT3 := hT2.below b3 hT2.size
  have hB3 := hB2.below b3 (Nat.le_refl _)
  have s1 := b1.size; have s2 := z1.size
  have hb3 := b1.trans ((z1.mono (by omega)).trans (b3.mono (by omega)))
  have s3 := hb3.size
  have kb := str_bs w3 a0 cap l hB3.2.2.1
  have ki : ∀ p, (convert 27 9 (.slice a0 l.length cap)).run Tryd.prog (w3.iter (strOfNums l) p) = .ok (.string (strOfNums l)) (w3.iter (strOfNums l) p) :=
    fun p => str_bs _ a0 cap l (hB3.below ((Below.refl w3.heap.size w3).alloc (Nat.le_refl _) _) (Nat.le_refl _)).2.2.1
  clear q3 b1 z1 b3 hT hT1 hT2 hB hB1 hB2 R1 x1 y1 s1 s2
  have hsz : (strOfNums l).size = l.length := strOfNums_size l
  have HSZ := hide hsz
  clear hsz
  go_wp2_with fail
  go_loopw [4, 5] (fun n o wx => ∃ (pos cnt : Nat) (ob : Bool), wx = w3.iter (strOfNums l) pos ∧ n = .int .i64 cnt ∧ o = .bool ob ∧ Hid (Seen l pos cnt ob)) (fun _ _ wx => (strOfNums l).size - wx.iterPos w3.heap.size)
  case atStart => exact ⟨0, 0, false, rfl, rfl, rfl, seen_start l⟩
  case round =>
    obtain ⟨pos, cnt, ob, rfl, rfl, rfl, hseen⟩ := hrel
    by_cases hp : pos < (strOfNums l).size
    · have hnx : ∀ ty, (Instr.next (.pointer (some ⟨w3.heap.size, 0, none⟩)) true ty).run Tryd.prog (w3.iter (strOfNums l) pos) = _ := fun ty => run_next_any w3 (strOfNums l) pos ty hp
      have hpl : pos < l.length := by rw [← unhide HSZ]; exact hp
      obtain ⟨hw, hnext⟩ := seen_next (unhide HLB) (unhide hseen) hpl
      have HN := hide hnext
      have hcp := (unhide hseen).1
      clear hnext hseen
      generalize hrn : (Utf8.decode (strOfNums l) pos).1 = rn at *
      generalize hwd : (Utf8.decode (strOfNums l) pos).2 = wd at *
      clear hrn hwd
      have hq := unhide HQ
      by_cases hr : (rn : Int) = 65533
      · have hb1 : ((rn : Int) != 65533) = false := by rw [bne_eq_false_iff_eq]; exact hr
        have he : decide ((rn : Int) ≠ 65533) = false := decide_eq_false (fun h => h hr)
        have HE := hide he
        clear hr he
        go_wp2_with fail
        go_roundw
        case rel =>
          refine ⟨pos + wd, cnt + 1, _, rfl, by go_num, rfl, ?_⟩
          have := unhide HN
          rw [unhide HE, Bool.false_or, ← bad_eq' (unhide HLB)] at this
          exact this
        case measure => simp; omega
      · have hb1 : ((rn : Int) != 65533) = true := by rw [bne_iff_ne]; exact hr
        have he : decide ((rn : Int) ≠ 65533) = true := decide_eq_true hr
        have HE := hide he
        clear hr he
        go_wp2_with fail
        go_roundw
        case rel =>
          refine ⟨pos + wd, cnt + 1, _, rfl, by go_num, rfl, ?_⟩
          have := unhide HN
          rw [unhide HE, Bool.true_or] at this
          exact this
        case measure => simp; omega
    · have hnx : ∀ ty, (Instr.next (.pointer (some ⟨w3.heap.size, 0, none⟩)) true ty).run Tryd.prog (w3.iter (strOfNums l) pos) = _ := fun ty => run_next_end w3 (strOfNums l) pos ty hp
      have hend := seen_end (unhide HLB) (unhide hseen) (by rw [← unhide HSZ]; exact hp)
      have hcp := (unhide hseen).1
      have bx : Below w3.heap.size w3 (w3.iter (strOfNums l) pos) := (Below.refl w3.heap.size w3).alloc (Nat.le_refl _) _
      have hTx := hT3.below bx hT3.size
      have hBx := hB3.below bx (Nat.le_refl _)
      have hbx := hb3.trans (bx.mono s3)
      have kx := ki pos
      clear hseen ki kb hp
      generalize w3.iter (strOfNums l) pos = wx at *
      cases hw : whole l with
      | false =>
        obtain ⟨a2, c2, w5, r2, x2, y2, z2⟩ := run_copy wx a0 cap l 27 hBx
        have R2 := hide r2
        have hT5 := hTx.below z2 hTx.size
        have hv := Value_no a2 c2 l w5 hm x2 y2 hT5 hw
        have HV := hide hv
        clear r2 hv
        have hn1 : ((cnt : Int) == 1) = false ∨ ((cnt : Int) == 1) = true ∧ ob = false := by
          rcases hend with ⟨h1, h2⟩ | ⟨h1, _⟩
          · right; exact ⟨by rw [beq_iff_eq]; omega, by rw [h2, hw]⟩
          · left; rw [beq_eq_false_iff_ne]; omega
        clear hend
        rcases hn1 with hn1 | ⟨hn1, rfl⟩
        all_goals
          go_wp2_with (first
            | (at_builtin; refine wpList_append_known rfl _ _ 27 27 rfl _ _ rfl rfl _ _ (unhide R2) ?_)
            | (go_at_call 18; refine (unhide HV).mono ?_; rintro e w6 ⟨rfl, q6⟩))
          go_ret
          have s4 := hbx.size
          exact ⟨rfl, hbx.trans ((z2.mono (by omega)).trans (quiet_below q6 _))⟩
      | true =>
        obtain ⟨hc1, rfl⟩ : cnt = 1 ∧ ob = true := by
          rcases hend with ⟨h1, h2⟩ | ⟨_, h2⟩
          · exact ⟨h1, by rw [h2, hw]⟩
          · rw [hw] at h2; cases h2
        subst hc1
        clear hend
        have hBd : IsB wx.drew a0 cap l := hBx
        obtain ⟨a2, c2, w5, r2, x2, y2, z2⟩ := run_copy wx.drew a0 cap l 27 hBd
        have r2' : (Builtin.append_ #[27, 27] 27 #[.slice (some ⟨wx.heap.size, 0, none⟩) 0 0, .slice a0 l.length cap]).run Tryd.prog (wx.alloc (.cells #[] 5)).drew = .ok (.slice a2 l.length c2) w5 := r2
        have R2 := hide r2'
        have z2' : Below wx.heap.size wx w5 := ⟨z2.os, z2.tape, z2.output, z2.size, z2.block⟩
        have hT5 := hTx.below z2' hTx.size
        have hB5 := hBx.below z2' (Nat.le_refl _)
        have HV := hide (Value_at a2 c2 l w5 hm x2 y2 hT5)
        have HBK := hide (Bytes_back l hw (unhide HLB))
        have j1 : (convert 27 9 (.slice a0 l.length cap)).run Tryd.prog wx.drew = .ok (.string (strOfNums l)) wx.drew := str_bs wx.drew a0 cap l hBx.2.2.1
        have j2 : (convert 27 9 (.slice a0 l.length cap)).run Tryd.prog (wx.alloc (.cells #[] 5)).drew = .ok (.string (strOfNums l)) (wx.alloc (.cells #[] 5)).drew :=
          str_bs _ a0 cap l (hBx.below (B := wx.heap.size) ((Below.refl wx.heap.size wx).alloc (Nat.le_refl _) _).drew (Nat.le_refl _)).2.2.1
        have j3 := str_bs w5 a0 cap l hB5.2.2.1
        clear r2 r2' hBd z2 x2 y2 kx
        rcases hBx.2.2.1 with h0 | ⟨g, off, rfl, hL⟩
        · rw [h0] at hw; cases hw
        obtain ⟨a, hd, hna, htl, hsec⟩ := whole_parts hw
        obtain ⟨ca0, x0, x1⟩ := hL 0 hd
        rw [Nat.add_zero, htl.1] at ca0
        rw [htl.1] at x0 x1
        have HTL := hide htl.2
        have HSEC := hide hsec
        have q1 : (need a != (l.length : Int)) = false := by rw [bne_eq_false_iff_eq]; exact hna.symm
        have q0 : (0 : Int) < (l.length : Int) := by omega
        have cad : wx.drew.cell? ⟨g, off, none⟩ = some (.int .u8 a) := ca0
        have HL := hide hL
        have HA := hide htl.1
        have gl : g < wx.heap.size := by
          rcases Nat.lt_or_ge g wx.heap.size with h | h
          · exact h
          · simp [World.cell?, Array.getElem?_eq_none h] at ca0
        clear htl hsec hna hL ca0 bx hT3 hb3 s3 hB3 hBx
        go_upto_region 14 with fail
        go_cut [76] (fun c wz => c = .bool false ∧ Hid (Below w.heap.size w wz ∧ Tab wz ∧ Lies wz g off l))
        case first =>
          have HB := hide hbx
          have HZ := hide z2'
          clear HLB HSZ HTL hw hcp hlc hcb HQ hm hbx z2' hnx j1 j2 j3
          have kc : ∀ w, Lies w g off l → (convert 27 9 (.slice (some ⟨g, off, none⟩) l.length cap)).run Tryd.prog w = .ok (.string (strOfNums l)) w := fun w h => str_lies w g off cap l h
          have g5 : g < w5.heap.size := Nat.lt_of_lt_of_le gl (unhide HZ).size
          by_cases h2 : 1 < l.length
          · obtain ⟨cb0, y0, y1⟩ := (unhide HL) 1 h2
            have hsb := (unhide HSEC) h2
            generalize hbv : l.getD 1 0 = b at *
            have HSB := hide hsb
            have h2i : (1 : Int) < (l.length : Int) := by omega
            have h2d : decide ((1 : Int) < (l.length : Int)) = true := decide_eq_true h2i
            have sx0 := holds_start (unhide HL) (unhide HA) hd cb0
            have sx1 := holds_on sx0 ((Below.refl wx.heap.size wx).alloc (Nat.le_refl _) (.cells #[] 5)) gl
            have sx5 := hide (holds_on sx0 (unhide HZ) gl)
            have SX0 := hide sx0
            have SX1 := hide sx1
            clear hbv hsb cb0 HSEC sx0 sx1 hB5 cad
            go_region_held_law (fun w' => w'.cell? ⟨g, off, none⟩ = some (.int .u8 a) ∧ w'.cell? ⟨g, off + 1, none⟩ = some (.int .u8 b) ∧ Lies w' g off l) (first | exact unhide SX0 | exact unhide SX1 | exact unhide sx5 | exact unhide sx6 | exact unhide sx7)
              (first
                | (refine step_append_known rfl _ _ 27 27 rfl _ _ rfl rfl _ _ (unhide R2) ?_)
                | (go_at_call 12; refine (Need_any a _ x0 x1 (by exact hTx.drew)).mono ?_; rintro e w' ⟨rfl, rfl⟩)
                | (go_at_call 18; refine (unhide HV).mono ?_; rintro e w6 ⟨rfl, q6⟩; have B6 := hide (quiet_below q6 w5.heap.size); have T6 := hide (hT5.below (unhide B6) hT5.size); have sx6 := hide (holds_on (unhide sx5) (unhide B6) g5); clear q6)
                | (go_at_call 20; refine (unhide HBK _).mono ?_; rintro e w7 ⟨g7, rfl, l7, t7, b7⟩; have T7 := hide ((unhide T6).below b7 (unhide T6).size); have sx7 := hide (holds_on (unhide sx6) b7 (Nat.lt_of_lt_of_le g5 (unhide B6).size)); have C7 := hide (lies_on (unhide HB) (unhide HZ) (unhide B6) b7 (unhide HL) gl); have j6 := str_lies w7 g7 0 l.length l l7; clear l7 t7 b7)
                | (go_at_call 14; refine (Second_at a b _ x0 x1 y0 y1 (by exact unhide T7) (unhide HSB)).mono ?_; rintro e w' ⟨rfl, rfl⟩))
            all_goals (go_wp2_with fail; go_meet; exact ⟨rfl, (unhide C7).1, unhide T7, (unhide C7).2⟩)
          · have h2d : decide ((1 : Int) < (l.length : Int)) = false := decide_eq_false (by omega)
            have h2n : decide (1 < l.length) = false := decide_eq_false h2
            have sx0 := holds_start (unhide HL) (unhide HA) hd rfl
            have sx1 := holds_on sx0 ((Below.refl wx.heap.size wx).alloc (Nat.le_refl _) (.cells #[] 5)) gl
            have sx5 := hide (holds_on sx0 (unhide HZ) gl)
            have SX0 := hide sx0
            have SX1 := hide sx1
            clear HSEC sx0 sx1 hB5 cad
            refine wp_region_held_drew (S := fun w' => w'.cell? ⟨g, off, none⟩ = some (.int .u8 a) ∧ w'.cell? ⟨g, off + 1, none⟩ = wx.cell? ⟨g, off + 1, none⟩ ∧ Lies w' g off l) (by kernel_rfl) (by exact unhide SX0) (fun hHeld => ?_)
            refine wpAnyH_take (i := 0) (v := ?v0) rfl (by kernel_rfl) (by kernel_rfl) (by kernel_rfl) (fun _ _ _ h => h) (Or.inl ⟨by rfl, ?h0⟩) (by assumption) ?_
            case h0 => (intro w hSw; (try dsimp only at hSw); go_simp) <;> with_reducible rfl
            simp only [Act.put, List.getElem_toArray, List.getElem_cons_zero, List.setIfInBounds_toArray, List.set_cons_zero, List.set_cons_succ]
            refine wpAnyH_take (i := 1) (v := ?v1) rfl (by kernel_rfl) (by kernel_rfl) (by kernel_rfl) (fun _ _ _ h => h) (Or.inl ⟨by rfl, ?h1⟩) (by assumption) ?_
            case h1 => (intro w hSw; (try dsimp only at hSw); go_simp) <;> with_reducible rfl
            simp only [Act.put, List.getElem_toArray, List.getElem_cons_zero, List.getElem_cons_succ, List.setIfInBounds_toArray, List.set_cons_zero, List.set_cons_succ]
            refine wpAnyH_take (i := 2) (v := ?v2) rfl (by kernel_rfl) (by kernel_rfl) (by kernel_rfl) (fun _ _ _ h => h) (Or.inl ⟨by rfl, ?h2⟩) (by assumption) ?_
            case h2 => (intro w hSw; (try dsimp only at hSw); go_simp) <;> with_reducible rfl
            simp only [Act.put, List.getElem_toArray, List.getElem_cons_zero, List.getElem_cons_succ, List.setIfInBounds_toArray, List.set_cons_zero, List.set_cons_succ]
            refine wpAnyH_take (i := 4) (v := ?v4) rfl (by kernel_rfl) (by kernel_rfl) (by kernel_rfl) (fun _ _ _ h => h) (Or.inl ⟨by rfl, ?h4⟩) (by assumption) ?_
            case h4 => (intro w hSw; (try dsimp only at hSw); go_simp) <;> with_reducible rfl
            simp only [Act.put, List.getElem_toArray, List.getElem_cons_zero, List.getElem_cons_succ, List.setIfInBounds_toArray, List.set_cons_zero, List.set_cons_succ]
            refine wpAnyH_take (i := 5) (v := ?v5) rfl (by kernel_rfl) (by kernel_rfl) (by kernel_rfl) (fun _ _ _ h => h) (Or.inl ⟨by rfl, ?h5⟩) (by assumption) ?_
            case h5 => (intro w hSw; (try dsimp only at hSw); go_simp) <;> with_reducible rfl
            simp only [Act.put, List.getElem_toArray, List.getElem_cons_zero, List.getElem_cons_succ, List.setIfInBounds_toArray, List.set_cons_zero, List.set_cons_succ]
            refine wpAnyH_ready (rs := [3]) (by kernel_rfl) (by simp) ?_
            refine AllReadyH.cons rfl (fun K hK => ?_) AllReadyH.nil
            go_simp
            (go_at_call 12; refine (Need_any a _ x0 x1 (by exact hTx.drew)).mono ?_; rintro e w' ⟨rfl, rfl⟩)
            try go_simp
            refine hK.out _ _ (by exact unhide SX0) (fun hHeld => ?_)
            clear hK K
            refine wpAnyH_take (i := 6) (v := ?v6) rfl (by kernel_rfl) (by kernel_rfl) (by kernel_rfl) (fun _ _ _ h => h) (Or.inl ⟨by rfl, ?h6⟩) (by assumption) ?_
            case h6 => (intro w hSw; (try dsimp only at hSw); go_simp) <;> with_reducible rfl
            simp only [Act.put, List.getElem_toArray, List.getElem_cons_zero, List.getElem_cons_succ, List.setIfInBounds_toArray, List.set_cons_zero, List.set_cons_succ]
            refine wpAnyH_take (i := 7) (v := ?v7) rfl (by kernel_rfl) (by kernel_rfl) (by kernel_rfl) (fun _ _ _ h => h) (Or.inl ⟨by rfl, ?h7⟩) (by assumption) ?_
            case h7 => (intro w hSw; (try dsimp only at hSw); go_simp) <;> with_reducible rfl
            simp only [Act.put, List.getElem_toArray, List.getElem_cons_zero, List.getElem_cons_succ, List.setIfInBounds_toArray, List.set_cons_zero, List.set_cons_succ]
            refine wpAnyH_take (i := 9) (v := ?v9) rfl (by kernel_rfl) (by kernel_rfl) (by kernel_rfl) (fun _ _ _ h => h) (Or.inl ⟨by rfl, ?h9⟩) (by assumption) ?_
            case h9 => (intro w hSw; (try dsimp only at hSw); go_simp) <;> with_reducible rfl
            simp only [Act.put, List.getElem_toArray, List.getElem_cons_zero, List.getElem_cons_succ, List.setIfInBounds_toArray, List.set_cons_zero, List.set_cons_succ]
            refine wpAnyH_take (i := 14) (v := ?v14) rfl (by kernel_rfl) (by kernel_rfl) (by kernel_rfl) (fun _ _ _ h => h) (Or.inl ⟨by rfl, ?h14⟩) (by assumption) ?_
            case h14 => (intro w hSw; (try dsimp only at hSw); go_simp) <;> with_reducible rfl
            simp only [Act.put, List.getElem_toArray, List.getElem_cons_zero, List.getElem_cons_succ, List.setIfInBounds_toArray, List.set_cons_zero, List.set_cons_succ]
            refine wpAnyH_take (i := 15) (v := ?v15) rfl (by kernel_rfl) (by kernel_rfl) (by kernel_rfl) (fun _ _ _ h => h) (Or.inl ⟨by rfl, ?h15⟩) (by assumption) ?_
            case h15 => (intro w hSw; (try dsimp only at hSw); go_simp) <;> with_reducible rfl
            simp only [Act.put, List.getElem_toArray, List.getElem_cons_zero, List.getElem_cons_succ, List.setIfInBounds_toArray, List.set_cons_zero, List.set_cons_succ]
            refine wpAnyH_ready (rs := [8]) (by kernel_rfl) (by simp) ?_
            refine AllReadyH.cons rfl (fun K hK => ?_) AllReadyH.nil
            go_simp
            refine hK.out _ _ (by exact unhide SX1) (fun hHeld => ?_)
            clear hK K
            refine wpAnyH_ready (rs := [10]) (by kernel_rfl) (by simp) ?_
            refine AllReadyH.cons rfl (fun K hK => ?_) AllReadyH.nil
            refine step_append_known rfl _ _ 27 27 rfl _ _ rfl rfl _ _ (unhide R2) ?_
            try go_simp
            refine hK.out _ _ (by exact unhide sx5) (fun hHeld => ?_)
            clear hK K
            refine wpAnyH_ready (rs := [11]) (by kernel_rfl) (by simp) ?_
            refine AllReadyH.cons rfl (fun K hK => ?_) AllReadyH.nil
            go_simp
            (go_at_call 18; refine (unhide HV).mono ?_; rintro e w6 ⟨rfl, q6⟩; have B6 := hide (quiet_below q6 w5.heap.size); have T6 := hide (hT5.below (unhide B6) hT5.size); have sx6 := hide (holds_on (unhide sx5) (unhide B6) g5); clear q6)
            try go_simp
            refine hK.out _ _ (by exact unhide sx6) (fun hHeld => ?_)
            clear hK K
            refine wpAnyH_ready (rs := [12]) (by kernel_rfl) (by simp) ?_
            refine AllReadyH.cons rfl (fun K hK => ?_) AllReadyH.nil
            go_simp
            (go_at_call 20; refine (unhide HBK _).mono ?_; rintro e w7 ⟨g7, rfl, l7, t7, b7⟩; have T7 := hide ((unhide T6).below b7 (unhide T6).size); have sx7 := hide (holds_on (unhide sx6) b7 (Nat.lt_of_lt_of_le g5 (unhide B6).size)); have C7 := hide (lies_on (unhide HB) (unhide HZ) (unhide B6) b7 (unhide HL) gl); have j6 := str_lies w7 g7 0 l.length l l7; clear l7 t7 b7)
            try go_simp
            refine hK.out _ _ (by exact unhide sx7) (fun hHeld => ?_)
            clear hK K
            refine wpAnyH_ready (rs := [13]) (by kernel_rfl) (by simp) ?_
            refine AllReadyH.cons rfl (fun K hK => ?_) AllReadyH.nil
            go_simp
            refine hK.out _ _ (by exact unhide sx7) (fun hHeld => ?_)
            clear hK K
            refine wpAnyH_take (i := 16) (v := ?v16) rfl (by kernel_rfl) (by kernel_rfl) (by kernel_rfl) (fun _ _ _ h => h) (Or.inl ⟨by rfl, ?h16⟩) (by assumption) ?_
            case h16 => (intro w hSw; (try dsimp only at hSw); go_simp) <;> with_reducible rfl
            simp only [Act.put, List.getElem_toArray, List.getElem_cons_zero, List.getElem_cons_succ, List.setIfInBounds_toArray, List.set_cons_zero, List.set_cons_succ]
            refine wpAnyH_take (i := 17) (v := ?v17) rfl (by kernel_rfl) (by kernel_rfl) (by kernel_rfl) (fun _ _ _ h => h) (Or.inl ⟨by rfl, ?h17⟩) (by assumption) ?_
            case h17 => (intro w hSw; (try dsimp only at hSw); go_simp) <;> with_reducible rfl
            simp only [Act.put, List.getElem_toArray, List.getElem_cons_zero, List.getElem_cons_succ, List.setIfInBounds_toArray, List.set_cons_zero, List.set_cons_succ]
            refine wpAnyH_take (i := 18) (v := ?v18) rfl (by kernel_rfl) (by kernel_rfl) (by kernel_rfl) (fun _ _ _ h => h) (Or.inl ⟨by rfl, ?h18⟩) (by assumption) ?_
            case h18 => (intro w hSw; (try dsimp only at hSw); go_simp) <;> with_reducible rfl
            simp only [Act.put, List.getElem_toArray, List.getElem_cons_zero, List.getElem_cons_succ, List.setIfInBounds_toArray, List.set_cons_zero, List.set_cons_succ]
            refine wpAnyH_take (i := 19) (v := ?v19) rfl (by kernel_rfl) (by kernel_rfl) (by kernel_rfl) (fun _ _ _ h => h) (Or.inl ⟨by rfl, ?h19⟩) (by assumption) ?_
            case h19 => (intro w hSw; (try dsimp only at hSw); go_simp) <;> with_reducible rfl
            simp only [Act.put, List.getElem_toArray, List.getElem_cons_zero, List.getElem_cons_succ, List.setIfInBounds_toArray, List.set_cons_zero, List.set_cons_succ]
            refine wpAnyH_take (i := 20) (v := ?v20) rfl (by kernel_rfl) (by kernel_rfl) (by kernel_rfl) (fun _ _ _ h => h) (Or.inl ⟨by rfl, ?h20⟩) (by assumption) ?_
            case h20 => (intro w hSw; (try dsimp only at hSw); go_simp) <;> with_reducible rfl
            simp only [Act.put, List.getElem_toArray, List.getElem_cons_zero, List.getElem_cons_succ, List.setIfInBounds_toArray, List.set_cons_zero, List.set_cons_succ]
            refine wpAnyH_take (i := 21) (v := ?v21) rfl (by kernel_rfl) (by kernel_rfl) (by kernel_rfl) (fun _ _ _ h => h) (Or.inl ⟨by rfl, ?h21⟩) (by assumption) ?_
            case h21 => (intro w hSw; (try dsimp only at hSw); go_simp) <;> with_reducible rfl
            simp only [Act.put, List.getElem_toArray, List.getElem_cons_zero, List.getElem_cons_succ, List.setIfInBounds_toArray, List.set_cons_zero, List.set_cons_succ]
            refine wpAnyH_take (i := 22) (v := ?v22) rfl (by kernel_rfl) (by kernel_rfl) (by kernel_rfl) (fun _ _ _ h => h) (Or.inl ⟨by rfl, ?h22⟩) (by assumption) ?_
            case h22 => (intro w hSw; (try dsimp only at hSw); go_simp) <;> with_reducible rfl
            simp only [Act.put, List.getElem_toArray, List.getElem_cons_zero, List.getElem_cons_succ, List.setIfInBounds_toArray, List.set_cons_zero, List.set_cons_succ]
            refine wpAnyH_take (i := 23) (v := undef) rfl (by kernel_rfl) (by kernel_rfl) (by kernel_rfl) (fun _ _ _ h => h) (Or.inr ⟨by rfl, rfl⟩) (by assumption) ?_
            simp only [Act.put, List.getElem_toArray, List.getElem_cons_zero, List.getElem_cons_succ, List.setIfInBounds_toArray, List.set_cons_zero, List.set_cons_succ]
            refine wpAnyH_take (i := 24) (v := undef) rfl (by kernel_rfl) (by kernel_rfl) (by kernel_rfl) (fun _ _ _ h => h) (Or.inr ⟨by rfl, rfl⟩) (by assumption) ?_
            simp only [Act.put, List.getElem_toArray, List.getElem_cons_zero, List.getElem_cons_succ, List.setIfInBounds_toArray, List.set_cons_zero, List.set_cons_succ]
            refine wpAnyH_take (i := 25) (v := undef) rfl (by kernel_rfl) (by kernel_rfl) (by kernel_rfl) (fun _ _ _ h => h) (Or.inr ⟨by rfl, rfl⟩) (by assumption) ?_
            simp only [Act.put, List.getElem_toArray, List.getElem_cons_zero, List.getElem_cons_succ, List.setIfInBounds_toArray, List.set_cons_zero, List.set_cons_succ]
            refine wpAnyH_take (i := 26) (v := undef) rfl (by kernel_rfl) (by kernel_rfl) (by kernel_rfl) (fun _ _ _ h => h) (Or.inr ⟨by rfl, rfl⟩) (by assumption) ?_
            simp only [Act.put, List.getElem_toArray, List.getElem_cons_zero, List.getElem_cons_succ, List.setIfInBounds_toArray, List.set_cons_zero, List.set_cons_succ]
            refine wpAnyH_take (i := 27) (v := undef) rfl (by kernel_rfl) (by kernel_rfl) (by kernel_rfl) (fun _ _ _ h => h) (Or.inr ⟨by rfl, rfl⟩) (by assumption) ?_
            simp only [Act.put, List.getElem_toArray, List.getElem_cons_zero, List.getElem_cons_succ, List.setIfInBounds_toArray, List.set_cons_zero, List.set_cons_succ]
            refine wpAnyH_take (i := 28) (v := undef) rfl (by kernel_rfl) (by kernel_rfl) (by kernel_rfl) (fun _ _ _ h => h) (Or.inr ⟨by rfl, rfl⟩) (by assumption) ?_
            simp only [Act.put, List.getElem_toArray, List.getElem_cons_zero, List.getElem_cons_succ, List.setIfInBounds_toArray, List.set_cons_zero, List.set_cons_succ]
            refine wpAnyH_ready (rs := [29]) (by kernel_rfl) (by simp) ?_
            refine AllReadyH.cons rfl (fun K hK => ?_) AllReadyH.nil
            go_simp
            refine hK.out _ _ (by exact unhide sx7) (fun hHeld => ?_)
            clear hK K
            refine wpAnyH_take (i := 30) (v := undef) rfl (by kernel_rfl) (by kernel_rfl) (by kernel_rfl) (fun _ _ _ h => h) (Or.inr ⟨by rfl, rfl⟩) (by assumption) ?_
            simp only [Act.put, List.getElem_toArray, List.getElem_cons_zero, List.getElem_cons_succ, List.setIfInBounds_toArray, List.set_cons_zero, List.set_cons_succ]
            refine wpAnyH_take (i := 31) (v := ?v31) rfl (by kernel_rfl) (by kernel_rfl) (by kernel_rfl) (fun _ _ _ h => h) (Or.inl ⟨by rfl, ?h31⟩) (by assumption) ?_
            case h31 => (intro w hSw; (try dsimp only at hSw); go_simp) <;> with_reducible rfl
            simp only [Act.put, List.getElem_toArray, List.getElem_cons_zero, List.getElem_cons_succ, List.setIfInBounds_toArray, List.set_cons_zero, List.set_cons_succ]
            refine wpAnyH_take (i := 32) (v := ?v32) rfl (by kernel_rfl) (by kernel_rfl) (by kernel_rfl) (fun _ _ _ h => h) (Or.inl ⟨by rfl, ?h32⟩) (by assumption) ?_
            case h32 => (intro w hSw; (try dsimp only at hSw); go_simp) <;> with_reducible rfl
            simp only [Act.put, List.getElem_toArray, List.getElem_cons_zero, List.getElem_cons_succ, List.setIfInBounds_toArray, List.set_cons_zero, List.set_cons_succ]
            refine wpAnyH_done (by kernel_rfl) ?_ _
            go_wp2_with fail
            go_meet
            exact ⟨rfl, (unhide C7).1, unhide T7, (unhide C7).2⟩
        case rest =>
          obtain ⟨rfl, hcut2⟩ := hcut
          obtain ⟨hbe, hTe, hLe⟩ := unhide hcut2
          have HBE := hide hbe
          have HLE := hide hLe
          clear hcut2 hbe hLe HV HBK R2 hB5 j1 j2 j3 hT5 z2' HL HLB HQ HSZ HSEC
          go_wp2_with fail
          go_loop [8] (fun i => ∃ k : Nat, 1 ≤ k ∧ k ≤ l.length ∧ i = .int .i64 k) (fun i => l.length - (intOf i).toNat)
          case atStart => exact ⟨1, Nat.le_refl _, hd, rfl⟩
          case round =>
            obtain ⟨k, hk1, hk, rfl⟩ := hrel
            by_cases hlt : k < l.length
            · obtain ⟨ck, z0, z1⟩ := (unhide HLE) k hlt
              have htk := (unhide HTL) k hk1 hlt
              rw [isTail_cls] at htk
              have hcl : (cls (l.getD k 0) != 2) = false := by simpa using htk
              clear htk
              generalize l.getD k 0 = x at *
              go_wp2_with (go_at_call 10; refine (Class_any _ _ z0 z1 hTe).mono ?_; rintro e w' ⟨rfl, rfl⟩)
              go_round
              case rel =>
                refine ⟨trivial, ?_⟩
                repeat apply Exists.intro
                exact ⟨⟨k + 1, by omega, by omega, by go_num⟩, rfl⟩
              case measure => simp [intOf]; omega
            · go_wp2_with fail
              go_ret
              exact ⟨rfl, unhide HBE⟩

end Go.Proofs.YtgebpboimecdhaaDoor
