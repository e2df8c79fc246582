/- The walk of OctetOwn: it answers true wherever the table holds the classes, and changes nothing that was there. -/
import Derived.Test.YtgebpboimecdhabDoorOwnR
import Derived.Test.YtgebpboimecdhabDoorRefB
namespace Go.Proofs.YtgebpboimecdhabDoor
open Go.ChangeShapes Go.WideShapes Go.ChangeAt Go.RowKit

theorem RBytes_new (r : Int) (w : World) (h0 : -2147483648 ≤ r) (h1 : r ≤ 2147483647) :
    Calls Tryd.prog 8 #[.int .i32 r] w fun e w' => ∃ g, e = .returned (.slice (some ⟨g, 0, none⟩) (enc r).length (enc r).length) ∧ Lies w' g 0 (enc r) ∧ w.heap.size ≤ g ∧ g < w'.heap.size ∧ Below w.heap.size w w' :=
  (RBytes_any r w h0 h1).mono fun e w' h => by
    obtain ⟨rfl, rfl⟩ := h
    exact ⟨w.heap.size, rfl, lies_made w _ (enc_bytes r), Nat.le_refl _, by rw [made_size]; omega, Below.made (Below.refl _ _) (Nat.le_refl _) _⟩

set_option maxHeartbeats 1000000 in
theorem OctetOwn_any (a0 : Option Addr) (cap : Nat) (l : List Int) (r : Int) (w : World) (hB : IsB w a0 cap l) (wr : (Lit.int .i32 r).wf = true) (hT : Tab w) :
    Calls Tryd.prog 3 #[.slice a0 l.length cap, .int .i32 r] w fun e w' => e = .returned (.bool true) ∧ Below w.heap.size w w' := by
  obtain ⟨h0, h1⟩ := bounds_i32 wr
  have hlc := hB.1
  have hcb := hB.2.1
  have hlb := hB.2.2.2
  have HLB := hide hlb
  have HB0 := hide hB
  have hm : l.length ≤ maxLen := by unfold maxLen; omega
  clear wr hlb
  go_enter Tryd.func3, Tryd.ntmps3
  go_wp2_with (first
    | (go_at_call 4; refine (awake_any _ hT).mono ?_; rintro e w1 ⟨rfl, b1⟩; obtain ⟨v1, w2, r1, o1, z1⟩ := run_copy_own w1 a0 cap l 22 (hB.below b1 (Nat.le_refl _)); obtain ⟨g2, c2, w3, r2, o2, z2, f1, f2, f3⟩ := run_push w2 w1.heap.size v1 l 7 22 o1 (by omega) z1.size; have i1 : (l.length : Int) ≤ (c2 : Int) := (by omega); have R1 := hide r1; clear r1; have R2 := hide r2; clear r2; have tok : True := trivial)
    | (at_builtin; have _t := tok; refine wpList_append_known rfl _ _ 22 22 rfl _ _ rfl rfl _ _ (unhide R1) ?_; clear tok)
    | (at_builtin; refine wpList_append_known rfl _ _ 22 22 rfl _ _ rfl rfl _ _ (unhide R2) ?_))
  have hT1 := hT.below b1 hT.size
  have hB1 := hB.below b1 (Nat.le_refl _)
  have bx : Below w1.heap.size w1 w3 := (z1.alloc z1.size _).grown z2 (by have := z1.size; simp; omega) (fun k hk => (World.ownsRow.lt o1 k hk).1)
  have hT3 := hT1.below bx hT1.size
  have hB3 := hB1.below bx (Nat.le_refl _)
  have lf : Lies w3 g2 0 (l ++ [7]) := o2.lies (by intro x hx; rcases List.mem_append.1 hx with h | h; exact unhide HLB x h; simp at h; omega)
  have hc2 : l.length ≤ c2 := by omega
  have hb3 := b1.trans (bx.mono b1.size)
  have s3 := hb3.size
  clear b1 bx hT hT1 hB hB1 o1 z1 z2 R1 R2 o2 f3 f1
  refine (Whole_at (some ⟨g2, 0, none⟩) c2 l w3 hm hc2 (Or.inr ⟨g2, 0, rfl, lf.pre⟩) hT3).mono ?_
  rintro e w4 ⟨rfl, q4⟩
  have b4 := quiet_below q4 w3.heap.size
  have hT4 := hT3.below b4 hT3.size
  have hB4 := hB3.below b4 (Nat.le_refl _)
  have lf4 := lf.below b4 f2
  have hb4 := hb3.trans (b4.mono s3)
  have f24 := Nat.lt_of_lt_of_le f2 b4.size
  have s4 := hb4.size
  clear q4 b4 hT3 hB3 lf hb3 s3 f2
  go_wp2_with fail
  refine (Value_at (some ⟨g2, 0, none⟩) c2 l w4 hm hc2 (Or.inr ⟨g2, 0, rfl, lf4.pre⟩) hT4).mono ?_
  rintro e w5 ⟨rfl, q5⟩
  have b5 := quiet_below q5 w4.heap.size
  have hT5 := hT4.below b5 hT4.size
  have hB5 := hB4.below b5 (Nat.le_refl _)
  have lf5 := lf4.below b5 f24
  have hb5 := hb4.trans (b5.mono s4)
  have f25 := Nat.lt_of_lt_of_le f24 b5.size
  have s5 := hb5.size
  clear q5 b5 hT4 hB4 lf4 hb4 s4 f24
  go_wp2_with fail
  refine (Bytes_own r w5 h0 h1).mono ?_
  rintro e w6 ⟨gx, rfl, ox, lx, sx, tx, b6⟩
  have hB6 := hB5.below b6 (Nat.le_refl _)
  have lf6 := lf5.below b6 f25
  have hb6 := hb5.trans (b6.mono s5)
  have s6 := b6.size
  have nx : g2 ≠ gx := by omega
  clear b6 hT5 hB5 lf5 hb5 lx
  go_wp2_with fail
  refine (Bytes_own r w6 h0 h1).mono ?_
  rintro e w7 ⟨gy, rfl, oy, ly, sy, ty, b7⟩
  have hB7 := hB6.below b7 (Nat.le_refl _)
  have lf7 := lf6.below b7 (by omega)
  have hb7 := hb6.trans (b7.mono (by omega))
  have ox7 : Own w7 w5.heap.size (.slice (some ⟨gx, 0, none⟩) (enc r).length (enc r).length) (enc r) := ox.kept (row := none) ⟨b7.os, b7.tape, b7.output, b7.size, fun k hk _ => b7.block k hk⟩ (Or.inr (by simp [Value.ownBlock]))
  have s7 := b7.size
  have ny : gy ≠ gx := by omega
  clear b7 hB6 lf6 hb6 ox oy
  go_wp2_with fail
  refine (RBytes_new r w7 h0 h1).mono ?_
  rintro e w8 ⟨gw, rfl, lw, sw, tw, b8⟩
  have hB8 := hB7.below b8 (Nat.le_refl _)
  have lf8 := lf7.below b8 (by omega)
  have ly8 := ly.below b8 ty
  have hb8 := hb7.trans (b8.mono (by omega))
  have ox8 : Own w8 w5.heap.size (.slice (some ⟨gx, 0, none⟩) (enc r).length (enc r).length) (enc r) := ox7.kept (row := none) ⟨b8.os, b8.tape, b8.output, b8.size, fun k hk _ => b8.block k hk⟩ (Or.inr (by simp [Value.ownBlock]))
  have s8 := b8.size
  have kw := str_lies w8 gw 0 (enc r).length (enc r) lw
  clear b8 hB7 lf7 ly hb7 ox7 lw
  go_wp2_with fail
  obtain ⟨e0, e1⟩ : 1 ≤ (enc r).length ∧ (enc r).length ≤ 4 := enc_cases r (p := fun l => 1 ≤ l.length ∧ l.length ≤ 4) (by simp) (by simp) (by simp) (by simp) (by simp)
  have HO := hide ox8
  have HLY := hide ly8
  have HBO := hide (fun W => Bytes_own r W h0 h1)
  have HEB := hide (enc_bytes r)
  clear kw ox8 ly8 h0 h1
  generalize enc r = le at *
  go_loopw [38] (fun i wx => ∃ k : Nat, k ≤ le.length ∧ i = .int .i64 k ∧ w8.grownBy wx (some gx) ∧ ∃ xs : List Int, xs.length = le.length ∧ Own wx w5.heap.size (.slice (some ⟨gx, 0, none⟩) le.length le.length) xs) (fun i _ => le.length - (intOf i).toNat)
  case atStart => exact ⟨0, Nat.zero_le _, rfl, grown_refl _ _, le, rfl, unhide HO⟩
  case round =>
    obtain ⟨k, hk, rfl, hgr, xs, hxl, hox⟩ := hrel
    have HX := hide hxl
    have HG := hide hgr
    have HOX := hide hox
    clear hxl hgr
    by_cases hlt : k < le.length
    · obtain ⟨c1, c2⟩ := hox.cell k (by rw [unhide HX]; exact hlt)
      obtain ⟨u, hu⟩ := Option.isSome_iff_exists.1 c1
      clear c1 hox
      go_wp2_with fail
      go_roundw
      case rel => exact ⟨k + 1, by omega, by go_num, grown_trans (unhide HG) (grown_set _ _ _ _) (fun j e => Or.inl (by cases e; rfl)), xs.set k 120, by simp [unhide HX], (unhide HOX).set k 120⟩
      case measure => simp [intOf]; omega
    · clear hox
      go_wp2_with fail
      obtain ⟨wo, rfl⟩ : ∃ wo : World, wo = wr := ⟨_, rfl⟩
      go_loopw [6, 10] (fun x i wy => ∃ j : Nat, j ≤ 20 ∧ i = .int .i64 j ∧ w8.grownBy wy (some gx) ∧ ∃ ys : List Int, ys.length ≤ 4 + j ∧ Own wy w5.heap.size x ys ∧ (x.ownBlock = some gx ∨ ∃ q, x.ownBlock = some q ∧ w8.heap.size ≤ q)) (fun _ i _ => 20 - (intOf i).toNat)
      case atStart => exact ⟨0, Nat.zero_le _, rfl, unhide HG, xs, by rw [unhide HX]; omega, unhide HOX, Or.inl rfl⟩
      case round =>
        rename_i xv _
        obtain ⟨j, hj, rfl, hgy, ys, hyl, hoy, hyb⟩ := hrel
        have szy := hgy.size
        by_cases hjl : j < 20
        · obtain ⟨g3, c3, w9, r3, o3, z3, f3, f4, f5⟩ := run_push wr w5.heap.size _ ys 121 22 hoy (by omega) (by omega)
          have hgn : w8.grownBy w9 (some gx) := grown_trans (grown_trans hgy (World.grownBy_alloc _ _ none) (fun q e => by cases e)) z3 (fun q e => by
            rcases hyb with h | ⟨q', h, hq⟩
            · rw [h] at e; cases e; exact Or.inl rfl
            · rw [h] at e; cases e; exact Or.inr hq)
          have hbn : g3 = gx ∨ w8.heap.size ≤ g3 := by
            rcases f3 with h | h
            · rcases hyb with h' | ⟨q', h', hq⟩
              · rw [h'] at h; cases h; exact Or.inl rfl
              · rw [h'] at h; cases h; exact Or.inr hq
            · right; omega
          have HGN := hide hgn
          have HBN := hide hbn
          have R3 := hide r3
          clear r3 hgn hbn hgy hoy hyb z3 f3
          go_wp2_with (at_builtin; refine wpList_append_known rfl _ _ 22 22 rfl _ _ rfl rfl _ _ (unhide R3) ?_)
          go_roundw
          case rel =>
            refine ⟨j + 1, by omega, by go_num, unhide HGN, ys ++ [121], by simp; omega, o3, ?_⟩
            rcases unhide HBN with h | h
            · exact Or.inl (by rw [← h]; rfl)
            · exact Or.inr ⟨g3, rfl, h⟩
          case measure => simp [intOf]; omega
        · clear hoy hyb
          have HGY := hide hgy
          have hbY := hb8.grown hgy (by omega) (fun q e => by cases e; omega)
          have lfY := lf8.grown hgy (by simpa using nx)
          have lyY := (unhide HLY).grown hgy (by simpa using ny)
          clear hgy
          go_wp2_with fail
          refine (unhide HBO wr).mono ?_
          rintro e wz ⟨gz, rfl, oz, lz, sz, tz, bz⟩
          have hbz := hbY.trans (bz.mono (by omega))
          have lfz := lfY.below bz (by omega)
          have lyz := lyY.below bz (by omega)
          have hBz := (unhide HB0).below hbz (Nat.le_refl _)
          have kf : ∀ m, (convert 22 9 (.slice (some ⟨g2, 0, none⟩) l.length c2)).run Tryd.prog (wz.drewN m) = .ok (.string (strOfNums l)) (wz.drewN m) := fun m => str_lies (wz.drewN m) g2 0 c2 l lfz.pre
          have kb : ∀ m, (convert 22 9 (.slice a0 l.length cap)).run Tryd.prog (wz.drewN m) = .ok (.string (strOfNums l)) (wz.drewN m) := fun m => str_bs (wz.drewN m) a0 cap l hBz.2.2.1
          have ky : ∀ m, (convert 22 9 (.slice (some ⟨gy, 0, none⟩) le.length le.length)).run Tryd.prog (wz.drewN m) = .ok (.string (strOfNums le)) (wz.drewN m) := fun m => str_lies (wz.drewN m) gy 0 le.length le lyz
          have kz : ∀ m, (convert 22 9 (.slice (some ⟨gz, 0, none⟩) le.length le.length)).run Tryd.prog (wz.drewN m) = .ok (.string (strOfNums le)) (wz.drewN m) := fun m => str_lies (wz.drewN m) gz 0 le.length le lz
          have k7 := (lfz l.length (by simp)).1
          rw [show (l ++ [(7 : Int)]).getD l.length (0 : Int) = (7 : Int) by simp [List.getD], Nat.zero_add] at k7
          have i2 : (l.length : Int) < (l.length : Int) + 1 := by omega
          clear lfz lyz hBz oz lz hbY lfY lyY hb8 lf8 hB8 bz
          go_wp2_with fail
          go_quiet (fail)
          go_wp2_with fail
          go_ret
          exact ⟨rfl, Below.drewN hbz _⟩

end Go.Proofs.YtgebpboimecdhabDoor
