/- The walk of ScanCertain. -/
import Derived.Test.YthpbgeaajehlkaaDoorSmi
namespace Go.Proofs.YthpbgeaajehlkaaDoor
open Go.ChangeShapes Go.WideShapes Go.ChangeAt Go.RowKit

theorem Own.blk {w : World} {B : Nat} {l : List Int} {a : Option Addr} {n cap : Nat} (h : Own w B (.slice a n cap) l) : ∀ x, a = some x → B ≤ x.block ∧ x.block < w.heap.size := by
  intro x hx
  subst hx
  rcases h.2 with ⟨e, _⟩ | ⟨g, c, cur, e, hB, hg, _⟩
  · cases e
  · cases e
    exact ⟨hB, (Array.getElem?_eq_some_iff.1 hg).1⟩
/-- a copy of bytes, new -/
theorem copy_new (w : World) (a0 : Option Addr) (cap : Nat) (l : List Int) (hB : IsB w a0 cap l) :
    ∃ a' cap' w', (Builtin.append_ #[26, 26] 26 #[.slice (some ⟨w.heap.size, 0, none⟩) 0 0, .slice a0 l.length cap]).run Tryd.prog (w.alloc (.cells #[] 5)) = .ok (.slice a' l.length cap') w' ∧
      IsB w' a' cap' l ∧ (∀ x, a' = some x → w.heap.size ≤ x.block ∧ x.block < w'.heap.size) ∧ Below w.heap.size w w' := by
  obtain ⟨v, w', r, o, x⟩ := run_copy_own w a0 cap l 26 hB
  obtain ⟨a, c, rfl, hi⟩ := o.isB hB.2.2.2 hB.2.1
  exact ⟨a, c, w', r, hi, o.blk, x⟩

theorem fit_lo {h : List Int} (hp : prop h = true) : (mightV h).2.2 = true ∧ (mightV h).1 ≤ (mightV h).2.1 ∧ isTail (mightV h).1 = true ∧ isTail (mightV h).2.1 = true ∧ fits h (mightV h).1 = true := by
  rcases prop_cases hp with ⟨a, rfl, hn⟩ | ⟨a, b, rfl, hn, hs⟩ | ⟨a, b, d, rfl, hn, hs, ht⟩
  · have h1 := loA_in a
    have h2 := hiA_in a
    have h3 := lo_hi a
    refine ⟨rfl, h3, decide_eq_true ⟨h1.1, by show loA a < 192; omega⟩, decide_eq_true ⟨by show 128 ≤ hiA a; omega, by show hiA a < 192; omega⟩, ?_⟩
    show sec a (loA a) = true
    rw [sec_range hn]
    exact decide_eq_true ⟨Int.le_refl _, h3⟩
  · exact ⟨rfl, show (128 : Int) ≤ 191 by decide, show isTail 128 = true by decide, show isTail 191 = true by decide, show isTail 128 = true by decide⟩
  · exact ⟨rfl, show (128 : Int) ≤ 191 by decide, show isTail 128 = true by decide, show isTail 191 = true by decide, show isTail 128 = true by decide⟩
theorem fits_65 {h : List Int} (hp : prop h = true) : scanS h [65] = (List.replicate h.length badT ++ [(65, 1, true)], []) := by
  have hf : fits h 65 = false := Bool.eq_false_iff.2 fun hf => by
    have := fits_tail hf
    revert this; decide
  rw [scanS_broken hp hf]
  have : scanS [] [65] = ([(65, 1, true)], []) := by decide
  rw [this]
/-- one byte more that may stand there -/
theorem scan_lo {h : List Int} {x : Int} (hp : prop h = true) (hf : fits h x = true) :
    (need (h.getD 0 0) = (h.length : Int) + 1 ∧ scanS h [x] = ([(value (h ++ [x]), h.length + 1, true)], [])) ∨ (prop (h ++ [x]) = true ∧ scanS h [x] = ([], h ++ [x])) := by
  have hne : h ≠ [] := fun e => by subst e; cases hp
  by_cases hn : need (h.getD 0 0) = (h.length : Int) + 1
  · have e : stepS h x = ([(value (h ++ [x]), h.length + 1, true)], []) := by rw [stepS, if_neg hne, if_pos hf, if_pos hn]
    exact Or.inl ⟨hn, by simp [scanS, e]⟩
  · have e : stepS h x = ([], h ++ [x]) := by rw [stepS, if_neg hne, if_pos hf, if_neg hn]
    exact Or.inr ⟨(fit_prop hp hf hn).1, by simp [scanS, e]⟩

set_option maxRecDepth 100000 in
set_option maxHeartbeats 4000000 in
theorem ScanCertain_any (a0 : Option Addr) (cap : Nat) (l : List Int) (w : World) (hB : IsB w a0 cap l) (hcl : cap ≤ 1048576) (hT : Tab w) :
    Calls Tryd.prog 5 #[.slice a0 l.length cap] w fun e w' => e = .returned (.bool true) ∧ Below w.heap.size w w' := by
  have hll : l.length ≤ 1048576 := Nat.le_trans hB.1 hcl
  have hz := hT.size
  go_enter Tryd.func5, Tryd.ntmps5
  go_wp2_with fail
  refine (awake4_any w hT).mono ?_
  rintro e w1 ⟨rfl, b1⟩
  have z1 := b1.size
  have hT1 := hT.below b1 hz
  have hB1 := hB.below b1 (Nat.le_refl _)
  dsimp only
  go_wp2_with fail
  refine (New_at w1).mono ?_
  rintro e w2 ⟨gs, rfl, hgs, s2, b2⟩
  have z2 := b2.size
  dsimp only
  go_wp2_with fail
  refine (New_at w2).mono ?_
  rintro e w3 ⟨gt, rfl, hgt, t3, b3⟩
  have z3 := b3.size
  have hgs2 := s2.lt
  have hgt3 := t3.lt
  have s3 := s2.below b3 hgs2
  have hT3 := (hT1.below b2 (by omega)).below b3 (by omega)
  have hB3 := (hB1.below b2 (Nat.le_refl _)).below b3 (Nat.le_refl _)
  obtain ⟨a4, c4, w4, r4, i4, k4, b4⟩ := copy_new w3 a0 cap l hB3
  have z4 := b4.size
  have R4 := hide r4
  clear r4
  have HB := hide hB
  have HT := hide hT
  have S4 := hide (s3.below b4 (by omega))
  have T4 := hide (t3.below b4 hgt3)
  have BB := hide (b1.trans ((b2.mono (by omega)).trans ((b3.mono (by omega)).trans (b4.mono (by omega)))))
  have I4 := hide i4
  have K4 := hide k4
  clear hB hT hT1 hB1 s2 t3 s3 hT3 hB3 i4 k4 b1 b2 b3 b4
  dsimp only
  go_wp2_with (at_builtin; refine wpList_append_known rfl _ _ 26 26 rfl _ _ rfl rfl _ _ (unhide R4) ?_)
  refine (Feed_at gs [] l 0 a4 c4 w4 (unhide S4) (Or.inl rfl) ((unhide HT).below (unhide BB) hz) (unhide I4) (fun x hx => by have := unhide K4 x hx; omega) (by omega) (by decide) (by decide)).mono ?_
  rintro e w5 ⟨v5, rfl, _, s5, f5⟩
  have hH : Hel (scanS [] l).2 := scanS_hel l (Or.inl rfl)
  rw [Int.zero_add] at s5
  have z5 := f5.size
  have T5 := hide ((unhide T4).scf f5 (by omega) (by omega))
  have BB5 := hide ((unhide BB).trans ((f5.mono (by omega)).below (by omega)))
  obtain ⟨a6, c6, w6, r6, i6, k6, b6⟩ := copy_new w5 a0 cap l ((unhide HB).below (unhide BB5) (Nat.le_refl _))
  have z6 := b6.size
  have S6 := hide (s5.below b6 (by omega))
  have T6 := hide ((unhide T5).below b6 (by omega))
  have BB6 := hide ((unhide BB5).trans (b6.mono (by omega)))
  have R6 := hide r6
  have I6 := hide i6
  have K6 := hide k6
  clear r6 i6 k6 b6 s5 f5 S4 T4 BB I4 K4 R4 T5 BB5
  dsimp only
  go_wp2_with (at_builtin; refine wpList_append_known rfl _ _ 26 26 rfl _ _ rfl rfl _ _ (unhide R6) ?_)
  refine (Feed_at gt [] l 0 a6 c6 w6 (unhide T6) (Or.inl rfl) ((unhide HT).below (unhide BB6) hz) (unhide I6) (fun x hx => by have := unhide K6 x hx; omega) (by omega) (by decide) (by decide)).mono ?_
  rintro e w7 ⟨v7, rfl, _, t7, f7⟩
  rw [Int.zero_add] at t7
  have z7 := f7.size
  have S7 := hide ((unhide S6).scf f7 (by omega) (by omega))
  have T7 := hide t7
  have BB7 := hide ((unhide BB6).trans ((f7.mono (by omega)).below (by omega)))
  clear t7 f7 S6 T6 BB6 R6 I6 K6
  generalize (scanS [] l).2 = H at *
  dsimp only
  go_wp2_with fail
  refine (Held_at gs H _ w7 (unhide S7)).mono ?_
  rintro e w8 ⟨rfl, rfl⟩
  dsimp only
  by_cases h0 : H.length = 0
  · obtain rfl := List.length_eq_zero_iff.1 h0
    simp only [List.length_nil]
    go_wp2_with fail
    refine (Might_at gs [] _ _ (unhide S7) (Or.inl rfl) ((unhide HT).below (unhide BB7) hz)).mono ?_
    rintro e w9 ⟨rfl, n9, rfl⟩
    simp only [mightV]
    go_wp2_with fail
    go_ret
    exact ⟨rfl, Below.drewN (unhide BB7) n9⟩
  · have hp : prop H = true := by
      rcases hH with rfl | hp
      · simp at h0
      · exact hp
    have hl3 := (prop_len hp).2
    have e0 : ((H.length : Int) == 0) = false := by rw [beq_eq_false_iff_ne]; omega
    have hcv := conv_lit w8 #[.int .u8 65] 1
    go_wp2_with fail
    clear hcv
    have ba : Below w8.heap.size w8 (w8.alloc (.cells #[.int .u8 65] 5 (1, 2))) := (Below.refl _ _).alloc (Nat.le_refl _) _
    have za : (w8.alloc (.cells #[.int .u8 65] 5 (1, 2))).heap.size = w8.heap.size + 1 := by simp
    have HI : Hid (IsB (w8.alloc (.cells #[.int .u8 65] 5 (1, 2))) (some ⟨w8.heap.size, 0, none⟩) 1 [65]) := hide (lit_isB w8 [65] (1, 2) (by decide) (by decide))
    have Sa := hide ((unhide S7).below ba (by omega))
    have Ta := hide ((unhide T7).below ba (by omega))
    have BBa := hide ((unhide BB7).trans (ba.mono (by omega)))
    clear ba
    generalize (w8.alloc (.cells #[.int .u8 65] 5 (1, 2))) = wa at *
    refine (Feed_at gt H [65] _ (some ⟨w8.heap.size, 0, none⟩) 1 wa (unhide Ta) (Or.inr hp) ((unhide HT).below (unhide BBa) hz) (unhide HI) (fun a ha => by cases ha; exact ⟨by show w8.heap.size < _; omega, by show w8.heap.size ≠ gt; omega⟩) (by decide) (by omega) (by omega)).mono ?_
    rintro e wb ⟨vb, rfl, rb, _, fb⟩
    rw [fits_65 hp] at rb
    have zb := fb.size
    have Sb := hide ((unhide Sa).scf fb (by omega) (by omega))
    have BBb := hide ((unhide BBa).trans ((fb.mono (by omega)).below (by omega)))
    obtain ⟨ab, cb, rfl, kb, ib, _⟩ := rb.at
    have hlen : (List.replicate H.length badT ++ [(65, 1, true)]).length = H.length + 1 := by simp
    simp only [hlen] at kb
    rcases ib with ib | ⟨gb, rfl, hgb, ib⟩
    · simp at ib
    rw [hlen] at ib ⊢
    obtain ⟨p0, p1, p2⟩ := ib H.length (by omega)
    have hgl : (List.replicate H.length badT ++ [((65 : Int), (1 : Nat), true)]).getD H.length badT = (65, 1, true) := by simp [List.getD]
    rw [hgl] at p0 p1 p2
    have IB : Hid (∀ k, k < H.length → wb.cell? ⟨gb, k * 3, none⟩ = some (.int .i32 65533) ∧ wb.cell? ⟨gb, k * 3 + 1, none⟩ = some (.int .i64 1) ∧ wb.cell? ⟨gb, k * 3 + 2, none⟩ = some (.bool false)) := hide (fun k hk => by
      have h1 := ib k (by omega)
      have h2 : (List.replicate H.length badT ++ [((65 : Int), (1 : Nat), true)]).getD k badT = badT := by
        simp [List.getD, List.getElem?_append_left (show k < (List.replicate H.length badT).length by simpa using hk), hk]
      rw [h2] at h1
      exact h1)
    clear ib rb fb hlen hgl HI Sa Ta BBa S7 T7 BB7
    have HP := hide hp
    clear hp hH
    dsimp only
    go_wp2_with fail
    go_loopw [10] (fun i wx => ∃ k : Nat, i = .int .i64 k ∧ k ≤ H.length ∧ wx = wb) (fun i _ => H.length - (intOf i).toNat)
    case atStart => exact ⟨0, rfl, Nat.zero_le _, rfl⟩
    case round =>
      obtain ⟨k, rfl, hk, rfl⟩ := hrel
      by_cases hlt : k < H.length
      · obtain ⟨q0, q1, q2⟩ := unhide IB k hlt
        go_wp2_with fail
        go_roundw
        case rel => exact ⟨k + 1, by go_num, by omega, by first | rfl | trivial⟩
        case measure => simp [intOf]; omega
      · obtain rfl : k = H.length := by omega
        clear p0 p1 p2 IB
        go_wp2_with fail
        have HPS := HP
        go_loopw [5, 11] (fun n k wx => ∃ (h : List Int) (j : Nat), n = .int .i64 h.length ∧ k = .int .i64 j ∧ h.length = H.length + j ∧ Hid (prop h = true) ∧ Hid (Sca wx gs h ((l.length : Int) + j)) ∧ Hid (Below w.heap.size w wx)) (fun _ k _ => 3 - (intOf k).toNat)
        case atStart => exact ⟨H, 0, rfl, rfl, rfl, HP, by simpa using Sb, BBb⟩
        case round =>
          obtain ⟨h, j, rfl, rfl, hj, HPh, Sx, BBx⟩ := hrel
          have hh3 := (prop_len (unhide HPh)).2
          have hj3 : j < 3 := by omega
          obtain ⟨m1, m2, m3, m4, m5⟩ := fit_lo (unhide HPh)
          have HM := hide (Might_at gs h _ _ (unhide Sx) (Or.inr (unhide HPh)) ((unhide HT).below (unhide BBx) hz))
          generalize mightV h = mv at *
          obtain ⟨lo, hi, ok⟩ := mv
          simp only at m1 m2 m3 m4 m5
          subst m1
          have HJ := hide hj
          clear hj
          have M5 := hide m5
          rw [isTail_cls] at m3 m4
          simp only [Bool.not_eq_true'] at m3 m4
          have hlo : 128 ≤ lo ∧ lo < 192 := by
            have := fits_tail m5
            simpa [isTail] using this
          have hhi : 128 ≤ hi ∧ hi < 192 := by
            have := (cls_tail hi).mp (by simpa using m4)
            exact this
          have e1 : decide (hi < lo) = false := decide_eq_false (by omega)
          have e2 : decide (lo > hi) = false := decide_eq_false (by omega)
          have hgx := (unhide Sx).lt
          clear m5
          go_wp2_with fail
          refine (unhide HM).mono ?_
          rintro e wm ⟨rfl, nm, rfl⟩
          dsimp only
          have hTm : Tab (wr.drewN nm) := (unhide HT).below (Below.drewN (unhide BBx) nm) hz
          have Sm := hide ((unhide Sx).drewN nm)
          have BBm := hide (Below.drewN (unhide BBx) nm)
          have hgm : gs < (wr.drewN nm).heap.size := hgx
          clear HM Sx BBx
          generalize wr.drewN nm = wm at *
          have HTm := hide hTm
          clear hTm
          go_wp2_with (first
            | (go_at_call 19; refine (Class_any _ _ (by omega) (by omega) (unhide HTm)).mono ?_; rintro e w9 ⟨rfl, rfl⟩; dsimp only)
            | fail)
          have ba : Below w9.heap.size w9 (w9.alloc (.cells #[.int .u8 lo] 5)) := (Below.refl _ _).alloc (Nat.le_refl _) _
          have za : (w9.alloc (.cells #[.int .u8 lo] 5)).heap.size = w9.heap.size + 1 := by simp
          have HI : Hid (IsB (w9.alloc (.cells #[.int .u8 lo] 5)) (some ⟨w9.heap.size, 0, none⟩) 1 [lo]) := hide (lit_isB w9 [lo] (0, 0) (by intro x hx; simp at hx; omega) (by simp))
          have Sa := hide ((unhide Sm).below ba (by omega))
          have BBa := hide ((unhide BBm).trans (ba.mono (unhide BBm).size))
          clear ba
          generalize (w9.alloc (.cells #[.int .u8 lo] 5)) = wa at *
          have hzm := (unhide BBm).size
          refine (Feed_at gs h [lo] _ (some ⟨w9.heap.size, 0, none⟩) 1 wa (unhide Sa) (Or.inr (unhide HPh)) ((unhide HT).below (unhide BBa) hz) (unhide HI) (fun a ha => by cases ha; exact ⟨by show w9.heap.size < _; omega, by show w9.heap.size ≠ gs; omega⟩) (by simp) (by omega) (by omega)).mono ?_
          rintro e wc ⟨vc, rfl, rc, sc, fc⟩
          have BBc := hide ((unhide BBa).trans ((fc.mono (by omega)).below (by omega)))
          have hHJ := unhide HJ
          rcases scan_lo (unhide HPh) (unhide M5) with ⟨_, es⟩ | ⟨hpn, es⟩
          · rw [es] at rc sc
            have Sc := hide sc
            obtain ⟨ab, cb, rfl, kb, ib, _⟩ := rc.at
            rcases ib with ib | ⟨gq, rfl, hgq, ib⟩
            · cases ib
            obtain ⟨p0, p1, p2⟩ := ib 0 (by simp)
            simp only [List.getD, List.getElem?_cons_zero, Option.getD_some, Nat.zero_mul, Nat.zero_add, List.length_cons, List.length_nil] at p0 p1 p2 kb
            clear ib rc sc fc hHJ Sa BBa BBm Sm
            dsimp only [List.length_cons, List.length_nil]
            go_wp2_with (first
              | (go_at_call 16; refine (Held_at gs [] _ _ (unhide Sc)).mono ?_; rintro e w9 ⟨rfl, rfl⟩; dsimp only)
              | fail)
            go_ret
            exact ⟨rfl, unhide BBc⟩
          · rw [es] at rc sc
            have Sc := hide sc
            obtain ⟨ab, cb, rfl, kb, ib, _⟩ := rc.at
            have hnl : (h ++ [lo]).length = h.length + 1 := by simp
            have HPn := hide hpn
            have en : (((h ++ [lo]).length : Int) != (h.length : Int) + 1) = false := by rw [hnl]; simp
            clear ib rc sc fc hHJ Sa BBa BBm Sm hnl hpn
            dsimp only [List.length_nil]
            go_wp2_with (first
              | (go_at_call 16; refine (Held_at gs (h ++ [lo]) _ _ (unhide Sc)).mono ?_; rintro e w9 ⟨rfl, rfl⟩; dsimp only)
              | fail)
            have hHJ := unhide HJ
            have hnl : (h ++ [lo]).length = h.length + 1 := by simp
            have ef : ((l.length : Int) + (j : Int) + (([lo] : List Int).length : Int)) = (l.length : Int) + ((j + 1 : Nat) : Int) := by simp; omega
            rw [ef] at Sc
            exact ⟨⟨h ++ [lo], j + 1, by rw [hnl]; rfl, rfl, by omega, HPn, Sc, BBc⟩, by simp [intOf]; omega⟩
end Go.Proofs.YthpbgeaajehlkaaDoor
