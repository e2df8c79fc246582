/- The walk of StepTiles, for arguments under the bound: it answers true wherever the table holds the classes, and changes nothing that was there. -/
import Derived.Test.YtffancemlpoebaaDoorLst
import Derived.Deep.DeepCutAuto
import Derived.Deep.Light
namespace Go.Proofs.YtffancemlpoebaaDoor
open Go.ChangeShapes Go.WideShapes Go.ChangeAt Go.RowKit

/-- what stays while the lists are gone over -/
structure TW (w : World) (a0 : Option Addr) (cap : Nat) (l : List Int) (a1 a2 : Option Addr) (wx : World) : Prop where
  isB : IsB wx a0 cap l
  tab : Tab wx
  pi : IntsAt wx a1 (spots l 0)
  si : StepsAt wx l a2 (spots l 0)
  below : Below w.heap.size w wx
theorem TW.on {w : World} {a0 : Option Addr} {cap : Nat} {l : List Int} {a1 a2 : Option Addr} {wx wy : World} (h : TW w a0 cap l a1 a2 wx) (hb : Below wx.heap.size wx wy) : TW w a0 cap l a1 a2 wy :=
  ⟨h.isB.below hb (Nat.le_refl _), h.tab.below hb h.tab.size, h.pi.below hb (Nat.le_refl _), h.si.below hb (Nat.le_refl _), h.below.trans (hb.mono h.below.size)⟩

theorem gone_all (a0 : Option Addr) (cap : Nat) (l : List Int) (w : World) (hB : IsB w a0 cap l) (hT : Tab w) (hl : l.length ≤ 1048576) :
    Calls Tryd.prog 23 #[.func (.func 31) #[] #[.pointer (some ⟨w.heap.size, 0, none⟩)]] (w.alloc (.cells #[.string (strOfNums l)] 9)) fun e w' =>
      ∃ a1 c1 a2 c2, e = .returned (.tuple #[.slice a1 (spots l 0).length c1, .slice a2 (spots l 0).length c2]) ∧ (spots l 0).length ≤ c1 ∧ (spots l 0).length ≤ c2 ∧ IntsAt w' a1 (spots l 0) ∧ StepsAt w' l a2 (spots l 0) ∧ Below (w.heap.size + 1) (w.alloc (.cells #[.string (strOfNums l)] 9)) w' := by
  have hc : (w.alloc (.cells #[.string (strOfNums l)] 9)).cell? ⟨w.heap.size, 0, none⟩ = some (.string (strOfNums l)) := (World.cell?_alloc_mark w _ _ (0, 0) 0).trans rfl
  have hs : (w.alloc (.cells #[.string (strOfNums l)] 9)).heap.size = w.heap.size + 1 := by simp
  have := spots_le l
  have hst := all_stops w.heap.size (w.heap.size + 1) l (w.alloc (.cells #[.string (strOfNums l)] 9)) hc (by omega) (by omega) (hT.alloc _) (by omega) (by unfold maxLen; omega) hB.2.2.2
  rw [← hs] at hst
  refine (gone_at 31 _ l (spots l 0) _ (enters_of Tryd.func31 (by kernel_rfl) rfl) hst (by omega)).mono ?_
  rintro e w' ⟨vp, vs, rfl, hp, hv, hb⟩
  obtain ⟨a1, c1, rfl, h1, h2⟩ := ints_at hp
  obtain ⟨a2, c2, rfl, h3, h4⟩ := steps_at hv
  exact ⟨a1, c1, a2, c2, rfl, h1, h3, h2, h4, by rw [← hs]; exact hb⟩

theorem Floor_is (a0 : Option Addr) (cap : Nat) (p : Int) (l : List Int) {v : Value} (w : World) (hB : IsB w a0 cap l) (hT : Tab w) (hv : floorV l p = v) :
    Calls Tryd.prog 18 #[.slice a0 l.length cap, .int .i64 p] w fun e w' => e = .returned v ∧ Below w.heap.size w w' := by
  subst hv; exact Floor_at a0 cap p l w hB hT
theorem Ceil_is (a0 : Option Addr) (cap : Nat) (p : Int) (l : List Int) {v : Value} (w : World) (hB : IsB w a0 cap l) (hT : Tab w) (hv : ceilV l p = v) :
    Calls Tryd.prog 20 #[.slice a0 l.length cap, .int .i64 p] w fun e w' => e = .returned v ∧ Below w.heap.size w w' := by
  subst hv; exact Ceil_at a0 cap p l w hB hT
theorem Edge_is (a0 : Option Addr) (cap : Nat) (p : Int) (l : List Int) {v : Bool} (w : World) (hB : IsB w a0 cap l) (hT : Tab w) (hv : edgeB l p = v) :
    Calls Tryd.prog 16 #[.slice a0 l.length cap, .int .i64 p] w fun e w' => e = .returned (.bool v) ∧ Below w.heap.size w w' := by
  subst hv; exact Edge_at a0 cap p l w hB hT
theorem At_is (a0 : Option Addr) (cap : Nat) (p : Int) (l : List Int) {v : Value} (w : World) (hB : IsB w a0 cap l) (hT : Tab w) (hv : atV l p = v) :
    Calls Tryd.prog 12 #[.slice a0 l.length cap, .int .i64 p] w fun e w' => e = .returned v ∧ Below w.heap.size w w' := by
  subst hv; exact At_at a0 cap p l w hB hT
theorem Before_is (a0 : Option Addr) (cap : Nat) (p : Int) (l : List Int) {v : Value} (w : World) (hB : IsB w a0 cap l) (hT : Tab w) (hv : beforeV l p = v) :
    Calls Tryd.prog 14 #[.slice a0 l.length cap, .int .i64 p] w fun e w' => e = .returned v ∧ Below w.heap.size w w' := by
  subst hv; exact Before_at a0 cap p l w hB hT

theorem step_ways {l : List Int} {p : Nat} (hp : p < l.length) : 1 ≤ wid (l.drop p) ∧ wid (l.drop p) ≤ 4 ∧ (whl (l.drop p) = true ∨ whl (l.drop p) = false ∧ (first (l.drop p)).1 = 65533 ∧ wid (l.drop p) = 1) := by
  refine ⟨wid_pos hp, wid_four _, ?_⟩
  by_cases h : lng (l.drop p) = 0
  · right
    have := stp_bad' h
    simp only [stp, stepV, Value.agg.injEq, Array.mk.injEq, List.cons.injEq, Value.int.injEq, Value.bool.injEq, true_and, and_true] at this
    exact ⟨this.2.2, this.1, by omega⟩
  · left; simp [whl, h]

set_option maxRecDepth 100000 in
set_option maxHeartbeats 4000000 in
theorem StepTiles_any (a0 : Option Addr) (cap : Nat) (l : List Int) (w : World) (hB : IsB w a0 cap l) (qb : cap ≤ 1048576) (hT : Tab w) :
    Calls Tryd.prog 7 #[.slice a0 l.length cap] w fun e w' => e = .returned (.bool true) ∧ Below w.heap.size w w' := by
  have lB : l.length ≤ 1048576 := Nat.le_trans hB.1 qb
  go_enter Tryd.func7, Tryd.ntmps7
  go_wp2_with fail
  refine (fixed_any w hT).mono ?_
  rintro e w1 ⟨rfl, x1⟩
  have hB1 := hB.below x1 (Nat.le_refl _)
  have hT1 := hT.below x1 hT.size
  clear hB hT
  go_wp2_with fail
  refine (All_at a0 cap l w1 hB1).mono ?_
  rintro e w2 ⟨rfl, rfl⟩
  go_wp2_with fail
  refine (gone_all a0 cap l w1 hB1 hT1 lB).mono ?_
  rintro e w3 ⟨a1, c1, a2, c2, rfl, k1, k2, hi, hs, x3⟩
  have d1 := (Below.refl w1.heap.size w1).alloc (Nat.le_refl _) (.cells #[.string (strOfNums l)] 9)
  have x13 := d1.trans (x3.mono (by omega))
  have tw : TW w a0 cap l a1 a2 w3 := ⟨hB1.below x13 (Nat.le_refl _), hT1.below x13 hT1.size, hi, hs, x1.trans (x13.mono x1.size)⟩
  have hnl := spots_le l
  clear hB1 hT1 x1 hi hs x3 d1 x13
  generalize w1.heap.size = g1
  go_wp2_with fail
  generalize hn : (spots l 0).length = n at *
  have HN := hide hn
  clear hn
  go_loopw [27, 5] (fun i at_ wx => ∃ (pre : List Nat) (p : Nat), i = .int .i64 pre.length ∧ at_ = .int .i64 p ∧ p ≤ l.length ∧ inside l p = false ∧ Hid (spots l 0 = pre ++ spots l p) ∧ TW w a0 cap l a1 a2 wx) (fun i _ _ => n - (intOf i).toNat)
  case atStart => exact ⟨[], 0, rfl, rfl, Nat.zero_le _, edge_zero l, rfl, tw⟩
  case round =>
    obtain ⟨pre, p, rfl, rfl, hpl, he, hsp, tx⟩ := hrel
    clear tw
    by_cases hp : p < l.length
    · obtain ⟨hk, hg⟩ := spots_get (unhide hsp) hp
      rw [unhide HN] at hk
      obtain ⟨v1, v4, vw⟩ := step_ways hp
      have hwl := wid_len hp
      have HE := hide he
      clear he
      obtain ⟨gi, rfl, gil, gic⟩ : ∃ g, a1 = some ⟨g, 0, none⟩ ∧ g < wr.heap.size ∧ wr.cell? ⟨g, pre.length, none⟩ = some (.int .i64 (p : Nat)) := by
        rcases tx.pi with h | ⟨g, h1, h2, h3⟩
        · have := unhide HN; rw [h] at this; simp at this; omega
        · exact ⟨g, h1, h2, by rw [h3 _ (by rw [unhide HN]; exact hk), hg]⟩
      obtain ⟨gs, rfl, gsl, gs0, gs1, gs2⟩ : ∃ g, a2 = some ⟨g, 0, none⟩ ∧ g < wr.heap.size ∧ wr.cell? ⟨g, pre.length * 3, none⟩ = some (.int .i32 (first (l.drop p)).1) ∧ wr.cell? ⟨g, pre.length * 3 + 1, none⟩ = some (.int .i64 (wid (l.drop p))) ∧ wr.cell? ⟨g, pre.length * 3 + 2, none⟩ = some (.bool (whl (l.drop p))) := by
        rcases tx.si with h | ⟨g, h1, h2, h3⟩
        · have := unhide HN; rw [h] at this; simp at this; omega
        · have := h3 pre.length (by rw [unhide HN]; exact hk)
          rw [hg] at this
          exact ⟨g, h1, h2, this⟩
      generalize hr1 : (first (l.drop p)).1 = r at *
      generalize hr2 : wid (l.drop p) = wd at *
      generalize hr3 : whl (l.drop p) = wh at *
      have HR := hide (And.intro hr1 (And.intro hr2 hr3))
      clear hr1 hr2 hr3 hg
      generalize hpre : pre.length = k at *
      have HPRE := hide hpre
      clear hpre
      have e1 : decide ((wd : Int) < 1) = false := decide_eq_false (by omega)
      have e4 : decide (4 < (wd : Int)) = false := decide_eq_false (by omega)
      have d1 := (Below.refl wr.heap.size wr).alloc (Nat.le_refl _) (.cells #[.int .i32 r, .int .i64 wd, .bool wh] 30)
      have ty := tx.on d1
      have t3 := three_new wr (.int .i32 r) (.int .i64 wd) (.bool wh) (t := 30)
      have z1 : wr.heap.size < (wr.alloc (.cells #[.int .i32 r, .int .i64 wd, .bool wh] 30)).heap.size := by simp
      go_upto_region 8 with fail
      go_cut [62] (fun c wz => c = .bool false ∧ Hid (Three wz wr.heap.size (.int .i32 r) (.int .i64 wd) (.bool wh) ∧ wr.heap.size < wz.heap.size ∧ TW w a0 cap l (some ⟨gi, 0, none⟩) (some ⟨gs, 0, none⟩) wz))
      case first =>
        rcases vw with rfl | ⟨rfl, rfl, rfl⟩
        all_goals go_wp2_with fail
        all_goals go_meet
        all_goals exact ⟨rfl, t3, z1, ty⟩
      case rest =>
        obtain ⟨rfl, hcut2⟩ := hcut
        obtain ⟨t4, z4, t5⟩ := unhide hcut2
        clear hcut2 vw t3 z1 ty d1 gic gs0 gs1 gs2 gil gsl tx e1 e4
        generalize wr.heap.size = gb at *
        go_wp2_with fail
        go_loopw [8] (fun v wy => ∃ q : Nat, p ≤ q ∧ q ≤ p + wd ∧ v = .int .i64 q ∧ Hid (Three wy gb (.int .i32 r) (.int .i64 wd) (.bool wh) ∧ gb < wy.heap.size ∧ TW w a0 cap l (some ⟨gi, 0, none⟩) (some ⟨gs, 0, none⟩) wy)) (fun v _ => p + wd - (intOf v).toNat)
        case atStart => exact ⟨p, Nat.le_refl _, by omega, rfl, t4, z4, t5⟩
        case round =>
          obtain ⟨q, hq1, hq2, rfl, hh⟩ := hrel
          obtain ⟨t6, z6, t7⟩ := unhide hh
          clear t4 z4 t5 hh
          obtain ⟨y0, y1, y2⟩ := t6
          by_cases hq : q < p + wd
          · have hq' : q < p + wid (l.drop p) := by rw [(unhide HR).2.1]; exact hq
            have f1 := floorV_in (unhide HE) hp hq1 hq'
            have f2 := ceilV_in (unhide HE) hp hq1 hq'
            have f3 := edgeB_in (unhide HE) hp hq1 hq'
            rw [(unhide HR).2.1] at f2
            have hqi : (q : Int) < (p : Int) + (wd : Int) := by omega
            by_cases hqp : q = p
            · subst hqp
              rw [if_pos rfl] at f2
              rw [decide_eq_true rfl] at f3
              have F1 := hide f1; have F2 := hide f2; have F3 := hide f3
              clear f1 f2 f3 hq'
              go_wp2_with fail
              refine (Floor_is a0 cap _ l _ t7.isB t7.tab (unhide F1)).mono ?_
              rintro e wa ⟨rfl, xa⟩
              have ta := t7.on xa
              have za : gb < wa.heap.size := Nat.lt_of_lt_of_le z6 xa.size
              have ua := Three.below ⟨y0, y1, y2⟩ xa z6
              clear y0 y1 y2 t7 z6 xa
              go_wp2_with fail
              refine (Ceil_is a0 cap _ l wa ta.isB ta.tab (unhide F2)).mono ?_
              rintro e wb ⟨rfl, xb⟩
              have tb := ta.on xb
              have zb : gb < wb.heap.size := Nat.lt_of_lt_of_le za xb.size
              have ub := Three.below ua xb za
              obtain ⟨b0, b1, b2⟩ := ub
              clear ua ta za xb
              go_wp2_with fail
              refine (Edge_is a0 cap _ l wb tb.isB tb.tab (unhide F3)).mono ?_
              rintro e wd3 ⟨rfl, xd⟩
              have td := tb.on xd
              have zd : gb < wd3.heap.size := Nat.lt_of_lt_of_le zb xd.size
              have ud := Three.below ⟨b0, b1, b2⟩ xd zb
              clear b0 b1 b2 tb zb xd
              go_wp2_with fail
              go_roundw
              case rel => exact ⟨q + 1, by omega, by omega, by go_num, ud, zd, td⟩
              case measure => simp [intOf]; omega
            · rw [if_neg hqp] at f2
              rw [decide_eq_false hqp] at f3
              have hne : ((q : Int) == (p : Int)) = false := by rw [beq_eq_false_iff_ne]; omega
              have hlt : (p : Int) < (q : Int) := by omega
              have F1 := hide f1; have F2 := hide f2; have F3 := hide f3
              clear f1 f2 f3 hq'
              go_wp2_with fail
              refine (Floor_is a0 cap _ l _ t7.isB t7.tab (unhide F1)).mono ?_
              rintro e wa ⟨rfl, xa⟩
              have ta := t7.on xa
              have za : gb < wa.heap.size := Nat.lt_of_lt_of_le z6 xa.size
              have ua := Three.below ⟨y0, y1, y2⟩ xa z6
              clear y0 y1 y2 t7 z6 xa
              go_wp2_with fail
              refine (Ceil_is a0 cap _ l wa ta.isB ta.tab (unhide F2)).mono ?_
              rintro e wb ⟨rfl, xb⟩
              have tb := ta.on xb
              have zb : gb < wb.heap.size := Nat.lt_of_lt_of_le za xb.size
              have ub := Three.below ua xb za
              obtain ⟨b0, b1, b2⟩ := ub
              clear ua ta za xb
              go_wp2_with fail
              refine (Edge_is a0 cap _ l wb tb.isB tb.tab (unhide F3)).mono ?_
              rintro e wd3 ⟨rfl, xd⟩
              have td := tb.on xd
              have zd : gb < wd3.heap.size := Nat.lt_of_lt_of_le zb xd.size
              have ud := Three.below ⟨b0, b1, b2⟩ xd zb
              clear b0 b1 b2 tb zb xd
              go_wp2_with fail
              go_roundw
              case rel => exact ⟨q + 1, by omega, by omega, by go_num, ud, zd, td⟩
              case measure => simp [intOf]; omega
          · have hqe : q = p + wd := by omega
            have hni : ¬ (q : Int) < (p : Int) + (wd : Int) := by omega
            have f1 := atV_in (unhide HE) hp
            have f2 := beforeV_in (unhide HE) hp
            have hen := edge_next (unhide HE) hp
            rw [(unhide HR).1, (unhide HR).2.1, (unhide HR).2.2] at f1 f2
            rw [(unhide HR).2.1] at hen
            have hle : ¬ (l.length : Int) < (p : Int) + (wd : Int) := by omega
            have F1 := hide f1; have F2 := hide f2; have HEN := hide hen
            clear f1 f2 hqe hq hen
            go_wp2_with fail
            refine (At_is a0 cap _ l _ t7.isB t7.tab (unhide F1)).mono ?_
            rintro e wa ⟨rfl, xa⟩
            have ta := t7.on xa
            have za : gb < wa.heap.size := Nat.lt_of_lt_of_le z6 xa.size
            have ua := Three.below ⟨y0, y1, y2⟩ xa z6
            clear y0 y1 y2 t7 z6 xa
            have da := (Below.refl wa.heap.size wa).alloc (Nat.le_refl _) (.cells #[.int .i32 r, .int .i64 wd, .bool wh] 30)
            have tb := ta.on da
            have ub := Three.below ua da za
            have sb := three_new wa (.int .i32 r) (.int .i64 wd) (.bool wh) (t := 30)
            have zb : wa.heap.size < (wa.alloc (.cells #[.int .i32 r, .int .i64 wd, .bool wh] 30)).heap.size := by simp
            have HWB : Hid (∃ wb, wb = wa.alloc (.cells #[.int .i32 r, .int .i64 wd, .bool wh] 30)) := hide ⟨_, rfl⟩
            obtain ⟨b0, b1, b2⟩ := ub
            go_wp2_with fail
            generalize wa.alloc (.cells #[.int .i32 r, .int .i64 wd, .bool wh] 30) = wb at *
            generalize wa.heap.size = ga at *
            clear HWB ua ta da
            refine (Before_is a0 cap _ l wb tb.isB tb.tab (unhide F2)).mono ?_
            rintro e wf ⟨rfl, xf⟩
            have tf := tb.on xf
            have uf := Three.below ⟨b0, b1, b2⟩ xf (Nat.lt_trans za zb)
            have sf := Three.below sb xf zb
            have zf : ga < wf.heap.size := Nat.lt_of_lt_of_le zb xf.size
            obtain ⟨f0, f1, f2⟩ := uf
            obtain ⟨s0, s1, s2⟩ := sf
            have zg := Nat.lt_trans za zf
            have df := (Below.refl wf.heap.size wf).alloc (Nat.le_refl _) (.cells #[.int .i32 r, .int .i64 wd, .bool wh] 30)
            have tg := tf.on df
            clear b0 b1 b2 sb tb xf
            go_wp2_with fail
            refine ⟨⟨pre ++ [p], p + wd, ?_, by go_num, by omega, unhide HEN, ?_, tg⟩, by simp [intOf]; omega⟩
            · rw [List.length_append, unhide HPRE]; go_num
            · refine hide ?_
              have := spots_cons hp
              rw [(unhide HR).2.1] at this
              rw [unhide hsp, this]
              simp
    · have hpe : p = l.length := by omega
      have hk := spots_full (unhide hsp) hp
      rw [unhide HN] at hk
      have f1 : edgeB l (l.length : Int) = true := by
        rw [edgeB, decide_eq_true (by omega), Int.toNat_natCast, edge_len]; rfl
      have f2 : edgeB l ((l.length : Int) + 1) = false := by rw [edgeB, decide_eq_false (by omega)]; rfl
      have f3 : edgeB l (-1) = false := by rw [edgeB, decide_eq_false (by omega)]; rfl
      have F1 := hide f1; have F2 := hide f2; have F3 := hide f3
      subst hpe
      generalize hpre : pre.length = k at *
      have hkn : ¬ (k : Int) < (n : Int) := by omega
      clear f1 f2 f3 hp he hsp hpre
      go_wp2_with fail
      refine (Edge_is a0 cap _ l _ tx.isB tx.tab (unhide F1)).mono ?_
      rintro e wa ⟨rfl, xa⟩
      have ta := tx.on xa
      clear tx xa
      go_wp2_with fail
      refine (Edge_is a0 cap _ l _ ta.isB ta.tab (unhide F2)).mono ?_
      rintro e wb ⟨rfl, xb⟩
      have tb := ta.on xb
      clear ta xb
      go_wp2_with fail
      refine (Edge_is a0 cap _ l _ tb.isB tb.tab (unhide F3)).mono ?_
      rintro e wc ⟨rfl, xc⟩
      have tc := tb.on xc
      clear tb xc
      go_wp2_with fail
      go_ret
      exact ⟨rfl, tc.below⟩

end Go.Proofs.YtffancemlpoebaaDoor
