/- Layer 5: the document's Join and Seam (written by wip/tools/wrj.py). -/
import Derived.Test.YtchlnphapnafcaaDoorWrs
import Derived.Test.YtchlnphapnafcaaDoorRw7
namespace Go.Proofs.YtchlnphapnafcaaDoor
open Go.ChangeShapes Go.WideShapes Go.ChangeAt Go.RowKit

structure J3 (w : World) (ga gb gr : Nat) (a b r : We) (X : World) : Prop where
  xa : X.heap[ga]? = some (.cells (wc a) 25 (0, 0))
  xb : X.heap[gb]? = some (.cells (wc b) 25 (0, 0))
  xr : X.heap[gr]? = some (.cells (wc r) 25 (0, 0))
  below : Below w.heap.size w X
  lo : w.heap.size ≤ ga ∧ w.heap.size ≤ gb ∧ w.heap.size ≤ gr
  ne : ga ≠ gr ∧ gb ≠ gr
theorem blk_lt {X : World} {g : Nat} {o : Obj} (h : X.heap[g]? = some o) : g < X.heap.size := (Array.getElem?_eq_some_iff.1 h).1
theorem blk_on {X Y : World} {g : Nat} {o : Obj} (h : X.heap[g]? = some o) (hb : Below X.heap.size X Y) : Y.heap[g]? = some o := (hb.block g (blk_lt h)).trans h
theorem J3.on {w : World} {ga gb gr : Nat} {a b r : We} {X Y : World} (p : J3 w ga gb gr a b r X) (h : Below X.heap.size X Y) : J3 w ga gb gr a b r Y :=
  ⟨blk_on p.xa h, blk_on p.xb h, blk_on p.xr h, p.below.trans (h.mono p.below.size), p.lo, p.ne⟩
theorem J3.setr {w : World} {ga gb gr : Nat} {a b r : We} {X : World} (p : J3 w ga gb gr a b r X) (y : We) : J3 w ga gb gr a b y ((((((X.setCell ⟨gr, 0, none⟩ (.int .i64 y.z.b)).setCell ⟨gr, 1, none⟩ (.int .i64 y.z.r)).setCell ⟨gr, 2, none⟩ (.int .i64 y.z.u)).setCell ⟨gr, 3, none⟩ (.int .i64 y.z.e)).setCell ⟨gr, 4, none⟩ (.string (strOfNums y.h))).setCell ⟨gr, 5, none⟩ (.string (strOfNums y.t))) :=
  ⟨(set6_other _ _ _ _ _ _ _ p.ne.1).trans p.xa, (set6_other _ _ _ _ _ _ _ p.ne.2).trans p.xb, box6_w p.xr, below6 p.below p.lo.2.2 _ _ _ _ _ _, p.lo, p.ne⟩
structure J5 (w : World) (ga gb gr gz gw : Nat) (a b r : We) (z : Sz) (x : We) (X : World) : Prop where
  j : J3 w ga gb gr a b r X
  xz : X.heap[gz]? = some (.cells (zc z) 23 (0, 0))
  xw : X.heap[gw]? = some (.cells (wc x) 25 (0, 0))
  lo : w.heap.size ≤ gw
  ne : ga ≠ gw ∧ gb ≠ gw ∧ gr ≠ gw ∧ gz ≠ gw
theorem J5.on {w : World} {ga gb gr gz gw : Nat} {a b r : We} {z : Sz} {x : We} {X Y : World} (p : J5 w ga gb gr gz gw a b r z x X) (h : Below X.heap.size X Y) : J5 w ga gb gr gz gw a b r z x Y :=
  ⟨p.j.on h, blk_on p.xz h, blk_on p.xw h, p.lo, p.ne⟩
theorem J5.set {w : World} {ga gb gr gz gw : Nat} {a b r : We} {z : Sz} {x : We} {X : World} (p : J5 w ga gb gr gz gw a b r z x X) (y : We) (i : Nat) (v : Value) (hy : (wc x).setIfInBounds i v = wc y) : J5 w ga gb gr gz gw a b r z y (X.setCell ⟨gw, i, none⟩ v) :=
  ⟨⟨(set_other _ _ p.ne.1).trans p.j.xa, (set_other _ _ p.ne.2.1).trans p.j.xb, (set_other _ _ p.ne.2.2.1).trans p.j.xr, p.j.below.setCell (p := ⟨gw, i, none⟩) p.lo _, p.j.lo, p.j.ne⟩, (set_other _ _ p.ne.2.2.2).trans p.xz, by rw [← hy]; exact heap_setCell_same X gw i _ _ v p.xw, p.lo, p.ne⟩
theorem J3.five {w : World} {ga gb gr : Nat} {a b r : We} {X : World} (p : J3 w ga gb gr a b r X) (z : Sz) (x : We) : J5 w ga gb gr X.heap.size (X.heap.size + 1) a b r z x ((X.alloc (.cells (zc z) 23)).alloc (.cells (wc x) 25)) := by
  have z1 : (X.alloc (.cells (zc z) 23)).heap.size = X.heap.size + 1 := World.size_alloc ..
  have h1 : Below X.heap.size X ((X.alloc (.cells (zc z) 23)).alloc (.cells (wc x) 25)) := ((Below.refl _ _).alloc (Nat.le_refl _) _).alloc (by omega) _
  have ha := blk_lt p.xa
  have hb := blk_lt p.xb
  have hr := blk_lt p.xr
  refine ⟨p.on h1, ?_, ?_, by have := p.below.size; omega, by omega, by omega, by omega, by omega⟩
  · rw [heap_alloc_old _ _ (by omega)]
    exact push_get X _
  · have := push_get (X.alloc (.cells (zc z) 23)) (.cells (wc x) 25)
    rwa [z1] at this
theorem head_len3 {a b : We} (h : ¬ a.h.length < 3) (h3 : a.h.length ≤ 3) : (a.h ++ b.h).take 3 = a.h := by rw [List.take_append_of_le_length (by omega), List.take_of_length_le (by omega)]
theorem tail_len3 {a b : We} (h : ¬ b.t.length < 3) (h3 : b.t.length ≤ 3) : tail3 (a.t ++ b.t) = b.t := by
  unfold tail3
  have e : (a.t ++ b.t).length - 3 = a.t.length := by rw [List.length_append]; omega
  rw [e, List.drop_left]
theorem both_byw {a b : We} (ha : Byw a) (hb : Byw b) : Byw (bothW a b) :=
  ⟨fun y hy => (List.mem_append.1 (List.mem_of_mem_take hy)).elim (ha.h y) (hb.h y), fun y hy => (List.mem_append.1 (List.mem_of_mem_drop hy)).elim (ha.t y) (hb.t y)⟩

set_option maxRecDepth 100000 in
set_option maxHeartbeats 8000000 in
theorem RJoin_at (a b : We) (w : World) (ha : Byw a) (hb : Byw b) :
    Calls Tryd.prog 9 #[weV a, weV b] w fun y w' => y = .returned (.tuple #[weV (joinL a b).1, .int .i64 (joinL a b).2.2]) ∧ Below w.heap.size w w' := by
  have HJ1 : Hid (J3 w w.heap.size (w.heap.size + 1) (w.heap.size + 1 + 1) a b zeroWe (((w.alloc (.cells #[.int .i64 a.z.b, .int .i64 a.z.r, .int .i64 a.z.u, .int .i64 a.z.e, .string (strOfNums a.h), .string (strOfNums a.t)] 25)).alloc (.cells #[.int .i64 b.z.b, .int .i64 b.z.r, .int .i64 b.z.u, .int .i64 b.z.e, .string (strOfNums b.h), .string (strOfNums b.t)] 25)).alloc (.cells #[.int .i64 0, .int .i64 0, .int .i64 0, .int .i64 0, .string ⟨#[]⟩, .string ⟨#[]⟩] 25))) := hide (by
    have za : (w.alloc (.cells #[.int .i64 a.z.b, .int .i64 a.z.r, .int .i64 a.z.u, .int .i64 a.z.e, .string (strOfNums a.h), .string (strOfNums a.t)] 25)).heap.size = w.heap.size + 1 := World.size_alloc ..
    have zb : ((w.alloc (.cells #[.int .i64 a.z.b, .int .i64 a.z.r, .int .i64 a.z.u, .int .i64 a.z.e, .string (strOfNums a.h), .string (strOfNums a.t)] 25)).alloc (.cells #[.int .i64 b.z.b, .int .i64 b.z.r, .int .i64 b.z.u, .int .i64 b.z.e, .string (strOfNums b.h), .string (strOfNums b.t)] 25)).heap.size = w.heap.size + 1 + 1 := by rw [World.size_alloc, za]
    refine ⟨?_, ?_, ?_, (((Below.refl _ _).alloc (Nat.le_refl _) _).alloc (by omega) _).alloc (by omega) _, ⟨by omega, by omega, by omega⟩, by omega, by omega⟩
    · rw [heap_alloc_old _ _ (by omega), heap_alloc_old _ _ (by omega)]
      exact push_get w _
    · rw [heap_alloc_old _ _ (by omega)]
      have := push_get (w.alloc (.cells #[.int .i64 a.z.b, .int .i64 a.z.r, .int .i64 a.z.u, .int .i64 a.z.e, .string (strOfNums a.h), .string (strOfNums a.t)] 25)) (.cells #[.int .i64 b.z.b, .int .i64 b.z.r, .int .i64 b.z.u, .int .i64 b.z.e, .string (strOfNums b.h), .string (strOfNums b.t)] 25)
      rwa [za] at this
    · have := push_get ((w.alloc (.cells #[.int .i64 a.z.b, .int .i64 a.z.r, .int .i64 a.z.u, .int .i64 a.z.e, .string (strOfNums a.h), .string (strOfNums a.t)] 25)).alloc (.cells #[.int .i64 b.z.b, .int .i64 b.z.r, .int .i64 b.z.u, .int .i64 b.z.e, .string (strOfNums b.h), .string (strOfNums b.t)] 25)) (.cells #[.int .i64 0, .int .i64 0, .int .i64 0, .int .i64 0, .string ⟨#[]⟩, .string ⟨#[]⟩] 25)
      rwa [zb] at this)
  have RV : Hid (∀ (x : We), Byw x → ∀ W, Calls Tryd.prog 7 #[.agg #[.int .i64 x.z.b, .int .i64 x.z.r, .int .i64 x.z.u, .int .i64 x.z.e, .string (strOfNums x.h), .string (strOfNums x.t)]] W fun y w' => y = .returned (.bool (validB x)) ∧ Below W.heap.size W w') := hide (fun x hx W => RValid_at x W hx)
  have HA := hide ha
  have HB := hide hb
  clear ha hb
  unfold weV
  go_enter Tryd.func9, Tryd.ntmps9
  go_upto_region 1 with fail
  generalize (((w.alloc (.cells #[.int .i64 a.z.b, .int .i64 a.z.r, .int .i64 a.z.u, .int .i64 a.z.e, .string (strOfNums a.h), .string (strOfNums a.t)] 25)).alloc (.cells #[.int .i64 b.z.b, .int .i64 b.z.r, .int .i64 b.z.u, .int .i64 b.z.e, .string (strOfNums b.h), .string (strOfNums b.t)] 25)).alloc (.cells #[.int .i64 0, .int .i64 0, .int .i64 0, .int .i64 0, .string ⟨#[]⟩, .string ⟨#[]⟩] 25)) = w1 at *
  generalize w.heap.size + 1 + 1 = gr at *
  generalize w.heap.size + 1 = gb at *
  generalize hga : w.heap.size = ga at HJ1 ⊢
  clear hga
  obtain ⟨a0, a1, a2, a3, a4, a5, _⟩ := cells6 (unhide HJ1).xa
  go_wp2_with fail
  refine (unhide RV a (unhide HA) w1).mono ?_
  rintro y w2 ⟨rfl, b2⟩
  have HJ2 := hide ((unhide HJ1).on b2)
  clear HJ1 b2 a0 a1 a2 a3 a4 a5
  dsimp only
  cases hva : validB a with
  | false =>
    have hj : joinL a b = (zeroWe, ⟨0, 0, 0, 0⟩, 50) := by unfold joinL; rw [hva]; rfl
    obtain ⟨c0, c1, c2, c3, c4, c5, f⟩ := cells6 (unhide HJ2).xr
    have f0 := f 0
    have f1 := f 1
    have f2 := f 2
    have f3 := f 3
    have f4 := f 4
    have f5 := f 5
    have HF : Hid (J3 w ga gb gr a b zeroWe ((((((w2.setCell ⟨gr, 0, none⟩ (.int .i64 0)).setCell ⟨gr, 1, none⟩ (.int .i64 0)).setCell ⟨gr, 2, none⟩ (.int .i64 0)).setCell ⟨gr, 3, none⟩ (.int .i64 0)).setCell ⟨gr, 4, none⟩ (.string ⟨#[]⟩)).setCell ⟨gr, 5, none⟩ (.string ⟨#[]⟩))) := hide ((unhide HJ2).setr zeroWe)
    clear f
    try dsimp only
    go_wp2_with fail
    clear c0 c1 c2 c3 c4 c5 f0 f1 f2 f3 f4 f5
    generalize ((((((w2.setCell ⟨gr, 0, none⟩ (.int .i64 0)).setCell ⟨gr, 1, none⟩ (.int .i64 0)).setCell ⟨gr, 2, none⟩ (.int .i64 0)).setCell ⟨gr, 3, none⟩ (.int .i64 0)).setCell ⟨gr, 4, none⟩ (.string ⟨#[]⟩)).setCell ⟨gr, 5, none⟩ (.string ⟨#[]⟩)) = wf at *
    obtain ⟨c0, c1, c2, c3, c4, c5, _⟩ := cells6 (unhide HF).xr
    refine bodyPost_ret (v := .tuple #[weV zeroWe, .int .i64 50]) (by simp [results, Tryd.results9, go_sem, c0, c1, c2, c3, c4, c5, weV]) rfl ⟨by rw [hj]; first | rfl | done, (unhide HF).below⟩
  | true =>
    have hia := valid_in hva
    obtain ⟨b0, b1, b2, b3, b4, b5, _⟩ := cells6 (unhide HJ2).xb
    go_wp2_with fail
    refine (unhide RV b (unhide HB) w2).mono ?_
    rintro y w3 ⟨rfl, q3⟩
    have HJ3 := hide ((unhide HJ2).on q3)
    clear HJ2 q3 b0 b1 b2 b3 b4 b5
    dsimp only
    cases hvb : validB b with
    | false =>
      have hj : joinL a b = (zeroWe, ⟨0, 0, 0, 0⟩, 50) := by unfold joinL; rw [hva, hvb]; rfl
      obtain ⟨c0, c1, c2, c3, c4, c5, f⟩ := cells6 (unhide HJ3).xr
      have f0 := f 0
      have f1 := f 1
      have f2 := f 2
      have f3 := f 3
      have f4 := f 4
      have f5 := f 5
      have HF : Hid (J3 w ga gb gr a b zeroWe ((((((w3.setCell ⟨gr, 0, none⟩ (.int .i64 0)).setCell ⟨gr, 1, none⟩ (.int .i64 0)).setCell ⟨gr, 2, none⟩ (.int .i64 0)).setCell ⟨gr, 3, none⟩ (.int .i64 0)).setCell ⟨gr, 4, none⟩ (.string ⟨#[]⟩)).setCell ⟨gr, 5, none⟩ (.string ⟨#[]⟩))) := hide ((unhide HJ3).setr zeroWe)
      clear f
      try dsimp only
      go_wp2_with fail
      clear c0 c1 c2 c3 c4 c5 f0 f1 f2 f3 f4 f5
      generalize ((((((w3.setCell ⟨gr, 0, none⟩ (.int .i64 0)).setCell ⟨gr, 1, none⟩ (.int .i64 0)).setCell ⟨gr, 2, none⟩ (.int .i64 0)).setCell ⟨gr, 3, none⟩ (.int .i64 0)).setCell ⟨gr, 4, none⟩ (.string ⟨#[]⟩)).setCell ⟨gr, 5, none⟩ (.string ⟨#[]⟩)) = wf at *
      obtain ⟨c0, c1, c2, c3, c4, c5, _⟩ := cells6 (unhide HF).xr
      refine bodyPost_ret (v := .tuple #[weV zeroWe, .int .i64 50]) (by simp [results, Tryd.results9, go_sem, c0, c1, c2, c3, c4, c5, weV]) rfl ⟨by rw [hj]; first | rfl | done, (unhide HF).below⟩
    | true =>
      have hib := valid_in hvb
      obtain ⟨⟨ib, ir, iu, ie⟩, ia3, iat, ia0, iaM, _, _⟩ := hia
      obtain ⟨⟨jb, jr, ju, je⟩, ib3, ibt, ib0, ibM, _, _⟩ := hib
      obtain ⟨a0, a1, a2, a3, a4, a5, _⟩ := cells6 (unhide HJ3).xa
      obtain ⟨b0, b1, b2, b3, b4, b5, _⟩ := cells6 (unhide HJ3).xb
      have hsb : IntKind.i64.wrap (a.z.b + b.z.b) = a.z.b + b.z.b := by rw [IntKind.wrap_i64]; omega
      by_cases hM : 268435456 < a.z.b + b.z.b
      · have hj : joinL a b = (zeroWe, ⟨0, 0, 0, 0⟩, 5) := by unfold joinL; rw [hva, hvb, if_neg (by decide), if_pos hM]
        obtain ⟨c0, c1, c2, c3, c4, c5, f⟩ := cells6 (unhide HJ3).xr
        have f0 := f 0
        have f1 := f 1
        have f2 := f 2
        have f3 := f 3
        have f4 := f 4
        have f5 := f 5
        have HF : Hid (J3 w ga gb gr a b zeroWe ((((((w3.setCell ⟨gr, 0, none⟩ (.int .i64 0)).setCell ⟨gr, 1, none⟩ (.int .i64 0)).setCell ⟨gr, 2, none⟩ (.int .i64 0)).setCell ⟨gr, 3, none⟩ (.int .i64 0)).setCell ⟨gr, 4, none⟩ (.string ⟨#[]⟩)).setCell ⟨gr, 5, none⟩ (.string ⟨#[]⟩))) := hide ((unhide HJ3).setr zeroWe)
        clear f
        try dsimp only
        go_wp2_with fail
        clear c0 c1 c2 c3 c4 c5 f0 f1 f2 f3 f4 f5
        generalize ((((((w3.setCell ⟨gr, 0, none⟩ (.int .i64 0)).setCell ⟨gr, 1, none⟩ (.int .i64 0)).setCell ⟨gr, 2, none⟩ (.int .i64 0)).setCell ⟨gr, 3, none⟩ (.int .i64 0)).setCell ⟨gr, 4, none⟩ (.string ⟨#[]⟩)).setCell ⟨gr, 5, none⟩ (.string ⟨#[]⟩)) = wf at *
        obtain ⟨c0, c1, c2, c3, c4, c5, _⟩ := cells6 (unhide HF).xr
        refine bodyPost_ret (v := .tuple #[weV zeroWe, .int .i64 5]) (by simp [results, Tryd.results9, go_sem, c0, c1, c2, c3, c4, c5, weV]) rfl ⟨by rw [hj]; first | rfl | done, (unhide HF).below⟩
      · have hsr : IntKind.i64.wrap (a.z.r + b.z.r) = a.z.r + b.z.r := by rw [IntKind.wrap_i64]; omega
        have hsu : IntKind.i64.wrap (a.z.u + b.z.u) = a.z.u + b.z.u := by rw [IntKind.wrap_i64]; omega
        have hse : IntKind.i64.wrap (a.z.e + b.z.e) = a.z.e + b.z.e := by rw [IntKind.wrap_i64]; omega
        obtain ⟨⟨sb, sr, su, se⟩, hb0⟩ := seamL_in (s := a.t) (t := b.h)
        have hBO : bothW a b = ⟨addZ a.z b.z (seamL a.t b.h), (a.h ++ b.h).take 3, tail3 (a.t ++ b.t)⟩ := rfl
        have RS := hide (Rseam_at a b w3 (unhide HA) (unhide HB) iat ib3)
        have HBOT := hide (both_byw (unhide HA) (unhide HB))
        have HMM := hide hM
        have HVA := hide (And.intro hva hvb)
        unfold addZ at hBO
        rw [hb0] at hBO
        obtain ⟨sz, hsz⟩ : ∃ sz, sz = seamL a.t b.h := ⟨_, rfl⟩
        have HSZ := hide hsz
        rw [← hsz] at hBO sb sr su se RS
        unfold weV szV at RS
        have hrr : IntKind.i64.wrap (a.z.r + b.z.r - sz.r) = a.z.r + b.z.r - sz.r := by rw [IntKind.wrap_i64]; omega
        have huu : IntKind.i64.wrap (a.z.u + b.z.u - sz.u) = a.z.u + b.z.u - sz.u := by rw [IntKind.wrap_i64]; omega
        have hee : IntKind.i64.wrap (a.z.e + b.z.e - sz.e) = a.z.e + b.z.e - sz.e := by rw [IntKind.wrap_i64]; omega
        have HBO := hide hBO
        clear hb0 hsz hBO
        go_wp2_with fail
        refine (unhide RS).mono ?_
        rintro y w4 ⟨rfl, q4⟩
        dsimp only
        have HJ4 := (unhide HJ3).on q4
        clear HJ3 q4 a0 a1 a2 a3 a4 a5 b0 b1 b2 b3 b4 b5 RS
        have J4P := HJ4.on ((Below.refl w4.heap.size w4).alloc (Nat.le_refl _) (.cells #[.int .i64 sz.b, .int .i64 sz.r, .int .i64 sz.u, .int .i64 sz.e] 23))
        have HJ5 : Hid (J5 w ga gb gr w4.heap.size (w4.heap.size + 1) a b zeroWe sz ⟨⟨0, 0, 0, 0⟩, a.h, b.t⟩ ((w4.alloc (.cells #[.int .i64 sz.b, .int .i64 sz.r, .int .i64 sz.u, .int .i64 sz.e] 23)).alloc (.cells #[.int .i64 0, .int .i64 0, .int .i64 0, .int .i64 0, .string (strOfNums a.h), .string (strOfNums b.t)] 25))) := hide (HJ4.five sz ⟨⟨0, 0, 0, 0⟩, a.h, b.t⟩)
        obtain ⟨a0, a1, a2, a3, a4, a5, _⟩ := cells6 (J4P).xa
        obtain ⟨b0, b1, b2, b3, b4, b5, _⟩ := cells6 (J4P).xb
        have hzah : (strOfNums a.h).size = a.h.length := strOfNums_size a.h
        have hzbt : (strOfNums b.t).size = b.t.length := strOfNums_size b.t
        have hzp : (w4.alloc (.cells #[.int .i64 sz.b, .int .i64 sz.r, .int .i64 sz.u, .int .i64 sz.e] 23)).heap.size = w4.heap.size + 1 := World.size_alloc ..
        go_upto_region 7 with fail
        try rw [hzp]
        clear a0 a1 a2 a3 a4 a5 b0 b1 b2 b3 b4 b5
        clear J4P HJ4 hzp
        generalize ((w4.alloc (.cells #[.int .i64 sz.b, .int .i64 sz.r, .int .i64 sz.u, .int .i64 sz.e] 23)).alloc (.cells #[.int .i64 0, .int .i64 0, .int .i64 0, .int .i64 0, .string (strOfNums a.h), .string (strOfNums b.t)] 25)) = w5 at *
        generalize w4.heap.size + 1 = gw at *
        generalize w4.heap.size = gz at *
        have hcat1 : ¬ 9223372036854775807 < a.h.length + (strOfNums b.h).size := by rw [strOfNums_size]; omega
        have hap1 := str_app a.h b.h
        have hcat2 : ¬ 9223372036854775807 < (strOfNums a.t).size + b.t.length := by rw [strOfNums_size]; omega
        have hap2 := str_app a.t b.t
        by_cases hh : a.h.length < 3
        · have hhi : (a.h.length : Int) < 3 := by omega
          obtain ⟨a0, a1, a2, a3, a4, a5, _⟩ := cells6 ((unhide HJ5).j).xa
          obtain ⟨b0, b1, b2, b3, b4, b5, _⟩ := cells6 ((unhide HJ5).j).xb
          go_wp2_with fail
          refine (Rhead_at (a.h ++ b.h) w5 (by rw [List.length_append]; omega)).mono ?_
          rintro y w6 ⟨rfl, rfl⟩
          dsimp only
          have HJ6 := unhide HJ5
          obtain ⟨x0, x1, x2, x3, x4, x5, f⟩ := cells6 HJ6.xw
          have f4 := f 4
          have HJ7 : Hid (J5 w ga gb gr gz gw a b zeroWe sz ⟨⟨0, 0, 0, 0⟩, (a.h ++ b.h).take 3, b.t⟩ (w6.setCell ⟨gw, 4, none⟩ (.string (strOfNums ((a.h ++ b.h).take 3))))) := hide (HJ6.set _ 4 _ rfl)
          clear f HJ5
          go_upto_region 9 with fail
          clear a0 a1 a2 a3 a4 a5 b0 b1 b2 b3 b4 b5 x0 x1 x2 x3 x4 x5 f4 HJ6
          generalize w6.setCell ⟨gw, 4, none⟩ (.string (strOfNums ((a.h ++ b.h).take 3))) = w7 at *
          by_cases ht : b.t.length < 3
          · have hti : (b.t.length : Int) < 3 := by omega
            obtain ⟨a0, a1, a2, a3, a4, a5, _⟩ := cells6 ((unhide HJ7).j).xa
            obtain ⟨b0, b1, b2, b3, b4, b5, _⟩ := cells6 ((unhide HJ7).j).xb
            go_wp2_with fail
            refine (Rtail_at (a.t ++ b.t) w7 (by rw [List.length_append]; omega)).mono ?_
            rintro y w8 ⟨rfl, rfl⟩
            dsimp only
            have HJ8 := unhide HJ7
            obtain ⟨x0, x1, x2, x3, x4, x5, f⟩ := cells6 HJ8.xw
            have f5 := f 5
            have HJ9 : Hid (J5 w ga gb gr gz gw a b zeroWe sz ⟨⟨0, 0, 0, 0⟩, (a.h ++ b.h).take 3, tail3 (a.t ++ b.t)⟩ (w8.setCell ⟨gw, 5, none⟩ (.string (strOfNums (tail3 (a.t ++ b.t)))))) := hide (HJ8.set _ 5 _ rfl)
            clear f HJ7
            go_upto_region 11 with fail
            clear a0 a1 a2 a3 a4 a5 b0 b1 b2 b3 b4 b5 x0 x1 x2 x3 x4 x5 f5 HJ8
            generalize w8.setCell ⟨gw, 5, none⟩ (.string (strOfNums (tail3 (a.t ++ b.t)))) = w9 at *
            obtain ⟨a0, a1, a2, a3, a4, a5, _⟩ := cells6 ((unhide HJ9).j).xa
            obtain ⟨b0, b1, b2, b3, b4, b5, _⟩ := cells6 ((unhide HJ9).j).xb
            obtain ⟨x0, x1, x2, x3, x4, x5, f⟩ := cells6 (unhide HJ9).xw
            obtain ⟨z0, z1, z2, z3, _⟩ := cells4 (unhide HJ9).xz
            have fi := f 0
            have HK0 : Hid (J5 w ga gb gr gz gw a b zeroWe sz ⟨⟨a.z.b + b.z.b, 0, 0, 0⟩, (a.h ++ b.h).take 3, tail3 (a.t ++ b.t)⟩ (w9.setCell ⟨gw, 0, none⟩ (.int .i64 (a.z.b + b.z.b)))) := hide ((unhide HJ9).set _ 0 _ rfl)
            clear f
            go_upto_region 12 with fail
            clear a0 a1 a2 a3 a4 a5 b0 b1 b2 b3 b4 b5
            clear x0 x1 x2 x3 x4 x5 z0 z1 z2 z3 fi
            generalize w9.setCell ⟨gw, 0, none⟩ (.int .i64 (a.z.b + b.z.b)) = v0 at *
            obtain ⟨a0, a1, a2, a3, a4, a5, _⟩ := cells6 ((unhide HK0).j).xa
            obtain ⟨b0, b1, b2, b3, b4, b5, _⟩ := cells6 ((unhide HK0).j).xb
            obtain ⟨x0, x1, x2, x3, x4, x5, f⟩ := cells6 (unhide HK0).xw
            obtain ⟨z0, z1, z2, z3, _⟩ := cells4 (unhide HK0).xz
            have fi := f 1
            have HK1 : Hid (J5 w ga gb gr gz gw a b zeroWe sz ⟨⟨a.z.b + b.z.b, a.z.r + b.z.r - sz.r, 0, 0⟩, (a.h ++ b.h).take 3, tail3 (a.t ++ b.t)⟩ (v0.setCell ⟨gw, 1, none⟩ (.int .i64 (a.z.r + b.z.r - sz.r)))) := hide ((unhide HK0).set _ 1 _ rfl)
            clear f
            go_upto_region 13 with fail
            clear a0 a1 a2 a3 a4 a5 b0 b1 b2 b3 b4 b5
            clear x0 x1 x2 x3 x4 x5 z0 z1 z2 z3 fi
            generalize v0.setCell ⟨gw, 1, none⟩ (.int .i64 (a.z.r + b.z.r - sz.r)) = v1 at *
            obtain ⟨a0, a1, a2, a3, a4, a5, _⟩ := cells6 ((unhide HK1).j).xa
            obtain ⟨b0, b1, b2, b3, b4, b5, _⟩ := cells6 ((unhide HK1).j).xb
            obtain ⟨x0, x1, x2, x3, x4, x5, f⟩ := cells6 (unhide HK1).xw
            obtain ⟨z0, z1, z2, z3, _⟩ := cells4 (unhide HK1).xz
            have fi := f 2
            have HK2 : Hid (J5 w ga gb gr gz gw a b zeroWe sz ⟨⟨a.z.b + b.z.b, a.z.r + b.z.r - sz.r, a.z.u + b.z.u - sz.u, 0⟩, (a.h ++ b.h).take 3, tail3 (a.t ++ b.t)⟩ (v1.setCell ⟨gw, 2, none⟩ (.int .i64 (a.z.u + b.z.u - sz.u)))) := hide ((unhide HK1).set _ 2 _ rfl)
            clear f
            go_upto_region 14 with fail
            clear a0 a1 a2 a3 a4 a5 b0 b1 b2 b3 b4 b5
            clear x0 x1 x2 x3 x4 x5 z0 z1 z2 z3 fi
            generalize v1.setCell ⟨gw, 2, none⟩ (.int .i64 (a.z.u + b.z.u - sz.u)) = v2 at *
            obtain ⟨a0, a1, a2, a3, a4, a5, _⟩ := cells6 ((unhide HK2).j).xa
            obtain ⟨b0, b1, b2, b3, b4, b5, _⟩ := cells6 ((unhide HK2).j).xb
            obtain ⟨x0, x1, x2, x3, x4, x5, f⟩ := cells6 (unhide HK2).xw
            obtain ⟨z0, z1, z2, z3, _⟩ := cells4 (unhide HK2).xz
            have fi := f 3
            have HK3 : Hid (J5 w ga gb gr gz gw a b zeroWe sz ⟨⟨a.z.b + b.z.b, a.z.r + b.z.r - sz.r, a.z.u + b.z.u - sz.u, a.z.e + b.z.e - sz.e⟩, (a.h ++ b.h).take 3, tail3 (a.t ++ b.t)⟩ (v2.setCell ⟨gw, 3, none⟩ (.int .i64 (a.z.e + b.z.e - sz.e)))) := hide ((unhide HK2).set _ 3 _ rfl)
            clear f
            go_upto_region 15 with fail
            clear a0 a1 a2 a3 a4 a5 b0 b1 b2 b3 b4 b5
            clear x0 x1 x2 x3 x4 x5 z0 z1 z2 z3 fi
            generalize v2.setCell ⟨gw, 3, none⟩ (.int .i64 (a.z.e + b.z.e - sz.e)) = v3 at *
            have HKB : Hid (J5 w ga gb gr gz gw a b zeroWe sz (bothW a b) v3) := hide (by rw [unhide HBO, Int.sub_zero]; exact unhide HK3)
            clear HK0 HK1 HK2 HK3
            obtain ⟨x0, x1, x2, x3, x4, x5, _⟩ := cells6 (unhide HKB).xw
            go_wp2_with fail
            refine (unhide RV (bothW a b) (unhide HBOT) v3).mono ?_
            rintro y v4 ⟨rfl, u4⟩
            dsimp only
            have HKC := hide ((unhide HKB).on u4)
            clear HKB u4 x0 x1 x2 x3 x4 x5
            cases hvv : validB (bothW a b) with
            | false =>
              have hj : joinL a b = (zeroWe, ⟨0, 0, 0, 0⟩, 50) := by unfold joinL; rw [(unhide HVA).1, (unhide HVA).2, if_neg (by decide), if_neg (by have := unhide HMM; omega), if_pos hvv]
              obtain ⟨c0, c1, c2, c3, c4, c5, f⟩ := cells6 (unhide HKC).j.xr
              have f0 := f 0
              have f1 := f 1
              have f2 := f 2
              have f3 := f 3
              have f4 := f 4
              have f5 := f 5
              have HF : Hid (J3 w ga gb gr a b zeroWe ((((((v4.setCell ⟨gr, 0, none⟩ (.int .i64 0)).setCell ⟨gr, 1, none⟩ (.int .i64 0)).setCell ⟨gr, 2, none⟩ (.int .i64 0)).setCell ⟨gr, 3, none⟩ (.int .i64 0)).setCell ⟨gr, 4, none⟩ (.string ⟨#[]⟩)).setCell ⟨gr, 5, none⟩ (.string ⟨#[]⟩))) := hide ((unhide HKC).j.setr zeroWe)
              clear f
              try dsimp only
              go_wp2_with fail
              clear c0 c1 c2 c3 c4 c5 f0 f1 f2 f3 f4 f5
              generalize ((((((v4.setCell ⟨gr, 0, none⟩ (.int .i64 0)).setCell ⟨gr, 1, none⟩ (.int .i64 0)).setCell ⟨gr, 2, none⟩ (.int .i64 0)).setCell ⟨gr, 3, none⟩ (.int .i64 0)).setCell ⟨gr, 4, none⟩ (.string ⟨#[]⟩)).setCell ⟨gr, 5, none⟩ (.string ⟨#[]⟩)) = wf at *
              obtain ⟨c0, c1, c2, c3, c4, c5, _⟩ := cells6 (unhide HF).xr
              refine bodyPost_ret (v := .tuple #[weV zeroWe, .int .i64 50]) (by simp [results, Tryd.results9, go_sem, c0, c1, c2, c3, c4, c5, weV]) rfl ⟨by rw [hj]; first | rfl | done, (unhide HF).below⟩
            | true =>
              have hj : joinL a b = (bothW a b, seamL a.t b.h, 0) := by unfold joinL; rw [(unhide HVA).1, (unhide HVA).2, if_neg (by decide), if_neg (by have := unhide HMM; omega), if_neg (by rw [hvv]; decide)]
              obtain ⟨x0, x1, x2, x3, x4, x5, _⟩ := cells6 (unhide HKC).xw
              obtain ⟨c0, c1, c2, c3, c4, c5, f⟩ := cells6 (unhide HKC).j.xr
              have f0 := f 0
              have f1 := f 1
              have f2 := f 2
              have f3 := f 3
              have f4 := f 4
              have f5 := f 5
              have HF : Hid (J3 w ga gb gr a b (bothW a b) ((((((v4.setCell ⟨gr, 0, none⟩ (.int .i64 (bothW a b).z.b)).setCell ⟨gr, 1, none⟩ (.int .i64 (bothW a b).z.r)).setCell ⟨gr, 2, none⟩ (.int .i64 (bothW a b).z.u)).setCell ⟨gr, 3, none⟩ (.int .i64 (bothW a b).z.e)).setCell ⟨gr, 4, none⟩ (.string (strOfNums (bothW a b).h))).setCell ⟨gr, 5, none⟩ (.string (strOfNums (bothW a b).t)))) := hide ((unhide HKC).j.setr (bothW a b))
              clear f
              go_wp2_with fail
              clear c0 c1 c2 c3 c4 c5 f0 f1 f2 f3 f4 f5 x0 x1 x2 x3 x4 x5
              generalize ((((((v4.setCell ⟨gr, 0, none⟩ (.int .i64 (bothW a b).z.b)).setCell ⟨gr, 1, none⟩ (.int .i64 (bothW a b).z.r)).setCell ⟨gr, 2, none⟩ (.int .i64 (bothW a b).z.u)).setCell ⟨gr, 3, none⟩ (.int .i64 (bothW a b).z.e)).setCell ⟨gr, 4, none⟩ (.string (strOfNums (bothW a b).h))).setCell ⟨gr, 5, none⟩ (.string (strOfNums (bothW a b).t))) = wf at *
              obtain ⟨c0, c1, c2, c3, c4, c5, _⟩ := cells6 (unhide HF).xr
              refine bodyPost_ret (v := .tuple #[weV (bothW a b), .int .i64 0]) (by simp [results, Tryd.results9, go_sem, c0, c1, c2, c3, c4, c5, weV]) rfl ⟨by rw [hj]; first | rfl | done, (unhide HF).below⟩
          · have hti : ¬ ((b.t.length : Int) < 3) := by omega
            have HJ9 : Hid (J5 w ga gb gr gz gw a b zeroWe sz ⟨⟨0, 0, 0, 0⟩, (a.h ++ b.h).take 3, tail3 (a.t ++ b.t)⟩ w7) := hide (by rw [tail_len3 ht ibt]; exact unhide HJ7)
            obtain ⟨a0, a1, a2, a3, a4, a5, _⟩ := cells6 ((unhide HJ7).j).xa
            obtain ⟨b0, b1, b2, b3, b4, b5, _⟩ := cells6 ((unhide HJ7).j).xb
            clear HJ7
            go_upto_region 11 with fail
            clear a0 a1 a2 a3 a4 a5 b0 b1 b2 b3 b4 b5
            generalize w7 = w9 at *
            obtain ⟨a0, a1, a2, a3, a4, a5, _⟩ := cells6 ((unhide HJ9).j).xa
            obtain ⟨b0, b1, b2, b3, b4, b5, _⟩ := cells6 ((unhide HJ9).j).xb
            obtain ⟨x0, x1, x2, x3, x4, x5, f⟩ := cells6 (unhide HJ9).xw
            obtain ⟨z0, z1, z2, z3, _⟩ := cells4 (unhide HJ9).xz
            have fi := f 0
            have HK0 : Hid (J5 w ga gb gr gz gw a b zeroWe sz ⟨⟨a.z.b + b.z.b, 0, 0, 0⟩, (a.h ++ b.h).take 3, tail3 (a.t ++ b.t)⟩ (w9.setCell ⟨gw, 0, none⟩ (.int .i64 (a.z.b + b.z.b)))) := hide ((unhide HJ9).set _ 0 _ rfl)
            clear f
            go_upto_region 12 with fail
            clear a0 a1 a2 a3 a4 a5 b0 b1 b2 b3 b4 b5
            clear x0 x1 x2 x3 x4 x5 z0 z1 z2 z3 fi
            generalize w9.setCell ⟨gw, 0, none⟩ (.int .i64 (a.z.b + b.z.b)) = v0 at *
            obtain ⟨a0, a1, a2, a3, a4, a5, _⟩ := cells6 ((unhide HK0).j).xa
            obtain ⟨b0, b1, b2, b3, b4, b5, _⟩ := cells6 ((unhide HK0).j).xb
            obtain ⟨x0, x1, x2, x3, x4, x5, f⟩ := cells6 (unhide HK0).xw
            obtain ⟨z0, z1, z2, z3, _⟩ := cells4 (unhide HK0).xz
            have fi := f 1
            have HK1 : Hid (J5 w ga gb gr gz gw a b zeroWe sz ⟨⟨a.z.b + b.z.b, a.z.r + b.z.r - sz.r, 0, 0⟩, (a.h ++ b.h).take 3, tail3 (a.t ++ b.t)⟩ (v0.setCell ⟨gw, 1, none⟩ (.int .i64 (a.z.r + b.z.r - sz.r)))) := hide ((unhide HK0).set _ 1 _ rfl)
            clear f
            go_upto_region 13 with fail
            clear a0 a1 a2 a3 a4 a5 b0 b1 b2 b3 b4 b5
            clear x0 x1 x2 x3 x4 x5 z0 z1 z2 z3 fi
            generalize v0.setCell ⟨gw, 1, none⟩ (.int .i64 (a.z.r + b.z.r - sz.r)) = v1 at *
            obtain ⟨a0, a1, a2, a3, a4, a5, _⟩ := cells6 ((unhide HK1).j).xa
            obtain ⟨b0, b1, b2, b3, b4, b5, _⟩ := cells6 ((unhide HK1).j).xb
            obtain ⟨x0, x1, x2, x3, x4, x5, f⟩ := cells6 (unhide HK1).xw
            obtain ⟨z0, z1, z2, z3, _⟩ := cells4 (unhide HK1).xz
            have fi := f 2
            have HK2 : Hid (J5 w ga gb gr gz gw a b zeroWe sz ⟨⟨a.z.b + b.z.b, a.z.r + b.z.r - sz.r, a.z.u + b.z.u - sz.u, 0⟩, (a.h ++ b.h).take 3, tail3 (a.t ++ b.t)⟩ (v1.setCell ⟨gw, 2, none⟩ (.int .i64 (a.z.u + b.z.u - sz.u)))) := hide ((unhide HK1).set _ 2 _ rfl)
            clear f
            go_upto_region 14 with fail
            clear a0 a1 a2 a3 a4 a5 b0 b1 b2 b3 b4 b5
            clear x0 x1 x2 x3 x4 x5 z0 z1 z2 z3 fi
            generalize v1.setCell ⟨gw, 2, none⟩ (.int .i64 (a.z.u + b.z.u - sz.u)) = v2 at *
            obtain ⟨a0, a1, a2, a3, a4, a5, _⟩ := cells6 ((unhide HK2).j).xa
            obtain ⟨b0, b1, b2, b3, b4, b5, _⟩ := cells6 ((unhide HK2).j).xb
            obtain ⟨x0, x1, x2, x3, x4, x5, f⟩ := cells6 (unhide HK2).xw
            obtain ⟨z0, z1, z2, z3, _⟩ := cells4 (unhide HK2).xz
            have fi := f 3
            have HK3 : Hid (J5 w ga gb gr gz gw a b zeroWe sz ⟨⟨a.z.b + b.z.b, a.z.r + b.z.r - sz.r, a.z.u + b.z.u - sz.u, a.z.e + b.z.e - sz.e⟩, (a.h ++ b.h).take 3, tail3 (a.t ++ b.t)⟩ (v2.setCell ⟨gw, 3, none⟩ (.int .i64 (a.z.e + b.z.e - sz.e)))) := hide ((unhide HK2).set _ 3 _ rfl)
            clear f
            go_upto_region 15 with fail
            clear a0 a1 a2 a3 a4 a5 b0 b1 b2 b3 b4 b5
            clear x0 x1 x2 x3 x4 x5 z0 z1 z2 z3 fi
            generalize v2.setCell ⟨gw, 3, none⟩ (.int .i64 (a.z.e + b.z.e - sz.e)) = v3 at *
            have HKB : Hid (J5 w ga gb gr gz gw a b zeroWe sz (bothW a b) v3) := hide (by rw [unhide HBO, Int.sub_zero]; exact unhide HK3)
            clear HK0 HK1 HK2 HK3
            obtain ⟨x0, x1, x2, x3, x4, x5, _⟩ := cells6 (unhide HKB).xw
            go_wp2_with fail
            refine (unhide RV (bothW a b) (unhide HBOT) v3).mono ?_
            rintro y v4 ⟨rfl, u4⟩
            dsimp only
            have HKC := hide ((unhide HKB).on u4)
            clear HKB u4 x0 x1 x2 x3 x4 x5
            cases hvv : validB (bothW a b) with
            | false =>
              have hj : joinL a b = (zeroWe, ⟨0, 0, 0, 0⟩, 50) := by unfold joinL; rw [(unhide HVA).1, (unhide HVA).2, if_neg (by decide), if_neg (by have := unhide HMM; omega), if_pos hvv]
              obtain ⟨c0, c1, c2, c3, c4, c5, f⟩ := cells6 (unhide HKC).j.xr
              have f0 := f 0
              have f1 := f 1
              have f2 := f 2
              have f3 := f 3
              have f4 := f 4
              have f5 := f 5
              have HF : Hid (J3 w ga gb gr a b zeroWe ((((((v4.setCell ⟨gr, 0, none⟩ (.int .i64 0)).setCell ⟨gr, 1, none⟩ (.int .i64 0)).setCell ⟨gr, 2, none⟩ (.int .i64 0)).setCell ⟨gr, 3, none⟩ (.int .i64 0)).setCell ⟨gr, 4, none⟩ (.string ⟨#[]⟩)).setCell ⟨gr, 5, none⟩ (.string ⟨#[]⟩))) := hide ((unhide HKC).j.setr zeroWe)
              clear f
              try dsimp only
              go_wp2_with fail
              clear c0 c1 c2 c3 c4 c5 f0 f1 f2 f3 f4 f5
              generalize ((((((v4.setCell ⟨gr, 0, none⟩ (.int .i64 0)).setCell ⟨gr, 1, none⟩ (.int .i64 0)).setCell ⟨gr, 2, none⟩ (.int .i64 0)).setCell ⟨gr, 3, none⟩ (.int .i64 0)).setCell ⟨gr, 4, none⟩ (.string ⟨#[]⟩)).setCell ⟨gr, 5, none⟩ (.string ⟨#[]⟩)) = wf at *
              obtain ⟨c0, c1, c2, c3, c4, c5, _⟩ := cells6 (unhide HF).xr
              refine bodyPost_ret (v := .tuple #[weV zeroWe, .int .i64 50]) (by simp [results, Tryd.results9, go_sem, c0, c1, c2, c3, c4, c5, weV]) rfl ⟨by rw [hj]; first | rfl | done, (unhide HF).below⟩
            | true =>
              have hj : joinL a b = (bothW a b, seamL a.t b.h, 0) := by unfold joinL; rw [(unhide HVA).1, (unhide HVA).2, if_neg (by decide), if_neg (by have := unhide HMM; omega), if_neg (by rw [hvv]; decide)]
              obtain ⟨x0, x1, x2, x3, x4, x5, _⟩ := cells6 (unhide HKC).xw
              obtain ⟨c0, c1, c2, c3, c4, c5, f⟩ := cells6 (unhide HKC).j.xr
              have f0 := f 0
              have f1 := f 1
              have f2 := f 2
              have f3 := f 3
              have f4 := f 4
              have f5 := f 5
              have HF : Hid (J3 w ga gb gr a b (bothW a b) ((((((v4.setCell ⟨gr, 0, none⟩ (.int .i64 (bothW a b).z.b)).setCell ⟨gr, 1, none⟩ (.int .i64 (bothW a b).z.r)).setCell ⟨gr, 2, none⟩ (.int .i64 (bothW a b).z.u)).setCell ⟨gr, 3, none⟩ (.int .i64 (bothW a b).z.e)).setCell ⟨gr, 4, none⟩ (.string (strOfNums (bothW a b).h))).setCell ⟨gr, 5, none⟩ (.string (strOfNums (bothW a b).t)))) := hide ((unhide HKC).j.setr (bothW a b))
              clear f
              go_wp2_with fail
              clear c0 c1 c2 c3 c4 c5 f0 f1 f2 f3 f4 f5 x0 x1 x2 x3 x4 x5
              generalize ((((((v4.setCell ⟨gr, 0, none⟩ (.int .i64 (bothW a b).z.b)).setCell ⟨gr, 1, none⟩ (.int .i64 (bothW a b).z.r)).setCell ⟨gr, 2, none⟩ (.int .i64 (bothW a b).z.u)).setCell ⟨gr, 3, none⟩ (.int .i64 (bothW a b).z.e)).setCell ⟨gr, 4, none⟩ (.string (strOfNums (bothW a b).h))).setCell ⟨gr, 5, none⟩ (.string (strOfNums (bothW a b).t))) = wf at *
              obtain ⟨c0, c1, c2, c3, c4, c5, _⟩ := cells6 (unhide HF).xr
              refine bodyPost_ret (v := .tuple #[weV (bothW a b), .int .i64 0]) (by simp [results, Tryd.results9, go_sem, c0, c1, c2, c3, c4, c5, weV]) rfl ⟨by rw [hj]; first | rfl | done, (unhide HF).below⟩
        · have hhi : ¬ ((a.h.length : Int) < 3) := by omega
          have HJ7 : Hid (J5 w ga gb gr gz gw a b zeroWe sz ⟨⟨0, 0, 0, 0⟩, (a.h ++ b.h).take 3, b.t⟩ w5) := hide (by rw [head_len3 hh ia3]; exact unhide HJ5)
          obtain ⟨a0, a1, a2, a3, a4, a5, _⟩ := cells6 ((unhide HJ5).j).xa
          obtain ⟨b0, b1, b2, b3, b4, b5, _⟩ := cells6 ((unhide HJ5).j).xb
          clear HJ5
          go_upto_region 9 with fail
          clear a0 a1 a2 a3 a4 a5 b0 b1 b2 b3 b4 b5
          generalize w5 = w7 at *
          by_cases ht : b.t.length < 3
          · have hti : (b.t.length : Int) < 3 := by omega
            obtain ⟨a0, a1, a2, a3, a4, a5, _⟩ := cells6 ((unhide HJ7).j).xa
            obtain ⟨b0, b1, b2, b3, b4, b5, _⟩ := cells6 ((unhide HJ7).j).xb
            go_wp2_with fail
            refine (Rtail_at (a.t ++ b.t) w7 (by rw [List.length_append]; omega)).mono ?_
            rintro y w8 ⟨rfl, rfl⟩
            dsimp only
            have HJ8 := unhide HJ7
            obtain ⟨x0, x1, x2, x3, x4, x5, f⟩ := cells6 HJ8.xw
            have f5 := f 5
            have HJ9 : Hid (J5 w ga gb gr gz gw a b zeroWe sz ⟨⟨0, 0, 0, 0⟩, (a.h ++ b.h).take 3, tail3 (a.t ++ b.t)⟩ (w8.setCell ⟨gw, 5, none⟩ (.string (strOfNums (tail3 (a.t ++ b.t)))))) := hide (HJ8.set _ 5 _ rfl)
            clear f HJ7
            go_upto_region 11 with fail
            clear a0 a1 a2 a3 a4 a5 b0 b1 b2 b3 b4 b5 x0 x1 x2 x3 x4 x5 f5 HJ8
            generalize w8.setCell ⟨gw, 5, none⟩ (.string (strOfNums (tail3 (a.t ++ b.t)))) = w9 at *
            obtain ⟨a0, a1, a2, a3, a4, a5, _⟩ := cells6 ((unhide HJ9).j).xa
            obtain ⟨b0, b1, b2, b3, b4, b5, _⟩ := cells6 ((unhide HJ9).j).xb
            obtain ⟨x0, x1, x2, x3, x4, x5, f⟩ := cells6 (unhide HJ9).xw
            obtain ⟨z0, z1, z2, z3, _⟩ := cells4 (unhide HJ9).xz
            have fi := f 0
            have HK0 : Hid (J5 w ga gb gr gz gw a b zeroWe sz ⟨⟨a.z.b + b.z.b, 0, 0, 0⟩, (a.h ++ b.h).take 3, tail3 (a.t ++ b.t)⟩ (w9.setCell ⟨gw, 0, none⟩ (.int .i64 (a.z.b + b.z.b)))) := hide ((unhide HJ9).set _ 0 _ rfl)
            clear f
            go_upto_region 12 with fail
            clear a0 a1 a2 a3 a4 a5 b0 b1 b2 b3 b4 b5
            clear x0 x1 x2 x3 x4 x5 z0 z1 z2 z3 fi
            generalize w9.setCell ⟨gw, 0, none⟩ (.int .i64 (a.z.b + b.z.b)) = v0 at *
            obtain ⟨a0, a1, a2, a3, a4, a5, _⟩ := cells6 ((unhide HK0).j).xa
            obtain ⟨b0, b1, b2, b3, b4, b5, _⟩ := cells6 ((unhide HK0).j).xb
            obtain ⟨x0, x1, x2, x3, x4, x5, f⟩ := cells6 (unhide HK0).xw
            obtain ⟨z0, z1, z2, z3, _⟩ := cells4 (unhide HK0).xz
            have fi := f 1
            have HK1 : Hid (J5 w ga gb gr gz gw a b zeroWe sz ⟨⟨a.z.b + b.z.b, a.z.r + b.z.r - sz.r, 0, 0⟩, (a.h ++ b.h).take 3, tail3 (a.t ++ b.t)⟩ (v0.setCell ⟨gw, 1, none⟩ (.int .i64 (a.z.r + b.z.r - sz.r)))) := hide ((unhide HK0).set _ 1 _ rfl)
            clear f
            go_upto_region 13 with fail
            clear a0 a1 a2 a3 a4 a5 b0 b1 b2 b3 b4 b5
            clear x0 x1 x2 x3 x4 x5 z0 z1 z2 z3 fi
            generalize v0.setCell ⟨gw, 1, none⟩ (.int .i64 (a.z.r + b.z.r - sz.r)) = v1 at *
            obtain ⟨a0, a1, a2, a3, a4, a5, _⟩ := cells6 ((unhide HK1).j).xa
            obtain ⟨b0, b1, b2, b3, b4, b5, _⟩ := cells6 ((unhide HK1).j).xb
            obtain ⟨x0, x1, x2, x3, x4, x5, f⟩ := cells6 (unhide HK1).xw
            obtain ⟨z0, z1, z2, z3, _⟩ := cells4 (unhide HK1).xz
            have fi := f 2
            have HK2 : Hid (J5 w ga gb gr gz gw a b zeroWe sz ⟨⟨a.z.b + b.z.b, a.z.r + b.z.r - sz.r, a.z.u + b.z.u - sz.u, 0⟩, (a.h ++ b.h).take 3, tail3 (a.t ++ b.t)⟩ (v1.setCell ⟨gw, 2, none⟩ (.int .i64 (a.z.u + b.z.u - sz.u)))) := hide ((unhide HK1).set _ 2 _ rfl)
            clear f
            go_upto_region 14 with fail
            clear a0 a1 a2 a3 a4 a5 b0 b1 b2 b3 b4 b5
            clear x0 x1 x2 x3 x4 x5 z0 z1 z2 z3 fi
            generalize v1.setCell ⟨gw, 2, none⟩ (.int .i64 (a.z.u + b.z.u - sz.u)) = v2 at *
            obtain ⟨a0, a1, a2, a3, a4, a5, _⟩ := cells6 ((unhide HK2).j).xa
            obtain ⟨b0, b1, b2, b3, b4, b5, _⟩ := cells6 ((unhide HK2).j).xb
            obtain ⟨x0, x1, x2, x3, x4, x5, f⟩ := cells6 (unhide HK2).xw
            obtain ⟨z0, z1, z2, z3, _⟩ := cells4 (unhide HK2).xz
            have fi := f 3
            have HK3 : Hid (J5 w ga gb gr gz gw a b zeroWe sz ⟨⟨a.z.b + b.z.b, a.z.r + b.z.r - sz.r, a.z.u + b.z.u - sz.u, a.z.e + b.z.e - sz.e⟩, (a.h ++ b.h).take 3, tail3 (a.t ++ b.t)⟩ (v2.setCell ⟨gw, 3, none⟩ (.int .i64 (a.z.e + b.z.e - sz.e)))) := hide ((unhide HK2).set _ 3 _ rfl)
            clear f
            go_upto_region 15 with fail
            clear a0 a1 a2 a3 a4 a5 b0 b1 b2 b3 b4 b5
            clear x0 x1 x2 x3 x4 x5 z0 z1 z2 z3 fi
            generalize v2.setCell ⟨gw, 3, none⟩ (.int .i64 (a.z.e + b.z.e - sz.e)) = v3 at *
            have HKB : Hid (J5 w ga gb gr gz gw a b zeroWe sz (bothW a b) v3) := hide (by rw [unhide HBO, Int.sub_zero]; exact unhide HK3)
            clear HK0 HK1 HK2 HK3
            obtain ⟨x0, x1, x2, x3, x4, x5, _⟩ := cells6 (unhide HKB).xw
            go_wp2_with fail
            refine (unhide RV (bothW a b) (unhide HBOT) v3).mono ?_
            rintro y v4 ⟨rfl, u4⟩
            dsimp only
            have HKC := hide ((unhide HKB).on u4)
            clear HKB u4 x0 x1 x2 x3 x4 x5
            cases hvv : validB (bothW a b) with
            | false =>
              have hj : joinL a b = (zeroWe, ⟨0, 0, 0, 0⟩, 50) := by unfold joinL; rw [(unhide HVA).1, (unhide HVA).2, if_neg (by decide), if_neg (by have := unhide HMM; omega), if_pos hvv]
              obtain ⟨c0, c1, c2, c3, c4, c5, f⟩ := cells6 (unhide HKC).j.xr
              have f0 := f 0
              have f1 := f 1
              have f2 := f 2
              have f3 := f 3
              have f4 := f 4
              have f5 := f 5
              have HF : Hid (J3 w ga gb gr a b zeroWe ((((((v4.setCell ⟨gr, 0, none⟩ (.int .i64 0)).setCell ⟨gr, 1, none⟩ (.int .i64 0)).setCell ⟨gr, 2, none⟩ (.int .i64 0)).setCell ⟨gr, 3, none⟩ (.int .i64 0)).setCell ⟨gr, 4, none⟩ (.string ⟨#[]⟩)).setCell ⟨gr, 5, none⟩ (.string ⟨#[]⟩))) := hide ((unhide HKC).j.setr zeroWe)
              clear f
              try dsimp only
              go_wp2_with fail
              clear c0 c1 c2 c3 c4 c5 f0 f1 f2 f3 f4 f5
              generalize ((((((v4.setCell ⟨gr, 0, none⟩ (.int .i64 0)).setCell ⟨gr, 1, none⟩ (.int .i64 0)).setCell ⟨gr, 2, none⟩ (.int .i64 0)).setCell ⟨gr, 3, none⟩ (.int .i64 0)).setCell ⟨gr, 4, none⟩ (.string ⟨#[]⟩)).setCell ⟨gr, 5, none⟩ (.string ⟨#[]⟩)) = wf at *
              obtain ⟨c0, c1, c2, c3, c4, c5, _⟩ := cells6 (unhide HF).xr
              refine bodyPost_ret (v := .tuple #[weV zeroWe, .int .i64 50]) (by simp [results, Tryd.results9, go_sem, c0, c1, c2, c3, c4, c5, weV]) rfl ⟨by rw [hj]; first | rfl | done, (unhide HF).below⟩
            | true =>
              have hj : joinL a b = (bothW a b, seamL a.t b.h, 0) := by unfold joinL; rw [(unhide HVA).1, (unhide HVA).2, if_neg (by decide), if_neg (by have := unhide HMM; omega), if_neg (by rw [hvv]; decide)]
              obtain ⟨x0, x1, x2, x3, x4, x5, _⟩ := cells6 (unhide HKC).xw
              obtain ⟨c0, c1, c2, c3, c4, c5, f⟩ := cells6 (unhide HKC).j.xr
              have f0 := f 0
              have f1 := f 1
              have f2 := f 2
              have f3 := f 3
              have f4 := f 4
              have f5 := f 5
              have HF : Hid (J3 w ga gb gr a b (bothW a b) ((((((v4.setCell ⟨gr, 0, none⟩ (.int .i64 (bothW a b).z.b)).setCell ⟨gr, 1, none⟩ (.int .i64 (bothW a b).z.r)).setCell ⟨gr, 2, none⟩ (.int .i64 (bothW a b).z.u)).setCell ⟨gr, 3, none⟩ (.int .i64 (bothW a b).z.e)).setCell ⟨gr, 4, none⟩ (.string (strOfNums (bothW a b).h))).setCell ⟨gr, 5, none⟩ (.string (strOfNums (bothW a b).t)))) := hide ((unhide HKC).j.setr (bothW a b))
              clear f
              go_wp2_with fail
              clear c0 c1 c2 c3 c4 c5 f0 f1 f2 f3 f4 f5 x0 x1 x2 x3 x4 x5
              generalize ((((((v4.setCell ⟨gr, 0, none⟩ (.int .i64 (bothW a b).z.b)).setCell ⟨gr, 1, none⟩ (.int .i64 (bothW a b).z.r)).setCell ⟨gr, 2, none⟩ (.int .i64 (bothW a b).z.u)).setCell ⟨gr, 3, none⟩ (.int .i64 (bothW a b).z.e)).setCell ⟨gr, 4, none⟩ (.string (strOfNums (bothW a b).h))).setCell ⟨gr, 5, none⟩ (.string (strOfNums (bothW a b).t))) = wf at *
              obtain ⟨c0, c1, c2, c3, c4, c5, _⟩ := cells6 (unhide HF).xr
              refine bodyPost_ret (v := .tuple #[weV (bothW a b), .int .i64 0]) (by simp [results, Tryd.results9, go_sem, c0, c1, c2, c3, c4, c5, weV]) rfl ⟨by rw [hj]; first | rfl | done, (unhide HF).below⟩
          · have hti : ¬ ((b.t.length : Int) < 3) := by omega
            have HJ9 : Hid (J5 w ga gb gr gz gw a b zeroWe sz ⟨⟨0, 0, 0, 0⟩, (a.h ++ b.h).take 3, tail3 (a.t ++ b.t)⟩ w7) := hide (by rw [tail_len3 ht ibt]; exact unhide HJ7)
            obtain ⟨a0, a1, a2, a3, a4, a5, _⟩ := cells6 ((unhide HJ7).j).xa
            obtain ⟨b0, b1, b2, b3, b4, b5, _⟩ := cells6 ((unhide HJ7).j).xb
            clear HJ7
            go_upto_region 11 with fail
            clear a0 a1 a2 a3 a4 a5 b0 b1 b2 b3 b4 b5
            generalize w7 = w9 at *
            obtain ⟨a0, a1, a2, a3, a4, a5, _⟩ := cells6 ((unhide HJ9).j).xa
            obtain ⟨b0, b1, b2, b3, b4, b5, _⟩ := cells6 ((unhide HJ9).j).xb
            obtain ⟨x0, x1, x2, x3, x4, x5, f⟩ := cells6 (unhide HJ9).xw
            obtain ⟨z0, z1, z2, z3, _⟩ := cells4 (unhide HJ9).xz
            have fi := f 0
            have HK0 : Hid (J5 w ga gb gr gz gw a b zeroWe sz ⟨⟨a.z.b + b.z.b, 0, 0, 0⟩, (a.h ++ b.h).take 3, tail3 (a.t ++ b.t)⟩ (w9.setCell ⟨gw, 0, none⟩ (.int .i64 (a.z.b + b.z.b)))) := hide ((unhide HJ9).set _ 0 _ rfl)
            clear f
            go_upto_region 12 with fail
            clear a0 a1 a2 a3 a4 a5 b0 b1 b2 b3 b4 b5
            clear x0 x1 x2 x3 x4 x5 z0 z1 z2 z3 fi
            generalize w9.setCell ⟨gw, 0, none⟩ (.int .i64 (a.z.b + b.z.b)) = v0 at *
            obtain ⟨a0, a1, a2, a3, a4, a5, _⟩ := cells6 ((unhide HK0).j).xa
            obtain ⟨b0, b1, b2, b3, b4, b5, _⟩ := cells6 ((unhide HK0).j).xb
            obtain ⟨x0, x1, x2, x3, x4, x5, f⟩ := cells6 (unhide HK0).xw
            obtain ⟨z0, z1, z2, z3, _⟩ := cells4 (unhide HK0).xz
            have fi := f 1
            have HK1 : Hid (J5 w ga gb gr gz gw a b zeroWe sz ⟨⟨a.z.b + b.z.b, a.z.r + b.z.r - sz.r, 0, 0⟩, (a.h ++ b.h).take 3, tail3 (a.t ++ b.t)⟩ (v0.setCell ⟨gw, 1, none⟩ (.int .i64 (a.z.r + b.z.r - sz.r)))) := hide ((unhide HK0).set _ 1 _ rfl)
            clear f
            go_upto_region 13 with fail
            clear a0 a1 a2 a3 a4 a5 b0 b1 b2 b3 b4 b5
            clear x0 x1 x2 x3 x4 x5 z0 z1 z2 z3 fi
            generalize v0.setCell ⟨gw, 1, none⟩ (.int .i64 (a.z.r + b.z.r - sz.r)) = v1 at *
            obtain ⟨a0, a1, a2, a3, a4, a5, _⟩ := cells6 ((unhide HK1).j).xa
            obtain ⟨b0, b1, b2, b3, b4, b5, _⟩ := cells6 ((unhide HK1).j).xb
            obtain ⟨x0, x1, x2, x3, x4, x5, f⟩ := cells6 (unhide HK1).xw
            obtain ⟨z0, z1, z2, z3, _⟩ := cells4 (unhide HK1).xz
            have fi := f 2
            have HK2 : Hid (J5 w ga gb gr gz gw a b zeroWe sz ⟨⟨a.z.b + b.z.b, a.z.r + b.z.r - sz.r, a.z.u + b.z.u - sz.u, 0⟩, (a.h ++ b.h).take 3, tail3 (a.t ++ b.t)⟩ (v1.setCell ⟨gw, 2, none⟩ (.int .i64 (a.z.u + b.z.u - sz.u)))) := hide ((unhide HK1).set _ 2 _ rfl)
            clear f
            go_upto_region 14 with fail
            clear a0 a1 a2 a3 a4 a5 b0 b1 b2 b3 b4 b5
            clear x0 x1 x2 x3 x4 x5 z0 z1 z2 z3 fi
            generalize v1.setCell ⟨gw, 2, none⟩ (.int .i64 (a.z.u + b.z.u - sz.u)) = v2 at *
            obtain ⟨a0, a1, a2, a3, a4, a5, _⟩ := cells6 ((unhide HK2).j).xa
            obtain ⟨b0, b1, b2, b3, b4, b5, _⟩ := cells6 ((unhide HK2).j).xb
            obtain ⟨x0, x1, x2, x3, x4, x5, f⟩ := cells6 (unhide HK2).xw
            obtain ⟨z0, z1, z2, z3, _⟩ := cells4 (unhide HK2).xz
            have fi := f 3
            have HK3 : Hid (J5 w ga gb gr gz gw a b zeroWe sz ⟨⟨a.z.b + b.z.b, a.z.r + b.z.r - sz.r, a.z.u + b.z.u - sz.u, a.z.e + b.z.e - sz.e⟩, (a.h ++ b.h).take 3, tail3 (a.t ++ b.t)⟩ (v2.setCell ⟨gw, 3, none⟩ (.int .i64 (a.z.e + b.z.e - sz.e)))) := hide ((unhide HK2).set _ 3 _ rfl)
            clear f
            go_upto_region 15 with fail
            clear a0 a1 a2 a3 a4 a5 b0 b1 b2 b3 b4 b5
            clear x0 x1 x2 x3 x4 x5 z0 z1 z2 z3 fi
            generalize v2.setCell ⟨gw, 3, none⟩ (.int .i64 (a.z.e + b.z.e - sz.e)) = v3 at *
            have HKB : Hid (J5 w ga gb gr gz gw a b zeroWe sz (bothW a b) v3) := hide (by rw [unhide HBO, Int.sub_zero]; exact unhide HK3)
            clear HK0 HK1 HK2 HK3
            obtain ⟨x0, x1, x2, x3, x4, x5, _⟩ := cells6 (unhide HKB).xw
            go_wp2_with fail
            refine (unhide RV (bothW a b) (unhide HBOT) v3).mono ?_
            rintro y v4 ⟨rfl, u4⟩
            dsimp only
            have HKC := hide ((unhide HKB).on u4)
            clear HKB u4 x0 x1 x2 x3 x4 x5
            cases hvv : validB (bothW a b) with
            | false =>
              have hj : joinL a b = (zeroWe, ⟨0, 0, 0, 0⟩, 50) := by unfold joinL; rw [(unhide HVA).1, (unhide HVA).2, if_neg (by decide), if_neg (by have := unhide HMM; omega), if_pos hvv]
              obtain ⟨c0, c1, c2, c3, c4, c5, f⟩ := cells6 (unhide HKC).j.xr
              have f0 := f 0
              have f1 := f 1
              have f2 := f 2
              have f3 := f 3
              have f4 := f 4
              have f5 := f 5
              have HF : Hid (J3 w ga gb gr a b zeroWe ((((((v4.setCell ⟨gr, 0, none⟩ (.int .i64 0)).setCell ⟨gr, 1, none⟩ (.int .i64 0)).setCell ⟨gr, 2, none⟩ (.int .i64 0)).setCell ⟨gr, 3, none⟩ (.int .i64 0)).setCell ⟨gr, 4, none⟩ (.string ⟨#[]⟩)).setCell ⟨gr, 5, none⟩ (.string ⟨#[]⟩))) := hide ((unhide HKC).j.setr zeroWe)
              clear f
              try dsimp only
              go_wp2_with fail
              clear c0 c1 c2 c3 c4 c5 f0 f1 f2 f3 f4 f5
              generalize ((((((v4.setCell ⟨gr, 0, none⟩ (.int .i64 0)).setCell ⟨gr, 1, none⟩ (.int .i64 0)).setCell ⟨gr, 2, none⟩ (.int .i64 0)).setCell ⟨gr, 3, none⟩ (.int .i64 0)).setCell ⟨gr, 4, none⟩ (.string ⟨#[]⟩)).setCell ⟨gr, 5, none⟩ (.string ⟨#[]⟩)) = wf at *
              obtain ⟨c0, c1, c2, c3, c4, c5, _⟩ := cells6 (unhide HF).xr
              refine bodyPost_ret (v := .tuple #[weV zeroWe, .int .i64 50]) (by simp [results, Tryd.results9, go_sem, c0, c1, c2, c3, c4, c5, weV]) rfl ⟨by rw [hj]; first | rfl | done, (unhide HF).below⟩
            | true =>
              have hj : joinL a b = (bothW a b, seamL a.t b.h, 0) := by unfold joinL; rw [(unhide HVA).1, (unhide HVA).2, if_neg (by decide), if_neg (by have := unhide HMM; omega), if_neg (by rw [hvv]; decide)]
              obtain ⟨x0, x1, x2, x3, x4, x5, _⟩ := cells6 (unhide HKC).xw
              obtain ⟨c0, c1, c2, c3, c4, c5, f⟩ := cells6 (unhide HKC).j.xr
              have f0 := f 0
              have f1 := f 1
              have f2 := f 2
              have f3 := f 3
              have f4 := f 4
              have f5 := f 5
              have HF : Hid (J3 w ga gb gr a b (bothW a b) ((((((v4.setCell ⟨gr, 0, none⟩ (.int .i64 (bothW a b).z.b)).setCell ⟨gr, 1, none⟩ (.int .i64 (bothW a b).z.r)).setCell ⟨gr, 2, none⟩ (.int .i64 (bothW a b).z.u)).setCell ⟨gr, 3, none⟩ (.int .i64 (bothW a b).z.e)).setCell ⟨gr, 4, none⟩ (.string (strOfNums (bothW a b).h))).setCell ⟨gr, 5, none⟩ (.string (strOfNums (bothW a b).t)))) := hide ((unhide HKC).j.setr (bothW a b))
              clear f
              go_wp2_with fail
              clear c0 c1 c2 c3 c4 c5 f0 f1 f2 f3 f4 f5 x0 x1 x2 x3 x4 x5
              generalize ((((((v4.setCell ⟨gr, 0, none⟩ (.int .i64 (bothW a b).z.b)).setCell ⟨gr, 1, none⟩ (.int .i64 (bothW a b).z.r)).setCell ⟨gr, 2, none⟩ (.int .i64 (bothW a b).z.u)).setCell ⟨gr, 3, none⟩ (.int .i64 (bothW a b).z.e)).setCell ⟨gr, 4, none⟩ (.string (strOfNums (bothW a b).h))).setCell ⟨gr, 5, none⟩ (.string (strOfNums (bothW a b).t))) = wf at *
              obtain ⟨c0, c1, c2, c3, c4, c5, _⟩ := cells6 (unhide HF).xr
              refine bodyPost_ret (v := .tuple #[weV (bothW a b), .int .i64 0]) (by simp [results, Tryd.results9, go_sem, c0, c1, c2, c3, c4, c5, weV]) rfl ⟨by rw [hj]; first | rfl | done, (unhide HF).below⟩
end Go.Proofs.YtchlnphapnafcaaDoor
