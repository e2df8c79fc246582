/- Layer 5: join. -/
import Derived.Test.YteamaneompijkaaGreatDoorSo28
import Derived.Deep.DeepCutAuto
namespace Go.Proofs.YteamaneompijkaaGreatDoor
open Go.ChangeShapes Go.WideShapes Go.ChangeAt Go.RowKit
set_option maxRecDepth 100000
set_option maxHeartbeats 8000000
def bothW (a b : We) : We := ⟨addZ a.z b.z (seamL a.t b.h), (a.h ++ b.h).take 3, tail3 (a.t ++ b.t)⟩
def joinL (a b : We) : We × Sz × Int :=
  if (validB a && validB b) = false then (zeroWe, ⟨0, 0, 0, 0⟩, 50)
  else if 268435456 < a.z.b + b.z.b then (zeroWe, ⟨0, 0, 0, 0⟩, 5)
  else if validB (bothW a b) = false then (zeroWe, ⟨0, 0, 0, 0⟩, 50) else (bothW a b, seamL a.t b.h, 0)
def joinV (x : We × Sz × Int) : Value := .tuple #[weV x.1, szV x.2.1, .int .i64 x.2.2]
theorem Jb.ret {w : World} {ga gb gr gz : Nat} {a b r : We} {z : Sz} {wx : World} (p : Jb w ga gb gr gz a b r z wx) : wx.cell? ⟨gr, 0, none⟩ = some (.int .i64 r.z.b) ∧ wx.cell? ⟨gr, 1, none⟩ = some (.int .i64 r.z.r) ∧ wx.cell? ⟨gr, 2, none⟩ = some (.int .i64 r.z.u) ∧ wx.cell? ⟨gr, 3, none⟩ = some (.int .i64 r.z.e) ∧ wx.cell? ⟨gr, 4, none⟩ = some (.string (strOfNums r.h)) ∧ wx.cell? ⟨gr, 5, none⟩ = some (.string (strOfNums r.t)) ∧ (∀ i, wx.frozen? ⟨gr, i, none⟩ = false) ∧
    wx.cell? ⟨gz, 0, none⟩ = some (.int .i64 z.b) ∧ wx.cell? ⟨gz, 1, none⟩ = some (.int .i64 z.r) ∧ wx.cell? ⟨gz, 2, none⟩ = some (.int .i64 z.u) ∧ wx.cell? ⟨gz, 3, none⟩ = some (.int .i64 z.e) ∧ ∀ i, wx.frozen? ⟨gz, i, none⟩ = false := by
  obtain ⟨c0, c1, c2, c3, c4, c5, f⟩ := cells6 p.xr
  obtain ⟨d0, d1, d2, d3, k⟩ := cells4 p.xz
  exact ⟨c0, c1, c2, c3, c4, c5, f, d0, d1, d2, d3, k⟩
theorem Jb.all {w : World} {ga gb gr gz : Nat} {a b r : We} {z : Sz} {W : World} (p : Jb w ga gb gr gz a b r z W) : W.cell? ⟨ga, 0, none⟩ = some (.int .i64 a.z.b) ∧ W.cell? ⟨ga, 1, none⟩ = some (.int .i64 a.z.r) ∧ W.cell? ⟨ga, 2, none⟩ = some (.int .i64 a.z.u) ∧ W.cell? ⟨ga, 3, none⟩ = some (.int .i64 a.z.e) ∧ W.cell? ⟨ga, 4, none⟩ = some (.string (strOfNums a.h)) ∧ W.cell? ⟨ga, 5, none⟩ = some (.string (strOfNums a.t)) ∧ W.cell? ⟨gb, 0, none⟩ = some (.int .i64 b.z.b) ∧ W.cell? ⟨gb, 1, none⟩ = some (.int .i64 b.z.r) ∧ W.cell? ⟨gb, 2, none⟩ = some (.int .i64 b.z.u) ∧ W.cell? ⟨gb, 3, none⟩ = some (.int .i64 b.z.e) ∧ W.cell? ⟨gb, 4, none⟩ = some (.string (strOfNums b.h)) ∧ W.cell? ⟨gb, 5, none⟩ = some (.string (strOfNums b.t)) ∧ W.cell? ⟨gz, 0, none⟩ = some (.int .i64 z.b) ∧ W.cell? ⟨gz, 1, none⟩ = some (.int .i64 z.r) ∧ W.cell? ⟨gz, 2, none⟩ = some (.int .i64 z.u) ∧ W.cell? ⟨gz, 3, none⟩ = some (.int .i64 z.e) := by
  obtain ⟨a0, a1, a2, a3, a4, a5, _⟩ := cells6 p.xa
  obtain ⟨b0, b1, b2, b3, b4, b5, _⟩ := cells6 p.xb
  obtain ⟨d0, d1, d2, d3, _⟩ := cells4 p.xz
  exact ⟨a0, a1, a2, a3, a4, a5, b0, b1, b2, b3, b4, b5, d0, d1, d2, d3⟩
theorem join_at (a b : We) (w : World) (hW : Wt w) (ha : Byw a) (hb : Byw b) :
    Calls Tryz.prog 138 #[weV a, weV b] w fun y w' => y = .returned (joinV (joinL a b)) ∧ Below w.heap.size w w' := by
  have J0 : Jb w w.heap.size (w.heap.size + 1) (w.heap.size + 1 + 1) (w.heap.size + 1 + 1 + 1) a b zeroWe ⟨0, 0, 0, 0⟩ ((((w.alloc (.cells (wc a) 47)).alloc (.cells (wc b) 47)).alloc (.cells (wc zeroWe) 47)).alloc (.cells (zc ⟨0, 0, 0, 0⟩) 45)) := by
    have za : (w.alloc (.cells (wc a) 47)).heap.size = w.heap.size + 1 := World.size_alloc ..
    have zb : ((w.alloc (.cells (wc a) 47)).alloc (.cells (wc b) 47)).heap.size = w.heap.size + 1 + 1 := by rw [World.size_alloc, za]
    have zr : (((w.alloc (.cells (wc a) 47)).alloc (.cells (wc b) 47)).alloc (.cells (wc zeroWe) 47)).heap.size = w.heap.size + 1 + 1 + 1 := by rw [World.size_alloc, zb]
    have zz : ((((w.alloc (.cells (wc a) 47)).alloc (.cells (wc b) 47)).alloc (.cells (wc zeroWe) 47)).alloc (.cells (zc ⟨0, 0, 0, 0⟩) 45)).heap.size = w.heap.size + 1 + 1 + 1 + 1 := by rw [World.size_alloc, zr]
    refine ⟨?_, ?_, ?_, ?_, ((((Below.refl _ _).alloc (Nat.le_refl _) _).alloc (by omega) _).alloc (by omega) _).alloc (by omega) _, ⟨by omega, by omega, by omega, by omega⟩, ⟨by omega, by omega, by omega, by omega⟩⟩
    · rw [heap_alloc_old _ _ (by omega), heap_alloc_old _ _ (by omega), heap_alloc_old _ _ (by omega)]
      exact push_get w _
    · rw [heap_alloc_old _ _ (by omega), heap_alloc_old _ _ (by omega)]
      have := push_get (w.alloc (.cells (wc a) 47)) (.cells (wc b) 47)
      rwa [za] at this
    · rw [heap_alloc_old _ _ (by omega)]
      have := push_get ((w.alloc (.cells (wc a) 47)).alloc (.cells (wc b) 47)) (.cells (wc zeroWe) 47)
      rwa [zb] at this
    · have := push_get (((w.alloc (.cells (wc a) 47)).alloc (.cells (wc b) 47)).alloc (.cells (wc zeroWe) 47)) (.cells (zc ⟨0, 0, 0, 0⟩) 45)
      rwa [zr] at this
  have HJ0 := hide J0
  clear J0
  unfold weV
  go_enter Tryz.func138, Tryz.ntmps138
  go_upto_region 1 with fail
  have HJ1 : Hid (Jb w w.heap.size (w.heap.size + 1) (w.heap.size + 1 + 1) (w.heap.size + 1 + 1 + 1) a b zeroWe ⟨0, 0, 0, 0⟩ ((((w.alloc (.cells #[.int .i64 a.z.b, .int .i64 a.z.r, .int .i64 a.z.u, .int .i64 a.z.e, .string (strOfNums a.h), .string (strOfNums a.t)] 47)).alloc (.cells #[.int .i64 b.z.b, .int .i64 b.z.r, .int .i64 b.z.u, .int .i64 b.z.e, .string (strOfNums b.h), .string (strOfNums b.t)] 47)).alloc (.cells #[.int .i64 0, .int .i64 0, .int .i64 0, .int .i64 0, .string ⟨#[]⟩, .string ⟨#[]⟩] 47)).alloc (.cells #[.int .i64 0, .int .i64 0, .int .i64 0, .int .i64 0] 45))) := HJ0
  clear HJ0
  generalize ((((w.alloc (.cells #[.int .i64 a.z.b, .int .i64 a.z.r, .int .i64 a.z.u, .int .i64 a.z.e, .string (strOfNums a.h), .string (strOfNums a.t)] 47)).alloc (.cells #[.int .i64 b.z.b, .int .i64 b.z.r, .int .i64 b.z.u, .int .i64 b.z.e, .string (strOfNums b.h), .string (strOfNums b.t)] 47)).alloc (.cells #[.int .i64 0, .int .i64 0, .int .i64 0, .int .i64 0, .string ⟨#[]⟩, .string ⟨#[]⟩] 47)).alloc (.cells #[.int .i64 0, .int .i64 0, .int .i64 0, .int .i64 0] 45)) = w1 at *
  have hd1 : w.heap.size < w.heap.size + 1 := by omega
  have hd2 : w.heap.size + 1 < w.heap.size + 1 + 1 := by omega
  have hd3 : w.heap.size + 1 + 1 < w.heap.size + 1 + 1 + 1 := by omega
  generalize w.heap.size + 1 + 1 + 1 = gz at *
  generalize w.heap.size + 1 + 1 = gr at *
  generalize w.heap.size + 1 = gb at *
  have n1 : ¬ gr = gz := by omega
  have n2 : ¬ gz = gr := by omega
  have TV : Hid (∀ (x : We), Byw x → ∀ wx, Below w.heap.size w wx → Calls Tryz.prog 147 #[.agg #[.int .i64 x.z.b, .int .i64 x.z.r, .int .i64 x.z.u, .int .i64 x.z.e, .string (strOfNums x.h), .string (strOfNums x.t)]] wx fun y w' => y = .returned (.bool (validB x)) ∧ Below wx.heap.size wx w') := hide (fun x hx wx hb => ValidW_at x wx (hW.below hb) hx)
  obtain ⟨a0, a1, a2, a3, a4, a5, _⟩ := cells6 (unhide HJ1).xa
  go_wp2_with fail
  refine (unhide TV a ha w1 (unhide HJ1).below).mono ?_
  rintro y w2 ⟨rfl, b2⟩
  have HJ2 := hide ((unhide HJ1).on b2)
  clear HJ1 b2 a0 a1 a2 a3 a4 a5
  dsimp only
  cases hva : validB a with
  | false =>
    have hj : joinL a b = (zeroWe, ⟨0, 0, 0, 0⟩, 50) := by unfold joinL; rw [hva]; rfl
    obtain ⟨c0, c1, c2, c3, c4, c5, f, d0, d1, d2, d3, k⟩ := (unhide HJ2).ret
    have f0 := f 0
    have f1 := f 1
    have f2 := f 2
    have f3 := f 3
    have f4 := f 4
    have f5 := f 5
    have k0 := k 0
    have k1 := k 1
    have k2 := k 2
    have k3 := k 3
    have HF : Hid (Jb w w.heap.size gb gr gz a b zeroWe ⟨0, 0, 0, 0⟩ ((((((((((w2.setCell ⟨gr, 0, none⟩ (.int .i64 0)).setCell ⟨gr, 1, none⟩ (.int .i64 0)).setCell ⟨gr, 2, none⟩ (.int .i64 0)).setCell ⟨gr, 3, none⟩ (.int .i64 0)).setCell ⟨gr, 4, none⟩ (.string ⟨#[]⟩)).setCell ⟨gr, 5, none⟩ (.string ⟨#[]⟩)).setCell ⟨gz, 0, none⟩ (.int .i64 0)).setCell ⟨gz, 1, none⟩ (.int .i64 0)).setCell ⟨gz, 2, none⟩ (.int .i64 0)).setCell ⟨gz, 3, none⟩ (.int .i64 0))) := hide (((unhide HJ2).setr zeroWe (by omega) (by omega) (by omega)).setz ⟨0, 0, 0, 0⟩ (by omega) (by omega) (by omega))
    clear f k
    try dsimp only
    go_wp2_with fail
    clear c0 c1 c2 c3 c4 c5 d0 d1 d2 d3 f0 f1 f2 f3 f4 f5 k0 k1 k2 k3
    generalize ((((((((((w2.setCell ⟨gr, 0, none⟩ (.int .i64 0)).setCell ⟨gr, 1, none⟩ (.int .i64 0)).setCell ⟨gr, 2, none⟩ (.int .i64 0)).setCell ⟨gr, 3, none⟩ (.int .i64 0)).setCell ⟨gr, 4, none⟩ (.string ⟨#[]⟩)).setCell ⟨gr, 5, none⟩ (.string ⟨#[]⟩)).setCell ⟨gz, 0, none⟩ (.int .i64 0)).setCell ⟨gz, 1, none⟩ (.int .i64 0)).setCell ⟨gz, 2, none⟩ (.int .i64 0)).setCell ⟨gz, 3, none⟩ (.int .i64 0)) = wf at *
    obtain ⟨c0, c1, c2, c3, c4, c5, _, d0, d1, d2, d3, _⟩ := (unhide HF).ret
    refine bodyPost_ret (v := joinV (zeroWe, ⟨0, 0, 0, 0⟩, 50)) (by simp [results, Tryz.results138, go_sem, c0, c1, c2, c3, c4, c5, d0, d1, d2, d3, joinV, weV, szV]) rfl ⟨by first | rfl | rw [hj], (unhide HF).below⟩
  | true =>
    have hia := valid_in hva
    obtain ⟨b0, b1, b2, b3, b4, b5, _⟩ := cells6 (unhide HJ2).xb
    go_wp2_with fail
    refine (unhide TV b hb w2 (unhide HJ2).below).mono ?_
    rintro y w3 ⟨rfl, q3⟩
    have HJ3 := hide ((unhide HJ2).on q3)
    clear HJ2 q3 b0 b1 b2 b3 b4 b5
    dsimp only
    cases hvb : validB b with
    | false =>
      have hj : joinL a b = (zeroWe, ⟨0, 0, 0, 0⟩, 50) := by unfold joinL; rw [hva, hvb]; rfl
      obtain ⟨c0, c1, c2, c3, c4, c5, f, d0, d1, d2, d3, k⟩ := (unhide HJ3).ret
      have f0 := f 0
      have f1 := f 1
      have f2 := f 2
      have f3 := f 3
      have f4 := f 4
      have f5 := f 5
      have k0 := k 0
      have k1 := k 1
      have k2 := k 2
      have k3 := k 3
      have HF : Hid (Jb w w.heap.size gb gr gz a b zeroWe ⟨0, 0, 0, 0⟩ ((((((((((w3.setCell ⟨gr, 0, none⟩ (.int .i64 0)).setCell ⟨gr, 1, none⟩ (.int .i64 0)).setCell ⟨gr, 2, none⟩ (.int .i64 0)).setCell ⟨gr, 3, none⟩ (.int .i64 0)).setCell ⟨gr, 4, none⟩ (.string ⟨#[]⟩)).setCell ⟨gr, 5, none⟩ (.string ⟨#[]⟩)).setCell ⟨gz, 0, none⟩ (.int .i64 0)).setCell ⟨gz, 1, none⟩ (.int .i64 0)).setCell ⟨gz, 2, none⟩ (.int .i64 0)).setCell ⟨gz, 3, none⟩ (.int .i64 0))) := hide (((unhide HJ3).setr zeroWe (by omega) (by omega) (by omega)).setz ⟨0, 0, 0, 0⟩ (by omega) (by omega) (by omega))
      clear f k
      try dsimp only
      go_wp2_with fail
      clear c0 c1 c2 c3 c4 c5 d0 d1 d2 d3 f0 f1 f2 f3 f4 f5 k0 k1 k2 k3
      generalize ((((((((((w3.setCell ⟨gr, 0, none⟩ (.int .i64 0)).setCell ⟨gr, 1, none⟩ (.int .i64 0)).setCell ⟨gr, 2, none⟩ (.int .i64 0)).setCell ⟨gr, 3, none⟩ (.int .i64 0)).setCell ⟨gr, 4, none⟩ (.string ⟨#[]⟩)).setCell ⟨gr, 5, none⟩ (.string ⟨#[]⟩)).setCell ⟨gz, 0, none⟩ (.int .i64 0)).setCell ⟨gz, 1, none⟩ (.int .i64 0)).setCell ⟨gz, 2, none⟩ (.int .i64 0)).setCell ⟨gz, 3, none⟩ (.int .i64 0)) = wf at *
      obtain ⟨c0, c1, c2, c3, c4, c5, _, d0, d1, d2, d3, _⟩ := (unhide HF).ret
      refine bodyPost_ret (v := joinV (zeroWe, ⟨0, 0, 0, 0⟩, 50)) (by simp [results, Tryz.results138, go_sem, c0, c1, c2, c3, c4, c5, d0, d1, d2, d3, joinV, weV, szV]) rfl ⟨by first | rfl | rw [hj], (unhide HF).below⟩
    | true =>
      have hib := valid_in hvb
      obtain ⟨za, ha3, ta3, la0, la1, _, _⟩ := hia
      obtain ⟨zb, hb3, tb3, lb0, lb1, _, _⟩ := hib
      obtain ⟨a0, a1, a2, a3, a4, a5, _⟩ := cells6 (unhide HJ3).xa
      obtain ⟨b0, b1, b2, b3, b4, b5, _⟩ := cells6 (unhide HJ3).xb
      by_cases hlong : 268435456 < a.z.b + b.z.b
      · have hj : joinL a b = (zeroWe, ⟨0, 0, 0, 0⟩, 5) := by unfold joinL; rw [hva, hvb, if_neg (by decide), if_pos hlong]
        obtain ⟨c0, c1, c2, c3, c4, c5, f, d0, d1, d2, d3, k⟩ := (unhide HJ3).ret
        have f0 := f 0
        have f1 := f 1
        have f2 := f 2
        have f3 := f 3
        have f4 := f 4
        have f5 := f 5
        have k0 := k 0
        have k1 := k 1
        have k2 := k 2
        have k3 := k 3
        have HF : Hid (Jb w w.heap.size gb gr gz a b zeroWe ⟨0, 0, 0, 0⟩ ((((((((((w3.setCell ⟨gr, 0, none⟩ (.int .i64 0)).setCell ⟨gr, 1, none⟩ (.int .i64 0)).setCell ⟨gr, 2, none⟩ (.int .i64 0)).setCell ⟨gr, 3, none⟩ (.int .i64 0)).setCell ⟨gr, 4, none⟩ (.string ⟨#[]⟩)).setCell ⟨gr, 5, none⟩ (.string ⟨#[]⟩)).setCell ⟨gz, 0, none⟩ (.int .i64 0)).setCell ⟨gz, 1, none⟩ (.int .i64 0)).setCell ⟨gz, 2, none⟩ (.int .i64 0)).setCell ⟨gz, 3, none⟩ (.int .i64 0))) := hide (((unhide HJ3).setr zeroWe (by omega) (by omega) (by omega)).setz ⟨0, 0, 0, 0⟩ (by omega) (by omega) (by omega))
        clear f k
        try dsimp only
        go_wp2_with fail
        clear c0 c1 c2 c3 c4 c5 d0 d1 d2 d3 f0 f1 f2 f3 f4 f5 k0 k1 k2 k3
        generalize ((((((((((w3.setCell ⟨gr, 0, none⟩ (.int .i64 0)).setCell ⟨gr, 1, none⟩ (.int .i64 0)).setCell ⟨gr, 2, none⟩ (.int .i64 0)).setCell ⟨gr, 3, none⟩ (.int .i64 0)).setCell ⟨gr, 4, none⟩ (.string ⟨#[]⟩)).setCell ⟨gr, 5, none⟩ (.string ⟨#[]⟩)).setCell ⟨gz, 0, none⟩ (.int .i64 0)).setCell ⟨gz, 1, none⟩ (.int .i64 0)).setCell ⟨gz, 2, none⟩ (.int .i64 0)).setCell ⟨gz, 3, none⟩ (.int .i64 0)) = wf at *
        obtain ⟨c0, c1, c2, c3, c4, c5, _, d0, d1, d2, d3, _⟩ := (unhide HF).ret
        refine bodyPost_ret (v := joinV (zeroWe, ⟨0, 0, 0, 0⟩, 5)) (by simp [results, Tryz.results138, go_sem, c0, c1, c2, c3, c4, c5, d0, d1, d2, d3, joinV, weV, szV]) rfl ⟨by first | rfl | rw [hj], (unhide HF).below⟩
      · have ZA := hide za
        have ZB := hide zb
        clear za zb
        go_wp2_with fail
        refine (seam_at a.t b.h w3 (hW.below (unhide HJ3).below) ha.t hb.h ta3 hb3).mono ?_
        unfold szV
        rintro y w4 ⟨rfl, q4⟩
        dsimp only
        obtain ⟨_, _, _, _, _, _, _, d0, d1, d2, d3, k⟩ := ((unhide HJ3).on q4).ret
        have k0 := k 0
        have k1 := k 1
        have k2 := k 2
        have k3 := k 3
        have HJ5 : Hid (Jb w w.heap.size gb gr gz a b zeroWe (seamL a.t b.h) ((((w4.setCell ⟨gz, 0, none⟩ (.int .i64 (seamL a.t b.h).b)).setCell ⟨gz, 1, none⟩ (.int .i64 (seamL a.t b.h).r)).setCell ⟨gz, 2, none⟩ (.int .i64 (seamL a.t b.h).u)).setCell ⟨gz, 3, none⟩ (.int .i64 (seamL a.t b.h).e))) := hide (((unhide HJ3).on q4).setz (seamL a.t b.h) (by omega) (by omega) (by omega))
        clear k a0 a1 a2 a3 a4 a5 b0 b1 b2 b3 b4 b5
        go_upto_region 6 with fail
        clear d0 d1 d2 d3 k0 k1 k2 k3 HJ3 q4
        generalize ((((w4.setCell ⟨gz, 0, none⟩ (.int .i64 (seamL a.t b.h).b)).setCell ⟨gz, 1, none⟩ (.int .i64 (seamL a.t b.h).r)).setCell ⟨gz, 2, none⟩ (.int .i64 (seamL a.t b.h).u)).setCell ⟨gz, 3, none⟩ (.int .i64 (seamL a.t b.h).e)) = w5 at *
        have HLD : Hid (¬ 268435456 < a.z.b + b.z.b) := hide (by omega)
        have HA := hide ha
        have HB := hide hb
        have HW := hide hW
        clear hlong ha hb hW
        go_cut [52] (fun _ wz => Hid (Jb w w.heap.size gb gr gz a b (bothW a b) (seamL a.t b.h) wz))
        case first =>
          have HJ6 : Hid (Jb w w.heap.size gb gr gz a b zeroWe (seamL a.t b.h) w5.drew) := hide ((unhide HJ5).on (Below.drewN (Below.refl _ _) 1))
          have HS0 := hide (unhide HJ6).all
          clear HJ5
          have cath : ¬ 9223372036854775807 < (strOfNums a.h).size + (strOfNums b.h).size := by rw [strOfNums_size, strOfNums_size]; omega
          have catt : ¬ 9223372036854775807 < (strOfNums a.t).size + (strOfNums b.t).size := by rw [strOfNums_size, strOfNums_size]; omega
          obtain ⟨ph, hph⟩ : ∃ ph, ph = a.h ++ b.h := ⟨_, rfl⟩
          obtain ⟨pt, hpt⟩ : ∃ pt, pt = a.t ++ b.t := ⟨_, rfl⟩
          have aph : strOfNums a.h ++ strOfNums b.h = strOfNums ph := by rw [hph]; exact str_app a.h b.h
          have apt : strOfNums a.t ++ strOfNums b.t = strOfNums pt := by rw [hpt]; exact str_app a.t b.t
          have HBW : Hid (bothW a b = ⟨addZ a.z b.z (seamL a.t b.h), ph.take 3, tail3 pt⟩) := hide (by rw [hph, hpt]; rfl)
          have HPHB : Hid (∀ x ∈ ph, 0 ≤ x ∧ x ≤ 255) := hide (fun x hx => by
            rw [hph] at hx
            rcases List.mem_append.1 hx with hx | hx
            · exact (unhide HA).h x hx
            · exact (unhide HB).h x hx)
          have HPTB : Hid (∀ x ∈ pt, 0 ≤ x ∧ x ≤ 255) := hide (fun x hx => by
            rw [hpt] at hx
            rcases List.mem_append.1 hx with hx | hx
            · exact (unhide HA).t x hx
            · exact (unhide HB).t x hx)
          have lph : ph.length ≤ 6 := by rw [hph, List.length_append]; omega
          have lpt : pt.length ≤ 6 := by rw [hpt, List.length_append]; omega
          clear hph hpt
          refine regionL (S := fun w' => w'.cell? ⟨w.heap.size, 0, none⟩ = some (.int .i64 a.z.b) ∧ w'.cell? ⟨w.heap.size, 1, none⟩ = some (.int .i64 a.z.r) ∧ w'.cell? ⟨w.heap.size, 2, none⟩ = some (.int .i64 a.z.u) ∧ w'.cell? ⟨w.heap.size, 3, none⟩ = some (.int .i64 a.z.e) ∧ w'.cell? ⟨w.heap.size, 4, none⟩ = some (.string (strOfNums a.h)) ∧ w'.cell? ⟨w.heap.size, 5, none⟩ = some (.string (strOfNums a.t)) ∧ w'.cell? ⟨gb, 0, none⟩ = some (.int .i64 b.z.b) ∧ w'.cell? ⟨gb, 1, none⟩ = some (.int .i64 b.z.r) ∧ w'.cell? ⟨gb, 2, none⟩ = some (.int .i64 b.z.u) ∧ w'.cell? ⟨gb, 3, none⟩ = some (.int .i64 b.z.e) ∧ w'.cell? ⟨gb, 4, none⟩ = some (.string (strOfNums b.h)) ∧ w'.cell? ⟨gb, 5, none⟩ = some (.string (strOfNums b.t)) ∧ w'.cell? ⟨gz, 0, none⟩ = some (.int .i64 (seamL a.t b.h).b) ∧ w'.cell? ⟨gz, 1, none⟩ = some (.int .i64 (seamL a.t b.h).r) ∧ w'.cell? ⟨gz, 2, none⟩ = some (.int .i64 (seamL a.t b.h).u) ∧ w'.cell? ⟨gz, 3, none⟩ = some (.int .i64 (seamL a.t b.h).e)) (fun i => i == 21) (by kernel_rfl) ?_
          generalize w5.drew = wd at *
          refine anyL_take (i := 0) (v := ?v0) rfl (by kernel_rfl) (by kernel_rfl) (by kernel_rfl) (by kernel_rfl) (fun _ _ _ h => h) (Or.inl ⟨by rfl, ?h0⟩) (unhide HS0) ?_
          case h0 => (intro w hSw; (try dsimp only at hSw); go_simp) <;> with_reducible rfl
          simp only [Act.put, List.getElem_toArray, List.getElem_cons_zero, List.setIfInBounds_toArray, List.set_cons_zero, List.set_cons_succ]
          refine anyL_take (i := 1) (v := ?v1) rfl (by kernel_rfl) (by kernel_rfl) (by kernel_rfl) (by kernel_rfl) (fun _ _ _ h => h) (Or.inl ⟨by rfl, ?h1⟩) (unhide HS0) ?_
          case h1 => (intro w hSw; (try dsimp only at hSw); go_simp) <;> with_reducible rfl
          simp only [Act.put, List.getElem_toArray, List.getElem_cons_zero, List.getElem_cons_succ, List.setIfInBounds_toArray, List.set_cons_zero, List.set_cons_succ]
          refine anyL_take (i := 2) (v := ?v2) rfl (by kernel_rfl) (by kernel_rfl) (by kernel_rfl) (by kernel_rfl) (fun _ _ _ h => h) (Or.inl ⟨by rfl, ?h2⟩) (unhide HS0) ?_
          case h2 => (intro w hSw; (try dsimp only at hSw); go_simp) <;> with_reducible rfl
          simp only [Act.put, List.getElem_toArray, List.getElem_cons_zero, List.getElem_cons_succ, List.setIfInBounds_toArray, List.set_cons_zero, List.set_cons_succ]
          refine anyL_take (i := 3) (v := ?v3) rfl (by kernel_rfl) (by kernel_rfl) (by kernel_rfl) (by kernel_rfl) (fun _ _ _ h => h) (Or.inl ⟨by rfl, ?h3⟩) (unhide HS0) ?_
          case h3 => (intro w hSw; (try dsimp only at hSw); go_simp) <;> with_reducible rfl
          simp only [Act.put, List.getElem_toArray, List.getElem_cons_zero, List.getElem_cons_succ, List.setIfInBounds_toArray, List.set_cons_zero, List.set_cons_succ]
          refine anyL_take (i := 4) (v := ?v4) rfl (by kernel_rfl) (by kernel_rfl) (by kernel_rfl) (by kernel_rfl) (fun _ _ _ h => h) (Or.inl ⟨by rfl, ?h4⟩) (unhide HS0) ?_
          case h4 => (intro w hSw; (try dsimp only at hSw); go_simp) <;> with_reducible rfl
          simp only [Act.put, List.getElem_toArray, List.getElem_cons_zero, List.getElem_cons_succ, List.setIfInBounds_toArray, List.set_cons_zero, List.set_cons_succ]
          refine anyL_take (i := 6) (v := ?v6) rfl (by kernel_rfl) (by kernel_rfl) (by kernel_rfl) (by kernel_rfl) (fun _ _ _ h => h) (Or.inl ⟨by rfl, ?h6⟩) (unhide HS0) ?_
          case h6 => (intro w hSw; (try dsimp only at hSw); go_simp) <;> with_reducible rfl
          simp only [Act.put, List.getElem_toArray, List.getElem_cons_zero, List.getElem_cons_succ, List.setIfInBounds_toArray, List.set_cons_zero, List.set_cons_succ]
          refine anyL_take (i := 7) (v := ?v7) rfl (by kernel_rfl) (by kernel_rfl) (by kernel_rfl) (by kernel_rfl) (fun _ _ _ h => h) (Or.inl ⟨by rfl, ?h7⟩) (unhide HS0) ?_
          case h7 => (intro w hSw; (try dsimp only at hSw); go_simp) <;> with_reducible rfl
          simp only [Act.put, List.getElem_toArray, List.getElem_cons_zero, List.getElem_cons_succ, List.setIfInBounds_toArray, List.set_cons_zero, List.set_cons_succ]
          refine anyL_take (i := 8) (v := ?v8) rfl (by kernel_rfl) (by kernel_rfl) (by kernel_rfl) (by kernel_rfl) (fun _ _ _ h => h) (Or.inl ⟨by rfl, ?h8⟩) (unhide HS0) ?_
          case h8 => (intro w hSw; (try dsimp only at hSw); go_simp) <;> with_reducible rfl
          simp only [Act.put, List.getElem_toArray, List.getElem_cons_zero, List.getElem_cons_succ, List.setIfInBounds_toArray, List.set_cons_zero, List.set_cons_succ]
          refine anyL_take (i := 9) (v := ?v9) rfl (by kernel_rfl) (by kernel_rfl) (by kernel_rfl) (by kernel_rfl) (fun _ _ _ h => h) (Or.inl ⟨by rfl, ?h9⟩) (unhide HS0) ?_
          case h9 => (intro w hSw; (try dsimp only at hSw); go_simp) <;> with_reducible rfl
          simp only [Act.put, List.getElem_toArray, List.getElem_cons_zero, List.getElem_cons_succ, List.setIfInBounds_toArray, List.set_cons_zero, List.set_cons_succ]
          refine anyL_take (i := 10) (v := ?v10) rfl (by kernel_rfl) (by kernel_rfl) (by kernel_rfl) (by kernel_rfl) (fun _ _ _ h => h) (Or.inl ⟨by rfl, ?h10⟩) (unhide HS0) ?_
          case h10 => (intro w hSw; (try dsimp only at hSw); go_simp) <;> with_reducible rfl
          simp only [Act.put, List.getElem_toArray, List.getElem_cons_zero, List.getElem_cons_succ, List.setIfInBounds_toArray, List.set_cons_zero, List.set_cons_succ]
          refine anyL_take (i := 13) (v := ?v13) rfl (by kernel_rfl) (by kernel_rfl) (by kernel_rfl) (by kernel_rfl) (fun _ _ _ h => h) (Or.inl ⟨by rfl, ?h13⟩) (unhide HS0) ?_
          case h13 => (intro w hSw; (try dsimp only at hSw); go_simp) <;> with_reducible rfl
          simp only [Act.put, List.getElem_toArray, List.getElem_cons_zero, List.getElem_cons_succ, List.setIfInBounds_toArray, List.set_cons_zero, List.set_cons_succ]
          refine anyL_take (i := 14) (v := ?v14) rfl (by kernel_rfl) (by kernel_rfl) (by kernel_rfl) (by kernel_rfl) (fun _ _ _ h => h) (Or.inl ⟨by rfl, ?h14⟩) (unhide HS0) ?_
          case h14 => (intro w hSw; (try dsimp only at hSw); go_simp) <;> with_reducible rfl
          simp only [Act.put, List.getElem_toArray, List.getElem_cons_zero, List.getElem_cons_succ, List.setIfInBounds_toArray, List.set_cons_zero, List.set_cons_succ]
          refine anyL_take (i := 15) (v := ?v15) rfl (by kernel_rfl) (by kernel_rfl) (by kernel_rfl) (by kernel_rfl) (fun _ _ _ h => h) (Or.inl ⟨by rfl, ?h15⟩) (unhide HS0) ?_
          case h15 => (intro w hSw; (try dsimp only at hSw); go_simp) <;> with_reducible rfl
          simp only [Act.put, List.getElem_toArray, List.getElem_cons_zero, List.getElem_cons_succ, List.setIfInBounds_toArray, List.set_cons_zero, List.set_cons_succ]
          refine anyL_take (i := 16) (v := ?v16) rfl (by kernel_rfl) (by kernel_rfl) (by kernel_rfl) (by kernel_rfl) (fun _ _ _ h => h) (Or.inl ⟨by rfl, ?h16⟩) (unhide HS0) ?_
          case h16 => (intro w hSw; (try dsimp only at hSw); go_simp) <;> with_reducible rfl
          simp only [Act.put, List.getElem_toArray, List.getElem_cons_zero, List.getElem_cons_succ, List.setIfInBounds_toArray, List.set_cons_zero, List.set_cons_succ]
          refine anyL_take (i := 17) (v := ?v17) rfl (by kernel_rfl) (by kernel_rfl) (by kernel_rfl) (by kernel_rfl) (fun _ _ _ h => h) (Or.inl ⟨by rfl, ?h17⟩) (unhide HS0) ?_
          case h17 => (intro w hSw; (try dsimp only at hSw); go_simp) <;> with_reducible rfl
          simp only [Act.put, List.getElem_toArray, List.getElem_cons_zero, List.getElem_cons_succ, List.setIfInBounds_toArray, List.set_cons_zero, List.set_cons_succ]
          refine anyL_ready (rs := [5, 11, 18]) (by kernel_rfl) (by simp) ?_
          refine AllL.cons rfl (fun K hK => ?_) (AllL.cons rfl (fun K hK => ?_) (AllL.cons rfl (fun K hK => ?_) AllL.nil))
          · go_simp
            refine (joined_at a.z b.z (seamL a.t b.h) wd (unhide ZA) (unhide ZB) seamL_in.1).mono ?_
            unfold szV
            rintro y wA1 ⟨rfl, q⟩
            have HJA1 := hide ((unhide HJ6).on q)
            try dsimp only
            refine unhide hK _ _ (fun _ => (unhide HJA1).all) ?_
            clear hK K HJ6 q
            refine anyL_ready (rs := [11, 18]) (by kernel_rfl) (by simp) ?_
            refine AllL.cons rfl (fun K hK => ?_) (AllL.cons rfl (fun K hK => ?_) AllL.nil)
            · obtain ⟨c11, wA2, r11, i11, q, _⟩ := toBytes wA1 ph (unhide HPHB) (by omega)
              go_simp
              clear r11
              have HJA2 := hide ((unhide HJA1).on q)
              try dsimp only
              refine unhide hK _ _ (fun _ => (unhide HJA2).all) ?_
              clear hK K HJA1 q
              refine anyL_ready (rs := [12, 18]) (by kernel_rfl) (by simp) ?_
              refine AllL.cons rfl (fun K hK => ?_) (AllL.cons rfl (fun K hK => ?_) AllL.nil)
              · go_simp
                refine (head_at (some ⟨wA1.heap.size, 0, none⟩) c11 ph wA2 i11.1).mono ?_
                rintro y wq ⟨rfl, nq, rfl⟩
                have q : Below wA2.heap.size wA2 (wA2.drewN nq) := Below.drewN (Below.refl _ _) nq
                have i11 := i11.below q (Nat.le_refl _)
                have HJA3 := hide ((unhide HJA2).on q)
                try dsimp only
                clear q
                generalize wA2.drewN nq = wA3 at *
                refine unhide hK _ _ (fun _ => (unhide HJA3).all) ?_
                clear hK K HJA2
                refine anyL_ready (rs := [18]) (by kernel_rfl) (by simp) ?_
                refine AllL.cons rfl (fun K hK => ?_) AllL.nil
                obtain ⟨c18, wA4, r18, i18, q, _⟩ := toBytes wA3 pt (unhide HPTB) (by omega)
                go_simp
                clear r18
                have i11 := i11.below q (Nat.le_refl _)
                have HJA4 := hide ((unhide HJA3).on q)
                try dsimp only
                refine unhide hK _ _ (fun _ => (unhide HJA4).all) ?_
                clear hK K HJA3 q
                refine anyL_ready (rs := [19]) (by kernel_rfl) (by simp) ?_
                refine AllL.cons rfl (fun K hK => ?_) AllL.nil
                go_simp
                refine (tail_at (some ⟨wA3.heap.size, 0, none⟩) c18 pt wA4 i18.1).mono ?_
                rintro y wq ⟨rfl, nq, rfl⟩
                have q : Below wA4.heap.size wA4 (wA4.drewN nq) := Below.drewN (Below.refl _ _) nq
                have i11 := i11.below q (Nat.le_refl _)
                have i18 := i18.below q (Nat.le_refl _)
                have HJA5 := hide ((unhide HJA4).on q)
                try dsimp only
                clear q
                generalize wA4.drewN nq = wA5 at *
                refine unhide hK _ _ (fun _ => (unhide HJA5).all) ?_
                clear hK K HJA4
                have HSL := hide (unhide HJA5).all
                refine anyL_take (i := 20) (v := ?z1) rfl (by kernel_rfl) (by kernel_rfl) (by kernel_rfl) (by kernel_rfl) (fun _ _ _ h => h) (Or.inl ⟨by rfl, ?gz1⟩) (unhide HSL) ?_
                case gz1 => (intro w hSw; (try dsimp only at hSw); go_simp) <;> with_reducible rfl
                simp only [Act.put, List.getElem_toArray, List.getElem_cons_zero, List.getElem_cons_succ, List.setIfInBounds_toArray, List.set_cons_zero, List.set_cons_succ]
                obtain ⟨c0, c1, c2, c3, c4, c5, f, _⟩ := (unhide HJA5).ret
                have f0 := f 0
                have f1 := f 1
                have f2 := f 2
                have f3 := f 3
                have f4 := f 4
                have f5 := f 5
                clear f
                have HF : Hid (Jb w w.heap.size gb gr gz a b (bothW a b) (seamL a.t b.h) ((((((wA5.setCell ⟨gr, 0, none⟩ (.int .i64 (addZ a.z b.z (seamL a.t b.h)).b)).setCell ⟨gr, 1, none⟩ (.int .i64 (addZ a.z b.z (seamL a.t b.h)).r)).setCell ⟨gr, 2, none⟩ (.int .i64 (addZ a.z b.z (seamL a.t b.h)).u)).setCell ⟨gr, 3, none⟩ (.int .i64 (addZ a.z b.z (seamL a.t b.h)).e)).setCell ⟨gr, 4, none⟩ (.string (strOfNums (ph.take 3)))).setCell ⟨gr, 5, none⟩ (.string (strOfNums (tail3 pt))))) := hide (by rw [unhide HBW]; exact (unhide HJA5).setr _ (by omega) (by omega) (by omega))
                refine anyL_ready (rs := [21]) (by kernel_rfl) (by simp) ?_
                refine AllL.cons rfl (fun K hK => ?_) AllL.nil
                go_simp
                refine unhide hK _ _ (fun h => absurd h (by decide)) ?_
                clear hK K
                refine anyL_done (by kernel_rfl) ?_ _
                go_wp2_with fail
                go_meet
                exact HF
              · obtain ⟨c18, wA3, r18, i18, q, _⟩ := toBytes wA2 pt (unhide HPTB) (by omega)
                go_simp
                clear r18
                have i11 := i11.below q (Nat.le_refl _)
                have HJA3 := hide ((unhide HJA2).on q)
                try dsimp only
                refine unhide hK _ _ (fun _ => (unhide HJA3).all) ?_
                clear hK K HJA2 q
                refine anyL_ready (rs := [12]) (by kernel_rfl) (by simp) ?_
                refine AllL.cons rfl (fun K hK => ?_) AllL.nil
                go_simp
                refine (head_at (some ⟨wA1.heap.size, 0, none⟩) c11 ph wA3 i11.1).mono ?_
                rintro y wq ⟨rfl, nq, rfl⟩
                have q : Below wA3.heap.size wA3 (wA3.drewN nq) := Below.drewN (Below.refl _ _) nq
                have i11 := i11.below q (Nat.le_refl _)
                have i18 := i18.below q (Nat.le_refl _)
                have HJA4 := hide ((unhide HJA3).on q)
                try dsimp only
                clear q
                generalize wA3.drewN nq = wA4 at *
                refine unhide hK _ _ (fun _ => (unhide HJA4).all) ?_
                clear hK K HJA3
                refine anyL_ready (rs := [19]) (by kernel_rfl) (by simp) ?_
                refine AllL.cons rfl (fun K hK => ?_) AllL.nil
                go_simp
                refine (tail_at (some ⟨wA2.heap.size, 0, none⟩) c18 pt wA4 i18.1).mono ?_
                rintro y wq ⟨rfl, nq, rfl⟩
                have q : Below wA4.heap.size wA4 (wA4.drewN nq) := Below.drewN (Below.refl _ _) nq
                have i11 := i11.below q (Nat.le_refl _)
                have i18 := i18.below q (Nat.le_refl _)
                have HJA5 := hide ((unhide HJA4).on q)
                try dsimp only
                clear q
                generalize wA4.drewN nq = wA5 at *
                refine unhide hK _ _ (fun _ => (unhide HJA5).all) ?_
                clear hK K HJA4
                have HSL := hide (unhide HJA5).all
                refine anyL_take (i := 20) (v := ?z2) rfl (by kernel_rfl) (by kernel_rfl) (by kernel_rfl) (by kernel_rfl) (fun _ _ _ h => h) (Or.inl ⟨by rfl, ?gz2⟩) (unhide HSL) ?_
                case gz2 => (intro w hSw; (try dsimp only at hSw); go_simp) <;> with_reducible rfl
                simp only [Act.put, List.getElem_toArray, List.getElem_cons_zero, List.getElem_cons_succ, List.setIfInBounds_toArray, List.set_cons_zero, List.set_cons_succ]
                obtain ⟨c0, c1, c2, c3, c4, c5, f, _⟩ := (unhide HJA5).ret
                have f0 := f 0
                have f1 := f 1
                have f2 := f 2
                have f3 := f 3
                have f4 := f 4
                have f5 := f 5
                clear f
                have HF : Hid (Jb w w.heap.size gb gr gz a b (bothW a b) (seamL a.t b.h) ((((((wA5.setCell ⟨gr, 0, none⟩ (.int .i64 (addZ a.z b.z (seamL a.t b.h)).b)).setCell ⟨gr, 1, none⟩ (.int .i64 (addZ a.z b.z (seamL a.t b.h)).r)).setCell ⟨gr, 2, none⟩ (.int .i64 (addZ a.z b.z (seamL a.t b.h)).u)).setCell ⟨gr, 3, none⟩ (.int .i64 (addZ a.z b.z (seamL a.t b.h)).e)).setCell ⟨gr, 4, none⟩ (.string (strOfNums (ph.take 3)))).setCell ⟨gr, 5, none⟩ (.string (strOfNums (tail3 pt))))) := hide (by rw [unhide HBW]; exact (unhide HJA5).setr _ (by omega) (by omega) (by omega))
                refine anyL_ready (rs := [21]) (by kernel_rfl) (by simp) ?_
                refine AllL.cons rfl (fun K hK => ?_) AllL.nil
                go_simp
                refine unhide hK _ _ (fun h => absurd h (by decide)) ?_
                clear hK K
                refine anyL_done (by kernel_rfl) ?_ _
                go_wp2_with fail
                go_meet
                exact HF
            · obtain ⟨c18, wA2, r18, i18, q, _⟩ := toBytes wA1 pt (unhide HPTB) (by omega)
              go_simp
              clear r18
              have HJA2 := hide ((unhide HJA1).on q)
              try dsimp only
              refine unhide hK _ _ (fun _ => (unhide HJA2).all) ?_
              clear hK K HJA1 q
              refine anyL_ready (rs := [11]) (by kernel_rfl) (by simp) ?_
              refine AllL.cons rfl (fun K hK => ?_) AllL.nil
              obtain ⟨c11, wA3, r11, i11, q, _⟩ := toBytes wA2 ph (unhide HPHB) (by omega)
              go_simp
              clear r11
              have i18 := i18.below q (Nat.le_refl _)
              have HJA3 := hide ((unhide HJA2).on q)
              try dsimp only
              refine unhide hK _ _ (fun _ => (unhide HJA3).all) ?_
              clear hK K HJA2 q
              refine anyL_ready (rs := [12]) (by kernel_rfl) (by simp) ?_
              refine AllL.cons rfl (fun K hK => ?_) AllL.nil
              go_simp
              refine (head_at (some ⟨wA2.heap.size, 0, none⟩) c11 ph wA3 i11.1).mono ?_
              rintro y wq ⟨rfl, nq, rfl⟩
              have q : Below wA3.heap.size wA3 (wA3.drewN nq) := Below.drewN (Below.refl _ _) nq
              have i11 := i11.below q (Nat.le_refl _)
              have i18 := i18.below q (Nat.le_refl _)
              have HJA4 := hide ((unhide HJA3).on q)
              try dsimp only
              clear q
              generalize wA3.drewN nq = wA4 at *
              refine unhide hK _ _ (fun _ => (unhide HJA4).all) ?_
              clear hK K HJA3
              refine anyL_ready (rs := [19]) (by kernel_rfl) (by simp) ?_
              refine AllL.cons rfl (fun K hK => ?_) AllL.nil
              go_simp
              refine (tail_at (some ⟨wA1.heap.size, 0, none⟩) c18 pt wA4 i18.1).mono ?_
              rintro y wq ⟨rfl, nq, rfl⟩
              have q : Below wA4.heap.size wA4 (wA4.drewN nq) := Below.drewN (Below.refl _ _) nq
              have i11 := i11.below q (Nat.le_refl _)
              have i18 := i18.below q (Nat.le_refl _)
              have HJA5 := hide ((unhide HJA4).on q)
              try dsimp only
              clear q
              generalize wA4.drewN nq = wA5 at *
              refine unhide hK _ _ (fun _ => (unhide HJA5).all) ?_
              clear hK K HJA4
              have HSL := hide (unhide HJA5).all
              refine anyL_take (i := 20) (v := ?z3) rfl (by kernel_rfl) (by kernel_rfl) (by kernel_rfl) (by kernel_rfl) (fun _ _ _ h => h) (Or.inl ⟨by rfl, ?gz3⟩) (unhide HSL) ?_
              case gz3 => (intro w hSw; (try dsimp only at hSw); go_simp) <;> with_reducible rfl
              simp only [Act.put, List.getElem_toArray, List.getElem_cons_zero, List.getElem_cons_succ, List.setIfInBounds_toArray, List.set_cons_zero, List.set_cons_succ]
              obtain ⟨c0, c1, c2, c3, c4, c5, f, _⟩ := (unhide HJA5).ret
              have f0 := f 0
              have f1 := f 1
              have f2 := f 2
              have f3 := f 3
              have f4 := f 4
              have f5 := f 5
              clear f
              have HF : Hid (Jb w w.heap.size gb gr gz a b (bothW a b) (seamL a.t b.h) ((((((wA5.setCell ⟨gr, 0, none⟩ (.int .i64 (addZ a.z b.z (seamL a.t b.h)).b)).setCell ⟨gr, 1, none⟩ (.int .i64 (addZ a.z b.z (seamL a.t b.h)).r)).setCell ⟨gr, 2, none⟩ (.int .i64 (addZ a.z b.z (seamL a.t b.h)).u)).setCell ⟨gr, 3, none⟩ (.int .i64 (addZ a.z b.z (seamL a.t b.h)).e)).setCell ⟨gr, 4, none⟩ (.string (strOfNums (ph.take 3)))).setCell ⟨gr, 5, none⟩ (.string (strOfNums (tail3 pt))))) := hide (by rw [unhide HBW]; exact (unhide HJA5).setr _ (by omega) (by omega) (by omega))
              refine anyL_ready (rs := [21]) (by kernel_rfl) (by simp) ?_
              refine AllL.cons rfl (fun K hK => ?_) AllL.nil
              go_simp
              refine unhide hK _ _ (fun h => absurd h (by decide)) ?_
              clear hK K
              refine anyL_done (by kernel_rfl) ?_ _
              go_wp2_with fail
              go_meet
              exact HF
          · obtain ⟨c11, wA1, r11, i11, q, _⟩ := toBytes wd ph (unhide HPHB) (by omega)
            go_simp
            clear r11
            have HJA1 := hide ((unhide HJ6).on q)
            try dsimp only
            refine unhide hK _ _ (fun _ => (unhide HJA1).all) ?_
            clear hK K HJ6 q
            refine anyL_ready (rs := [5, 18]) (by kernel_rfl) (by simp) ?_
            refine AllL.cons rfl (fun K hK => ?_) (AllL.cons rfl (fun K hK => ?_) AllL.nil)
            · go_simp
              refine (joined_at a.z b.z (seamL a.t b.h) wA1 (unhide ZA) (unhide ZB) seamL_in.1).mono ?_
              unfold szV
              rintro y wA2 ⟨rfl, q⟩
              have i11 := i11.below q (Nat.le_refl _)
              have HJA2 := hide ((unhide HJA1).on q)
              try dsimp only
              refine unhide hK _ _ (fun _ => (unhide HJA2).all) ?_
              clear hK K HJA1 q
              refine anyL_ready (rs := [12, 18]) (by kernel_rfl) (by simp) ?_
              refine AllL.cons rfl (fun K hK => ?_) (AllL.cons rfl (fun K hK => ?_) AllL.nil)
              · go_simp
                refine (head_at (some ⟨wd.heap.size, 0, none⟩) c11 ph wA2 i11.1).mono ?_
                rintro y wq ⟨rfl, nq, rfl⟩
                have q : Below wA2.heap.size wA2 (wA2.drewN nq) := Below.drewN (Below.refl _ _) nq
                have i11 := i11.below q (Nat.le_refl _)
                have HJA3 := hide ((unhide HJA2).on q)
                try dsimp only
                clear q
                generalize wA2.drewN nq = wA3 at *
                refine unhide hK _ _ (fun _ => (unhide HJA3).all) ?_
                clear hK K HJA2
                refine anyL_ready (rs := [18]) (by kernel_rfl) (by simp) ?_
                refine AllL.cons rfl (fun K hK => ?_) AllL.nil
                obtain ⟨c18, wA4, r18, i18, q, _⟩ := toBytes wA3 pt (unhide HPTB) (by omega)
                go_simp
                clear r18
                have i11 := i11.below q (Nat.le_refl _)
                have HJA4 := hide ((unhide HJA3).on q)
                try dsimp only
                refine unhide hK _ _ (fun _ => (unhide HJA4).all) ?_
                clear hK K HJA3 q
                refine anyL_ready (rs := [19]) (by kernel_rfl) (by simp) ?_
                refine AllL.cons rfl (fun K hK => ?_) AllL.nil
                go_simp
                refine (tail_at (some ⟨wA3.heap.size, 0, none⟩) c18 pt wA4 i18.1).mono ?_
                rintro y wq ⟨rfl, nq, rfl⟩
                have q : Below wA4.heap.size wA4 (wA4.drewN nq) := Below.drewN (Below.refl _ _) nq
                have i11 := i11.below q (Nat.le_refl _)
                have i18 := i18.below q (Nat.le_refl _)
                have HJA5 := hide ((unhide HJA4).on q)
                try dsimp only
                clear q
                generalize wA4.drewN nq = wA5 at *
                refine unhide hK _ _ (fun _ => (unhide HJA5).all) ?_
                clear hK K HJA4
                have HSL := hide (unhide HJA5).all
                refine anyL_take (i := 20) (v := ?z4) rfl (by kernel_rfl) (by kernel_rfl) (by kernel_rfl) (by kernel_rfl) (fun _ _ _ h => h) (Or.inl ⟨by rfl, ?gz4⟩) (unhide HSL) ?_
                case gz4 => (intro w hSw; (try dsimp only at hSw); go_simp) <;> with_reducible rfl
                simp only [Act.put, List.getElem_toArray, List.getElem_cons_zero, List.getElem_cons_succ, List.setIfInBounds_toArray, List.set_cons_zero, List.set_cons_succ]
                obtain ⟨c0, c1, c2, c3, c4, c5, f, _⟩ := (unhide HJA5).ret
                have f0 := f 0
                have f1 := f 1
                have f2 := f 2
                have f3 := f 3
                have f4 := f 4
                have f5 := f 5
                clear f
                have HF : Hid (Jb w w.heap.size gb gr gz a b (bothW a b) (seamL a.t b.h) ((((((wA5.setCell ⟨gr, 0, none⟩ (.int .i64 (addZ a.z b.z (seamL a.t b.h)).b)).setCell ⟨gr, 1, none⟩ (.int .i64 (addZ a.z b.z (seamL a.t b.h)).r)).setCell ⟨gr, 2, none⟩ (.int .i64 (addZ a.z b.z (seamL a.t b.h)).u)).setCell ⟨gr, 3, none⟩ (.int .i64 (addZ a.z b.z (seamL a.t b.h)).e)).setCell ⟨gr, 4, none⟩ (.string (strOfNums (ph.take 3)))).setCell ⟨gr, 5, none⟩ (.string (strOfNums (tail3 pt))))) := hide (by rw [unhide HBW]; exact (unhide HJA5).setr _ (by omega) (by omega) (by omega))
                refine anyL_ready (rs := [21]) (by kernel_rfl) (by simp) ?_
                refine AllL.cons rfl (fun K hK => ?_) AllL.nil
                go_simp
                refine unhide hK _ _ (fun h => absurd h (by decide)) ?_
                clear hK K
                refine anyL_done (by kernel_rfl) ?_ _
                go_wp2_with fail
                go_meet
                exact HF
              · obtain ⟨c18, wA3, r18, i18, q, _⟩ := toBytes wA2 pt (unhide HPTB) (by omega)
                go_simp
                clear r18
                have i11 := i11.below q (Nat.le_refl _)
                have HJA3 := hide ((unhide HJA2).on q)
                try dsimp only
                refine unhide hK _ _ (fun _ => (unhide HJA3).all) ?_
                clear hK K HJA2 q
                refine anyL_ready (rs := [12]) (by kernel_rfl) (by simp) ?_
                refine AllL.cons rfl (fun K hK => ?_) AllL.nil
                go_simp
                refine (head_at (some ⟨wd.heap.size, 0, none⟩) c11 ph wA3 i11.1).mono ?_
                rintro y wq ⟨rfl, nq, rfl⟩
                have q : Below wA3.heap.size wA3 (wA3.drewN nq) := Below.drewN (Below.refl _ _) nq
                have i11 := i11.below q (Nat.le_refl _)
                have i18 := i18.below q (Nat.le_refl _)
                have HJA4 := hide ((unhide HJA3).on q)
                try dsimp only
                clear q
                generalize wA3.drewN nq = wA4 at *
                refine unhide hK _ _ (fun _ => (unhide HJA4).all) ?_
                clear hK K HJA3
                refine anyL_ready (rs := [19]) (by kernel_rfl) (by simp) ?_
                refine AllL.cons rfl (fun K hK => ?_) AllL.nil
                go_simp
                refine (tail_at (some ⟨wA2.heap.size, 0, none⟩) c18 pt wA4 i18.1).mono ?_
                rintro y wq ⟨rfl, nq, rfl⟩
                have q : Below wA4.heap.size wA4 (wA4.drewN nq) := Below.drewN (Below.refl _ _) nq
                have i11 := i11.below q (Nat.le_refl _)
                have i18 := i18.below q (Nat.le_refl _)
                have HJA5 := hide ((unhide HJA4).on q)
                try dsimp only
                clear q
                generalize wA4.drewN nq = wA5 at *
                refine unhide hK _ _ (fun _ => (unhide HJA5).all) ?_
                clear hK K HJA4
                have HSL := hide (unhide HJA5).all
                refine anyL_take (i := 20) (v := ?z5) rfl (by kernel_rfl) (by kernel_rfl) (by kernel_rfl) (by kernel_rfl) (fun _ _ _ h => h) (Or.inl ⟨by rfl, ?gz5⟩) (unhide HSL) ?_
                case gz5 => (intro w hSw; (try dsimp only at hSw); go_simp) <;> with_reducible rfl
                simp only [Act.put, List.getElem_toArray, List.getElem_cons_zero, List.getElem_cons_succ, List.setIfInBounds_toArray, List.set_cons_zero, List.set_cons_succ]
                obtain ⟨c0, c1, c2, c3, c4, c5, f, _⟩ := (unhide HJA5).ret
                have f0 := f 0
                have f1 := f 1
                have f2 := f 2
                have f3 := f 3
                have f4 := f 4
                have f5 := f 5
                clear f
                have HF : Hid (Jb w w.heap.size gb gr gz a b (bothW a b) (seamL a.t b.h) ((((((wA5.setCell ⟨gr, 0, none⟩ (.int .i64 (addZ a.z b.z (seamL a.t b.h)).b)).setCell ⟨gr, 1, none⟩ (.int .i64 (addZ a.z b.z (seamL a.t b.h)).r)).setCell ⟨gr, 2, none⟩ (.int .i64 (addZ a.z b.z (seamL a.t b.h)).u)).setCell ⟨gr, 3, none⟩ (.int .i64 (addZ a.z b.z (seamL a.t b.h)).e)).setCell ⟨gr, 4, none⟩ (.string (strOfNums (ph.take 3)))).setCell ⟨gr, 5, none⟩ (.string (strOfNums (tail3 pt))))) := hide (by rw [unhide HBW]; exact (unhide HJA5).setr _ (by omega) (by omega) (by omega))
                refine anyL_ready (rs := [21]) (by kernel_rfl) (by simp) ?_
                refine AllL.cons rfl (fun K hK => ?_) AllL.nil
                go_simp
                refine unhide hK _ _ (fun h => absurd h (by decide)) ?_
                clear hK K
                refine anyL_done (by kernel_rfl) ?_ _
                go_wp2_with fail
                go_meet
                exact HF
            · obtain ⟨c18, wA2, r18, i18, q, _⟩ := toBytes wA1 pt (unhide HPTB) (by omega)
              go_simp
              clear r18
              have i11 := i11.below q (Nat.le_refl _)
              have HJA2 := hide ((unhide HJA1).on q)
              try dsimp only
              refine unhide hK _ _ (fun _ => (unhide HJA2).all) ?_
              clear hK K HJA1 q
              refine anyL_ready (rs := [5]) (by kernel_rfl) (by simp) ?_
              refine AllL.cons rfl (fun K hK => ?_) AllL.nil
              go_simp
              refine (joined_at a.z b.z (seamL a.t b.h) wA2 (unhide ZA) (unhide ZB) seamL_in.1).mono ?_
              unfold szV
              rintro y wA3 ⟨rfl, q⟩
              have i11 := i11.below q (Nat.le_refl _)
              have i18 := i18.below q (Nat.le_refl _)
              have HJA3 := hide ((unhide HJA2).on q)
              try dsimp only
              refine unhide hK _ _ (fun _ => (unhide HJA3).all) ?_
              clear hK K HJA2 q
              refine anyL_ready (rs := [12]) (by kernel_rfl) (by simp) ?_
              refine AllL.cons rfl (fun K hK => ?_) AllL.nil
              go_simp
              refine (head_at (some ⟨wd.heap.size, 0, none⟩) c11 ph wA3 i11.1).mono ?_
              rintro y wq ⟨rfl, nq, rfl⟩
              have q : Below wA3.heap.size wA3 (wA3.drewN nq) := Below.drewN (Below.refl _ _) nq
              have i11 := i11.below q (Nat.le_refl _)
              have i18 := i18.below q (Nat.le_refl _)
              have HJA4 := hide ((unhide HJA3).on q)
              try dsimp only
              clear q
              generalize wA3.drewN nq = wA4 at *
              refine unhide hK _ _ (fun _ => (unhide HJA4).all) ?_
              clear hK K HJA3
              refine anyL_ready (rs := [19]) (by kernel_rfl) (by simp) ?_
              refine AllL.cons rfl (fun K hK => ?_) AllL.nil
              go_simp
              refine (tail_at (some ⟨wA1.heap.size, 0, none⟩) c18 pt wA4 i18.1).mono ?_
              rintro y wq ⟨rfl, nq, rfl⟩
              have q : Below wA4.heap.size wA4 (wA4.drewN nq) := Below.drewN (Below.refl _ _) nq
              have i11 := i11.below q (Nat.le_refl _)
              have i18 := i18.below q (Nat.le_refl _)
              have HJA5 := hide ((unhide HJA4).on q)
              try dsimp only
              clear q
              generalize wA4.drewN nq = wA5 at *
              refine unhide hK _ _ (fun _ => (unhide HJA5).all) ?_
              clear hK K HJA4
              have HSL := hide (unhide HJA5).all
              refine anyL_take (i := 20) (v := ?z6) rfl (by kernel_rfl) (by kernel_rfl) (by kernel_rfl) (by kernel_rfl) (fun _ _ _ h => h) (Or.inl ⟨by rfl, ?gz6⟩) (unhide HSL) ?_
              case gz6 => (intro w hSw; (try dsimp only at hSw); go_simp) <;> with_reducible rfl
              simp only [Act.put, List.getElem_toArray, List.getElem_cons_zero, List.getElem_cons_succ, List.setIfInBounds_toArray, List.set_cons_zero, List.set_cons_succ]
              obtain ⟨c0, c1, c2, c3, c4, c5, f, _⟩ := (unhide HJA5).ret
              have f0 := f 0
              have f1 := f 1
              have f2 := f 2
              have f3 := f 3
              have f4 := f 4
              have f5 := f 5
              clear f
              have HF : Hid (Jb w w.heap.size gb gr gz a b (bothW a b) (seamL a.t b.h) ((((((wA5.setCell ⟨gr, 0, none⟩ (.int .i64 (addZ a.z b.z (seamL a.t b.h)).b)).setCell ⟨gr, 1, none⟩ (.int .i64 (addZ a.z b.z (seamL a.t b.h)).r)).setCell ⟨gr, 2, none⟩ (.int .i64 (addZ a.z b.z (seamL a.t b.h)).u)).setCell ⟨gr, 3, none⟩ (.int .i64 (addZ a.z b.z (seamL a.t b.h)).e)).setCell ⟨gr, 4, none⟩ (.string (strOfNums (ph.take 3)))).setCell ⟨gr, 5, none⟩ (.string (strOfNums (tail3 pt))))) := hide (by rw [unhide HBW]; exact (unhide HJA5).setr _ (by omega) (by omega) (by omega))
              refine anyL_ready (rs := [21]) (by kernel_rfl) (by simp) ?_
              refine AllL.cons rfl (fun K hK => ?_) AllL.nil
              go_simp
              refine unhide hK _ _ (fun h => absurd h (by decide)) ?_
              clear hK K
              refine anyL_done (by kernel_rfl) ?_ _
              go_wp2_with fail
              go_meet
              exact HF
          · obtain ⟨c18, wA1, r18, i18, q, _⟩ := toBytes wd pt (unhide HPTB) (by omega)
            go_simp
            clear r18
            have HJA1 := hide ((unhide HJ6).on q)
            try dsimp only
            refine unhide hK _ _ (fun _ => (unhide HJA1).all) ?_
            clear hK K HJ6 q
            refine anyL_ready (rs := [5, 11]) (by kernel_rfl) (by simp) ?_
            refine AllL.cons rfl (fun K hK => ?_) (AllL.cons rfl (fun K hK => ?_) AllL.nil)
            · go_simp
              refine (joined_at a.z b.z (seamL a.t b.h) wA1 (unhide ZA) (unhide ZB) seamL_in.1).mono ?_
              unfold szV
              rintro y wA2 ⟨rfl, q⟩
              have i18 := i18.below q (Nat.le_refl _)
              have HJA2 := hide ((unhide HJA1).on q)
              try dsimp only
              refine unhide hK _ _ (fun _ => (unhide HJA2).all) ?_
              clear hK K HJA1 q
              refine anyL_ready (rs := [11]) (by kernel_rfl) (by simp) ?_
              refine AllL.cons rfl (fun K hK => ?_) AllL.nil
              obtain ⟨c11, wA3, r11, i11, q, _⟩ := toBytes wA2 ph (unhide HPHB) (by omega)
              go_simp
              clear r11
              have i18 := i18.below q (Nat.le_refl _)
              have HJA3 := hide ((unhide HJA2).on q)
              try dsimp only
              refine unhide hK _ _ (fun _ => (unhide HJA3).all) ?_
              clear hK K HJA2 q
              refine anyL_ready (rs := [12]) (by kernel_rfl) (by simp) ?_
              refine AllL.cons rfl (fun K hK => ?_) AllL.nil
              go_simp
              refine (head_at (some ⟨wA2.heap.size, 0, none⟩) c11 ph wA3 i11.1).mono ?_
              rintro y wq ⟨rfl, nq, rfl⟩
              have q : Below wA3.heap.size wA3 (wA3.drewN nq) := Below.drewN (Below.refl _ _) nq
              have i11 := i11.below q (Nat.le_refl _)
              have i18 := i18.below q (Nat.le_refl _)
              have HJA4 := hide ((unhide HJA3).on q)
              try dsimp only
              clear q
              generalize wA3.drewN nq = wA4 at *
              refine unhide hK _ _ (fun _ => (unhide HJA4).all) ?_
              clear hK K HJA3
              refine anyL_ready (rs := [19]) (by kernel_rfl) (by simp) ?_
              refine AllL.cons rfl (fun K hK => ?_) AllL.nil
              go_simp
              refine (tail_at (some ⟨wd.heap.size, 0, none⟩) c18 pt wA4 i18.1).mono ?_
              rintro y wq ⟨rfl, nq, rfl⟩
              have q : Below wA4.heap.size wA4 (wA4.drewN nq) := Below.drewN (Below.refl _ _) nq
              have i11 := i11.below q (Nat.le_refl _)
              have i18 := i18.below q (Nat.le_refl _)
              have HJA5 := hide ((unhide HJA4).on q)
              try dsimp only
              clear q
              generalize wA4.drewN nq = wA5 at *
              refine unhide hK _ _ (fun _ => (unhide HJA5).all) ?_
              clear hK K HJA4
              have HSL := hide (unhide HJA5).all
              refine anyL_take (i := 20) (v := ?z7) rfl (by kernel_rfl) (by kernel_rfl) (by kernel_rfl) (by kernel_rfl) (fun _ _ _ h => h) (Or.inl ⟨by rfl, ?gz7⟩) (unhide HSL) ?_
              case gz7 => (intro w hSw; (try dsimp only at hSw); go_simp) <;> with_reducible rfl
              simp only [Act.put, List.getElem_toArray, List.getElem_cons_zero, List.getElem_cons_succ, List.setIfInBounds_toArray, List.set_cons_zero, List.set_cons_succ]
              obtain ⟨c0, c1, c2, c3, c4, c5, f, _⟩ := (unhide HJA5).ret
              have f0 := f 0
              have f1 := f 1
              have f2 := f 2
              have f3 := f 3
              have f4 := f 4
              have f5 := f 5
              clear f
              have HF : Hid (Jb w w.heap.size gb gr gz a b (bothW a b) (seamL a.t b.h) ((((((wA5.setCell ⟨gr, 0, none⟩ (.int .i64 (addZ a.z b.z (seamL a.t b.h)).b)).setCell ⟨gr, 1, none⟩ (.int .i64 (addZ a.z b.z (seamL a.t b.h)).r)).setCell ⟨gr, 2, none⟩ (.int .i64 (addZ a.z b.z (seamL a.t b.h)).u)).setCell ⟨gr, 3, none⟩ (.int .i64 (addZ a.z b.z (seamL a.t b.h)).e)).setCell ⟨gr, 4, none⟩ (.string (strOfNums (ph.take 3)))).setCell ⟨gr, 5, none⟩ (.string (strOfNums (tail3 pt))))) := hide (by rw [unhide HBW]; exact (unhide HJA5).setr _ (by omega) (by omega) (by omega))
              refine anyL_ready (rs := [21]) (by kernel_rfl) (by simp) ?_
              refine AllL.cons rfl (fun K hK => ?_) AllL.nil
              go_simp
              refine unhide hK _ _ (fun h => absurd h (by decide)) ?_
              clear hK K
              refine anyL_done (by kernel_rfl) ?_ _
              go_wp2_with fail
              go_meet
              exact HF
            · obtain ⟨c11, wA2, r11, i11, q, _⟩ := toBytes wA1 ph (unhide HPHB) (by omega)
              go_simp
              clear r11
              have i18 := i18.below q (Nat.le_refl _)
              have HJA2 := hide ((unhide HJA1).on q)
              try dsimp only
              refine unhide hK _ _ (fun _ => (unhide HJA2).all) ?_
              clear hK K HJA1 q
              refine anyL_ready (rs := [5]) (by kernel_rfl) (by simp) ?_
              refine AllL.cons rfl (fun K hK => ?_) AllL.nil
              go_simp
              refine (joined_at a.z b.z (seamL a.t b.h) wA2 (unhide ZA) (unhide ZB) seamL_in.1).mono ?_
              unfold szV
              rintro y wA3 ⟨rfl, q⟩
              have i11 := i11.below q (Nat.le_refl _)
              have i18 := i18.below q (Nat.le_refl _)
              have HJA3 := hide ((unhide HJA2).on q)
              try dsimp only
              refine unhide hK _ _ (fun _ => (unhide HJA3).all) ?_
              clear hK K HJA2 q
              refine anyL_ready (rs := [12]) (by kernel_rfl) (by simp) ?_
              refine AllL.cons rfl (fun K hK => ?_) AllL.nil
              go_simp
              refine (head_at (some ⟨wA1.heap.size, 0, none⟩) c11 ph wA3 i11.1).mono ?_
              rintro y wq ⟨rfl, nq, rfl⟩
              have q : Below wA3.heap.size wA3 (wA3.drewN nq) := Below.drewN (Below.refl _ _) nq
              have i11 := i11.below q (Nat.le_refl _)
              have i18 := i18.below q (Nat.le_refl _)
              have HJA4 := hide ((unhide HJA3).on q)
              try dsimp only
              clear q
              generalize wA3.drewN nq = wA4 at *
              refine unhide hK _ _ (fun _ => (unhide HJA4).all) ?_
              clear hK K HJA3
              refine anyL_ready (rs := [19]) (by kernel_rfl) (by simp) ?_
              refine AllL.cons rfl (fun K hK => ?_) AllL.nil
              go_simp
              refine (tail_at (some ⟨wd.heap.size, 0, none⟩) c18 pt wA4 i18.1).mono ?_
              rintro y wq ⟨rfl, nq, rfl⟩
              have q : Below wA4.heap.size wA4 (wA4.drewN nq) := Below.drewN (Below.refl _ _) nq
              have i11 := i11.below q (Nat.le_refl _)
              have i18 := i18.below q (Nat.le_refl _)
              have HJA5 := hide ((unhide HJA4).on q)
              try dsimp only
              clear q
              generalize wA4.drewN nq = wA5 at *
              refine unhide hK _ _ (fun _ => (unhide HJA5).all) ?_
              clear hK K HJA4
              have HSL := hide (unhide HJA5).all
              refine anyL_take (i := 20) (v := ?z8) rfl (by kernel_rfl) (by kernel_rfl) (by kernel_rfl) (by kernel_rfl) (fun _ _ _ h => h) (Or.inl ⟨by rfl, ?gz8⟩) (unhide HSL) ?_
              case gz8 => (intro w hSw; (try dsimp only at hSw); go_simp) <;> with_reducible rfl
              simp only [Act.put, List.getElem_toArray, List.getElem_cons_zero, List.getElem_cons_succ, List.setIfInBounds_toArray, List.set_cons_zero, List.set_cons_succ]
              obtain ⟨c0, c1, c2, c3, c4, c5, f, _⟩ := (unhide HJA5).ret
              have f0 := f 0
              have f1 := f 1
              have f2 := f 2
              have f3 := f 3
              have f4 := f 4
              have f5 := f 5
              clear f
              have HF : Hid (Jb w w.heap.size gb gr gz a b (bothW a b) (seamL a.t b.h) ((((((wA5.setCell ⟨gr, 0, none⟩ (.int .i64 (addZ a.z b.z (seamL a.t b.h)).b)).setCell ⟨gr, 1, none⟩ (.int .i64 (addZ a.z b.z (seamL a.t b.h)).r)).setCell ⟨gr, 2, none⟩ (.int .i64 (addZ a.z b.z (seamL a.t b.h)).u)).setCell ⟨gr, 3, none⟩ (.int .i64 (addZ a.z b.z (seamL a.t b.h)).e)).setCell ⟨gr, 4, none⟩ (.string (strOfNums (ph.take 3)))).setCell ⟨gr, 5, none⟩ (.string (strOfNums (tail3 pt))))) := hide (by rw [unhide HBW]; exact (unhide HJA5).setr _ (by omega) (by omega) (by omega))
              refine anyL_ready (rs := [21]) (by kernel_rfl) (by simp) ?_
              refine AllL.cons rfl (fun K hK => ?_) AllL.nil
              go_simp
              refine unhide hK _ _ (fun h => absurd h (by decide)) ?_
              clear hK K
              refine anyL_done (by kernel_rfl) ?_ _
              go_wp2_with fail
              go_meet
              exact HF
        case rest =>
          have HBB : Byw (bothW a b) := ⟨fun y hy => by
              rcases List.mem_append.1 (List.mem_of_mem_take hy) with hy | hy
              · exact (unhide HA).h y hy
              · exact (unhide HB).h y hy, fun y hy => by
              rcases List.mem_append.1 (List.mem_of_mem_drop hy) with hy | hy
              · exact (unhide HA).t y hy
              · exact (unhide HB).t y hy⟩
          obtain ⟨c0, c1, c2, c3, c4, c5, _⟩ := (unhide hcut).ret
          go_wp2_with fail
          refine (unhide TV (bothW a b) HBB wc (unhide hcut).below).mono ?_
          rintro y w7 ⟨rfl, b7⟩
          have HJ8 := hide ((unhide hcut).on b7)
          clear hcut b7 c0 c1 c2 c3 c4 c5
          dsimp only
          cases hvc : validB (bothW a b) with
          | false =>
            have hj : joinL a b = (zeroWe, ⟨0, 0, 0, 0⟩, 50) := by unfold joinL; rw [hva, hvb, if_neg (by decide), if_neg (by have := unhide HLD; omega), if_pos hvc]
            obtain ⟨c0, c1, c2, c3, c4, c5, f, d0, d1, d2, d3, k⟩ := (unhide HJ8).ret
            have f0 := f 0
            have f1 := f 1
            have f2 := f 2
            have f3 := f 3
            have f4 := f 4
            have f5 := f 5
            have k0 := k 0
            have k1 := k 1
            have k2 := k 2
            have k3 := k 3
            have HF : Hid (Jb w w.heap.size gb gr gz a b zeroWe ⟨0, 0, 0, 0⟩ ((((((((((w7.setCell ⟨gr, 0, none⟩ (.int .i64 0)).setCell ⟨gr, 1, none⟩ (.int .i64 0)).setCell ⟨gr, 2, none⟩ (.int .i64 0)).setCell ⟨gr, 3, none⟩ (.int .i64 0)).setCell ⟨gr, 4, none⟩ (.string ⟨#[]⟩)).setCell ⟨gr, 5, none⟩ (.string ⟨#[]⟩)).setCell ⟨gz, 0, none⟩ (.int .i64 0)).setCell ⟨gz, 1, none⟩ (.int .i64 0)).setCell ⟨gz, 2, none⟩ (.int .i64 0)).setCell ⟨gz, 3, none⟩ (.int .i64 0))) := hide (((unhide HJ8).setr zeroWe (by omega) (by omega) (by omega)).setz ⟨0, 0, 0, 0⟩ (by omega) (by omega) (by omega))
            clear f k
            try dsimp only
            go_wp2_with fail
            clear c0 c1 c2 c3 c4 c5 d0 d1 d2 d3 f0 f1 f2 f3 f4 f5 k0 k1 k2 k3
            generalize ((((((((((w7.setCell ⟨gr, 0, none⟩ (.int .i64 0)).setCell ⟨gr, 1, none⟩ (.int .i64 0)).setCell ⟨gr, 2, none⟩ (.int .i64 0)).setCell ⟨gr, 3, none⟩ (.int .i64 0)).setCell ⟨gr, 4, none⟩ (.string ⟨#[]⟩)).setCell ⟨gr, 5, none⟩ (.string ⟨#[]⟩)).setCell ⟨gz, 0, none⟩ (.int .i64 0)).setCell ⟨gz, 1, none⟩ (.int .i64 0)).setCell ⟨gz, 2, none⟩ (.int .i64 0)).setCell ⟨gz, 3, none⟩ (.int .i64 0)) = wf at *
            obtain ⟨c0, c1, c2, c3, c4, c5, _, d0, d1, d2, d3, _⟩ := (unhide HF).ret
            refine bodyPost_ret (v := joinV (zeroWe, ⟨0, 0, 0, 0⟩, 50)) (by simp [results, Tryz.results138, go_sem, c0, c1, c2, c3, c4, c5, d0, d1, d2, d3, joinV, weV, szV]) rfl ⟨by rw [hj], (unhide HF).below⟩
          | true =>
            have hj : joinL a b = (bothW a b, seamL a.t b.h, 0) := by unfold joinL; rw [hva, hvb, if_neg (by decide), if_neg (by have := unhide HLD; omega), if_neg (by rw [hvc]; decide)]
            have HJJ := hide hj
            clear hj
            obtain ⟨c0, c1, c2, c3, c4, c5, f, d0, d1, d2, d3, k⟩ := (unhide HJ8).ret
            have f0 := f 0
            have f1 := f 1
            have f2 := f 2
            have f3 := f 3
            have f4 := f 4
            have f5 := f 5
            have k0 := k 0
            have k1 := k 1
            have k2 := k 2
            have k3 := k 3
            clear f k
            go_upto_region 9 with fail
            have HF : Hid (Jb w w.heap.size gb gr gz a b (bothW a b) (seamL a.t b.h) ((((((((((w7.setCell ⟨gr, 0, none⟩ (.int .i64 (bothW a b).z.b)).setCell ⟨gr, 1, none⟩ (.int .i64 (bothW a b).z.r)).setCell ⟨gr, 2, none⟩ (.int .i64 (bothW a b).z.u)).setCell ⟨gr, 3, none⟩ (.int .i64 (bothW a b).z.e)).setCell ⟨gr, 4, none⟩ (.string (strOfNums (bothW a b).h))).setCell ⟨gr, 5, none⟩ (.string (strOfNums (bothW a b).t))).setCell ⟨gz, 0, none⟩ (.int .i64 (seamL a.t b.h).b)).setCell ⟨gz, 1, none⟩ (.int .i64 (seamL a.t b.h).r)).setCell ⟨gz, 2, none⟩ (.int .i64 (seamL a.t b.h).u)).setCell ⟨gz, 3, none⟩ (.int .i64 (seamL a.t b.h).e)).drew) := hide ((((unhide HJ8).setr (bothW a b) (by omega) (by omega) (by omega)).setz (seamL a.t b.h) (by omega) (by omega) (by omega)).on (Below.drewN (Below.refl _ _) 1))
            go_region
            clear c0 c1 c2 c3 c4 c5 d0 d1 d2 d3 f0 f1 f2 f3 f4 f5 k0 k1 k2 k3
            generalize ((((((((((w7.setCell ⟨gr, 0, none⟩ (.int .i64 (bothW a b).z.b)).setCell ⟨gr, 1, none⟩ (.int .i64 (bothW a b).z.r)).setCell ⟨gr, 2, none⟩ (.int .i64 (bothW a b).z.u)).setCell ⟨gr, 3, none⟩ (.int .i64 (bothW a b).z.e)).setCell ⟨gr, 4, none⟩ (.string (strOfNums (bothW a b).h))).setCell ⟨gr, 5, none⟩ (.string (strOfNums (bothW a b).t))).setCell ⟨gz, 0, none⟩ (.int .i64 (seamL a.t b.h).b)).setCell ⟨gz, 1, none⟩ (.int .i64 (seamL a.t b.h).r)).setCell ⟨gz, 2, none⟩ (.int .i64 (seamL a.t b.h).u)).setCell ⟨gz, 3, none⟩ (.int .i64 (seamL a.t b.h).e)).drew = wf at *
            go_wp2_with fail
            obtain ⟨c0, c1, c2, c3, c4, c5, _, d0, d1, d2, d3, _⟩ := (unhide HF).ret
            refine bodyPost_ret (v := joinV (bothW a b, seamL a.t b.h, 0)) (by simp [results, Tryz.results138, go_sem, c0, c1, c2, c3, c4, c5, d0, d1, d2, d3, joinV, weV, szV]) rfl ⟨by rw [unhide HJJ], (unhide HF).below⟩
end Go.Proofs.YteamaneompijkaaGreatDoor
