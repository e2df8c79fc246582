/- Layer 5: galleylaw05.halves of the measures of pieces (written by wip/tools/whv.py). -/
import Derived.Test.YtlhobpjiclcpiaaDoorWsu
namespace Go.Proofs.YtlhobpjiclcpiaaDoor
open Go.ChangeShapes Go.WideShapes Go.ChangeAt Go.RowKit
attribute [local go_sem] Oper.semAt_some

theorem bkh_on {X Y : World} {g : Nat} {o : Obj} (h : X.heap[g]? = some o) (hb : Below X.heap.size X Y) : Y.heap[g]? = some o := (hb.block g (Array.getElem?_eq_some_iff.1 h).1).trans h
/-- a []Weld anywhere in memory -/
def WsO (W : World) (a : Option Addr) (ps : List (List Int)) : Prop := ps = [] ∨ ∃ g off, a = some ⟨g, off, none⟩ ∧ g < W.heap.size ∧ ∀ k, k < ps.length → ∀ j, j < 6 → W.cell? ⟨g, off + (k * 6 + j), none⟩ = (weC (ps.getD k []))[j]?
theorem WsAt.o {W : World} {a : Option Addr} {ps : List (List Int)} (h : WsAt W a ps) : WsO W a ps := by
  rcases h with h | ⟨g, rfl, hg, hc⟩
  · exact Or.inl h
  · exact Or.inr ⟨g, 0, rfl, hg, fun k hk j hj => by rw [Nat.zero_add]; exact hc k hk j hj⟩
theorem WsO.below {W W' : World} {B : Nat} {a : Option Addr} {ps : List (List Int)} (h : WsO W a ps) (hb : Below B W W') (hB : W.heap.size ≤ B) : WsO W' a ps := by
  rcases h with h | ⟨g, off, rfl, hg, hc⟩
  · exact Or.inl h
  · exact Or.inr ⟨g, off, rfl, Nat.lt_of_lt_of_le hg hb.size, fun k hk j hj => (hb.cell (p := ⟨g, off + (k * 6 + j), none⟩) (by show g < B; omega)).trans (hc k hk j hj)⟩
theorem WsO.take {W : World} {a : Option Addr} {ps : List (List Int)} (h : WsO W a ps) (n : Nat) : WsO W a (ps.take n) := by
  rcases h with h | ⟨g, off, rfl, hg, hc⟩
  · exact Or.inl (by rw [h]; simp)
  · refine Or.inr ⟨g, off, rfl, hg, fun k hk j hj => ?_⟩
    rw [List.length_take] at hk
    rw [hc k (by omega) j hj, List.getD_eq_getElem?_getD, List.getD_eq_getElem?_getD, List.getElem?_take_of_lt (by omega)]
theorem WsO.drop {W : World} {g off : Nat} {ps : List (List Int)} (h : WsO W (some ⟨g, off, none⟩) ps) (n : Nat) (hn : n < ps.length) : WsO W (some ⟨g, off + n * 6, none⟩) (ps.drop n) := by
  rcases h with h | ⟨g', off', e, hg, hc⟩
  · rw [h] at hn; simp at hn
  · obtain ⟨rfl, rfl⟩ : g = g' ∧ off = off' := by simpa using e
    refine Or.inr ⟨g, off + n * 6, rfl, hg, fun k hk j hj => ?_⟩
    rw [List.length_drop] at hk
    have := hc (n + k) (by omega) j hj
    rw [show off + n * 6 + (k * 6 + j) = off + ((n + k) * 6 + j) by omega, this, List.getD_eq_getElem?_getD, List.getD_eq_getElem?_getD, List.getElem?_drop]
theorem weq (q : List Int) : weV (ofL q) = .agg #[.int .i64 (szL q).b, .int .i64 (szL q).r, .int .i64 (szL q).u, .int .i64 (szL q).e, .string (strOfNums (List.take 3 q)), .string (strOfNums (tail3 q))] := rfl

set_option maxRecDepth 100000 in
set_option maxHeartbeats 4000000 in
theorem halves_small (a : Option Addr) (c : Nat) (ps : List (List Int)) (w : World) (h2 : ps.length < 2) (hR : WsO w a ps) (hfl : ps.flatten.length ≤ 268435456) (hW : Wt w) :
    Calls Tryd.prog 20 #[.slice a ps.length c] w fun y w' => y = .returned (.tuple #[weV (ofL ps.flatten), .bool true]) ∧ Below w.heap.size w w' := by
  have b0 := (Below.refl w.heap.size w).alloc (Nat.le_refl _) (.cells #[.int .i64 0, .int .i64 0, .int .i64 0, .int .i64 0, .string ⟨#[]⟩, .string ⟨#[]⟩] 27)
  have g0 := push_get w (.cells #[.int .i64 0, .int .i64 0, .int .i64 0, .int .i64 0, .string ⟨#[]⟩, .string ⟨#[]⟩] 27)
  have HV := hide (weq ps.flatten)
  match ps, h2 with
  | [], _ =>
    have hO := Of_at none 0 [] _ (⟨⟨Nat.le_refl _, Nat.zero_le _, Or.inl rfl, fun _ h => by cases h⟩, fun _ => rfl⟩ : IsN _ none 0 []) (by simp) (hW.below b0)
    rw [weq] at hO
    rw [List.flatten_nil] at HV ⊢
    clear hR hfl hW
    go_enter Tryd.func20, Tryd.ntmps20
    go_upto_region 1 with fail
    generalize w.alloc (.cells #[.int .i64 0, .int .i64 0, .int .i64 0, .int .i64 0, .string ⟨#[]⟩, .string ⟨#[]⟩] 27) = w0 at *
    generalize (szL []).b = xb at *
    generalize (szL []).r = xr at *
    generalize (szL []).u = xu at *
    generalize (szL []).e = xe at *
    generalize strOfNums (List.take 3 []) = xh at *
    generalize strOfNums (tail3 []) = xt at *
    go_wp2_with fail
    refine hO.mono ?_
    rintro y w1 ⟨rfl, x1⟩
    have k1 := bkh_on g0 x1
    have d1 := b0.trans (x1.mono b0.size)
    clear hO x1 g0 b0
    obtain ⟨p0, p1, p2, p3, p4, p5, pf⟩ := cells6 k1
    have f0 := pf 0
    have f1 := pf 1
    have f2 := pf 2
    have f3 := pf 3
    have f4 := pf 4
    have f5 := pf 5
    clear pf
    have HX := hide (box6_all k1 (.int .i64 xb) (.int .i64 xr) (.int .i64 xu) (.int .i64 xe) (.string xh) (.string xt))
    have HB := hide (below6 d1 (Nat.le_refl _) (.int .i64 xb) (.int .i64 xr) (.int .i64 xu) (.int .i64 xe) (.string xh) (.string xt))
    clear k1 d1
    go_wp2_with fail
    generalize ((((((w1.setCell ⟨w.heap.size, 0, none⟩ (.int .i64 xb)).setCell ⟨w.heap.size, 1, none⟩ (.int .i64 xr)).setCell ⟨w.heap.size, 2, none⟩ (.int .i64 xu)).setCell ⟨w.heap.size, 3, none⟩ (.int .i64 xe)).setCell ⟨w.heap.size, 4, none⟩ (.string xh)).setCell ⟨w.heap.size, 5, none⟩ (.string xt)) = wf at *
    obtain ⟨r0, r1, r2, r3, r4, r5, _⟩ := cells6 (unhide HX)
    refine bodyPost_ret (v := .tuple #[.agg #[.int .i64 xb, .int .i64 xr, .int .i64 xu, .int .i64 xe, .string xh, .string xt], .bool true]) (by simp [results, Tryd.results20, go_sem, r0, r1, r2, r3, r4, r5]) rfl ⟨by rw [unhide HV], unhide HB⟩
  | [p], _ =>
    obtain ⟨g, off, rfl, hg, hc⟩ : ∃ g off, a = some ⟨g, off, none⟩ ∧ g < w.heap.size ∧ ∀ k, k < [p].length → ∀ j, j < 6 → w.cell? ⟨g, off + (k * 6 + j), none⟩ = (weC ([p].getD k []))[j]? := by
      rcases hR with h | h
      · cases h
      · exact h
    have e : ∀ j, j < 6 → (w.alloc (.cells #[.int .i64 0, .int .i64 0, .int .i64 0, .int .i64 0, .string ⟨#[]⟩, .string ⟨#[]⟩] 27)).cell? ⟨g, off + j, none⟩ = (weC p)[j]? := fun j hj => by
      have := hc 0 (by simp) j hj
      rw [Nat.zero_mul, Nat.zero_add] at this
      exact (b0.cell (p := ⟨g, off + j, none⟩) hg).trans this
    have e0 : _ = some (Value.int .i64 (szL p).b) := e 0 (by decide)
    have e1 : _ = some (Value.int .i64 (szL p).r) := e 1 (by decide)
    have e2 : _ = some (Value.int .i64 (szL p).u) := e 2 (by decide)
    have e3 : _ = some (Value.int .i64 (szL p).e) := e 3 (by decide)
    have e4 : _ = some (Value.string (strOfNums (List.take 3 p))) := e 4 (by decide)
    have e5 : _ = some (Value.string (strOfNums (tail3 p))) := e 5 (by decide)
    rw [Nat.add_zero] at e0
    have hf : [p].flatten = p := by simp
    rw [hf] at HV ⊢
    clear hR hfl hW hc e hf
    go_enter Tryd.func20, Tryd.ntmps20
    go_upto_region 1 with fail
    generalize w.alloc (.cells #[.int .i64 0, .int .i64 0, .int .i64 0, .int .i64 0, .string ⟨#[]⟩, .string ⟨#[]⟩] 27) = w0 at *
    generalize (szL p).b = xb at *
    generalize (szL p).r = xr at *
    generalize (szL p).u = xu at *
    generalize (szL p).e = xe at *
    generalize strOfNums (List.take 3 p) = xh at *
    generalize strOfNums (tail3 p) = xt at *
    obtain ⟨p0, p1, p2, p3, p4, p5, pf⟩ := cells6 g0
    have f0 := pf 0
    have f1 := pf 1
    have f2 := pf 2
    have f3 := pf 3
    have f4 := pf 4
    have f5 := pf 5
    clear pf
    have HX := hide (box6_all g0 (.int .i64 xb) (.int .i64 xr) (.int .i64 xu) (.int .i64 xe) (.string xh) (.string xt))
    have HB := hide (below6 b0 (Nat.le_refl _) (.int .i64 xb) (.int .i64 xr) (.int .i64 xu) (.int .i64 xe) (.string xh) (.string xt))
    clear g0 b0
    go_wp2_with fail
    generalize ((((((w0.setCell ⟨w.heap.size, 0, none⟩ (.int .i64 xb)).setCell ⟨w.heap.size, 1, none⟩ (.int .i64 xr)).setCell ⟨w.heap.size, 2, none⟩ (.int .i64 xu)).setCell ⟨w.heap.size, 3, none⟩ (.int .i64 xe)).setCell ⟨w.heap.size, 4, none⟩ (.string xh)).setCell ⟨w.heap.size, 5, none⟩ (.string xt)) = wf at *
    obtain ⟨r0, r1, r2, r3, r4, r5, _⟩ := cells6 (unhide HX)
    refine bodyPost_ret (v := .tuple #[.agg #[.int .i64 xb, .int .i64 xr, .int .i64 xu, .int .i64 xe, .string xh, .string xt], .bool true]) (by simp [results, Tryd.results20, go_sem, r0, r1, r2, r3, r4, r5]) rfl ⟨by rw [unhide HV], unhide HB⟩

set_option maxRecDepth 100000 in
set_option maxHeartbeats 4000000 in
theorem halves_big (a : Option Addr) (c : Nat) (ps : List (List Int)) (w : World) (h2 : 2 ≤ ps.length) (hR : WsO w a ps) (hc : ps.length ≤ c) (hps : ∀ p ∈ ps, ∀ x ∈ p, 0 ≤ x ∧ x ≤ 255) (hfl : ps.flatten.length ≤ 268435456) (hl : ps.length ≤ 1048576) (hW : Wt w)
    (h3 : ∀ X, Below w.heap.size w X → Calls Tryd.prog 20 #[.slice a (ps.length / 2) c] X fun y w' => y = .returned (.tuple #[weV (ofL (ps.take (ps.length / 2)).flatten), .bool true]) ∧ Below X.heap.size X w')
    (h4 : ∀ g off, a = some ⟨g, off, none⟩ → ∀ X, Below w.heap.size w X → Calls Tryd.prog 20 #[.slice (some ⟨g, off + ps.length / 2 * 6, none⟩) (ps.length - ps.length / 2) (c - ps.length / 2)] X fun y w' => y = .returned (.tuple #[weV (ofL (ps.drop (ps.length / 2)).flatten), .bool true]) ∧ Below X.heap.size X w') :
    Calls Tryd.prog 20 #[.slice a ps.length c] w fun y w' => y = .returned (.tuple #[weV (ofL ps.flatten), .bool true]) ∧ Below w.heap.size w w' := by
  have b0 := (Below.refl w.heap.size w).alloc (Nat.le_refl _) (.cells #[.int .i64 0, .int .i64 0, .int .i64 0, .int .i64 0, .string ⟨#[]⟩, .string ⟨#[]⟩] 27)
  have g0 := push_get w (.cells #[.int .i64 0, .int .i64 0, .int .i64 0, .int .i64 0, .string ⟨#[]⟩, .string ⟨#[]⟩] 27)
  obtain ⟨g, off, rfl⟩ : ∃ g off, a = some ⟨g, off, none⟩ := by
    rcases hR with h | ⟨g, off, e, _⟩
    · rw [h] at h2; simp at h2
    · exact ⟨g, off, e⟩
  have h4 := h4 g off rfl
  have hsp : ps.flatten = (ps.take (ps.length / 2)).flatten ++ (ps.drop (ps.length / 2)).flatten := by rw [← List.flatten_append, List.take_append_drop]
  have i1 : ∀ x ∈ (ps.take (ps.length / 2)).flatten, 0 ≤ x ∧ x ≤ 255 := fun x hx => by
    obtain ⟨q, hq, hx2⟩ := List.mem_flatten.1 hx
    exact hps q (List.mem_of_mem_take hq) x hx2
  have i2 : ∀ x ∈ (ps.drop (ps.length / 2)).flatten, 0 ≤ x ∧ x ≤ 255 := fun x hx => by
    obtain ⟨q, hq, hx2⟩ := List.mem_flatten.1 hx
    exact hps q (List.mem_of_mem_drop hq) x hx2
  have hJ := fun (X : World) (h : Below w.heap.size w X) => Join_at (ofL (ps.take (ps.length / 2)).flatten) (ofL (ps.drop (ps.length / 2)).flatten) X (hW.below h) (byw_of i1) (byw_of i2)
  rw [join_of i1 i2 (by rw [hsp, List.length_append] at hfl; exact hfl), ← hsp] at hJ
  have HV := hide (weq ps.flatten)
  dsimp only at hJ
  simp only [weq] at h3 h4 hJ
  have H3 := hide h3
  have H4 := hide h4
  have HJ := hide hJ
  clear h3 h4 hJ hsp i1 i2 hps hfl hW hR
  have t1 : ((ps.length : Int) == 0) = false := by rw [beq_eq_false_iff_ne]; omega
  have t2 : ((ps.length : Int) == 1) = false := by rw [beq_eq_false_iff_ne]; omega
  have hq1 : Int.tdiv (ps.length : Int) 2 = ((ps.length / 2 : Nat) : Int) := by rw [Int.tdiv_eq_ediv_of_nonneg (by omega)]; omega
  have hh1 : ps.length / 2 ≤ c := by omega
  have hh2 : ps.length / 2 ≤ ps.length := by omega
  have hh3 : ¬ c = ps.length / 2 := by omega
  generalize hhh : ps.length / 2 = hh at *
  clear hhh
  go_enter Tryd.func20, Tryd.ntmps20
  go_upto_region 1 with fail
  generalize w.alloc (.cells #[.int .i64 0, .int .i64 0, .int .i64 0, .int .i64 0, .string ⟨#[]⟩, .string ⟨#[]⟩] 27) = w0 at *
  generalize (szL ps.flatten).b = zb at *
  generalize (szL ps.flatten).r = zr at *
  generalize (szL ps.flatten).u = zu at *
  generalize (szL ps.flatten).e = ze at *
  generalize strOfNums (List.take 3 ps.flatten) = zh at *
  generalize strOfNums (tail3 ps.flatten) = zt at *
  generalize (szL (List.take hh ps).flatten).b = xb at *
  generalize (szL (List.take hh ps).flatten).r = xr at *
  generalize (szL (List.take hh ps).flatten).u = xu at *
  generalize (szL (List.take hh ps).flatten).e = xe at *
  generalize strOfNums (List.take 3 (List.take hh ps).flatten) = xh at *
  generalize strOfNums (tail3 (List.take hh ps).flatten) = xt at *
  generalize (szL (List.drop hh ps).flatten).b = yb at *
  generalize (szL (List.drop hh ps).flatten).r = yr at *
  generalize (szL (List.drop hh ps).flatten).u = yu at *
  generalize (szL (List.drop hh ps).flatten).e = ye at *
  generalize strOfNums (List.take 3 (List.drop hh ps).flatten) = yh at *
  generalize strOfNums (tail3 (List.drop hh ps).flatten) = yt at *
  go_wp2_with fail
  refine (unhide H3 w0 b0).mono ?_
  rintro y w1 ⟨rfl, x1⟩
  have k1 := bkh_on g0 x1
  have d1 := b0.trans (x1.mono b0.size)
  have x2 := (Below.refl w1.heap.size w1).alloc (Nat.le_refl _) (.cells #[.int .i64 xb, .int .i64 xr, .int .i64 xu, .int .i64 xe, .string xh, .string xt] 27)
  have g2 := push_get w1 (.cells #[.int .i64 xb, .int .i64 xr, .int .i64 xu, .int .i64 xe, .string xh, .string xt] 27)
  have k2 := bkh_on k1 x2
  have d2 := d1.trans (x2.mono d1.size)
  clear x1 g0 b0 k1 d1 x2 H3
  go_wp2_with fail
  generalize hga : w1.heap.size = ga at *
  clear hga
  generalize w1.alloc (.cells #[.int .i64 xb, .int .i64 xr, .int .i64 xu, .int .i64 xe, .string xh, .string xt] 27) = w2 at *
  refine (unhide H4 w2 d2).mono ?_
  rintro y w3 ⟨rfl, x3⟩
  have k3 := bkh_on k2 x3
  have a3 := bkh_on g2 x3
  have d3 := d2.trans (x3.mono d2.size)
  have x4 := (Below.refl w3.heap.size w3).alloc (Nat.le_refl _) (.cells #[.int .i64 yb, .int .i64 yr, .int .i64 yu, .int .i64 ye, .string yh, .string yt] 27)
  have g4 := push_get w3 (.cells #[.int .i64 yb, .int .i64 yr, .int .i64 yu, .int .i64 ye, .string yh, .string yt] 27)
  have k4 := bkh_on k3 x4
  have a4 := bkh_on a3 x4
  have d4 := d3.trans (x4.mono d3.size)
  obtain ⟨p0, p1, p2, p3, p4, p5, _⟩ := cells6 a4
  obtain ⟨q0, q1, q2, q3, q4, q5, _⟩ := cells6 g4
  clear x3 k2 g2 d2 k3 a3 d3 x4 H4 a4 g4
  go_wp2_with fail
  clear p0 p1 p2 p3 p4 p5 q0 q1 q2 q3 q4 q5
  generalize hgb : w3.heap.size = gb at *
  clear hgb
  generalize w3.alloc (.cells #[.int .i64 yb, .int .i64 yr, .int .i64 yu, .int .i64 ye, .string yh, .string yt] 27) = w4 at *
  refine (unhide HJ w4 d4).mono ?_
  rintro y w5 ⟨rfl, x5⟩
  have k5 := bkh_on k4 x5
  have d5 := d4.trans (x5.mono d4.size)
  have x6 := (Below.refl w5.heap.size w5).alloc (Nat.le_refl _) (.cells #[.int .i64 zb, .int .i64 zr, .int .i64 zu, .int .i64 ze, .string zh, .string zt] 27)
  have g6 := push_get w5 (.cells #[.int .i64 zb, .int .i64 zr, .int .i64 zu, .int .i64 ze, .string zh, .string zt] 27)
  have k6 := bkh_on k5 x6
  have d6 := d5.trans (x6.mono d5.size)
  clear x5 k4 d4 k5 d5 x6 HJ
  obtain ⟨q0, q1, q2, q3, q4, q5, _⟩ := cells6 g6
  go_upto_region 9 with fail
  generalize hgc : w5.heap.size = gc at *
  clear hgc
  generalize w5.alloc (.cells #[.int .i64 zb, .int .i64 zr, .int .i64 zu, .int .i64 ze, .string zh, .string zt] 27) = w6 at *
  obtain ⟨p0, p1, p2, p3, p4, p5, pf⟩ := cells6 k6
  have f0 := pf 0
  have f1 := pf 1
  have f2 := pf 2
  have f3 := pf 3
  have f4 := pf 4
  have f5 := pf 5
  clear pf
  have HX := hide (box6_all k6 (.int .i64 zb) (.int .i64 zr) (.int .i64 zu) (.int .i64 ze) (.string zh) (.string zt))
  have HB := hide (below6 d6 (Nat.le_refl _) (.int .i64 zb) (.int .i64 zr) (.int .i64 zu) (.int .i64 ze) (.string zh) (.string zt))
  clear k6 d6 g6
  go_wp2_with fail
  generalize ((((((w6.setCell ⟨w.heap.size, 0, none⟩ (.int .i64 zb)).setCell ⟨w.heap.size, 1, none⟩ (.int .i64 zr)).setCell ⟨w.heap.size, 2, none⟩ (.int .i64 zu)).setCell ⟨w.heap.size, 3, none⟩ (.int .i64 ze)).setCell ⟨w.heap.size, 4, none⟩ (.string zh)).setCell ⟨w.heap.size, 5, none⟩ (.string zt)) = wf at *
  obtain ⟨r0, r1, r2, r3, r4, r5, _⟩ := cells6 (unhide HX)
  refine bodyPost_ret (v := .tuple #[.agg #[.int .i64 zb, .int .i64 zr, .int .i64 zu, .int .i64 ze, .string zh, .string zt], .bool true]) (by simp [results, Tryd.results20, go_sem, r0, r1, r2, r3, r4, r5]) rfl ⟨by rw [unhide HV], unhide HB⟩

set_option maxRecDepth 100000 in
set_option maxHeartbeats 4000000 in
theorem Halves_at : ∀ (n : Nat) (a : Option Addr) (c : Nat) (ps : List (List Int)) (w : World), ps.length ≤ n → WsO w a ps → ps.length ≤ c → (∀ p ∈ ps, ∀ x ∈ p, 0 ≤ x ∧ x ≤ 255) → ps.flatten.length ≤ 268435456 → ps.length ≤ 1048576 → Wt w →
    Calls Tryd.prog 20 #[.slice a ps.length c] w fun y w' => y = .returned (.tuple #[weV (ofL ps.flatten), .bool true]) ∧ Below w.heap.size w w' := by
  intro n
  induction n with
  | zero =>
    intro a c ps w hn hR hc hps hfl hl hW
    exact halves_small a c ps w (by omega) hR hfl hW
  | succ n ih =>
    intro a c ps w hn hR hc hps hfl hl hW
    by_cases h2 : ps.length < 2
    · exact halves_small a c ps w h2 hR hfl hW
    · refine halves_big a c ps w (by omega) hR hc hps hfl hl hW ?_ ?_
      · intro X hX
        have := ih a c (ps.take (ps.length / 2)) X (by simp; omega) ((hR.take _).below hX (Nat.le_refl _)) (by simp; omega) (fun p hp => hps p (List.mem_of_mem_take hp)) (by have := fl_le ps (ps.length / 2); omega) (by simp; omega) (hW.below hX)
        rwa [show (ps.take (ps.length / 2)).length = ps.length / 2 by simp; omega] at this
      · intro g off e X hX
        subst e
        have := ih (some ⟨g, off + ps.length / 2 * 6, none⟩) (c - ps.length / 2) (ps.drop (ps.length / 2)) X (by simp; omega) ((hR.drop _ (by omega)).below hX (Nat.le_refl _)) (by simp; omega) (fun p hp => hps p (List.mem_of_mem_drop hp)) (by
          have h3 : ps.flatten = (ps.take (ps.length / 2)).flatten ++ (ps.drop (ps.length / 2)).flatten := by rw [← List.flatten_append, List.take_append_drop]
          rw [h3, List.length_append] at hfl; omega) (by simp; omega) (hW.below hX)
        rwa [show (ps.drop (ps.length / 2)).length = ps.length - ps.length / 2 by simp] at this

end Go.Proofs.YtlhobpjiclcpiaaDoor
