/- Layer 5: weld.Sum of the measures of pieces; a list of Welds of one's own (written by wip/tools/wsu.py). -/
import Derived.Test.YtlhobpjiclcpiaaDoorWmc
import Derived.Test.YtlhobpjiclcpiaaDoorWjs
import Derived.Deep.AppendLies
namespace Go.Proofs.YtlhobpjiclcpiaaDoor
open Go.ChangeShapes Go.WideShapes Go.ChangeAt Go.RowKit
attribute [local go_sem] Oper.semAt_some

/-- a measure's six cells -/
def weC (p : List Int) : List Value := [.int .i64 (szL p).b, .int .i64 (szL p).r, .int .i64 (szL p).u, .int .i64 (szL p).e, .string (strOfNums (p.take 3)), .string (strOfNums (tail3 p))]
def wsV (ps : List (List Int)) : List Value := ps.flatMap weC
theorem wsV_snoc (ps : List (List Int)) (p : List Int) : wsV (ps ++ [p]) = wsV ps ++ weC p := by simp [wsV]
theorem wsV_get : ∀ (ps : List (List Int)) (k j : Nat), k < ps.length → j < 6 → (wsV ps)[k * 6 + j]? = (weC (ps.getD k []))[j]?
  | [], k, _, hk, _ => absurd hk (by simp)
  | t :: ts, 0, j, _, hj => by
    rw [wsV, List.flatMap_cons, Nat.zero_mul, Nat.zero_add, List.getElem?_append_left (by simpa [weC] using hj)]; rfl
  | t :: ts, k + 1, j, hk, hj => by
    have ih := wsV_get ts k j (by simpa using hk) hj
    rw [wsV, List.flatMap_cons, List.getElem?_append_right (by simp [weC]; omega), show (k + 1) * 6 + j - (weC t).length = k * 6 + j by simp [weC]; omega]
    simpa [wsV] using ih
set_option maxRecDepth 100000 in
theorem info_we : ∃ i, Tryd.prog.info? 27 = some i ∧ i.zero = some (.agg #[.int .i64 0, .int .i64 0, .int .i64 0, .int .i64 0, .string ⟨#[]⟩, .string ⟨#[]⟩]) ∧ i.size = 6 ∧ i.bytes = 64 := by
  refine ⟨_, rfl, ?_, ?_, ?_⟩ <;> rfl
/-- a []Weld in memory -/
def WsAt (W : World) (a : Option Addr) (ps : List (List Int)) : Prop := ps = [] ∨ ∃ g, a = some ⟨g, 0, none⟩ ∧ g < W.heap.size ∧ ∀ k, k < ps.length → ∀ j, j < 6 → W.cell? ⟨g, k * 6 + j, none⟩ = (weC (ps.getD k []))[j]?
theorem WsAt.below {W W' : World} {B : Nat} {a : Option Addr} {ps : List (List Int)} (h : WsAt W a ps) (hb : Below B W W') (hB : W.heap.size ≤ B) : WsAt W' a ps := by
  rcases h with h | ⟨g, rfl, hg, hc⟩
  · exact Or.inl h
  · exact Or.inr ⟨g, rfl, Nat.lt_of_lt_of_le hg hb.size, fun k hk j hj => (hb.cell (p := ⟨g, k * 6 + j, none⟩) (by show g < B; omega)).trans (hc k hk j hj)⟩
theorem ws_row {X : World} {B n : Nat} {v : Value} {ps : List (List Int)} (h : X.ownsRow B 27 6 v n (wsV ps)) (hn : n = ps.length) : ∃ a c, v = .slice a ps.length c ∧ WsAt X a ps := by
  subst hn
  have hc := h
  rcases h.2 with ⟨rfl, h0⟩ | ⟨g, cap, cur, rfl, hB, hg, _⟩
  · exact ⟨none, 0, by rw [h0], Or.inl (List.length_eq_zero_iff.1 h0)⟩
  · refine ⟨_, cap, rfl, Or.inr ⟨g, rfl, (Array.getElem?_eq_some_iff.1 hg).1, fun k hk j hj => ?_⟩⟩
    have e := wsV_get ps k j hk hj
    have hlt : j < (weC (ps.getD k [])).length := by simpa [weC] using hj
    rw [List.getElem?_eq_getElem hlt] at e ⊢
    have := World.ownsRow.cells hc rfl (k * 6 + j) _ e
    rwa [Addr.add_lit, Nat.zero_add] at this
theorem WsAt.six {W : World} {a : Option Addr} {ps : List (List Int)} (h : WsAt W a ps) {k : Nat} (hk : k < ps.length) : ∃ g, a = some ⟨g, 0, none⟩ ∧ g < W.heap.size ∧
    W.cell? ⟨g, k * 6, none⟩ = some (.int .i64 (szL (ps.getD k [])).b) ∧ W.cell? ⟨g, k * 6 + 1, none⟩ = some (.int .i64 (szL (ps.getD k [])).r) ∧ W.cell? ⟨g, k * 6 + 2, none⟩ = some (.int .i64 (szL (ps.getD k [])).u) ∧
    W.cell? ⟨g, k * 6 + 3, none⟩ = some (.int .i64 (szL (ps.getD k [])).e) ∧ W.cell? ⟨g, k * 6 + 4, none⟩ = some (.string (strOfNums ((ps.getD k []).take 3))) ∧ W.cell? ⟨g, k * 6 + 5, none⟩ = some (.string (strOfNums (tail3 (ps.getD k [])))) := by
  rcases h with h | ⟨g, rfl, hg, hc⟩
  · rw [h] at hk; simp at hk
  · exact ⟨g, rfl, hg, hc k hk 0 (by decide), hc k hk 1 (by decide), hc k hk 2 (by decide), hc k hk 3 (by decide), hc k hk 4 (by decide), hc k hk 5 (by decide)⟩
/-- one Weld is appended to a list of one's own -/
theorem push_we (W : World) (B n : Nat) (v : Value) (xs : List Value) (p : List Int) (ty : TypeId) (h : W.ownsRow B 27 6 v n xs) (hn : n ≤ 1099511627776) (hB : B ≤ W.heap.size) :
    ∃ g k W', (Builtin.append_ #[42, 42] ty #[v, .slice (some ⟨W.heap.size, 0, none⟩) 1 1]).run Tryd.prog (W.alloc (.cells (weC p).toArray 27)) = .ok (.slice (some ⟨g, 0, none⟩) (n + 1) k) W' ∧
      W'.ownsRow B 27 6 (.slice (some ⟨g, 0, none⟩) (n + 1) k) (n + 1) (xs ++ weC p) ∧ (W.alloc (.cells (weC p).toArray 27)).grownBy W' v.ownBlock ∧ (v.ownBlock = some g ∨ g = W.heap.size + 1) ∧ Below B W W' := by
  obtain ⟨i, hi, hz, hs, hby⟩ := info_we
  have hr := World.ownsRow.alloc h (.cells (weC p).toArray 27)
  obtain ⟨g, k, W', hrun, ho, hg, hor, _⟩ := run_append_lies (P := Tryd.prog) (W.alloc (.cells (weC p).toArray 27)) 42 ty B 27 i (.agg #[.int .i64 0, .int .i64 0, .int .i64 0, .int .i64 0, .string ⟨#[]⟩, .string ⟨#[]⟩]) 6 64 Tryd.underlying42 hi hz hs hby rfl (by decide)
    v n xs hr ⟨W.heap.size, 0, none⟩ 1 1 (weC p) rfl
    (fun j u hj => by
      rw [Addr.add_lit, Nat.zero_add]
      refine (World.cell?_alloc_mark W _ _ (0, 0) j).trans ?_
      rw [List.getElem?_toArray]; exact hj)
    (fun u hu => by simp [weC] at hu; rcases hu with rfl | rfl | rfl | rfl | rfl | rfl <;> rfl) (by decide) (by unfold maxLen; omega) (by omega) (by simp; omega) _ rfl
  refine ⟨g, k, W', hrun, ho, hg, ?_, ((Below.refl B W).alloc hB _).grown hg (by simp; omega) (fun k hk => (hr.lt k hk).1)⟩
  rcases hor with h1 | h1
  · exact Or.inl h1
  · exact Or.inr (by rw [h1]; simp)
/-- Sum's state behind k pieces -/
structure SuI (w : World) (gR gW : Nat) (ps : List (List Int)) (k : Nat) (X : World) : Prop where
  d : Below w.heap.size w X
  r : X.heap[gR]? = some (.cells #[.int .i64 0, .int .i64 0, .int .i64 0, .int .i64 0, .string ⟨#[]⟩, .string ⟨#[]⟩] 27 (0, 0))
  c : X.heap[gW]? = some (.cells (weC (ps.take k).flatten).toArray 27 (0, 0))
  z : gR < gW ∧ gW < X.heap.size
theorem fl_take {ps : List (List Int)} {k : Nat} (hk : k < ps.length) : (ps.take (k + 1)).flatten = (ps.take k).flatten ++ ps.getD k [] := by
  rw [List.take_add_one, List.getElem?_eq_getElem hk, Option.toList_some, List.flatten_append, List.getD_eq_getElem?_getD, List.getElem?_eq_getElem hk]
  simp
theorem fl_le (ps : List (List Int)) (k : Nat) : (ps.take k).flatten.length ≤ ps.flatten.length := by
  have : ps.flatten = (ps.take k).flatten ++ (ps.drop k).flatten := by rw [← List.flatten_append, List.take_append_drop]
  rw [this, List.length_append]
  omega
theorem set6_below {X : World} {g : Nat} (a b c d e f : Value) : Below g X ((((((X.setCell ⟨g, 0, none⟩ a).setCell ⟨g, 1, none⟩ b).setCell ⟨g, 2, none⟩ c).setCell ⟨g, 3, none⟩ d).setCell ⟨g, 4, none⟩ e).setCell ⟨g, 5, none⟩ f) :=
  ((((((Below.refl g X).setCell (p := ⟨g, 0, none⟩) (Nat.le_refl _) _).setCell (p := ⟨g, 1, none⟩) (Nat.le_refl _) _).setCell (p := ⟨g, 2, none⟩) (Nat.le_refl _) _).setCell (p := ⟨g, 3, none⟩) (Nat.le_refl _) _).setCell (p := ⟨g, 4, none⟩) (Nat.le_refl _) _).setCell (p := ⟨g, 5, none⟩) (Nat.le_refl _) _

set_option maxRecDepth 100000 in
set_option maxHeartbeats 4000000 in
theorem SumP_at (a : Option Addr) (c : Nat) (ps : List (List Int)) (w : World) (hR : WsAt w a ps) (hps : ∀ p ∈ ps, ∀ x ∈ p, 0 ≤ x ∧ x ≤ 255) (hn : ps.flatten.length ≤ 268435456) (hl : ps.length ≤ 9223372036854775807) (hW : Wt w) :
    Calls Tryd.prog 18 #[.slice a ps.length c] w fun y w' => y = .returned (.tuple #[weV (ofL ps.flatten), .int .i64 0]) ∧ Below w.heap.size w w' := by
  have HR := hide hR
  have HP := hide hps
  have HW := hide fun (X : World) (h : Below w.heap.size w X) => hW.below h
  clear hR hps hW
  have b0 := (Below.refl w.heap.size w).alloc (Nat.le_refl _) (.cells #[.int .i64 0, .int .i64 0, .int .i64 0, .int .i64 0, .string ⟨#[]⟩, .string ⟨#[]⟩] 27)
  have g0 := push_get w (.cells #[.int .i64 0, .int .i64 0, .int .i64 0, .int .i64 0, .string ⟨#[]⟩, .string ⟨#[]⟩] 27)
  have z0 : (w.alloc (.cells #[.int .i64 0, .int .i64 0, .int .i64 0, .int .i64 0, .string ⟨#[]⟩, .string ⟨#[]⟩] 27)).heap.size = w.heap.size + 1 := World.size_alloc ..
  have HZ0 := hide z0
  clear z0
  go_enter Tryd.func18, Tryd.ntmps18
  go_upto_region 1 with fail
  generalize w.alloc (.cells #[.int .i64 0, .int .i64 0, .int .i64 0, .int .i64 0, .string ⟨#[]⟩, .string ⟨#[]⟩] 27) = w0 at *
  have b1 := (Below.refl w0.heap.size w0).alloc (Nat.le_refl _) (.cells #[.int .i64 0, .int .i64 0, .int .i64 0, .int .i64 0, .string ⟨#[]⟩, .string ⟨#[]⟩] 27)
  have g1 := push_get w0 (.cells #[.int .i64 0, .int .i64 0, .int .i64 0, .int .i64 0, .string ⟨#[]⟩, .string ⟨#[]⟩] 27)
  have S1 : Hid (SuI w w.heap.size w0.heap.size ps 0 (w0.alloc (.cells #[.int .i64 0, .int .i64 0, .int .i64 0, .int .i64 0, .string ⟨#[]⟩, .string ⟨#[]⟩] 27))) := hide ⟨b0.trans (b1.mono b0.size), (b1.block w.heap.size (by have := unhide HZ0; omega)).trans g0, g1, by have := unhide HZ0; omega, by rw [World.size_alloc]; omega⟩
  clear b0 g0 b1 g1
  go_upto_region 2 with fail
  generalize w0.alloc (.cells #[.int .i64 0, .int .i64 0, .int .i64 0, .int .i64 0, .string ⟨#[]⟩, .string ⟨#[]⟩] 27) = w1 at *
  generalize w0.heap.size = gW at *
  clear HZ0
  go_wp2_with fail
  go_loopw [6, 7, 10] (fun v6 v7 vk wx => ∃ k : Nat, vk = .int .i64 (k : Int) ∧ k ≤ ps.length ∧ (∃ z, v6 = z) ∧ (∃ z, v7 = z) ∧ Hid (SuI w w.heap.size gW ps k wx)) (fun _ _ vk _ => ps.length - (intOf vk).toNat)
  case atStart => exact ⟨0, rfl, Nat.zero_le _, ⟨_, rfl⟩, ⟨_, rfl⟩, S1⟩
  case round =>
    clear S1
    obtain ⟨k, rfl, hk, ⟨z1, rfl⟩, ⟨z2, rfl⟩, HI⟩ := hrel
    by_cases hlt : k < ps.length
    · have t1 : decide ((k : Int) < (ps.length : Int)) = true := decide_eq_true (by omega)
      obtain ⟨g, rfl, hg, e0, e1, e2, e3, e4, e5⟩ := ((unhide HR).below (unhide HI).d (Nat.le_refl _)).six hlt
      have hpk : ps.getD k [] ∈ ps := by rw [List.getD_eq_getElem?_getD, List.getElem?_eq_getElem hlt]; exact List.getElem_mem hlt
      have h1 : ∀ x ∈ (ps.take k).flatten, 0 ≤ x ∧ x ≤ 255 := fun x hx => by
        obtain ⟨q, hq, hx2⟩ := List.mem_flatten.1 hx
        exact unhide HP q (List.mem_of_mem_take hq) x hx2
      have h2 : ∀ x ∈ ps.getD k [], 0 ≤ x ∧ x ≤ 255 := unhide HP _ hpk
      have hsum : (ps.take k).flatten.length + (ps.getD k []).length ≤ 268435456 := by
        have := fl_le ps (k + 1)
        rw [fl_take hlt, List.length_append] at this
        omega
      have HJ := hide fun (X : World) (h : Below w.heap.size w X) => Join_at (ofL (ps.take k).flatten) (ofL (ps.getD k [])) X (unhide HW X h) (byw_of h1) (byw_of h2)
      rw [join_of h1 h2 hsum, ← fl_take hlt] at HJ
      have we1 : ∀ q : List Int, weV (ofL q) = .agg #[.int .i64 (szL q).b, .int .i64 (szL q).r, .int .i64 (szL q).u, .int .i64 (szL q).e, .string (strOfNums (q.take 3)), .string (strOfNums (tail3 q))] := fun q => rfl
      have wc1 : ∀ q : List Int, (weC q).toArray = #[.int .i64 (szL q).b, .int .i64 (szL q).r, .int .i64 (szL q).u, .int .i64 (szL q).e, .string (strOfNums (q.take 3)), .string (strOfNums (tail3 q))] := fun q => rfl
      dsimp only at HJ
      simp only [we1] at HJ
      have hgk := (unhide HI).c
      rw [wc1] at hgk
      have HNX : Hid (∀ Y : World, Below w.heap.size w Y → Y.heap[w.heap.size]? = some (.cells #[.int .i64 0, .int .i64 0, .int .i64 0, .int .i64 0, .string ⟨#[]⟩, .string ⟨#[]⟩] 27 (0, 0)) → Y.heap[gW]? = some (.cells #[.int .i64 (szL (ps.take (k + 1)).flatten).b, .int .i64 (szL (ps.take (k + 1)).flatten).r, .int .i64 (szL (ps.take (k + 1)).flatten).u, .int .i64 (szL (ps.take (k + 1)).flatten).e, .string (strOfNums (List.take 3 (ps.take (k + 1)).flatten)), .string (strOfNums (tail3 (ps.take (k + 1)).flatten))] 27 (0, 0)) → w.heap.size < gW ∧ gW < Y.heap.size → Hid (SuI w w.heap.size gW ps (k + 1) Y)) := hide fun Y a1 a2 a3 a4 => hide ⟨a1, a2, by rw [wc1]; exact a3, a4⟩
      clear h1 h2 hsum hpk we1 wc1
      generalize (ps.take (k + 1)).flatten = Q2 at *
      generalize (ps.take k).flatten = Q1 at *
      generalize ps.getD k [] = Q0 at *
      generalize (szL Q1).b = xb at *
      generalize (szL Q1).r = xr at *
      generalize (szL Q1).u = xu at *
      generalize (szL Q1).e = xe at *
      generalize strOfNums (List.take 3 Q1) = xh at *
      generalize strOfNums (tail3 Q1) = xt at *
      generalize (szL Q0).b = yb at *
      generalize (szL Q0).r = yr at *
      generalize (szL Q0).u = yu at *
      generalize (szL Q0).e = ye at *
      generalize strOfNums (List.take 3 Q0) = yh at *
      generalize strOfNums (tail3 Q0) = yt at *
      generalize (szL Q2).b = zb at *
      generalize (szL Q2).r = zr at *
      generalize (szL Q2).u = zu at *
      generalize (szL Q2).e = ze at *
      generalize strOfNums (List.take 3 Q2) = zh at *
      generalize strOfNums (tail3 Q2) = zt at *
      have bA := (Below.refl wr.heap.size wr).alloc (Nat.le_refl _) (.cells #[.int .i64 yb, .int .i64 yr, .int .i64 yu, .int .i64 ye, .string yh, .string yt] 27)
      have gA := push_get wr (.cells #[.int .i64 yb, .int .i64 yr, .int .i64 yu, .int .i64 ye, .string yh, .string yt] 27)
      have HA : Hid (Below w.heap.size w (wr.alloc (.cells #[.int .i64 yb, .int .i64 yr, .int .i64 yu, .int .i64 ye, .string yh, .string yt] 27))) := hide ((unhide HI).d.trans (bA.mono (unhide HI).d.size))
      have hkA : (wr.alloc (.cells #[.int .i64 yb, .int .i64 yr, .int .i64 yu, .int .i64 ye, .string yh, .string yt] 27)).heap[gW]? = _ := (bA.block gW (unhide HI).z.2).trans hgk
      have hrA : (wr.alloc (.cells #[.int .i64 yb, .int .i64 yr, .int .i64 yu, .int .i64 ye, .string yh, .string yt] 27)).heap[w.heap.size]? = _ := (bA.block w.heap.size (Nat.lt_trans (unhide HI).z.1 (unhide HI).z.2)).trans (unhide HI).r
      have hzA : w.heap.size < gW ∧ gW < (wr.alloc (.cells #[.int .i64 yb, .int .i64 yr, .int .i64 yu, .int .i64 ye, .string yh, .string yt] 27)).heap.size := ⟨(unhide HI).z.1, Nat.lt_of_lt_of_le (unhide HI).z.2 bA.size⟩
      obtain ⟨p0, p1, p2, p3, p4, p5, pf⟩ := cells6 gA
      clear pf
      obtain ⟨q0, q1, q2, q3, q4, q5, qf⟩ := cells6 hkA
      clear qf
      have HKA := hide hkA
      have HRA := hide hrA
      have HZA := hide hzA
      clear bA gA hkA hrA hzA hgk HI
      go_wp2_with fail
      clear e0 e1 e2 e3 e4 e5 p0 q0 p1 q1 p2 q2 p3 q3 p4 q4 p5 q5
      generalize wr.alloc (.cells #[.int .i64 yb, .int .i64 yr, .int .i64 yu, .int .i64 ye, .string yh, .string yt] 27) = wA at *
      refine (unhide HJ wA (unhide HA)).mono ?_
      rintro y wB ⟨rfl, xB⟩
      have dB := (unhide HA).trans (xB.mono (unhide HA).size)
      have kB : wB.heap[gW]? = _ := (xB.block gW (unhide HZA).2).trans (unhide HKA)
      have rB : wB.heap[w.heap.size]? = _ := (xB.block w.heap.size (Nat.lt_trans (unhide HZA).1 (unhide HZA).2)).trans (unhide HRA)
      have zB : w.heap.size < gW ∧ gW < wB.heap.size := ⟨(unhide HZA).1, Nat.lt_of_lt_of_le (unhide HZA).2 xB.size⟩
      have sB := set6_below (X := wB) (g := gW) (.int .i64 zb) (.int .i64 zr) (.int .i64 zu) (.int .i64 ze) (.string zh) (.string zt)
      have HN := unhide HNX _ (dB.trans (sB.mono (Nat.le_of_lt zB.1))) ((sB.block w.heap.size zB.1).trans rB) (box6_all kB (.int .i64 zb) (.int .i64 zr) (.int .i64 zu) (.int .i64 ze) (.string zh) (.string zt)) ⟨zB.1, Nat.lt_of_lt_of_le zB.2 sB.size⟩
      obtain ⟨q0, q1, q2, q3, q4, q5, qf⟩ := cells6 kB
      have f0 := qf 0
      have f1 := qf 1
      have f2 := qf 2
      have f3 := qf 3
      have f4 := qf 4
      have f5 := qf 5
      clear qf
      clear HJ HA HKA HRA HZA HNX xB dB kB rB zB sB
      go_wp2_with fail
      go_roundw
      case rel => exact ⟨k + 1, by go_num, hlt, ⟨_, rfl⟩, ⟨_, rfl⟩, HN⟩
      case measure => simp [intOf]; omega
    · obtain rfl : k = ps.length := by omega
      have t1 : decide ((ps.length : Int) < (ps.length : Int)) = false := decide_eq_false (by omega)
      have hc := (unhide HI).c
      have wc1 : ∀ q : List Int, (weC q).toArray = #[.int .i64 (szL q).b, .int .i64 (szL q).r, .int .i64 (szL q).u, .int .i64 (szL q).e, .string (strOfNums (q.take 3)), .string (strOfNums (tail3 q))] := fun q => rfl
      rw [List.take_length, wc1] at hc
      have HV : Hid (weV (ofL ps.flatten) = .agg #[.int .i64 (szL ps.flatten).b, .int .i64 (szL ps.flatten).r, .int .i64 (szL ps.flatten).u, .int .i64 (szL ps.flatten).e, .string (strOfNums (List.take 3 ps.flatten)), .string (strOfNums (tail3 ps.flatten))]) := hide rfl
      have hr := (unhide HI).r
      have HD := hide (unhide HI).d
      clear HI wc1
      generalize (szL ps.flatten).b = zb at *
      generalize (szL ps.flatten).r = zr at *
      generalize (szL ps.flatten).u = zu at *
      generalize (szL ps.flatten).e = ze at *
      generalize strOfNums (List.take 3 ps.flatten) = zh at *
      generalize strOfNums (tail3 ps.flatten) = zt at *
      have HX := hide (box6_all hr (.int .i64 zb) (.int .i64 zr) (.int .i64 zu) (.int .i64 ze) (.string zh) (.string zt))
      have HB := hide (below6 (unhide HD) (Nat.le_refl _) (.int .i64 zb) (.int .i64 zr) (.int .i64 zu) (.int .i64 ze) (.string zh) (.string zt))
      obtain ⟨q0, q1, q2, q3, q4, q5, qf⟩ := cells6 hc
      clear qf
      obtain ⟨p0, p1, p2, p3, p4, p5, pf⟩ := cells6 hr
      have f0 := pf 0
      have f1 := pf 1
      have f2 := pf 2
      have f3 := pf 3
      have f4 := pf 4
      have f5 := pf 5
      clear pf
      clear hc hr HD
      go_wp2_with fail
      generalize ((((((wr.setCell ⟨w.heap.size, 0, none⟩ (.int .i64 zb)).setCell ⟨w.heap.size, 1, none⟩ (.int .i64 zr)).setCell ⟨w.heap.size, 2, none⟩ (.int .i64 zu)).setCell ⟨w.heap.size, 3, none⟩ (.int .i64 ze)).setCell ⟨w.heap.size, 4, none⟩ (.string zh)).setCell ⟨w.heap.size, 5, none⟩ (.string zt)) = wf at *
      obtain ⟨r0, r1, r2, r3, r4, r5, _⟩ := cells6 (unhide HX)
      refine bodyPost_ret (v := .tuple #[.agg #[.int .i64 zb, .int .i64 zr, .int .i64 zu, .int .i64 ze, .string zh, .string zt], .int .i64 0]) (by simp [results, Tryd.results18, go_sem, r0, r1, r2, r3, r4, r5]) rfl ⟨by rw [unhide HV], unhide HB⟩

end Go.Proofs.YtlhobpjiclcpiaaDoor
