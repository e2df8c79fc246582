/- Layer 5: lists of Welds, whatever they are: in memory, as an argument, copied; Sum in plain words. · Layer 5: Sum of any list of Welds, the program's and the document's (written by wip/tools/wsm.py). · Layer 5: the document's Sum of any list of Welds (written by wip/tools/wsn.py). · WeldSum: the walk (written by wip/tools/wsw.py). -/
import Derived.Test.YtchlnphapnafcaaDoorWrM
import Derived.Test.YtchlnphapnafcaaDoorLayV
import Derived.Deep.Slices
import Derived.Deep.SlicePairs
import Derived.Deep.AppendLies
import Derived.Test.YtchlnphapnafcaaDoorRw8
import Derived.Test.YtchlnphapnafcaaDoorWfx

section
namespace Go.Proofs.YtchlnphapnafcaaDoor
open Go.ChangeShapes Go.WideShapes Go.ChangeAt Go.RowKit

instance : Inhabited We := ⟨zeroWe⟩
/-- a Weld's six cells -/
def weL (x : We) : List Value := [.int .i64 x.z.b, .int .i64 x.z.r, .int .i64 x.z.u, .int .i64 x.z.e, .string (strOfNums x.h), .string (strOfNums x.t)]
def wqV (q : List We) : List Value := q.flatMap weL
theorem wqV_len (q : List We) : (wqV q).length = q.length * 6 := by
  induction q with
  | nil => rfl
  | cons t ts ih => simp only [wqV, List.flatMap_cons, List.length_append, List.length_cons] at ih ⊢; rw [ih]; simp [weL]; omega
theorem wqV_get : ∀ (q : List We) (k j : Nat), k < q.length → j < 6 → (wqV q)[k * 6 + j]? = (weL (q.getD k zeroWe))[j]?
  | [], k, _, hk, _ => absurd hk (by simp)
  | t :: ts, 0, j, _, hj => by
    rw [wqV, List.flatMap_cons, Nat.zero_mul, Nat.zero_add, List.getElem?_append_left (by simpa [weL] using hj)]; rfl
  | t :: ts, k + 1, j, hk, hj => by
    have ih := wqV_get ts k j (by simpa using hk) hj
    rw [wqV, List.flatMap_cons, List.getElem?_append_right (by simp [weL]; omega), show (k + 1) * 6 + j - (weL t).length = k * 6 + j by simp [weL]; omega]
    simpa [wqV] using ih
/-- a []Weld in memory -/
def WsL (W : World) (a : Option Addr) (q : List We) : Prop := q = [] ∨ ∃ g off, a = some ⟨g, off, none⟩ ∧ g < W.heap.size ∧ ∀ k, k < q.length → ∀ j, j < 6 → W.cell? ⟨g, off + (k * 6 + j), none⟩ = (weL (q.getD k zeroWe))[j]?
theorem WsL.below {W W' : World} {B : Nat} {a : Option Addr} {q : List We} (h : WsL W a q) (hb : Below B W W') (hB : W.heap.size ≤ B) : WsL W' a q := by
  rcases h with h | ⟨g, off, rfl, hg, hc⟩
  · exact Or.inl h
  · exact Or.inr ⟨g, off, rfl, Nat.lt_of_lt_of_le hg hb.size, fun k hk j hj => (hb.cell (p := ⟨g, off + (k * 6 + j), none⟩) (by show g < B; omega)).trans (hc k hk j hj)⟩
theorem WsL.six {W : World} {a : Option Addr} {q : List We} (h : WsL W a q) {k : Nat} (hk : k < q.length) : ∃ g off, a = some ⟨g, off, none⟩ ∧ g < W.heap.size ∧
    W.cell? ⟨g, off + k * 6, none⟩ = some (.int .i64 (q.getD k zeroWe).z.b) ∧ W.cell? ⟨g, off + k * 6 + 1, none⟩ = some (.int .i64 (q.getD k zeroWe).z.r) ∧ W.cell? ⟨g, off + k * 6 + 2, none⟩ = some (.int .i64 (q.getD k zeroWe).z.u) ∧
    W.cell? ⟨g, off + k * 6 + 3, none⟩ = some (.int .i64 (q.getD k zeroWe).z.e) ∧ W.cell? ⟨g, off + k * 6 + 4, none⟩ = some (.string (strOfNums (q.getD k zeroWe).h)) ∧ W.cell? ⟨g, off + k * 6 + 5, none⟩ = some (.string (strOfNums (q.getD k zeroWe).t)) := by
  rcases h with h | ⟨g, off, rfl, hg, hc⟩
  · rw [h] at hk; simp at hk
  · exact ⟨g, off, rfl, hg, hc k hk 0 (by decide), hc k hk 1 (by decide), hc k hk 2 (by decide), hc k hk 3 (by decide), hc k hk 4 (by decide), hc k hk 5 (by decide)⟩
set_option maxRecDepth 100000 in
theorem weld_cells {H : Type} {enc : TypeId × Value → H} {W : World} {cs : List Value} {fuel : Nat} {x : DataW H × List MemPlace}
    (hl : cs.length = 6) (hf : DataW.trod enc Tryd.prog W 0 (fun _ => true) true fuel 25 cs = some x) : ∃ q : We, cs = weL q ∧ Byw q := by
  obtain ⟨xs, n, _, _, _, hx, hall⟩ := DataW.trod_struct Tryd.underlying25 hf
  have hx' : xs.length = 3 := hx
  have hc : Tryd.prog.cellsOf 3 = 1 := by kernel_rfl
  have hc2 : Tryd.prog.cellsOf 23 = 4 := by kernel_rfl
  have hc3 : Tryd.prog.cellsOf 9 = 1 := by kernel_rfl
  have g0 : DataW.trod enc Tryd.prog W 0 (fun _ => true) true n 23 ((cs.drop 0).take (Tryd.prog.cellsOf 23)) = xs[0]? := hall 0 _ rfl
  have g1 : DataW.trod enc Tryd.prog W 0 (fun _ => true) true n 9 ((cs.drop 4).take (Tryd.prog.cellsOf 9)) = xs[1]? := hall 1 _ rfl
  have g2 : DataW.trod enc Tryd.prog W 0 (fun _ => true) true n 9 ((cs.drop 5).take (Tryd.prog.cellsOf 9)) = xs[2]? := hall 2 _ rfl
  rw [hc2, List.getElem?_eq_getElem (show 0 < xs.length by omega)] at g0
  rw [hc3] at g1 g2
  obtain ⟨ys, k, _, _, _, hy, hall2⟩ := DataW.trod_struct Tryd.underlying23 g0
  have hy' : ys.length = 4 := hy
  have j0 : DataW.trod enc Tryd.prog W 0 (fun _ => true) true k 3 ((((cs.drop 0).take 4).drop 0).take (Tryd.prog.cellsOf 3)) = ys[0]? := hall2 0 _ rfl
  have j1 : DataW.trod enc Tryd.prog W 0 (fun _ => true) true k 3 ((((cs.drop 0).take 4).drop 1).take (Tryd.prog.cellsOf 3)) = ys[1]? := hall2 1 _ rfl
  have j2 : DataW.trod enc Tryd.prog W 0 (fun _ => true) true k 3 ((((cs.drop 0).take 4).drop 2).take (Tryd.prog.cellsOf 3)) = ys[2]? := hall2 2 _ rfl
  have j3 : DataW.trod enc Tryd.prog W 0 (fun _ => true) true k 3 ((((cs.drop 0).take 4).drop 3).take (Tryd.prog.cellsOf 3)) = ys[3]? := hall2 3 _ rfl
  rw [hc] at j0 j1 j2 j3
  obtain ⟨b, e0⟩ := one_intV Tryd.underlying3 (by omega) j0
  obtain ⟨r, e1⟩ := one_intV Tryd.underlying3 (by omega) j1
  obtain ⟨u, e2⟩ := one_intV Tryd.underlying3 (by omega) j2
  obtain ⟨e, e3⟩ := one_intV Tryd.underlying3 (by omega) j3
  obtain ⟨s, e4⟩ := one_strV Tryd.underlying9 (by omega) g1
  obtain ⟨t, e5⟩ := one_strV Tryd.underlying9 (by omega) g2
  refine ⟨⟨⟨b, r, u, e⟩, numsOf s, numsOf t⟩, ?_, nums_in s, nums_in t⟩
  unfold weL
  dsimp only
  rw [str_nums, str_nums]
  apply List.ext_getElem?
  intro i
  match i with
  | 0 => rw [show cs[0]? = ((cs.drop 0).take 4)[0]? by simp]; exact e0
  | 1 => rw [show cs[1]? = ((cs.drop 0).take 4)[1]? by simp]; exact e1
  | 2 => rw [show cs[2]? = ((cs.drop 0).take 4)[2]? by simp]; exact e2
  | 3 => rw [show cs[3]? = ((cs.drop 0).take 4)[3]? by simp]; exact e3
  | 4 => exact e4
  | 5 => exact e5
  | i + 6 => rw [List.getElem?_eq_none (by omega)]; rfl
set_option maxRecDepth 100000 in
theorem welds_of_trod {H : Type} {enc : TypeId × Value → H} {W : World} {a0 : Option Addr} {len0 cap0 : Nat} {d0 : DataW H} {p0 : List MemPlace}
    (h0 : DataW.Trod enc Tryd.prog W 0 (fun _ => true) true 38 (Value.slice a0 len0 cap0) d0 p0)
    {ts : List TypeId} {ds : List (DataW H)} {j : Nat} (hsz : (DataW.weightsEach Tryd.prog ts ds).all (· ≤ reachBytes) = true) (ht : ts[j]? = some 38) (hd : ds[j]? = some d0) :
    ∃ q : List We, len0 = q.length ∧ (WsL W a0 q ∧ (∀ x ∈ q, Byw x) ∧ q.length * 64 ≤ 140737488351232 ∧ q.length ≤ cap0) := by
  obtain ⟨fuel, hf⟩ := h0
  rcases Go.Deep.open_slice Tryd.underlying38 hf with ⟨hcs, _⟩ | ⟨a, len, cap, m, n, D, Pl, hcs, _, hl, hm, hmm, hx, hrow⟩
  · simp [Value.cells] at hcs
    obtain ⟨rfl, rfl, rfl⟩ := hcs
    exact ⟨[], rfl, Or.inl rfl, by simp, by simp, Nat.zero_le _⟩
  · simp [Value.cells] at hcs
    obtain ⟨rfl, rfl, rfl⟩ := hcs
    simp only [Prod.mk.injEq] at hx
    obtain ⟨rfl, _⟩ := hx
    have hs := sized_slice hsz ht hd Tryd.underlying38
    rw [show Tryd.prog.bytesOf 25 = 64 by kernel_rfl] at hs
    have hr : reachBytes = 140737488351232 := rfl
    simp only [List.length_map, List.length_range] at hs
    simp only [if_true] at hmm
    subst hmm
    have ce : Tryd.prog.cellsOf 25 = 6 := by kernel_rfl
    have each : ∀ r, r < len0 → ∃ y : We, Byw y ∧ ∀ j, j < 6 → W.cell? (a.add (r * 6 + j)) = (weL y)[j]? := by
      intro r hr
      obtain ⟨cs', h1, h2⟩ := hrow r (by omega)
      rw [ce] at h1
      obtain ⟨_, hlen, hcell⟩ := World.cells?_some h1
      obtain ⟨y, rfl, hby⟩ := weld_cells hlen h2
      refine ⟨y, hby, fun j hj => ?_⟩
      have e := hcell j (by omega)
      rw [Go.Deep.add_add] at e
      rw [e, List.getElem?_eq_getElem (by simpa [weL] using hj)]
    obtain ⟨y, hy⟩ := Go.Deep.choose_lt each
    refine ⟨(List.range len0).map y, by simp, ?_, ?_, by simp; omega, by simpa using hl⟩
    · rcases Nat.eq_zero_or_pos len0 with h0 | h0
      · subst h0; exact Or.inl rfl
      · obtain ⟨b, off, spot⟩ := a
        have hc0 := (hy 0 (by omega)).2 0 (by decide)
        have hc1 : W.cell? (Addr.add ⟨b, off, spot⟩ (0 * 6 + 0)) = some (.int .i64 (y 0).z.b) := hc0
        have hspot : spot = none := by simpa [Addr.add] using World.cell?_spot hc1
        subst hspot
        have hbl : b < W.heap.size := by
          rcases Nat.lt_or_ge b W.heap.size with h | h
          · exact h
          · rw [Addr.add_lit] at hc1
            simp [World.cell?, Array.getElem?_eq_none h] at hc1
        refine Or.inr ⟨b, off, rfl, hbl, fun r hr j hj => ?_⟩
        simp only [List.length_map, List.length_range] at hr
        have e : ((List.range len0).map y).getD r zeroWe = y r := by simp [List.getD, hr]
        rw [e]
        have := (hy r hr).2 j hj
        rwa [Addr.add_lit] at this
    · intro x hx
      obtain ⟨r, hr, rfl⟩ := List.mem_map.1 hx
      exact (hy r (List.mem_range.1 hr)).1
set_option maxRecDepth 100000 in
theorem info_weL : ∃ i, Tryd.prog.info? 25 = some i ∧ i.zero = some (.agg #[.int .i64 0, .int .i64 0, .int .i64 0, .int .i64 0, .string ⟨#[]⟩, .string ⟨#[]⟩]) ∧ i.size = 6 ∧ i.bytes = 64 := by
  refine ⟨_, rfl, ?_, ?_, ?_⟩ <;> rfl
theorem weL_one {x : We} {u : Value} (h : u ∈ weL x) : u.oneCell' = true := by
  simp [weL] at h
  rcases h with rfl | rfl | rfl | rfl | rfl | rfl <;> rfl
/-- append([]Weld{}, l...) -/
theorem copy_we (w : World) (a0 : Option Addr) (cap : Nat) (q : List We) (ty : TypeId) (hq : WsL w a0 q) (hb : q.length * 64 ≤ 140737488351232) :
    ∃ a' cap' w', (Builtin.append_ #[38, 38] ty #[.slice (some ⟨w.heap.size, 0, none⟩) 0 0, .slice a0 q.length cap]).run Tryd.prog (w.alloc (.cells #[] 25)) = .ok (.slice a' q.length cap') w' ∧
      q.length ≤ cap' ∧ WsL w' a' q ∧ Below w.heap.size w w' := by
  obtain ⟨i, hi, hz, hs, hby⟩ := info_weL
  have hb0 : Below w.heap.size w (w.alloc (.cells #[] 25)) := (Below.refl _ _).alloc (Nat.le_refl _) _
  have hq1 := hq.below hb0 (Nat.le_refl _)
  rcases Nat.eq_zero_or_pos q.length with h0 | h0
  · obtain rfl : q = [] := List.length_eq_zero_iff.1 h0
    refine ⟨some ⟨w.heap.size, 0, none⟩, 0, _, ?_, Nat.le_refl _, Or.inl rfl, hb0⟩
    have hsrc : Src Tryd.prog i.size 38 (.slice a0 0 cap) 0 [] (w.alloc (.cells #[] 25)) := by
      cases a0 with
      | none => exact Src.ofNil _ Tryd.underlying38 cap
      | some x => exact Src.ofSlice _ Tryd.underlying38 x 0 cap [] (by simp) (fun j u h => by simp at h) (fun u h => by cases h)
    have := run_append_room_src (P := Tryd.prog) (w.alloc (.cells #[] 25)) 38 38 ty 25 i Tryd.underlying38 hi w.heap.size 0 0 0 (.slice a0 0 cap) 0 [] hsrc (Nat.le_refl _) (fun j hj => absurd hj (Nat.not_lt_zero _)) (fun j hj => absurd hj (Nat.not_lt_zero _))
    exact this
  · rcases hq1 with h3 | ⟨g, off, rfl, hg, hL⟩
    · rw [h3] at h0; cases h0
    have hsrc : Src Tryd.prog i.size 38 (.slice (some ⟨g, off, none⟩) q.length cap) q.length (wqV q) (w.alloc (.cells #[] 25)) := by
      refine Src.ofSlice _ Tryd.underlying38 ⟨g, off, none⟩ q.length cap (wqV q) (by rw [hs, wqV_len]) (fun j u h => ?_) (fun u h => ?_)
      · have hj : j < (wqV q).length := (List.getElem?_eq_some_iff.1 h).1
        rw [wqV_len] at hj
        have hk : j / 6 < q.length := by omega
        have e := hL (j / 6) hk (j % 6) (by omega)
        rw [← wqV_get q (j / 6) (j % 6) hk (by omega), show j / 6 * 6 + j % 6 = j by omega, h] at e
        rw [Addr.add_lit]
        exact e
      · obtain ⟨x, _, hx⟩ := List.mem_flatMap.1 h
        exact weL_one hx
    have hcap : Builtin.nextslicecap (0 + q.length) 0 = q.length := by unfold Builtin.nextslicecap; rw [if_pos (by omega)]; omega
    have := run_append_grow_src (P := Tryd.prog) (w.alloc (.cells #[] 25)) 38 38 ty 25 i _ Tryd.underlying38 hi hz (some ⟨w.heap.size, 0, none⟩) 0 0 []
      (by rw [hs]; exact run_firstCells_some _ 6 0 _ 0 0 [] rfl (fun j v h => by simp at h)) (.slice (some ⟨g, off, none⟩) q.length cap) q.length (wqV q) hsrc (by omega) (by omega)
      (by rw [hcap, hby]; omega)
    rw [Nat.zero_add, List.nil_append] at this
    refine ⟨_, _, _, this, ?_, Or.inr ⟨_, 0, rfl, ?_, ?_⟩, ?_⟩
    · exact grownCap_ge _ _ _ _
    · simp
    · intro k hk j hj
      rw [Nat.zero_add]
      refine (World.cell?_alloc_mark (w.alloc (.cells #[] 25)).drew _ 25 (0, 0) (k * 6 + j)).trans ?_
      rw [Array.getElem?_append_left (by rw [List.size_toArray, wqV_len]; omega), List.getElem?_toArray]
      exact wqV_get q k j hk hj
    · exact (hb0.drew).alloc (by simp) _
/-- Sum in plain words: from what is summed up on -/
def sumF : We → List We → We × Int
  | acc, [] => (acc, 0)
  | acc, x :: r => if (joinL acc x).2.2 = 0 then sumF (joinL acc x).1 r else (zeroWe, (joinL acc x).2.2)
theorem sumF_at {q : List We} {k : Nat} (hk : k < q.length) (acc : We) : sumF acc (q.drop k) = if (joinL acc (q.getD k zeroWe)).2.2 = 0 then sumF (joinL acc (q.getD k zeroWe)).1 (q.drop (k + 1)) else (zeroWe, (joinL acc (q.getD k zeroWe)).2.2) := by
  rw [List.drop_eq_getElem_cons hk]
  have e : q.getD k zeroWe = q[k] := by simp [List.getD, List.getElem?_eq_getElem hk]
  rw [e]
  rfl
theorem zero_byw : Byw zeroWe := ⟨by intro y hy; simp [zeroWe] at hy, by intro y hy; simp [zeroWe] at hy⟩
theorem join_byw {a b : We} (ha : Byw a) (hb : Byw b) : Byw (joinL a b).1 := by
  rcases join_kinds a b with ⟨e, _, h⟩ | ⟨h, _⟩
  · rw [h]; exact zero_byw
  · rw [h]; exact both_byw ha hb
theorem join_err {a b : We} (h : (joinL a b).2.2 ≠ 0) : (joinL a b).1 = zeroWe := by
  rcases join_kinds a b with ⟨e, _, h'⟩ | ⟨h', _⟩
  · rw [h']
  · rw [h'] at h; exact absurd rfl h
theorem getD_byw {q : List We} (hq : ∀ x ∈ q, Byw x) {k : Nat} (hk : k < q.length) : Byw (q.getD k zeroWe) := by
  have e : q.getD k zeroWe = q[k] := by simp [List.getD, List.getElem?_eq_getElem hk]
  rw [e]
  exact hq _ (List.getElem_mem hk)
end Go.Proofs.YtchlnphapnafcaaDoor
end

section
namespace Go.Proofs.YtchlnphapnafcaaDoor
open Go.ChangeShapes Go.WideShapes Go.ChangeAt Go.RowKit

/-- Sum's state: the result's cell and what is summed up -/
structure SuL (w : World) (gR gW : Nat) (acc : We) (X : World) : Prop where
  d : Below w.heap.size w X
  r : X.heap[gR]? = some (.cells (wc zeroWe) 25 (0, 0))
  c : X.heap[gW]? = some (.cells (wc acc) 25 (0, 0))
  z : w.heap.size ≤ gR ∧ gR < gW
theorem SuL.on {w : World} {gR gW : Nat} {acc : We} {X Y : World} (h : SuL w gR gW acc X) (hb : Below X.heap.size X Y) : SuL w gR gW acc Y := ⟨h.d.trans (hb.mono h.d.size), blk_on h.r hb, blk_on h.c hb, h.z⟩
theorem SuL.put {w : World} {gR gW : Nat} {acc : We} {X : World} (h : SuL w gR gW acc X) (y : We) : SuL w gR gW y ((((((X.setCell ⟨gW, 0, none⟩ (.int .i64 y.z.b)).setCell ⟨gW, 1, none⟩ (.int .i64 y.z.r)).setCell ⟨gW, 2, none⟩ (.int .i64 y.z.u)).setCell ⟨gW, 3, none⟩ (.int .i64 y.z.e)).setCell ⟨gW, 4, none⟩ (.string (strOfNums y.h))).setCell ⟨gW, 5, none⟩ (.string (strOfNums y.t))) :=
  ⟨below6 h.d (by have := h.z; omega) _ _ _ _ _ _, (set6_other _ _ _ _ _ _ _ (by have := h.z; omega)).trans h.r, box6_w h.c, h.z⟩
theorem SuL.ret {w : World} {gR gW : Nat} {acc : We} {X : World} (h : SuL w gR gW acc X) (y : We) : ((((((X.setCell ⟨gR, 0, none⟩ (.int .i64 y.z.b)).setCell ⟨gR, 1, none⟩ (.int .i64 y.z.r)).setCell ⟨gR, 2, none⟩ (.int .i64 y.z.u)).setCell ⟨gR, 3, none⟩ (.int .i64 y.z.e)).setCell ⟨gR, 4, none⟩ (.string (strOfNums y.h))).setCell ⟨gR, 5, none⟩ (.string (strOfNums y.t))).heap[gR]? = some (.cells (wc y) 25 (0, 0)) ∧ Below w.heap.size w ((((((X.setCell ⟨gR, 0, none⟩ (.int .i64 y.z.b)).setCell ⟨gR, 1, none⟩ (.int .i64 y.z.r)).setCell ⟨gR, 2, none⟩ (.int .i64 y.z.u)).setCell ⟨gR, 3, none⟩ (.int .i64 y.z.e)).setCell ⟨gR, 4, none⟩ (.string (strOfNums y.h))).setCell ⟨gR, 5, none⟩ (.string (strOfNums y.t))) := ⟨box6_w h.r, below6 h.d h.z.1 _ _ _ _ _ _⟩

set_option maxRecDepth 100000 in
set_option maxHeartbeats 4000000 in
theorem SumL_at (a : Option Addr) (c : Nat) (q : List We) (w : World) (hR : WsL w a q) (hq : ∀ x ∈ q, Byw x) (hl : q.length * 64 ≤ 140737488351232) (hW : Wt w) :
    Calls Tryd.prog 12 #[.slice a q.length c] w fun y w' => y = .returned (.tuple #[weV (sumF zeroWe q).1, .int .i64 (sumF zeroWe q).2]) ∧ Below w.heap.size w w' := by
  have HR := hide hR
  have HP := hide hq
  have HW := hide fun (X : World) (h : Below w.heap.size w X) => hW.below h
  clear hR hq hW
  have z0 : (w.alloc (.cells #[.int .i64 0, .int .i64 0, .int .i64 0, .int .i64 0, .string ⟨#[]⟩, .string ⟨#[]⟩] 25)).heap.size = w.heap.size + 1 := World.size_alloc ..
  have S1 : Hid (SuL w w.heap.size (w.heap.size + 1) zeroWe ((w.alloc (.cells #[.int .i64 0, .int .i64 0, .int .i64 0, .int .i64 0, .string ⟨#[]⟩, .string ⟨#[]⟩] 25)).alloc (.cells #[.int .i64 0, .int .i64 0, .int .i64 0, .int .i64 0, .string ⟨#[]⟩, .string ⟨#[]⟩] 25))) := hide (by
    refine ⟨((Below.refl _ _).alloc (Nat.le_refl _) _).alloc (by omega) _, ?_, ?_, by omega, by omega⟩
    · rw [heap_alloc_old _ _ (by omega)]
      exact push_get w _
    · have := push_get (w.alloc (.cells #[.int .i64 0, .int .i64 0, .int .i64 0, .int .i64 0, .string ⟨#[]⟩, .string ⟨#[]⟩] 25)) (.cells #[.int .i64 0, .int .i64 0, .int .i64 0, .int .i64 0, .string ⟨#[]⟩, .string ⟨#[]⟩] 25)
      rwa [z0] at this)
  go_enter Tryd.func12, Tryd.ntmps12
  go_upto_region 2 with fail
  try rw [z0]
  clear z0
  generalize (w.alloc (.cells #[.int .i64 0, .int .i64 0, .int .i64 0, .int .i64 0, .string ⟨#[]⟩, .string ⟨#[]⟩] 25)).alloc (.cells #[.int .i64 0, .int .i64 0, .int .i64 0, .int .i64 0, .string ⟨#[]⟩, .string ⟨#[]⟩] 25) = w1 at *
  generalize w.heap.size + 1 = gW at *
  generalize hgR : w.heap.size = gR at S1 ⊢
  clear hgR
  go_wp2_with fail
  go_loopw [6, 7, 10] (fun v6 v7 vk wx => ∃ (k : Nat) (acc : We), vk = .int .i64 (k : Int) ∧ k ≤ q.length ∧ (∃ z, v6 = z) ∧ (∃ z, v7 = z) ∧ Byw acc ∧ Hid (sumF zeroWe q = sumF acc (q.drop k)) ∧ Hid (SuL w gR gW acc wx)) (fun _ _ vk _ => q.length - (intOf vk).toNat)
  case atStart => exact ⟨0, zeroWe, rfl, Nat.zero_le _, ⟨_, rfl⟩, ⟨_, rfl⟩, zero_byw, hide (by rw [List.drop_zero]), S1⟩
  case round =>
    clear S1
    obtain ⟨k, acc, rfl, hk, ⟨z1, rfl⟩, ⟨z2, rfl⟩, hby, HS, HI⟩ := hrel
    have HBY := hide hby
    clear hby
    by_cases hlt : k < q.length
    · have t1 : decide ((k : Int) < (q.length : Int)) = true := decide_eq_true (by omega)
      have hsx := sumF_at hlt acc
      have HX := hide (getD_byw (unhide HP) hlt)
      obtain ⟨g, off, rfl, hg, e0, e1, e2, e3, e4, e5⟩ := ((unhide HR).below (unhide HI).d (Nat.le_refl _)).six hlt
      obtain ⟨x, hx⟩ : ∃ x, x = q.getD k zeroWe := ⟨_, rfl⟩
      rw [← hx] at hsx HX e0 e1 e2 e3 e4 e5
      clear hx
      obtain ⟨y, s, e, hj⟩ : ∃ y s e, joinL acc x = (y, s, e) := ⟨_, _, _, rfl⟩
      have HYB := hide (join_byw (unhide HBY) (unhide HX))
      have HER := hide (join_err (a := acc) (b := x))
      rw [hj] at hsx HYB HER
      dsimp only at hsx HYB HER
      have HSX := hide ((unhide HS).trans hsx)
      have HJ := hide fun (X : World) (h : Below w.heap.size w X) => Join_at acc x X (unhide HW X h) (unhide HBY) (unhide HX)
      rw [hj] at HJ
      unfold weV at HJ
      dsimp only at HJ
      clear hsx hj HS
      have HA := hide ((unhide HI).on ((Below.refl wr.heap.size wr).alloc (Nat.le_refl _) (.cells #[.int .i64 x.z.b, .int .i64 x.z.r, .int .i64 x.z.u, .int .i64 x.z.e, .string (strOfNums x.h), .string (strOfNums x.t)] 25)))
      have gA := push_get wr (.cells #[.int .i64 x.z.b, .int .i64 x.z.r, .int .i64 x.z.u, .int .i64 x.z.e, .string (strOfNums x.h), .string (strOfNums x.t)] 25)
      obtain ⟨p0, p1, p2, p3, p4, p5, pf⟩ := cells6 gA
      obtain ⟨q0, q1, q2, q3, q4, q5, qf⟩ := cells6 (unhide HA).c
      clear pf qf gA HI
      go_wp2_with fail
      clear e0 e1 e2 e3 e4 e5 p0 q0 p1 q1 p2 q2 p3 q3 p4 q4 p5 q5
      generalize wr.alloc (.cells #[.int .i64 x.z.b, .int .i64 x.z.r, .int .i64 x.z.u, .int .i64 x.z.e, .string (strOfNums x.h), .string (strOfNums x.t)] 25) = wA at *
      refine (unhide HJ wA (unhide HA).d).mono ?_
      rintro r wB ⟨rfl, xB⟩
      dsimp only
      have HB := hide ((unhide HA).on xB)
      have HC := hide ((unhide HB).put y)
      obtain ⟨q0, q1, q2, q3, q4, q5, qf⟩ := cells6 (unhide HB).c
      have f0 := qf 0
      have f1 := qf 1
      have f2 := qf 2
      have f3 := qf 3
      have f4 := qf 4
      have f5 := qf 5
      clear qf HJ HA xB
      go_upto_region 7 with fail
      clear q0 q1 q2 q3 q4 q5 f0 f1 f2 f3 f4 f5 HB
      generalize ((((((wB.setCell ⟨gW, 0, none⟩ (.int .i64 y.z.b)).setCell ⟨gW, 1, none⟩ (.int .i64 y.z.r)).setCell ⟨gW, 2, none⟩ (.int .i64 y.z.u)).setCell ⟨gW, 3, none⟩ (.int .i64 y.z.e)).setCell ⟨gW, 4, none⟩ (.string (strOfNums y.h))).setCell ⟨gW, 5, none⟩ (.string (strOfNums y.t))) = wC at *
      by_cases he : e = 0
      · have HSY : Hid (sumF zeroWe q = sumF y (q.drop (k + 1))) := hide (by have := unhide HSX; rwa [if_pos he] at this)
        subst he
        go_wp2_with fail
        go_roundw
        case rel => exact ⟨k + 1, y, by go_num, hlt, ⟨_, rfl⟩, ⟨_, rfl⟩, unhide HYB, HSY, HC⟩
        case measure => simp [intOf]; omega
      · have HSY : Hid (sumF zeroWe q = (zeroWe, e)) := hide (by have := unhide HSX; rwa [if_neg he] at this)
        have hen : (e != 0) = true := by rw [bne_iff_ne]; exact he
        obtain ⟨c0, c1, c2, c3, c4, c5, f⟩ := cells6 (unhide HC).r
        have f0 := f 0
        have f1 := f 1
        have f2 := f 2
        have f3 := f 3
        have f4 := f 4
        have f5 := f 5
        clear f
        have HF : Hid (((((((wC.setCell ⟨gR, 0, none⟩ (.int .i64 0)).setCell ⟨gR, 1, none⟩ (.int .i64 0)).setCell ⟨gR, 2, none⟩ (.int .i64 0)).setCell ⟨gR, 3, none⟩ (.int .i64 0)).setCell ⟨gR, 4, none⟩ (.string ⟨#[]⟩)).setCell ⟨gR, 5, none⟩ (.string ⟨#[]⟩)).heap[gR]? = some (.cells #[.int .i64 0, .int .i64 0, .int .i64 0, .int .i64 0, .string ⟨#[]⟩, .string ⟨#[]⟩] 25 (0, 0)) ∧ Below w.heap.size w ((((((wC.setCell ⟨gR, 0, none⟩ (.int .i64 0)).setCell ⟨gR, 1, none⟩ (.int .i64 0)).setCell ⟨gR, 2, none⟩ (.int .i64 0)).setCell ⟨gR, 3, none⟩ (.int .i64 0)).setCell ⟨gR, 4, none⟩ (.string ⟨#[]⟩)).setCell ⟨gR, 5, none⟩ (.string ⟨#[]⟩))) := hide ((unhide HC).ret zeroWe)
        go_wp2_with fail
        clear c0 c1 c2 c3 c4 c5 f0 f1 f2 f3 f4 f5
        generalize ((((((wC.setCell ⟨gR, 0, none⟩ (.int .i64 0)).setCell ⟨gR, 1, none⟩ (.int .i64 0)).setCell ⟨gR, 2, none⟩ (.int .i64 0)).setCell ⟨gR, 3, none⟩ (.int .i64 0)).setCell ⟨gR, 4, none⟩ (.string ⟨#[]⟩)).setCell ⟨gR, 5, none⟩ (.string ⟨#[]⟩)) = wf at *
        obtain ⟨c0, c1, c2, c3, c4, c5, _⟩ := cells6 (unhide HF).1
        refine bodyPost_ret (v := .tuple #[.agg #[.int .i64 0, .int .i64 0, .int .i64 0, .int .i64 0, .string ⟨#[]⟩, .string ⟨#[]⟩], .int .i64 e]) (by simp [results, Tryd.results12, go_sem, c0, c1, c2, c3, c4, c5]) rfl ⟨by rw [unhide HSY]; rfl, (unhide HF).2⟩
    · obtain rfl : k = q.length := by omega
      have t1 : decide ((q.length : Int) < (q.length : Int)) = false := decide_eq_false (by omega)
      have HSY : Hid (sumF zeroWe q = (acc, 0)) := hide (by have := unhide HS; rwa [List.drop_length] at this)
      obtain ⟨q0, q1, q2, q3, q4, q5, qf⟩ := cells6 (unhide HI).c
      clear qf
      obtain ⟨c0, c1, c2, c3, c4, c5, f⟩ := cells6 (unhide HI).r
      have f0 := f 0
      have f1 := f 1
      have f2 := f 2
      have f3 := f 3
      have f4 := f 4
      have f5 := f 5
      clear f
      have HF : Hid (((((((wr.setCell ⟨gR, 0, none⟩ (.int .i64 acc.z.b)).setCell ⟨gR, 1, none⟩ (.int .i64 acc.z.r)).setCell ⟨gR, 2, none⟩ (.int .i64 acc.z.u)).setCell ⟨gR, 3, none⟩ (.int .i64 acc.z.e)).setCell ⟨gR, 4, none⟩ (.string (strOfNums acc.h))).setCell ⟨gR, 5, none⟩ (.string (strOfNums acc.t))).heap[gR]? = some (.cells #[.int .i64 acc.z.b, .int .i64 acc.z.r, .int .i64 acc.z.u, .int .i64 acc.z.e, .string (strOfNums acc.h), .string (strOfNums acc.t)] 25 (0, 0)) ∧ Below w.heap.size w ((((((wr.setCell ⟨gR, 0, none⟩ (.int .i64 acc.z.b)).setCell ⟨gR, 1, none⟩ (.int .i64 acc.z.r)).setCell ⟨gR, 2, none⟩ (.int .i64 acc.z.u)).setCell ⟨gR, 3, none⟩ (.int .i64 acc.z.e)).setCell ⟨gR, 4, none⟩ (.string (strOfNums acc.h))).setCell ⟨gR, 5, none⟩ (.string (strOfNums acc.t)))) := hide ((unhide HI).ret acc)
      go_wp2_with fail
      clear q0 q1 q2 q3 q4 q5 c0 c1 c2 c3 c4 c5 f0 f1 f2 f3 f4 f5
      generalize ((((((wr.setCell ⟨gR, 0, none⟩ (.int .i64 acc.z.b)).setCell ⟨gR, 1, none⟩ (.int .i64 acc.z.r)).setCell ⟨gR, 2, none⟩ (.int .i64 acc.z.u)).setCell ⟨gR, 3, none⟩ (.int .i64 acc.z.e)).setCell ⟨gR, 4, none⟩ (.string (strOfNums acc.h))).setCell ⟨gR, 5, none⟩ (.string (strOfNums acc.t))) = wf at *
      obtain ⟨c0, c1, c2, c3, c4, c5, _⟩ := cells6 (unhide HF).1
      refine bodyPost_ret (v := .tuple #[.agg #[.int .i64 acc.z.b, .int .i64 acc.z.r, .int .i64 acc.z.u, .int .i64 acc.z.e, .string (strOfNums acc.h), .string (strOfNums acc.t)], .int .i64 0]) (by simp [results, Tryd.results12, go_sem, c0, c1, c2, c3, c4, c5]) rfl ⟨by rw [unhide HSY]; rfl, (unhide HF).2⟩
end Go.Proofs.YtchlnphapnafcaaDoor
end

section
namespace Go.Proofs.YtchlnphapnafcaaDoor
open Go.ChangeShapes Go.WideShapes Go.ChangeAt Go.RowKit

theorem of_nil5 : ofL [] = zeroWe := by decide
theorem SuL.other {w : World} {gR gW gN : Nat} {acc : We} {X : World} (h : SuL w gR gW acc X) (y : We) (h1 : gR ≠ gN) (h2 : gW ≠ gN) (h3 : w.heap.size ≤ gN) : SuL w gR gW acc ((((((X.setCell ⟨gN, 0, none⟩ (.int .i64 y.z.b)).setCell ⟨gN, 1, none⟩ (.int .i64 y.z.r)).setCell ⟨gN, 2, none⟩ (.int .i64 y.z.u)).setCell ⟨gN, 3, none⟩ (.int .i64 y.z.e)).setCell ⟨gN, 4, none⟩ (.string (strOfNums y.h))).setCell ⟨gN, 5, none⟩ (.string (strOfNums y.t))) :=
  ⟨below6 h.d h3 _ _ _ _ _ _, (set6_other _ _ _ _ _ _ _ h1).trans h.r, (set6_other _ _ _ _ _ _ _ h2).trans h.c, h.z⟩
set_option maxRecDepth 100000 in
set_option maxHeartbeats 4000000 in
theorem RSumL_at (a : Option Addr) (c : Nat) (q : List We) (w : World) (hR : WsL w a q) (hq : ∀ x ∈ q, Byw x) (hl : q.length * 64 ≤ 140737488351232) :
    Calls Tryd.prog 13 #[.slice a q.length c] w fun y w' => y = .returned (.tuple #[weV (sumF zeroWe q).1, .int .i64 (sumF zeroWe q).2]) ∧ Below w.heap.size w w' := by
  have HR := hide hR
  have HP := hide hq
  clear hR hq
  have b0 := (Below.refl w.heap.size w).alloc (Nat.le_refl _) (.cells #[.int .i64 0, .int .i64 0, .int .i64 0, .int .i64 0, .string ⟨#[]⟩, .string ⟨#[]⟩] 25)
  have g0 := push_get w (.cells #[.int .i64 0, .int .i64 0, .int .i64 0, .int .i64 0, .string ⟨#[]⟩, .string ⟨#[]⟩] 25)
  have RO := hide (ROf_at none 0 [] (w.alloc (.cells #[.int .i64 0, .int .i64 0, .int .i64 0, .int .i64 0, .string ⟨#[]⟩, .string ⟨#[]⟩] 25)) ⟨by decide, by decide, Or.inl rfl, by simp⟩ (by decide))
  rw [of_nil5] at RO
  unfold weV zeroWe at RO
  dsimp only at RO
  go_enter Tryd.func13, Tryd.ntmps13
  go_wp2_with fail
  refine (unhide RO).mono ?_
  rintro r w0 ⟨rfl, x0⟩
  dsimp only
  clear RO
  have b1 := b0.trans (x0.mono b0.size)
  have g1 := blk_on g0 x0
  have x1 := (Below.refl w0.heap.size w0).alloc (Nat.le_refl _) (.cells #[.int .i64 0, .int .i64 0, .int .i64 0, .int .i64 0, .string ⟨#[]⟩, .string ⟨#[]⟩] 25)
  have S1 : Hid (SuL w w.heap.size w0.heap.size zeroWe (w0.alloc (.cells #[.int .i64 0, .int .i64 0, .int .i64 0, .int .i64 0, .string ⟨#[]⟩, .string ⟨#[]⟩] 25))) := hide ⟨b1.trans (x1.mono b1.size), blk_on g1 x1, push_get w0 _, Nat.le_refl _, blk_lt g1⟩
  have hse : (strOfNums []) = ⟨#[]⟩ := rfl
  try simp only [hse] at *
  clear b0 g0 x0 b1 g1 x1 hse
  go_upto_region 2 with fail
  generalize w0.alloc (.cells #[.int .i64 0, .int .i64 0, .int .i64 0, .int .i64 0, .string ⟨#[]⟩, .string ⟨#[]⟩] 25) = w1 at *
  generalize w0.heap.size = gW at *
  generalize hgR : w.heap.size = gR at S1 ⊢
  clear hgR
  go_wp2_with fail
  go_loopw [5, 6, 7] (fun vk v6 v7 wx => ∃ (k : Nat) (acc : We), vk = .int .i64 (k : Int) ∧ k ≤ q.length ∧ (∃ z, v6 = z) ∧ (∃ z, v7 = z) ∧ Byw acc ∧ Hid (sumF zeroWe q = sumF acc (q.drop k)) ∧ Hid (SuL w gR gW acc wx)) (fun vk _ _ _ => q.length - (intOf vk).toNat)
  case atStart => exact ⟨0, zeroWe, rfl, Nat.zero_le _, ⟨_, rfl⟩, ⟨_, rfl⟩, zero_byw, hide (by rw [List.drop_zero]), S1⟩
  case round =>
    clear S1
    obtain ⟨k, acc, rfl, hk, ⟨z1, rfl⟩, ⟨z2, rfl⟩, hby, HS, HI⟩ := hrel
    have HBY := hide hby
    clear hby
    by_cases hlt : k < q.length
    · have t1 : (k : Int) < (q.length : Int) := by omega
      have hsx := sumF_at hlt acc
      have HX := hide (getD_byw (unhide HP) hlt)
      obtain ⟨g, off, rfl, _, _⟩ := (unhide HR).six hlt
      have HSC : Hid (∀ X, SuL w gR gW acc X → ((X.cell? ⟨gW, 0, none⟩ = some (.int .i64 acc.z.b) ∧ X.cell? ⟨gW, 1, none⟩ = some (.int .i64 acc.z.r) ∧ X.cell? ⟨gW, 2, none⟩ = some (.int .i64 acc.z.u) ∧ X.cell? ⟨gW, 3, none⟩ = some (.int .i64 acc.z.e) ∧ X.cell? ⟨gW, 4, none⟩ = some (.string (strOfNums acc.h)) ∧ X.cell? ⟨gW, 5, none⟩ = some (.string (strOfNums acc.t))) ∧ (X.cell? ⟨g, off + k * 6, none⟩ = some (.int .i64 (q.getD k zeroWe).z.b) ∧ X.cell? ⟨g, off + k * 6 + 1, none⟩ = some (.int .i64 (q.getD k zeroWe).z.r) ∧ X.cell? ⟨g, off + k * 6 + 2, none⟩ = some (.int .i64 (q.getD k zeroWe).z.u) ∧ X.cell? ⟨g, off + k * 6 + 3, none⟩ = some (.int .i64 (q.getD k zeroWe).z.e) ∧ X.cell? ⟨g, off + k * 6 + 4, none⟩ = some (.string (strOfNums (q.getD k zeroWe).h)) ∧ X.cell? ⟨g, off + k * 6 + 5, none⟩ = some (.string (strOfNums (q.getD k zeroWe).t))))) := hide (fun X h => by
        obtain ⟨g', off', he, _, e0, e1, e2, e3, e4, e5⟩ := ((unhide HR).below h.d (Nat.le_refl _)).six hlt
        cases he
        obtain ⟨q0, q1, q2, q3, q4, q5, _⟩ := cells6 h.c
        exact ⟨⟨q0, q1, q2, q3, q4, q5⟩, e0, e1, e2, e3, e4, e5⟩)
      obtain ⟨x, hx⟩ : ∃ x, x = q.getD k zeroWe := ⟨_, rfl⟩
      rw [← hx] at hsx HX HSC
      clear hx
      obtain ⟨y, s, e, hj⟩ : ∃ y s e, joinL acc x = (y, s, e) := ⟨_, _, _, rfl⟩
      have HYB := hide (join_byw (unhide HBY) (unhide HX))
      rw [hj] at hsx HYB
      dsimp only at hsx HYB
      have HSX := hide ((unhide HS).trans hsx)
      have HJ := hide fun (X : World) => RJoin_at acc x X (unhide HBY) (unhide HX)
      rw [hj] at HJ
      unfold weV at HJ
      dsimp only at HJ
      clear hsx hj HS
      have S0 := (unhide HI).on (Below.refl wr.heap.size wr).drew
      clear HI
      go_upto_region 5 with fail
      refine regionL (S := fun w' => (w'.cell? ⟨gW, 0, none⟩ = some (.int .i64 acc.z.b) ∧ w'.cell? ⟨gW, 1, none⟩ = some (.int .i64 acc.z.r) ∧ w'.cell? ⟨gW, 2, none⟩ = some (.int .i64 acc.z.u) ∧ w'.cell? ⟨gW, 3, none⟩ = some (.int .i64 acc.z.e) ∧ w'.cell? ⟨gW, 4, none⟩ = some (.string (strOfNums acc.h)) ∧ w'.cell? ⟨gW, 5, none⟩ = some (.string (strOfNums acc.t))) ∧ (w'.cell? ⟨g, off + k * 6, none⟩ = some (.int .i64 x.z.b) ∧ w'.cell? ⟨g, off + k * 6 + 1, none⟩ = some (.int .i64 x.z.r) ∧ w'.cell? ⟨g, off + k * 6 + 2, none⟩ = some (.int .i64 x.z.u) ∧ w'.cell? ⟨g, off + k * 6 + 3, none⟩ = some (.int .i64 x.z.e) ∧ w'.cell? ⟨g, off + k * 6 + 4, none⟩ = some (.string (strOfNums x.h)) ∧ w'.cell? ⟨g, off + k * 6 + 5, none⟩ = some (.string (strOfNums x.t)))) (fun _ => false) (by kernel_rfl) ?_
      generalize wr.drew = y0 at *
      refine anyL_take (i := 0) (v := ?vq0) rfl (by kernel_rfl) (by kernel_rfl) (by kernel_rfl) (by kernel_rfl) (fun _ _ _ h => h) (Or.inl ⟨by rfl, ?hq0⟩) (unhide HSC _ S0) ?_
      case hq0 => (intro w hSw; (try dsimp only at hSw); go_simp) <;> with_reducible rfl
      simp only [Act.put, List.getElem_toArray, List.getElem_cons_zero, List.setIfInBounds_toArray, List.set_cons_zero, List.set_cons_succ]
      refine anyL_take (i := 1) (v := ?vq1) rfl (by kernel_rfl) (by kernel_rfl) (by kernel_rfl) (by kernel_rfl) (fun _ _ _ h => h) (Or.inl ⟨by rfl, ?hq1⟩) (unhide HSC _ S0) ?_
      case hq1 => (intro w hSw; (try dsimp only at hSw); go_simp) <;> with_reducible rfl
      simp only [Act.put, List.getElem_toArray, List.getElem_cons_zero, List.getElem_cons_succ, List.setIfInBounds_toArray, List.set_cons_zero, List.set_cons_succ]
      refine anyL_take (i := 2) (v := ?vq2) rfl (by kernel_rfl) (by kernel_rfl) (by kernel_rfl) (by kernel_rfl) (fun _ _ _ h => h) (Or.inl ⟨by rfl, ?hq2⟩) (unhide HSC _ S0) ?_
      case hq2 => (intro w hSw; (try dsimp only at hSw); go_simp) <;> with_reducible rfl
      simp only [Act.put, List.getElem_toArray, List.getElem_cons_zero, List.getElem_cons_succ, List.setIfInBounds_toArray, List.set_cons_zero, List.set_cons_succ]
      refine anyL_take (i := 3) (v := ?vq3) rfl (by kernel_rfl) (by kernel_rfl) (by kernel_rfl) (by kernel_rfl) (fun _ _ _ h => h) (Or.inl ⟨by rfl, ?hq3⟩) (unhide HSC _ S0) ?_
      case hq3 => (intro w hSw; (try dsimp only at hSw); go_simp) <;> with_reducible rfl
      simp only [Act.put, List.getElem_toArray, List.getElem_cons_zero, List.getElem_cons_succ, List.setIfInBounds_toArray, List.set_cons_zero, List.set_cons_succ]
      refine anyL_take (i := 4) (v := ?vq4) rfl (by kernel_rfl) (by kernel_rfl) (by kernel_rfl) (by kernel_rfl) (fun _ _ _ h => h) (Or.inl ⟨by rfl, ?hq4⟩) (unhide HSC _ S0) ?_
      case hq4 => (intro w hSw; (try dsimp only at hSw); go_simp) <;> with_reducible rfl
      simp only [Act.put, List.getElem_toArray, List.getElem_cons_zero, List.getElem_cons_succ, List.setIfInBounds_toArray, List.set_cons_zero, List.set_cons_succ]
      refine anyL_ready (rs := [5, 9]) (by kernel_rfl) (by simp) ?_
      refine AllL.cons rfl (fun K hK => ?_) (AllL.cons rfl (fun K hK => ?_) AllL.nil)
      · go_simp
        refine (unhide HJ y0).mono ?_
        rintro r y1 ⟨rfl, x1⟩
        try dsimp only
        have S1 := S0.on x1
        refine unhide hK _ _ (fun _ => unhide HSC _ S1) ?_
        clear hK K x1
        refine anyL_take (i := 6) (v := ?vq5) rfl (by kernel_rfl) (by kernel_rfl) (by kernel_rfl) (by kernel_rfl) (fun _ _ _ h => h) (Or.inl ⟨by rfl, ?hq5⟩) (unhide HSC _ S1) ?_
        case hq5 => (intro w hSw; (try dsimp only at hSw); go_simp) <;> with_reducible rfl
        simp only [Act.put, List.getElem_toArray, List.getElem_cons_zero, List.getElem_cons_succ, List.setIfInBounds_toArray, List.set_cons_zero, List.set_cons_succ]
        refine anyL_take (i := 7) (v := ?vq6) rfl (by kernel_rfl) (by kernel_rfl) (by kernel_rfl) (by kernel_rfl) (fun _ _ _ h => h) (Or.inl ⟨by rfl, ?hq6⟩) (unhide HSC _ S1) ?_
        case hq6 => (intro w hSw; (try dsimp only at hSw); go_simp) <;> with_reducible rfl
        simp only [Act.put, List.getElem_toArray, List.getElem_cons_zero, List.getElem_cons_succ, List.setIfInBounds_toArray, List.set_cons_zero, List.set_cons_succ]
        refine anyL_take (i := 8) (v := ?vq7) rfl (by kernel_rfl) (by kernel_rfl) (by kernel_rfl) (by kernel_rfl) (fun _ _ _ h => h) (Or.inl ⟨by rfl, ?hq7⟩) (unhide HSC _ S1) ?_
        case hq7 => (intro w hSw; (try dsimp only at hSw); go_simp) <;> with_reducible rfl
        simp only [Act.put, List.getElem_toArray, List.getElem_cons_zero, List.getElem_cons_succ, List.setIfInBounds_toArray, List.set_cons_zero, List.set_cons_succ]
        refine anyL_ready (rs := [9]) (by kernel_rfl) (by simp) ?_
        refine AllL.cons rfl (fun K hK => ?_) AllL.nil
        go_simp
        have x2 := (Below.refl y1.heap.size y1).alloc (Nat.le_refl _) (.cells #[.int .i64 0, .int .i64 0, .int .i64 0, .int .i64 0, .string ⟨#[]⟩, .string ⟨#[]⟩] 25)
        have N2 := push_get y1 (.cells #[.int .i64 0, .int .i64 0, .int .i64 0, .int .i64 0, .string ⟨#[]⟩, .string ⟨#[]⟩] 25)
        have hN : gR ≠ y1.heap.size ∧ gW ≠ y1.heap.size ∧ w.heap.size ≤ y1.heap.size := ⟨by have := blk_lt S1.r; omega, by have := blk_lt S1.c; omega, S1.d.size⟩
        have S2 := S1.on x2
        refine unhide hK _ _ (fun _ => unhide HSC _ S2) ?_
        clear hK K x2
        generalize y1.alloc (.cells #[.int .i64 0, .int .i64 0, .int .i64 0, .int .i64 0, .string ⟨#[]⟩, .string ⟨#[]⟩] 25) = y2 at *
        generalize y1.heap.size = gN at *
        refine anyL_ready (rs := [10]) (by kernel_rfl) (by simp) ?_
        refine AllL.cons rfl (fun K hK => ?_) AllL.nil
        obtain ⟨p0, p1, p2, p3, p4, p5, pf⟩ := cells6 N2
        have f0 := pf 0
        have f1 := pf 1
        have f2 := pf 2
        have f3 := pf 3
        have f4 := pf 4
        have f5 := pf 5
        clear pf
        have S3 := S2.other y hN.1 hN.2.1 hN.2.2
        have N3 := box6_w (x := zeroWe) (y := y) N2
        go_simp
        refine unhide hK _ _ (fun _ => unhide HSC _ S3) ?_
        clear hK K p0 p1 p2 p3 p4 p5 f0 f1 f2 f3 f4 f5
        generalize (((((y2.setCell ⟨gN, 0, none⟩ (.int .i64 y.z.b)).setCell ⟨gN, 1, none⟩ (.int .i64 y.z.r)).setCell ⟨gN, 2, none⟩ (.int .i64 y.z.u)).setCell ⟨gN, 3, none⟩ (.int .i64 y.z.e)).setCell ⟨gN, 4, none⟩ (.string (strOfNums y.h))).setCell ⟨gN, 5, none⟩ (.string (strOfNums y.t)) = y3 at *
        refine anyL_take (i := 11) (v := ?vq8) rfl (by kernel_rfl) (by kernel_rfl) (by kernel_rfl) (by kernel_rfl) (fun _ _ _ h => h) (Or.inl ⟨by rfl, ?hq8⟩) (unhide HSC _ S3) ?_
        case hq8 => (intro w hSw; (try dsimp only at hSw); go_simp) <;> with_reducible rfl
        simp only [Act.put, List.getElem_toArray, List.getElem_cons_zero, List.getElem_cons_succ, List.setIfInBounds_toArray, List.set_cons_zero, List.set_cons_succ]
        refine anyL_done (by kernel_rfl) ?_ _
        have HC := hide S3
        have HN := hide N3
        generalize y3 = wC at *
        by_cases he : e = 0
        · have HSY : Hid (sumF zeroWe q = sumF y (q.drop (k + 1))) := hide (by have := unhide HSX; rwa [if_pos he] at this)
          subst he
          obtain ⟨q0, q1, q2, q3, q4, q5, qf⟩ := cells6 (unhide HN)
          obtain ⟨p0, p1, p2, p3, p4, p5, pf⟩ := cells6 (unhide HC).c
          have f0 := pf 0
          have f1 := pf 1
          have f2 := pf 2
          have f3 := pf 3
          have f4 := pf 4
          have f5 := pf 5
          have HD := hide ((unhide HC).put y)
          clear pf qf
          go_wp2_with fail
          go_roundw
          case rel => exact ⟨k + 1, y, by go_num, hlt, ⟨_, rfl⟩, ⟨_, rfl⟩, unhide HYB, HSY, HD⟩
          case measure => simp [intOf]; omega
        · have HSY : Hid (sumF zeroWe q = (zeroWe, e)) := hide (by have := unhide HSX; rwa [if_neg he] at this)
          have hen : (e != 0) = true := by rw [bne_iff_ne]; exact he
          obtain ⟨c0, c1, c2, c3, c4, c5, f⟩ := cells6 (unhide HC).r
          have f0 := f 0
          have f1 := f 1
          have f2 := f 2
          have f3 := f 3
          have f4 := f 4
          have f5 := f 5
          clear f
          have HF : Hid (((((((wC.setCell ⟨gR, 0, none⟩ (.int .i64 0)).setCell ⟨gR, 1, none⟩ (.int .i64 0)).setCell ⟨gR, 2, none⟩ (.int .i64 0)).setCell ⟨gR, 3, none⟩ (.int .i64 0)).setCell ⟨gR, 4, none⟩ (.string ⟨#[]⟩)).setCell ⟨gR, 5, none⟩ (.string ⟨#[]⟩)).heap[gR]? = some (.cells #[.int .i64 0, .int .i64 0, .int .i64 0, .int .i64 0, .string ⟨#[]⟩, .string ⟨#[]⟩] 25 (0, 0)) ∧ Below w.heap.size w ((((((wC.setCell ⟨gR, 0, none⟩ (.int .i64 0)).setCell ⟨gR, 1, none⟩ (.int .i64 0)).setCell ⟨gR, 2, none⟩ (.int .i64 0)).setCell ⟨gR, 3, none⟩ (.int .i64 0)).setCell ⟨gR, 4, none⟩ (.string ⟨#[]⟩)).setCell ⟨gR, 5, none⟩ (.string ⟨#[]⟩))) := hide ((unhide HC).ret zeroWe)
          go_wp2_with fail
          clear c0 c1 c2 c3 c4 c5 f0 f1 f2 f3 f4 f5
          generalize ((((((wC.setCell ⟨gR, 0, none⟩ (.int .i64 0)).setCell ⟨gR, 1, none⟩ (.int .i64 0)).setCell ⟨gR, 2, none⟩ (.int .i64 0)).setCell ⟨gR, 3, none⟩ (.int .i64 0)).setCell ⟨gR, 4, none⟩ (.string ⟨#[]⟩)).setCell ⟨gR, 5, none⟩ (.string ⟨#[]⟩)) = wf at *
          obtain ⟨c0, c1, c2, c3, c4, c5, _⟩ := cells6 (unhide HF).1
          refine bodyPost_ret (v := .tuple #[.agg #[.int .i64 0, .int .i64 0, .int .i64 0, .int .i64 0, .string ⟨#[]⟩, .string ⟨#[]⟩], .int .i64 e]) (by simp [results, Tryd.results13, go_sem, c0, c1, c2, c3, c4, c5]) rfl ⟨by rw [unhide HSY]; rfl, (unhide HF).2⟩
      · go_simp
        have x4 := (Below.refl y0.heap.size y0).alloc (Nat.le_refl _) (.cells #[.int .i64 0, .int .i64 0, .int .i64 0, .int .i64 0, .string ⟨#[]⟩, .string ⟨#[]⟩] 25)
        have N4 := push_get y0 (.cells #[.int .i64 0, .int .i64 0, .int .i64 0, .int .i64 0, .string ⟨#[]⟩, .string ⟨#[]⟩] 25)
        have hN : gR ≠ y0.heap.size ∧ gW ≠ y0.heap.size ∧ w.heap.size ≤ y0.heap.size := ⟨by have := blk_lt S0.r; omega, by have := blk_lt S0.c; omega, S0.d.size⟩
        have S4 := S0.on x4
        refine unhide hK _ _ (fun _ => unhide HSC _ S4) ?_
        clear hK K x4
        generalize y0.alloc (.cells #[.int .i64 0, .int .i64 0, .int .i64 0, .int .i64 0, .string ⟨#[]⟩, .string ⟨#[]⟩] 25) = y4 at *
        generalize y0.heap.size = gN at *
        refine anyL_ready (rs := [5]) (by kernel_rfl) (by simp) ?_
        refine AllL.cons rfl (fun K hK => ?_) AllL.nil
        go_simp
        refine (unhide HJ y4).mono ?_
        rintro r y5 ⟨rfl, x5⟩
        try dsimp only
        have S5 := S4.on x5
        have N5 := blk_on N4 x5
        refine unhide hK _ _ (fun _ => unhide HSC _ S5) ?_
        clear hK K x5
        refine anyL_take (i := 6) (v := ?vq9) rfl (by kernel_rfl) (by kernel_rfl) (by kernel_rfl) (by kernel_rfl) (fun _ _ _ h => h) (Or.inl ⟨by rfl, ?hq9⟩) (unhide HSC _ S5) ?_
        case hq9 => (intro w hSw; (try dsimp only at hSw); go_simp) <;> with_reducible rfl
        simp only [Act.put, List.getElem_toArray, List.getElem_cons_zero, List.getElem_cons_succ, List.setIfInBounds_toArray, List.set_cons_zero, List.set_cons_succ]
        refine anyL_take (i := 7) (v := ?vq10) rfl (by kernel_rfl) (by kernel_rfl) (by kernel_rfl) (by kernel_rfl) (fun _ _ _ h => h) (Or.inl ⟨by rfl, ?hq10⟩) (unhide HSC _ S5) ?_
        case hq10 => (intro w hSw; (try dsimp only at hSw); go_simp) <;> with_reducible rfl
        simp only [Act.put, List.getElem_toArray, List.getElem_cons_zero, List.getElem_cons_succ, List.setIfInBounds_toArray, List.set_cons_zero, List.set_cons_succ]
        refine anyL_take (i := 8) (v := ?vq11) rfl (by kernel_rfl) (by kernel_rfl) (by kernel_rfl) (by kernel_rfl) (fun _ _ _ h => h) (Or.inl ⟨by rfl, ?hq11⟩) (unhide HSC _ S5) ?_
        case hq11 => (intro w hSw; (try dsimp only at hSw); go_simp) <;> with_reducible rfl
        simp only [Act.put, List.getElem_toArray, List.getElem_cons_zero, List.getElem_cons_succ, List.setIfInBounds_toArray, List.set_cons_zero, List.set_cons_succ]
        refine anyL_ready (rs := [10]) (by kernel_rfl) (by simp) ?_
        refine AllL.cons rfl (fun K hK => ?_) AllL.nil
        obtain ⟨p0, p1, p2, p3, p4, p5, pf⟩ := cells6 N5
        have f0 := pf 0
        have f1 := pf 1
        have f2 := pf 2
        have f3 := pf 3
        have f4 := pf 4
        have f5 := pf 5
        clear pf
        have S6 := S5.other y hN.1 hN.2.1 hN.2.2
        have N6 := box6_w (x := zeroWe) (y := y) N5
        go_simp
        refine unhide hK _ _ (fun _ => unhide HSC _ S6) ?_
        clear hK K p0 p1 p2 p3 p4 p5 f0 f1 f2 f3 f4 f5
        generalize (((((y5.setCell ⟨gN, 0, none⟩ (.int .i64 y.z.b)).setCell ⟨gN, 1, none⟩ (.int .i64 y.z.r)).setCell ⟨gN, 2, none⟩ (.int .i64 y.z.u)).setCell ⟨gN, 3, none⟩ (.int .i64 y.z.e)).setCell ⟨gN, 4, none⟩ (.string (strOfNums y.h))).setCell ⟨gN, 5, none⟩ (.string (strOfNums y.t)) = y6 at *
        refine anyL_take (i := 11) (v := ?vq12) rfl (by kernel_rfl) (by kernel_rfl) (by kernel_rfl) (by kernel_rfl) (fun _ _ _ h => h) (Or.inl ⟨by rfl, ?hq12⟩) (unhide HSC _ S6) ?_
        case hq12 => (intro w hSw; (try dsimp only at hSw); go_simp) <;> with_reducible rfl
        simp only [Act.put, List.getElem_toArray, List.getElem_cons_zero, List.getElem_cons_succ, List.setIfInBounds_toArray, List.set_cons_zero, List.set_cons_succ]
        refine anyL_done (by kernel_rfl) ?_ _
        have HC := hide S6
        have HN := hide N6
        generalize y6 = wC at *
        by_cases he : e = 0
        · have HSY : Hid (sumF zeroWe q = sumF y (q.drop (k + 1))) := hide (by have := unhide HSX; rwa [if_pos he] at this)
          subst he
          obtain ⟨q0, q1, q2, q3, q4, q5, qf⟩ := cells6 (unhide HN)
          obtain ⟨p0, p1, p2, p3, p4, p5, pf⟩ := cells6 (unhide HC).c
          have f0 := pf 0
          have f1 := pf 1
          have f2 := pf 2
          have f3 := pf 3
          have f4 := pf 4
          have f5 := pf 5
          have HD := hide ((unhide HC).put y)
          clear pf qf
          go_wp2_with fail
          go_roundw
          case rel => exact ⟨k + 1, y, by go_num, hlt, ⟨_, rfl⟩, ⟨_, rfl⟩, unhide HYB, HSY, HD⟩
          case measure => simp [intOf]; omega
        · have HSY : Hid (sumF zeroWe q = (zeroWe, e)) := hide (by have := unhide HSX; rwa [if_neg he] at this)
          have hen : (e != 0) = true := by rw [bne_iff_ne]; exact he
          obtain ⟨c0, c1, c2, c3, c4, c5, f⟩ := cells6 (unhide HC).r
          have f0 := f 0
          have f1 := f 1
          have f2 := f 2
          have f3 := f 3
          have f4 := f 4
          have f5 := f 5
          clear f
          have HF : Hid (((((((wC.setCell ⟨gR, 0, none⟩ (.int .i64 0)).setCell ⟨gR, 1, none⟩ (.int .i64 0)).setCell ⟨gR, 2, none⟩ (.int .i64 0)).setCell ⟨gR, 3, none⟩ (.int .i64 0)).setCell ⟨gR, 4, none⟩ (.string ⟨#[]⟩)).setCell ⟨gR, 5, none⟩ (.string ⟨#[]⟩)).heap[gR]? = some (.cells #[.int .i64 0, .int .i64 0, .int .i64 0, .int .i64 0, .string ⟨#[]⟩, .string ⟨#[]⟩] 25 (0, 0)) ∧ Below w.heap.size w ((((((wC.setCell ⟨gR, 0, none⟩ (.int .i64 0)).setCell ⟨gR, 1, none⟩ (.int .i64 0)).setCell ⟨gR, 2, none⟩ (.int .i64 0)).setCell ⟨gR, 3, none⟩ (.int .i64 0)).setCell ⟨gR, 4, none⟩ (.string ⟨#[]⟩)).setCell ⟨gR, 5, none⟩ (.string ⟨#[]⟩))) := hide ((unhide HC).ret zeroWe)
          go_wp2_with fail
          clear c0 c1 c2 c3 c4 c5 f0 f1 f2 f3 f4 f5
          generalize ((((((wC.setCell ⟨gR, 0, none⟩ (.int .i64 0)).setCell ⟨gR, 1, none⟩ (.int .i64 0)).setCell ⟨gR, 2, none⟩ (.int .i64 0)).setCell ⟨gR, 3, none⟩ (.int .i64 0)).setCell ⟨gR, 4, none⟩ (.string ⟨#[]⟩)).setCell ⟨gR, 5, none⟩ (.string ⟨#[]⟩)) = wf at *
          obtain ⟨c0, c1, c2, c3, c4, c5, _⟩ := cells6 (unhide HF).1
          refine bodyPost_ret (v := .tuple #[.agg #[.int .i64 0, .int .i64 0, .int .i64 0, .int .i64 0, .string ⟨#[]⟩, .string ⟨#[]⟩], .int .i64 e]) (by simp [results, Tryd.results13, go_sem, c0, c1, c2, c3, c4, c5]) rfl ⟨by rw [unhide HSY]; rfl, (unhide HF).2⟩
    · obtain rfl : k = q.length := by omega
      have t1 : ¬ ((q.length : Int) < (q.length : Int)) := by omega
      have HSY : Hid (sumF zeroWe q = (acc, 0)) := hide (by have := unhide HS; rwa [List.drop_length] at this)
      obtain ⟨q0, q1, q2, q3, q4, q5, qf⟩ := cells6 (unhide HI).c
      clear qf
      obtain ⟨c0, c1, c2, c3, c4, c5, f⟩ := cells6 (unhide HI).r
      have f0 := f 0
      have f1 := f 1
      have f2 := f 2
      have f3 := f 3
      have f4 := f 4
      have f5 := f 5
      clear f
      have HF : Hid (((((((wr.setCell ⟨gR, 0, none⟩ (.int .i64 acc.z.b)).setCell ⟨gR, 1, none⟩ (.int .i64 acc.z.r)).setCell ⟨gR, 2, none⟩ (.int .i64 acc.z.u)).setCell ⟨gR, 3, none⟩ (.int .i64 acc.z.e)).setCell ⟨gR, 4, none⟩ (.string (strOfNums acc.h))).setCell ⟨gR, 5, none⟩ (.string (strOfNums acc.t))).heap[gR]? = some (.cells #[.int .i64 acc.z.b, .int .i64 acc.z.r, .int .i64 acc.z.u, .int .i64 acc.z.e, .string (strOfNums acc.h), .string (strOfNums acc.t)] 25 (0, 0)) ∧ Below w.heap.size w ((((((wr.setCell ⟨gR, 0, none⟩ (.int .i64 acc.z.b)).setCell ⟨gR, 1, none⟩ (.int .i64 acc.z.r)).setCell ⟨gR, 2, none⟩ (.int .i64 acc.z.u)).setCell ⟨gR, 3, none⟩ (.int .i64 acc.z.e)).setCell ⟨gR, 4, none⟩ (.string (strOfNums acc.h))).setCell ⟨gR, 5, none⟩ (.string (strOfNums acc.t)))) := hide ((unhide HI).ret acc)
      go_wp2_with fail
      clear q0 q1 q2 q3 q4 q5 c0 c1 c2 c3 c4 c5 f0 f1 f2 f3 f4 f5
      generalize ((((((wr.setCell ⟨gR, 0, none⟩ (.int .i64 acc.z.b)).setCell ⟨gR, 1, none⟩ (.int .i64 acc.z.r)).setCell ⟨gR, 2, none⟩ (.int .i64 acc.z.u)).setCell ⟨gR, 3, none⟩ (.int .i64 acc.z.e)).setCell ⟨gR, 4, none⟩ (.string (strOfNums acc.h))).setCell ⟨gR, 5, none⟩ (.string (strOfNums acc.t))) = wf at *
      obtain ⟨c0, c1, c2, c3, c4, c5, _⟩ := cells6 (unhide HF).1
      refine bodyPost_ret (v := .tuple #[.agg #[.int .i64 acc.z.b, .int .i64 acc.z.r, .int .i64 acc.z.u, .int .i64 acc.z.e, .string (strOfNums acc.h), .string (strOfNums acc.t)], .int .i64 0]) (by simp [results, Tryd.results13, go_sem, c0, c1, c2, c3, c4, c5]) rfl ⟨by rw [unhide HSY]; rfl, (unhide HF).2⟩
end Go.Proofs.YtchlnphapnafcaaDoor
end

section
namespace Go.Proofs.YtchlnphapnafcaaDoor
open Go.ChangeShapes Go.WideShapes Go.ChangeAt Go.RowKit

set_option maxRecDepth 100000 in
set_option maxHeartbeats 8000000 in
theorem WeldSum_any (a0 : Option Addr) (cap : Nat) (q : List We) (w : World) (hq : WsL w a0 q ∧ (∀ x ∈ q, Byw x) ∧ q.length * 64 ≤ 140737488351232 ∧ q.length ≤ cap) (hW : Wt w) :
    Calls Tryd.prog 4 #[.slice a0 q.length cap] w fun y w' => y = .returned (.bool true) ∧ Below w.heap.size w w' := by
  obtain ⟨hL, hB, hl, hc⟩ := hq
  have HL := hide hL
  have HB := hide hB
  have HW := hide hW
  have HC := hide hc
  clear hL hB hW hc
  go_enter Tryd.func4, Tryd.ntmps4
  go_wp2_with fail
  refine (fixed5_at w (unhide HW)).mono ?_
  rintro x w1 ⟨rfl, b1⟩
  dsimp only
  obtain ⟨a1, c1, w2, r2, hc1, o2, x2⟩ := copy_we w1 a0 cap q 38 ((unhide HL).below b1 (Nat.le_refl _)) hl
  have b2 := b1.trans (x2.mono b1.size)
  have R2 := hide r2
  clear r2
  go_wp2_with (at_builtin; refine wpList_append_known rfl _ _ 38 38 rfl _ _ rfl rfl _ _ (unhide R2) ?_)
  clear R2 x2
  obtain ⟨y, e, hs⟩ : ∃ y e, sumF zeroWe q = (y, e) := ⟨_, _, rfl⟩
  have HS1 := hide (SumL_at a1 c1 q w2 o2 (unhide HB) hl ((unhide HW).below b2))
  rw [hs] at HS1
  unfold weV at HS1
  dsimp only at HS1
  refine (unhide HS1).mono ?_
  rintro r w3 ⟨rfl, x3⟩
  dsimp only
  clear HS1
  have HO2 := hide o2
  have HC1 := hide hc1
  have b3 := b2.trans (x3.mono b2.size)
  have o3 := o2.below x3 (Nat.le_refl _)
  have x4 := (Below.refl w3.heap.size w3).alloc (Nat.le_refl _) (.cells #[.int .i64 y.z.b, .int .i64 y.z.r, .int .i64 y.z.u, .int .i64 y.z.e, .string (strOfNums y.h), .string (strOfNums y.t)] 25)
  have g4 := push_get w3 (.cells #[.int .i64 y.z.b, .int .i64 y.z.r, .int .i64 y.z.u, .int .i64 y.z.e, .string (strOfNums y.h), .string (strOfNums y.t)] 25)
  have b4 := b3.trans (x4.mono b3.size)
  have HO4 := hide (o3.below x4 (Nat.le_refl _))
  clear o2 o3 hc1 x3 HO2
  go_upto_region 5 with fail
  clear x4
  generalize w3.alloc (.cells #[.int .i64 y.z.b, .int .i64 y.z.r, .int .i64 y.z.u, .int .i64 y.z.e, .string (strOfNums y.h), .string (strOfNums y.t)] 25) = w4 at *
  generalize w3.heap.size = g3 at *
  have HS2 := hide (RSumL_at a0 cap q w4 ((unhide HL).below b4 (Nat.le_refl _)) (unhide HB) hl)
  rw [hs] at HS2
  unfold weV at HS2
  dsimp only at HS2
  go_wp2_with fail
  refine (unhide HS2).mono ?_
  rintro r w5 ⟨rfl, x5⟩
  dsimp only
  clear HS2
  have b5 := b4.trans (x5.mono b4.size)
  have x6 := (Below.refl w5.heap.size w5).alloc (Nat.le_refl _) (.cells #[.int .i64 y.z.b, .int .i64 y.z.r, .int .i64 y.z.u, .int .i64 y.z.e, .string (strOfNums y.h), .string (strOfNums y.t)] 25)
  have g6 := push_get w5 (.cells #[.int .i64 y.z.b, .int .i64 y.z.r, .int .i64 y.z.u, .int .i64 y.z.e, .string (strOfNums y.h), .string (strOfNums y.t)] 25)
  have b6 := b5.trans (x6.mono b5.size)
  have HO6 := hide (((unhide HO4).below x5 (Nat.le_refl _)).below x6 (Nat.le_refl _))
  have h4 := blk_on (blk_on g4 x5) x6
  clear HO4 g4 x5 b1 b2 b3 b4 b5
  go_upto_region 6 with fail
  clear x6
  generalize w5.alloc (.cells #[.int .i64 y.z.b, .int .i64 y.z.r, .int .i64 y.z.u, .int .i64 y.z.e, .string (strOfNums y.h), .string (strOfNums y.t)] 25) = w6 at *
  generalize w5.heap.size = g5 at *
  have HG := hide (And.intro h4 (And.intro g6 b6))
  clear h4 g6 b6 hs
  go_wp2_with fail
  go_loopw [8, 26] (fun v8 vk wx => ∃ k : Nat, vk = .int .i64 (k : Int) ∧ k ≤ q.length ∧ (∃ z, v8 = z) ∧ ∃ n, wx = w6.drewN n) (fun _ vk _ => q.length - (intOf vk).toNat)
  case atStart => exact ⟨0, rfl, Nat.zero_le _, ⟨_, rfl⟩, 0, rfl⟩
  case round =>
    obtain ⟨k, rfl, hk, ⟨z1, rfl⟩, n, hwx⟩ := hrel
    have HWX := hide hwx
    by_cases hlt : k < q.length
    · have t1 : decide ((k : Int) < (q.length : Int)) = true := decide_eq_true (by omega)
      have t2 : (k : Int) < (q.length : Int) := by omega
      have hbw : Below w6.heap.size w6 wr.drew := by rw [hwx]; exact Below.drewN (Below.drewN (Below.refl _ _) n) 1
      obtain ⟨g1, f1, rfl, _, e0, e1, e2, e3, e4, e5⟩ := ((unhide HO6).below hbw (Nat.le_refl _)).six hlt
      obtain ⟨g0, f0, rfl, _, d0, d1, d2, d3, d4, d5⟩ := ((unhide HL).below ((unhide HG).2.2.trans (hbw.mono (unhide HG).2.2.size)) (Nat.le_refl _)).six hlt
      generalize q.getD k zeroWe = x at *
      have HS0 : Hid (((wr.drew.cell? ⟨g1, f1 + k * 6, none⟩ = some (.int .i64 x.z.b) ∧ wr.drew.cell? ⟨g1, f1 + k * 6 + 1, none⟩ = some (.int .i64 x.z.r) ∧ wr.drew.cell? ⟨g1, f1 + k * 6 + 2, none⟩ = some (.int .i64 x.z.u) ∧ wr.drew.cell? ⟨g1, f1 + k * 6 + 3, none⟩ = some (.int .i64 x.z.e) ∧ wr.drew.cell? ⟨g1, f1 + k * 6 + 4, none⟩ = some (.string (strOfNums x.h)) ∧ wr.drew.cell? ⟨g1, f1 + k * 6 + 5, none⟩ = some (.string (strOfNums x.t))) ∧ (wr.drew.cell? ⟨g0, f0 + k * 6, none⟩ = some (.int .i64 x.z.b) ∧ wr.drew.cell? ⟨g0, f0 + k * 6 + 1, none⟩ = some (.int .i64 x.z.r) ∧ wr.drew.cell? ⟨g0, f0 + k * 6 + 2, none⟩ = some (.int .i64 x.z.u) ∧ wr.drew.cell? ⟨g0, f0 + k * 6 + 3, none⟩ = some (.int .i64 x.z.e) ∧ wr.drew.cell? ⟨g0, f0 + k * 6 + 4, none⟩ = some (.string (strOfNums x.h)) ∧ wr.drew.cell? ⟨g0, f0 + k * 6 + 5, none⟩ = some (.string (strOfNums x.t))))) := hide ⟨⟨e0, e1, e2, e3, e4, e5⟩, d0, d1, d2, d3, d4, d5⟩
      clear e0 e1 e2 e3 e4 e5 d0 d1 d2 d3 d4 d5 hbw hwx
      go_upto_region 9 with fail
      refine regionL (S := fun w' => (w'.cell? ⟨g1, f1 + k * 6, none⟩ = some (.int .i64 x.z.b) ∧ w'.cell? ⟨g1, f1 + k * 6 + 1, none⟩ = some (.int .i64 x.z.r) ∧ w'.cell? ⟨g1, f1 + k * 6 + 2, none⟩ = some (.int .i64 x.z.u) ∧ w'.cell? ⟨g1, f1 + k * 6 + 3, none⟩ = some (.int .i64 x.z.e) ∧ w'.cell? ⟨g1, f1 + k * 6 + 4, none⟩ = some (.string (strOfNums x.h)) ∧ w'.cell? ⟨g1, f1 + k * 6 + 5, none⟩ = some (.string (strOfNums x.t))) ∧ (w'.cell? ⟨g0, f0 + k * 6, none⟩ = some (.int .i64 x.z.b) ∧ w'.cell? ⟨g0, f0 + k * 6 + 1, none⟩ = some (.int .i64 x.z.r) ∧ w'.cell? ⟨g0, f0 + k * 6 + 2, none⟩ = some (.int .i64 x.z.u) ∧ w'.cell? ⟨g0, f0 + k * 6 + 3, none⟩ = some (.int .i64 x.z.e) ∧ w'.cell? ⟨g0, f0 + k * 6 + 4, none⟩ = some (.string (strOfNums x.h)) ∧ w'.cell? ⟨g0, f0 + k * 6 + 5, none⟩ = some (.string (strOfNums x.t)))) (fun _ => false) (by kernel_rfl) ?_
      have HDR : wr.drew = w6.drewN (n + 1) := by rw [unhide HWX]; rfl
      generalize wr.drew = y0 at *
      have HDH := hide HDR
      clear HDR
      refine anyL_take (i := 0) (v := ?vq0) rfl (by kernel_rfl) (by kernel_rfl) (by kernel_rfl) (by kernel_rfl) (fun _ _ _ h => h) (Or.inl ⟨by rfl, ?hq0⟩) (unhide HS0) ?_
      case hq0 => (intro w hSw; (try dsimp only at hSw); go_simp) <;> with_reducible rfl
      simp only [Act.put, List.getElem_toArray, List.getElem_cons_zero, List.setIfInBounds_toArray, List.set_cons_zero, List.set_cons_succ]
      refine anyL_take (i := 1) (v := ?vq1) rfl (by kernel_rfl) (by kernel_rfl) (by kernel_rfl) (by kernel_rfl) (fun _ _ _ h => h) (Or.inl ⟨by rfl, ?hq1⟩) (unhide HS0) ?_
      case hq1 => (intro w hSw; (try dsimp only at hSw); go_simp) <;> with_reducible rfl
      simp only [Act.put, List.getElem_toArray, List.getElem_cons_zero, List.getElem_cons_succ, List.setIfInBounds_toArray, List.set_cons_zero, List.set_cons_succ]
      refine anyL_take (i := 2) (v := ?vq2) rfl (by kernel_rfl) (by kernel_rfl) (by kernel_rfl) (by kernel_rfl) (fun _ _ _ h => h) (Or.inl ⟨by rfl, ?hq2⟩) (unhide HS0) ?_
      case hq2 => (intro w hSw; (try dsimp only at hSw); go_simp) <;> with_reducible rfl
      simp only [Act.put, List.getElem_toArray, List.getElem_cons_zero, List.getElem_cons_succ, List.setIfInBounds_toArray, List.set_cons_zero, List.set_cons_succ]
      refine anyL_take (i := 3) (v := ?vq3) rfl (by kernel_rfl) (by kernel_rfl) (by kernel_rfl) (by kernel_rfl) (fun _ _ _ h => h) (Or.inl ⟨by rfl, ?hq3⟩) (unhide HS0) ?_
      case hq3 => (intro w hSw; (try dsimp only at hSw); go_simp) <;> with_reducible rfl
      simp only [Act.put, List.getElem_toArray, List.getElem_cons_zero, List.getElem_cons_succ, List.setIfInBounds_toArray, List.set_cons_zero, List.set_cons_succ]
      refine anyL_take (i := 4) (v := ?vq4) rfl (by kernel_rfl) (by kernel_rfl) (by kernel_rfl) (by kernel_rfl) (fun _ _ _ h => h) (Or.inl ⟨by rfl, ?hq4⟩) (unhide HS0) ?_
      case hq4 => (intro w hSw; (try dsimp only at hSw); go_simp) <;> with_reducible rfl
      simp only [Act.put, List.getElem_toArray, List.getElem_cons_zero, List.getElem_cons_succ, List.setIfInBounds_toArray, List.set_cons_zero, List.set_cons_succ]
      refine anyL_take (i := 5) (v := ?vq5) rfl (by kernel_rfl) (by kernel_rfl) (by kernel_rfl) (by kernel_rfl) (fun _ _ _ h => h) (Or.inl ⟨by rfl, ?hq5⟩) (unhide HS0) ?_
      case hq5 => (intro w hSw; (try dsimp only at hSw); go_simp) <;> with_reducible rfl
      simp only [Act.put, List.getElem_toArray, List.getElem_cons_zero, List.getElem_cons_succ, List.setIfInBounds_toArray, List.set_cons_zero, List.set_cons_succ]
      refine anyL_take (i := 6) (v := ?vq6) rfl (by kernel_rfl) (by kernel_rfl) (by kernel_rfl) (by kernel_rfl) (fun _ _ _ h => h) (Or.inl ⟨by rfl, ?hq6⟩) (unhide HS0) ?_
      case hq6 => (intro w hSw; (try dsimp only at hSw); go_simp) <;> with_reducible rfl
      simp only [Act.put, List.getElem_toArray, List.getElem_cons_zero, List.getElem_cons_succ, List.setIfInBounds_toArray, List.set_cons_zero, List.set_cons_succ]
      refine anyL_take (i := 7) (v := ?vq7) rfl (by kernel_rfl) (by kernel_rfl) (by kernel_rfl) (by kernel_rfl) (fun _ _ _ h => h) (Or.inl ⟨by rfl, ?hq7⟩) (unhide HS0) ?_
      case hq7 => (intro w hSw; (try dsimp only at hSw); go_simp) <;> with_reducible rfl
      simp only [Act.put, List.getElem_toArray, List.getElem_cons_zero, List.getElem_cons_succ, List.setIfInBounds_toArray, List.set_cons_zero, List.set_cons_succ]
      refine anyL_take (i := 8) (v := ?vq8) rfl (by kernel_rfl) (by kernel_rfl) (by kernel_rfl) (by kernel_rfl) (fun _ _ _ h => h) (Or.inl ⟨by rfl, ?hq8⟩) (unhide HS0) ?_
      case hq8 => (intro w hSw; (try dsimp only at hSw); go_simp) <;> with_reducible rfl
      simp only [Act.put, List.getElem_toArray, List.getElem_cons_zero, List.getElem_cons_succ, List.setIfInBounds_toArray, List.set_cons_zero, List.set_cons_succ]
      refine anyL_done (by kernel_rfl) ?_ _
      go_wp2_with fail
      go_roundw
      case rel => exact ⟨k + 1, by go_num, hlt, ⟨_, rfl⟩, n + 1, unhide HDH⟩
      case measure => simp [intOf]; omega
    · obtain rfl : k = q.length := by omega
      have t1 : decide ((q.length : Int) < (q.length : Int)) = false := decide_eq_false (by omega)
      have hbw : Below w6.heap.size w6 wr := by rw [hwx]; exact Below.drewN (Below.refl _ _) n
      have h4 := blk_on (unhide HG).1 hbw
      have h6 := blk_on (unhide HG).2.1 hbw
      have HBB := hide ((unhide HG).2.2.trans (hbw.mono (unhide HG).2.2.size))
      obtain ⟨e0, e1, e2, e3, e4, e5, _⟩ := cells6 h4
      obtain ⟨d0, d1, d2, d3, d4, d5, _⟩ := cells6 h6
      clear hwx hbw h4 h6 HWX
      go_wp2_with fail
      go_ret
      exact ⟨by first | rfl | simp, unhide HBB⟩
end Go.Proofs.YtchlnphapnafcaaDoor
end
