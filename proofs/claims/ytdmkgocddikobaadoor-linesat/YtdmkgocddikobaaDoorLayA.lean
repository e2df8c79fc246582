/- Arguments that are a list of Asks (a Spot and two numbers each): what came in is those numbers. -/
import Derived.Test.YtdmkgocddikobaaDoorLayP
import Derived.Deep.Slices
import Derived.Deep.SlicePairs
namespace Go.Proofs.YtdmkgocddikobaaDoor
open Go.ChangeShapes Go.WideShapes Go.ChangeAt Go.RowKit

abbrev Ak : Type := Int × Int × Int × Int
def zA : Ak := (0, 0, 0, 0)
/-- a []Ask in memory -/
def IsAk (W : World) (a0 : Option Addr) (q : List Ak) : Prop := q.length ≤ maxLen ∧ (q = [] ∨ ∃ g off, a0 = some ⟨g, off, none⟩ ∧ g < W.heap.size ∧ ∀ r, r < q.length →
  W.cell? ⟨g, off + r * 4, none⟩ = some (.int .i64 (q.getD r zA).1) ∧ W.cell? ⟨g, off + (r * 4 + 1), none⟩ = some (.int .i64 (q.getD r zA).2.1) ∧ W.cell? ⟨g, off + (r * 4 + 2), none⟩ = some (.int .i64 (q.getD r zA).2.2.1) ∧ W.cell? ⟨g, off + (r * 4 + 3), none⟩ = some (.int .i64 (q.getD r zA).2.2.2))
theorem IsAk.below {W W' : World} {B : Nat} {a0 : Option Addr} {q : List Ak} (h : IsAk W a0 q) (hb : Below B W W') (hB : W.heap.size ≤ B) : IsAk W' a0 q := by
  rcases h with ⟨hn, h | ⟨g, off, rfl, hg, hr⟩⟩
  · exact ⟨hn, Or.inl h⟩
  · have e : ∀ o, W'.cell? ⟨g, o, none⟩ = W.cell? ⟨g, o, none⟩ := fun o => hb.cell (p := ⟨g, o, none⟩) (by show g < B; omega)
    exact ⟨hn, Or.inr ⟨g, off, rfl, Nat.lt_of_lt_of_le hg hb.size, fun r hlt => by rw [e, e, e, e]; exact hr r hlt⟩⟩
set_option maxRecDepth 100000 in
theorem ask_cells {H : Type} {enc : TypeId × Value → H} {W : World} {cs : List Value} {fuel : Nat} {x : DataW H × List MemPlace}
    (hl : cs.length = 4) (hf : DataW.trod enc Tryd.prog W 0 (fun _ => true) true fuel 44 cs = some x) : ∃ q : Ak, cs = [.int .i64 q.1, .int .i64 q.2.1, .int .i64 q.2.2.1, .int .i64 q.2.2.2] := by
  obtain ⟨xs, n, _, _, _, hx, hall⟩ := DataW.trod_struct Tryd.underlying44 hf
  have hx' : xs.length = 3 := hx
  have hc : Tryd.prog.cellsOf 3 = 1 := by kernel_rfl
  have hc2 : Tryd.prog.cellsOf 35 = 2 := by kernel_rfl
  have hc3 : Tryd.prog.cellsOf 23 = 1 := by kernel_rfl
  have hc4 : Tryd.prog.cellsOf 42 = 1 := by kernel_rfl
  have g0 : DataW.trod enc Tryd.prog W 0 (fun _ => true) true n 35 ((cs.drop 0).take (Tryd.prog.cellsOf 35)) = xs[0]? := hall 0 _ rfl
  have g1 : DataW.trod enc Tryd.prog W 0 (fun _ => true) true n 23 ((cs.drop 2).take (Tryd.prog.cellsOf 23)) = xs[1]? := hall 1 _ rfl
  have g2 : DataW.trod enc Tryd.prog W 0 (fun _ => true) true n 42 ((cs.drop 3).take (Tryd.prog.cellsOf 42)) = xs[2]? := hall 2 _ rfl
  rw [hc2, List.getElem?_eq_getElem (show 0 < xs.length by omega)] at g0
  rw [hc3] at g1
  rw [hc4] at g2
  obtain ⟨ys, k, _, _, _, hy, hall2⟩ := DataW.trod_struct Tryd.underlying35 g0
  have hy' : ys.length = 2 := hy
  have j0 : DataW.trod enc Tryd.prog W 0 (fun _ => true) true k 3 ((((cs.drop 0).take 2).drop 0).take (Tryd.prog.cellsOf 3)) = ys[0]? := hall2 0 _ rfl
  have j1 : DataW.trod enc Tryd.prog W 0 (fun _ => true) true k 3 ((((cs.drop 0).take 2).drop 1).take (Tryd.prog.cellsOf 3)) = ys[1]? := hall2 1 _ rfl
  rw [hc] at j0 j1
  obtain ⟨x, e0⟩ := one_intP Tryd.underlying3 (by omega) j0
  obtain ⟨y, e1⟩ := one_intP Tryd.underlying3 (by omega) j1
  obtain ⟨r, e2⟩ := one_intP Tryd.underlying23 (by omega) g1
  obtain ⟨m, e3⟩ := one_intP Tryd.underlying42 (by omega) g2
  refine ⟨(x, y, r, m), ?_⟩
  apply List.ext_getElem?
  intro i
  match i with
  | 0 => rw [show cs[0]? = ((cs.drop 0).take 2)[0]? by simp]; exact e0
  | 1 => rw [show cs[1]? = ((cs.drop 0).take 2)[1]? by simp]; exact e1
  | 2 => exact e2
  | 3 => exact e3
  | i + 4 => rw [List.getElem?_eq_none (by omega)]; rfl
set_option maxRecDepth 100000 in
theorem asks_of_trod {H : Type} {enc : TypeId × Value → H} {W : World} {a0 : Option Addr} {len0 cap0 : Nat} {d0 : DataW H} {p0 : List MemPlace}
    (h0 : DataW.Trod enc Tryd.prog W 0 (fun _ => true) true 41 (Value.slice a0 len0 cap0) d0 p0) : ∃ q : List Ak, len0 = q.length ∧ IsAk W a0 q := by
  obtain ⟨fuel, hf⟩ := h0
  rcases Go.Deep.open_slice Tryd.underlying41 hf with ⟨hcs, _⟩ | ⟨a, len, cap, m, n, D, Pl, hcs, _, hl, hm, hmm, hx, hrow⟩
  · simp [Value.cells] at hcs
    obtain ⟨rfl, rfl, rfl⟩ := hcs
    exact ⟨[], rfl, Nat.zero_le _, Or.inl rfl⟩
  · simp [Value.cells] at hcs
    obtain ⟨rfl, rfl, rfl⟩ := hcs
    simp only [if_true] at hmm
    subst hmm
    have ce : Tryd.prog.cellsOf 44 = 4 := by kernel_rfl
    have each : ∀ r, r < len0 → ∃ y : Ak, W.cell? (a.add (r * 4)) = some (.int .i64 y.1) ∧ W.cell? (a.add (r * 4 + 1)) = some (.int .i64 y.2.1) ∧ W.cell? (a.add (r * 4 + 2)) = some (.int .i64 y.2.2.1) ∧ W.cell? (a.add (r * 4 + 3)) = some (.int .i64 y.2.2.2) := by
      intro r hr
      obtain ⟨cs', h1, h2⟩ := hrow r (by omega)
      rw [ce] at h1
      obtain ⟨_, hlen, hcell⟩ := World.cells?_some h1
      obtain ⟨y, rfl⟩ := ask_cells hlen h2
      have e0 := hcell 0 (by omega)
      have e1 := hcell 1 (by omega)
      have e2 := hcell 2 (by omega)
      have e3 := hcell 3 (by omega)
      rw [Go.Deep.add_add] at e0 e1 e2 e3
      exact ⟨y, by simpa using e0, by simpa using e1, by simpa using e2, by simpa using e3⟩
    obtain ⟨y, hy⟩ := Go.Deep.choose_lt each
    refine ⟨(List.range len0).map y, by simp, by simp; omega, ?_⟩
    rcases Nat.eq_zero_or_pos len0 with h0 | h0
    · subst h0; exact Or.inl rfl
    · obtain ⟨b, off, spot⟩ := a
      have hspot : spot = none := by simpa [Addr.add] using World.cell?_spot (hy 0 (by omega)).1
      subst hspot
      have hc0 := (hy 0 (by omega)).1
      have hbl : b < W.heap.size := by
        rcases Nat.lt_or_ge b W.heap.size with h | h
        · exact h
        · rw [Addr.add_lit] at hc0
          simp [World.cell?, Array.getElem?_eq_none h] at hc0
      refine Or.inr ⟨b, off, rfl, hbl, fun r hr => ?_⟩
      simp only [List.length_map, List.length_range] at hr
      obtain ⟨q1, q2, q3, q4⟩ := hy r hr
      have e : ((List.range len0).map y).getD r zA = y r := by simp [List.getD, hr]
      rw [e]
      rw [Addr.add_lit] at q1 q2 q3 q4
      exact ⟨q1, q2, q3, q4⟩

end Go.Proofs.YtdmkgocddikobaaDoor
