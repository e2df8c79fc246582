/- Layer 16: lists of ranges in memory (Mkh's text, turned). -/
import Derived.Test.YtifpjdodignflaaMg46
import Derived.Test.YtifpjdodignflaaMg17

namespace Go.Proofs.Ytifpjdodignflaa
open Go.ChangeShapes Go.WideShapes Go.ChangeAt Go.RowKit
attribute [local go_sem] Oper.semAt_some

def rgZ : Rg := ⟨⟨#[]⟩, 0, 0, 0, 0⟩
instance : Inhabited Rg := ⟨rgZ⟩
/-- a range's five cells -/
def rgL (m : Rg) : List Value := [.string m.n, .int .i64 m.lo, .int .i64 m.hi, .int .i64 m.st, .int .i64 m.en]
def rgsV (l : List Rg) : List Value := l.flatMap rgL
theorem rgL_len (m : Rg) : (rgL m).length = 5 := rfl
theorem rgsV_app (a b : List Rg) : rgsV (a ++ b) = rgsV a ++ rgsV b := by simp [rgsV]
theorem rgsV_one (x : Rg) : rgsV [x] = rgL x := by simp [rgsV]
theorem rgsV_get : ∀ (q : List Rg) (k j : Nat), k < q.length → j < 5 → (rgsV q)[k * 5 + j]? = (rgL (q.getD k rgZ))[j]?
  | [], k, _, hk, _ => absurd hk (by simp)
  | t :: ts, 0, j, _, hj => by
    rw [rgsV, List.flatMap_cons, Nat.zero_mul, Nat.zero_add, List.getElem?_append_left (by simpa [rgL] using hj)]; rfl
  | t :: ts, k + 1, j, hk, hj => by
    have ih := rgsV_get ts k j (by simpa using hk) hj
    rw [rgsV, List.flatMap_cons, List.getElem?_append_right (by simp [rgL]; omega), show (k + 1) * 5 + j - (rgL t).length = k * 5 + j by simp [rgL]; omega]
    simpa [rgsV] using ih
/-- a list of ranges that lies there -/
def IsRl (W : World) (a : Option Addr) (d : List Rg) : Prop := d = [] ∨ ∃ g off, a = some ⟨g, off, none⟩ ∧ g < W.heap.size ∧ ∀ k, k < d.length →
  W.cell? ⟨g, off + k * 5, none⟩ = some (.string (d.getD k rgZ).n) ∧ W.cell? ⟨g, off + k * 5 + 1, none⟩ = some (.int .i64 (d.getD k rgZ).lo) ∧ W.cell? ⟨g, off + k * 5 + 2, none⟩ = some (.int .i64 (d.getD k rgZ).hi) ∧ W.cell? ⟨g, off + k * 5 + 3, none⟩ = some (.int .i64 (d.getD k rgZ).st) ∧ W.cell? ⟨g, off + k * 5 + 4, none⟩ = some (.int .i64 (d.getD k rgZ).en)
theorem IsRl.below {W W' : World} {B : Nat} {a : Option Addr} {d : List Rg} (h : IsRl W a d) (hb : Below B W W') (hB : W.heap.size ≤ B) : IsRl W' a d := by
  rcases h with h | ⟨g, off, rfl, hg, hc⟩
  · exact Or.inl h
  · refine Or.inr ⟨g, off, rfl, Nat.lt_of_lt_of_le hg hb.size, fun k hk => ?_⟩
    obtain ⟨c0, c1, c2, c3, c4⟩ := hc k hk
    exact ⟨(hb.cell (p := ⟨g, off + k * 5, none⟩) (by show g < B; omega)).trans c0, (hb.cell (p := ⟨g, off + k * 5 + 1, none⟩) (by show g < B; omega)).trans c1, (hb.cell (p := ⟨g, off + k * 5 + 2, none⟩) (by show g < B; omega)).trans c2, (hb.cell (p := ⟨g, off + k * 5 + 3, none⟩) (by show g < B; omega)).trans c3, (hb.cell (p := ⟨g, off + k * 5 + 4, none⟩) (by show g < B; omega)).trans c4⟩
theorem IsRl.five {W : World} {a : Option Addr} {d : List Rg} (h : IsRl W a d) {k : Nat} (hk : k < d.length) : ∃ g off, a = some ⟨g, off, none⟩ ∧ g < W.heap.size ∧
    W.cell? ⟨g, off + k * 5, none⟩ = some (.string (d.getD k rgZ).n) ∧ W.cell? ⟨g, off + k * 5 + 1, none⟩ = some (.int .i64 (d.getD k rgZ).lo) ∧ W.cell? ⟨g, off + k * 5 + 2, none⟩ = some (.int .i64 (d.getD k rgZ).hi) ∧ W.cell? ⟨g, off + k * 5 + 3, none⟩ = some (.int .i64 (d.getD k rgZ).st) ∧ W.cell? ⟨g, off + k * 5 + 4, none⟩ = some (.int .i64 (d.getD k rgZ).en) := by
  rcases h with h | ⟨g, off, rfl, hg, hc⟩
  · rw [h] at hk; simp at hk
  · exact ⟨g, off, rfl, hg, hc k hk⟩
theorem own_isRl {W : World} {B : Nat} {v : Value} {d : List Rg} (h : W.ownsRow B 37 5 v d.length (rgsV d)) : ∃ a c, v = .slice a d.length c ∧ IsRl W a d ∧ d.length ≤ c := by
  have hh := h
  rcases h.2 with ⟨rfl, h0⟩ | ⟨g, cap, cur, rfl, hB, hg, hc, hm, hs, ht⟩
  · have : d = [] := List.length_eq_zero_iff.1 h0
    exact ⟨none, 0, by rw [h0], Or.inl this, by omega⟩
  · refine ⟨some ⟨g, 0, none⟩, cap, rfl, Or.inr ⟨g, 0, rfl, (Array.getElem?_eq_some_iff.1 hg).1, fun k hk => ?_⟩, hc⟩
    have f : ∀ j, j < 5 → W.cell? ⟨g, 0 + (k * 5 + j), none⟩ = (rgL (d.getD k rgZ))[j]? := fun j hj => by
      have e := rgsV_get d k j hk hj
      obtain ⟨u, hu⟩ : ∃ u, (rgL (d.getD k rgZ))[j]? = some u := ⟨_, List.getElem?_eq_getElem (by simpa [rgL] using hj)⟩
      rw [hu] at e ⊢
      have := World.ownsRow.cells hh rfl (k * 5 + j) u e
      rwa [Addr.add_lit] at this
    exact ⟨f 0 (by decide), f 1 (by decide), f 2 (by decide), f 3 (by decide), f 4 (by decide)⟩
theorem rowD_base {X : World} {B B' sz n : Nat} {t : TypeId} {v : Value} {xs : List Value} (h : X.ownsRow B t sz v n xs) (hB : B' ≤ B) : X.ownsRow B' t sz v n xs := by
  refine ⟨h.1, ?_⟩
  rcases h.2 with h2 | ⟨g, cap, cur, e, h3, h4⟩
  · exact Or.inl h2
  · exact Or.inr ⟨g, cap, cur, e, Nat.le_trans hB h3, h4⟩
set_option maxRecDepth 100000 in
theorem info_rg : ∃ i, Try.prog.info? 37 = some i ∧ i.zero = some (.agg #[.string ⟨#[]⟩, .int .i64 0, .int .i64 0, .int .i64 0, .int .i64 0]) ∧ i.size = 5 ∧ i.bytes = 48 := by
  refine ⟨_, rfl, ?_, ?_, ?_⟩ <;> rfl
theorem five_nw (W : World) (v0 v1 v2 v3 v4 : Value) {t : TypeId} :
    (W.alloc (.cells #[v0, v1, v2, v3, v4] t)).cell? ⟨W.heap.size, 0, none⟩ = some v0 ∧ (W.alloc (.cells #[v0, v1, v2, v3, v4] t)).cell? ⟨W.heap.size, 1, none⟩ = some v1 ∧ (W.alloc (.cells #[v0, v1, v2, v3, v4] t)).cell? ⟨W.heap.size, 2, none⟩ = some v2 ∧ (W.alloc (.cells #[v0, v1, v2, v3, v4] t)).cell? ⟨W.heap.size, 3, none⟩ = some v3 ∧ (W.alloc (.cells #[v0, v1, v2, v3, v4] t)).cell? ⟨W.heap.size, 4, none⟩ = some v4 := by
  have k := Cls.new W t #[v0, v1, v2, v3, v4]
  exact ⟨(k.cell 0).trans rfl, (k.cell 1).trans rfl, (k.cell 2).trans rfl, (k.cell 3).trans rfl, (k.cell 4).trans rfl⟩
/-- one more range -/
theorem push_rg (W : World) (B n : Nat) (v : Value) (xs : List Value) (s : ByteArray) (a b c e : Int) (ty : TypeId) (h : W.ownsRow B 37 5 v n xs) (hn : n ≤ 1099511627776) (hB : B ≤ W.heap.size) :
    ∃ g k W', (Builtin.append_ #[28, 28] ty #[v, .slice (some ⟨W.heap.size, 0, none⟩) 1 1]).run Try.prog (W.alloc (.cells #[.string s, .int .i64 a, .int .i64 b, .int .i64 c, .int .i64 e] 37)) = .ok (.slice (some ⟨g, 0, none⟩) (n + 1) k) W' ∧
      W'.ownsRow B 37 5 (.slice (some ⟨g, 0, none⟩) (n + 1) k) (n + 1) (xs ++ [.string s, .int .i64 a, .int .i64 b, .int .i64 c, .int .i64 e]) ∧ W.grownBy W' v.ownBlock ∧ Below B W W' := by
  obtain ⟨i, hi, hz, hs, hby⟩ := info_rg
  have hr := World.ownsRow.alloc h (.cells #[.string s, .int .i64 a, .int .i64 b, .int .i64 c, .int .i64 e] 37)
  obtain ⟨c0, c1, c2, c3, c4⟩ := five_nw W (.string s) (.int .i64 a) (.int .i64 b) (.int .i64 c) (.int .i64 e) (t := 37)
  obtain ⟨g, k, W', hrun, ho, hg, _, _⟩ := run_append_lies (P := Try.prog) (W.alloc (.cells #[.string s, .int .i64 a, .int .i64 b, .int .i64 c, .int .i64 e] 37)) 28 ty B 37 i (.agg #[.string ⟨#[]⟩, .int .i64 0, .int .i64 0, .int .i64 0, .int .i64 0]) 5 48 Try.underlying28 hi hz hs hby rfl (by decide)
    v n xs hr ⟨W.heap.size, 0, none⟩ 1 1 [.string s, .int .i64 a, .int .i64 b, .int .i64 c, .int .i64 e] rfl
    (fun j u hj => by
      match j with
      | 0 => simp at hj; subst hj; rw [Addr.add_lit]; exact c0
      | 1 => simp at hj; subst hj; rw [Addr.add_lit]; exact c1
      | 2 => simp at hj; subst hj; rw [Addr.add_lit]; exact c2
      | 3 => simp at hj; subst hj; rw [Addr.add_lit]; exact c3
      | 4 => simp at hj; subst hj; rw [Addr.add_lit]; exact c4
      | j + 5 => simp at hj)
    (fun u hu => by simp at hu; rcases hu with rfl | rfl | rfl | rfl | rfl <;> rfl) (by decide) (by unfold maxLen; omega) (by omega) (by simp; omega) _ rfl
  have ha := World.grownBy_alloc W (.cells #[.string s, .int .i64 a, .int .i64 b, .int .i64 c, .int .i64 e] 37) none
  refine ⟨g, k, W', hrun, ho, ⟨hg.os.trans ha.os, hg.tape.trans ha.tape, hg.output.trans ha.output, Nat.le_trans ha.size hg.size, fun k hk hne => ?_⟩, ((Below.refl B W).alloc hB _).grown hg (by simp; omega) (fun k hk => (hr.lt k hk).1)⟩
  exact (hg.block k (Nat.lt_of_lt_of_le hk ha.size) hne).trans (ha.block k hk (by simp))
end Go.Proofs.Ytifpjdodignflaa
