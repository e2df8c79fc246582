/- Layer 15: lists of marks in memory. -/
import Derived.Test.YtfllomlighlejaaMo09
import Derived.Test.YtfllomlighlejaaMo14

namespace Go.Proofs.Ytfllomlighlejaa
open Go.ChangeShapes Go.WideShapes Go.ChangeAt Go.RowKit
attribute [local go_sem] Oper.semAt_some

def mkZ : Mk := ⟨⟨#[]⟩, 0, 0⟩
instance : Inhabited Mk := ⟨mkZ⟩
/-- a mark's three cells -/
def mkL (m : Mk) : List Value := [.string m.n, .int .i64 m.p, .int .i64 m.g]
def mksV (l : List Mk) : List Value := l.flatMap mkL
theorem mkL_len (m : Mk) : (mkL m).length = 3 := rfl
theorem mksV_app (a b : List Mk) : mksV (a ++ b) = mksV a ++ mksV b := by simp [mksV]
theorem mksV_one (x : Mk) : mksV [x] = mkL x := by simp [mksV]
theorem mksV_get : ∀ (q : List Mk) (k j : Nat), k < q.length → j < 3 → (mksV q)[k * 3 + j]? = (mkL (q.getD k mkZ))[j]?
  | [], k, _, hk, _ => absurd hk (by simp)
  | t :: ts, 0, j, _, hj => by
    rw [mksV, List.flatMap_cons, Nat.zero_mul, Nat.zero_add, List.getElem?_append_left (by simpa [mkL] using hj)]; rfl
  | t :: ts, k + 1, j, hk, hj => by
    have ih := mksV_get ts k j (by simpa using hk) hj
    rw [mksV, List.flatMap_cons, List.getElem?_append_right (by simp [mkL]; omega), show (k + 1) * 3 + j - (mkL t).length = k * 3 + j by simp [mkL]; omega]
    simpa [mksV] using ih
/-- a list of marks that lies there -/
def IsK (W : World) (a : Option Addr) (d : List Mk) : Prop := d = [] ∨ ∃ g off, a = some ⟨g, off, none⟩ ∧ g < W.heap.size ∧ ∀ k, k < d.length →
  W.cell? ⟨g, off + k * 3, none⟩ = some (.string (d.getD k mkZ).n) ∧ W.cell? ⟨g, off + k * 3 + 1, none⟩ = some (.int .i64 (d.getD k mkZ).p) ∧ W.cell? ⟨g, off + k * 3 + 2, none⟩ = some (.int .i64 (d.getD k mkZ).g)
theorem IsK.below {W W' : World} {B : Nat} {a : Option Addr} {d : List Mk} (h : IsK W a d) (hb : Below B W W') (hB : W.heap.size ≤ B) : IsK W' a d := by
  rcases h with h | ⟨g, off, rfl, hg, hc⟩
  · exact Or.inl h
  · refine Or.inr ⟨g, off, rfl, Nat.lt_of_lt_of_le hg hb.size, fun k hk => ?_⟩
    obtain ⟨c0, c1, c2⟩ := hc k hk
    exact ⟨(hb.cell (p := ⟨g, off + k * 3, none⟩) (by show g < B; omega)).trans c0, (hb.cell (p := ⟨g, off + k * 3 + 1, none⟩) (by show g < B; omega)).trans c1, (hb.cell (p := ⟨g, off + k * 3 + 2, none⟩) (by show g < B; omega)).trans c2⟩
theorem IsK.three {W : World} {a : Option Addr} {d : List Mk} (h : IsK W a d) {k : Nat} (hk : k < d.length) : ∃ g off, a = some ⟨g, off, none⟩ ∧ g < W.heap.size ∧
    W.cell? ⟨g, off + k * 3, none⟩ = some (.string (d.getD k mkZ).n) ∧ W.cell? ⟨g, off + k * 3 + 1, none⟩ = some (.int .i64 (d.getD k mkZ).p) ∧ W.cell? ⟨g, off + k * 3 + 2, none⟩ = some (.int .i64 (d.getD k mkZ).g) := by
  rcases h with h | ⟨g, off, rfl, hg, hc⟩
  · rw [h] at hk; simp at hk
  · exact ⟨g, off, rfl, hg, hc k hk⟩
theorem own_isK {W : World} {B : Nat} {v : Value} {d : List Mk} (h : W.ownsRow B 42 3 v d.length (mksV d)) : ∃ a c, v = .slice a d.length c ∧ IsK W a d ∧ d.length ≤ c := by
  have hh := h
  rcases h.2 with ⟨rfl, h0⟩ | ⟨g, cap, cur, rfl, hB, hg, hc, hm, hs, ht⟩
  · have : d = [] := List.length_eq_zero_iff.1 h0
    exact ⟨none, 0, by rw [h0], Or.inl this, by omega⟩
  · refine ⟨some ⟨g, 0, none⟩, cap, rfl, Or.inr ⟨g, 0, rfl, (Array.getElem?_eq_some_iff.1 hg).1, fun k hk => ?_⟩, hc⟩
    have f : ∀ j, j < 3 → W.cell? ⟨g, 0 + (k * 3 + j), none⟩ = (mkL (d.getD k mkZ))[j]? := fun j hj => by
      have e := mksV_get d k j hk hj
      obtain ⟨u, hu⟩ : ∃ u, (mkL (d.getD k mkZ))[j]? = some u := ⟨_, List.getElem?_eq_getElem (by simpa [mkL] using hj)⟩
      rw [hu] at e ⊢
      have := World.ownsRow.cells hh rfl (k * 3 + j) u e
      rwa [Addr.add_lit] at this
    exact ⟨f 0 (by decide), f 1 (by decide), f 2 (by decide)⟩
theorem rowD_base {X : World} {B B' sz n : Nat} {t : TypeId} {v : Value} {xs : List Value} (h : X.ownsRow B t sz v n xs) (hB : B' ≤ B) : X.ownsRow B' t sz v n xs := by
  refine ⟨h.1, ?_⟩
  rcases h.2 with h2 | ⟨g, cap, cur, e, h3, h4⟩
  · exact Or.inl h2
  · exact Or.inr ⟨g, cap, cur, e, Nat.le_trans hB h3, h4⟩
set_option maxRecDepth 100000 in
theorem info_mk : ∃ i, Try.prog.info? 42 = some i ∧ i.zero = some (.agg #[.string ⟨#[]⟩, .int .i64 0, .int .i64 0]) ∧ i.size = 3 ∧ i.bytes = 32 := by
  refine ⟨_, rfl, ?_, ?_, ?_⟩ <;> rfl
/-- one more mark -/
theorem push_mk (W : World) (B n : Nat) (v : Value) (xs : List Value) (s : ByteArray) (a b : Int) (ty : TypeId) (h : W.ownsRow B 42 3 v n xs) (hn : n ≤ 1099511627776) (hB : B ≤ W.heap.size) :
    ∃ g k W', (Builtin.append_ #[27, 27] ty #[v, .slice (some ⟨W.heap.size, 0, none⟩) 1 1]).run Try.prog (W.alloc (.cells #[.string s, .int .i64 a, .int .i64 b] 42)) = .ok (.slice (some ⟨g, 0, none⟩) (n + 1) k) W' ∧
      W'.ownsRow B 42 3 (.slice (some ⟨g, 0, none⟩) (n + 1) k) (n + 1) (xs ++ [.string s, .int .i64 a, .int .i64 b]) ∧ W.grownBy W' v.ownBlock ∧ Below B W W' := by
  obtain ⟨i, hi, hz, hs, hby⟩ := info_mk
  have hr := World.ownsRow.alloc h (.cells #[.string s, .int .i64 a, .int .i64 b] 42)
  obtain ⟨c0, c1, c2⟩ := three_nwD W (.string s) (.int .i64 a) (.int .i64 b) (t := 42)
  obtain ⟨g, k, W', hrun, ho, hg, _, _⟩ := run_append_lies (P := Try.prog) (W.alloc (.cells #[.string s, .int .i64 a, .int .i64 b] 42)) 27 ty B 42 i (.agg #[.string ⟨#[]⟩, .int .i64 0, .int .i64 0]) 3 32 Try.underlying27 hi hz hs hby rfl (by decide)
    v n xs hr ⟨W.heap.size, 0, none⟩ 1 1 [.string s, .int .i64 a, .int .i64 b] rfl
    (fun j u hj => by
      match j with
      | 0 => simp at hj; subst hj; rw [Addr.add_lit]; exact c0
      | 1 => simp at hj; subst hj; rw [Addr.add_lit]; exact c1
      | 2 => simp at hj; subst hj; rw [Addr.add_lit]; exact c2
      | j + 3 => simp at hj)
    (fun u hu => by simp at hu; rcases hu with rfl | rfl | rfl <;> rfl) (by decide) (by unfold maxLen; omega) (by omega) (by simp; omega) _ rfl
  have ha := World.grownBy_alloc W (.cells #[.string s, .int .i64 a, .int .i64 b] 42) none
  refine ⟨g, k, W', hrun, ho, ⟨hg.os.trans ha.os, hg.tape.trans ha.tape, hg.output.trans ha.output, Nat.le_trans ha.size hg.size, fun k hk hne => ?_⟩, ((Below.refl B W).alloc hB _).grown hg (by simp; omega) (fun k hk => (hr.lt k hk).1)⟩
  exact (hg.block k (Nat.lt_of_lt_of_le hk ha.size) hne).trans (ha.block k hk (by simp))
end Go.Proofs.Ytfllomlighlejaa
