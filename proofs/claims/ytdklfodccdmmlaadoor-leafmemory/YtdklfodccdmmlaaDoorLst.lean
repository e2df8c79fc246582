/- Lists of places and of steps as they lie in memory, and what the plain functions say of the places of a step. -/
import Derived.Test.YtdklfodccdmmlaaDoorGonW
import Derived.Test.YtdklfodccdmmlaaDoorFix
namespace Go.Proofs.YtdklfodccdmmlaaDoor
open Go.ChangeShapes Go.WideShapes Go.ChangeAt Go.RowKit

/-- a []int that lies in memory -/
def IntsAt (W : World) (a : Option Addr) (ps : List Nat) : Prop := ps = [] ∨ ∃ g, a = some ⟨g, 0, none⟩ ∧ g < W.heap.size ∧ ∀ k, k < ps.length → W.cell? ⟨g, k, none⟩ = some (.int .i64 (ps.getD k 0 : Nat))
/-- a []api.Step that lies in memory -/
def StepsAt (W : World) (l : List Int) (a : Option Addr) (ps : List Nat) : Prop := ps = [] ∨ ∃ g, a = some ⟨g, 0, none⟩ ∧ g < W.heap.size ∧ ∀ k, k < ps.length →
  W.cell? ⟨g, k * 3, none⟩ = some (.int .i32 (first (l.drop (ps.getD k 0))).1) ∧ W.cell? ⟨g, k * 3 + 1, none⟩ = some (.int .i64 (wid (l.drop (ps.getD k 0)))) ∧ W.cell? ⟨g, k * 3 + 2, none⟩ = some (.bool (whl (l.drop (ps.getD k 0))))
theorem IntsAt.below {W W' : World} {B : Nat} {a : Option Addr} {ps : List Nat} (h : IntsAt W a ps) (hb : Below B W W') (hB : W.heap.size ≤ B) : IntsAt W' a ps := by
  rcases h with h | ⟨g, h1, h2, h3⟩
  · exact Or.inl h
  · exact Or.inr ⟨g, h1, Nat.lt_of_lt_of_le h2 hb.size, fun k hk => (hb.cell (p := ⟨g, k, none⟩) (Nat.lt_of_lt_of_le h2 hB)).trans (h3 k hk)⟩
theorem StepsAt.below {W W' : World} {B : Nat} {l : List Int} {a : Option Addr} {ps : List Nat} (h : StepsAt W l a ps) (hb : Below B W W') (hB : W.heap.size ≤ B) : StepsAt W' l a ps := by
  rcases h with h | ⟨g, h1, h2, h3⟩
  · exact Or.inl h
  · exact Or.inr ⟨g, h1, Nat.lt_of_lt_of_le h2 hb.size, fun k hk => ⟨(hb.cell (p := ⟨g, k * 3, none⟩) (Nat.lt_of_lt_of_le h2 hB)).trans (h3 k hk).1, (hb.cell (p := ⟨g, k * 3 + 1, none⟩) (Nat.lt_of_lt_of_le h2 hB)).trans (h3 k hk).2.1, (hb.cell (p := ⟨g, k * 3 + 2, none⟩) (Nat.lt_of_lt_of_le h2 hB)).trans (h3 k hk).2.2⟩⟩

theorem ints_at {W : World} {n₀ : Nat} {v : Value} {ps : List Nat} (h : W.ownsRow n₀ 3 1 v ps.length (ints ps)) : ∃ a cap, v = .slice a ps.length cap ∧ ps.length ≤ cap ∧ IntsAt W a ps := by
  have hc := h
  rcases h.2 with ⟨rfl, h0⟩ | ⟨g, cap, cur, rfl, _, hg, hle, _⟩
  · exact ⟨none, 0, by rw [h0], by omega, Or.inl (List.length_eq_zero_iff.1 h0)⟩
  · refine ⟨_, cap, rfl, hle, Or.inr ⟨g, rfl, heap_lt hg, fun k hk => ?_⟩⟩
    have := World.ownsRow.cells hc rfl k (.int .i64 (ps.getD k 0 : Nat)) (by simp [ints, List.getElem?_eq_getElem hk, List.getD])
    rwa [Addr.add_lit, Nat.zero_add] at this
theorem stps_get (l : List Int) : ∀ (ps : List Nat) (k j : Nat), k < ps.length → j < 3 → (stps l ps)[k * 3 + j]? = (cel l (ps.getD k 0))[j]?
  | [], k, _, h, _ => by simp at h
  | p :: ps, 0, j, _, hj => by
    rw [show stps l (p :: ps) = cel l p ++ stps l ps from rfl, List.getElem?_append_left (by simp [cel]; omega)]
    simp
  | p :: ps, k + 1, j, h, hj => by
    rw [show stps l (p :: ps) = cel l p ++ stps l ps from rfl, List.getElem?_append_right (by simp [cel]; omega)]
    rw [show (k + 1) * 3 + j - (cel l p).length = k * 3 + j by simp [cel]; omega, stps_get l ps k j (by simpa using h) hj]
    simp
theorem steps_at {W : World} {n₀ : Nat} {l : List Int} {v : Value} {ps : List Nat} (h : W.ownsRow n₀ 64 3 v ps.length (stps l ps)) : ∃ a cap, v = .slice a ps.length cap ∧ ps.length ≤ cap ∧ StepsAt W l a ps := by
  have hc := h
  rcases h.2 with ⟨rfl, h0⟩ | ⟨g, cap, cur, rfl, _, hg, hle, _⟩
  · exact ⟨none, 0, by rw [h0], by omega, Or.inl (List.length_eq_zero_iff.1 h0)⟩
  · refine ⟨_, cap, rfl, hle, Or.inr ⟨g, rfl, heap_lt hg, fun k hk => ?_⟩⟩
    have h0 := World.ownsRow.cells hc rfl (k * 3 + 0) _ ((stps_get l ps k 0 hk (by omega)).trans rfl)
    have h1 := World.ownsRow.cells hc rfl (k * 3 + 1) _ ((stps_get l ps k 1 hk (by omega)).trans rfl)
    have h2 := World.ownsRow.cells hc rfl (k * 3 + 2) _ ((stps_get l ps k 2 hk (by omega)).trans rfl)
    rw [Addr.add_lit, Nat.zero_add] at h0 h1 h2
    exact ⟨h0, h1, h2⟩

theorem flr_last' {l : List Int} {p q : Nat} (h1 : flr l p ≤ q) (h2 : q ≤ p) (h : inside l q = false) : q = flr l p := by
  cases hi : inside l p with
  | false => rw [flr_eq hi] at h1 ⊢; omega
  | true =>
    obtain ⟨a, b⟩ := flr_over hi
    rcases Nat.eq_or_lt_of_le h1 with e | e
    · exact e.symm
    · have := (inside_iff l q).2 ⟨flr l p, e, by omega⟩
      rw [h] at this; cases this
/-- what the plain functions say within a step that begins at an edge -/
theorem flr_in {l : List Int} {p q : Nat} (he : inside l p = false) (hp : p < l.length) (h1 : p ≤ q) (h2 : q < p + wid (l.drop p)) : flr l q = p := by
  refine (flr_last' (p := q) (q := p) ?_ h1 he).symm
  rcases Nat.lt_or_ge p (flr l q) with h | h
  · have h3 := flr_le l q
    have h4 := edge_between (l := l) (p := p) (k := flr l q - p) (by omega) (by omega) hp
    rw [show p + (flr l q - p) = flr l q by omega, flr_edge] at h4
    cases h4
  · exact h
theorem inside_in {l : List Int} {p q : Nat} (he : inside l p = false) (hp : p < l.length) (h1 : p ≤ q) (h2 : q < p + wid (l.drop p)) : inside l q = !decide (q = p) := by
  by_cases h : q = p
  · subst h; simp [he]
  · have := edge_between (l := l) (p := p) (k := q - p) (by omega) (by omega) hp
    rw [show p + (q - p) = q by omega] at this
    simp [this, h]
theorem floorV_in {l : List Int} {p q : Nat} (he : inside l p = false) (hp : p < l.length) (h1 : p ≤ q) (h2 : q < p + wid (l.drop p)) : floorV l (q : Int) = .tuple #[.int .i64 (p : Int), .int .i64 0] := by
  have := wid_len hp
  rw [floorV, if_neg (by omega), Int.toNat_natCast, flr_in he hp h1 h2]
theorem ceilV_in {l : List Int} {p q : Nat} (he : inside l p = false) (hp : p < l.length) (h1 : p ≤ q) (h2 : q < p + wid (l.drop p)) : ceilV l (q : Int) = .tuple #[.int .i64 (if q = p then (p : Int) else (p : Int) + (wid (l.drop p) : Nat)), .int .i64 0] := by
  have := wid_len hp
  rw [ceilV, if_neg (by omega), Int.toNat_natCast, ceil, inside_in he hp h1 h2, flr_in he hp h1 h2]
  by_cases h : q = p
  · simp [h]
  · simp [h]
theorem edgeB_in {l : List Int} {p q : Nat} (he : inside l p = false) (hp : p < l.length) (h1 : p ≤ q) (h2 : q < p + wid (l.drop p)) : edgeB l (q : Int) = decide (q = p) := by
  have := wid_len hp
  rw [edgeB, decide_eq_true (by omega), Int.toNat_natCast, inside_in he hp h1 h2]
  simp
theorem atV_in {l : List Int} {p : Nat} (he : inside l p = false) (hp : p < l.length) : atV l (p : Int) = .tuple #[.agg #[.int .i32 (first (l.drop p)).1, .int .i64 (wid (l.drop p)), .bool (whl (l.drop p))], .int .i64 0] := by
  rw [atV, if_neg (by omega), Int.toNat_natCast, he]; rfl
theorem beforeV_in {l : List Int} {p : Nat} (he : inside l p = false) (hp : p < l.length) : beforeV l ((p : Int) + (wid (l.drop p) : Nat)) = .tuple #[.agg #[.int .i32 (first (l.drop p)).1, .int .i64 (wid (l.drop p)), .bool (whl (l.drop p))], .int .i64 0] := by
  have h1 := wid_len hp
  have h2 := wid_pos hp
  rw [beforeV, if_neg (by omega), show ((p : Int) + (wid (l.drop p) : Nat)).toNat = p + wid (l.drop p) by omega, edge_next he hp, flr_in he hp (q := p + wid (l.drop p) - 1) (by omega) (by omega)]; rfl

/-- places that are behind one another -/
theorem spots_get {l : List Int} {pre : List Nat} {p : Nat} (h : spots l 0 = pre ++ spots l p) (hp : p < l.length) : pre.length < (spots l 0).length ∧ (spots l 0).getD pre.length 0 = p := by
  rw [h, spots_cons hp]
  simp
theorem spots_full {l : List Int} {pre : List Nat} {p : Nat} (h : spots l 0 = pre ++ spots l p) (hp : ¬ p < l.length) : pre.length = (spots l 0).length := by
  rw [h, spots_end hp]; simp
theorem spots_len (l : List Int) : ∀ (f p : Nat), (places l f p).length ≤ f
  | 0, _ => by simp [places]
  | f + 1, p => by
    simp only [places]
    split
    · have := spots_len l f (p + wid (l.drop p)); simp; omega
    · simp
theorem spots_le (l : List Int) : (spots l 0).length ≤ l.length := spots_len l _ 0

end Go.Proofs.YtdklfodccdmmlaaDoor
