/- Scripts (bytes, or the end of them) that came in under the second form's bound. -/
import Derived.Test.YtpgipahlhbkjjaaDoorLayB
import Derived.Deep.SlicePairs
namespace Go.Proofs.YtpgipahlhbkjjaaDoor
open Go.ChangeShapes Go.WideShapes Go.ChangeAt Go.RowKit

/-- a []Fed in memory -/
def IsFe (W : World) (a0 : Option Addr) (fs : List (List Int × Bool)) : Prop := fs = [] ∨ ∃ g off, a0 = some ⟨g, off, none⟩ ∧ g < W.heap.size ∧ ∀ r, r < fs.length →
  ∃ A C, W.cell? ⟨g, off + r * 2, none⟩ = some (.slice A (fs.getD r ([], false)).1.length C) ∧ IsB W A C (fs.getD r ([], false)).1 ∧ W.cell? ⟨g, off + (r * 2 + 1), none⟩ = some (.bool (fs.getD r ([], false)).2)
def bulkF (fs : List (List Int × Bool)) : Nat := (fs.map fun f => f.1.length).sum

theorem bulkF_cons (f : List Int × Bool) (fs : List (List Int × Bool)) : bulkF (f :: fs) = f.1.length + bulkF fs := by simp [bulkF]
theorem bulk_feds {H : Type} (D0 D1 : Nat → DataW H) (Z : Nat → List Int × Bool) : ∀ (rs : List Nat), (∀ r ∈ rs, (Z r).1.length ≤ Rows.uptoBulk (D0 r)) →
    bulkF (rs.map Z) + rs.length ≤ Rows.uptoBulkAll (rs.map fun r => .agg [D0 r, D1 r])
  | [], _ => by simp [bulkF, Rows.uptoBulkAll]
  | r :: rs, h => by
    have ih := bulk_feds D0 D1 Z rs (fun x hx => h x (List.mem_cons_of_mem _ hx))
    have h1 := h r (List.mem_cons_self ..)
    simp only [List.map_cons, bulkF_cons, List.length_cons, Rows.uptoBulkAll, Rows.uptoBulk] at ih ⊢
    omega

/-- a []byte within what came in -/
theorem bytes_of_trod {H : Type} {enc : TypeId × Value → H} {W : World} {n : Nat} {v : Value} {x : DataW H × List MemPlace}
    (h : DataW.trod enc Tryd.prog W 0 (fun _ => true) true n 26 [v] = some x) (hb : Rows.uptoBulk x.1 ≤ 1048576) :
    ∃ A C l, v = .slice A l.length C ∧ IsB W A C l ∧ l.length ≤ Rows.uptoBulk x.1 := by
  rcases open_ints Tryd.underlying26 Tryd.underlying5 (by kernel_rfl) h with ⟨hcs, hx⟩ | ⟨a, len, cap, zs, hcs, _, hl, hm, hz, hx, hcell, hwz⟩
  · simp at hcs
    subst hcs
    exact ⟨none, 0, [], rfl, ⟨by simp, by simp, Or.inl rfl, by simp⟩, Nat.zero_le _⟩
  · simp at hcs
    subst hcs
    have hz' : zs.length = cap := by simpa using hz
    subst hx
    have h2 := bulk_count (H := H) (lits .u8 (zs.take len))
    simp only [lits, List.length_map, List.length_take] at h2
    simp only [Rows.uptoBulk, lits] at hb ⊢
    have hlen : (zs.take len).length = len := by simp; omega
    have hby : ∀ x ∈ zs, 0 ≤ x ∧ x ≤ 255 := fun n hn => bounds_u8 (hwz n hn)
    refine ⟨some a, cap, zs.take len, by rw [hlen], ⟨by rw [hlen]; omega, by rw [hlen]; omega, ?_, fun y hy => hby y (List.mem_of_mem_take hy)⟩, by rw [hlen]; omega⟩
    rcases Nat.eq_zero_or_pos len with h0 | h0
    · subst h0; exact Or.inl rfl
    · obtain ⟨b, off, spot⟩ := a
      have hspot : spot = none := by simpa [Addr.add] using World.cell?_spot (hcell 0 (by omega))
      subst hspot
      refine Or.inr ⟨b, off, rfl, fun i hi => ?_⟩
      rw [hlen] at hi
      have e : (zs.take len).getD i 0 = zs.getD i 0 := by simp [List.getD, hi]
      rw [e]
      have hc := hcell i (by omega)
      rw [Addr.add_lit] at hc
      refine ⟨hc, ?_⟩
      have := hby (zs[i]'(by omega)) (List.getElem_mem _)
      simpa [List.getD, List.getElem?_eq_getElem (show i < zs.length by omega)] using this

theorem feds_of_trod {H : Type} {enc : TypeId × Value → H} {W : World} {a0 : Option Addr} {len0 cap0 : Nat} {d0 : DataW H} {p0 : List MemPlace}
    (h0 : DataW.Trod enc Tryd.prog W 0 (fun _ => true) true 22 (Value.slice a0 len0 cap0) d0 p0)
    {ds : List (DataW H)} {j : Nat} (hk : Rows.uptoSmall H ds = true) (hd : ds[j]? = some d0) : ∃ fs : List (List Int × Bool), len0 = fs.length ∧ IsFe W a0 fs ∧ bulkF fs + fs.length ≤ 1048576 := by
  have hb : Rows.uptoBulkAll ds ≤ 1048576 := of_decide_eq_true hk
  have h1 := bulk_at hd
  obtain ⟨fuel, hf⟩ := h0
  rcases Go.Deep.open_slice_pairs Tryd.underlying22 Tryd.underlying32 (by kernel_rfl) rfl rfl (by kernel_rfl) (by kernel_rfl) hf with ⟨hcs, _⟩ | ⟨a, len, cap, m, n, V0, V1, D0, D1, P0, P1, hcs, _, hl, hm, hmm, hx, hrow⟩
  · simp [Value.cells] at hcs
    obtain ⟨rfl, rfl, rfl⟩ := hcs
    exact ⟨[], rfl, Or.inl rfl, by simp [bulkF]⟩
  · simp [Value.cells] at hcs
    obtain ⟨rfl, rfl, rfl⟩ := hcs
    simp only [if_true] at hmm
    subst hmm
    simp only [Prod.mk.injEq] at hx
    obtain ⟨rfl, _⟩ := hx
    simp only [Rows.uptoBulk] at h1
    have hel : ∀ r, r < len0 → Rows.uptoBulk (D0 r) ≤ 1048576 := by
      intro r hr
      have := bulk_at (H := H) (l := (List.range len0).map fun i => .agg [D0 i, D1 i]) (j := r) (d := .agg [D0 r, D1 r]) (by simp [hr])
      simp only [Rows.uptoBulk, Rows.uptoBulkAll] at this
      omega
    have each : ∀ r, r < len0 → ∃ y : Option Addr × Nat × List Int × Bool, W.cell? (a.add (r * 2)) = some (.slice y.1 y.2.2.1.length y.2.1) ∧ IsB W y.1 y.2.1 y.2.2.1 ∧ y.2.2.1.length ≤ Rows.uptoBulk (D0 r) ∧ W.cell? (a.add (r * 2 + 1)) = some (.bool y.2.2.2) := by
      intro r hr
      obtain ⟨c0, c1, t0, t1⟩ := hrow r (by omega)
      obtain ⟨A, C, l, e, hi, hle⟩ := bytes_of_trod t0 (hel r hr)
      obtain ⟨b, e1, _⟩ := DataW.trod_bool Tryd.underlying4 t1
      simp at e1
      exact ⟨(A, C, l, b), by rw [c0, e], hi, hle, by rw [c1, e1]⟩
    obtain ⟨y, hy⟩ := Go.Deep.choose_lt each
    have hbr := bulk_feds D0 D1 (fun r => ((y r).2.2.1, (y r).2.2.2)) (List.range len0) (fun r hr => (hy r (List.mem_range.1 hr)).2.2.1)
    simp only [List.length_range] at hbr
    refine ⟨(List.range len0).map fun r => ((y r).2.2.1, (y r).2.2.2), by simp, ?_, by simp only [List.length_map, List.length_range]; omega⟩
    rcases Nat.eq_zero_or_pos len0 with h0 | h0
    · subst h0; exact Or.inl rfl
    · obtain ⟨b, off, spot⟩ := a
      have hspot : spot = none := by simpa [Addr.add] using World.cell?_spot (hy 0 (by omega)).1
      subst hspot
      have hc0 := (hy 0 (by omega)).1
      have hbl : b < W.heap.size := by
        rcases Nat.lt_or_ge b W.heap.size with h | h
        · exact h
        · rw [Addr.add_lit] at hc0
          simp [World.cell?, Array.getElem?_eq_none h] at hc0
      refine Or.inr ⟨b, off, rfl, hbl, fun r hr => ?_⟩
      simp only [List.length_map, List.length_range] at hr
      obtain ⟨q1, q2, _, q4⟩ := hy r (by omega)
      have e : ((List.range len0).map fun r => ((y r).2.2.1, (y r).2.2.2)).getD r ([], false) = ((y r).2.2.1, (y r).2.2.2) := by simp [List.getD, hr]
      rw [e]
      rw [Addr.add_lit] at q1 q4
      exact ⟨_, _, q1, q2, q4⟩
theorem IsFe.below {W W' : World} {B : Nat} {a0 : Option Addr} {fs : List (List Int × Bool)} (h : IsFe W a0 fs) (hb : Below B W W') (hB : W.heap.size ≤ B) : IsFe W' a0 fs := by
  rcases h with h | ⟨g, off, rfl, hg, hr⟩
  · exact Or.inl h
  · refine Or.inr ⟨g, off, rfl, Nat.lt_of_lt_of_le hg hb.size, fun r hlt => ?_⟩
    obtain ⟨A, C, h1, h2, h3⟩ := hr r hlt
    exact ⟨A, C, (hb.cell (p := ⟨g, off + r * 2, none⟩) (by show g < B; omega)).trans h1, h2.below hb hB, (hb.cell (p := ⟨g, off + (r * 2 + 1), none⟩) (by show g < B; omega)).trans h3⟩
theorem IsFe.at {W : World} {a0 : Option Addr} {fs : List (List Int × Bool)} (h : IsFe W a0 fs) {r : Nat} (hr : r < fs.length) : ∃ g off A C, a0 = some ⟨g, off, none⟩ ∧ g < W.heap.size ∧ W.cell? ⟨g, off + r * 2, none⟩ = some (.slice A (fs.getD r ([], false)).1.length C) ∧ IsB W A C (fs.getD r ([], false)).1 ∧ W.cell? ⟨g, off + (r * 2 + 1), none⟩ = some (.bool (fs.getD r ([], false)).2) := by
  rcases h with h | ⟨g, off, rfl, hg, hc⟩
  · rw [h] at hr; simp at hr
  · obtain ⟨A, C, h1, h2, h3⟩ := hc r hr
    exact ⟨g, off, A, C, rfl, hg, h1, h2, h3⟩
theorem bulkF_at : ∀ {fs : List (List Int × Bool)} {r : Nat}, r < fs.length → (fs.getD r ([], false)).1.length ≤ bulkF fs := by
  intro fs r hr
  refine le_sum ?_
  refine List.mem_map.2 ⟨fs.getD r ([], false), ?_, rfl⟩
  simp [List.getD, List.getElem?_eq_getElem hr]
end Go.Proofs.YtpgipahlhbkjjaaDoor
