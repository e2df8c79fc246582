/- Lists of lists of bytes that came in under the second form's bound: nil ones have no room. -/
import Derived.Test.YtlhobpjiclcpiaaDoorLayB
import Derived.Test.YtlhobpjiclcpiaaDoorWsh
namespace Go.Proofs.YtlhobpjiclcpiaaDoor
open Go.ChangeShapes Go.WideShapes Go.ChangeAt Go.RowKit

def IsNN (W : World) (a0 : Option Addr) (ls : List (List Int)) : Prop := ls = [] ∨ ∃ g off, a0 = some ⟨g, off, none⟩ ∧ g < W.heap.size ∧ ∀ r, r < ls.length →
  ∃ A C, W.cell? ⟨g, off + r, none⟩ = some (.slice A (ls.getD r []).length C) ∧ IsN W A C (ls.getD r [])
theorem nrows_of_trod {H : Type} {enc : TypeId × Value → H} {W : World} {a0 : Option Addr} {len0 cap0 : Nat} {d0 : DataW H} {p0 : List MemPlace}
    (h0 : DataW.Trod enc Tryd.prog W 0 (fun _ => true) true 46 (Value.slice a0 len0 cap0) d0 p0)
    {ds : List (DataW H)} {j : Nat} (hk : Rows.uptoSmall H ds = true) (hd : ds[j]? = some d0) : ∃ ls : List (List Int), len0 = ls.length ∧ IsNN W a0 ls ∧ bulkL ls + ls.length ≤ 1048576 := by
  have hb : Rows.uptoBulkAll ds ≤ 1048576 := of_decide_eq_true hk
  have h1 := bulk_at hd
  obtain ⟨fuel, hf⟩ := h0
  rcases Go.Deep.open_int_rows Tryd.underlying46 Tryd.underlying22 Tryd.underlying5 (by kernel_rfl) (by kernel_rfl) hf with ⟨hcs, _⟩ | ⟨x, len, cap, A, L, C, Z, hcs, _, hl, hm, hx, hrow⟩
  · simp [Value.cells] at hcs
    obtain ⟨rfl, rfl, rfl⟩ := hcs
    exact ⟨[], rfl, Or.inl rfl, by simp [bulkL]⟩
  · simp [Value.cells] at hcs
    obtain ⟨rfl, rfl, rfl⟩ := hcs
    simp only [Prod.mk.injEq] at hx
    obtain ⟨rfl, _⟩ := hx
    have hbr := bulk_rows (H := H) A L C Z (List.range len0) (fun r hr => by
      obtain ⟨_, k1, _, k3, _, k5, _⟩ := hrow r (by have := List.mem_range.1 hr; omega)
      exact ⟨k1, k3, k5⟩)
    simp only [Rows.uptoBulk, List.length_range] at h1 hbr
    refine ⟨(List.range len0).map fun r => (Z r).take (L r), by simp, ?_, by simp only [List.length_map, List.length_range]; omega⟩
    rcases Nat.eq_zero_or_pos len0 with h0 | h0
    · subst h0; exact Or.inl rfl
    · obtain ⟨b, off, spot⟩ := x
      have hspot : spot = none := by simpa [Addr.add] using World.cell?_spot (hrow 0 (by omega)).1
      subst hspot
      have hc0 := (hrow 0 (by omega)).1
      have hbl : b < W.heap.size := by
        rcases Nat.lt_or_ge b W.heap.size with h | h
        · exact h
        · rw [Addr.add_lit] at hc0
          simp [World.cell?, Array.getElem?_eq_none h] at hc0
      refine Or.inr ⟨b, off, rfl, hbl, fun r hr => ?_⟩
      simp only [List.length_map, List.length_range] at hr
      obtain ⟨q1, q2, q3, q4, q5, q6, q7⟩ := hrow r (by omega)
      have e : ((List.range len0).map fun r => (Z r).take (L r)).getD r [] = (Z r).take (L r) := by simp [List.getD, hr]
      rw [e]
      have hlen : ((Z r).take (L r)).length = L r := by simp; omega
      rw [Addr.add_lit] at q1
      have hL : L r ≤ 1048576 := by
        have hm2 : ((Z r).take (L r)).length ≤ bulkL ((List.range len0).map fun r => (Z r).take (L r)) := by
          unfold bulkL
          refine le_sum ?_
          simp only [List.map_map, List.mem_map, List.mem_range, Function.comp]
          exact ⟨r, hr, rfl⟩
        omega
      refine ⟨A r, C r, by rw [hlen]; exact q1, ⟨by rw [hlen]; exact q2, by rw [hlen]; omega, ?_, fun y hy => bounds_u8 (q5 y (List.mem_of_mem_take hy))⟩, fun e => q6 e⟩
      rcases Nat.eq_zero_or_pos (L r) with h0' | h0'
      · left; exact List.length_eq_zero_iff.1 (by rw [hlen]; exact h0')
      · cases hA : A r with
        | none => have := q6 hA; omega
        | some a' =>
          obtain ⟨_, q8⟩ := q7 a' hA
          obtain ⟨b', off', spot'⟩ := a'
          have hspot' : spot' = none := by simpa [Addr.add] using World.cell?_spot (q8 0 (by omega))
          subst hspot'
          refine Or.inr ⟨b', off', rfl, fun i hi => ?_⟩
          rw [hlen] at hi
          have e2 : ((Z r).take (L r)).getD i 0 = (Z r).getD i 0 := by simp [List.getD, hi]
          rw [e2]
          have hc := q8 i (by omega)
          rw [Addr.add_lit] at hc
          refine ⟨hc, ?_⟩
          have := bounds_u8 (q5 ((Z r)[i]'(by omega)) (List.getElem_mem _))
          simpa [List.getD, List.getElem?_eq_getElem (show i < (Z r).length by omega)] using this
theorem IsNN.below {W W' : World} {B : Nat} {a0 : Option Addr} {ls : List (List Int)} (h : IsNN W a0 ls) (hb : Below B W W') (hB : W.heap.size ≤ B) : IsNN W' a0 ls := by
  rcases h with h | ⟨g, off, rfl, hg, hr⟩
  · exact Or.inl h
  · refine Or.inr ⟨g, off, rfl, Nat.lt_of_lt_of_le hg hb.size, fun r hlt => ?_⟩
    obtain ⟨A, C, h1, h2⟩ := hr r hlt
    exact ⟨A, C, (hb.cell (p := ⟨g, off + r, none⟩) (by show g < B; omega)).trans h1, h2.below hb hB⟩
end Go.Proofs.YtlhobpjiclcpiaaDoor
