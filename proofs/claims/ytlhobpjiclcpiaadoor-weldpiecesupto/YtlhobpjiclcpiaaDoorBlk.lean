/- The second form's bound: a []byte that came in has at most 1048576 places. -/
import Derived.Test.YtlhobpjiclcpiaaDoorLay
namespace Go.Proofs.YtlhobpjiclcpiaaDoor
open Go.ChangeShapes Go.WideShapes Go.ChangeAt Go.RowKit

theorem bulk_pos {H : Type} (d : DataW H) : 0 < Rows.uptoBulk d := by
  cases d with
  | lit l => cases l <;> simp [Rows.uptoBulk]
  | _ => simp [Rows.uptoBulk]
theorem bulk_count {H : Type} : ∀ l : List (DataW H), l.length ≤ Rows.uptoBulkAll l
  | [] => Nat.zero_le _
  | d :: r => by
    have h1 := bulk_pos d
    have h2 := bulk_count r
    simp only [List.length_cons, Rows.uptoBulkAll]
    omega
theorem bulk_at {H : Type} : ∀ {l : List (DataW H)} {j : Nat} {d : DataW H}, l[j]? = some d → Rows.uptoBulk d ≤ Rows.uptoBulkAll l
  | [], _, _, h => by simp at h
  | e :: r, 0, d, h => by
    simp only [List.getElem?_cons_zero, Option.some.injEq] at h
    subst h
    simp only [Rows.uptoBulkAll]
    omega
  | e :: r, j + 1, d, h => by
    have := bulk_at (l := r) (j := j) (by simpa using h)
    simp only [Rows.uptoBulkAll]
    omega

/-- of a []byte that came in under the bound -/
theorem cap_of_bulk {H : Type} {enc : TypeId × Value → H} {W : World} {a0 : Option Addr} {len0 cap0 : Nat} {d0 : DataW H} {p0 : List MemPlace}
    (h0 : DataW.Trod enc Tryd.prog W 0 (fun _ => true) true 22 (Value.slice a0 len0 cap0) d0 p0)
    {ds : List (DataW H)} {j : Nat} (hk : Rows.uptoSmall H ds = true) (hd : ds[j]? = some d0) : cap0 ≤ 1048576 := by
  have hb : Rows.uptoBulkAll ds ≤ 1048576 := of_decide_eq_true hk
  have h1 := bulk_at hd
  obtain ⟨fuel, hf⟩ := h0
  rcases open_ints Tryd.underlying22 Tryd.underlying5 (by kernel_rfl) hf with ⟨hcs, _⟩ | ⟨x, l, c, zs, hcs, _, hl, hm, hz, hx, hcell, hwz⟩
  · simp [Value.cells] at hcs
    omega
  · simp [Value.cells] at hcs
    obtain ⟨rfl, rfl, rfl⟩ := hcs
    simp only [Prod.mk.injEq] at hx
    obtain ⟨rfl, _⟩ := hx
    have hz' : zs.length = cap0 := by simpa using hz
    simp only [Rows.uptoBulk] at h1
    have h2 := bulk_count (H := H) (lits .u8 (zs.take len0))
    have h3 := bulk_count (H := H) (lits .u8 (zs.drop len0))
    simp only [lits, List.length_map, List.length_take, List.length_drop] at h2 h3
    simp only [lits] at h1
    omega

end Go.Proofs.YtlhobpjiclcpiaaDoor
