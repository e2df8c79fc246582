/- Layer 13: a list of changes that came in under the second form's bound. · A list of operations that came in under the second form's bound. · A list of operations that came in: its room. · Layer 14: a list of deltas that came in. · Layer 14: a list of deltas that came in under the second form's bound. · Layer 14: ShiftChain's walk (written by wip/tools/sgy.py). · Layer 13: DeltaBack's walk (written by wip/tools/dsl.py). -/
import Derived.Test.YtjjdgfjlpkhgcaaMg37
import Derived.Test.YtjjdgfjlpkhgcaaMg29
import Derived.Test.YtjjdgfjlpkhgcaaMg22

section
namespace Go.Proofs.Ytjjdgfjlpkhgcaa
open Go.ChangeShapes Go.WideShapes Go.ChangeAt Go.RowKit

theorem bulk_pos {H : Type} (d : DataW H) : 0 < Rows.uptoBulk d := by
  cases d with
  | lit l => cases l <;> simp [Rows.uptoBulk]
  | _ => simp [Rows.uptoBulk]
theorem bulk_count {H : Type} : ∀ l : List (DataW H), l.length ≤ Rows.uptoBulkAll l
  | [] => Nat.zero_le _
  | d :: r => by
    have h1 := bulk_pos d
    have h2 := bulk_count r
    simp only [List.length_cons, Rows.uptoBulkAll]
    omega
theorem bulk_at {H : Type} : ∀ {l : List (DataW H)} {j : Nat} {d : DataW H}, l[j]? = some d → Rows.uptoBulk d ≤ Rows.uptoBulkAll l
  | [], _, _, h => by simp at h
  | e :: r, 0, d, h => by
    simp only [List.getElem?_cons_zero, Option.some.injEq] at h
    subst h
    simp only [Rows.uptoBulkAll]
    omega
  | e :: r, j + 1, d, h => by
    have := bulk_at (l := r) (j := j) (by simpa using h)
    simp only [Rows.uptoBulkAll]
    omega

set_option maxRecDepth 100000 in
theorem ch_cells {H : Type} {enc : TypeId × Value → H} {W : World} {cs : List Value} {fuel : Nat} {x : DataW H × List MemPlace}
    (hl : cs.length = 3) (hb : Rows.uptoBulk x.1 ≤ 1048576) (hf : DataW.trod enc Try.prog W 0 (fun _ => true) true fuel 56 cs = some x) : ∃ q : Dop, cs = opL q ∧ TbD q ∧ q.t.length ≤ 1048576 := by
  obtain ⟨xs, n, _, hxx, _, hx, hall⟩ := DataW.trod_struct Try.underlying56 hf
  have hx' : xs.length = 3 := hx
  have hc : Try.prog.cellsOf 3 = 1 := by kernel_rfl
  have hc2 : Try.prog.cellsOf 9 = 1 := by kernel_rfl
  have j0 : DataW.trod enc Try.prog W 0 (fun _ => true) true n 3 ((cs.drop 0).take (Try.prog.cellsOf 3)) = xs[0]? := hall 0 _ rfl
  have j1 : DataW.trod enc Try.prog W 0 (fun _ => true) true n 3 ((cs.drop 1).take (Try.prog.cellsOf 3)) = xs[1]? := hall 1 _ rfl
  have j2 : DataW.trod enc Try.prog W 0 (fun _ => true) true n 9 ((cs.drop 2).take (Try.prog.cellsOf 9)) = xs[2]? := hall 2 _ rfl
  rw [hc] at j0 j1
  rw [hc2] at j2
  obtain ⟨k, e0⟩ := one_intO Try.underlying3 (by omega) j0
  obtain ⟨m, e1⟩ := one_intO Try.underlying3 (by omega) j1
  obtain ⟨s, e2, es⟩ := one_strO Try.underlying9 (by omega) j2
  refine ⟨⟨k, m, numsO s⟩, ?_, numsO_in s, ?_⟩
  · unfold opL
    dsimp only
    rw [str_numsO]
    apply List.ext_getElem?
    intro i
    match i with
    | 0 => exact e0
    | 1 => exact e1
    | 2 => exact e2
    | i + 3 => rw [List.getElem?_eq_none (by omega)]; rfl
  · have h1 : (xs.map fun x => x.1)[2]? = some (xs[2]'(by omega)).1 := by simp [List.getElem?_eq_getElem (show 2 < xs.length by omega)]
    have h2 := bulk_at h1
    rw [hxx] at hb
    simp only [Rows.uptoBulk] at hb
    rw [es] at h2
    simp only [Rows.uptoBulk] at h2
    simp only [numsO, List.length_map]
    omega
set_option maxRecDepth 100000 in
/-- the list of changes, under the second form's bound -/
theorem chgs_of_trod {H : Type} {enc : TypeId × Value → H} {W : World} {a0 : Option Addr} {len0 cap0 : Nat} {d0 : DataW H} {p0 : List MemPlace}
    (h0 : DataW.Trod enc Try.prog W 0 (fun _ => true) true 42 (Value.slice a0 len0 cap0) d0 p0)
    {ds : List (DataW H)} {j : Nat} (hk : Rows.uptoSmall H ds = true) (hd : ds[j]? = some d0) :
    ∃ q : List Dop, len0 = q.length ∧ IsO W a0 q ∧ (q = [] ∨ ∃ p, a0 = some p) ∧ q.length ≤ 1048576 ∧ ∀ o ∈ q, TbD o ∧ o.t.length ≤ 1048576 := by
  have hb : Rows.uptoBulkAll ds ≤ 1048576 := of_decide_eq_true hk
  have h1 := bulk_at hd
  obtain ⟨fuel, hf⟩ := h0
  rcases Go.Deep.open_slice Try.underlying42 hf with ⟨hcs, _⟩ | ⟨a, len, cap, m, n, D, Pl, hcs, _, hl, hm, hmm, hx, hrow⟩
  · simp [Value.cells] at hcs
    obtain ⟨rfl, rfl, rfl⟩ := hcs
    exact ⟨[], rfl, Or.inl rfl, Or.inl rfl, by simp, by simp⟩
  · simp [Value.cells] at hcs
    obtain ⟨rfl, rfl, rfl⟩ := hcs
    simp only [Prod.mk.injEq] at hx
    obtain ⟨rfl, _⟩ := hx
    simp only [if_true] at hmm
    subst hmm
    simp only [Rows.uptoBulk] at h1
    have hcount := bulk_count (H := H) ((List.range len0).map D)
    rw [List.length_map, List.length_range] at hcount
    have ce : Try.prog.cellsOf 56 = 3 := by kernel_rfl
    have each : ∀ r, r < len0 → ∃ y : Dop, (TbD y ∧ y.t.length ≤ 1048576) ∧ ∀ j, j < 3 → W.cell? (a.add (r * 3 + j)) = (opL y)[j]? := by
      intro r hr
      obtain ⟨cs', h3, h2⟩ := hrow r (by omega)
      rw [ce] at h3
      obtain ⟨_, hlen, hcell⟩ := World.cells?_some h3
      have hbr : Rows.uptoBulk (D r) ≤ 1048576 := by
        have := bulk_at (H := H) (l := (List.range len0).map D) (j := r) (d := D r) (by simp [hr])
        omega
      obtain ⟨y, rfl, hby⟩ := ch_cells hlen hbr h2
      refine ⟨y, hby, fun j hj => ?_⟩
      have e := hcell j (by omega)
      rw [Go.Deep.add_add] at e
      rw [e, List.getElem?_eq_getElem (by simpa [opL] using hj)]
    obtain ⟨y, hy⟩ := Go.Deep.choose_lt each
    refine ⟨(List.range len0).map y, by simp, ?_, Or.inr ⟨_, rfl⟩, by simp; omega, ?_⟩
    · rcases Nat.eq_zero_or_pos len0 with h0 | h0
      · subst h0; exact Or.inl rfl
      · obtain ⟨b, off, spot⟩ := a
        have hc1 : W.cell? (Addr.add ⟨b, off, spot⟩ (0 * 3 + 0)) = some (.int .i64 (y 0).k) := (hy 0 (by omega)).2 0 (by decide)
        have hspot : spot = none := by simpa [Addr.add] using World.cell?_spot hc1
        subst hspot
        have hbl : b < W.heap.size := by
          rcases Nat.lt_or_ge b W.heap.size with h | h
          · exact h
          · rw [Addr.add_lit] at hc1
            simp [World.cell?, Array.getElem?_eq_none h] at hc1
        refine Or.inr ⟨b, off, rfl, hbl, fun r hr => ?_⟩
        simp only [List.length_map, List.length_range] at hr
        have hgr : ((List.range len0).map y).getD r opZ = y r := by simp [List.getD, hr]
        rw [hgr]
        have f : ∀ j, j < 3 → W.cell? ⟨b, off + (r * 3 + j), none⟩ = (opL (y r))[j]? := fun j hj => by have := (hy r hr).2 j hj; rwa [Addr.add_lit] at this
        exact ⟨f 0 (by decide), f 1 (by decide), f 2 (by decide)⟩
    · intro o ho
      obtain ⟨r, hr, rfl⟩ := List.mem_map.1 ho
      exact (hy r (by simpa using hr)).1
end Go.Proofs.Ytjjdgfjlpkhgcaa
end

section
namespace Go.Proofs.Ytjjdgfjlpkhgcaa
open Go.ChangeShapes Go.WideShapes Go.ChangeAt Go.RowKit

set_option maxRecDepth 100000 in
theorem op_cellsU {H : Type} {enc : TypeId × Value → H} {W : World} {cs : List Value} {fuel : Nat} {x : DataW H × List MemPlace}
    (hl : cs.length = 3) (hb : Rows.uptoBulk x.1 ≤ 1048576) (hf : DataW.trod enc Try.prog W 0 (fun _ => true) true fuel 34 cs = some x) : ∃ q : Dop, cs = opL q ∧ TbD q ∧ q.t.length ≤ 1048576 := by
  obtain ⟨xs, n, _, hxx, _, hx, hall⟩ := DataW.trod_struct Try.underlying34 hf
  have hx' : xs.length = 3 := hx
  have hc : Try.prog.cellsOf 3 = 1 := by kernel_rfl
  have hc2 : Try.prog.cellsOf 9 = 1 := by kernel_rfl
  have hc1 : Try.prog.cellsOf 32 = 1 := by kernel_rfl
  have j0 : DataW.trod enc Try.prog W 0 (fun _ => true) true n 32 ((cs.drop 0).take (Try.prog.cellsOf 32)) = xs[0]? := hall 0 _ rfl
  have j1 : DataW.trod enc Try.prog W 0 (fun _ => true) true n 3 ((cs.drop 1).take (Try.prog.cellsOf 3)) = xs[1]? := hall 1 _ rfl
  have j2 : DataW.trod enc Try.prog W 0 (fun _ => true) true n 9 ((cs.drop 2).take (Try.prog.cellsOf 9)) = xs[2]? := hall 2 _ rfl
  rw [hc1] at j0
  rw [hc] at j1
  rw [hc2] at j2
  obtain ⟨k, e0⟩ := one_intO Try.underlying32 (by omega) j0
  obtain ⟨m, e1⟩ := one_intO Try.underlying3 (by omega) j1
  obtain ⟨s, e2, es⟩ := one_strO Try.underlying9 (by omega) j2
  refine ⟨⟨k, m, numsO s⟩, ?_, numsO_in s, ?_⟩
  · unfold opL
    dsimp only
    rw [str_numsO]
    apply List.ext_getElem?
    intro i
    match i with
    | 0 => exact e0
    | 1 => exact e1
    | 2 => exact e2
    | i + 3 => rw [List.getElem?_eq_none (by omega)]; rfl
  · have h1 : (xs.map fun x => x.1)[2]? = some (xs[2]'(by omega)).1 := by simp [List.getElem?_eq_getElem (show 2 < xs.length by omega)]
    have h2 := bulk_at h1
    rw [hxx] at hb
    simp only [Rows.uptoBulk] at hb
    rw [es] at h2
    simp only [Rows.uptoBulk] at h2
    simp only [numsO, List.length_map]
    omega
set_option maxRecDepth 100000 in
/-- the list of operations, under the second form's bound -/
theorem opsU_of_trod {H : Type} {enc : TypeId × Value → H} {W : World} {a0 : Option Addr} {len0 cap0 : Nat} {d0 : DataW H} {p0 : List MemPlace}
    (h0 : DataW.Trod enc Try.prog W 0 (fun _ => true) true 24 (Value.slice a0 len0 cap0) d0 p0)
    {ds : List (DataW H)} {j : Nat} (hk : Rows.uptoSmall H ds = true) (hd : ds[j]? = some d0) :
    ∃ q : List Dop, len0 = q.length ∧ IsO W a0 q ∧ (q = [] ∨ ∃ p, a0 = some p) ∧ q.length ≤ 1048576 ∧ ∀ o ∈ q, TbD o ∧ o.t.length ≤ 1048576 := by
  have hb : Rows.uptoBulkAll ds ≤ 1048576 := of_decide_eq_true hk
  have h1 := bulk_at hd
  obtain ⟨fuel, hf⟩ := h0
  rcases Go.Deep.open_slice Try.underlying24 hf with ⟨hcs, _⟩ | ⟨a, len, cap, m, n, D, Pl, hcs, _, hl, hm, hmm, hx, hrow⟩
  · simp [Value.cells] at hcs
    obtain ⟨rfl, rfl, rfl⟩ := hcs
    exact ⟨[], rfl, Or.inl rfl, Or.inl rfl, by simp, by simp⟩
  · simp [Value.cells] at hcs
    obtain ⟨rfl, rfl, rfl⟩ := hcs
    simp only [Prod.mk.injEq] at hx
    obtain ⟨rfl, _⟩ := hx
    simp only [if_true] at hmm
    subst hmm
    simp only [Rows.uptoBulk] at h1
    have hcount := bulk_count (H := H) ((List.range len0).map D)
    rw [List.length_map, List.length_range] at hcount
    have ce : Try.prog.cellsOf 34 = 3 := by kernel_rfl
    have each : ∀ r, r < len0 → ∃ y : Dop, (TbD y ∧ y.t.length ≤ 1048576) ∧ ∀ j, j < 3 → W.cell? (a.add (r * 3 + j)) = (opL y)[j]? := by
      intro r hr
      obtain ⟨cs', h3, h2⟩ := hrow r (by omega)
      rw [ce] at h3
      obtain ⟨_, hlen, hcell⟩ := World.cells?_some h3
      have hbr : Rows.uptoBulk (D r) ≤ 1048576 := by
        have := bulk_at (H := H) (l := (List.range len0).map D) (j := r) (d := D r) (by simp [hr])
        omega
      obtain ⟨y, rfl, hby⟩ := op_cellsU hlen hbr h2
      refine ⟨y, hby, fun j hj => ?_⟩
      have e := hcell j (by omega)
      rw [Go.Deep.add_add] at e
      rw [e, List.getElem?_eq_getElem (by simpa [opL] using hj)]
    obtain ⟨y, hy⟩ := Go.Deep.choose_lt each
    refine ⟨(List.range len0).map y, by simp, ?_, Or.inr ⟨_, rfl⟩, by simp; omega, ?_⟩
    · rcases Nat.eq_zero_or_pos len0 with h0 | h0
      · subst h0; exact Or.inl rfl
      · obtain ⟨b, off, spot⟩ := a
        have hc1 : W.cell? (Addr.add ⟨b, off, spot⟩ (0 * 3 + 0)) = some (.int .i64 (y 0).k) := (hy 0 (by omega)).2 0 (by decide)
        have hspot : spot = none := by simpa [Addr.add] using World.cell?_spot hc1
        subst hspot
        have hbl : b < W.heap.size := by
          rcases Nat.lt_or_ge b W.heap.size with h | h
          · exact h
          · rw [Addr.add_lit] at hc1
            simp [World.cell?, Array.getElem?_eq_none h] at hc1
        refine Or.inr ⟨b, off, rfl, hbl, fun r hr => ?_⟩
        simp only [List.length_map, List.length_range] at hr
        have hgr : ((List.range len0).map y).getD r opZ = y r := by simp [List.getD, hr]
        rw [hgr]
        have f : ∀ j, j < 3 → W.cell? ⟨b, off + (r * 3 + j), none⟩ = (opL (y r))[j]? := fun j hj => by have := (hy r hr).2 j hj; rwa [Addr.add_lit] at this
        exact ⟨f 0 (by decide), f 1 (by decide), f 2 (by decide)⟩
    · intro o ho
      obtain ⟨r, hr, rfl⟩ := List.mem_map.1 ho
      exact (hy r (by simpa using hr)).1
end Go.Proofs.Ytjjdgfjlpkhgcaa
end

section
namespace Go.Proofs.Ytjjdgfjlpkhgcaa
open Go.ChangeShapes Go.WideShapes Go.ChangeAt Go.RowKit

theorem ops_cap {H : Type} {enc : TypeId × Value → H} {W : World} {a0 : Option Addr} {len0 cap0 : Nat} {d0 : DataW H} {p0 : List MemPlace}
    (h0 : DataW.Trod enc Try.prog W 0 (fun _ => true) true 24 (Value.slice a0 len0 cap0) d0 p0) : len0 ≤ cap0 := by
  obtain ⟨fuel, hf⟩ := h0
  rcases Go.Deep.open_slice Try.underlying24 hf with ⟨hcs, _⟩ | ⟨a, len, cap, m, n, D, Pl, hcs, _, hl, hm, hmm, hx, hrow⟩
  · simp [Value.cells] at hcs
    omega
  · simp [Value.cells] at hcs
    obtain ⟨rfl, rfl, rfl⟩ := hcs
    exact hl

end Go.Proofs.Ytjjdgfjlpkhgcaa
end

section
namespace Go.Proofs.Ytjjdgfjlpkhgcaa
open Go.ChangeShapes Go.WideShapes Go.ChangeAt Go.RowKit

instance : Inhabited Dl := ⟨dlZ⟩
/-- what is known of one delta of such a list -/
structure DlIn (W : World) (y : Dl) : Prop where
  o : IsO W y.a y.d
  l : y.d.length * 32 ≤ 140737488355328
  c : y.d.length ≤ y.c
  t : ∀ o ∈ y.d, TbD o ∧ o.t.length ≤ 140737488355328
set_option maxRecDepth 100000 in
theorem one_delta {H : Type} {enc : TypeId × Value → H} {W : World} {cs : List Value} {fuel : Nat} {x : DataW H × List MemPlace}
    (hb : ∀ y ∈ x.1.weights Try.prog 24, y ≤ reachBytes) (hf : DataW.trod enc Try.prog W 0 (fun _ => true) true fuel 24 cs = some x) :
    ∃ y : Dl, DlIn W y ∧ cs = [.slice y.a y.d.length y.c] := by
  obtain ⟨a1, l1, c1, rfl⟩ : ∃ a1 l1 c1, cs = [Value.slice a1 l1 c1] := by
    rcases Go.Deep.open_slice Try.underlying24 hf with ⟨hcs, _⟩ | ⟨a, len, cap, m, n, D, Pl, hcs, _⟩
    · exact ⟨_, _, _, hcs⟩
    · exact ⟨_, _, _, hcs⟩
  have hT : DataW.Trod enc Try.prog W 0 (fun _ => true) true 24 (Value.slice a1 l1 c1) x.1 x.2 := ⟨fuel, by simpa [Value.cells] using hf⟩
  obtain ⟨q, rfl, h1, _, h3, h4⟩ := ops_of_trod hT (ts := [24]) (ds := [x.1]) (j := 0) (List.all_eq_true.2 fun y hy => decide_eq_true (hb y (by simpa [DataW.weightsEach] using hy))) rfl rfl
  exact ⟨⟨a1, c1, q⟩, ⟨h1, h3, ops_cap hT, h4⟩, rfl⟩
set_option maxRecDepth 100000 in
theorem deltas_of_trod {H : Type} {enc : TypeId × Value → H} {W : World} {a0 : Option Addr} {len0 cap0 : Nat} {d0 : DataW H} {p0 : List MemPlace}
    (h0 : DataW.Trod enc Try.prog W 0 (fun _ => true) true 57 (Value.slice a0 len0 cap0) d0 p0)
    {ts : List TypeId} {ds : List (DataW H)} {j : Nat} (hsz : (DataW.weightsEach Try.prog ts ds).all (· ≤ reachBytes) = true) (ht : ts[j]? = some 57) (hd : ds[j]? = some d0) :
    ∃ q : List Dl, len0 = q.length ∧ IsDx W W a0 q ∧ (q = [] ∨ ∃ p, a0 = some p) ∧ q.length * 24 ≤ 140737488355328 ∧ ∀ x ∈ q, DlIn W x := by
  have hall : ∀ y ∈ d0.weights Try.prog 57, y ≤ reachBytes := fun y hy => of_decide_eq_true (List.all_eq_true.1 hsz y (wE_atO ht hd y hy))
  obtain ⟨fuel, hf⟩ := h0
  rcases Go.Deep.open_slice Try.underlying57 hf with ⟨hcs, _⟩ | ⟨a, len, cap, m, n, D, Pl, hcs, _, hl, hm, hmm, hx, hrow⟩
  · simp [Value.cells] at hcs
    obtain ⟨rfl, rfl, rfl⟩ := hcs
    exact ⟨[], rfl, ⟨by simp, by simp⟩, Or.inl rfl, by simp, by simp⟩
  · simp [Value.cells] at hcs
    obtain ⟨rfl, rfl, rfl⟩ := hcs
    simp only [Prod.mk.injEq] at hx
    obtain ⟨rfl, _⟩ := hx
    have hs := sized_slice hsz ht hd Try.underlying57
    rw [show Try.prog.bytesOf 24 = 24 by kernel_rfl] at hs
    have hr : reachBytes = 140737488351232 := rfl
    simp only [List.length_map, List.length_range] at hs
    simp only [DataW.weights, Try.underlying57] at hall
    simp only [if_true] at hmm
    subst hmm
    have ce : Try.prog.cellsOf 24 = 1 := by kernel_rfl
    have each : ∀ r, r < len0 → ∃ y : Dl, DlIn W y ∧ W.cell? (a.add r) = some (.slice y.a y.d.length y.c) := by
      intro r hr
      obtain ⟨cs', h1, h2⟩ := hrow r (by omega)
      rw [ce, Nat.mul_one] at h1
      obtain ⟨_, hlen, hcell⟩ := World.cells?_some h1
      have hbr : ∀ y ∈ (D r).weights Try.prog 24, y ≤ reachBytes := fun y hy => hall y (List.mem_cons_of_mem _ (List.mem_append_left _ (wA_atO (by simp; exact ⟨r, hr, rfl⟩) y hy)))
      obtain ⟨y, hy, rfl⟩ := one_delta (x := (D r, Pl r)) hbr h2
      refine ⟨y, hy, ?_⟩
      have e := hcell 0 (by omega)
      rw [Go.Deep.add_add] at e
      simpa using e
    obtain ⟨y, hy⟩ := Go.Deep.choose_lt each
    refine ⟨(List.range len0).map y, by simp, ?_, Or.inr ⟨_, rfl⟩, by simp; omega, ?_⟩
    · refine ⟨fun i hi => ?_, fun i hi => ?_⟩
      · simp only [List.length_map, List.length_range] at hi
        have hgr : ((List.range len0).map y).getD i dlZ = y i := by simp [List.getD, hi]
        rw [hgr]
        obtain ⟨b, off, spot⟩ := a
        have hc1 := (hy i hi).2
        have hspot : spot = none := by simpa [Addr.add] using World.cell?_spot (hy 0 (by omega)).2
        subst hspot
        rw [Addr.add_lit] at hc1
        have hbl : b < W.heap.size := by
          rcases Nat.lt_or_ge b W.heap.size with h | h
          · exact h
          · simp [World.cell?, Array.getElem?_eq_none h] at hc1
        exact ⟨b, off, rfl, hbl, hc1⟩
      · simp only [List.length_map, List.length_range] at hi
        have hgr : ((List.range len0).map y).getD i dlZ = y i := by simp [List.getD, hi]
        rw [hgr]
        exact ⟨(hy i hi).1.o, fun o ho => ((hy i hi).1.t o ho).2⟩
    · intro o ho
      obtain ⟨r, hr, rfl⟩ := List.mem_map.1 ho
      exact (hy r (by simpa using hr)).1
end Go.Proofs.Ytjjdgfjlpkhgcaa
end

section
namespace Go.Proofs.Ytjjdgfjlpkhgcaa
open Go.ChangeShapes Go.WideShapes Go.ChangeAt Go.RowKit

/-- what is known of one delta of such a list -/
structure DlIu (W : World) (y : Dl) : Prop where
  o : IsO W y.a y.d
  l : y.d.length ≤ 1048576
  c : y.d.length ≤ y.c
  t : ∀ o ∈ y.d, TbD o ∧ o.t.length ≤ 1048576
  z : y.d = [] ∨ ∃ q, y.a = some q
set_option maxRecDepth 100000 in
theorem one_deltaU {H : Type} {enc : TypeId × Value → H} {W : World} {cs : List Value} {fuel : Nat} {x : DataW H × List MemPlace}
    (hb : Rows.uptoBulk x.1 ≤ 1048576) (hf : DataW.trod enc Try.prog W 0 (fun _ => true) true fuel 24 cs = some x) :
    ∃ y : Dl, DlIu W y ∧ cs = [.slice y.a y.d.length y.c] := by
  obtain ⟨a1, l1, c1, rfl⟩ : ∃ a1 l1 c1, cs = [Value.slice a1 l1 c1] := by
    rcases Go.Deep.open_slice Try.underlying24 hf with ⟨hcs, _⟩ | ⟨a, len, cap, m, n, D, Pl, hcs, _⟩
    · exact ⟨_, _, _, hcs⟩
    · exact ⟨_, _, _, hcs⟩
  have hT : DataW.Trod enc Try.prog W 0 (fun _ => true) true 24 (Value.slice a1 l1 c1) x.1 x.2 := ⟨fuel, by simpa [Value.cells] using hf⟩
  obtain ⟨q, rfl, h1, h2, h3, h4⟩ := opsU_of_trod hT (ds := [x.1]) (j := 0) (decide_eq_true (by simpa [Rows.uptoBulkAll] using hb)) rfl
  exact ⟨⟨a1, c1, q⟩, ⟨h1, h3, ops_cap hT, h4, h2⟩, rfl⟩
set_option maxRecDepth 100000 in
theorem deltasU_of_trod {H : Type} {enc : TypeId × Value → H} {W : World} {a0 : Option Addr} {len0 cap0 : Nat} {d0 : DataW H} {p0 : List MemPlace}
    (h0 : DataW.Trod enc Try.prog W 0 (fun _ => true) true 57 (Value.slice a0 len0 cap0) d0 p0)
    {ds : List (DataW H)} {j : Nat} (hk : Rows.uptoSmall H ds = true) (hd : ds[j]? = some d0) :
    ∃ q : List Dl, len0 = q.length ∧ IsDx W W a0 q ∧ (q = [] ∨ ∃ p, a0 = some p) ∧ q.length ≤ 1048576 ∧ ∀ x ∈ q, DlIu W x := by
  have hb : Rows.uptoBulkAll ds ≤ 1048576 := of_decide_eq_true hk
  have h1 := bulk_at hd
  obtain ⟨fuel, hf⟩ := h0
  rcases Go.Deep.open_slice Try.underlying57 hf with ⟨hcs, _⟩ | ⟨a, len, cap, m, n, D, Pl, hcs, _, hl, hm, hmm, hx, hrow⟩
  · simp [Value.cells] at hcs
    obtain ⟨rfl, rfl, rfl⟩ := hcs
    exact ⟨[], rfl, ⟨by simp, by simp⟩, Or.inl rfl, by simp, by simp⟩
  · simp [Value.cells] at hcs
    obtain ⟨rfl, rfl, rfl⟩ := hcs
    simp only [Prod.mk.injEq] at hx
    obtain ⟨rfl, _⟩ := hx
    simp only [if_true] at hmm
    subst hmm
    simp only [Rows.uptoBulk] at h1
    have hcount := bulk_count (H := H) ((List.range len0).map D)
    rw [List.length_map, List.length_range] at hcount
    have ce : Try.prog.cellsOf 24 = 1 := by kernel_rfl
    have each : ∀ r, r < len0 → ∃ y : Dl, DlIu W y ∧ W.cell? (a.add r) = some (.slice y.a y.d.length y.c) := by
      intro r hr
      obtain ⟨cs', h3, h2⟩ := hrow r (by omega)
      rw [ce, Nat.mul_one] at h3
      obtain ⟨_, hlen, hcell⟩ := World.cells?_some h3
      have hbr : Rows.uptoBulk (D r) ≤ 1048576 := by
        have := bulk_at (H := H) (l := (List.range len0).map D) (j := r) (d := D r) (by simp [hr])
        omega
      obtain ⟨y, hy, rfl⟩ := one_deltaU (x := (D r, Pl r)) hbr h2
      refine ⟨y, hy, ?_⟩
      have e := hcell 0 (by omega)
      rw [Go.Deep.add_add] at e
      simpa using e
    obtain ⟨y, hy⟩ := Go.Deep.choose_lt each
    refine ⟨(List.range len0).map y, by simp, ?_, Or.inr ⟨_, rfl⟩, by simp; omega, ?_⟩
    · refine ⟨fun i hi => ?_, fun i hi => ?_⟩
      · simp only [List.length_map, List.length_range] at hi
        have hgr : ((List.range len0).map y).getD i dlZ = y i := by simp [List.getD, hi]
        rw [hgr]
        obtain ⟨b, off, spot⟩ := a
        have hc1 := (hy i hi).2
        have hspot : spot = none := by simpa [Addr.add] using World.cell?_spot (hy 0 (by omega)).2
        subst hspot
        rw [Addr.add_lit] at hc1
        have hbl : b < W.heap.size := by
          rcases Nat.lt_or_ge b W.heap.size with h | h
          · exact h
          · simp [World.cell?, Array.getElem?_eq_none h] at hc1
        exact ⟨b, off, rfl, hbl, hc1⟩
      · simp only [List.length_map, List.length_range] at hi
        have hgr : ((List.range len0).map y).getD i dlZ = y i := by simp [List.getD, hi]
        rw [hgr]
        exact ⟨(hy i hi).1.o, fun o ho => Nat.le_trans ((hy i hi).1.t o ho).2 (by decide)⟩
    · intro o ho
      obtain ⟨r, hr, rfl⟩ := List.mem_map.1 ho
      exact (hy r (by simpa using hr)).1
end Go.Proofs.Ytjjdgfjlpkhgcaa
end

section
namespace Go.Proofs.Ytjjdgfjlpkhgcaa
open Go.ChangeShapes Go.WideShapes Go.ChangeAt Go.RowKit
attribute [local go_sem] Oper.semAt_some

theorem IsDx.up {w X : World} {A0 : Option Addr} {ds : List Dl} (h : IsDx w w A0 ds) (hb : Below w.heap.size w X) : IsDx X X A0 ds := ⟨(h.on hb).c, fun i hi => ⟨(h.o i hi).1.below hb (Nat.le_refl _), (h.o i hi).2⟩⟩
/-- lists in a row of one's own, with their room -/
theorem ch_isDc {w X : World} {v1 v8 : Value} {b : List Dop} {L : List (List Dop)} (h : ChM w X v1 v8 b L) (ht : ∀ d ∈ L, ∀ o ∈ d, o.t.length ≤ 140737488355328) : ∃ A0 c ds, v8 = .slice A0 L.length c ∧ ds.map (·.d) = L ∧ IsDx X X A0 ds ∧ ∀ x ∈ ds, x.d.length ≤ x.c := by
  obtain ⟨vs, h1, h2, h3⟩ := h.l
  obtain ⟨A0, c, hv, _⟩ := rowD_form h1
  have each : ∀ i, i < L.length → ∃ x : Dl, vs.getD i undef = .slice x.a x.d.length x.c ∧ x.d = L.getD i [] ∧ IsO X x.a x.d ∧ x.d.length ≤ x.c := fun i hi => by
    obtain ⟨a, c, e1, e2, e3⟩ := own_isO (h3 i hi)
    exact ⟨⟨a, c, L.getD i []⟩, e1, rfl, e2, e3⟩
  let f : Nat → Dl := fun i => if hi : i < L.length then Classical.choose (each i hi) else dlZ
  have hf : ∀ i, i < L.length → vs.getD i undef = .slice (f i).a (f i).d.length (f i).c ∧ (f i).d = L.getD i [] ∧ IsO X (f i).a (f i).d ∧ (f i).d.length ≤ (f i).c := fun i hi => by
    have := Classical.choose_spec (each i hi)
    simp only [f, hi, dif_pos]
    exact this
  have hget : ∀ i, i < L.length → ((List.range L.length).map f).getD i dlZ = f i := fun i hi => by simp [List.getD, hi]
  refine ⟨A0, c, (List.range L.length).map f, hv, ?_, ⟨fun i hi => ?_, fun i hi => ?_⟩, fun x hx => ?_⟩
  · apply List.ext_getElem?
    intro i
    rcases Nat.lt_or_ge i L.length with hi | hi
    · have := (hf i hi).2.1
      simp [hi, this, List.getD]
    · simp [hi]
  · have hi' : i < L.length := by simpa using hi
    obtain ⟨G, c2, hv2, hG, hlt⟩ := h1.form (Nat.lt_of_le_of_lt (Nat.zero_le _) hi')
    rw [hv] at hv2
    cases hv2
    rw [hget i hi', ← (hf i hi').1]
    rw [hv] at h1
    have hc := World.ownsRow.cells h1 rfl i (vs.getD i undef) (by simp [List.getD, List.getElem?_eq_getElem (show i < vs.length by omega)])
    rw [Addr.add_lit] at hc
    exact ⟨G, 0, rfl, hlt, hc⟩
  · have hi' : i < L.length := by simpa using hi
    rw [hget i hi']
    refine ⟨(hf i hi').2.2.1, ?_⟩
    rw [(hf i hi').2.1]
    refine ht _ ?_
    simp [List.getD, List.getElem?_eq_getElem hi']
  · obtain ⟨r, hr, rfl⟩ := List.mem_map.1 hx
    exact (hf r (by simpa using hr)).2.2.2
theorem lk_congr : ∀ {ds ds' : List Dl} (n : Nat), ds.map (·.d) = ds'.map (·.d) → lkF n ds = lkF n ds' ∧ ds.all (fun x => valB x.d) = ds'.all (fun x => valB x.d)
  | [], [], _, _ => ⟨rfl, rfl⟩
  | [], _ :: _, _, h => by simp at h
  | _ :: _, [], _, h => by simp at h
  | a :: r, b :: s, n, h => by
    simp only [List.map_cons, List.cons.injEq] at h
    obtain ⟨h1, h2⟩ := lk_congr (toD a.d) h.2
    simp only [lkF, List.all_cons]
    rw [h1, h2, h.1]
    exact ⟨rfl, rfl⟩
theorem cn_congr {ds ds' : List Dl} (e : List Dop) (h : ds.map (·.d) = ds'.map (·.d)) : cnQ ds e = cnQ ds' e := by
  have hk : lkE ds e = lkE ds' e := by
    unfold lkE
    rw [(lk_congr (frD e) h).1, (lk_congr (frD e) h).2]
  unfold cnQ
  rw [hk, h]
/-- a list that may be held against others -/
def PdL (d : List Dop) : Prop := (∀ o ∈ d, TbD o ∧ o.t.length ≤ 140737488355328) ∧ d.length ≤ 4611686018427387904
theorem pd_nil : PdL [] := ⟨by simp, by simp⟩
theorem pd_bo {d e : List Dop} (hd : PdL d) (he : PdL e) : PdL (boA d e) ∧ PdL (boB d e) := by
  obtain ⟨t1, t2⟩ := bo_tb (fun o ho => (hd.1 o ho).1) (fun o ho => (he.1 o ho).1)
  obtain ⟨s1, s2⟩ := boA_small d e
  by_cases hE : boE d e = 0
  · obtain ⟨o1, o2, eA, eB⟩ := bo_ok hE
    have v1 : valB (boA d e) = true := by rw [eA]; exact o1.v
    have v2 : valB (boB d e) = true := by rw [eB]; exact o2.v
    exact ⟨⟨fun o ho => ⟨t1 o ho, val_tl v1 o ho⟩, s1⟩, ⟨fun o ho => ⟨t2 o ho, val_tl v2 o ho⟩, s2⟩⟩
  · have e1 : boA d e = [] := by unfold boA; rw [if_neg hE]
    have e2 : boB d e = [] := by unfold boB; rw [if_neg hE]
    rw [e1, e2]; exact ⟨pd_nil, pd_nil⟩
theorem pd_pre {L : List (List Dop)} {q : (List Dop × List (List Dop)) × Int} (hL : ∀ d ∈ L, PdL d) (h1 : PdL q.1.1) (h2 : ∀ d ∈ q.1.2, PdL d) : PdL (preL L q).1.1 ∧ ∀ d ∈ (preL L q).1.2, PdL d := by
  unfold preL
  split
  · refine ⟨h1, fun d hd => ?_⟩
    rcases List.mem_append.1 hd with hd | hd
    · exact hL d hd
    · exact h2 d hd
  · exact ⟨h1, h2⟩
theorem pd_ch : ∀ (l : List (List Dop)) (b : List Dop), (∀ d ∈ l, PdL d) → PdL b → PdL (chL l b).1.1 ∧ ∀ d ∈ (chL l b).1.2, PdL d
  | [], b, _, hb => ⟨hb, by simp [chL]⟩
  | a :: r, b, hl, hb => by
    obtain ⟨p1, p2⟩ := pd_bo (hl a (by simp)) hb
    simp only [chL]
    split
    · obtain ⟨q1, q2⟩ := pd_ch r (boB a b) (fun d hd => hl d (by simp [hd])) p2
      exact pd_pre (fun d hd => by simp only [List.mem_singleton] at hd; rw [hd]; exact p1) q1 q2
    · exact ⟨pd_nil, by simp⟩
theorem pd_cn {ds : List Dl} {e : List Dop} (h1 : ∀ x ∈ ds, PdL x.d) (h2 : PdL e) : PdL (cnQ ds e).1.1 ∧ ∀ d ∈ (cnQ ds e).1.2, PdL d := by
  unfold cnQ
  split
  · exact pd_ch _ _ (fun d hd => by obtain ⟨x, hx, rfl⟩ := List.mem_map.1 hd; exact h1 x hx) h2
  · exact ⟨pd_nil, by simp⟩
theorem cn_len {ds : List Dl} {e : List Dop} : (cnQ ds e).1.2.length ≤ ds.length := by
  have key : ∀ (l : List (List Dop)) (b : List Dop), (chL l b).1.2.length ≤ l.length := by
    intro l
    induction l with
    | nil => intro b; simp [chL]
    | cons a r ih =>
      intro b
      simp only [chL]
      split
      · have := ih (boB a b)
        unfold preL
        split
        · simp only [List.length_append, List.length_cons, List.length_nil]; omega
        · simp only [List.length_cons]; omega
      · simp
  unfold cnQ
  split
  · have := key (ds.map (·.d)) e
    simpa using this
  · simp
/-- great of one -/
theorem great1_at (x : Dl) (w X : World) (hx : IsO w x.a x.d) (tx : ∀ o ∈ x.d, o.t.length ≤ 140737488355328) (hd : Below w.heap.size w X) (lx : x.d.length ≤ 4611686018427387904 ∧ txD x.d ≤ 1099511627776) :
    Calls Try.prog 25 #[.slice (some ⟨X.heap.size, 0, none⟩) 1 1] (X.alloc (.cells #[.slice x.a x.d.length x.c] 24)) fun z X' => z = .returned (.bool (grB [x])) ∧ Below X.heap.size X X' := by
  have kN := Cls.new X 24 #[.slice x.a x.d.length x.c]
  have bA := (Below.refl X.heap.size X).alloc (Nat.le_refl _) (.cells #[.slice x.a x.d.length x.c] 24)
  have hD : IsDx w (X.alloc (.cells #[.slice x.a x.d.length x.c] 24)) (some ⟨X.heap.size, 0, none⟩) [x] := ⟨fun i hi => by
    match i with
    | 0 => exact ⟨_, 0, rfl, kN.lt, kN.cell 0⟩
    | i + 1 => simp at hi, fun i hi => by
    match i with
    | 0 => exact ⟨hx, tx⟩
    | i + 1 => simp at hi⟩
  exact (great14_at _ 1 [x] w _ hD (hd.trans (bA.mono hd.size)) (by simp) (fun z hz => by
    simp only [List.mem_cons, List.not_mem_nil, or_false] at hz
    rw [hz]; exact lx)).mono fun z X' ⟨e, x⟩ => ⟨e, bA.trans (x.mono bA.size)⟩
theorem chainM_at {w X : World} {v5 : Value} {ds : List Dl} {e : List Dop} (hM : ChM w X (.slice none 0 0) v5 [] (ds.map (·.d))) (hpd : ∀ x ∈ ds, PdL x.d) (hlx : ds.length ≤ 1048576) (hly : e.length ≤ 1048576) :
    ∃ A1 c1, v5 = .slice A1 ds.length c1 ∧ (∀ a4 c4, IsO X a4 e → Calls Try.prog 28 #[.slice A1 ds.length c1, .slice a4 e.length c4] X fun y w' => ∃ v1 v8, y = .returned (.tuple #[v1, v8, .int .i64 (cnQ ds e).2]) ∧ ChM X w' v1 v8 (cnQ ds e).1.1 (cnQ ds e).1.2) := by
  obtain ⟨A1, c1, dsM, e1, e2, e3, e4⟩ := ch_isDc hM (fun d hd o ho => by obtain ⟨x, hx, rfl⟩ := List.mem_map.1 hd; exact ((hpd x hx).1 o ho).2)
  have hlm : dsM.length = ds.length := by have := congrArg List.length e2; simpa using this
  refine ⟨A1, c1, by rw [e1, List.length_map], fun a4 c4 h4 => ?_⟩
  have hd : ∀ x ∈ dsM, x.d.length ≤ 4611686018427387904 ∧ x.d.length ≤ x.c := fun x hx => by
    refine ⟨?_, e4 x hx⟩
    have hm : x.d ∈ dsM.map (·.d) := List.mem_map.2 ⟨x, hx, rfl⟩
    rw [e2] at hm
    obtain ⟨x', hx', e5⟩ := List.mem_map.1 hm
    rw [← e5]; exact (hpd x' hx').2
  have hc := ChainX_at A1 c1 dsM a4 c4 e X e3 h4 (by omega) (by omega) hd
  rw [cn_congr e e2, hlm] at hc
  exact hc
theorem sameM_at {X W1 W2 : World} {v1 v8 v1' v8' : Value} {b b' : List Dop} {QL : List (List Dop)} (h1 : ChM W1 X v1 v8 b QL) (h2 : ChM W2 X v1' v8' b' QL) (pL : ∀ d ∈ QL, PdL d) (hl : QL.length ≤ 1099511627776) :
    Calls Try.prog 33 #[v8, v8'] X fun y X' => y = .returned (.bool true) ∧ Below X.heap.size X X' := by
  obtain ⟨A1, c1, d1, e1, e2, e3⟩ := ch_isDx h1 (fun d hd o ho => ((pL d hd).1 o ho).2)
  obtain ⟨A2, c2, d2, f1, f2, f3⟩ := ch_isDx h2 (fun d hd o ho => ((pL d hd).1 o ho).2)
  have l1 : d1.length = QL.length := by have := congrArg List.length e2; simpa using this
  have l2 : d2.length = QL.length := by have := congrArg List.length f2; simpa using this
  have hc := RSameAllX_at A1 A2 c1 c2 d1 d2 X X e3 f3 (Below.refl _ _) (e2.trans f2.symm) (by rw [l1]; exact Nat.le_trans hl (by decide)) (fun x hx => by
    have hm : x.d ∈ d1.map (·.d) := List.mem_map.2 ⟨x, hx, rfl⟩
    rw [e2] at hm
    exact ⟨(pL _ hm).2, fun o ho => ((pL _ hm).1 o ho).1⟩)
  rw [l1, l2] at hc
  rw [e1, f1]
  exact hc
theorem take_mapD {ds : List Dl} {k : Nat} (hk : k < ds.length) : (ds.take (k + 1)).map (·.d) = (ds.take k).map (·.d) ++ [(ds.getD k dlZ).d] := by
  rw [List.take_add_one, List.getElem?_eq_getElem hk, Option.toList_some, List.map_append]
  simp [List.getD, List.getElem?_eq_getElem hk]
theorem tk_sz {ds : List Dl} {k : Nat} (hk : k < ds.length) (h : ds.length ≤ 1048576) : (((ds.take k).map (·.d)).length + 1) * 24 ≤ 140737488355328 := by rw [List.length_map, List.length_take]; omega
end Go.Proofs.Ytjjdgfjlpkhgcaa
end

section
namespace Go.Proofs.Ytjjdgfjlpkhgcaa
open Go.ChangeShapes Go.WideShapes Go.ChangeAt Go.RowKit
attribute [local go_sem] Oper.semAt_some

/-- two more operations -/
theorem push_op2 (W : World) (B n : Nat) (v : Value) (xs : List Value) (a b : Int) (s : ByteArray) (a' b' : Int) (s' : ByteArray) (ty : TypeId) (h : W.ownsRow B 34 3 v n xs) (hn : n ≤ 1099511627776) (hB : B ≤ W.heap.size) :
    ∃ g k W', (Builtin.append_ #[24, 24] ty #[v, .slice (some ⟨W.heap.size, 0, none⟩) 2 2]).run Try.prog (W.alloc (.cells #[.int .i64 a, .int .i64 b, .string s, .int .i64 a', .int .i64 b', .string s'] 34)) = .ok (.slice (some ⟨g, 0, none⟩) (n + 2) k) W' ∧
      W'.ownsRow B 34 3 (.slice (some ⟨g, 0, none⟩) (n + 2) k) (n + 2) (xs ++ [.int .i64 a, .int .i64 b, .string s, .int .i64 a', .int .i64 b', .string s']) ∧ W.grownBy W' v.ownBlock ∧ Below B W W' := by
  obtain ⟨i, hi, hz, hs, hby⟩ := info_op
  have hr := World.ownsRow.alloc h (.cells #[.int .i64 a, .int .i64 b, .string s, .int .i64 a', .int .i64 b', .string s'] 34)
  have kN := Cls.new W 34 #[.int .i64 a, .int .i64 b, .string s, .int .i64 a', .int .i64 b', .string s']
  obtain ⟨g, k, W', hrun, ho, hg, _, _⟩ := run_append_lies (P := Try.prog) (W.alloc (.cells #[.int .i64 a, .int .i64 b, .string s, .int .i64 a', .int .i64 b', .string s'] 34)) 24 ty B 34 i (.agg #[.int .i64 0, .int .i64 0, .string ⟨#[]⟩]) 3 32 Try.underlying24 hi hz hs hby rfl (by decide)
    v n xs hr ⟨W.heap.size, 0, none⟩ 2 2 [.int .i64 a, .int .i64 b, .string s, .int .i64 a', .int .i64 b', .string s'] rfl
    (fun j u hj => by
      rw [Addr.add_lit, Nat.zero_add]
      exact (kN.cell j).trans (by simpa using hj))
    (fun u hu => by simp at hu; rcases hu with rfl | rfl | rfl | rfl | rfl | rfl <;> rfl) (by decide) (by unfold maxLen; omega) (by omega) (by simp; omega) _ rfl
  have ha := World.grownBy_alloc W (.cells #[.int .i64 a, .int .i64 b, .string s, .int .i64 a', .int .i64 b', .string s'] 34) none
  refine ⟨g, k, W', hrun, ho, ⟨hg.os.trans ha.os, hg.tape.trans ha.tape, hg.output.trans ha.output, Nat.le_trans ha.size hg.size, fun k hk hne => ?_⟩, ((Below.refl B W).alloc hB _).grown hg (by simp; omega) (fun k hk => (hr.lt k hk).1)⟩
  exact (hg.block k (Nat.lt_of_lt_of_le hk ha.size) hne).trans (ha.block k hk (by simp))
theorem bk_push2 {w X : World} {v : Value} {L : List Dop} (ho : X.ownsRow w.heap.size 34 3 v L.length (opsV L)) (hd : Below w.heap.size w X) (hl : L.length ≤ 1000000000) (m : Int) (s : List Int) :
    ∃ g c W', (Builtin.append_ #[24, 24] 24 #[v, .slice (some ⟨X.heap.size, 0, none⟩) 2 2]).run Try.prog (X.alloc (.cells #[.int .i64 2, .int .i64 0, .string (strOfNums s), .int .i64 3, .int .i64 m, .string ⟨#[]⟩] 34)) = .ok (.slice (some ⟨g, 0, none⟩) (L.length + 2) c) W' ∧
      W'.ownsRow w.heap.size 34 3 (.slice (some ⟨g, 0, none⟩) (L.length + 2) c) (L ++ [(⟨2, 0, s⟩ : Dop), ⟨3, m, []⟩]).length (opsV (L ++ [(⟨2, 0, s⟩ : Dop), ⟨3, m, []⟩])) ∧ Below w.heap.size w W' ∧ (∀ i, i < X.heap.size → v.ownBlock ≠ some i → W'.heap[i]? = X.heap[i]?) := by
  obtain ⟨g, c, W', r, o, gr, b⟩ := push_op2 X w.heap.size L.length v (opsV L) 2 0 (strOfNums s) 3 m ⟨#[]⟩ 24 ho (by omega) hd.size
  refine ⟨g, c, W', r, ?_, hd.trans b, fun i hi hne => gr.block i hi (fun e => hne e.symm)⟩
  rw [show (L ++ [(⟨2, 0, s⟩ : Dop), ⟨3, m, []⟩]).length = L.length + 2 by simp, opsV_app]
  exact o
theorem bk_push1 {w X : World} {v : Value} {L : List Dop} (ho : X.ownsRow w.heap.size 34 3 v L.length (opsV L)) (hd : Below w.heap.size w X) (hl : L.length ≤ 1000000000) (k n : Int) (s : ByteArray) (y : Dop) (hy : opL y = [.int .i64 k, .int .i64 n, .string s]) :
    ∃ g c W', (Builtin.append_ #[24, 24] 24 #[v, .slice (some ⟨X.heap.size, 0, none⟩) 1 1]).run Try.prog (X.alloc (.cells #[.int .i64 k, .int .i64 n, .string s] 34)) = .ok (.slice (some ⟨g, 0, none⟩) (L.length + 1) c) W' ∧
      W'.ownsRow w.heap.size 34 3 (.slice (some ⟨g, 0, none⟩) (L.length + 1) c) (L ++ [y]).length (opsV (L ++ [y])) ∧ Below w.heap.size w W' ∧ (∀ i, i < X.heap.size → v.ownBlock ≠ some i → W'.heap[i]? = X.heap[i]?) := by
  obtain ⟨g, c, W', r, o, gr, b⟩ := push_op X w.heap.size L.length v (opsV L) k n s 24 ho (by omega) hd.size
  rw [← hy, ← opsV_one, ← opsV_app] at o
  refine ⟨g, c, W', r, ?_, hd.trans b, fun i hi hne => gr.block i hi (fun e => hne e.symm)⟩
  rw [show (L ++ [y]).length = L.length + 1 by simp]
  exact o
structure BkI (d : List Dop) (b : List Int) (k f : Nat) (L : List Dop) (v : Value) (w X : World) : Prop where
  e : (runB b (d.take k)).2 = L
  f : f = frD (d.take k)
  o : X.ownsRow w.heap.size 34 3 v L.length (opsV L)
  d : Below w.heap.size w X
end Go.Proofs.Ytjjdgfjlpkhgcaa
end
