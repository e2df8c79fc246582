/- awake answers true wherever the table holds the classes, and changes nothing that was there. · append([]byte{}, b...) of a []byte that came in: a []byte of the same bytes, in memory that was not there before. -/
import Derived.Test.YtdemagijhmbdcaaDo02
import Derived.Lib.SlBytesConst
import Derived.Laws.BytesArg
import Derived.Deep.AppendSrc

section
namespace Go.Proofs.Ytdemagijhmbdcaa
open Go.ChangeShapes Go.WideShapes Go.ChangeAt Go.RowKit

theorem Lies.below {w w' : World} {B g off : Nat} {l : List Int} (h : Lies w g off l) (hb : Below B w w') (hB : g < B) : Lies w' g off l :=
  fun i hi => ⟨(hb.cell (p := ⟨g, off + i, none⟩) hB).trans (h i hi).1, (h i hi).2⟩
theorem Below.drewN {B : Nat} {a w : World} (h : Below B a w) (n : Nat) : Below B a (w.drewN n) := ⟨h.os, h.tape, h.output, h.size, h.block⟩
theorem Below.made {B : Nat} {a w : World} (h : Below B a w) (hB : B ≤ w.heap.size) (l : List Int) : Below B a (madeW w l) := h.alloc hB _

theorem lies_new (w : World) (l : List Int) (m : Nat × Nat) (hl : ∀ x ∈ l, 0 ≤ x ∧ x ≤ 255) : Lies (w.alloc (.cells (l.map (Value.int .u8)).toArray 5 m)) w.heap.size 0 l := by
  intro i hi
  refine ⟨?_, ?_⟩
  · rw [Nat.zero_add, World.cell?_alloc_mark]
    simp [List.getElem?_eq_getElem hi, List.getD]
  · have := hl _ (List.getElem_mem hi)
    simpa [List.getD, List.getElem?_eq_getElem hi] using this
theorem lies_made (w : World) (l : List Int) (hl : ∀ x ∈ l, 0 ≤ x ∧ x ≤ 255) : Lies (madeW w l) w.heap.size 0 l := lies_new w l (0, 0) hl

theorem str_made (w : World) (l : List Int) : ∀ w', Lies w' w.heap.size 0 l → (convert 22 9 (madeV w l)).run Try.prog w' = .ok (.string (strOfNums l)) w' := by
  intro w' h
  exact run_convert_bytes_arg w' 22 5 Try.underlying22 Try.underlying5 w.heap.size 0 l.length l.length l rfl (fun i hi => (h i hi).1) 9 Try.underlying9

theorem quiet_below {w w' : World} (h : ∃ n, w' = w.drewN n) (B : Nat) : Below B w w' := by
  obtain ⟨n, rfl⟩ := h
  exact Below.drewN (Below.refl B w) n
theorem lit_bytes : ∀ x ∈ ([226, 130, 172] : List Int), 0 ≤ x ∧ x ≤ 255 := by decide
theorem lit_str : strOfNums [226, 130, 172] = ⟨#[226, 130, 172]⟩ := by decide

end Go.Proofs.Ytdemagijhmbdcaa
end

section
namespace Go.Proofs.Ytdemagijhmbdcaa
open Go.ChangeShapes Go.WideShapes Go.ChangeAt Go.RowKit

theorem IsB.below {w w' : World} {B : Nat} {a0 : Option Addr} {cap : Nat} {l : List Int} (h : IsB w a0 cap l) (hb : Below B w w') (hB : w.heap.size ≤ B) : IsB w' a0 cap l := by
  obtain ⟨h1, h2, h3, h4⟩ := h
  refine ⟨h1, h2, ?_, h4⟩
  rcases h3 with h3 | ⟨g, off, rfl, hL⟩
  · exact Or.inl h3
  · cases l with
    | nil => exact Or.inl rfl
    | cons a r =>
      have hlt : g < w.heap.size := by
        have := hL.head.1
        rcases Nat.lt_or_ge g w.heap.size with h | h
        · exact h
        · simp [World.cell?, Array.getElem?_eq_none h] at this
      exact Or.inr ⟨g, off, rfl, hL.below hb (by omega)⟩

set_option maxRecDepth 100000 in
theorem info_u8 : ∃ i, Try.prog.info? 5 = some i ∧ i.zero = some (.int .u8 0) ∧ i.size = 1 ∧ i.bytes = 1 := by
  refine ⟨_, rfl, ?_, ?_, ?_⟩ <;> rfl

theorem src_none (W : World) (a0 : Option Addr) (cap : Nat) : Src Try.prog 1 22 (.slice a0 0 cap) 0 [] W := by
  cases a0 with
  | none => exact Src.ofNil W Try.underlying22 cap
  | some a => exact Src.ofSlice W Try.underlying22 a 0 cap [] rfl (fun j u h => by simp at h) (fun u h => by cases h)
theorem src_some (W : World) (g off cap : Nat) (l : List Int) (hL : Lies W g off l) : Src Try.prog 1 22 (.slice (some ⟨g, off, none⟩) l.length cap) l.length (l.map (Value.int .u8)) W := by
  refine Src.ofSlice W Try.underlying22 ⟨g, off, none⟩ l.length cap (l.map (Value.int .u8)) (by simp) (fun j u h => ?_) (fun u h => ?_)
  · have hj : j < l.length := by
      rcases Nat.lt_or_ge j l.length with h' | h'
      · exact h'
      · rw [List.getElem?_eq_none (by simpa using h')] at h; cases h
    rw [Addr.add_lit, (hL j hj).1]
    simp [List.getElem?_eq_getElem hj] at h
    simp [List.getD, List.getElem?_eq_getElem hj, h]
  · obtain ⟨x, _, rfl⟩ := List.mem_map.1 h
    rfl

theorem run_copy (w : World) (a0 : Option Addr) (cap : Nat) (l : List Int) (ty : TypeId) (hB : IsB w a0 cap l) :
    ∃ a' cap' w', (Builtin.append_ #[22, 22] ty #[.slice (some ⟨w.heap.size, 0, none⟩) 0 0, .slice a0 l.length cap]).run Try.prog (w.alloc (.cells #[] 5)) = .ok (.slice a' l.length cap') w' ∧
      l.length ≤ cap' ∧ Bs w' a' l ∧ Below w.heap.size w w' := by
  obtain ⟨i, hi, hz, hs, hby⟩ := info_u8
  have hb0 : Below w.heap.size w (w.alloc (.cells #[] 5)) := (Below.refl _ _).alloc (Nat.le_refl _) _
  obtain ⟨h1, h2, h3, h4⟩ := hB.below hb0 (Nat.le_refl _)
  rcases Nat.eq_zero_or_pos l.length with h0 | h0
  · obtain rfl : l = [] := List.length_eq_zero_iff.1 h0
    refine ⟨some ⟨w.heap.size, 0, none⟩, 0, _, ?_, Nat.le_refl _, Or.inl rfl, hb0⟩
    have := run_append_room_src (P := Try.prog) (w.alloc (.cells #[] 5)) 22 22 ty 5 i Try.underlying22 hi w.heap.size 0 0 0 (.slice a0 0 cap) 0 [] (by rw [hs]; exact src_none _ a0 cap) (Nat.le_refl _) (fun j hj => absurd hj (Nat.not_lt_zero _)) (fun j hj => absurd hj (Nat.not_lt_zero _))
    exact this
  · rcases h3 with h3 | ⟨g, off, rfl, hL⟩
    · rw [h3] at h0; cases h0
    have hcap : Builtin.nextslicecap (0 + l.length) 0 = l.length := by unfold Builtin.nextslicecap; rw [if_pos (by omega)]; omega
    have := run_append_grow_src (P := Try.prog) (w.alloc (.cells #[] 5)) 22 22 ty 5 i (.int .u8 0) Try.underlying22 hi hz (some ⟨w.heap.size, 0, none⟩) 0 0 []
      (by rw [hs]; exact run_firstCells_some _ 1 0 _ 0 0 [] rfl (fun j v h => by simp at h)) (.slice (some ⟨g, off, none⟩) l.length cap) l.length (l.map (Value.int .u8)) (by rw [hs]; exact src_some _ g off cap l hL) (by omega) (by omega)
      (by rw [hcap, hby]; omega)
    rw [Nat.zero_add, List.nil_append] at this
    refine ⟨_, _, _, this, ?_, Or.inr ⟨_, 0, rfl, ?_⟩, ?_⟩
    · exact grownCap_ge _ _ _ _
    · intro j hj
      refine ⟨?_, (hL j hj).2⟩
      rw [Nat.zero_add]
      refine (World.cell?_alloc_mark (w.alloc (.cells #[] 5)).drew _ 5 (0, 0) j).trans ?_
      rw [Array.getElem?_append_left (by simpa using hj)]
      simp [List.getElem?_eq_getElem hj, List.getD]
    · exact (hb0.drew).alloc (by simp) _

/-- an append whose run is known, guarded or not -/
theorem wpList_append_known {P : Program} {ops : Array Oper} {rest : List Oper} {o : Oper} {a : Act} {Q : Exit → Act → World → Prop} {w : World} (hw : Region.wanted o (yielded ops a.tmps) = true) (s x : Operand) (t tx : TypeId)
    (ho : o.op = .call { callee := .builtin .append, args := #[s, x], argTypes := #[t, tx] }) (v u : Value) (hs : a.eval s = v) (hx : a.eval x = u) (v' : Value) (w' : World)
    (hr : (Builtin.append_ #[t, tx] o.type #[v, u]).run P w = .ok v' w') (h : wpList P ops Q rest (a.put o.dst v') w') : wpList P ops Q (o :: rest) a w := by
  unfold wpList
  rw [if_pos hw]
  left
  unfold Oper.wp execOp
  simp only [ho, resolve, invoke, builtin, Sem.run_bind, Sem.run_pure, Result.andThen_ok, List.map_toArray, List.map_cons, List.map_nil, hs, hx, hr]
  exact h

end Go.Proofs.Ytdemagijhmbdcaa
end
