/- awake answers true wherever the table holds the classes, and changes nothing that was there. -/
import Derived.Test.YtdklfodccdmmlaaDoorByt
import Derived.Lib.SlBytesConst
import Derived.Laws.BytesArg
namespace Go.Proofs.YtdklfodccdmmlaaDoor
open Go.ChangeShapes Go.WideShapes Go.ChangeAt Go.RowKit

theorem Tab.size {w : World} (h : Tab w) : 3 < w.heap.size := by
  have := h 0 (by omega) (by omega)
  rcases Nat.lt_or_ge 3 w.heap.size with e | e
  · exact e
  · simp [World.cell?, Array.getElem?_eq_none e] at this
theorem Tab.below {w w' : World} {B : Nat} (h : Tab w) (hb : Below B w w') (hB : 3 < B) : Tab w' := fun b h0 h1 => (hb.cell (p := ⟨3, b.toNat, none⟩) hB).trans (h b h0 h1)
theorem Tab.alloc {w : World} (h : Tab w) (o : Obj) : Tab (w.alloc o) := h.below ((Below.refl w.heap.size w).alloc (Nat.le_refl _) o) h.size
theorem Tab.drew {w : World} (h : Tab w) : Tab w.drew := h
theorem Lies.below {w w' : World} {B g off : Nat} {l : List Int} (h : Lies w g off l) (hb : Below B w w') (hB : g < B) : Lies w' g off l :=
  fun i hi => ⟨(hb.cell (p := ⟨g, off + i, none⟩) hB).trans (h i hi).1, (h i hi).2⟩
theorem Below.drewN {B : Nat} {a w : World} (h : Below B a w) (n : Nat) : Below B a (w.drewN n) := ⟨h.os, h.tape, h.output, h.size, h.block⟩
theorem Below.made {B : Nat} {a w : World} (h : Below B a w) (hB : B ≤ w.heap.size) (l : List Int) : Below B a (madeW w l) := h.alloc hB _

theorem lies_new (w : World) (l : List Int) (m : Nat × Nat) (hl : ∀ x ∈ l, 0 ≤ x ∧ x ≤ 255) : Lies (w.alloc (.cells (l.map (Value.int .u8)).toArray 5 m)) w.heap.size 0 l := by
  intro i hi
  refine ⟨?_, ?_⟩
  · rw [Nat.zero_add, World.cell?_alloc_mark]
    simp [List.getElem?_eq_getElem hi, List.getD]
  · have := hl _ (List.getElem_mem hi)
    simpa [List.getD, List.getElem?_eq_getElem hi] using this
theorem lies_made (w : World) (l : List Int) (hl : ∀ x ∈ l, 0 ≤ x ∧ x ≤ 255) : Lies (madeW w l) w.heap.size 0 l := lies_new w l (0, 0) hl

theorem str_made (w : World) (l : List Int) : ∀ w', Lies w' w.heap.size 0 l → (convert 22 9 (madeV w l)).run Tryd.prog w' = .ok (.string (strOfNums l)) w' := by
  intro w' h
  exact run_convert_bytes_arg w' 22 5 Tryd.underlying22 Tryd.underlying5 w.heap.size 0 l.length l.length l rfl (fun i hi => (h i hi).1) 9 Tryd.underlying9

theorem quiet_below {w w' : World} (h : ∃ n, w' = w.drewN n) (B : Nat) : Below B w w' := by
  obtain ⟨n, rfl⟩ := h
  exact Below.drewN (Below.refl B w) n
theorem Whole_lit (g : Nat) (w : World) (hL : Lies w g 0 [226, 130, 172]) (hT : Tab w) :
    Calls Tryd.prog 43 #[.slice (some ⟨g, 0, none⟩) 3 3] w fun e w' => e = .returned (.bool true) ∧ Below w.heap.size w w' :=
  (Whole_at (some ⟨g, 0, none⟩) 3 [226, 130, 172] w (by simp [maxLen]) (by simp) (Or.inr ⟨g, 0, rfl, hL⟩) hT).mono fun _ _ h => ⟨h.1, quiet_below h.2 _⟩
theorem Value_lit (g : Nat) (w : World) (hL : Lies w g 0 [226, 130, 172]) (hT : Tab w) :
    Calls Tryd.prog 45 #[.slice (some ⟨g, 0, none⟩) 3 3] w fun e w' => e = .returned (.int .i32 8364) ∧ Below w.heap.size w w' :=
  (Value_at (some ⟨g, 0, none⟩) 3 [226, 130, 172] w (by simp [maxLen]) (by simp) (Or.inr ⟨g, 0, rfl, hL⟩) hT).mono fun _ _ h => ⟨h.1, quiet_below h.2 _⟩
theorem lit_bytes : ∀ x ∈ ([226, 130, 172] : List Int), 0 ≤ x ∧ x ≤ 255 := by decide
theorem lit_str : strOfNums [226, 130, 172] = ⟨#[226, 130, 172]⟩ := by decide

end Go.Proofs.YtdklfodccdmmlaaDoor
