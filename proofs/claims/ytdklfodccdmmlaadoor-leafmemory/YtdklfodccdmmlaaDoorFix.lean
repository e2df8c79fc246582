/- Contract of galleylaw02.fixed: the answers that the document gives. -/
import Derived.Test.YtdklfodccdmmlaaDoorVld
import Derived.Test.YtdklfodccdmmlaaDoorStpC
import Derived.Lib.SlBytesConst
namespace Go.Proofs.YtdklfodccdmmlaaDoor
open Go.ChangeShapes Go.WideShapes Go.ChangeAt Go.RowKit

def lit6 : List Int := [97, 240, 159, 152, 128, 98]
theorem lit6_bytes : ∀ x ∈ lit6, 0 ≤ x ∧ x ≤ 255 := by decide
theorem at6_1 : atV lit6 1 = .tuple #[.agg #[.int .i32 128512, .int .i64 4, .bool true], .int .i64 0] := by
  have h : inside lit6 1 = false := by decide
  have hs : stp (lit6.drop 1) = stepV 128512 4 true := by simp [lit6, stp, wid, whl, first, lng, need, whole, sec, isTail, value, fold, lead]
  rw [atV, if_neg (by simp [lit6])]
  show (if inside lit6 1 = true then _ else Value.tuple #[stp (lit6.drop 1), .int .i64 0]) = _
  rw [h, hs]; rfl
theorem at6_2 : atV lit6 2 = .tuple #[.agg #[.int .i32 0, .int .i64 0, .bool false], .int .i64 4] := by
  have h : inside lit6 2 = true := by decide
  rw [atV, if_neg (by simp [lit6])]
  show (if inside lit6 2 = true then _ else _) = _
  rw [h]; rfl
theorem floor6 : floorV lit6 3 = .tuple #[.int .i64 1, .int .i64 0] := by
  have h : flr lit6 3 = 1 := by decide
  rw [floorV, if_neg (by simp [lit6])]
  show Value.tuple #[.int .i64 (flr lit6 3), .int .i64 0] = _
  rw [h]; rfl
theorem edge6 : edgeB lit6 4 = false := by
  have h : inside lit6 4 = true := by decide
  show (decide (0 ≤ (4 : Int) ∧ 4 ≤ (lit6.length : Int)) && !inside lit6 4) = false
  rw [h]; rfl
theorem valid6 : valid lit6 = true := by decide
theorem valid1 : valid [195] = false := by decide

theorem isB_lit (w : World) (l : List Int) (m : Nat × Nat) (hl : ∀ x ∈ l, 0 ≤ x ∧ x ≤ 255) (h : l.length ≤ 140737488351232) : IsB (w.alloc (.cells (l.map (Value.int .u8)).toArray 5 m)) (some ⟨w.heap.size, 0, none⟩) l.length l :=
  IsB.of (lies_new w l m hl) (Nat.le_refl _) h

/-- a struct of three cells lies in a block -/
def Three (w : World) (g : Nat) (a b c : Value) : Prop := w.cell? ⟨g, 0, none⟩ = some a ∧ w.cell? ⟨g, 1, none⟩ = some b ∧ w.cell? ⟨g, 2, none⟩ = some c
theorem Three.below {w w' : World} {B g : Nat} {a b c : Value} (h : Three w g a b c) (hb : Below B w w') (hg : g < B) : Three w' g a b c :=
  ⟨(hb.cell (p := ⟨g, 0, none⟩) hg).trans h.1, (hb.cell (p := ⟨g, 1, none⟩) hg).trans h.2.1, (hb.cell (p := ⟨g, 2, none⟩) hg).trans h.2.2⟩
theorem three_new (w : World) (a b c : Value) {t : TypeId} : Three (w.alloc (.cells #[a, b, c] t)) w.heap.size a b c := by
  refine ⟨?_, ?_, ?_⟩
  · exact (World.cell?_alloc_mark w #[a, b, c] t (0, 0) 0).trans rfl
  · exact (World.cell?_alloc_mark w #[a, b, c] t (0, 0) 1).trans rfl
  · exact (World.cell?_alloc_mark w #[a, b, c] t (0, 0) 2).trans rfl

theorem Floor_lit (g : Nat) (p : Int) {v : Value} (w : World) (hB : IsB w (some ⟨g, 0, none⟩) 6 lit6) (hT : Tab w) (hv : floorV lit6 p = v) :
    Calls Tryd.prog 20 #[.slice (some ⟨g, 0, none⟩) 6 6, .int .i64 p] w fun e w' => e = .returned v ∧ Below w.heap.size w w' := by
  subst hv
  exact Floor_at (some ⟨g, 0, none⟩) 6 p lit6 w hB hT
end Go.Proofs.YtdklfodccdmmlaaDoor
