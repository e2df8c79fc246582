/- What the list of package-level variables gives: the table of classes holds its numbers; and a world for the witness. -/
import Derived.Test.YtgebpboimecdhaaDoorCards
import Derived.Test.YtgebpboimecdhaaDoorTie
import Derived.Test.YtgebpboimecdhaaDoorOct
import Derived.Deep.DeepHandedRow
import Derived.Lib.LaidTab
namespace Go.Proofs.YtgebpboimecdhaaDoor
open Go.ChangeShapes Go.WideShapes Go.ChangeAt Go.RowKit

def tab : List Int := (List.range 245).map fun (i : Nat) => cls (i : Int)
theorem laid_eq : (Rows.laid_galley_octet_classes : DataW Unit) = Lib.tabData .u8 tab := by kernel_rfl
theorem own : ownKnob Tryd.prog.godebug = none := by kernel_rfl
theorem gTab : Tryd.prog.globalNamed "galley/octet.classes" = some 0 := by kernel_rfl
theorem gTabType : (Tryd.prog.globals[0]?).map (·.type) = some 33 := by kernel_rfl
theorem cellsTab : Tryd.prog.cellsOf 33 = 245 := by kernel_rfl
theorem cellsByte : Tryd.prog.cellsOf 5 = 1 := by kernel_rfl

theorem tab_of_laid {W : World} (h : laidMetH Tryd.prog [("galley/octet.classes", Rows.laid_galley_octet_classes)] W) : Tab W := by
  rw [laid_eq] at h
  have t := Lib.tabIs_of_head (rest := []) gTab gTabType Tryd.underlying33 Tryd.underlying5 cellsByte cellsTab h
  intro b h0 h1
  have hl : tab.length = 245 := by simp [tab]
  have := t.cell gTab b.toNat (by rw [hl]; omega)
  rw [this]
  have hb : b.toNat < 245 := by omega
  have e : tab.getD b.toNat 0 = cls b := by
    simp [tab, List.getD, hb, Int.toNat_of_nonneg h0]
  rw [e]

noncomputable def laidWorld (os : Os) : World :=
  { World.holding Tryd.prog os ⟨#[], #[], []⟩ with heap := (World.holding Tryd.prog os ⟨#[], #[], []⟩).heap.modify 0 fun
      | .cells _ t frozen => .cells (tab.map (Value.int .u8)).toArray t frozen
      | o => o }

theorem laidOut : laidOutB Tryd.prog = true := by kernel_rfl

/-- a []byte that came in: nil, or a row of cells, the first len of them its elements -/
def IsRow (w : World) (a : Option Addr) (len cap : Nat) (zs : List Int) : Prop :=
  (a = none ∧ len = 0 ∧ cap = 0 ∧ zs = []) ∨
  ∃ x, a = some x ∧ len ≤ cap ∧ cap ≤ maxLen ∧ zs.length = cap ∧ (∀ i, i < zs.length → w.cell? (x.add i) = some (.int .u8 (zs.getD i 0))) ∧ ∀ n ∈ zs, (Lit.int .u8 n).wf = true

theorem row_of_trod {H : Type} {enc : TypeId × Value → H} {W : World} {a0 : Option Addr} {len0 cap0 : Nat} {d0 : DataW H} {p0 : List MemPlace}
    (h0 : DataW.Trod enc Tryd.prog W 0 (fun _ => true) true 27 (Value.slice a0 len0 cap0) d0 p0) : ∃ zs, IsRow W a0 len0 cap0 zs := by
  obtain ⟨fuel, hf⟩ := h0
  rcases open_ints Tryd.underlying27 Tryd.underlying5 (by kernel_rfl) hf with ⟨hcs, _⟩ | ⟨x, l, c, zs, hcs, _, hl, hm, hz, _, hcell, hwz⟩
  · simp [Value.cells] at hcs
    obtain ⟨rfl, rfl, rfl⟩ := hcs
    exact ⟨[], .inl ⟨rfl, rfl, rfl, rfl⟩⟩
  · simp [Value.cells] at hcs
    obtain ⟨rfl, rfl, rfl⟩ := hcs
    exact ⟨zs, .inr ⟨_, rfl, hl, hm, by simpa using hz, hcell, hwz⟩⟩

end Go.Proofs.YtgebpboimecdhaaDoor
