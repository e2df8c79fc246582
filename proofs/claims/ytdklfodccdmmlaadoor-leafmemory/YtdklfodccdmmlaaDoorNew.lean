/- Bytes answers in new memory, told without naming the world; and the string of bytes that lie in memory. -/
import Derived.Test.YtdklfodccdmmlaaDoorAwa
import Derived.Test.YtdklfodccdmmlaaDoorEnc
namespace Go.Proofs.YtdklfodccdmmlaaDoor
open Go.ChangeShapes Go.WideShapes Go.ChangeAt Go.RowKit

theorem made_size (w : World) (l : List Int) : (madeW w l).heap.size = w.heap.size + 1 := by simp [madeW]
theorem str_lies (w : World) (g off cap : Nat) (l : List Int) (h : Lies w g off l) :
    (convert 22 9 (.slice (some ⟨g, off, none⟩) l.length cap)).run Tryd.prog w = .ok (.string (strOfNums l)) w :=
  run_convert_bytes_arg w 22 5 Tryd.underlying22 Tryd.underlying5 g off l.length cap l rfl (fun i hi => (h i hi).1) 9 Tryd.underlying9
theorem str_bs (w : World) (a0 : Option Addr) (cap : Nat) (l : List Int) (h : Bs w a0 l) :
    (convert 22 9 (.slice a0 l.length cap)).run Tryd.prog w = .ok (.string (strOfNums l)) w := by
  rcases h with rfl | ⟨g, off, rfl, hL⟩
  · cases a0 with
    | none => exact run_convert_bytes_nil w 22 5 Tryd.underlying22 Tryd.underlying5 0 cap 9 Tryd.underlying9
    | some a =>
      obtain ⟨g, off, spot⟩ := a
      have hl : (loadCells ⟨g, off, spot⟩ 0).run Tryd.prog w = .ok (([] : List Int).map (Value.int .u8)).toArray w := by
        have := run_loadCells_list (P := Tryd.prog) w ⟨g, off, spot⟩ [] (fun j v hj => by simp at hj)
        simpa using this
      show (convert 22 9 (.slice (some ⟨g, off, spot⟩) 0 cap)).run Tryd.prog w = _
      rw [run_convert_bytes_string w 22 9 5 _ 0 cap Tryd.underlying22 Tryd.underlying5 Tryd.underlying9, run_bytesToString w _ 0 cap [] hl]
      rfl
  · exact str_lies w g off cap l hL

end Go.Proofs.YtdklfodccdmmlaaDoor
