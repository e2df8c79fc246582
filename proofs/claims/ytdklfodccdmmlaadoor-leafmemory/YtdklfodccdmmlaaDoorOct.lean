/- Contracts of Class, Need and Second of the program and of the document's answer: each answers by the plain functions and leaves the world as it was, wherever the table of classes holds what the program's text lays. -/
import Derived.Test.YtdklfodccdmmlaaDoorRows
import Derived.Test.YtdklfodccdmmlaaDoorPlain
import Derived.WalkKit
import Derived.ProofKit
import Derived.OpenShut
import Derived.WalkSpells
import Derived.Outline
namespace Go.Proofs.YtdklfodccdmmlaaDoor
open Go.ChangeShapes Go.WideShapes Go.ChangeAt Go.RowKit

/-- the table's block holds the classes -/
def Tab (w : World) : Prop := ∀ b : Int, 0 ≤ b → b < 245 → w.cell? ⟨3, b.toNat, none⟩ = some (.int .u8 (cls b))

theorem hide {p : Prop} (h : p) : Hid p := h
theorem unhide {p : Prop} (h : Hid p) : p := h
theorem ret_int {k : IntKind} {a b : Int} (h : a = b) : Ending.returned (.int k a) = .returned (.int k b) := by rw [h]
theorem ret_bool {a b : Bool} (h : a = b) : Ending.returned (.bool a) = .returned (.bool b) := by rw [h]

theorem Class_any (b : Int) (w : World) (h0 : 0 ≤ b) (h1 : b ≤ 255) (hT : Tab w) :
    Calls Tryd.prog 49 #[.int .u8 b] w fun e w' => e = .returned (.int .i64 (cls b)) ∧ w' = w := by
  have hl := cls_lo b
  have hh := cls_hi b
  by_cases h : b < 245
  · have hc := hT b h0 h
    go_enter Tryd.func49, Tryd.ntmps49
    go_wp2
    go_ret
    exact ⟨rfl, rfl⟩
  · have HC : Hid (cls b = 6) := cls_never h
    go_enter Tryd.func49, Tryd.ntmps49
    go_wp2
    go_ret
    exact ⟨ret_int HC.out.symm, rfl⟩

theorem need_ways {b n : Int} (h : (cls b == 1) = true ∧ n = 1 ∨ (cls b == 3) = true ∧ n = 2 ∨ (cls b == 4) = true ∧ n = 3 ∨ (cls b == 5) = true ∧ n = 4 ∨
    (cls b == 1) = false ∧ (cls b == 3) = false ∧ (cls b == 4) = false ∧ (cls b == 5) = false ∧ n = 0) : n = need b := by
  simp only [beq_iff_eq, beq_eq_false_iff_ne] at h
  rcases h with ⟨h, rfl⟩ | ⟨h, rfl⟩ | ⟨h, rfl⟩ | ⟨h, rfl⟩ | ⟨a, b', c, d, rfl⟩
  · exact (need_1 h).symm
  · exact (need_3 h).symm
  · exact (need_4 h).symm
  · exact (need_5 h).symm
  · exact (need_0 a b' c d).symm

theorem Need_any (b : Int) (w : World) (h0 : 0 ≤ b) (h1 : b ≤ 255) (hT : Tab w) :
    Calls Tryd.prog 42 #[.int .u8 b] w fun e w' => e = .returned (.int .i64 (need b)) ∧ w' = w := by
  go_enter Tryd.func42, Tryd.ntmps42
  go_wp2_with (go_at_call 49; refine (Class_any _ _ h0 h1 hT).mono ?_; rintro e w' ⟨rfl, rfl⟩)
  all_goals go_ret
  all_goals exact ⟨ret_int (need_ways (by simp [*])), rfl⟩

theorem sec_ways {l b : Int} {v : Bool} (h : (need l < 2 ∧ v = false) ∨ ((need l < 2 ∨ (cls b != 2) = true) ∧ v = false) ∨ (2 ≤ need l ∧ (cls b != 2) = false) ∧
    ((l == 224) = true ∧ v = decide (160 ≤ b) ∨ (l == 224) = false ∧ ((l == 237) = true ∧ v = decide (b ≤ 159) ∨ (l == 237) = false ∧ ((l == 240) = true ∧ v = decide (144 ≤ b) ∨
      (l == 240) = false ∧ ((l == 244) = true ∧ v = decide (b ≤ 143) ∨ (l == 244) = false ∧ v = true))))) : v = sec l b := by
  have hn := need_two l
  have hc := cls_tail b
  have h2 : (2 ≤ need l) = (194 ≤ l ∧ l < 245) := propext ⟨fun h => by have := (congrArg Not hn).mp (by omega); omega, fun h => by have := (congrArg Not hn).mpr (by omega); omega⟩
  simp only [beq_iff_eq, beq_eq_false_iff_ne, bne_iff_ne, bne_eq_false_iff_eq, ne_eq, hn, hc, h2] at h
  unfold sec
  rcases h with ⟨h, rfl⟩ | ⟨h, rfl⟩ | ⟨⟨h3, h4⟩, h⟩
  · symm; rw [decide_eq_false_iff_not]; omega
  · symm; rw [decide_eq_false_iff_not]; omega
  · rcases h with ⟨h, rfl⟩ | ⟨h5, ⟨h, rfl⟩ | ⟨h6, ⟨h, rfl⟩ | ⟨h7, ⟨h, rfl⟩ | ⟨h8, rfl⟩⟩⟩⟩
    all_goals first
      | (rw [decide_eq_decide]; omega)
      | (symm; rw [decide_eq_true_iff]; omega)

theorem Second_any (l b : Int) (w : World) (hl0 : 0 ≤ l) (hl1 : l ≤ 255) (h0 : 0 ≤ b) (h1 : b ≤ 255) (hT : Tab w) :
    Calls Tryd.prog 50 #[.int .u8 l, .int .u8 b] w fun e w' => e = .returned (.bool (sec l b)) ∧ w' = w := by
  go_enter Tryd.func50, Tryd.ntmps50
  go_wp2_with (first | (go_at_call 42; refine (Need_any _ _ hl0 hl1 hT).mono ?_; rintro e w' ⟨rfl, rfl⟩) | (go_at_call 49; refine (Class_any _ _ h0 h1 hT).mono ?_; rintro e w' ⟨rfl, rfl⟩))
  all_goals go_ret
  all_goals refine ⟨ret_bool (sec_ways ?_), rfl⟩
  all_goals first
    | (refine Or.inl ⟨?_, rfl⟩; assumption)
    | (refine Or.inr (Or.inl ⟨?_, rfl⟩); assumption)
    | simp [*]

end Go.Proofs.YtdklfodccdmmlaaDoor
