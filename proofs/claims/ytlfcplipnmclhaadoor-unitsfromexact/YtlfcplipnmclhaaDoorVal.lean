/- Contracts of leadBits and Value of the program over a []byte that lies in memory: each answers by the plain functions; Value only draws. -/
import Derived.Test.YtlfcplipnmclhaaDoorSli
namespace Go.Proofs.YtlfcplipnmclhaaDoor
open Go.ChangeShapes Go.WideShapes Go.ChangeAt Go.RowKit

theorem lead_ways {a v : Int} (h : (need a == 2) = true ∧ v = a % 32 ∨ (need a == 2) = false ∧ ((need a == 3) = true ∧ v = a % 16 ∨ (need a == 3) = false ∧ ((need a == 4) = true ∧ v = a % 8 ∨ (need a == 4) = false ∧ v = a))) : v = lead a := by
  simp only [beq_iff_eq, beq_eq_false_iff_ne] at h
  rcases h with ⟨h, rfl⟩ | ⟨h2, ⟨h, rfl⟩ | ⟨h3, ⟨h, rfl⟩ | ⟨h4, rfl⟩⟩⟩
  · exact (lead_2 h).symm
  · exact (lead_3 h).symm
  · exact (lead_4 h).symm
  · exact (lead_1 h2 h3 h4).symm

theorem whole_need {a : Int} {r : List Int} (h : whole (a :: r) = true) : (r.length : Int) + 1 = need a := by
  by_cases hn : (r.length : Int) + 1 = need a
  · exact hn
  · rw [whole_len hn] at h; cases h

theorem value_no {l : List Int} (h : whole l = false) : value l = -1 := by
  cases l with
  | nil => rfl
  | cons a r => simp [value, h]
theorem value_yes {a : Int} {r : List Int} (h : whole (a :: r) = true) : value (a :: r) = fold (lead a) r := by simp [value, h]

end Go.Proofs.YtlfcplipnmclhaaDoor
