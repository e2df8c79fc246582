/- Layer 5: the document's head, tail and Of. -/
import Derived.Test.YtchlnphapnafcaaDoorRw6
namespace Go.Proofs.YtchlnphapnafcaaDoor
open Go.ChangeShapes Go.WideShapes Go.ChangeAt Go.RowKit
attribute [local go_sem] Oper.semAt_some

set_option maxRecDepth 100000 in
theorem Rhead_at (l : List Int) (w : World) (hl : l.length ≤ 268435456) :
    Calls Tryd.prog 21 #[.string (strOfNums l)] w fun y w' => y = .returned (.string (strOfNums (l.take 3))) ∧ w' = w := by
  have hs := strOfNums_size l
  by_cases h : 3 ≤ l.length
  · have hex : (strOfNums l).extract 0 3 = strOfNums (l.take 3) := by rw [str_extract]; simp
    have h1 : (3 : Int) ≤ (l.length : Int) := by omega
    have hmin : min (3 : Int) (l.length : Int) = 3 := by omega
    go_enter Tryd.func21, Tryd.ntmps21
    go_wp2_with fail
    go_ret
    exact ⟨rfl, rfl⟩
  · have hex : (strOfNums l).extract 0 l.length = strOfNums (l.take 3) := by rw [str_extract]; simp; rw [List.take_of_length_le (by omega)]
    have h1 : ¬ (3 : Int) ≤ (l.length : Int) := by omega
    have hmin : min (3 : Int) (l.length : Int) = (l.length : Int) := by omega
    have hwn : IntKind.i64.wrap (l.length : Int) = (l.length : Int) := by rw [IntKind.wrap_i64]; omega
    go_enter Tryd.func21, Tryd.ntmps21
    go_wp2_with fail
    go_ret
    exact ⟨rfl, rfl⟩
set_option maxRecDepth 100000 in
theorem Rtail_at (l : List Int) (w : World) (hl : l.length ≤ 268435456) :
    Calls Tryd.prog 22 #[.string (strOfNums l)] w fun y w' => y = .returned (.string (strOfNums (tail3 l))) ∧ w' = w := by
  have hs := strOfNums_size l
  unfold tail3
  by_cases h : 3 ≤ l.length
  · obtain ⟨q, hq⟩ : ∃ q, q = l.length - 3 := ⟨_, rfl⟩
    have hex : (strOfNums l).extract q l.length = strOfNums (l.drop q) := by rw [str_extract, List.take_of_length_le (by simp)]
    have hqi : (l.length : Int) - 3 = (q : Int) := by omega
    have h1 : (0 : Int) ≤ (q : Int) := by omega
    have hmax : max (0 : Int) (q : Int) = (q : Int) := by omega
    have hle : (q : Int) ≤ (l.length : Int) := by omega
    have hwq : IntKind.i64.wrap (q : Int) = (q : Int) := by rw [IntKind.wrap_i64]; omega
    rw [← hq]
    clear hq
    go_enter Tryd.func22, Tryd.ntmps22
    go_wp2_with fail
    go_ret
    exact ⟨rfl, rfl⟩
  · have hex : (strOfNums l).extract 0 l.length = strOfNums (l.drop (l.length - 3)) := by rw [str_extract, show l.length - 3 = 0 by omega]; simp
    have h1 : max (0 : Int) ((l.length : Int) - 3) = 0 := by omega
    have h2 : (l.length : Int) - 3 ≤ 0 := by omega
    have h3 : ¬ (0 : Int) ≤ (l.length : Int) - 3 := by omega
    go_enter Tryd.func22, Tryd.ntmps22
    go_wp2_with fail
    go_ret
    exact ⟨rfl, rfl⟩

end Go.Proofs.YtchlnphapnafcaaDoor
