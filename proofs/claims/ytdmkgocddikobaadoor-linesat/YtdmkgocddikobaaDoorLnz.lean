/- Layer 7: rule.Size whatever is asked, bytes cut (taken from Ruv, for seats that hold no rule.Table; not beside Ruv). -/
import Derived.Test.YtdmkgocddikobaaDoorRud
import Derived.Deep.CutRange
namespace Go.Proofs.YtdmkgocddikobaaDoor
open Go.ChangeShapes Go.WideShapes Go.ChangeAt Go.RowKit

theorem IsB.takeR {w : World} {a0 : Option Addr} {cap : Nat} {l : List Int} {n : Nat} (h : IsB w a0 cap l) : IsB w a0 cap (l.take n) := by
  obtain ⟨h1, h2, h3, h4⟩ := h
  refine ⟨by simp; omega, by simp; omega, ?_, fun x hx => h4 x (List.mem_of_mem_take hx)⟩
  rcases h3 with h3 | ⟨g', off', rfl, hL⟩
  · exact Or.inl (by rw [h3]; simp)
  · exact Or.inr ⟨g', off', rfl, hL.take n⟩
theorem IsB.loR {w : World} {a : Option Addr} {cap : Nat} {l : List Int} {n : Nat} (h : IsB w a cap l) : IsB w (if cap = n then a else a.map (·.add n)) (cap - n) (l.drop n) := by
  obtain ⟨h1, h2, h3, h4⟩ := h
  refine ⟨by simp; omega, by simp; omega, ?_, fun x hx => h4 x (List.mem_of_mem_drop hx)⟩
  rcases Nat.lt_or_ge n l.length with hlt | hge
  · rcases h3 with h3 | ⟨g', off', rfl, hL⟩
    · rw [h3] at hlt; simp at hlt
    · rw [if_neg (by omega)]
      exact Or.inr ⟨g', off' + n, by simp [Addr.add_lit], hL.drop n⟩
  · exact Or.inl (by simp; omega)

def szE (r : Int) (l : List Int) : Nat := if isRu r then byE r (stE l (spots l 0)) else 0
def szR (r : Int) : Int := if isRu r then 0 else 3
set_option maxRecDepth 100000 in
theorem Size_at (a0 : Option Addr) (cap : Nat) (l : List Int) (r : Int) (w : World) (hB : IsB w a0 cap l) (hT : Tab w) :
    Calls Tryd.prog 34 #[.slice a0 l.length cap, .int .i64 r] w fun y w' => y = .returned (.tuple #[.int .i64 (szE r l : Int), .int .i64 (szR r)]) ∧ Below w.heap.size w w' := by
  unfold szE szR
  cases hr : isRu r with
  | true => exact Size_in a0 cap l r w hB hT hr
  | false =>
    have k1 := Cls.new w 23 #[.int .i64 r]
    have b1 := (Below.refl w.heap.size w).alloc (Nat.le_refl _) (.cells #[.int .i64 r] 23)
    have c1 := k1.cell 0
    simp only [List.getElem?_toArray, List.getElem?_cons_zero] at c1
    go_enter Tryd.func34, Tryd.ntmps34
    go_wp2_with fail
    refine (isRuler_at r _).mono ?_
    rintro y w1 ⟨rfl, rfl⟩
    rw [hr]
    go_wp2_with fail
    refine bodyPost_ret (results_tmp2 rfl _ _ _) rfl ?_
    exact ⟨rfl, b1⟩

theorem EE_le {l : List Int} (hl : ∀ x ∈ l, 0 ≤ x ∧ x ≤ 255) {i : Nat} (h : i < (EE l).length) : ((EE l).getD i e0).1 ≤ l.length := by
  rw [EE_len] at h
  unfold EE
  rw [edL_getD _ _ _ (by omega)]
  exact (st_at hl (List.take_prefix _ _)).1

end Go.Proofs.YtdmkgocddikobaaDoor
