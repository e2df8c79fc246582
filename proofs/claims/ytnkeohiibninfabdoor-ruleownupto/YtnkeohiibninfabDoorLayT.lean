/- Arguments that are a Turn (three numbers) or two numbers: what came in is those numbers. -/
import Derived.Test.YtnkeohiibninfabDoorLay
import Derived.OpenShut
namespace Go.Proofs.YtnkeohiibninfabDoor
open Go.ChangeShapes Go.WideShapes Go.ChangeAt Go.RowKit

theorem okWide_arr {P : Program} {w : World} {r : Reach} {base : Nat} {t e : TypeId} {n : Nat} {v : Value} (ht : P.underlying t = some (.array n e)) (h : Value.okWide P w r base t v) : ∃ cs, v = .agg cs ∧ cs.size = P.cellsOf t := by
  simp only [Value.okWide, ht] at h
  obtain ⟨cs, h1, h2, _⟩ := h
  exact ⟨cs, h1, h2⟩
theorem one_int {H : Type} {enc : TypeId × Value → H} {P : Program} {W : World} {spare : Nat → Bool} {m : Nat} {t : TypeId} (ht : P.underlying t = some (.int .i64)) {xs : List (DataW H × List MemPlace)} {L : List Value} {i k : Nat} (hi : i < xs.length)
    (h : DataW.trod enc P W 0 spare true m t ((L.drop k).take 1) = xs[i]?) : ∃ n : Int, L[k]? = some (.int .i64 n) := by
  rw [List.getElem?_eq_getElem hi] at h
  obtain ⟨n, hn, _⟩ := DataW.trod_int ht h
  refine ⟨n, ?_⟩
  have := congrArg (·[0]?) hn
  simpa [List.getElem?_take, List.getElem?_drop] using this
theorem turn_of_trod {H : Type} {enc : TypeId × Value → H} {W : World} {v : Value} {d0 : DataW H} {p0 : List MemPlace} {base : Nat} (hv : Value.okWide Tryd.prog W .any base 25 v)
    (h0 : DataW.Trod enc Tryd.prog W 0 (fun _ => true) true 25 v d0 p0) : ∃ x y z : Int, v = .agg #[.int .i64 x, .int .i64 y, .int .i64 z] := by
  obtain ⟨cs, rfl, hs⟩ := okWide_struct Tryd.underlying25 hv
  obtain ⟨fuel, hf⟩ := h0
  obtain ⟨xs, n, _, _, _, hx, hall⟩ := DataW.trod_struct Tryd.underlying25 hf
  have hs' : cs.size = 3 := hs.trans (by kernel_rfl)
  have hx' : xs.length = 3 := hx
  have hl : cs.toList.length = 3 := by simpa using hs'
  have hc : Tryd.prog.cellsOf 3 = 1 := by kernel_rfl
  have g0 : DataW.trod enc Tryd.prog W 0 (fun _ => true) true n 3 ((cs.toList.drop 0).take (Tryd.prog.cellsOf 3)) = xs[0]? := hall 0 _ rfl
  have g1 : DataW.trod enc Tryd.prog W 0 (fun _ => true) true n 3 ((cs.toList.drop 1).take (Tryd.prog.cellsOf 3)) = xs[1]? := hall 1 _ rfl
  have g2 : DataW.trod enc Tryd.prog W 0 (fun _ => true) true n 3 ((cs.toList.drop 2).take (Tryd.prog.cellsOf 3)) = xs[2]? := hall 2 _ rfl
  rw [hc] at g0 g1 g2
  obtain ⟨x, e0⟩ := one_int Tryd.underlying3 (by omega) g0
  obtain ⟨y, e1⟩ := one_int Tryd.underlying3 (by omega) g1
  obtain ⟨z, e2⟩ := one_int Tryd.underlying3 (by omega) g2
  refine ⟨x, y, z, ?_⟩
  congr 1
  apply Array.ext'
  apply List.ext_getElem?
  intro i
  match i with
  | 0 => exact e0
  | 1 => exact e1
  | 2 => exact e2
  | i + 3 => rw [List.getElem?_eq_none (by omega)]; rfl
theorem span_of_trod {H : Type} {enc : TypeId × Value → H} {W : World} {v : Value} {d0 : DataW H} {p0 : List MemPlace} {base : Nat} (hv : Value.okWide Tryd.prog W .any base 23 v)
    (h0 : DataW.Trod enc Tryd.prog W 0 (fun _ => true) true 23 v d0 p0) : ∃ x y : Int, v = .agg #[.int .i64 x, .int .i64 y] := by
  obtain ⟨cs, rfl, hs⟩ := okWide_arr Tryd.underlying23 hv
  obtain ⟨fuel, hf⟩ := h0
  obtain ⟨xs, n, _, _, _, hx, hall⟩ := DataW.trod_array Tryd.underlying23 hf
  have hs' : cs.size = 2 := hs.trans (by kernel_rfl)
  have hl : cs.toList.length = 2 := by simpa using hs'
  have hc : Tryd.prog.cellsOf 3 = 1 := by kernel_rfl
  have g0 : DataW.trod enc Tryd.prog W 0 (fun _ => true) true n 3 ((cs.toList.drop (0 * Tryd.prog.cellsOf 3)).take (Tryd.prog.cellsOf 3)) = xs[0]? := hall 0 (by decide)
  have g1 : DataW.trod enc Tryd.prog W 0 (fun _ => true) true n 3 ((cs.toList.drop (1 * Tryd.prog.cellsOf 3)).take (Tryd.prog.cellsOf 3)) = xs[1]? := hall 1 (by decide)
  rw [hc] at g0 g1
  obtain ⟨x, e0⟩ := one_int Tryd.underlying3 (by omega) g0
  obtain ⟨y, e1⟩ := one_int Tryd.underlying3 (by omega) g1
  refine ⟨x, y, ?_⟩
  congr 1
  apply Array.ext'
  apply List.ext_getElem?
  intro i
  match i with
  | 0 => exact e0
  | 1 => exact e1
  | i + 2 => rw [List.getElem?_eq_none (by omega)]; rfl

end Go.Proofs.YtnkeohiibninfabDoor
