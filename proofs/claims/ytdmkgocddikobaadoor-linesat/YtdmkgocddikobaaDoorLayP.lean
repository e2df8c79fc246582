/- Arguments that are a Spot (two numbers) or an Ask (a Spot and two numbers): what came in is those numbers. -/
import Derived.Test.YtdmkgocddikobaaDoorLay7
import Derived.OpenShut
namespace Go.Proofs.YtdmkgocddikobaaDoor
open Go.ChangeShapes Go.WideShapes Go.ChangeAt Go.RowKit

theorem one_intP {H : Type} {enc : TypeId × Value → H} {P : Program} {W : World} {spare : Nat → Bool} {m : Nat} {t : TypeId} (ht : P.underlying t = some (.int .i64)) {xs : List (DataW H × List MemPlace)} {L : List Value} {i k : Nat} (hi : i < xs.length)
    (h : DataW.trod enc P W 0 spare true m t ((L.drop k).take 1) = xs[i]?) : ∃ n : Int, L[k]? = some (.int .i64 n) := by
  rw [List.getElem?_eq_getElem hi] at h
  obtain ⟨n, hn, _⟩ := DataW.trod_int ht h
  refine ⟨n, ?_⟩
  have := congrArg (·[0]?) hn
  simpa [List.getElem?_take, List.getElem?_drop] using this
set_option maxRecDepth 100000 in
theorem spot_of_trod {H : Type} {enc : TypeId × Value → H} {W : World} {v : Value} {d0 : DataW H} {p0 : List MemPlace} {base : Nat} (hv : Value.okWide Tryd.prog W .any base 35 v)
    (h0 : DataW.Trod enc Tryd.prog W 0 (fun _ => true) true 35 v d0 p0) : ∃ x y : Int, v = .agg #[.int .i64 x, .int .i64 y] := by
  obtain ⟨cs, rfl, hs⟩ := okWide_struct Tryd.underlying35 hv
  obtain ⟨fuel, hf⟩ := h0
  obtain ⟨xs, n, _, _, _, hx, hall⟩ := DataW.trod_struct Tryd.underlying35 hf
  have hs' : cs.size = 2 := hs.trans (by kernel_rfl)
  have hx' : xs.length = 2 := hx
  have hl : cs.toList.length = 2 := by simpa using hs'
  have hc : Tryd.prog.cellsOf 3 = 1 := by kernel_rfl
  have g0 : DataW.trod enc Tryd.prog W 0 (fun _ => true) true n 3 ((cs.toList.drop 0).take (Tryd.prog.cellsOf 3)) = xs[0]? := hall 0 _ rfl
  have g1 : DataW.trod enc Tryd.prog W 0 (fun _ => true) true n 3 ((cs.toList.drop 1).take (Tryd.prog.cellsOf 3)) = xs[1]? := hall 1 _ rfl
  rw [hc] at g0 g1
  obtain ⟨x, e0⟩ := one_intP Tryd.underlying3 (by omega) g0
  obtain ⟨y, e1⟩ := one_intP Tryd.underlying3 (by omega) g1
  refine ⟨x, y, ?_⟩
  congr 1
  apply Array.ext'
  apply List.ext_getElem?
  intro i
  match i with
  | 0 => exact e0
  | 1 => exact e1
  | i + 2 => rw [List.getElem?_eq_none (by omega)]; rfl
set_option maxRecDepth 100000 in
theorem ask_of_trod {H : Type} {enc : TypeId × Value → H} {W : World} {v : Value} {d0 : DataW H} {p0 : List MemPlace} {base : Nat} (hv : Value.okWide Tryd.prog W .any base 44 v)
    (h0 : DataW.Trod enc Tryd.prog W 0 (fun _ => true) true 44 v d0 p0) : ∃ x y r m : Int, v = .agg #[.int .i64 x, .int .i64 y, .int .i64 r, .int .i64 m] := by
  obtain ⟨cs, rfl, hs⟩ := okWide_struct Tryd.underlying44 hv
  obtain ⟨fuel, hf⟩ := h0
  obtain ⟨xs, n, _, _, _, hx, hall⟩ := DataW.trod_struct Tryd.underlying44 hf
  have hs' : cs.size = 4 := hs.trans (by kernel_rfl)
  have hx' : xs.length = 3 := hx
  have hl : cs.toList.length = 4 := by simpa using hs'
  have hc : Tryd.prog.cellsOf 3 = 1 := by kernel_rfl
  have hc2 : Tryd.prog.cellsOf 35 = 2 := by kernel_rfl
  have hc3 : Tryd.prog.cellsOf 23 = 1 := by kernel_rfl
  have hc4 : Tryd.prog.cellsOf 42 = 1 := by kernel_rfl
  have g0 : DataW.trod enc Tryd.prog W 0 (fun _ => true) true n 35 ((cs.toList.drop 0).take (Tryd.prog.cellsOf 35)) = xs[0]? := hall 0 _ rfl
  have g1 : DataW.trod enc Tryd.prog W 0 (fun _ => true) true n 23 ((cs.toList.drop 2).take (Tryd.prog.cellsOf 23)) = xs[1]? := hall 1 _ rfl
  have g2 : DataW.trod enc Tryd.prog W 0 (fun _ => true) true n 42 ((cs.toList.drop 3).take (Tryd.prog.cellsOf 42)) = xs[2]? := hall 2 _ rfl
  rw [hc2, List.getElem?_eq_getElem (show 0 < xs.length by omega)] at g0
  rw [hc3] at g1
  rw [hc4] at g2
  obtain ⟨ys, k, _, _, _, hy, hall2⟩ := DataW.trod_struct Tryd.underlying35 g0
  have hy' : ys.length = 2 := hy
  have j0 : DataW.trod enc Tryd.prog W 0 (fun _ => true) true k 3 ((((cs.toList.drop 0).take 2).drop 0).take (Tryd.prog.cellsOf 3)) = ys[0]? := hall2 0 _ rfl
  have j1 : DataW.trod enc Tryd.prog W 0 (fun _ => true) true k 3 ((((cs.toList.drop 0).take 2).drop 1).take (Tryd.prog.cellsOf 3)) = ys[1]? := hall2 1 _ rfl
  rw [hc] at j0 j1
  obtain ⟨x, e0⟩ := one_intP Tryd.underlying3 (by omega) j0
  obtain ⟨y, e1⟩ := one_intP Tryd.underlying3 (by omega) j1
  obtain ⟨r, e2⟩ := one_intP Tryd.underlying23 (by omega) g1
  obtain ⟨m, e3⟩ := one_intP Tryd.underlying42 (by omega) g2
  refine ⟨x, y, r, m, ?_⟩
  congr 1
  apply Array.ext'
  apply List.ext_getElem?
  intro i
  match i with
  | 0 => rw [show cs.toList[0]? = ((cs.toList.drop 0).take 2)[0]? by simp]; exact e0
  | 1 => rw [show cs.toList[1]? = ((cs.toList.drop 0).take 2)[1]? by simp]; exact e1
  | 2 => exact e2
  | 3 => exact e3
  | i + 4 => rw [List.getElem?_eq_none (by omega)]; rfl

end Go.Proofs.YtdmkgocddikobaaDoor
