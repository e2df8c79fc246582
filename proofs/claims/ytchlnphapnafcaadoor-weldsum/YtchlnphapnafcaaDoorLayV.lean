/- Arguments that are a Weld: what came in is four numbers and two strings of bytes. -/
import Derived.Test.YtchlnphapnafcaaDoorLay
import Derived.Test.YtchlnphapnafcaaDoorWvb
import Derived.OpenShut
namespace Go.Proofs.YtchlnphapnafcaaDoor
open Go.ChangeShapes Go.WideShapes Go.ChangeAt Go.RowKit

theorem one_intV {H : Type} {enc : TypeId × Value → H} {P : Program} {W : World} {spare : Nat → Bool} {m : Nat} {t : TypeId} (ht : P.underlying t = some (.int .i64)) {xs : List (DataW H × List MemPlace)} {L : List Value} {i k : Nat} (hi : i < xs.length)
    (h : DataW.trod enc P W 0 spare true m t ((L.drop k).take 1) = xs[i]?) : ∃ n : Int, L[k]? = some (.int .i64 n) := by
  rw [List.getElem?_eq_getElem hi] at h
  obtain ⟨n, hn, _⟩ := DataW.trod_int ht h
  refine ⟨n, ?_⟩
  have := congrArg (·[0]?) hn
  simpa [List.getElem?_take, List.getElem?_drop] using this
theorem one_strV {H : Type} {enc : TypeId × Value → H} {P : Program} {W : World} {spare : Nat → Bool} {m : Nat} {t : TypeId} (ht : P.underlying t = some .string) {xs : List (DataW H × List MemPlace)} {L : List Value} {i k : Nat} (hi : i < xs.length)
    (h : DataW.trod enc P W 0 spare true m t ((L.drop k).take 1) = xs[i]?) : ∃ s : ByteArray, L[k]? = some (.string s) := by
  rw [List.getElem?_eq_getElem hi] at h
  obtain ⟨n, hn, _⟩ := DataW.trod_string ht h
  refine ⟨n, ?_⟩
  have := congrArg (·[0]?) hn
  simpa [List.getElem?_take, List.getElem?_drop] using this
/-- a string's bytes as numbers -/
def numsOf (s : ByteArray) : List Int := s.data.toList.map fun u => (u.toNat : Int)
theorem nums_in (s : ByteArray) : ∀ x ∈ numsOf s, 0 ≤ x ∧ x ≤ 255 := by
  intro x hx
  obtain ⟨u, _, rfl⟩ := List.mem_map.1 hx
  have := u.toNat_lt
  omega
theorem str_nums (s : ByteArray) : strOfNums (numsOf s) = s := by
  unfold strOfNums numsOf
  apply ByteArray.ext
  have e : ((fun n : Int => UInt8.ofNat n.toNat) ∘ fun u : UInt8 => (u.toNat : Int)) = id := by
    funext u
    simp
  rw [List.map_map, e, List.map_id]
set_option maxRecDepth 100000 in
theorem weld_of_trod {H : Type} {enc : TypeId × Value → H} {W : World} {v : Value} {d0 : DataW H} {p0 : List MemPlace} {base : Nat} (hv : Value.okWide Tryd.prog W .any base 25 v)
    (h0 : DataW.Trod enc Tryd.prog W 0 (fun _ => true) true 25 v d0 p0) : ∃ x : We, v = weV x ∧ Byw x := by
  obtain ⟨cs, rfl, hs⟩ := okWide_struct Tryd.underlying25 hv
  obtain ⟨fuel, hf⟩ := h0
  obtain ⟨xs, n, _, _, _, hx, hall⟩ := DataW.trod_struct Tryd.underlying25 hf
  have hs' : cs.size = 6 := hs.trans (by kernel_rfl)
  have hx' : xs.length = 3 := hx
  have hl : cs.toList.length = 6 := by simpa using hs'
  have hc : Tryd.prog.cellsOf 3 = 1 := by kernel_rfl
  have hc2 : Tryd.prog.cellsOf 23 = 4 := by kernel_rfl
  have hc3 : Tryd.prog.cellsOf 9 = 1 := by kernel_rfl
  have g0 : DataW.trod enc Tryd.prog W 0 (fun _ => true) true n 23 ((cs.toList.drop 0).take (Tryd.prog.cellsOf 23)) = xs[0]? := hall 0 _ rfl
  have g1 : DataW.trod enc Tryd.prog W 0 (fun _ => true) true n 9 ((cs.toList.drop 4).take (Tryd.prog.cellsOf 9)) = xs[1]? := hall 1 _ rfl
  have g2 : DataW.trod enc Tryd.prog W 0 (fun _ => true) true n 9 ((cs.toList.drop 5).take (Tryd.prog.cellsOf 9)) = xs[2]? := hall 2 _ rfl
  rw [hc2, List.getElem?_eq_getElem (show 0 < xs.length by omega)] at g0
  rw [hc3] at g1 g2
  obtain ⟨ys, k, _, _, _, hy, hall2⟩ := DataW.trod_struct Tryd.underlying23 g0
  have hy' : ys.length = 4 := hy
  have j0 : DataW.trod enc Tryd.prog W 0 (fun _ => true) true k 3 ((((cs.toList.drop 0).take 4).drop 0).take (Tryd.prog.cellsOf 3)) = ys[0]? := hall2 0 _ rfl
  have j1 : DataW.trod enc Tryd.prog W 0 (fun _ => true) true k 3 ((((cs.toList.drop 0).take 4).drop 1).take (Tryd.prog.cellsOf 3)) = ys[1]? := hall2 1 _ rfl
  have j2 : DataW.trod enc Tryd.prog W 0 (fun _ => true) true k 3 ((((cs.toList.drop 0).take 4).drop 2).take (Tryd.prog.cellsOf 3)) = ys[2]? := hall2 2 _ rfl
  have j3 : DataW.trod enc Tryd.prog W 0 (fun _ => true) true k 3 ((((cs.toList.drop 0).take 4).drop 3).take (Tryd.prog.cellsOf 3)) = ys[3]? := hall2 3 _ rfl
  rw [hc] at j0 j1 j2 j3
  obtain ⟨b, e0⟩ := one_intV Tryd.underlying3 (by omega) j0
  obtain ⟨r, e1⟩ := one_intV Tryd.underlying3 (by omega) j1
  obtain ⟨u, e2⟩ := one_intV Tryd.underlying3 (by omega) j2
  obtain ⟨e, e3⟩ := one_intV Tryd.underlying3 (by omega) j3
  obtain ⟨s, e4⟩ := one_strV Tryd.underlying9 (by omega) g1
  obtain ⟨t, e5⟩ := one_strV Tryd.underlying9 (by omega) g2
  refine ⟨⟨⟨b, r, u, e⟩, numsOf s, numsOf t⟩, ?_, nums_in s, nums_in t⟩
  unfold weV
  dsimp only
  rw [str_nums, str_nums]
  congr 1
  apply Array.ext'
  apply List.ext_getElem?
  intro i
  match i with
  | 0 => rw [show cs.toList[0]? = ((cs.toList.drop 0).take 4)[0]? by simp]; exact e0
  | 1 => rw [show cs.toList[1]? = ((cs.toList.drop 0).take 4)[1]? by simp]; exact e1
  | 2 => rw [show cs.toList[2]? = ((cs.toList.drop 0).take 4)[2]? by simp]; exact e2
  | 3 => rw [show cs.toList[3]? = ((cs.toList.drop 0).take 4)[3]? by simp]; exact e3
  | 4 => exact e4
  | 5 => exact e5
  | i + 6 => rw [List.getElem?_eq_none (by omega)]; rfl
end Go.Proofs.YtchlnphapnafcaaDoor
