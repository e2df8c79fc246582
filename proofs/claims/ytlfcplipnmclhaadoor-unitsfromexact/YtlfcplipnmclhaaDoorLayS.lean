/- A []uint16 that came in, whatever its length: its units, and how many there can be. -/
import Derived.Test.YtlfcplipnmclhaaDoorLayU
namespace Go.Proofs.YtlfcplipnmclhaaDoor
open Go.ChangeShapes Go.WideShapes Go.ChangeAt Go.RowKit

theorem unitsS_of_trod {H : Type} {enc : TypeId × Value → H} {W : World} {a0 : Option Addr} {len0 cap0 : Nat} {d0 : DataW H} {p0 : List MemPlace}
    (h0 : DataW.Trod enc Tryd.prog W 0 (fun _ => true) true 31 (Value.slice a0 len0 cap0) d0 p0)
    {ts : List TypeId} {ds : List (DataW H)} {j : Nat} (hsz : (DataW.weightsEach Tryd.prog ts ds).all (· ≤ reachBytes) = true) (ht : ts[j]? = some 31) (hd : ds[j]? = some d0) :
    ∃ l : List Int, len0 = l.length ∧ IsU W a0 cap0 l ∧ l.length ≤ 70368744175616 := by
  obtain ⟨l, e, hU⟩ := units_of_trod h0
  refine ⟨l, e, hU, ?_⟩
  subst e
  obtain ⟨fuel, hf⟩ := h0
  rcases open_ints Tryd.underlying31 Tryd.underlying22 (by kernel_rfl) hf with ⟨hcs, _⟩ | ⟨x, l', c, zs, hcs, _, hl, hm, hz, hx, hcell, hwz⟩
  · simp [Value.cells] at hcs
    obtain ⟨_, rfl, _⟩ := hcs
    simp
  · simp [Value.cells] at hcs
    obtain ⟨rfl, rfl, rfl⟩ := hcs
    simp only [Prod.mk.injEq] at hx
    obtain ⟨rfl, _⟩ := hx
    have hz' : zs.length = cap0 := by simpa using hz
    have hs := sized_slice hsz ht hd Tryd.underlying31
    rw [show Tryd.prog.bytesOf 22 = 2 by kernel_rfl] at hs
    have hr : reachBytes = 140737488351232 := rfl
    simp [lits] at hs
    have := hU.1
    omega

end Go.Proofs.YtlfcplipnmclhaaDoor
