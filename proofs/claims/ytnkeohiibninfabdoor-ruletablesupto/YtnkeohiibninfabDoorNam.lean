/- The walk of StepNames: a closed sentence: the document's table. -/
import Derived.Test.YtnkeohiibninfabDoorRun
import Derived.Test.YtnkeohiibninfabDoorLst
import Derived.Test.YtnkeohiibninfabDoorOwnR
import Derived.Deep.RegionHeldLaw
import Derived.Deep.DeepCutAuto
namespace Go.Proofs.YtnkeohiibninfabDoor
open Go.ChangeShapes Go.WideShapes Go.ChangeAt Go.RowKit
attribute [local go_sem] Oper.semAt_some

/-- []byte(string) in whatever world -/
theorem run_toBytes (W : World) (l : List Int) (hl : ∀ x ∈ l, 0 ≤ x ∧ x ≤ 255) (hn : l.length ≤ 140737488351232) :
    ∃ c W', (convert 9 22 (.string (strOfNums l))).run Tryd.prog W = .ok (.slice (some ⟨W.heap.size, 0, none⟩) l.length c) W' ∧ IsB W' (some ⟨W.heap.size, 0, none⟩) c l ∧ Below W.heap.size W W' := by
  have := run_bytes_of_string (P := Tryd.prog) W 9 22 5 (strOfNums l) Tryd.underlying9 Tryd.underlying22 Tryd.underlying5
  rw [strOfNums_size] at this
  have hge := grownCap_ge W l.length 0 5
  refine ⟨_, _, this, IsB.of (fun i hi => ⟨?_, ?_⟩) hge hn, ((Below.refl W.heap.size W).drew).alloc (Nat.le_refl _) _⟩
  · rw [Nat.zero_add]
    refine (World.cell?_alloc_mark W.drew _ 5 _ i).trans ?_
    have hb := hl _ (List.getElem_mem hi)
    unfold bytesRow
    rw [Array.getElem?_append_left (by rw [Array.size_map]; show i < (strOfNums l).size; rw [strOfNums_size]; exact hi)]
    simp [strOfNums, List.getElem?_eq_getElem hi, List.getD]
    omega
  · have := hl _ (List.getElem_mem hi)
    simpa [List.getD, List.getElem?_eq_getElem hi] using this

/-- marks of loops over iterators that are over -/
def marks (ds : List Nat) : List Deferred := ds.map fun D => { target := .collected D, args := #[] }
def Coll (W : World) (B : Nat) (ds : List Nat) : Prop := ds.Nodup ∧ ∀ D ∈ ds, B ≤ D ∧ W.heap[D]? = some (.deferred (some []))
theorem Coll.grown {W W' : World} {B : Nat} {ds : List Nat} {row : Option Nat} (h : Coll W B ds) (hg : W.grownBy W' row) (hr : ∀ D ∈ ds, some D ≠ row) : Coll W' B ds :=
  ⟨h.1, fun D hD => ⟨(h.2 D hD).1, (hg.block D (heap_lt (h.2 D hD).2) (hr D hD)).trans (h.2 D hD).2⟩⟩
theorem Coll.below {W W' : World} {B : Nat} {ds : List Nat} (h : Coll W B ds) (hb : Below W.heap.size W W') : Coll W' B ds := h.grown (row := none) ⟨hb.os, hb.tape, hb.output, hb.size, fun k hk _ => hb.block k hk⟩ (fun _ _ => by simp)
theorem leaves_coll {F : Fence} {n : Nat} {P : Program} {fn : Func} {tmps : Array Value} {R : Ending → World → Prop} {B : Nat} : ∀ (ds : List Nat) (W : World), Coll W B ds → (∀ W', Below B W W' → LeavesInM F n P fn tmps R [] .returning W') → LeavesInM F n P fn tmps R (marks ds) .returning W
  | [], W, _, h => h W (Below.refl _ _)
  | D :: ds, W, hc, h => by
    have hD := hc.2 D (by simp)
    refine ⟨by simp, .inl ⟨D, _, rfl, run_takeDeferred hD.2, leaves_coll (B := B) ds _ ?_ (fun W' hb => h W' ?_)⟩⟩
    · refine ⟨(List.nodup_cons.1 hc.1).2, fun E hE => ⟨(hc.2 E (by simp [hE])).1, ?_⟩⟩
      have hne : E ≠ D := fun e => (List.nodup_cons.1 hc.1).1 (by rw [← e]; exact hE)
      rw [World.putObj_heap_other hne]
      exact (hc.2 E (by simp [hE])).2
    · exact (below_put (Below.refl B W) hD.1).trans hb

/-- the document's table: bytes, runes, how many bad steps -/
def rows : List (List Int × List Int × Nat) := [([97, 195, 169], [97, 195, 169], 0), ([195, 97], [239, 191, 189, 97], 1), ([226, 130, 172, 130], [226, 130, 172, 239, 191, 189], 1), ([226, 130], [239, 191, 189, 239, 191, 189], 2), ([239, 191, 189, 239], [239, 191, 189, 239, 191, 189], 1), ([237, 160, 128], [239, 191, 189, 239, 191, 189, 239, 191, 189], 3), ([192, 128], [239, 191, 189, 239, 191, 189], 2), ([244, 144, 128, 128], [239, 191, 189, 239, 191, 189, 239, 191, 189, 239, 191, 189], 4), ([240, 159, 152, 240, 159, 152, 128], [239, 191, 189, 239, 191, 189, 239, 191, 189, 240, 159, 152, 128], 3)]
def badOf (l : List Int) (ps : List Nat) : Nat := (ps.filter fun p => !whl (l.drop p)).length
theorem rows_ok : ∀ r ∈ rows, (∀ x ∈ r.1, 0 ≤ x ∧ x ≤ 255) ∧ r.1.length ≤ 7 ∧ (∀ x ∈ r.2.1, 0 ≤ x ∧ x ≤ 255) ∧ badOf r.1 (spots r.1 0) = r.2.2 ∧ (runesL r.1).flatMap enc = r.2.1 := by decide
theorem badOf_snoc (l : List Int) (ps : List Nat) (p : Nat) : badOf l (ps ++ [p]) = badOf l ps + (if whl (l.drop p) then 0 else 1) := by
  unfold badOf
  rw [List.filter_append, List.length_append]
  cases h : whl (l.drop p) <;> simp [h]
theorem badOf_le (l : List Int) (ps : List Nat) : badOf l ps ≤ ps.length := List.length_filter_le _ _

def cntB (l : List Int) (wz : World) (gB : Nat) (pre : List Nat) (W : World) : Prop := wz.grownBy W (some gB) ∧ Boxed W gB 3 (.int .i64 (badOf l pre : Nat))
theorem cntB_own (l : List Int) (wz : World) (gB : Nat) : OwnFrom wz.heap.size (cntB l wz gB) := fun _ W W' row ⟨h, hb⟩ hg hr => by
  refine ⟨grown_trans h hg (fun k e => Or.inr (hr k e).1), hb.kept hg (fun e => ?_)⟩
  obtain ⟨_, o, ho, hc⟩ := hr _ e.symm
  rw [show W.heap[gB]? = _ from hb] at ho
  cases ho
  cases hc

end Go.Proofs.YtnkeohiibninfabDoor
