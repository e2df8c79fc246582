/- The walk of StepTiles, for arguments under the bound: it answers true wherever the table holds the classes, and changes nothing that was there. -/
import Derived.Test.YtbkageelholpeaaDoorLst
import Derived.Deep.DeepCutAuto
import Derived.Deep.Light
namespace Go.Proofs.YtbkageelholpeaaDoor
open Go.ChangeShapes Go.WideShapes Go.ChangeAt Go.RowKit

/-- what stays while the lists are gone over -/
structure TW (w : World) (a0 : Option Addr) (cap : Nat) (l : List Int) (a1 a2 : Option Addr) (wx : World) : Prop where
  isB : IsB wx a0 cap l
  tab : Tab wx
  pi : IntsAt wx a1 (spots l 0)
  si : StepsAt wx l a2 (spots l 0)
  below : Below w.heap.size w wx
theorem TW.on {w : World} {a0 : Option Addr} {cap : Nat} {l : List Int} {a1 a2 : Option Addr} {wx wy : World} (h : TW w a0 cap l a1 a2 wx) (hb : Below wx.heap.size wx wy) : TW w a0 cap l a1 a2 wy :=
  ⟨h.isB.below hb (Nat.le_refl _), h.tab.below hb h.tab.size, h.pi.below hb (Nat.le_refl _), h.si.below hb (Nat.le_refl _), h.below.trans (hb.mono h.below.size)⟩

theorem gone_all (a0 : Option Addr) (cap : Nat) (l : List Int) (w : World) (hB : IsB w a0 cap l) (hT : Tab w) (hl : l.length ≤ 1048576) :
    Calls Tryd.prog 11 #[.func (.func 15) #[] #[.pointer (some ⟨w.heap.size, 0, none⟩)]] (w.alloc (.cells #[.string (strOfNums l)] 9)) fun e w' =>
      ∃ a1 c1 a2 c2, e = .returned (.tuple #[.slice a1 (spots l 0).length c1, .slice a2 (spots l 0).length c2]) ∧ (spots l 0).length ≤ c1 ∧ (spots l 0).length ≤ c2 ∧ IntsAt w' a1 (spots l 0) ∧ StepsAt w' l a2 (spots l 0) ∧ Below (w.heap.size + 1) (w.alloc (.cells #[.string (strOfNums l)] 9)) w' := by
  have hc : (w.alloc (.cells #[.string (strOfNums l)] 9)).cell? ⟨w.heap.size, 0, none⟩ = some (.string (strOfNums l)) := (World.cell?_alloc_mark w _ _ (0, 0) 0).trans rfl
  have hs : (w.alloc (.cells #[.string (strOfNums l)] 9)).heap.size = w.heap.size + 1 := by simp
  have := spots_le l
  have hst := all_stops w.heap.size (w.heap.size + 1) l (w.alloc (.cells #[.string (strOfNums l)] 9)) hc (by omega) (by omega) (hT.alloc _) (by omega) (by unfold maxLen; omega) hB.2.2.2
  rw [← hs] at hst
  refine (gone_at 15 _ l (spots l 0) _ (enters_of Tryd.func15 (by kernel_rfl) rfl) hst (by omega)).mono ?_
  rintro e w' ⟨vp, vs, rfl, hp, hv, hb⟩
  obtain ⟨a1, c1, rfl, h1, h2⟩ := ints_at hp
  obtain ⟨a2, c2, rfl, h3, h4⟩ := steps_at hv
  exact ⟨a1, c1, a2, c2, rfl, h1, h3, h2, h4, by rw [← hs]; exact hb⟩

theorem Floor_is (a0 : Option Addr) (cap : Nat) (p : Int) (l : List Int) {v : Value} (w : World) (hB : IsB w a0 cap l) (hT : Tab w) (hv : floorV l p = v) :
    Calls Tryd.prog 9 #[.slice a0 l.length cap, .int .i64 p] w fun e w' => e = .returned v ∧ Below w.heap.size w w' := by
  subst hv; exact Floor_at a0 cap p l w hB hT
theorem Edge_is (a0 : Option Addr) (cap : Nat) (p : Int) (l : List Int) {v : Bool} (w : World) (hB : IsB w a0 cap l) (hT : Tab w) (hv : edgeB l p = v) :
    Calls Tryd.prog 14 #[.slice a0 l.length cap, .int .i64 p] w fun e w' => e = .returned (.bool v) ∧ Below w.heap.size w w' := by
  subst hv; exact Edge_at a0 cap p l w hB hT
theorem At_is (a0 : Option Addr) (cap : Nat) (p : Int) (l : List Int) {v : Value} (w : World) (hB : IsB w a0 cap l) (hT : Tab w) (hv : atV l p = v) :
    Calls Tryd.prog 13 #[.slice a0 l.length cap, .int .i64 p] w fun e w' => e = .returned v ∧ Below w.heap.size w w' := by
  subst hv; exact At_at a0 cap p l w hB hT
theorem step_ways {l : List Int} {p : Nat} (hp : p < l.length) : 1 ≤ wid (l.drop p) ∧ wid (l.drop p) ≤ 4 ∧ (whl (l.drop p) = true ∨ whl (l.drop p) = false ∧ (first (l.drop p)).1 = 65533 ∧ wid (l.drop p) = 1) := by
  refine ⟨wid_pos hp, wid_four _, ?_⟩
  by_cases h : lng (l.drop p) = 0
  · right
    have := stp_bad' h
    simp only [stp, stepV, Value.agg.injEq, Array.mk.injEq, List.cons.injEq, Value.int.injEq, Value.bool.injEq, true_and, and_true] at this
    exact ⟨this.2.2, this.1, by omega⟩
  · left; simp [whl, h]

end Go.Proofs.YtbkageelholpeaaDoor
