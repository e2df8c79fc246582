/- Contracts of step.All and of the iterator that it answers: the steps with their places, from the first on, for every loop body that keeps what lay below. -/
import Derived.Test.YtkdnanlgkedjgabDoorDn09
import Derived.RangeFuncNested
import Derived.RangeFuncBound
import Derived.RangeFuncCalls
import Derived.RangeFuncLeaves
import Derived.Shelf.Abstract
import Derived.Shelf.RegionOpen
import Derived.WalkKit
import Derived.OwnWalkIn
import Derived.TacticsInMore
import Derived.LoopNIn
import Derived.LoopIn

namespace Go.Proofs.YtkdnanlgkedjgabDoor
open Go.ChangeShapes Go.WideShapes Go.ChangeAt Go.RowKit
attribute [local go_sem] Oper.semAt_some

/-- what a round that goes on keeps: what lay below n₀, and what is ranged over -/
def Kp (n₀ : Nat) (A B : World) : Prop := Below n₀ A B ∧ KeepsWalks A B
theorem kp_t {n₀ : Nat} {A B C : World} (h : Kp n₀ A B) (k : Kp n₀ B C) : Kp n₀ A C := ⟨h.1.trans k.1, h.2.trans k.2⟩
theorem kp_b {n₀ : Nat} {w : World} (hn : n₀ ≤ w.heap.size) (W : World) (l : Nat) (_o o' : Obj) (hl : w.heap.size ≤ l) (h : W.heap[l]? = some _o) (hc : _o.isCells = false) (hw : _o.isWalk = false) : Kp n₀ W (W.putObj l o') :=
  ⟨belowK_b hn W l _ o' hl h hc hw, walksK_b (w := w) W l _ o' hl h hc hw⟩
theorem grown_below {W W' : World} (row : Option Nat) (h : Below W.heap.size W W') : W.grownBy W' row := ⟨h.os, h.tape, h.output, h.size, fun k hk _ => h.block k hk⟩
theorem walks_below {W W' : World} (h : Below W.heap.size W W') : KeepsWalks W W' := ⟨h.size, fun k _ hk _ => (h.block k (heap_lt hk)).trans hk⟩

/-- what is yielded at a place -/
def encS (l : List Int) (p : Nat) : Array Value := #[.int .i64 p, .agg #[.int .i32 (first (l.drop p)).1, .int .i64 (wid (l.drop p)), .bool (whl (l.drop p))]]

theorem All_at (a0 : Option Addr) (cap : Nat) (l : List Int) (w : World) (hB : IsB w a0 cap l) :
    Calls Tryd.prog 41 #[.slice a0 l.length cap] w fun e w' => e = .returned (.func (.func 57) #[] #[.pointer (some ⟨w.heap.size, 0, none⟩)]) ∧ w' = w.alloc (.cells #[.string (strOfNums l)] 9) := by
  have kb := str_bs w a0 cap l hB.2.2.1
  go_enter Tryd.func41, Tryd.ntmps41
  go_wp2
  go_ret
  exact ⟨rfl, rfl⟩

set_option maxRecDepth 100000 in
set_option maxHeartbeats 1000000 in
theorem all1_in (lo Bn n₀ : Nat) (l : List Int) (J Jx : List Nat → World → Prop) (W : World) (hJ : AbidesFrom W.heap.size J)
    (hY : ∀ pre x W1, J pre W1 → pre.length < (spots l 0).length → YieldAt Fence.wide (2 - 1) Tryd.prog lo (encS l x) W1 fun e W' =>
      (e = .returned (.bool true) ∧ J (pre ++ [x]) W' ∧ Kp n₀ W1 W') ∨ (e = .returned (.bool false) ∧ Jx (pre ++ [x]) W'))
    (hBn : W.cell? ⟨Bn, 0, none⟩ = some (.string (strOfNums l))) (hBl : Bn < n₀) (hn : n₀ ≤ W.heap.size) (h0n : 0 < n₀) (hT : Tab W) (hl : l.length ≤ maxLen) (hb : ∀ x ∈ l, 0 ≤ x ∧ x ≤ 255) (h0 : J [] W) :
    CallsIn Fence.wide 2 Tryd.prog 57 #[.func (.yield lo) #[] #[], .pointer (some ⟨Bn, 0, none⟩)] W fun e W' => (∃ v, e = .returned v) ∧
      ((∃ ys, ys = spots l 0 ∧ J ys W') ∨ (∃ pre, pre <+: spots l 0 ∧ Jx pre W')) := by
  have hsz : (strOfNums l).size = l.length := strOfNums_size l
  have HLB := hide hb
  have hl' := hl
  unfold maxLen at hl'
  clear hb
  refine callsIn_of_wp Tryd.func57 rfl trivial ?_ rfl
  simp only [Tryd.ntmps57, List.size_toArray, List.length_cons, List.length_nil, Nat.reduceAdd, Nat.reduceSub, Array.replicate_succ, Array.replicate_zero, List.push_toArray, List.append_toArray, List.nil_append, List.cons_append]
  gi_wp2
  gi_loopw [3, 4] (fun _ _ wr => ∃ (pos : Nat) (pre : List Nat), wr.heap[W.heap.size]? = some (.stringIter (strOfNums l) pos) ∧ pos ≤ l.length ∧ spots l 0 = pre ++ spots l pos ∧ J pre wr ∧ Below n₀ W wr) (fun _ _ wr => (strOfNums l).size - wr.iterPos W.heap.size)
  case atStart => exact ⟨0, [], World.iter_heap W _ 0, Nat.zero_le _, rfl, hJ [] W _ none h0 (World.grownBy_alloc W _ none) (fun r e => by cases e), (Below.refl _ W).alloc hn _⟩
  case round =>
    obtain ⟨pos, pre, hk, hpl, hsp, hJs, hbw⟩ := hrel
    have HSP := hide hsp
    clear hsp
    by_cases hp : pos < l.length
    · have hps : pos < (strOfNums l).size := by rw [hsz]; exact hp
      have hnx : ∀ ty, (Instr.next (.pointer (some ⟨W.heap.size, 0, none⟩)) true ty).run Tryd.prog wr = _ := fun ty => next_in wr W.heap.size (strOfNums l) pos ty hk hps
      obtain ⟨e1, e2⟩ := decode_stp (unhide HLB) hp
      rw [e1, e2] at hnx
      have hx := str_extract l pos l.length
      rw [List.take_of_length_le (by simp)] at hx
      have hlt := heap_lt hk
      have hb1 := below_put (o := .stringIter (strOfNums l) (pos + wid (l.drop pos))) hbw hn
      have hJ1 := hJ pre wr _ (some W.heap.size) hJs (grownBy_putObj' wr W.heap.size (.stringIter (strOfNums l) (pos + wid (l.drop pos)))) (fun r e => by cases e; exact ⟨Nat.le_refl _, _, hk, rfl⟩)
      have hk1 : (wr.putObj W.heap.size (.stringIter (strOfNums l) (pos + wid (l.drop pos)))).heap[W.heap.size]? = some (.stringIter (strOfNums l) (pos + wid (l.drop pos))) := World.putObj_heap_same hlt
      have hip := pos_in hk
      have HSC := hide (spots_cons hp)
      have hwl := wid_len hp
      have hwp := wid_pos hp
      have hc1 : (wr.putObj W.heap.size (.stringIter (strOfNums l) (pos + wid (l.drop pos)))).cell? ⟨Bn, 0, none⟩ = some (.string (strOfNums l)) := (hb1.cell (p := ⟨Bn, 0, none⟩) hBl).trans hBn
      have hT1 := hT.below hb1 h0n
      have HK1 := hide hk1
      have HNX := hide hnx
      clear e1 e2 hk1 hnx hk hJs hbw
      generalize hw1 : wr.putObj W.heap.size (.stringIter (strOfNums l) (pos + wid (l.drop pos))) = w1 at *
      have hnx := unhide HNX
      gi_wp2_with fail
      refine ⟨trivial, ?_⟩
      refine (callsIn_wide.2 (told_at (l.drop pos) w1 (by simp; omega) (fun x hx => unhide HLB x (List.mem_of_mem_drop hx)) (by simp; omega) hT1)).mono ?_
      unfold stp stepV
      rintro e w2 ⟨rfl, hb2⟩
      have hJ2 := hJ pre w1 w2 none hJ1 (grown_below none hb2) (fun r e => by cases e)
      have s1 := hb1.size
      have hbb := hb1.trans (hb2.mono (by omega))
      have hk2 := (hb2.block W.heap.size (heap_lt (unhide HK1))).trans (unhide HK1)
      obtain ⟨fn, tmps, assign, body, hy, hR⟩ := hY pre pos w2 hJ2 (by rw [unhide HSP, unhide HSC]; simp)
      unfold encS at hy
      clear hc1 hT1 hJ1 hnx HNX HK1 hb1 hb2 hw1
      gi_wp2_with fail
      refine hR.mono ?_
      rintro e w3 (⟨rfl, hJ3, hk3⟩ | ⟨rfl, hJx3⟩)
      · have hk4 := hk3.2.same _ _ hk2 rfl
        gi_wp2
        go_roundw
        case rel => exact ⟨pos + wid (l.drop pos), pre ++ [pos], hk4, hwl, by rw [unhide HSP, unhide HSC]; simp, hJ3, hbb.trans hk3.1⟩
        case measure => rw [pos_in hk4, hip]; omega
      · gi_wp2
        refine bodyPost_ret (results_none rfl _ _ _) rfl ?_
        exact ⟨⟨_, rfl⟩, .inr ⟨pre ++ [pos], ⟨spots l (pos + wid (l.drop pos)), by rw [unhide HSP, unhide HSC]; simp⟩, hJx3⟩⟩
    · have hps : ¬ pos < (strOfNums l).size := by rw [hsz]; exact hp
      have hnx : ∀ ty, (Instr.next (.pointer (some ⟨W.heap.size, 0, none⟩)) true ty).run Tryd.prog wr = _ := fun ty => next_out wr W.heap.size (strOfNums l) pos ty hk hps
      have HE : Hid (pre = spots l 0) := hide (by rw [unhide HSP, spots_end hp]; simp)
      gi_wp2
      go_end0
      exact ⟨⟨_, rfl⟩, .inl ⟨pre, unhide HE, hJs⟩⟩

theorem all_stops (Bn n₀ : Nat) (l : List Int) (w : World) (hBn : w.cell? ⟨Bn, 0, none⟩ = some (.string (strOfNums l))) (hBl : Bn < n₀) (hn : n₀ ≤ w.heap.size) (hT : Tab w) (h0n : 0 < n₀) (hl : l.length ≤ maxLen) (hb : ∀ x ∈ l, 0 ≤ x ∧ x ≤ 255) :
    SeqStopsK Fence.wide 2 Tryd.prog 57 #[.pointer (some ⟨Bn, 0, none⟩)] (encS l) (Kp n₀) (fun ys => ys = spots l 0) (fun pre => pre <+: spots l 0) (spots l 0).length w := fun lo J Jx W hW hJ _ hY h0 =>
  all1_in lo Bn n₀ l J Jx W hJ hY ((hW.cell (p := ⟨Bn, 0, none⟩) (Nat.lt_of_lt_of_le hBl hn)).trans hBn) hBl (Nat.le_trans hn hW.size) h0n (hT.below hW hT.size) hl hb h0

end Go.Proofs.YtkdnanlgkedjgabDoor
