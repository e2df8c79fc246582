/- step.All's iterator once more, in the words of the loop over iterators that keep cells: it yields the steps in their order. -/
import Derived.Test.YtdmkgocddikobaaDoorRgb
namespace Go.Proofs.YtdmkgocddikobaaDoor
open Go.ChangeShapes Go.WideShapes Go.ChangeAt Go.RowKit
attribute [local go_sem] Oper.semAt_some

theorem cell_lt {W : World} {g o : Nat} {v : Value} (h : W.cell? ⟨g, o, none⟩ = some v) : g < W.heap.size := by
  rcases Nat.lt_or_ge g W.heap.size with h1 | h1
  · exact h1
  · simp [World.cell?, Array.getElem?_eq_none h1] at h
theorem kb_cell {q : Nat → Prop} {N g o : Nat} {A B : World} (h : KB q N A B) (hg : q g ∨ N ≤ g) {v : Value} (hc : A.cell? ⟨g, o, none⟩ = some v) : B.cell? ⟨g, o, none⟩ = some v :=
  (World.cell?_of_block (a := ⟨g, o, none⟩) (h.2 g hg (cell_lt hc))).trans hc
theorem kb_tab {q : Nat → Prop} {N : Nat} {A B : World} (h : KB q N A B) (hg : q 0) (hT : Tab A) : Tab B := fun i h1 h2 => kb_cell h (Or.inl hg) (hT i h1 h2)
theorem KB.of_below {q : Nat → Prop} {N M : Nat} {A B : World} (h : Below M A B) (hq : ∀ k, (q k ∨ N ≤ k) → k < A.heap.size → k < M) : KB q N A B := ⟨h.size, fun k hk hl => h.block k (hq k hk hl)⟩

set_option maxRecDepth 100000 in
set_option maxHeartbeats 1000000 in
theorem all1_B (Bn : Nat) (l : List Int) (w : World) (hBw : w.cell? ⟨Bn, 0, none⟩ = some (.string (strOfNums l))) (hTw : Tab w) (hl : l.length ≤ maxLen) (hb : ∀ x ∈ l, 0 ≤ x ∧ x ≤ 255) :
    SeqB Tryd.prog 63 #[.pointer (some ⟨Bn, 0, none⟩)] (encS l) (fun k => k = 0 ∨ k = Bn) (spots l 0) w := by
  intro lo J Jx W hW hJ hJx hY h0 m
  have hBn : W.cell? ⟨Bn, 0, none⟩ = some (.string (strOfNums l)) := (hW.cell (p := ⟨Bn, 0, none⟩) (cell_lt hBw)).trans hBw
  have hT := hTw.below hW hTw.size
  clear hW hBw hTw
  refine callsIn_wide.2 ((callsIn_wide (n := 2)).1 ?_)
  have hBq := cell_lt hBn
  have h0q := hT.size
  have hsz : (strOfNums l).size = l.length := strOfNums_size l
  have HLB := hide hb
  have hl' := hl
  unfold maxLen at hl'
  clear hb
  refine callsIn_of_wp Tryd.func63 rfl trivial ?_ rfl
  simp only [Tryd.ntmps63, List.size_toArray, List.length_cons, List.length_nil, Nat.reduceAdd, Nat.reduceSub, Array.replicate_succ, Array.replicate_zero, List.push_toArray, List.append_toArray, List.nil_append, List.cons_append]
  gi_wp2
  gi_loopw [3, 4] (fun _ _ wr => ∃ (pos : Nat) (pre : List Nat), wr.heap[W.heap.size]? = some (.stringIter (strOfNums l) pos) ∧ pos ≤ l.length ∧ spots l 0 = pre ++ spots l pos ∧ J pre wr ∧ KB (fun k => k = 0 ∨ k = Bn) W.heap.size W wr) (fun _ _ wr => (strOfNums l).size - wr.iterPos W.heap.size)
  case atStart => exact ⟨0, [], World.iter_heap W _ 0, Nat.zero_le _, rfl, hJ [] W _ h0 ((Below.refl _ W).alloc (Nat.le_refl _) _), KB.alloc _ _ _ _⟩
  case round =>
    obtain ⟨pos, pre, hk, hpl, hsp, hJs, hbw⟩ := hrel
    have HSP := hide hsp
    clear hsp
    by_cases hp : pos < l.length
    · have hps : pos < (strOfNums l).size := by rw [hsz]; exact hp
      have hnx : ∀ ty, (Instr.next (.pointer (some ⟨W.heap.size, 0, none⟩)) true ty).run Tryd.prog wr = _ := fun ty => next_in wr W.heap.size (strOfNums l) pos ty hk hps
      obtain ⟨e1, e2⟩ := decode_stp (unhide HLB) hp
      rw [e1, e2] at hnx
      have hx := str_extract l pos l.length
      rw [List.take_of_length_le (by simp)] at hx
      have hlt := heap_lt hk
      have hbp := below_putl wr W.heap.size (.stringIter (strOfNums l) (pos + wid (l.drop pos))) (Nat.le_refl _)
      have hJ1 := hJ pre wr _ hJs hbp
      have hk1 : (wr.putObj W.heap.size (.stringIter (strOfNums l) (pos + wid (l.drop pos)))).heap[W.heap.size]? = some (.stringIter (strOfNums l) (pos + wid (l.drop pos))) := World.putObj_heap_same hlt
      have hip := pos_in hk
      have HSC := hide (spots_cons hp)
      have hwl := wid_len hp
      have hwp := wid_pos hp
      have hc1 : (wr.putObj W.heap.size (.stringIter (strOfNums l) (pos + wid (l.drop pos)))).cell? ⟨Bn, 0, none⟩ = some (.string (strOfNums l)) := (hbp.cell (p := ⟨Bn, 0, none⟩) hBq).trans (kb_cell hbw (Or.inl (Or.inr rfl)) hBn)
      have hT1 := (kb_tab hbw (Or.inl rfl) hT).below hbp h0q
      have hb1 : KB (fun k => k = 0 ∨ k = Bn) W.heap.size W (wr.putObj W.heap.size (.stringIter (strOfNums l) (pos + wid (l.drop pos)))) :=
        ⟨by simpa using hbw.1, fun k hk' hl => (World.putObj_heap_other (by omega)).trans (hbw.2 k hk' hl)⟩
      have HK1 := hide hk1
      have HNX := hide hnx
      clear e1 e2 hk1 hnx hk hJs hbw hbp
      generalize hw1 : wr.putObj W.heap.size (.stringIter (strOfNums l) (pos + wid (l.drop pos))) = w1 at *
      have hnx := unhide HNX
      gi_wp2_with fail
      refine ⟨trivial, ?_⟩
      refine (callsIn_wide.2 (told_at (l.drop pos) w1 (by simp; omega) (fun x hx => unhide HLB x (List.mem_of_mem_drop hx)) (by simp; omega) hT1)).mono ?_
      unfold stp stepV
      rintro e w2 ⟨rfl, hb2⟩
      have s1 := hb1.1
      have hJ2 := hJ pre w1 w2 hJ1 (hb2.mono s1)
      have hbb := hb1.trans (KB.all hb2)
      have hk2 := (hb2.block W.heap.size (heap_lt (unhide HK1))).trans (unhide HK1)
      have s2 := hb2.size
      obtain ⟨fn, tmps, assign, body, hy, hR⟩ := hY pre pos w2 (2 - 1) ⟨spots l (pos + wid (l.drop pos)), by rw [unhide HSP, unhide HSC]; simp⟩ hJ2 (by omega)
      unfold encS at hy
      clear hc1 hT1 hJ1 hnx HNX HK1 hb1 hb2 hw1
      gi_wp2_with fail
      refine hR.mono ?_
      rintro e w3 ⟨hk3, (⟨rfl, hJ3⟩ | ⟨rfl, hJx3⟩)⟩
      · have hk4 := (hk3.2 W.heap.size (Or.inr (Nat.le_refl _)) (heap_lt hk2)).trans hk2
        gi_wp2
        go_roundw
        case rel => exact ⟨pos + wid (l.drop pos), pre ++ [pos], hk4, hwl, by rw [unhide HSP, unhide HSC]; simp, hJ3, hbb.trans hk3⟩
        case measure => rw [pos_in hk4, hip]; omega
      · gi_wp2
        refine bodyPost_ret (results_none rfl _ _ _) rfl ?_
        exact ⟨⟨_, rfl⟩, .inr ⟨pre ++ [pos], ⟨spots l (pos + wid (l.drop pos)), by rw [unhide HSP, unhide HSC]; simp⟩, hJx3⟩⟩
    · have hps : ¬ pos < (strOfNums l).size := by rw [hsz]; exact hp
      have hnx : ∀ ty, (Instr.next (.pointer (some ⟨W.heap.size, 0, none⟩)) true ty).run Tryd.prog wr = _ := fun ty => next_out wr W.heap.size (strOfNums l) pos ty hk hps
      have HE : Hid (pre = spots l 0) := hide (by rw [unhide HSP, spots_end hp]; simp)
      gi_wp2
      go_end0
      exact ⟨⟨_, rfl⟩, .inl (by rw [unhide HE] at hJs; exact hJs)⟩

end Go.Proofs.YtdmkgocddikobaaDoor
