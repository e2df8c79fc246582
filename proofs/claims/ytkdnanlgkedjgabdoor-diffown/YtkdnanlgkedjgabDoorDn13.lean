/- step.All's iterator once more, in the words of the loop over iterators that keep cells: it yields the steps in their order. · A block of cells of one's own, of any number. · A region that draws its order, within a round of a loop over an iterator: the walk outside a round serves. -/
import Derived.Test.YtkdnanlgkedjgabDoorDn12
import Derived.Test.YtkdnanlgkedjgabDoorDn11
import Derived.Deep.RegionHeld

section
namespace Go.Proofs.YtkdnanlgkedjgabDoor
open Go.ChangeShapes Go.WideShapes Go.ChangeAt Go.RowKit
attribute [local go_sem] Oper.semAt_some

theorem cell_lt {W : World} {g o : Nat} {v : Value} (h : W.cell? ⟨g, o, none⟩ = some v) : g < W.heap.size := by
  rcases Nat.lt_or_ge g W.heap.size with h1 | h1
  · exact h1
  · simp [World.cell?, Array.getElem?_eq_none h1] at h
theorem kb_cell {q : Nat → Prop} {N g o : Nat} {A B : World} (h : KB q N A B) (hg : q g ∨ N ≤ g) {v : Value} (hc : A.cell? ⟨g, o, none⟩ = some v) : B.cell? ⟨g, o, none⟩ = some v :=
  (World.cell?_of_block (a := ⟨g, o, none⟩) (h.2 g hg (cell_lt hc))).trans hc
theorem kb_tab {q : Nat → Prop} {N : Nat} {A B : World} (h : KB q N A B) (hg : q 0) (hT : Tab A) : Tab B := fun i h1 h2 => kb_cell h (Or.inl hg) (hT i h1 h2)
theorem KB.of_below {q : Nat → Prop} {N M : Nat} {A B : World} (h : Below M A B) (hq : ∀ k, (q k ∨ N ≤ k) → k < A.heap.size → k < M) : KB q N A B := ⟨h.size, fun k hk hl => h.block k (hq k hk hl)⟩

set_option maxRecDepth 100000 in
set_option maxHeartbeats 1000000 in
theorem all1_B (Bn : Nat) (l : List Int) (w : World) (hBw : w.cell? ⟨Bn, 0, none⟩ = some (.string (strOfNums l))) (hTw : Tab w) (hl : l.length ≤ maxLen) (hb : ∀ x ∈ l, 0 ≤ x ∧ x ≤ 255) :
    SeqB Tryd.prog 57 #[.pointer (some ⟨Bn, 0, none⟩)] (encS l) (fun k => k = 0 ∨ k = Bn) (spots l 0) w := by
  intro lo J Jx W hW hJ hJx hY h0 m
  have hBn : W.cell? ⟨Bn, 0, none⟩ = some (.string (strOfNums l)) := (hW.cell (p := ⟨Bn, 0, none⟩) (cell_lt hBw)).trans hBw
  have hT := hTw.below hW hTw.size
  clear hW hBw hTw
  refine callsIn_wide.2 ((callsIn_wide (n := 2)).1 ?_)
  have hBq := cell_lt hBn
  have h0q := hT.size
  have hsz : (strOfNums l).size = l.length := strOfNums_size l
  have HLB := hide hb
  have hl' := hl
  unfold maxLen at hl'
  clear hb
  refine callsIn_of_wp Tryd.func57 rfl trivial ?_ rfl
  simp only [Tryd.ntmps57, List.size_toArray, List.length_cons, List.length_nil, Nat.reduceAdd, Nat.reduceSub, Array.replicate_succ, Array.replicate_zero, List.push_toArray, List.append_toArray, List.nil_append, List.cons_append]
  gi_wp2
  gi_loopw [3, 4] (fun _ _ wr => ∃ (pos : Nat) (pre : List Nat), wr.heap[W.heap.size]? = some (.stringIter (strOfNums l) pos) ∧ pos ≤ l.length ∧ spots l 0 = pre ++ spots l pos ∧ J pre wr ∧ KB (fun k => k = 0 ∨ k = Bn) W.heap.size W wr) (fun _ _ wr => (strOfNums l).size - wr.iterPos W.heap.size)
  case atStart => exact ⟨0, [], World.iter_heap W _ 0, Nat.zero_le _, rfl, hJ [] W _ h0 ((Below.refl _ W).alloc (Nat.le_refl _) _), KB.alloc _ _ _ _⟩
  case round =>
    obtain ⟨pos, pre, hk, hpl, hsp, hJs, hbw⟩ := hrel
    have HSP := hide hsp
    clear hsp
    by_cases hp : pos < l.length
    · have hps : pos < (strOfNums l).size := by rw [hsz]; exact hp
      have hnx : ∀ ty, (Instr.next (.pointer (some ⟨W.heap.size, 0, none⟩)) true ty).run Tryd.prog wr = _ := fun ty => next_in wr W.heap.size (strOfNums l) pos ty hk hps
      obtain ⟨e1, e2⟩ := decode_stp (unhide HLB) hp
      rw [e1, e2] at hnx
      have hx := str_extract l pos l.length
      rw [List.take_of_length_le (by simp)] at hx
      have hlt := heap_lt hk
      have hbp := below_putl wr W.heap.size (.stringIter (strOfNums l) (pos + wid (l.drop pos))) (Nat.le_refl _)
      have hJ1 := hJ pre wr _ hJs hbp
      have hk1 : (wr.putObj W.heap.size (.stringIter (strOfNums l) (pos + wid (l.drop pos)))).heap[W.heap.size]? = some (.stringIter (strOfNums l) (pos + wid (l.drop pos))) := World.putObj_heap_same hlt
      have hip := pos_in hk
      have HSC := hide (spots_cons hp)
      have hwl := wid_len hp
      have hwp := wid_pos hp
      have hc1 : (wr.putObj W.heap.size (.stringIter (strOfNums l) (pos + wid (l.drop pos)))).cell? ⟨Bn, 0, none⟩ = some (.string (strOfNums l)) := (hbp.cell (p := ⟨Bn, 0, none⟩) hBq).trans (kb_cell hbw (Or.inl (Or.inr rfl)) hBn)
      have hT1 := (kb_tab hbw (Or.inl rfl) hT).below hbp h0q
      have hb1 : KB (fun k => k = 0 ∨ k = Bn) W.heap.size W (wr.putObj W.heap.size (.stringIter (strOfNums l) (pos + wid (l.drop pos)))) :=
        ⟨by simpa using hbw.1, fun k hk' hl => (World.putObj_heap_other (by omega)).trans (hbw.2 k hk' hl)⟩
      have HK1 := hide hk1
      have HNX := hide hnx
      clear e1 e2 hk1 hnx hk hJs hbw hbp
      generalize hw1 : wr.putObj W.heap.size (.stringIter (strOfNums l) (pos + wid (l.drop pos))) = w1 at *
      have hnx := unhide HNX
      gi_wp2_with fail
      refine ⟨trivial, ?_⟩
      refine (callsIn_wide.2 (told_at (l.drop pos) w1 (by simp; omega) (fun x hx => unhide HLB x (List.mem_of_mem_drop hx)) (by simp; omega) hT1)).mono ?_
      unfold stp stepV
      rintro e w2 ⟨rfl, hb2⟩
      have s1 := hb1.1
      have hJ2 := hJ pre w1 w2 hJ1 (hb2.mono s1)
      have hbb := hb1.trans (KB.all hb2)
      have hk2 := (hb2.block W.heap.size (heap_lt (unhide HK1))).trans (unhide HK1)
      have s2 := hb2.size
      obtain ⟨fn, tmps, assign, body, hy, hR⟩ := hY pre pos w2 (2 - 1) ⟨spots l (pos + wid (l.drop pos)), by rw [unhide HSP, unhide HSC]; simp⟩ hJ2 (by omega)
      unfold encS at hy
      clear hc1 hT1 hJ1 hnx HNX HK1 hb1 hb2 hw1
      gi_wp2_with fail
      refine hR.mono ?_
      rintro e w3 ⟨hk3, (⟨rfl, hJ3⟩ | ⟨rfl, hJx3⟩)⟩
      · have hk4 := (hk3.2 W.heap.size (Or.inr (Nat.le_refl _)) (heap_lt hk2)).trans hk2
        gi_wp2
        go_roundw
        case rel => exact ⟨pos + wid (l.drop pos), pre ++ [pos], hk4, hwl, by rw [unhide HSP, unhide HSC]; simp, hJ3, hbb.trans hk3⟩
        case measure => rw [pos_in hk4, hip]; omega
      · gi_wp2
        refine bodyPost_ret (results_none rfl _ _ _) rfl ?_
        exact ⟨⟨_, rfl⟩, .inr ⟨pre ++ [pos], ⟨spots l (pos + wid (l.drop pos)), by rw [unhide HSP, unhide HSC]; simp⟩, hJx3⟩⟩
    · have hps : ¬ pos < (strOfNums l).size := by rw [hsz]; exact hp
      have hnx : ∀ ty, (Instr.next (.pointer (some ⟨W.heap.size, 0, none⟩)) true ty).run Tryd.prog wr = _ := fun ty => next_out wr W.heap.size (strOfNums l) pos ty hk hps
      have HE : Hid (pre = spots l 0) := hide (by rw [unhide HSP, spots_end hp]; simp)
      gi_wp2
      go_end0
      exact ⟨⟨_, rfl⟩, .inl (by rw [unhide HE] at hJs; exact hJs)⟩

end Go.Proofs.YtkdnanlgkedjgabDoor
end

section
namespace Go.Proofs.YtkdnanlgkedjgabDoor
open Go.ChangeShapes Go.WideShapes Go.ChangeAt Go.RowKit

def Cls (W : World) (B : Nat) (t : TypeId) (cs : Array Value) : Prop := W.heap[B]? = some (.cells cs t (0, 0))
theorem Cls.lt {W : World} {B : Nat} {t : TypeId} {cs : Array Value} (h : Cls W B t cs) : B < W.heap.size := (Array.getElem?_eq_some_iff.1 h).1
theorem Cls.cell {W : World} {B : Nat} {t : TypeId} {cs : Array Value} (h : Cls W B t cs) (i : Nat) : W.cell? ⟨B, i, none⟩ = cs[i]? := by simp [World.cell?, show W.heap[B]? = _ from h]
theorem Cls.frozen {W : World} {B : Nat} {t : TypeId} {cs : Array Value} (h : Cls W B t cs) (i : Nat) : W.frozen? ⟨B, i, none⟩ = false := by simp [World.frozen?, show W.heap[B]? = _ from h]
theorem Cls.new (W : World) (t : TypeId) (cs : Array Value) : Cls (W.alloc (.cells cs t)) W.heap.size t cs := World.alloc_heap_new W _
theorem Cls.same {W W' : World} {B : Nat} {t : TypeId} {cs : Array Value} (h : Cls W B t cs) (hb : W'.heap[B]? = W.heap[B]?) : Cls W' B t cs := hb.trans h
theorem Cls.below {W W' : World} {B N : Nat} {t : TypeId} {cs : Array Value} (h : Cls W B t cs) (hb : Below N W W') (hB : B < N) : Cls W' B t cs := h.same (hb.block B hB)
theorem Cls.kb {q : Nat → Prop} {N : Nat} {W W' : World} {B : Nat} {t : TypeId} {cs : Array Value} (h : Cls W B t cs) (hb : KB q N W W') (hB : q B ∨ N ≤ B) : Cls W' B t cs := h.same (hb.2 B hB h.lt)
theorem Cls.alloc {W : World} {B : Nat} {t : TypeId} {cs : Array Value} (h : Cls W B t cs) (o : Obj) : Cls (W.alloc o) B t cs := h.same (Below.heap_alloc W o B h.lt)
theorem Cls.other {W : World} {B : Nat} {t : TypeId} {cs : Array Value} (h : Cls W B t cs) (p : Addr) (v : Value) (hp : B ≠ p.block) : Cls (W.setCell p v) B t cs := h.same (Below.heap_setCell W p v B hp)
theorem Cls.set {W : World} {B : Nat} {t : TypeId} {cs : Array Value} (h : Cls W B t cs) (i : Nat) (v : Value) : Cls (W.setCell ⟨B, i, none⟩ v) B t (cs.setIfInBounds i v) := by
  have hl := h.lt
  show (W.heap.modify B _)[B]? = _
  rw [Array.getElem?_eq_getElem (by rw [Array.size_modify]; exact hl), Array.getElem_modify_self]
  have := h
  unfold Cls at this
  rw [Array.getElem?_eq_getElem hl] at this
  rw [Option.some.inj this]
  rfl
theorem setCell_size (W : World) (p : Addr) (v : Value) : (W.setCell p v).heap.size = W.heap.size := by show (W.heap.modify _ _).size = _; rw [Array.size_modify]
theorem setCell_below {N : Nat} (W : World) (p : Addr) (v : Value) (h : N ≤ p.block) : Below N W (W.setCell p v) := (Below.refl N W).setCell (p := p) h v

end Go.Proofs.YtkdnanlgkedjgabDoor
end

section
namespace Go.Proofs.YtkdnanlgkedjgabDoor
open Go.ChangeShapes Go.WideShapes Go.ChangeAt Go.RowKit

theorem oper_in {P : Program} {l n : Nat} {o : Oper} {a : Act} {w : World} {K : Act → World → Prop} {Q : Exit → Act → World → Prop} (hd : ∀ c, o.op ≠ .defer c) (h : o.wp P a w K Q) : o.wpIn (Fence.wide.inRound l) n P a w K Q := by
  refine ⟨fun _ _ => trivial, ?_⟩
  rw [Oper.semAt_eq _ _ _ hd]
  unfold Oper.wp at h
  generalize (execOp a.eval o).run P w = r at h
  cases r with
  | ok x w' =>
    cases x with
    | value v => exact h
    | skip => exact h
    | defer d => exact h
    | enter f args => exact ⟨(fun e => by cases e), CallsIn.inRound l (callsIn_wide.2 h)⟩
    | row row args =>
      refine ⟨(fun e => by cases e), fun c cs _ => ?_⟩
      obtain ⟨v, w', hr, hs⟩ := h c cs
      exact ⟨v, w', hr, stepsIn_wide.2 hs⟩
    | _ => exact h.elim
  | halt x w' =>
    cases x with
    | panic v => exact h
    | _ => exact h.elim

theorem op_in {P : Program} {ops : Array Oper} {l n i : Nat} {a : Act} {w : World} {K : Act → World → Prop} {Q : Exit → Act → World → Prop} (hd : ∀ (j : Nat) (o : Oper) c, ops[j]? = some o → o.op ≠ .defer c) (hq : ¬ LetsOut Q)
    (h : wpOp P ops Q i K a w) : wpOpIn (Fence.wide.inRound l) n P ops Q i K a w := by
  unfold wpOp at h
  unfold wpOpIn
  cases ho : ops[i]? with
  | none => rw [ho] at h; exact h
  | some o =>
    rw [ho] at h
    simp only at h ⊢
    split at h
    · rename_i hw
      rw [if_pos hw]
      rcases h with h | h
      · exact oper_in (fun c => hd i o c ho) h
      · exact absurd h.2 hq
    · rename_i hw
      rw [if_neg hw]
      exact ⟨fun _ _ => trivial, h⟩

theorem any_in {P : Program} {md : Region.Mode} {ops : Array Oper} {l n : Nat} {Q : Exit → Act → World → Prop} (hd : ∀ (j : Nat) (o : Oper) c, ops[j]? = some o → o.op ≠ .defer c) (hq : ¬ LetsOut Q) :
    ∀ (fuel : Nat) (listed : Array Bool) (a : Act) (w : World), wpAny P md ops Q fuel listed a w → wpAnyIn (Fence.wide.inRound l) n P md ops Q fuel listed a w
  | 0, _, _, _, h => h
  | fuel + 1, _, _, _, h => ⟨h.1, fun i hi => wpOpIn_mono (fun a w => any_in hd hq fuel _ a w) (op_in hd hq (h.2 i hi))⟩

/-- the beginning, within a round -/
theorem region_in {P : Program} {ops : Array Oper} {l n id : Nat} {a : Act} {w : World} {Q : Exit → Act → World → Prop} {S : World → Prop} (hm : P.follows .mixedOrders = true) (hd : ∀ (j : Nat) (o : Oper) c, ops[j]? = some o → o.op ≠ .defer c) (hq : ¬ LetsOut Q)
    (hS : S w.drew) (h : S w.drew → wpAnyH P .any ops Q S ops.size (Array.replicate ops.size false) a w.drew) : (Code.region id ops true).wpIn (Fence.wide.inRound l) n P Q a w :=
  wpIn_region_any hm (any_in hd hq _ _ _ _ (wpAny_of_held _ _ _ _ (h hS)))

theorem step_append_in {P : Program} {ops : Array Oper} {o : Oper} {a : Act} {w : World} {K : Act → World → Prop} {Q : Exit → Act → World → Prop} {E : Prop} (hw : Region.wanted o (yielded ops a.tmps) = true) (s x : Operand) (t tx : TypeId)
    (ho : o.op = .call { callee := .builtin .append, args := #[s, x], argTypes := #[t, tx] }) (v u : Value) (hs : a.eval s = v) (hx : a.eval x = u) (v' : Value) (w' : World)
    (hr : (Builtin.append_ #[t, tx] o.type #[v, u]).run P w = .ok v' w') (h : K (a.put o.dst v') w') : if Region.wanted o (yielded ops a.tmps) = true then Oper.wp P o a w K Q else E := by
  rw [if_pos hw]
  unfold Oper.wp execOp
  simp only [ho, resolve, invoke, builtin, Sem.run_bind, Sem.run_pure, Result.andThen_ok, List.map_toArray, List.map_cons, List.map_nil, hs, hx, hr]
  exact h

end Go.Proofs.YtkdnanlgkedjgabDoor
end
