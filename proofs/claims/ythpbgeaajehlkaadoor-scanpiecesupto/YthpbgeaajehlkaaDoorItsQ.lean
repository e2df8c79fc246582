/- The iterator of step.All once more, for a loop body that may write whatever lay ahead of the iterator but the table and the iterator's own text. -/
import Derived.Test.YthpbgeaajehlkaaDoorIts
namespace Go.Proofs.YthpbgeaajehlkaaDoor
open Go.ChangeShapes Go.WideShapes Go.ChangeAt Go.RowKit
attribute [local go_sem] Oper.semAt_some

/-- the blocks 0 and q stay -/
structure BelowQ (q : Nat) (w w' : World) : Prop where
  size : w.heap.size ≤ w'.heap.size
  block : ∀ k, k = 0 ∨ k = q → w'.heap[k]? = w.heap[k]?
theorem BelowQ.refl (q : Nat) (w : World) : BelowQ q w w := ⟨Nat.le_refl _, fun _ _ => rfl⟩
theorem BelowQ.trans {q : Nat} {a b c : World} (h : BelowQ q a b) (k : BelowQ q b c) : BelowQ q a c := ⟨Nat.le_trans h.size k.size, fun i h1 => (k.block i h1).trans (h.block i h1)⟩
theorem BelowQ.cell {q g : Nat} {a b : World} (h : BelowQ q a b) (hg : g = 0 ∨ g = q) (o : Nat) : b.cell? ⟨g, o, none⟩ = a.cell? ⟨g, o, none⟩ := World.cell?_of_block (a := ⟨g, o, none⟩) (h.block g hg)
theorem BelowQ.tab {q : Nat} {a b : World} (h : BelowQ q a b) (hT : Tab a) : Tab b := fun i h1 h2 => (h.cell (Or.inl rfl) _).trans (hT i h1 h2)
theorem toQ {B q : Nat} {a b : World} (h : Below B a b) (h0 : 0 < B) (hq : q < B) : BelowQ q a b := ⟨h.size, fun k hk => h.block k (by rcases hk with rfl | rfl <;> assumption)⟩
/-- a place of the text -/
abbrev PlL (l : List Int) : Type := { p : Nat // p < l.length }
def vals {l : List Int} (ps : List (PlL l)) : List Nat := ps.map (·.1)
theorem vals_snoc {l : List Int} (ps : List (PlL l)) (x : PlL l) : vals (ps ++ [x]) = vals ps ++ [x.1] := by simp [vals]
theorem vals_len {l : List Int} (ps : List (PlL l)) : (vals ps).length = ps.length := by simp [vals]
def Kq (q : Nat) (A B : World) : Prop := BelowQ q A B ∧ KeepsWalks A B
theorem kq_t {q : Nat} {A B C : World} (h : Kq q A B) (k : Kq q B C) : Kq q A C := ⟨h.1.trans k.1, h.2.trans k.2⟩
theorem kq_b {q : Nat} {w : World} (h0 : 0 < w.heap.size) (hq : q < w.heap.size) (W : World) (l : Nat) (_o o' : Obj) (hl : w.heap.size ≤ l) (h : W.heap[l]? = some _o) (hc : _o.isCells = false) (hw : _o.isWalk = false) : Kq q W (W.putObj l o') :=
  ⟨toQ (belowK_b (n₀ := w.heap.size) (Nat.le_refl _) W l _ o' hl h hc hw) h0 hq, walksK_b (w := w) W l _ o' hl h hc hw⟩

set_option maxRecDepth 100000 in
set_option maxHeartbeats 1000000 in
theorem all1_inQ (lo Bn : Nat) (l : List Int) (J Jx : List (PlL l) → World → Prop) (W : World) (hJ : AbidesFrom W.heap.size J)
    (hY : ∀ (pre : List (PlL l)) (x : PlL l) W1, J pre W1 → pre.length < (spots l 0).length → YieldAt Fence.wide (2 - 1) Tryd.prog lo (encS l x.1) W1 fun e W' =>
      (e = .returned (.bool true) ∧ J (pre ++ [x]) W' ∧ Kq Bn W1 W') ∨ (e = .returned (.bool false) ∧ Jx (pre ++ [x]) W'))
    (hBn : W.cell? ⟨Bn, 0, none⟩ = some (.string (strOfNums l))) (hT : Tab W) (hl : l.length ≤ maxLen) (hb : ∀ x ∈ l, 0 ≤ x ∧ x ≤ 255) (h0 : J [] W) :
    CallsIn Fence.wide 2 Tryd.prog 26 #[.func (.yield lo) #[] #[], .pointer (some ⟨Bn, 0, none⟩)] W fun e W' => (∃ v, e = .returned v) ∧
      ((∃ ys, vals ys = spots l 0 ∧ J ys W') ∨ (∃ pre, vals pre <+: spots l 0 ∧ Jx pre W')) := by
  have hBq : Bn < W.heap.size := by
    rcases Nat.lt_or_ge Bn W.heap.size with h | h
    · exact h
    · simp [World.cell?, Array.getElem?_eq_none h] at hBn
  have h0q := hT.size
  have hsz : (strOfNums l).size = l.length := strOfNums_size l
  have HLB := hide hb
  have hl' := hl
  unfold maxLen at hl'
  clear hb
  refine callsIn_of_wp Tryd.func26 rfl trivial ?_ rfl
  simp only [Tryd.ntmps26, List.size_toArray, List.length_cons, List.length_nil, Nat.reduceAdd, Nat.reduceSub, Array.replicate_succ, Array.replicate_zero, List.push_toArray, List.append_toArray, List.nil_append, List.cons_append]
  gi_wp2
  gi_loopw [3, 4] (fun _ _ wr => ∃ (pos : Nat) (pre : List (PlL l)), wr.heap[W.heap.size]? = some (.stringIter (strOfNums l) pos) ∧ pos ≤ l.length ∧ spots l 0 = vals pre ++ spots l pos ∧ J pre wr ∧ BelowQ Bn W wr) (fun _ _ wr => (strOfNums l).size - wr.iterPos W.heap.size)
  case atStart => exact ⟨0, [], World.iter_heap W _ 0, Nat.zero_le _, rfl, hJ [] W _ none h0 (World.grownBy_alloc W _ none) (fun r e => by cases e), toQ ((Below.refl W.heap.size W).alloc (Nat.le_refl _) _) hT.size hBq⟩
  case round =>
    obtain ⟨pos, pre, hk, hpl, hsp, hJs, hbw⟩ := hrel
    have HSP := hide hsp
    clear hsp
    by_cases hp : pos < l.length
    · have hps : pos < (strOfNums l).size := by rw [hsz]; exact hp
      have hnx : ∀ ty, (Instr.next (.pointer (some ⟨W.heap.size, 0, none⟩)) true ty).run Tryd.prog wr = _ := fun ty => next_in wr W.heap.size (strOfNums l) pos ty hk hps
      obtain ⟨e1, e2⟩ := decode_stp (unhide HLB) hp
      rw [e1, e2] at hnx
      have hx := str_extract l pos l.length
      rw [List.take_of_length_le (by simp)] at hx
      have hlt := heap_lt hk
      have hb1 := hbw.trans (toQ (below_put (o := .stringIter (strOfNums l) (pos + wid (l.drop pos))) (Below.refl W.heap.size wr) (Nat.le_refl _)) h0q hBq)
      have hJ1 := hJ pre wr _ (some W.heap.size) hJs (grownBy_putObj' wr W.heap.size (.stringIter (strOfNums l) (pos + wid (l.drop pos)))) (fun r e => by cases e; exact ⟨Nat.le_refl _, _, hk, rfl⟩)
      have hk1 : (wr.putObj W.heap.size (.stringIter (strOfNums l) (pos + wid (l.drop pos)))).heap[W.heap.size]? = some (.stringIter (strOfNums l) (pos + wid (l.drop pos))) := World.putObj_heap_same hlt
      have hip := pos_in hk
      have HSC := hide (spots_cons hp)
      have hwl := wid_len hp
      have hwp := wid_pos hp
      have hc1 : (wr.putObj W.heap.size (.stringIter (strOfNums l) (pos + wid (l.drop pos)))).cell? ⟨Bn, 0, none⟩ = some (.string (strOfNums l)) := (hb1.cell (Or.inr rfl) 0).trans hBn
      have hT1 := hb1.tab hT
      have HK1 := hide hk1
      have HNX := hide hnx
      clear e1 e2 hk1 hnx hk hJs hbw
      generalize hw1 : wr.putObj W.heap.size (.stringIter (strOfNums l) (pos + wid (l.drop pos))) = w1 at *
      have hnx := unhide HNX
      gi_wp2_with fail
      refine ⟨trivial, ?_⟩
      refine (callsIn_wide.2 (told_at (l.drop pos) w1 (by simp; omega) (fun x hx => unhide HLB x (List.mem_of_mem_drop hx)) (by simp; omega) hT1)).mono ?_
      unfold stp stepV
      rintro e w2 ⟨rfl, hb2⟩
      have hJ2 := hJ pre w1 w2 none hJ1 (grown_below none hb2) (fun r e => by cases e)
      have s1 := hb1.size
      have hbb := hb1.trans (toQ (hb2.mono s1) h0q hBq)
      have hk2 := (hb2.block W.heap.size (heap_lt (unhide HK1))).trans (unhide HK1)
      obtain ⟨fn, tmps, assign, body, hy, hR⟩ := hY pre ⟨pos, hp⟩ w2 hJ2 (by rw [unhide HSP, unhide HSC]; simp [vals])
      unfold encS at hy
      clear hc1 hT1 hJ1 hnx HNX HK1 hb1 hb2 hw1
      gi_wp2_with fail
      refine hR.mono ?_
      rintro e w3 (⟨rfl, hJ3, hk3⟩ | ⟨rfl, hJx3⟩)
      · have hk4 := hk3.2.same _ _ hk2 rfl
        gi_wp2
        go_roundw
        case rel => exact ⟨pos + wid (l.drop pos), pre ++ [⟨pos, hp⟩], hk4, hwl, by rw [unhide HSP, unhide HSC, vals_snoc]; simp, hJ3, hbb.trans hk3.1⟩
        case measure => rw [pos_in hk4, hip]; omega
      · gi_wp2
        refine bodyPost_ret (results_none rfl _ _ _) rfl ?_
        exact ⟨⟨_, rfl⟩, .inr ⟨pre ++ [⟨pos, hp⟩], ⟨spots l (pos + wid (l.drop pos)), by rw [unhide HSP, unhide HSC, vals_snoc]; simp⟩, hJx3⟩⟩
    · have hps : ¬ pos < (strOfNums l).size := by rw [hsz]; exact hp
      have hnx : ∀ ty, (Instr.next (.pointer (some ⟨W.heap.size, 0, none⟩)) true ty).run Tryd.prog wr = _ := fun ty => next_out wr W.heap.size (strOfNums l) pos ty hk hps
      have HE : Hid (vals pre = spots l 0) := hide (by rw [unhide HSP, spots_end hp]; simp)
      gi_wp2
      go_end0
      exact ⟨⟨_, rfl⟩, .inl ⟨pre, unhide HE, hJs⟩⟩

theorem all_stopsQ (Bn : Nat) (l : List Int) (w : World) (hBn : w.cell? ⟨Bn, 0, none⟩ = some (.string (strOfNums l))) (hBl : Bn < w.heap.size) (hT : Tab w) (hl : l.length ≤ maxLen) (hb : ∀ x ∈ l, 0 ≤ x ∧ x ≤ 255) :
    SeqStopsK Fence.wide 2 Tryd.prog 26 #[.pointer (some ⟨Bn, 0, none⟩)] (fun x : PlL l => encS l x.1) (Kq Bn) (fun ys => vals ys = spots l 0) (fun pre => vals pre <+: spots l 0) (spots l 0).length w := fun lo J Jx W hW hJ _ hY h0 =>
  all1_inQ lo Bn l J Jx W hJ hY ((hW.cell (p := ⟨Bn, 0, none⟩) hBl).trans hBn) (hT.below hW hT.size) hl hb h0

end Go.Proofs.YthpbgeaajehlkaaDoor
