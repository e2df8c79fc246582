/- Layer 8: the contract of leaf's Cut. -/
import Derived.Test.YtljpdbodieepnaaDoorLef
import Derived.Deep.AppendLies
namespace Go.Proofs.YtljpdbodieepnaaDoor
open Go.ChangeShapes Go.WideShapes Go.ChangeAt Go.RowKit
attribute [local go_sem] Oper.semAt_some

set_option maxRecDepth 100000 in
theorem info_lf : ∃ i, Tryd.prog.info? 22 = some i ∧ i.zero = some (.pointer none) ∧ i.size = 1 ∧ i.bytes = 8 := by
  refine ⟨_, rfl, ?_, ?_, ?_⟩ <;> rfl
theorem push_lf (W : World) (B n : Nat) (v : Value) (xs : List Value) (x : Nat) (ty : TypeId) (h : W.ownsRow B 22 1 v n xs) (hn : n ≤ 4194304) (hB : B ≤ W.heap.size) :
    ∃ g c W', (Builtin.append_ #[27, 27] ty #[v, .slice (some ⟨W.heap.size, 0, none⟩) 1 1]).run Tryd.prog (W.alloc (.cells #[.pointer (some ⟨x, 0, none⟩)] 22)) = .ok (.slice (some ⟨g, 0, none⟩) (n + 1) c) W' ∧
      W'.ownsRow B 22 1 (.slice (some ⟨g, 0, none⟩) (n + 1) c) (n + 1) (xs ++ [.pointer (some ⟨x, 0, none⟩)]) ∧ W.grownBy W' v.ownBlock ∧ Below B W W' := by
  obtain ⟨i, hi, hz, hs, hby⟩ := info_lf
  have hr := World.ownsRow.alloc h (.cells #[.pointer (some ⟨x, 0, none⟩)] 22)
  obtain ⟨g, c, W', hrun, ho, hg, _, _⟩ := run_append_lies (P := Tryd.prog) (W.alloc (.cells #[.pointer (some ⟨x, 0, none⟩)] 22)) 27 ty B 22 i (.pointer none) 1 8 Tryd.underlying27 hi hz hs hby rfl (by decide)
    v n xs hr ⟨W.heap.size, 0, none⟩ 1 1 [.pointer (some ⟨x, 0, none⟩)] rfl
    (fun j u hj => by
      cases j with
      | zero => simp at hj; subst hj; rw [Addr.add_lit]; exact (World.cell?_alloc_mark W _ _ (0, 0) 0).trans rfl
      | succ j => simp at hj)
    (fun u hu => by simp at hu; subst hu; rfl) (by decide) (by unfold maxLen; omega) (by omega) (by simp; omega) _ rfl
  have ha := World.grownBy_alloc W (.cells #[.pointer (some ⟨x, 0, none⟩)] 22) none
  have hb : Below B W W' := ((Below.refl B W).alloc hB _).grown hg (by simp; omega) (fun k hk => (hr.lt k hk).1)
  refine ⟨g, c, W', hrun, ho, ⟨hg.os.trans ha.os, hg.tape.trans ha.tape, hg.output.trans ha.output, Nat.le_trans ha.size hg.size, fun k hk hne => ?_⟩, hb⟩
  exact (hg.block k (Nat.lt_of_lt_of_le hk ha.size) hne).trans (ha.block k hk (by simp))
theorem flr_ge3 (l : List Int) (p : Nat) : p ≤ flr l p + 3 := by unfold flr; split <;> (try split) <;> (try split) <;> omega
theorem bdr_in {l : List Int} {b m : Nat} (hb : b < l.length) (hm : 1 ≤ m) : b < bdr l b m ∧ bdr l b m ≤ l.length := by
  unfold bdr
  split
  · omega
  · split
    · omega
    · have h1 := flr_ge3 l (b + m)
      have h2 := flr_le l (b + m)
      omega
def pcA (l : List Int) (m : Nat) : Nat → Nat → List (List Int)
  | 0, _ => []
  | f + 1, b => if b < l.length then (l.take (bdr l b m)).drop b :: pcA l m f (bdr l b m) else []
/-- the bytes of Cut's leaves -/
def pcs (l : List Int) (m : Nat) : List (List Int) := pcA l m l.length 0
theorem pcA_end {l : List Int} {m b : Nat} (h : ¬ b < l.length) : ∀ f, pcA l m f b = []
  | 0 => rfl
  | f + 1 => by unfold pcA; rw [if_neg h]
def ptrs (gs : List Nat) : List Value := gs.map fun g => .pointer (some ⟨g, 0, none⟩)
theorem ptrs_snoc (gs : List Nat) (g : Nat) : ptrs (gs ++ [g]) = ptrs gs ++ [.pointer (some ⟨g, 0, none⟩)] := by simp [ptrs]
/-- leaves of these bytes lie there -/
def Lvs (W : World) (B : Nat) (gs : List Nat) (ps : List (List Int)) : Prop := gs.length = ps.length ∧ ∀ i, i < gs.length → IsLf W (gs.getD i 0) (ps.getD i []) ∧ B ≤ gs.getD i 0
theorem Lvs.on {W W' : World} {B : Nat} {gs : List Nat} {ps : List (List Int)} (h : Lvs W B gs ps) (hb : Below W.heap.size W W') : Lvs W' B gs ps := ⟨h.1, fun i hi => ⟨(h.2 i hi).1.on hb, (h.2 i hi).2⟩⟩
theorem Lvs.snoc {W : World} {B g : Nat} {gs : List Nat} {ps : List (List Int)} {p : List Int} (h : Lvs W B gs ps) (hg : IsLf W g p) (hB : B ≤ g) : Lvs W B (gs ++ [g]) (ps ++ [p]) := by
  refine ⟨by simp [h.1], fun i hi => ?_⟩
  rw [List.length_append, List.length_singleton] at hi
  rcases Nat.lt_or_ge i gs.length with hlt | hge
  · rw [List.getD_eq_getElem?_getD, List.getElem?_append_left hlt, ← List.getD_eq_getElem?_getD, List.getD_eq_getElem?_getD (l := ps ++ [p]), List.getElem?_append_left (by rw [← h.1]; exact hlt), ← List.getD_eq_getElem?_getD]
    exact h.2 i hlt
  · obtain rfl : i = gs.length := by omega
    have e1 : (gs ++ [g]).getD gs.length 0 = g := by simp
    have e2 : (ps ++ [p]).getD gs.length [] = p := by rw [h.1]; simp
    rw [e1, e2]
    exact ⟨hg, hB⟩
/-- leaves outlast what is done to a row that is none of them -/
theorem Lvs.kept {W W' : World} {B : Nat} {gs : List Nat} {ps : List (List Int)} {row : Option Nat} (h : Lvs W B gs ps) (hg : W.grownBy W' row) (hne : ∀ i, i < gs.length → some (gs.getD i 0) ≠ row) : Lvs W' B gs ps :=
  ⟨h.1, fun i hi => ⟨(hg.block _ (h.2 i hi).1.lt (fun e => hne i hi e)).trans (h.2 i hi).1, (h.2 i hi).2⟩⟩
theorem lies_piece {w : World} {g off : Nat} {l : List Int} (hL : Lies w g off l) {b e : Nat} (he : e ≤ l.length) : Lies w g (off + b) ((l.take e).drop b) := fun i hi => by
  rw [List.length_drop, List.length_take] at hi
  have := hL (b + i) (by omega)
  rw [show off + (b + i) = off + b + i by omega] at this
  rw [getD_drop', show (l.take e).getD (b + i) 0 = l.getD (b + i) 0 by rw [List.getD_eq_getElem?_getD, List.getElem?_take_of_lt (by omega), ← List.getD_eq_getElem?_getD]]
  exact this

end Go.Proofs.YtljpdbodieepnaaDoor
