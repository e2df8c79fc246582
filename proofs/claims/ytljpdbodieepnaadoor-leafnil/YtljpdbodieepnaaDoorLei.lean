/- Layer 8: the walk of leaf's Cut. -/
import Derived.Test.YtljpdbodieepnaaDoorLeh
namespace Go.Proofs.YtljpdbodieepnaaDoor
open Go.ChangeShapes Go.WideShapes Go.ChangeAt Go.RowKit
attribute [local go_sem] Oper.semAt_some

theorem of_is (g off cap n : Nat) (p : List Int) (w : World) (hn : n = p.length) (hB : IsN w (some ⟨g, off, none⟩) cap p) (hl : p.length ≤ 268435456) (hW : Wt w) :
    Calls Tryd.prog 26 #[.slice (some ⟨g, off, none⟩) n cap] w fun y w' => ∃ g, y = .returned (.pointer (some ⟨g, 0, none⟩)) ∧ IsLf w' g p ∧ w.heap.size ≤ g ∧ Below w.heap.size w w' := by
  subst hn
  exact of_at _ cap p w hB hl hW
theorem lvs_apart {W : World} {B B' n : Nat} {gs : List Nat} {ps : List (List Int)} {v : Value} {xs : List Value} (h : Lvs W B gs ps) (o : W.ownsRow B' 22 1 v n xs) : ∀ i, i < gs.length → some (gs.getD i 0) ≠ v.ownBlock := fun i hi e => by
  have hf := (h.2 i hi).1
  rcases o.2 with ⟨rfl, _⟩ | ⟨g, c, cur, rfl, _, hg, _⟩
  · cases e
  · have e' : gs.getD i 0 = g := by simpa [Value.ownBlock] using e
    rw [e'] at hf
    have := hg.symm.trans hf
    simp at this
structure CuI (w : World) (l : List Int) (m b : Nat) (gs : List Nat) (v : Value) (X : World) : Prop where
  p : ∃ (pre : List (List Int)) (f : Nat), pcs l m = pre ++ pcA l m f b ∧ l.length - b ≤ f ∧ Lvs X w.heap.size gs pre ∧ pre.length ≤ b
  o : X.ownsRow w.heap.size 22 1 v gs.length (ptrs gs)

set_option maxRecDepth 100000 in
set_option maxHeartbeats 4000000 in
theorem Cut_at (a0 : Option Addr) (cap : Nat) (l : List Int) (m : Nat) (w : World) (hB : IsN w a0 cap l) (hW : Wt w) (h1 : 1 ≤ m) (h2 : m ≤ 4096) (hl : l.length ≤ 1048576) :
    Calls Tryd.prog 10 #[.slice a0 l.length cap, .int .i64 (m : Int)] w fun y w' => ∃ v gs, y = .returned (.tuple #[v, .int .i64 0]) ∧ w'.ownsRow w.heap.size 22 1 v gs.length (ptrs gs) ∧ Lvs w' w.heap.size gs (pcs l m) ∧ Below w.heap.size w w' := by
  have t1 : decide ((m : Int) < 1) = false := decide_eq_false (by omega)
  have t2 : decide ((m : Int) > 4096) = false := decide_eq_false (by omega)
  have t3 : decide ((4096 : Int) < (m : Int)) = false := decide_eq_false (by omega)
  have t3' : decide (4096 < m) = false := decide_eq_false (by omega)
  have t1' : decide (m < 1) = false := decide_eq_false (by omega)
  have t4 : decide ((l.length : Int) > 268435456) = false := decide_eq_false (by omega)
  have t5 : decide ((268435456 : Int) < (l.length : Int)) = false := decide_eq_false (by omega)
  have t5' : decide (268435456 < l.length) = false := decide_eq_false (by omega)
  have HB := hide (And.intro hB hW)
  have hcap := hB.1.1
  have HLB := hide hB.1.2.2.2
  clear hB hW
  go_enter Tryd.func10, Tryd.ntmps10
  go_wp2_with fail
  clear t1 t2 t3 t3' t1' t4 t5 t5'
  go_loopw [6, 7, 8] (fun v s e wx => ∃ (b : Nat) (gs : List Nat), b ≤ l.length ∧ s = .int .i64 (b : Int) ∧ (∃ z, e = z) ∧ Hid (CuI w l m b gs v wx) ∧ Below w.heap.size w wx) (fun _ s _ _ => l.length - (intOf s).toNat)
  case atStart => exact ⟨0, [], Nat.zero_le _, rfl, ⟨_, rfl⟩, hide ⟨⟨[], l.length, rfl, by omega, ⟨rfl, fun i h => by cases h⟩, Nat.le_refl _⟩, ⟨rfl, Or.inl ⟨rfl, rfl⟩⟩⟩, Below.refl _ _⟩
  case round =>
    obtain ⟨b, gs, hb, rfl, ⟨z, rfl⟩, HI, hbl⟩ := hrel
    by_cases hlt : b < l.length
    · have t1 : decide ((b : Int) < (l.length : Int)) = true := decide_eq_true (by omega)
      have hBx := (unhide HB).1.below hbl (Nat.le_refl _)
      have hWx : Wt wr := (unhide HB).2.below hbl
      obtain ⟨g, off, rfl⟩ : ∃ g off, a0 = some ⟨g, off, none⟩ := by
        rcases hBx.1.2.2.1 with h3 | ⟨g, off, e, _⟩
        · rw [h3] at hlt; simp at hlt
        · exact ⟨g, off, e⟩
      obtain ⟨e1, e2⟩ := bdr_in hlt h1
      have hbd := border_at (some ⟨g, off, none⟩) cap l b m wr hBx.1 hWx.1 hb h2
      have HE : Hid (bdr l b m = bdr l b m) := hide rfl
      have HP : Hid (∀ (pre : List (List Int)) f, pcs l m = pre ++ pcA l m f b → l.length - b ≤ f → ∃ f', pcs l m = (pre ++ [(l.take (bdr l b m)).drop b]) ++ pcA l m f' (bdr l b m) ∧ l.length - bdr l b m ≤ f') := hide (fun pre f h3 h4 => by
        obtain ⟨f', rfl⟩ : ∃ f', f = f' + 1 := ⟨f - 1, by omega⟩
        refine ⟨f', ?_, by omega⟩
        rw [h3]
        conv => lhs; unfold pcA
        rw [if_pos hlt]
        simp)
      clear HE
      generalize bdr l b m = e at *
      go_wp2_with fail
      refine hbd.mono ?_
      rintro y w1 ⟨rfl, x1⟩
      have b1 := hbl.trans (x1.mono hbl.size)
      have hB1 := (unhide HB).1.below b1 (Nat.le_refl _)
      have hL1 : Lies w1 g off l := by
        rcases hB1.1.2.2.1 with h3 | ⟨g', off', e', hL⟩
        · rw [h3] at hlt; simp at hlt
        · cases e'; exact hL
      have hpl : ((l.take e).drop b).length = e - b := by rw [List.length_drop, List.length_take]; omega
      have hpN : IsN w1 (some ⟨g, off + b, none⟩) (cap - b) ((l.take e).drop b) := ⟨⟨by omega, by omega, Or.inr ⟨g, off + b, rfl, lies_piece hL1 e2⟩, fun x hx => unhide HLB x (List.mem_of_mem_take (List.mem_of_mem_drop hx))⟩, fun h => by cases h⟩
      have hof := of_is g (off + b) (cap - b) (e - b) ((l.take e).drop b) w1 hpl.symm hpN (by omega) ((unhide HB).2.below b1)
      clear hbd hpN hL1 hB1 hBx hWx
      have HPL := hide hpl
      clear hpl
      have s1 : (e : Int) - (b : Int) = ((e - b : Nat) : Int) := by omega
      go_wp2_with fail
      refine hof.mono ?_
      rintro y w2 ⟨gp, rfl, k2, zg, x2⟩
      have b2 := b1.trans (x2.mono b1.size)
      obtain ⟨pre, f, p1, p2, p3, p4⟩ := (unhide HI).p
      have o2 : w2.ownsRow w.heap.size 22 1 _ gs.length (ptrs gs) := ((unhide HI).o.kept (row := none) ⟨x1.os, x1.tape, x1.output, x1.size, fun j hj _ => x1.block j hj⟩ (Classical.em _)).kept (row := none) ⟨x2.os, x2.tape, x2.output, x2.size, fun j hj _ => x2.block j hj⟩ (Classical.em _)
      have hgl : gs.length ≤ 1048576 := by have := p3.1; omega
      have l2 := ((p3.on x1).on x2).snoc k2 (Nat.le_trans b1.size zg)
      have hap := lvs_apart l2 o2
      obtain ⟨g2, c2, w3, r3, o3, gr3, y3⟩ := push_lf w2 w.heap.size _ _ _ gp 27 o2 (by omega) b2.size
      obtain ⟨f', q1, q2⟩ := unhide HP pre f p1 p2
      have HI3 : Hid (CuI w l m e (gs ++ [gp]) (.slice (some ⟨g2, 0, none⟩) (gs.length + 1) c2) w3) := hide ⟨⟨_, f', q1, q2, l2.kept gr3 hap, by rw [List.length_append, List.length_singleton]; omega⟩, by rw [List.length_append, List.length_singleton, ptrs_snoc]; exact o3⟩
      have b3 := b2.trans y3
      have R3 := hide r3
      clear r3 o3 gr3 y3 o2 l2 hap p1 p2 p3 p4 q1 q2 k2 zg x1 x2 b1 b2 hof HI HP HPL
      go_wp2_with (at_builtin; refine wpList_append_known rfl _ _ 27 27 rfl _ _ rfl rfl _ _ (unhide R3) ?_)
      go_roundw
      case rel => exact ⟨e, gs ++ [gp], e2, rfl, ⟨_, rfl⟩, HI3, b3⟩
      case measure => simp [intOf]; omega
    · obtain rfl : b = l.length := by omega
      obtain ⟨pre, f, p1, _, p3, _⟩ := (unhide HI).p
      rw [pcA_end hlt, List.append_nil] at p1
      have HF := hide (And.intro p1 (And.intro p3 (unhide HI).o))
      clear p1 p3 HI
      have t1 : decide ((l.length : Int) < (l.length : Int)) = false := decide_eq_false (by omega)
      go_wp2_with fail
      refine bodyPost_ret (results_tmp2 rfl _ _ _) rfl ?_
      refine ⟨_, gs, rfl, (unhide HF).2.2, ?_, hbl⟩
      rw [(unhide HF).1]
      exact (unhide HF).2.1

end Go.Proofs.YtljpdbodieepnaaDoor
