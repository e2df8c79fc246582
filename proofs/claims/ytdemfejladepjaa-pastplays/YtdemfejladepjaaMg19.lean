/- Layer 17: the document's past: Do, End, Undo and Redo that change its lists. Written by wip/tools/pvb.py. -/
import Derived.Test.YtdemfejladepjaaMg18

namespace Go.Proofs.Ytdemfejladepjaa
open Go.ChangeShapes Go.WideShapes Go.ChangeAt Go.RowKit
attribute [local go_sem] Oper.semAt_some

set_option maxRecDepth 100000 in
set_option maxHeartbeats 4000000 in
theorem RDo0_at (X : World) (D : Nat → Prop) (c : Array Value) (p : Pa Int) (h : IsD X D c p) (hok : OkP p) (x : Int) (w : ByteArray) (ho : p.o = none) :
    Calls Try.prog 28 #[.agg c, .int .i64 x, .string w] X fun y Y => ∃ c' D', y = .returned (.tuple #[.agg c', .int .i64 0]) ∧ IsD Y D' c' (doP p x w) ∧ (∀ i, D' i → D i ∨ X.heap.size ≤ i) ∧ Below X.heap.size X Y := by
  have hdo : doP p x w = ⟨x, p.m, keepP p.m p.b (p.s, w), [], none⟩ := by unfold doP; rw [ho]
  rw [hdo]
  obtain ⟨vb, va, kb, ka, w0, f0, d0, rfl, h1, h2, h3, h4⟩ := h
  obtain ⟨bA, bC, rfl⟩ := h1.val
  obtain ⟨aA, aC, rfl⟩ := h2.val
  rw [ho]
  dsimp only [Option.isSome_none]
  have HM := hide (show (p.b.length : Int) ≤ p.m by have := hok.l; omega)
  have HM2 := hide hok.m1
  have H1 := hide h1
  clear hdo h1 h2 h3 h4 ho hok
  go_enter Try.func28, Try.ntmps28
  go_upto_region 1 with fail
  obtain ⟨W0, hE, HA, HR, HK0⟩ := new2B (LBf X.heap.size 2) X #[.bool false, .int .i64 p.s, .int .i64 p.m, .slice bA p.b.length bC, .slice aA p.a.length aC, .bool false, .string w0, .int .i64 f0, .bool d0] 44 #[.bool false, .int .i64 0, .int .i64 0, .slice none 0 0, .slice none 0 0, .bool false, .string ⟨#[]⟩, .int .i64 0, .bool false] 44
  rw [hE]
  clear hE
  have c_A0 : W0.cell? ⟨X.heap.size, 0, none⟩ = some (.bool false) := ((unhide HA).cell 0).trans rfl
  have c_A4 : W0.cell? ⟨X.heap.size, 4, none⟩ = some (.slice aA p.a.length aC) := ((unhide HA).cell 4).trans rfl
  have zc_A4 : W0.frozen? ⟨X.heap.size, 4, none⟩ = false := (unhide HA).frozen 4
  go_upto_region 4 with fail
  generalize hE : (W0.setCell ⟨X.heap.size, 4, none⟩ (.slice none 0 0)) = W1 at *
  have NA : Hid (Cls W1 (X.heap.size) 44 #[.bool false, .int .i64 p.s, .int .i64 p.m, .slice bA p.b.length bC, .slice none 0 0, .bool false, .string w0, .int .i64 f0, .bool d0]) := hide (by rw [← hE]; simpa using (unhide HA).set 4 (.slice none 0 0))
  have NR : Hid (Cls W1 (X.heap.size + 1) 44 _) := hide (by rw [← hE]; exact (unhide HR).other ⟨X.heap.size, 4, none⟩ (.slice none 0 0) (by first | omega | (dsimp only; omega)))
  have NHK0 : Hid (KpF _ X W1) := hide (by rw [← hE]; exact (unhide HK0).upd ⟨X.heap.size, 4, none⟩ (.slice none 0 0) (.inr (by first | omega | (dsimp only; omega))))
  clear hE HA HR HK0
  have HA := NA
  have HR := NR
  have HK0 := NHK0
  clear NA NR NHK0
  clear c_A0 c_A4 zc_A4
  have HC := hide (more_at W1 (.slice bA p.b.length bC) p.b kb ((unhide H1).old (unhide HK0)) p.s w p.m (unhide HM) (unhide HM2))
  have HZn : Hid (X.heap.size + 2 ≤ W1.heap.size) := hide (by have := (unhide HR).lt; omega)
  have c_A5 : W1.cell? ⟨X.heap.size, 5, none⟩ = some (.bool false) := ((unhide HA).cell 5).trans rfl
  have c_A3 : W1.cell? ⟨X.heap.size, 3, none⟩ = some (.slice bA p.b.length bC) := ((unhide HA).cell 3).trans rfl
  have c_A1 : W1.cell? ⟨X.heap.size, 1, none⟩ = some (.int .i64 p.s) := ((unhide HA).cell 1).trans rfl
  have c_A2 : W1.cell? ⟨X.heap.size, 2, none⟩ = some (.int .i64 p.m) := ((unhide HA).cell 2).trans rfl
  go_wp2_with fail
  refine (unhide HC).mono ?_
  rintro y w1 ⟨v', kn, rfl, rn, ln, xn⟩
  dsimp only
  obtain ⟨nA, nC, rfl⟩ := rn.val
  have Rn := hide rn
  have Ln := hide ln
  have Xn := hide xn
  clear HC rn ln
  have NA := hide ((unhide HA).kpf (KpF.of (F := fun _ => False) (unhide Xn)) (fun e => e))
  have NR := hide ((unhide HR).kpf (KpF.of (F := fun _ => False) (unhide Xn)) (fun e => e))
  have NHK0 := hide ((unhide HK0).bel (unhide Xn))
  clear HA HR HK0
  have HA := NA
  have HR := NR
  have HK0 := NHK0
  clear NA NR NHK0
  have HK1 := hide (KpF.refl (LBf X.heap.size 2) w1)
  clear Xn xn
  clear c_A5 c_A3 c_A1 c_A2
  have c_A3 : w1.cell? ⟨X.heap.size, 3, none⟩ = some (.slice bA p.b.length bC) := ((unhide HA).cell 3).trans rfl
  have zc_A3 : w1.frozen? ⟨X.heap.size, 3, none⟩ = false := (unhide HA).frozen 3
  go_upto_region 7 with fail
  generalize hE : (w1.setCell ⟨X.heap.size, 3, none⟩ (.slice nA (keepP p.m p.b (p.s, w)).length nC)) = W2 at *
  have NA : Hid (Cls W2 (X.heap.size) 44 #[.bool false, .int .i64 p.s, .int .i64 p.m, .slice nA (keepP p.m p.b (p.s, w)).length nC, .slice none 0 0, .bool false, .string w0, .int .i64 f0, .bool d0]) := hide (by rw [← hE]; simpa using (unhide HA).set 3 (.slice nA (keepP p.m p.b (p.s, w)).length nC))
  have NR : Hid (Cls W2 (X.heap.size + 1) 44 _) := hide (by rw [← hE]; exact (unhide HR).other ⟨X.heap.size, 3, none⟩ (.slice nA (keepP p.m p.b (p.s, w)).length nC) (by first | omega | (dsimp only; omega)))
  have NHK0 : Hid (KpF _ X W2) := hide (by rw [← hE]; exact (unhide HK0).upd ⟨X.heap.size, 3, none⟩ (.slice nA (keepP p.m p.b (p.s, w)).length nC) (.inr (by first | omega | (dsimp only; omega))))
  have NHK1 : Hid (KpF _ w1 W2) := hide (by rw [← hE]; exact (unhide HK1).upd ⟨X.heap.size, 3, none⟩ (.slice nA (keepP p.m p.b (p.s, w)).length nC) (.inl ⟨by first | omega | (dsimp only; omega), by first | omega | (dsimp only; omega)⟩))
  clear hE HA HR HK0 HK1
  have HA := NA
  have HR := NR
  have HK0 := NHK0
  have HK1 := NHK1
  clear NA NR NHK0 NHK1
  clear c_A3 zc_A3
  have c_A1 : W2.cell? ⟨X.heap.size, 1, none⟩ = some (.int .i64 p.s) := ((unhide HA).cell 1).trans rfl
  have zc_A1 : W2.frozen? ⟨X.heap.size, 1, none⟩ = false := (unhide HA).frozen 1
  go_upto_region 8 with fail
  generalize hE : (W2.setCell ⟨X.heap.size, 1, none⟩ (.int .i64 x)) = W3 at *
  have NA : Hid (Cls W3 (X.heap.size) 44 #[.bool false, .int .i64 x, .int .i64 p.m, .slice nA (keepP p.m p.b (p.s, w)).length nC, .slice none 0 0, .bool false, .string w0, .int .i64 f0, .bool d0]) := hide (by rw [← hE]; simpa using (unhide HA).set 1 (.int .i64 x))
  have NR : Hid (Cls W3 (X.heap.size + 1) 44 _) := hide (by rw [← hE]; exact (unhide HR).other ⟨X.heap.size, 1, none⟩ (.int .i64 x) (by first | omega | (dsimp only; omega)))
  have NHK0 : Hid (KpF _ X W3) := hide (by rw [← hE]; exact (unhide HK0).upd ⟨X.heap.size, 1, none⟩ (.int .i64 x) (.inr (by first | omega | (dsimp only; omega))))
  have NHK1 : Hid (KpF _ w1 W3) := hide (by rw [← hE]; exact (unhide HK1).upd ⟨X.heap.size, 1, none⟩ (.int .i64 x) (.inl ⟨by first | omega | (dsimp only; omega), by first | omega | (dsimp only; omega)⟩))
  clear hE HA HR HK0 HK1
  have HA := NA
  have HR := NR
  have HK0 := NHK0
  have HK1 := NHK1
  clear NA NR NHK0 NHK1
  clear c_A1 zc_A1
  obtain ⟨c_A0, c_A1, c_A2, c_A3, c_A4, c_A5, c_A6, c_A7, c_A8⟩ := (unhide HA).cells9
  obtain ⟨c_R0, c_R1, c_R2, c_R3, c_R4, c_R5, c_R6, c_R7, c_R8⟩ := (unhide HR).cells9
  obtain ⟨zc_R0, zc_R1, zc_R2, zc_R3, zc_R4, zc_R5, zc_R6, zc_R7, zc_R8⟩ := (unhide HR).froz9
  go_wp2_with fail
  obtain ⟨WF, hE, kh⟩ := sto9 (unhide HR) (.bool false) (.int .i64 x) (.int .i64 p.m) (.slice nA (keepP p.m p.b (p.s, w)).length nC) (.slice none 0 0) (.bool false) (.string w0) (.int .i64 f0) (.bool d0)
  rw [hE]
  have k_R := unhide kh
  obtain ⟨q_R0, q_R1, q_R2, q_R3, q_R4, q_R5, q_R6, q_R7, q_R8⟩ := k_R.cells9
  have NHK0 : Hid (KpF _ X WF) := hide (by rw [← hE]; exact KpF.upd9 (unhide HK0) (.inr (by first | omega | (dsimp only; omega))))
  have NHK1 : Hid (KpF _ w1 WF) := hide (by rw [← hE]; exact KpF.upd9 (unhide HK1) (.inl ⟨by first | omega | (dsimp only; omega), by first | omega | (dsimp only; omega)⟩))
  clear hE
  refine bodyPost_ret (v := .tuple #[.agg #[.bool false, .int .i64 x, .int .i64 p.m, .slice nA (keepP p.m p.b (p.s, w)).length nC, .slice none 0 0, .bool false, .string w0, .int .i64 f0, .bool d0], .int .i64 0]) (by simp [results, Try.results28, go_sem, q_R0, q_R1, q_R2, q_R3, q_R4, q_R5, q_R6, q_R7, q_R8]) rfl ?_
  exact ⟨_, fun i => kn = some i ∨ (none : Option Nat) = some i, rfl, ⟨_, _, kn, none, w0, f0, d0, rfl, (unhide Rn).new (unhide NHK1) (unhide Ln) (unhide HZn), RA.nil _ _, fun _ => Iff.rfl, fun x e he => (nomatch he)⟩, (fun i e => by rcases e with e | e; exact .inr (by have := unhide Ln i e; have := unhide HZn; omega); cases e), (unhide NHK0).belX⟩
set_option maxRecDepth 100000 in
set_option maxHeartbeats 4000000 in
theorem REndFalse_at (X : World) (D : Nat → Prop) (c : Array Value) (p : Pa Int) (h : IsD X D c p) (hok : OkP p) (y0 : Int × ByteArray) (ho : p.o = some (y0, false)) :
    Calls Try.prog 36 #[.agg c] X fun y Y => ∃ c' D', y = .returned (.tuple #[.agg c', .int .i64 0]) ∧ IsD Y D' c' ((endP p).1) ∧ (∀ i, D' i → D i ∨ X.heap.size ≤ i) ∧ Below X.heap.size X Y := by
  have hf : (endP p).1 = { p with o := none, b := p.b } := by unfold endP; rw [ho]; rfl
  rw [hf]
  obtain ⟨vb, va, kb, ka, w0, f0, d0, rfl, h1, h2, h3, h4⟩ := h
  obtain ⟨bA, bC, rfl⟩ := h1.val
  obtain ⟨aA, aC, rfl⟩ := h2.val
  obtain ⟨h5, rfl⟩ := h4 y0 false ho
  subst h5
  rw [ho]
  dsimp only [Option.isSome_some]
  have HM := hide (show (p.b.length : Int) ≤ p.m by have := hok.l; omega)
  have HM2 := hide hok.m1
  have H1 := hide h1
  have H2 := hide h2
  have H3 := hide h3
  clear hf h1 h2 h3 h4 ho hok
  go_enter Try.func36, Try.ntmps36
  go_upto_region 1 with fail
  obtain ⟨W0, hE, HA, HR, HK0⟩ := new2B (LBf X.heap.size 2) X #[.bool false, .int .i64 p.s, .int .i64 p.m, .slice bA p.b.length bC, .slice aA p.a.length aC, .bool true, .string w0, .int .i64 f0, .bool false] 44 #[.bool false, .int .i64 0, .int .i64 0, .slice none 0 0, .slice none 0 0, .bool false, .string ⟨#[]⟩, .int .i64 0, .bool false] 44
  rw [hE]
  clear hE
  have c_A0 : W0.cell? ⟨X.heap.size, 0, none⟩ = some (.bool false) := ((unhide HA).cell 0).trans rfl
  have c_A5 : W0.cell? ⟨X.heap.size, 5, none⟩ = some (.bool true) := ((unhide HA).cell 5).trans rfl
  have zc_A5 : W0.frozen? ⟨X.heap.size, 5, none⟩ = false := (unhide HA).frozen 5
  go_upto_region 6 with fail
  generalize hE : (W0.setCell ⟨X.heap.size, 5, none⟩ (.bool false)) = W1 at *
  have NA : Hid (Cls W1 (X.heap.size) 44 #[.bool false, .int .i64 p.s, .int .i64 p.m, .slice bA p.b.length bC, .slice aA p.a.length aC, .bool false, .string w0, .int .i64 f0, .bool false]) := hide (by rw [← hE]; simpa using (unhide HA).set 5 (.bool false))
  have NR : Hid (Cls W1 (X.heap.size + 1) 44 _) := hide (by rw [← hE]; exact (unhide HR).other ⟨X.heap.size, 5, none⟩ (.bool false) (by first | omega | (dsimp only; omega)))
  have NHK0 : Hid (KpF _ X W1) := hide (by rw [← hE]; exact (unhide HK0).upd ⟨X.heap.size, 5, none⟩ (.bool false) (.inr (by first | omega | (dsimp only; omega))))
  clear hE HA HR HK0
  have HA := NA
  have HR := NR
  have HK0 := NHK0
  clear NA NR NHK0
  clear c_A0 c_A5 zc_A5
  obtain ⟨c_A0, c_A1, c_A2, c_A3, c_A4, c_A5, c_A6, c_A7, c_A8⟩ := (unhide HA).cells9
  obtain ⟨c_R0, c_R1, c_R2, c_R3, c_R4, c_R5, c_R6, c_R7, c_R8⟩ := (unhide HR).cells9
  obtain ⟨zc_R0, zc_R1, zc_R2, zc_R3, zc_R4, zc_R5, zc_R6, zc_R7, zc_R8⟩ := (unhide HR).froz9
  go_wp2_with fail
  obtain ⟨WF, hE, kh⟩ := sto9 (unhide HR) (.bool false) (.int .i64 p.s) (.int .i64 p.m) (.slice bA p.b.length bC) (.slice aA p.a.length aC) (.bool false) (.string w0) (.int .i64 f0) (.bool false)
  rw [hE]
  have k_R := unhide kh
  obtain ⟨q_R0, q_R1, q_R2, q_R3, q_R4, q_R5, q_R6, q_R7, q_R8⟩ := k_R.cells9
  have NHK0 : Hid (KpF _ X WF) := hide (by rw [← hE]; exact KpF.upd9 (unhide HK0) (.inr (by first | omega | (dsimp only; omega))))
  clear hE
  refine bodyPost_ret (v := .tuple #[.agg #[.bool false, .int .i64 p.s, .int .i64 p.m, .slice bA p.b.length bC, .slice aA p.a.length aC, .bool false, .string w0, .int .i64 f0, .bool false], .int .i64 0]) (by simp [results, Try.results36, go_sem, q_R0, q_R1, q_R2, q_R3, q_R4, q_R5, q_R6, q_R7, q_R8]) rfl ?_
  exact ⟨_, fun i => kb = some i ∨ ka = some i, rfl, ⟨_, _, kb, ka, w0, f0, false, rfl, (unhide H1).old (unhide NHK0), (unhide H2).old (unhide NHK0), fun _ => Iff.rfl, fun x e he => (nomatch he)⟩, (fun i e => .inl ((unhide H3 i).2 e)), (unhide NHK0).belX⟩
set_option maxRecDepth 100000 in
set_option maxHeartbeats 4000000 in
theorem REndTrue_at (X : World) (D : Nat → Prop) (c : Array Value) (p : Pa Int) (h : IsD X D c p) (hok : OkP p) (y0 : Int × ByteArray) (ho : p.o = some (y0, true)) :
    Calls Try.prog 36 #[.agg c] X fun y Y => ∃ c' D', y = .returned (.tuple #[.agg c', .int .i64 0]) ∧ IsD Y D' c' ((endP p).1) ∧ (∀ i, D' i → D i ∨ X.heap.size ≤ i) ∧ Below X.heap.size X Y := by
  have hf : (endP p).1 = { p with o := none, b := keepP p.m p.b y0 } := by unfold endP; rw [ho]; rfl
  rw [hf]
  obtain ⟨vb, va, kb, ka, w0, f0, d0, rfl, h1, h2, h3, h4⟩ := h
  obtain ⟨bA, bC, rfl⟩ := h1.val
  obtain ⟨aA, aC, rfl⟩ := h2.val
  obtain ⟨h5, rfl⟩ := h4 y0 true ho
  subst h5
  rw [ho]
  dsimp only [Option.isSome_some]
  have HM := hide (show (p.b.length : Int) ≤ p.m by have := hok.l; omega)
  have HM2 := hide hok.m1
  have H1 := hide h1
  have H2 := hide h2
  have H3 := hide h3
  clear hf h1 h2 h3 h4 ho hok
  go_enter Try.func36, Try.ntmps36
  go_upto_region 1 with fail
  obtain ⟨W0, hE, HA, HR, HK0⟩ := new2B (LBf X.heap.size 2) X #[.bool false, .int .i64 p.s, .int .i64 p.m, .slice bA p.b.length bC, .slice aA p.a.length aC, .bool true, .string w0, .int .i64 f0, .bool true] 44 #[.bool false, .int .i64 0, .int .i64 0, .slice none 0 0, .slice none 0 0, .bool false, .string ⟨#[]⟩, .int .i64 0, .bool false] 44
  rw [hE]
  clear hE
  have c_A0 : W0.cell? ⟨X.heap.size, 0, none⟩ = some (.bool false) := ((unhide HA).cell 0).trans rfl
  have c_A5 : W0.cell? ⟨X.heap.size, 5, none⟩ = some (.bool true) := ((unhide HA).cell 5).trans rfl
  have zc_A5 : W0.frozen? ⟨X.heap.size, 5, none⟩ = false := (unhide HA).frozen 5
  go_upto_region 6 with fail
  generalize hE : (W0.setCell ⟨X.heap.size, 5, none⟩ (.bool false)) = W1 at *
  have NA : Hid (Cls W1 (X.heap.size) 44 #[.bool false, .int .i64 p.s, .int .i64 p.m, .slice bA p.b.length bC, .slice aA p.a.length aC, .bool false, .string w0, .int .i64 f0, .bool true]) := hide (by rw [← hE]; simpa using (unhide HA).set 5 (.bool false))
  have NR : Hid (Cls W1 (X.heap.size + 1) 44 _) := hide (by rw [← hE]; exact (unhide HR).other ⟨X.heap.size, 5, none⟩ (.bool false) (by first | omega | (dsimp only; omega)))
  have NHK0 : Hid (KpF _ X W1) := hide (by rw [← hE]; exact (unhide HK0).upd ⟨X.heap.size, 5, none⟩ (.bool false) (.inr (by first | omega | (dsimp only; omega))))
  clear hE HA HR HK0
  have HA := NA
  have HR := NR
  have HK0 := NHK0
  clear NA NR NHK0
  clear c_A0 c_A5 zc_A5
  have HC := hide (more_at W1 (.slice bA p.b.length bC) p.b kb ((unhide H1).old (unhide HK0)) f0 w0 p.m (unhide HM) (unhide HM2))
  have HZn : Hid (X.heap.size + 2 ≤ W1.heap.size) := hide (by have := (unhide HR).lt; omega)
  have c_A8 : W1.cell? ⟨X.heap.size, 8, none⟩ = some (.bool true) := ((unhide HA).cell 8).trans rfl
  have c_A3 : W1.cell? ⟨X.heap.size, 3, none⟩ = some (.slice bA p.b.length bC) := ((unhide HA).cell 3).trans rfl
  have c_A7 : W1.cell? ⟨X.heap.size, 7, none⟩ = some (.int .i64 f0) := ((unhide HA).cell 7).trans rfl
  have c_A6 : W1.cell? ⟨X.heap.size, 6, none⟩ = some (.string w0) := ((unhide HA).cell 6).trans rfl
  have c_A2 : W1.cell? ⟨X.heap.size, 2, none⟩ = some (.int .i64 p.m) := ((unhide HA).cell 2).trans rfl
  go_wp2_with fail
  refine (unhide HC).mono ?_
  rintro y w1 ⟨v', kn, rfl, rn, ln, xn⟩
  dsimp only
  obtain ⟨nA, nC, rfl⟩ := rn.val
  have Rn := hide rn
  have Ln := hide ln
  have Xn := hide xn
  clear HC rn ln
  have NA := hide ((unhide HA).kpf (KpF.of (F := fun _ => False) (unhide Xn)) (fun e => e))
  have NR := hide ((unhide HR).kpf (KpF.of (F := fun _ => False) (unhide Xn)) (fun e => e))
  have NHK0 := hide ((unhide HK0).bel (unhide Xn))
  clear HA HR HK0
  have HA := NA
  have HR := NR
  have HK0 := NHK0
  clear NA NR NHK0
  have HK1 := hide (KpF.refl (LBf X.heap.size 2) w1)
  clear Xn xn
  clear c_A8 c_A3 c_A7 c_A6 c_A2
  have c_A3 : w1.cell? ⟨X.heap.size, 3, none⟩ = some (.slice bA p.b.length bC) := ((unhide HA).cell 3).trans rfl
  have zc_A3 : w1.frozen? ⟨X.heap.size, 3, none⟩ = false := (unhide HA).frozen 3
  go_upto_region 8 with fail
  generalize hE : (w1.setCell ⟨X.heap.size, 3, none⟩ (.slice nA (keepP p.m p.b (f0, w0)).length nC)) = W2 at *
  have NA : Hid (Cls W2 (X.heap.size) 44 #[.bool false, .int .i64 p.s, .int .i64 p.m, .slice nA (keepP p.m p.b (f0, w0)).length nC, .slice aA p.a.length aC, .bool false, .string w0, .int .i64 f0, .bool true]) := hide (by rw [← hE]; simpa using (unhide HA).set 3 (.slice nA (keepP p.m p.b (f0, w0)).length nC))
  have NR : Hid (Cls W2 (X.heap.size + 1) 44 _) := hide (by rw [← hE]; exact (unhide HR).other ⟨X.heap.size, 3, none⟩ (.slice nA (keepP p.m p.b (f0, w0)).length nC) (by first | omega | (dsimp only; omega)))
  have NHK0 : Hid (KpF _ X W2) := hide (by rw [← hE]; exact (unhide HK0).upd ⟨X.heap.size, 3, none⟩ (.slice nA (keepP p.m p.b (f0, w0)).length nC) (.inr (by first | omega | (dsimp only; omega))))
  have NHK1 : Hid (KpF _ w1 W2) := hide (by rw [← hE]; exact (unhide HK1).upd ⟨X.heap.size, 3, none⟩ (.slice nA (keepP p.m p.b (f0, w0)).length nC) (.inl ⟨by first | omega | (dsimp only; omega), by first | omega | (dsimp only; omega)⟩))
  clear hE HA HR HK0 HK1
  have HA := NA
  have HR := NR
  have HK0 := NHK0
  have HK1 := NHK1
  clear NA NR NHK0 NHK1
  clear c_A3 zc_A3
  obtain ⟨c_A0, c_A1, c_A2, c_A3, c_A4, c_A5, c_A6, c_A7, c_A8⟩ := (unhide HA).cells9
  obtain ⟨c_R0, c_R1, c_R2, c_R3, c_R4, c_R5, c_R6, c_R7, c_R8⟩ := (unhide HR).cells9
  obtain ⟨zc_R0, zc_R1, zc_R2, zc_R3, zc_R4, zc_R5, zc_R6, zc_R7, zc_R8⟩ := (unhide HR).froz9
  go_wp2_with fail
  obtain ⟨WF, hE, kh⟩ := sto9 (unhide HR) (.bool false) (.int .i64 p.s) (.int .i64 p.m) (.slice nA (keepP p.m p.b (f0, w0)).length nC) (.slice aA p.a.length aC) (.bool false) (.string w0) (.int .i64 f0) (.bool true)
  rw [hE]
  have k_R := unhide kh
  obtain ⟨q_R0, q_R1, q_R2, q_R3, q_R4, q_R5, q_R6, q_R7, q_R8⟩ := k_R.cells9
  have NHK0 : Hid (KpF _ X WF) := hide (by rw [← hE]; exact KpF.upd9 (unhide HK0) (.inr (by first | omega | (dsimp only; omega))))
  have NHK1 : Hid (KpF _ w1 WF) := hide (by rw [← hE]; exact KpF.upd9 (unhide HK1) (.inl ⟨by first | omega | (dsimp only; omega), by first | omega | (dsimp only; omega)⟩))
  clear hE
  refine bodyPost_ret (v := .tuple #[.agg #[.bool false, .int .i64 p.s, .int .i64 p.m, .slice nA (keepP p.m p.b (f0, w0)).length nC, .slice aA p.a.length aC, .bool false, .string w0, .int .i64 f0, .bool true], .int .i64 0]) (by simp [results, Try.results36, go_sem, q_R0, q_R1, q_R2, q_R3, q_R4, q_R5, q_R6, q_R7, q_R8]) rfl ?_
  exact ⟨_, fun i => kn = some i ∨ ka = some i, rfl, ⟨_, _, kn, ka, w0, f0, true, rfl, (unhide Rn).new (unhide NHK1) (unhide Ln) (unhide HZn), (unhide H2).old (unhide NHK0), fun _ => Iff.rfl, fun x e he => (nomatch he)⟩, (fun i e => by rcases e with e | e; exact .inr (by have := unhide Ln i e; have := unhide HZn; omega); exact .inl ((unhide H3 i).2 (.inr e))), (unhide NHK0).belX⟩
set_option maxRecDepth 100000 in
set_option maxHeartbeats 4000000 in
theorem RUndo1_at (X : World) (D : Nat → Prop) (c : Array Value) (p : Pa Int) (h : IsD X D c p) (ho : p.o = none) (Q : List (Int × ByteArray)) (x : Int × ByteArray) (hp : p.b = Q ++ [x]) (hq : Q.length ≤ 4096) (hn : (p.a.length : Int) + 1 ≤ 4096) :
    Calls Try.prog 30 #[.agg c] X fun y Y => ∃ c' D', y = .returned (.tuple #[.agg c', .agg #[.int .i64 x.1, .string x.2], .int .i64 0]) ∧ IsD Y D' c' { p with s := x.1, b := Q, a := p.a ++ [(p.s, x.2)] } ∧ (∀ i, D' i → D i ∨ X.heap.size ≤ i) ∧ Below X.heap.size X Y := by
  obtain ⟨vb, va, kb, ka, w0, f0, d0, rfl, h1, h2, h3, h4⟩ := h
  have hz : (Q ++ [x]).length = Q.length + 1 := by simp
  rw [hp] at h1
  have HRow := hide h1
  unfold RD at h1
  rw [hz] at h1
  obtain ⟨gg, oo, cc, rfl, hkg, hg, hcap, j1, hcell⟩ := RA.form h1 (by omega)
  obtain ⟨tA, tC, rfl⟩ := h2.val
  have hidx : Q.length < (Q ++ [x]).length := by omega
  have hlast : (Q ++ [x])[Q.length]'hidx = x := by simp
  have HC0 : Hid (∀ Z, KpF (LBf X.heap.size 3) X Z → Z.cell? ⟨gg, oo + Q.length * 2, none⟩ = some (.int .i64 x.1) ∧ Z.cell? ⟨gg, oo + Q.length * 2 + 1, none⟩ = some (.string x.2)) := hide fun Z k => by
    have hb := k.block gg hg (fun e => by have := e.1; omega)
    have e1 := (hcell (Q.length * 2 + 0) (by omega)).trans (stI_get0 _ Q.length hidx)
    have e2 := (hcell (Q.length * 2 + 1) (by omega)).trans (stI_get1 _ Q.length hidx)
    rw [hlast] at e1 e2
    rw [Nat.add_zero] at e1
    rw [← Nat.add_assoc] at e2
    exact ⟨(World.cell?_of_block (a := ⟨gg, oo + Q.length * 2, none⟩) hb).trans e1, (World.cell?_of_block (a := ⟨gg, oo + Q.length * 2 + 1, none⟩) hb).trans e2⟩
  have HTow := hide h2
  have H3 := hide h3
  have HQ := hide hq
  have HN := hide hn
  have w1 : wrap64 ((Q.length : Int) + 1 - 1) = Q.length := by unfold wrap64; omega
  have w2 : wrap64 (Q.length : Int) = Q.length := by unfold wrap64; omega
  rw [ho]
  dsimp only [Option.isSome_none]
  clear j1 hcell hlast hidx h1 h2 h3 h4 ho hz hp hq hn hcap
  obtain ⟨N, hN⟩ : ∃ N, Q.length = N := ⟨_, rfl⟩
  rw [hN] at HC0 HRow w1 w2 ⊢
  have HNN := hide hN
  clear hN
  go_enter Try.func30, Try.ntmps30
  go_upto_region 1 with fail
  obtain ⟨W0, hE, HA, HR, HS, HK0⟩ := new3B (LBf X.heap.size 3) X #[.bool false, .int .i64 p.s, .int .i64 p.m, .slice (some ⟨gg, oo, none⟩) (N + 1) cc, .slice tA p.a.length tC, .bool false, .string w0, .int .i64 f0, .bool d0] 44 #[.bool false, .int .i64 0, .int .i64 0, .slice none 0 0, .slice none 0 0, .bool false, .string ⟨#[]⟩, .int .i64 0, .bool false] 44 #[.int .i64 0, .string ⟨#[]⟩] 82
  rw [hE]
  clear hE
  have c_A0 : W0.cell? ⟨X.heap.size, 0, none⟩ = some (.bool false) := ((unhide HA).cell 0).trans rfl
  have c_A5 : W0.cell? ⟨X.heap.size, 5, none⟩ = some (.bool false) := ((unhide HA).cell 5).trans rfl
  have c_A3 : W0.cell? ⟨X.heap.size, 3, none⟩ = some (.slice (some ⟨gg, oo, none⟩) (N + 1) cc) := ((unhide HA).cell 3).trans rfl
  obtain ⟨d0_, d1_⟩ := unhide HC0 _ (unhide HK0)
  have hzT : X.heap.size + 3 ≤ W0.heap.size := (unhide HS).lt
  have NA := hide ((unhide HA).alloc (.cells #[.int .i64 x.1, .string x.2] 82))
  have NR := hide ((unhide HR).alloc (.cells #[.int .i64 x.1, .string x.2] 82))
  have NS := hide ((unhide HS).alloc (.cells #[.int .i64 x.1, .string x.2] 82))
  have NT := hide (Cls.new W0 82 #[.int .i64 x.1, .string x.2])
  have NHK0 := hide ((unhide HK0).al (.cells #[.int .i64 x.1, .string x.2] 82))
  clear HA HR HS HK0
  go_upto_region 8 with fail
  generalize (W0.alloc (.cells #[.int .i64 x.1, .string x.2] 82)) = W1 at *
  have HA := NA
  have HR := NR
  have HS := NS
  have HT := NT
  have HK0 := NHK0
  clear NA NR NS NT NHK0
  clear c_A0 c_A5 c_A3 d0_ d1_
  have HC := hide (less_at W1 (.slice (some ⟨gg, oo, none⟩) (N + 1) cc) Q x kb ((unhide HRow).old (unhide HK0)) (unhide HQ))
  have HZn : Hid (X.heap.size + 3 ≤ W1.heap.size) := hide (by have := (unhide HS).lt; omega)
  have c_A3 : W1.cell? ⟨X.heap.size, 3, none⟩ = some (.slice (some ⟨gg, oo, none⟩) (N + 1) cc) := ((unhide HA).cell 3).trans rfl
  go_wp2_with fail
  refine (unhide HC).mono ?_
  rintro y w3 ⟨v', kn, rfl, rn, ln, xn⟩
  dsimp only
  obtain ⟨nA, nC, rfl⟩ := rn.val
  have Rn := hide rn
  have Ln := hide ln
  have Xn := hide xn
  clear HC rn ln
  have NA := hide ((unhide HA).kpf (KpF.of (F := fun _ => False) (unhide Xn)) (fun e => e))
  have NR := hide ((unhide HR).kpf (KpF.of (F := fun _ => False) (unhide Xn)) (fun e => e))
  have NS := hide ((unhide HS).kpf (KpF.of (F := fun _ => False) (unhide Xn)) (fun e => e))
  have NT := hide ((unhide HT).kpf (KpF.of (F := fun _ => False) (unhide Xn)) (fun e => e))
  have NHK0 := hide ((unhide HK0).bel (unhide Xn))
  clear HA HR HS HT HK0
  have HA := NA
  have HR := NR
  have HS := NS
  have HT := NT
  have HK0 := NHK0
  clear NA NR NS NT NHK0
  have HK1 := hide (KpF.refl (LBf X.heap.size 3) w3)
  clear Xn xn
  clear c_A3
  have c_A3 : w3.cell? ⟨X.heap.size, 3, none⟩ = some (.slice (some ⟨gg, oo, none⟩) (N + 1) cc) := ((unhide HA).cell 3).trans rfl
  have zc_A3 : w3.frozen? ⟨X.heap.size, 3, none⟩ = false := (unhide HA).frozen 3
  go_upto_region 9 with fail
  generalize hE : (w3.setCell ⟨X.heap.size, 3, none⟩ (.slice nA Q.length nC)) = W2 at *
  have NA : Hid (Cls W2 (X.heap.size) 44 #[.bool false, .int .i64 p.s, .int .i64 p.m, .slice nA Q.length nC, .slice tA p.a.length tC, .bool false, .string w0, .int .i64 f0, .bool d0]) := hide (by rw [← hE]; simpa using (unhide HA).set 3 (.slice nA Q.length nC))
  have NR : Hid (Cls W2 (X.heap.size + 1) 44 _) := hide (by rw [← hE]; exact (unhide HR).other ⟨X.heap.size, 3, none⟩ (.slice nA Q.length nC) (by first | omega | (dsimp only; omega)))
  have NS : Hid (Cls W2 (X.heap.size + 1 + 1) 82 _) := hide (by rw [← hE]; exact (unhide HS).other ⟨X.heap.size, 3, none⟩ (.slice nA Q.length nC) (by first | omega | (dsimp only; omega)))
  have NT : Hid (Cls W2 (W0.heap.size) 82 _) := hide (by rw [← hE]; exact (unhide HT).other ⟨X.heap.size, 3, none⟩ (.slice nA Q.length nC) (by first | omega | (dsimp only; omega)))
  have NHK0 : Hid (KpF _ X W2) := hide (by rw [← hE]; exact (unhide HK0).upd ⟨X.heap.size, 3, none⟩ (.slice nA Q.length nC) (.inr (by first | omega | (dsimp only; omega))))
  have NHK1 : Hid (KpF _ w3 W2) := hide (by rw [← hE]; exact (unhide HK1).upd ⟨X.heap.size, 3, none⟩ (.slice nA Q.length nC) (.inl ⟨by first | omega | (dsimp only; omega), by first | omega | (dsimp only; omega)⟩))
  clear hE HA HR HS HT HK0 HK1
  have HA := NA
  have HR := NR
  have HS := NS
  have HT := NT
  have HK0 := NHK0
  have HK1 := NHK1
  clear NA NR NS NT NHK0 NHK1
  clear c_A3 zc_A3
  have HC := hide (more_at W2 (.slice tA p.a.length tC) p.a ka ((unhide HTow).old (unhide HK0)) p.s x.2 4096 (by have := unhide HN; omega) (by omega))
  have HZm : Hid (X.heap.size + 3 ≤ W2.heap.size) := hide (by have := (unhide HS).lt; omega)
  have c_A4 : W2.cell? ⟨X.heap.size, 4, none⟩ = some (.slice tA p.a.length tC) := ((unhide HA).cell 4).trans rfl
  have c_A1 : W2.cell? ⟨X.heap.size, 1, none⟩ = some (.int .i64 p.s) := ((unhide HA).cell 1).trans rfl
  have c_T1 : W2.cell? ⟨W0.heap.size, 1, none⟩ = some (.string x.2) := ((unhide HT).cell 1).trans rfl
  go_wp2_with fail
  refine (unhide HC).mono ?_
  rintro y w4 ⟨v', km, rfl, rm, lm, xm⟩
  dsimp only
  obtain ⟨mA, mC, rfl⟩ := rm.val
  have Rm := hide rm
  have Lm := hide lm
  have Xm := hide xm
  clear HC rm lm
  have NA := hide ((unhide HA).kpf (KpF.of (F := fun _ => False) (unhide Xm)) (fun e => e))
  have NR := hide ((unhide HR).kpf (KpF.of (F := fun _ => False) (unhide Xm)) (fun e => e))
  have NS := hide ((unhide HS).kpf (KpF.of (F := fun _ => False) (unhide Xm)) (fun e => e))
  have NT := hide ((unhide HT).kpf (KpF.of (F := fun _ => False) (unhide Xm)) (fun e => e))
  have NHK0 := hide ((unhide HK0).bel (unhide Xm))
  have NHK1 := hide ((unhide HK1).bel (unhide Xm))
  clear HA HR HS HT HK0 HK1
  have HA := NA
  have HR := NR
  have HS := NS
  have HT := NT
  have HK0 := NHK0
  have HK1 := NHK1
  clear NA NR NS NT NHK0 NHK1
  have HK2 := hide (KpF.refl (LBf X.heap.size 3) w4)
  clear Xm xm
  clear c_A4 c_A1 c_T1
  rw [keepP_fit (unhide HN)] at Rm
  rw [keepP_fit (unhide HN)]
  have hz9 : (p.a ++ [(p.s, x.2)]).length = p.a.length + 1 := by simp
  rw [hz9] at Rm ⊢
  clear hz9
  have c_A4 : w4.cell? ⟨X.heap.size, 4, none⟩ = some (.slice tA p.a.length tC) := ((unhide HA).cell 4).trans rfl
  have zc_A4 : w4.frozen? ⟨X.heap.size, 4, none⟩ = false := (unhide HA).frozen 4
  go_upto_region 10 with fail
  generalize hE : (w4.setCell ⟨X.heap.size, 4, none⟩ (.slice mA (p.a.length + 1) mC)) = W3 at *
  have NA : Hid (Cls W3 (X.heap.size) 44 #[.bool false, .int .i64 p.s, .int .i64 p.m, .slice nA Q.length nC, .slice mA (p.a.length + 1) mC, .bool false, .string w0, .int .i64 f0, .bool d0]) := hide (by rw [← hE]; simpa using (unhide HA).set 4 (.slice mA (p.a.length + 1) mC))
  have NR : Hid (Cls W3 (X.heap.size + 1) 44 _) := hide (by rw [← hE]; exact (unhide HR).other ⟨X.heap.size, 4, none⟩ (.slice mA (p.a.length + 1) mC) (by first | omega | (dsimp only; omega)))
  have NS : Hid (Cls W3 (X.heap.size + 1 + 1) 82 _) := hide (by rw [← hE]; exact (unhide HS).other ⟨X.heap.size, 4, none⟩ (.slice mA (p.a.length + 1) mC) (by first | omega | (dsimp only; omega)))
  have NT : Hid (Cls W3 (W0.heap.size) 82 _) := hide (by rw [← hE]; exact (unhide HT).other ⟨X.heap.size, 4, none⟩ (.slice mA (p.a.length + 1) mC) (by first | omega | (dsimp only; omega)))
  have NHK0 : Hid (KpF _ X W3) := hide (by rw [← hE]; exact (unhide HK0).upd ⟨X.heap.size, 4, none⟩ (.slice mA (p.a.length + 1) mC) (.inr (by first | omega | (dsimp only; omega))))
  have NHK1 : Hid (KpF _ w3 W3) := hide (by rw [← hE]; exact (unhide HK1).upd ⟨X.heap.size, 4, none⟩ (.slice mA (p.a.length + 1) mC) (.inl ⟨by first | omega | (dsimp only; omega), by first | omega | (dsimp only; omega)⟩))
  have NHK2 : Hid (KpF _ w4 W3) := hide (by rw [← hE]; exact (unhide HK2).upd ⟨X.heap.size, 4, none⟩ (.slice mA (p.a.length + 1) mC) (.inl ⟨by first | omega | (dsimp only; omega), by first | omega | (dsimp only; omega)⟩))
  clear hE HA HR HS HT HK0 HK1 HK2
  have HA := NA
  have HR := NR
  have HS := NS
  have HT := NT
  have HK0 := NHK0
  have HK1 := NHK1
  have HK2 := NHK2
  clear NA NR NS NT NHK0 NHK1 NHK2
  clear c_A4 zc_A4
  have c_A1 : W3.cell? ⟨X.heap.size, 1, none⟩ = some (.int .i64 p.s) := ((unhide HA).cell 1).trans rfl
  have c_T0 : W3.cell? ⟨W0.heap.size, 0, none⟩ = some (.int .i64 x.1) := ((unhide HT).cell 0).trans rfl
  have zc_A1 : W3.frozen? ⟨X.heap.size, 1, none⟩ = false := (unhide HA).frozen 1
  go_upto_region 11 with fail
  generalize hE : (W3.setCell ⟨X.heap.size, 1, none⟩ (.int .i64 x.1)) = W4 at *
  have NA : Hid (Cls W4 (X.heap.size) 44 #[.bool false, .int .i64 x.1, .int .i64 p.m, .slice nA Q.length nC, .slice mA (p.a.length + 1) mC, .bool false, .string w0, .int .i64 f0, .bool d0]) := hide (by rw [← hE]; simpa using (unhide HA).set 1 (.int .i64 x.1))
  have NR : Hid (Cls W4 (X.heap.size + 1) 44 _) := hide (by rw [← hE]; exact (unhide HR).other ⟨X.heap.size, 1, none⟩ (.int .i64 x.1) (by first | omega | (dsimp only; omega)))
  have NS : Hid (Cls W4 (X.heap.size + 1 + 1) 82 _) := hide (by rw [← hE]; exact (unhide HS).other ⟨X.heap.size, 1, none⟩ (.int .i64 x.1) (by first | omega | (dsimp only; omega)))
  have NT : Hid (Cls W4 (W0.heap.size) 82 _) := hide (by rw [← hE]; exact (unhide HT).other ⟨X.heap.size, 1, none⟩ (.int .i64 x.1) (by first | omega | (dsimp only; omega)))
  have NHK0 : Hid (KpF _ X W4) := hide (by rw [← hE]; exact (unhide HK0).upd ⟨X.heap.size, 1, none⟩ (.int .i64 x.1) (.inr (by first | omega | (dsimp only; omega))))
  have NHK1 : Hid (KpF _ w3 W4) := hide (by rw [← hE]; exact (unhide HK1).upd ⟨X.heap.size, 1, none⟩ (.int .i64 x.1) (.inl ⟨by first | omega | (dsimp only; omega), by first | omega | (dsimp only; omega)⟩))
  have NHK2 : Hid (KpF _ w4 W4) := hide (by rw [← hE]; exact (unhide HK2).upd ⟨X.heap.size, 1, none⟩ (.int .i64 x.1) (.inl ⟨by first | omega | (dsimp only; omega), by first | omega | (dsimp only; omega)⟩))
  clear hE HA HR HS HT HK0 HK1 HK2
  have HA := NA
  have HR := NR
  have HS := NS
  have HT := NT
  have HK0 := NHK0
  have HK1 := NHK1
  have HK2 := NHK2
  clear NA NR NS NT NHK0 NHK1 NHK2
  clear c_A1 c_T0 zc_A1
  obtain ⟨c_A0, c_A1, c_A2, c_A3, c_A4, c_A5, c_A6, c_A7, c_A8⟩ := (unhide HA).cells9
  obtain ⟨c_T0, c_T1⟩ := (unhide HT).cells2
  obtain ⟨c_R0, c_R1, c_R2, c_R3, c_R4, c_R5, c_R6, c_R7, c_R8⟩ := (unhide HR).cells9
  obtain ⟨c_S0, c_S1⟩ := (unhide HS).cells2
  obtain ⟨zc_R0, zc_R1, zc_R2, zc_R3, zc_R4, zc_R5, zc_R6, zc_R7, zc_R8⟩ := (unhide HR).froz9
  obtain ⟨zc_S0, zc_S1⟩ := (unhide HS).froz2
  go_region
  go_wp2_with fail
  generalize hE : (((((((((((W4.setCell ⟨X.heap.size + 1, 0, none⟩ (.bool false)).setCell ⟨X.heap.size + 1, 1, none⟩ (.int .i64 x.1)).setCell ⟨X.heap.size + 1, 2, none⟩ (.int .i64 p.m)).setCell ⟨X.heap.size + 1, 3, none⟩ (.slice nA Q.length nC)).setCell ⟨X.heap.size + 1, 4, none⟩ (.slice mA (p.a.length + 1) mC)).setCell ⟨X.heap.size + 1, 5, none⟩ (.bool false)).setCell ⟨X.heap.size + 1, 6, none⟩ (.string w0)).setCell ⟨X.heap.size + 1, 7, none⟩ (.int .i64 f0)).setCell ⟨X.heap.size + 1, 8, none⟩ (.bool d0)).setCell ⟨X.heap.size + 1 + 1, 0, none⟩ (.int .i64 x.1)).setCell ⟨X.heap.size + 1 + 1, 1, none⟩ (.string x.2)).drew = WF at *
  have k_R : Cls WF (X.heap.size + 1) 44 #[.bool false, .int .i64 x.1, .int .i64 p.m, .slice nA Q.length nC, .slice mA (p.a.length + 1) mC, .bool false, .string w0, .int .i64 f0, .bool d0] := by rw [← hE]; exact (Cls.oth2 (Cls.set9 (unhide HR)) (by omega)).kpf (kpf_drew _) (fun e => e)
  obtain ⟨q_R0, q_R1, q_R2, q_R3, q_R4, q_R5, q_R6, q_R7, q_R8⟩ := k_R.cells9
  have k_S : Cls WF (X.heap.size + 1 + 1) 82 #[.int .i64 x.1, .string x.2] := by rw [← hE]; exact (Cls.set2 (Cls.oth9 (unhide HS) (by omega))).kpf (kpf_drew _) (fun e => e)
  obtain ⟨q_S0, q_S1⟩ := k_S.cells2
  have NHK0 : Hid (KpF _ X WF) := hide (by rw [← hE]; exact (KpF.upd2 (KpF.upd9 (unhide HK0) (.inr (by first | omega | (dsimp only; omega)))) (.inr (by first | omega | (dsimp only; omega)))).trans (kpf_drew _) (fun _ _ e => e.elim))
  have NHK1 : Hid (KpF _ w3 WF) := hide (by rw [← hE]; exact (KpF.upd2 (KpF.upd9 (unhide HK1) (.inl ⟨by first | omega | (dsimp only; omega), by first | omega | (dsimp only; omega)⟩)) (.inl ⟨by first | omega | (dsimp only; omega), by first | omega | (dsimp only; omega)⟩)).trans (kpf_drew _) (fun _ _ e => e.elim))
  have NHK2 : Hid (KpF _ w4 WF) := hide (by rw [← hE]; exact (KpF.upd2 (KpF.upd9 (unhide HK2) (.inl ⟨by first | omega | (dsimp only; omega), by first | omega | (dsimp only; omega)⟩)) (.inl ⟨by first | omega | (dsimp only; omega), by first | omega | (dsimp only; omega)⟩)).trans (kpf_drew _) (fun _ _ e => e.elim))
  clear hE
  refine bodyPost_ret (v := .tuple #[.agg #[.bool false, .int .i64 x.1, .int .i64 p.m, .slice nA Q.length nC, .slice mA (p.a.length + 1) mC, .bool false, .string w0, .int .i64 f0, .bool d0], .agg #[.int .i64 x.1, .string x.2], .int .i64 0]) (by simp [results, Try.results30, go_sem, q_R0, q_R1, q_R2, q_R3, q_R4, q_R5, q_R6, q_R7, q_R8, q_S0, q_S1]) rfl ?_
  exact ⟨_, fun i => kn = some i ∨ km = some i, rfl, ⟨_, _, kn, km, w0, f0, d0, rfl, (unhide Rn).new (unhide NHK1) (unhide Ln) (unhide HZn), (unhide Rm).new (unhide NHK2) (unhide Lm) (unhide HZm), fun _ => Iff.rfl, fun x e he => (nomatch he)⟩, (fun i e => .inr (by rcases e with e | e; have := unhide Ln i e; have := unhide HZn; omega; have := unhide Lm i e; have := unhide HZm; omega)), (unhide NHK0).belX⟩
set_option maxRecDepth 100000 in
set_option maxHeartbeats 4000000 in
theorem RRedo1_at (X : World) (D : Nat → Prop) (c : Array Value) (p : Pa Int) (h : IsD X D c p) (ho : p.o = none) (Q : List (Int × ByteArray)) (x : Int × ByteArray) (hp : p.a = Q ++ [x]) (hq : Q.length ≤ 4096) (hn : (p.b.length : Int) + 1 ≤ 4096) :
    Calls Try.prog 32 #[.agg c] X fun y Y => ∃ c' D', y = .returned (.tuple #[.agg c', .agg #[.int .i64 x.1, .string x.2], .int .i64 0]) ∧ IsD Y D' c' { p with s := x.1, a := Q, b := p.b ++ [(p.s, x.2)] } ∧ (∀ i, D' i → D i ∨ X.heap.size ≤ i) ∧ Below X.heap.size X Y := by
  obtain ⟨vb, va, kb, ka, w0, f0, d0, rfl, h1, h2, h3, h4⟩ := h
  have hz : (Q ++ [x]).length = Q.length + 1 := by simp
  rw [hp] at h2
  have HRow := hide h2
  unfold RD at h2
  rw [hz] at h2
  obtain ⟨gg, oo, cc, rfl, hkg, hg, hcap, j1, hcell⟩ := RA.form h2 (by omega)
  obtain ⟨tA, tC, rfl⟩ := h1.val
  have hidx : Q.length < (Q ++ [x]).length := by omega
  have hlast : (Q ++ [x])[Q.length]'hidx = x := by simp
  have HC0 : Hid (∀ Z, KpF (LBf X.heap.size 3) X Z → Z.cell? ⟨gg, oo + Q.length * 2, none⟩ = some (.int .i64 x.1) ∧ Z.cell? ⟨gg, oo + Q.length * 2 + 1, none⟩ = some (.string x.2)) := hide fun Z k => by
    have hb := k.block gg hg (fun e => by have := e.1; omega)
    have e1 := (hcell (Q.length * 2 + 0) (by omega)).trans (stI_get0 _ Q.length hidx)
    have e2 := (hcell (Q.length * 2 + 1) (by omega)).trans (stI_get1 _ Q.length hidx)
    rw [hlast] at e1 e2
    rw [Nat.add_zero] at e1
    rw [← Nat.add_assoc] at e2
    exact ⟨(World.cell?_of_block (a := ⟨gg, oo + Q.length * 2, none⟩) hb).trans e1, (World.cell?_of_block (a := ⟨gg, oo + Q.length * 2 + 1, none⟩) hb).trans e2⟩
  have HTow := hide h1
  have H3 := hide h3
  have HQ := hide hq
  have HN := hide hn
  have w1 : wrap64 ((Q.length : Int) + 1 - 1) = Q.length := by unfold wrap64; omega
  have w2 : wrap64 (Q.length : Int) = Q.length := by unfold wrap64; omega
  rw [ho]
  dsimp only [Option.isSome_none]
  clear j1 hcell hlast hidx h1 h2 h3 h4 ho hz hp hq hn hcap
  obtain ⟨N, hN⟩ : ∃ N, Q.length = N := ⟨_, rfl⟩
  rw [hN] at HC0 HRow w1 w2 ⊢
  have HNN := hide hN
  clear hN
  go_enter Try.func32, Try.ntmps32
  go_upto_region 1 with fail
  obtain ⟨W0, hE, HA, HR, HS, HK0⟩ := new3B (LBf X.heap.size 3) X #[.bool false, .int .i64 p.s, .int .i64 p.m, .slice tA p.b.length tC, .slice (some ⟨gg, oo, none⟩) (N + 1) cc, .bool false, .string w0, .int .i64 f0, .bool d0] 44 #[.bool false, .int .i64 0, .int .i64 0, .slice none 0 0, .slice none 0 0, .bool false, .string ⟨#[]⟩, .int .i64 0, .bool false] 44 #[.int .i64 0, .string ⟨#[]⟩] 82
  rw [hE]
  clear hE
  have c_A0 : W0.cell? ⟨X.heap.size, 0, none⟩ = some (.bool false) := ((unhide HA).cell 0).trans rfl
  have c_A5 : W0.cell? ⟨X.heap.size, 5, none⟩ = some (.bool false) := ((unhide HA).cell 5).trans rfl
  have c_A4 : W0.cell? ⟨X.heap.size, 4, none⟩ = some (.slice (some ⟨gg, oo, none⟩) (N + 1) cc) := ((unhide HA).cell 4).trans rfl
  obtain ⟨d0_, d1_⟩ := unhide HC0 _ (unhide HK0)
  have hzT : X.heap.size + 3 ≤ W0.heap.size := (unhide HS).lt
  have NA := hide ((unhide HA).alloc (.cells #[.int .i64 x.1, .string x.2] 82))
  have NR := hide ((unhide HR).alloc (.cells #[.int .i64 x.1, .string x.2] 82))
  have NS := hide ((unhide HS).alloc (.cells #[.int .i64 x.1, .string x.2] 82))
  have NT := hide (Cls.new W0 82 #[.int .i64 x.1, .string x.2])
  have NHK0 := hide ((unhide HK0).al (.cells #[.int .i64 x.1, .string x.2] 82))
  clear HA HR HS HK0
  go_upto_region 8 with fail
  generalize (W0.alloc (.cells #[.int .i64 x.1, .string x.2] 82)) = W1 at *
  have HA := NA
  have HR := NR
  have HS := NS
  have HT := NT
  have HK0 := NHK0
  clear NA NR NS NT NHK0
  clear c_A0 c_A5 c_A4 d0_ d1_
  have HC := hide (less_at W1 (.slice (some ⟨gg, oo, none⟩) (N + 1) cc) Q x ka ((unhide HRow).old (unhide HK0)) (unhide HQ))
  have HZn : Hid (X.heap.size + 3 ≤ W1.heap.size) := hide (by have := (unhide HS).lt; omega)
  have c_A4 : W1.cell? ⟨X.heap.size, 4, none⟩ = some (.slice (some ⟨gg, oo, none⟩) (N + 1) cc) := ((unhide HA).cell 4).trans rfl
  go_wp2_with fail
  refine (unhide HC).mono ?_
  rintro y w3 ⟨v', kn, rfl, rn, ln, xn⟩
  dsimp only
  obtain ⟨nA, nC, rfl⟩ := rn.val
  have Rn := hide rn
  have Ln := hide ln
  have Xn := hide xn
  clear HC rn ln
  have NA := hide ((unhide HA).kpf (KpF.of (F := fun _ => False) (unhide Xn)) (fun e => e))
  have NR := hide ((unhide HR).kpf (KpF.of (F := fun _ => False) (unhide Xn)) (fun e => e))
  have NS := hide ((unhide HS).kpf (KpF.of (F := fun _ => False) (unhide Xn)) (fun e => e))
  have NT := hide ((unhide HT).kpf (KpF.of (F := fun _ => False) (unhide Xn)) (fun e => e))
  have NHK0 := hide ((unhide HK0).bel (unhide Xn))
  clear HA HR HS HT HK0
  have HA := NA
  have HR := NR
  have HS := NS
  have HT := NT
  have HK0 := NHK0
  clear NA NR NS NT NHK0
  have HK1 := hide (KpF.refl (LBf X.heap.size 3) w3)
  clear Xn xn
  clear c_A4
  have c_A4 : w3.cell? ⟨X.heap.size, 4, none⟩ = some (.slice (some ⟨gg, oo, none⟩) (N + 1) cc) := ((unhide HA).cell 4).trans rfl
  have zc_A4 : w3.frozen? ⟨X.heap.size, 4, none⟩ = false := (unhide HA).frozen 4
  go_upto_region 9 with fail
  generalize hE : (w3.setCell ⟨X.heap.size, 4, none⟩ (.slice nA Q.length nC)) = W2 at *
  have NA : Hid (Cls W2 (X.heap.size) 44 #[.bool false, .int .i64 p.s, .int .i64 p.m, .slice tA p.b.length tC, .slice nA Q.length nC, .bool false, .string w0, .int .i64 f0, .bool d0]) := hide (by rw [← hE]; simpa using (unhide HA).set 4 (.slice nA Q.length nC))
  have NR : Hid (Cls W2 (X.heap.size + 1) 44 _) := hide (by rw [← hE]; exact (unhide HR).other ⟨X.heap.size, 4, none⟩ (.slice nA Q.length nC) (by first | omega | (dsimp only; omega)))
  have NS : Hid (Cls W2 (X.heap.size + 1 + 1) 82 _) := hide (by rw [← hE]; exact (unhide HS).other ⟨X.heap.size, 4, none⟩ (.slice nA Q.length nC) (by first | omega | (dsimp only; omega)))
  have NT : Hid (Cls W2 (W0.heap.size) 82 _) := hide (by rw [← hE]; exact (unhide HT).other ⟨X.heap.size, 4, none⟩ (.slice nA Q.length nC) (by first | omega | (dsimp only; omega)))
  have NHK0 : Hid (KpF _ X W2) := hide (by rw [← hE]; exact (unhide HK0).upd ⟨X.heap.size, 4, none⟩ (.slice nA Q.length nC) (.inr (by first | omega | (dsimp only; omega))))
  have NHK1 : Hid (KpF _ w3 W2) := hide (by rw [← hE]; exact (unhide HK1).upd ⟨X.heap.size, 4, none⟩ (.slice nA Q.length nC) (.inl ⟨by first | omega | (dsimp only; omega), by first | omega | (dsimp only; omega)⟩))
  clear hE HA HR HS HT HK0 HK1
  have HA := NA
  have HR := NR
  have HS := NS
  have HT := NT
  have HK0 := NHK0
  have HK1 := NHK1
  clear NA NR NS NT NHK0 NHK1
  clear c_A4 zc_A4
  have HC := hide (more_at W2 (.slice tA p.b.length tC) p.b kb ((unhide HTow).old (unhide HK0)) p.s x.2 4096 (by have := unhide HN; omega) (by omega))
  have HZm : Hid (X.heap.size + 3 ≤ W2.heap.size) := hide (by have := (unhide HS).lt; omega)
  have c_A3 : W2.cell? ⟨X.heap.size, 3, none⟩ = some (.slice tA p.b.length tC) := ((unhide HA).cell 3).trans rfl
  have c_A1 : W2.cell? ⟨X.heap.size, 1, none⟩ = some (.int .i64 p.s) := ((unhide HA).cell 1).trans rfl
  have c_T1 : W2.cell? ⟨W0.heap.size, 1, none⟩ = some (.string x.2) := ((unhide HT).cell 1).trans rfl
  go_wp2_with fail
  refine (unhide HC).mono ?_
  rintro y w4 ⟨v', km, rfl, rm, lm, xm⟩
  dsimp only
  obtain ⟨mA, mC, rfl⟩ := rm.val
  have Rm := hide rm
  have Lm := hide lm
  have Xm := hide xm
  clear HC rm lm
  have NA := hide ((unhide HA).kpf (KpF.of (F := fun _ => False) (unhide Xm)) (fun e => e))
  have NR := hide ((unhide HR).kpf (KpF.of (F := fun _ => False) (unhide Xm)) (fun e => e))
  have NS := hide ((unhide HS).kpf (KpF.of (F := fun _ => False) (unhide Xm)) (fun e => e))
  have NT := hide ((unhide HT).kpf (KpF.of (F := fun _ => False) (unhide Xm)) (fun e => e))
  have NHK0 := hide ((unhide HK0).bel (unhide Xm))
  have NHK1 := hide ((unhide HK1).bel (unhide Xm))
  clear HA HR HS HT HK0 HK1
  have HA := NA
  have HR := NR
  have HS := NS
  have HT := NT
  have HK0 := NHK0
  have HK1 := NHK1
  clear NA NR NS NT NHK0 NHK1
  have HK2 := hide (KpF.refl (LBf X.heap.size 3) w4)
  clear Xm xm
  clear c_A3 c_A1 c_T1
  rw [keepP_fit (unhide HN)] at Rm
  rw [keepP_fit (unhide HN)]
  have hz9 : (p.b ++ [(p.s, x.2)]).length = p.b.length + 1 := by simp
  rw [hz9] at Rm ⊢
  clear hz9
  have c_A3 : w4.cell? ⟨X.heap.size, 3, none⟩ = some (.slice tA p.b.length tC) := ((unhide HA).cell 3).trans rfl
  have zc_A3 : w4.frozen? ⟨X.heap.size, 3, none⟩ = false := (unhide HA).frozen 3
  go_upto_region 10 with fail
  generalize hE : (w4.setCell ⟨X.heap.size, 3, none⟩ (.slice mA (p.b.length + 1) mC)) = W3 at *
  have NA : Hid (Cls W3 (X.heap.size) 44 #[.bool false, .int .i64 p.s, .int .i64 p.m, .slice mA (p.b.length + 1) mC, .slice nA Q.length nC, .bool false, .string w0, .int .i64 f0, .bool d0]) := hide (by rw [← hE]; simpa using (unhide HA).set 3 (.slice mA (p.b.length + 1) mC))
  have NR : Hid (Cls W3 (X.heap.size + 1) 44 _) := hide (by rw [← hE]; exact (unhide HR).other ⟨X.heap.size, 3, none⟩ (.slice mA (p.b.length + 1) mC) (by first | omega | (dsimp only; omega)))
  have NS : Hid (Cls W3 (X.heap.size + 1 + 1) 82 _) := hide (by rw [← hE]; exact (unhide HS).other ⟨X.heap.size, 3, none⟩ (.slice mA (p.b.length + 1) mC) (by first | omega | (dsimp only; omega)))
  have NT : Hid (Cls W3 (W0.heap.size) 82 _) := hide (by rw [← hE]; exact (unhide HT).other ⟨X.heap.size, 3, none⟩ (.slice mA (p.b.length + 1) mC) (by first | omega | (dsimp only; omega)))
  have NHK0 : Hid (KpF _ X W3) := hide (by rw [← hE]; exact (unhide HK0).upd ⟨X.heap.size, 3, none⟩ (.slice mA (p.b.length + 1) mC) (.inr (by first | omega | (dsimp only; omega))))
  have NHK1 : Hid (KpF _ w3 W3) := hide (by rw [← hE]; exact (unhide HK1).upd ⟨X.heap.size, 3, none⟩ (.slice mA (p.b.length + 1) mC) (.inl ⟨by first | omega | (dsimp only; omega), by first | omega | (dsimp only; omega)⟩))
  have NHK2 : Hid (KpF _ w4 W3) := hide (by rw [← hE]; exact (unhide HK2).upd ⟨X.heap.size, 3, none⟩ (.slice mA (p.b.length + 1) mC) (.inl ⟨by first | omega | (dsimp only; omega), by first | omega | (dsimp only; omega)⟩))
  clear hE HA HR HS HT HK0 HK1 HK2
  have HA := NA
  have HR := NR
  have HS := NS
  have HT := NT
  have HK0 := NHK0
  have HK1 := NHK1
  have HK2 := NHK2
  clear NA NR NS NT NHK0 NHK1 NHK2
  clear c_A3 zc_A3
  have c_A1 : W3.cell? ⟨X.heap.size, 1, none⟩ = some (.int .i64 p.s) := ((unhide HA).cell 1).trans rfl
  have c_T0 : W3.cell? ⟨W0.heap.size, 0, none⟩ = some (.int .i64 x.1) := ((unhide HT).cell 0).trans rfl
  have zc_A1 : W3.frozen? ⟨X.heap.size, 1, none⟩ = false := (unhide HA).frozen 1
  go_upto_region 11 with fail
  generalize hE : (W3.setCell ⟨X.heap.size, 1, none⟩ (.int .i64 x.1)) = W4 at *
  have NA : Hid (Cls W4 (X.heap.size) 44 #[.bool false, .int .i64 x.1, .int .i64 p.m, .slice mA (p.b.length + 1) mC, .slice nA Q.length nC, .bool false, .string w0, .int .i64 f0, .bool d0]) := hide (by rw [← hE]; simpa using (unhide HA).set 1 (.int .i64 x.1))
  have NR : Hid (Cls W4 (X.heap.size + 1) 44 _) := hide (by rw [← hE]; exact (unhide HR).other ⟨X.heap.size, 1, none⟩ (.int .i64 x.1) (by first | omega | (dsimp only; omega)))
  have NS : Hid (Cls W4 (X.heap.size + 1 + 1) 82 _) := hide (by rw [← hE]; exact (unhide HS).other ⟨X.heap.size, 1, none⟩ (.int .i64 x.1) (by first | omega | (dsimp only; omega)))
  have NT : Hid (Cls W4 (W0.heap.size) 82 _) := hide (by rw [← hE]; exact (unhide HT).other ⟨X.heap.size, 1, none⟩ (.int .i64 x.1) (by first | omega | (dsimp only; omega)))
  have NHK0 : Hid (KpF _ X W4) := hide (by rw [← hE]; exact (unhide HK0).upd ⟨X.heap.size, 1, none⟩ (.int .i64 x.1) (.inr (by first | omega | (dsimp only; omega))))
  have NHK1 : Hid (KpF _ w3 W4) := hide (by rw [← hE]; exact (unhide HK1).upd ⟨X.heap.size, 1, none⟩ (.int .i64 x.1) (.inl ⟨by first | omega | (dsimp only; omega), by first | omega | (dsimp only; omega)⟩))
  have NHK2 : Hid (KpF _ w4 W4) := hide (by rw [← hE]; exact (unhide HK2).upd ⟨X.heap.size, 1, none⟩ (.int .i64 x.1) (.inl ⟨by first | omega | (dsimp only; omega), by first | omega | (dsimp only; omega)⟩))
  clear hE HA HR HS HT HK0 HK1 HK2
  have HA := NA
  have HR := NR
  have HS := NS
  have HT := NT
  have HK0 := NHK0
  have HK1 := NHK1
  have HK2 := NHK2
  clear NA NR NS NT NHK0 NHK1 NHK2
  clear c_A1 c_T0 zc_A1
  obtain ⟨c_A0, c_A1, c_A2, c_A3, c_A4, c_A5, c_A6, c_A7, c_A8⟩ := (unhide HA).cells9
  obtain ⟨c_T0, c_T1⟩ := (unhide HT).cells2
  obtain ⟨c_R0, c_R1, c_R2, c_R3, c_R4, c_R5, c_R6, c_R7, c_R8⟩ := (unhide HR).cells9
  obtain ⟨c_S0, c_S1⟩ := (unhide HS).cells2
  obtain ⟨zc_R0, zc_R1, zc_R2, zc_R3, zc_R4, zc_R5, zc_R6, zc_R7, zc_R8⟩ := (unhide HR).froz9
  obtain ⟨zc_S0, zc_S1⟩ := (unhide HS).froz2
  go_region
  go_wp2_with fail
  generalize hE : (((((((((((W4.setCell ⟨X.heap.size + 1, 0, none⟩ (.bool false)).setCell ⟨X.heap.size + 1, 1, none⟩ (.int .i64 x.1)).setCell ⟨X.heap.size + 1, 2, none⟩ (.int .i64 p.m)).setCell ⟨X.heap.size + 1, 3, none⟩ (.slice mA (p.b.length + 1) mC)).setCell ⟨X.heap.size + 1, 4, none⟩ (.slice nA Q.length nC)).setCell ⟨X.heap.size + 1, 5, none⟩ (.bool false)).setCell ⟨X.heap.size + 1, 6, none⟩ (.string w0)).setCell ⟨X.heap.size + 1, 7, none⟩ (.int .i64 f0)).setCell ⟨X.heap.size + 1, 8, none⟩ (.bool d0)).setCell ⟨X.heap.size + 1 + 1, 0, none⟩ (.int .i64 x.1)).setCell ⟨X.heap.size + 1 + 1, 1, none⟩ (.string x.2)).drew = WF at *
  have k_R : Cls WF (X.heap.size + 1) 44 #[.bool false, .int .i64 x.1, .int .i64 p.m, .slice mA (p.b.length + 1) mC, .slice nA Q.length nC, .bool false, .string w0, .int .i64 f0, .bool d0] := by rw [← hE]; exact (Cls.oth2 (Cls.set9 (unhide HR)) (by omega)).kpf (kpf_drew _) (fun e => e)
  obtain ⟨q_R0, q_R1, q_R2, q_R3, q_R4, q_R5, q_R6, q_R7, q_R8⟩ := k_R.cells9
  have k_S : Cls WF (X.heap.size + 1 + 1) 82 #[.int .i64 x.1, .string x.2] := by rw [← hE]; exact (Cls.set2 (Cls.oth9 (unhide HS) (by omega))).kpf (kpf_drew _) (fun e => e)
  obtain ⟨q_S0, q_S1⟩ := k_S.cells2
  have NHK0 : Hid (KpF _ X WF) := hide (by rw [← hE]; exact (KpF.upd2 (KpF.upd9 (unhide HK0) (.inr (by first | omega | (dsimp only; omega)))) (.inr (by first | omega | (dsimp only; omega)))).trans (kpf_drew _) (fun _ _ e => e.elim))
  have NHK1 : Hid (KpF _ w3 WF) := hide (by rw [← hE]; exact (KpF.upd2 (KpF.upd9 (unhide HK1) (.inl ⟨by first | omega | (dsimp only; omega), by first | omega | (dsimp only; omega)⟩)) (.inl ⟨by first | omega | (dsimp only; omega), by first | omega | (dsimp only; omega)⟩)).trans (kpf_drew _) (fun _ _ e => e.elim))
  have NHK2 : Hid (KpF _ w4 WF) := hide (by rw [← hE]; exact (KpF.upd2 (KpF.upd9 (unhide HK2) (.inl ⟨by first | omega | (dsimp only; omega), by first | omega | (dsimp only; omega)⟩)) (.inl ⟨by first | omega | (dsimp only; omega), by first | omega | (dsimp only; omega)⟩)).trans (kpf_drew _) (fun _ _ e => e.elim))
  clear hE
  refine bodyPost_ret (v := .tuple #[.agg #[.bool false, .int .i64 x.1, .int .i64 p.m, .slice mA (p.b.length + 1) mC, .slice nA Q.length nC, .bool false, .string w0, .int .i64 f0, .bool d0], .agg #[.int .i64 x.1, .string x.2], .int .i64 0]) (by simp [results, Try.results32, go_sem, q_R0, q_R1, q_R2, q_R3, q_R4, q_R5, q_R6, q_R7, q_R8, q_S0, q_S1]) rfl ?_
  exact ⟨_, fun i => km = some i ∨ kn = some i, rfl, ⟨_, _, km, kn, w0, f0, d0, rfl, (unhide Rm).new (unhide NHK2) (unhide Lm) (unhide HZm), (unhide Rn).new (unhide NHK1) (unhide Ln) (unhide HZn), fun _ => Iff.rfl, fun x e he => (nomatch he)⟩, (fun i e => .inr (by rcases e with e | e; have := unhide Lm i e; have := unhide HZm; omega; have := unhide Ln i e; have := unhide HZn; omega)), (unhide NHK0).belX⟩
end Go.Proofs.Ytdemfejladepjaa
