/- ScanPlays: a step written into a row; the document's End. -/
import Derived.Test.YtpgipahlhbkjjaaDoorRs5
import Derived.Laws.OwnMore
import Derived.OwnWalk
namespace Go.Proofs.YtpgipahlhbkjjaaDoor
open Go.ChangeShapes Go.WideShapes Go.ChangeAt Go.RowKit

theorem tcs_cons (t : Tri) (ts : List Tri) : tcs (t :: ts) = [.int .i32 t.1, .int .i64 t.2.1, .bool t.2.2] ++ tcs ts := by simp [tcs, tc]
theorem tcs_set : ∀ (ts : List Tri) (k : Nat) (t : Tri), k < ts.length → (((tcs ts).set (k * 3) (.int .i32 t.1)).set (k * 3 + 1) (.int .i64 t.2.1)).set (k * 3 + 2) (.bool t.2.2) = tcs (ts.set k t)
  | [], _, _, h => absurd h (by simp)
  | u :: ts, 0, t, _ => by rw [List.set_cons_zero, tcs_cons, tcs_cons]; rfl
  | u :: ts, k + 1, t, h => by
    have ih := tcs_set ts k t (by simpa using h)
    rw [List.set_cons_succ, tcs_cons, tcs_cons, ← ih]
    rw [show (k + 1) * 3 = k * 3 + 3 by omega, show k * 3 + 3 + 1 = (k * 3 + 1) + 3 by omega, show k * 3 + 3 + 2 = (k * 3 + 2) + 3 by omega]
    simp only [List.cons_append, List.nil_append, List.set_cons_succ]
/-- a step written into a row of the call's own -/
theorem RT.set {B g cap k : Nat} {ts : List Tri} {W : World} (h : RT B (.slice (some ⟨g, 0, none⟩) ts.length cap) ts W) (t : Tri) (hk : k < ts.length) :
    RT B (.slice (some ⟨g, 0, none⟩) ts.length cap) (ts.set k t) (((W.setCell ⟨g, k * 3, none⟩ (.int .i32 t.1)).setCell ⟨g, k * 3 + 1, none⟩ (.int .i64 t.2.1)).setCell ⟨g, k * 3 + 2, none⟩ (.bool t.2.2)) := by
  have h1 := (World.ownsRow.stored h (k * 3) (.int .i32 t.1)).1
  have h2 := (World.ownsRow.stored h1 (k * 3 + 1) (.int .i64 t.2.1)).1
  have h3 := (World.ownsRow.stored h2 (k * 3 + 2) (.bool t.2.2)).1
  rw [tcs_set ts k t hk] at h3
  unfold RT
  rw [List.length_set]
  exact h3
theorem RT.cells {B g cap k : Nat} {ts : List Tri} {W : World} (h : RT B (.slice (some ⟨g, 0, none⟩) ts.length cap) ts W) (hk : k < ts.length) : (W.cell? ⟨g, k * 3, none⟩).isSome = true ∧ (W.cell? ⟨g, k * 3 + 1, none⟩).isSome = true ∧ (W.cell? ⟨g, k * 3 + 2, none⟩).isSome = true := by
  obtain ⟨a, c, e, _, ht, _⟩ := h.at
  cases e
  rcases ht with rfl | ⟨g', e', _, hc⟩
  · simp at hk
  · cases e'
    obtain ⟨h1, h2, h3⟩ := hc k hk
    exact ⟨by rw [h1]; rfl, by rw [h2]; rfl, by rw [h3]; rfl⟩
def zeroT : Tri := (0, 0, false)
theorem made_3 {n : Nat} (hn : n ≤ 3) : (madeCells (Value.agg #[.int .i32 0, .int .i64 0, .bool false]).cells (n * 3)).toList = tcs (List.replicate n zeroT) := by
  match n, hn with
  | 0, _ => simp [madeCells, tcs]
  | 1, _ => show _ = _; kernel_rfl
  | 2, _ => show _ = _; kernel_rfl
  | 3, _ => show _ = _; kernel_rfl

theorem info_step : ∃ i, Tryd.prog.info? 42 = some i ∧ i.zero = some (.agg #[.int .i32 0, .int .i64 0, .bool false]) ∧ i.size = 3 ∧ i.bytes ≤ 24 := by
  refine ⟨_, rfl, ?_, ?_, ?_⟩
  · rfl
  · rfl
  · decide
/-- make([]api.Step, n) -/
theorem make_steps (w : World) (n : Nat) (hn : n ≤ 3) : ∃ w', (Instr.makeSlice 30 (.int .i64 (n : Int)) (.int .i64 (n : Int))).run Tryd.prog w = .ok (.slice (some ⟨w.heap.size, 0, none⟩) n n) w' ∧ RT w.heap.size (.slice (some ⟨w.heap.size, 0, none⟩) n n) (List.replicate n zeroT) w' ∧ Below w.heap.size w w' := by
  obtain ⟨i, hi, hz, hs, hby⟩ := info_step
  obtain ⟨w', h1, h2, h3⟩ := run_make_full (P := Tryd.prog) w w.heap.size 30 42 i _ 3 Tryd.underlying30 hi hz hs .i64 .i64 n (by have : i.bytes * n ≤ 24 * 3 := Nat.mul_le_mul hby hn; omega) (by unfold maxLen; omega) (Nat.le_refl _)
  rw [made_3 hn] at h2
  exact ⟨w', h1, by unfold RT; rw [List.length_replicate]; exact h2, (Below.refl _ w).grown h3 (Nat.le_refl _) (fun k e => by cases e)⟩
def bz (n k : Nat) : List Tri := List.replicate k badT ++ List.replicate (n - k) zeroT
theorem bz_len {n k : Nat} (h : k ≤ n) : (bz n k).length = n := by simp [bz]; omega
theorem bz_set {n k : Nat} (h : k < n) : (bz n k).set k badT = bz n (k + 1) := by
  unfold bz
  rw [List.set_append_right _ _ (by simp), List.length_replicate, Nat.sub_self, show n - k = (n - (k + 1)) + 1 by omega, List.replicate_succ, List.set_cons_zero, List.replicate_succ', List.append_assoc]
  rfl
theorem bz_end (n : Nat) : bz n n = List.replicate n badT := by simp [bz]

set_option maxHeartbeats 1000000 in
theorem REnd_at (aH : Option Addr) (cH n : Nat) (pl : Int) (w : World) (hn : n ≤ 3) (hp0 : 0 ≤ pl) (hp1 : pl ≤ 4611686018427387904) :
    Calls Tryd.prog 9 #[.agg #[.slice aH n cH, .int .i64 pl]] w fun e w' => ∃ v, e = .returned (.tuple #[.agg #[.slice none 0 0, .int .i64 (pl + (n : Int))], v]) ∧ RT w.heap.size v (List.replicate n badT) w' ∧ Below w.heap.size w w' := by
  have x1 : Below w.heap.size w ((w.alloc (.cells #[.slice aH n cH, .int .i64 pl] 28)).alloc (.cells #[.slice none 0 0, .int .i64 0] 28)) := ((Below.refl _ _).alloc (Nat.le_refl _) _).alloc (by simp) _
  have z1 : ((w.alloc (.cells #[.slice aH n cH, .int .i64 pl] 28)).alloc (.cells #[.slice none 0 0, .int .i64 0] 28)).heap.size = w.heap.size + 2 := by simp
  have g1 : ((w.alloc (.cells #[.slice aH n cH, .int .i64 pl] 28)).alloc (.cells #[.slice none 0 0, .int .i64 0] 28)).heap[w.heap.size]? = some (.cells #[.slice aH n cH, .int .i64 pl] 28 (0, 0)) := by
    have hb : Below (w.heap.size + 1) (w.alloc (.cells #[.slice aH n cH, .int .i64 pl] 28)) ((w.alloc (.cells #[.slice aH n cH, .int .i64 pl] 28)).alloc (.cells #[.slice none 0 0, .int .i64 0] 28)) := (Below.refl _ _).alloc (by simp) _
    rw [hb.block _ (Nat.lt_succ_self _)]
    exact alloc_get w _
  have g2 : ((w.alloc (.cells #[.slice aH n cH, .int .i64 pl] 28)).alloc (.cells #[.slice none 0 0, .int .i64 0] 28)).heap[w.heap.size + 1]? = some (.cells #[.slice none 0 0, .int .i64 0] 28 (0, 0)) := by
    have := alloc_get (w.alloc (.cells #[.slice aH n cH, .int .i64 pl] 28)) (.cells #[.slice none 0 0, .int .i64 0] 28)
    simpa using this
  have c1 : ((w.alloc (.cells #[.slice aH n cH, .int .i64 pl] 28)).alloc (.cells #[.slice none 0 0, .int .i64 0] 28)).cell? ⟨w.heap.size, 0, none⟩ = some (.slice aH n cH) := (cells2 g1).1
  go_enter Tryd.func9, Tryd.ntmps9
  go_upto_region 1 with fail
  generalize ((w.alloc (.cells #[.slice aH n cH, .int .i64 pl] 28)).alloc (.cells #[.slice none 0 0, .int .i64 0] 28)) = w1 at *
  have Z1 := hide z1
  clear z1
  obtain ⟨w2, hm, o2, x2⟩ := make_steps w1 n hn
  have z2 := x2.size
  have g12 := (x2.block w.heap.size (by have := unhide Z1; omega)).trans g1
  have g22 := (x2.block (w.heap.size + 1) (by have := unhide Z1; omega)).trans g2
  have b2 : Below w.heap.size w w2 := x1.trans (x2.mono x1.size)
  have O2 : Hid (RT w1.heap.size (.slice (some ⟨w1.heap.size, 0, none⟩) n n) (bz n 0) w2) := hide (by simpa [bz] using o2)
  go_wp2_with fail
  clear hm o2 c1 g1 g2
  generalize hg : w1.heap.size = G at *
  have hG : w.heap.size + 1 < G := by have := unhide Z1; omega
  clear Z1 hg
  go_loopw [5] (fun i wx => ∃ k : Nat, k ≤ n ∧ i = .int .i64 k ∧ Hid (RT G (.slice (some ⟨G, 0, none⟩) n n) (bz n k) wx) ∧ Below G w2 wx ∧ Below w.heap.size w wx) (fun i _ => n - (intOf i).toNat)
  case atStart => exact ⟨0, Nat.zero_le _, rfl, O2, Below.refl _ _, b2⟩
  case round =>
    obtain ⟨k, hk, rfl, ho, hb, hbw⟩ := hrel
    have hlen := bz_len hk
    by_cases hlt : k < n
    · have ho' : RT G (.slice (some ⟨G, 0, none⟩) (bz n k).length n) (bz n k) wr := by rw [hlen]; exact unhide ho
      have hs' := ho'.set badT (k := k) (by omega)
      rw [bz_set hlt, hlen] at hs'
      obtain ⟨q1, q2, q3⟩ := ho'.cells (k := k) (by omega)
      have f0 := World.ownsRow.frozenAt ho' (k * 3)
      have f1 := World.ownsRow.frozenAt ho' (k * 3 + 1)
      have f2 := World.ownsRow.frozenAt ho' (k * 3 + 2)
      obtain ⟨v1, e1⟩ := Option.isSome_iff_exists.1 q1
      obtain ⟨v2, e2⟩ := Option.isSome_iff_exists.1 q2
      obtain ⟨v3, e3⟩ := Option.isSome_iff_exists.1 q3
      have HS := hide hs'
      clear hs' ho' q1 q2 q3
      have hki : (k : Int) < (n : Int) := by omega
      go_wp2_with fail
      refine ⟨⟨k + 1, hlt, by go_num, HS, ?_, ?_⟩, by simp [intOf]; omega⟩
      · exact ((hb.setCell (p := ⟨G, _, none⟩) (Nat.le_refl _) _).setCell (p := ⟨G, _, none⟩) (Nat.le_refl _) _).setCell (p := ⟨G, _, none⟩) (Nat.le_refl _) _
      · exact ((hbw.setCell (p := ⟨G, _, none⟩) (by show w.heap.size ≤ G; omega) _).setCell (p := ⟨G, _, none⟩) (by show w.heap.size ≤ G; omega) _).setCell (p := ⟨G, _, none⟩) (by show w.heap.size ≤ G; omega) _
    · obtain rfl : k = n := by omega
      have g1x := (hb.block w.heap.size (by omega)).trans g12
      have g2x := (hb.block (w.heap.size + 1) (by omega)).trans g22
      obtain ⟨c10, c11, _, _⟩ := cells2 g1x
      obtain ⟨c20, c21, f20, f21⟩ := cells2 g2x
      go_wp2_with fail
      have e1' : (wr.setCell ⟨w.heap.size + 1, 0, none⟩ (.slice none 0 0)).cell? ⟨w.heap.size + 1, 1, none⟩ = some (.int .i64 0) := by rw [cell_set (by rw [c20]; rfl), if_neg (by omega)]; exact c21
      have e0 : ((wr.setCell ⟨w.heap.size + 1, 0, none⟩ (.slice none 0 0)).setCell ⟨w.heap.size + 1, 1, none⟩ (.int .i64 (pl + (k : Int)))).cell? ⟨w.heap.size + 1, 0, none⟩ = some (.slice none 0 0) := by rw [cell_set (by rw [e1']; rfl), if_neg (by omega), cell_set (by rw [c20]; rfl), if_pos rfl]
      have e1 : ((wr.setCell ⟨w.heap.size + 1, 0, none⟩ (.slice none 0 0)).setCell ⟨w.heap.size + 1, 1, none⟩ (.int .i64 (pl + (k : Int)))).cell? ⟨w.heap.size + 1, 1, none⟩ = some (.int .i64 (pl + (k : Int))) := by rw [cell_set (by rw [e1']; rfl), if_pos rfl]
      have sc : Scf wr.heap.size (w.heap.size + 1) wr ((wr.setCell ⟨w.heap.size + 1, 0, none⟩ (.slice none 0 0)).setCell ⟨w.heap.size + 1, 1, none⟩ (.int .i64 (pl + (k : Int)))) := ((Scf.refl _ _ wr).set _ _).set _ _
      refine bodyPost_ret (v := .tuple #[.agg #[.slice none 0 0, .int .i64 (pl + (k : Int))], .slice (some ⟨G, 0, none⟩) k k]) (by simp [results, Tryd.results9, go_sem, e0, e1]) rfl ⟨_, rfl, ?_, ?_⟩
      · have := (unhide ho).same (W' := (wr.setCell ⟨w.heap.size + 1, 0, none⟩ (.slice none 0 0)).setCell ⟨w.heap.size + 1, 1, none⟩ (.int .i64 (pl + (k : Int)))) fun j hj hj' => sc.block j hj' (by omega)
        rw [bz_end] at this
        exact this.low (by omega)
      · exact hbw.trans ((sc.mono hbw.size).below (by omega))
end Go.Proofs.YtpgipahlhbkjjaaDoor
