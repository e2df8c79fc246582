/- Layer 19: DiffMetric: the walk. · Layer 19: the document's answer: Common. · Layer 19: the document's Distance; DiffDistance: the walk. · Layer 19: where lines end, byte by byte (plain). · Layer 19: the document's Pieces. · Layer 19: the document's Lines. · Layer 13: the inverter, Invert. · Layer 13: Invert. -/
import Derived.Test.YtkdnanlgkedjgaaDoorDx46
import Derived.Test.YtkdnanlgkedjgaaDoorDx42

section
namespace Go.Proofs.YtkdnanlgkedjgaaDoor
open Go.ChangeShapes Go.WideShapes Go.ChangeAt Go.RowKit
attribute [local go_sem] Oper.semAt_some

theorem cnt_le (l : List Int) : (cutP l (cutS l)).length ≤ l.length := by have h := cutP_cnt (cutS_ok l); have := (cutS_ok l).len; omega
theorem alo_comm (l m : List Int) : aloN cutS l m = aloN cutS m l := by unfold aloN; rw [lcs_comm, Nat.add_comm]
theorem alo_zero (l m : List Int) : aloN cutS l m = 0 ↔ l = m := by
  have h := lcs_len (cutP l (cutS l)) (cutP m (cutS m))
  constructor
  · intro e
    unfold aloN at e
    have := lcs_all (x := cutP l (cutS l)) (y := cutP m (cutS m)) (by omega) (by omega)
    rw [← (cutS_ok l).flat, this, (cutS_ok m).flat]
  · rintro rfl
    unfold aloN
    rw [lcs_self]; omega
theorem alo_tri (l m n : List Int) : aloN cutS l n ≤ aloN cutS l m + aloN cutS m n := by
  have h1 := lcs_tri (cutP l (cutS l)) (cutP m (cutS m)) (cutP n (cutS n))
  have h2 := lcs_len (cutP l (cutS l)) (cutP m (cutS m))
  have h3 := lcs_len (cutP m (cutS m)) (cutP n (cutS n))
  unfold aloN
  omega
theorem alo_dif (l m : List Int) : aloN cutS l m ≤ (cutP l (cutS l)).length + (cutP m (cutS m)).length ∧ (cutP l (cutS l)).length ≤ aloN cutS l m + (cutP m (cutS m)).length ∧ (cutP m (cutS m)).length ≤ aloN cutS l m + (cutP l (cutS l)).length := by
  have h2 := lcs_len (cutP l (cutS l)) (cutP m (cutS m))
  unfold aloN
  omega
theorem cut_small {l : List Int} (h : ¬ 700 < l.length) : (cutS l).length ≤ 2049 := by have := (cutS_ok l).len; omega
set_option maxRecDepth 100000 in
set_option maxHeartbeats 8000000 in
theorem DiffMetric_any (a0 : Option Addr) (c0 : Nat) (l : List Int) (b0 : Option Addr) (d0 : Nat) (m : List Int) (e0 : Option Addr) (f0 : Nat) (n : List Int) (w : World) (hA : IsB w a0 c0 l) (hB : IsB w b0 d0 m) (hC : IsB w e0 f0 n) (hT : Tab w) :
    Calls Tryd.prog 8 #[.slice a0 l.length c0, .slice b0 m.length d0, .slice e0 n.length f0] w fun e w' => e = .returned (.bool true) ∧ Below w.heap.size w w' := by
  have HW := hide (wakes19_at w hT)
  have HA := hide hA
  have HB := hide hB
  have HC := hide hC
  have HT := hide hT
  clear hA hB hC hT
  have HLO1 := hide fun (X : World) => long19_at a0 l.length c0 b0 m.length d0 X
  have HLO2 := hide fun (X : World) => long19_at b0 m.length d0 e0 n.length f0 X
  go_enter Tryd.func8, Tryd.ntmps8
  go_wp2_with fail
  refine (unhide HW).mono ?_
  rintro e w1 ⟨rfl, hb1⟩
  dsimp only
  have H1 := hide hb1
  clear HW hb1
  go_wp2_with fail
  refine (unhide HLO1 w1).mono ?_
  rintro e w2 ⟨rfl, rfl⟩
  dsimp only
  by_cases hl1 : 700 < l.length ∨ 700 < m.length
  · rw [decide_eq_true hl1]
    go_wp2_with fail
    exact bodyPost_ret (results_tmp rfl _ _ _) rfl ⟨rfl, unhide H1⟩
  rw [decide_eq_false hl1]
  go_wp2_with fail
  refine (unhide HLO2 w2).mono ?_
  rintro e w3 ⟨rfl, rfl⟩
  dsimp only
  by_cases hl2 : 700 < m.length ∨ 700 < n.length
  · rw [decide_eq_true hl2]
    go_wp2_with fail
    exact bodyPost_ret (results_tmp rfl _ _ _) rfl ⟨rfl, unhide H1⟩
  rw [decide_eq_false hl2]
  have HCS : Hid ((cutS l).length ≤ 2049 ∧ (cutS m).length ≤ 2049 ∧ (cutS n).length ≤ 2049) := hide ⟨cut_small (by omega), cut_small (by omega), cut_small (by omega)⟩
  have hsz : l.length ≤ 700 ∧ m.length ≤ 700 ∧ n.length ≤ 700 := by omega
  have HSZ := hide hsz
  clear HLO1 HLO2 hl1 hl2 hsz
  go_wp2_with fail
  refine (own19_at a0 c0 l w3 ((unhide HA).below (unhide H1) (Nat.le_refl _))).mono ?_
  rintro e u0a ⟨p1, q1, rfl, i1, hb1⟩
  dsimp only
  have G1 := hide ((unhide H1).trans (hb1.mono (unhide H1).size))
  have I1 := hide i1
  clear hb1 i1 H1
  go_wp2_with fail
  refine (own19_at b0 d0 m u0a ((unhide HB).below (unhide G1) (Nat.le_refl _))).mono ?_
  rintro e u0b ⟨p2, q2, rfl, i2, hb2⟩
  dsimp only
  have G2 := hide ((unhide G1).trans (hb2.mono (unhide G1).size))
  have I2 := hide i2
  have I3 := hide ((unhide I1).below hb2 (Nat.le_refl _))
  clear hb2 i2 I1 G1
  go_wp2_with fail
  refine (Distance_at p1 q1 l p2 q2 m u0b (unhide I3) (unhide I2) ((unhide HT).below (unhide G2) (unhide HT).size)).mono ?_
  rintro e u0c ⟨hb3, ⟨hno, _⟩ | ⟨_, _, rfl⟩⟩
  · have := unhide HCS; exact absurd ⟨by omega, by omega⟩ hno
  dsimp only
  have J0 := hide ((unhide G2).trans (hb3.mono (unhide G2).size))
  clear hb3 I2 I3 G2
  go_wp2_with fail
  refine (own19_at b0 d0 m u0c ((unhide HB).below (unhide J0) (Nat.le_refl _))).mono ?_
  rintro e u1a ⟨p1, q1, rfl, i1, hb1⟩
  dsimp only
  have G1 := hide ((unhide J0).trans (hb1.mono (unhide J0).size))
  have I1 := hide i1
  clear hb1 i1 J0
  go_wp2_with fail
  refine (own19_at a0 c0 l u1a ((unhide HA).below (unhide G1) (Nat.le_refl _))).mono ?_
  rintro e u1b ⟨p2, q2, rfl, i2, hb2⟩
  dsimp only
  have G2 := hide ((unhide G1).trans (hb2.mono (unhide G1).size))
  have I2 := hide i2
  have I3 := hide ((unhide I1).below hb2 (Nat.le_refl _))
  clear hb2 i2 I1 G1
  go_wp2_with fail
  refine (Distance_at p1 q1 m p2 q2 l u1b (unhide I3) (unhide I2) ((unhide HT).below (unhide G2) (unhide HT).size)).mono ?_
  rintro e u1c ⟨hb3, ⟨hno, _⟩ | ⟨_, _, rfl⟩⟩
  · have := unhide HCS; exact absurd ⟨by omega, by omega⟩ hno
  dsimp only
  have J1 := hide ((unhide G2).trans (hb3.mono (unhide G2).size))
  clear hb3 I2 I3 G2
  go_wp2_with fail
  refine (own19_at b0 d0 m u1c ((unhide HB).below (unhide J1) (Nat.le_refl _))).mono ?_
  rintro e u2a ⟨p1, q1, rfl, i1, hb1⟩
  dsimp only
  have G1 := hide ((unhide J1).trans (hb1.mono (unhide J1).size))
  have I1 := hide i1
  clear hb1 i1 J1
  go_wp2_with fail
  refine (own19_at e0 f0 n u2a ((unhide HC).below (unhide G1) (Nat.le_refl _))).mono ?_
  rintro e u2b ⟨p2, q2, rfl, i2, hb2⟩
  dsimp only
  have G2 := hide ((unhide G1).trans (hb2.mono (unhide G1).size))
  have I2 := hide i2
  have I3 := hide ((unhide I1).below hb2 (Nat.le_refl _))
  clear hb2 i2 I1 G1
  go_wp2_with fail
  refine (Distance_at p1 q1 m p2 q2 n u2b (unhide I3) (unhide I2) ((unhide HT).below (unhide G2) (unhide HT).size)).mono ?_
  rintro e u2c ⟨hb3, ⟨hno, _⟩ | ⟨_, _, rfl⟩⟩
  · have := unhide HCS; exact absurd ⟨by omega, by omega⟩ hno
  dsimp only
  have J2 := hide ((unhide G2).trans (hb3.mono (unhide G2).size))
  clear hb3 I2 I3 G2
  go_wp2_with fail
  refine (own19_at a0 c0 l u2c ((unhide HA).below (unhide J2) (Nat.le_refl _))).mono ?_
  rintro e u3a ⟨p1, q1, rfl, i1, hb1⟩
  dsimp only
  have G1 := hide ((unhide J2).trans (hb1.mono (unhide J2).size))
  have I1 := hide i1
  clear hb1 i1 J2
  go_wp2_with fail
  refine (own19_at e0 f0 n u3a ((unhide HC).below (unhide G1) (Nat.le_refl _))).mono ?_
  rintro e u3b ⟨p2, q2, rfl, i2, hb2⟩
  dsimp only
  have G2 := hide ((unhide G1).trans (hb2.mono (unhide G1).size))
  have I2 := hide i2
  have I3 := hide ((unhide I1).below hb2 (Nat.le_refl _))
  clear hb2 i2 I1 G1
  go_wp2_with fail
  refine (Distance_at p1 q1 l p2 q2 n u3b (unhide I3) (unhide I2) ((unhide HT).below (unhide G2) (unhide HT).size)).mono ?_
  rintro e u3c ⟨hb3, ⟨hno, _⟩ | ⟨_, _, rfl⟩⟩
  · have := unhide HCS; exact absurd ⟨by omega, by omega⟩ hno
  dsimp only
  have J3 := hide ((unhide G2).trans (hb3.mono (unhide G2).size))
  clear hb3 I2 I3 G2
  go_wp2_with fail
  refine (RSteps_at a0 c0 l u3c ((unhide HA).below (unhide J3) (Nat.le_refl _)) (by have := unhide HSZ; omega)).mono ?_
  rintro e s1 ⟨v1, rfl, x1⟩
  obtain ⟨q1, x11, _⟩ := x1.row
  obtain ⟨y1, z1, rfl, _⟩ := ra_txs x11
  dsimp only
  have H2 := hide ((unhide J3).trans (x1.b.mono (unhide J3).size))
  clear J3 x1 x11
  go_wp2_with fail
  refine (RSteps_at b0 d0 m s1 ((unhide HB).below (unhide H2) (Nat.le_refl _)) (by have := unhide HSZ; omega)).mono ?_
  rintro e s2 ⟨v2, rfl, x2⟩
  obtain ⟨q2, x22, _⟩ := x2.row
  obtain ⟨y2, z2, rfl, _⟩ := ra_txs x22
  dsimp only
  have H3 := hide ((unhide H2).trans (x2.b.mono (unhide H2).size))
  clear H2 x2 x22
  have KC1 := str_bs s2 a0 c0 l ((unhide HA).below (unhide H3) (Nat.le_refl _)).2.2.1
  have KC2 := str_bs s2 b0 d0 m ((unhide HB).below (unhide H3) (Nat.le_refl _)).2.2.1
  have g1 := alo_tri l m n
  have g2 := alo_dif l m
  have g3 := alo_zero l m
  have g4 := cnt_le l
  have g5 := cnt_le m
  have g6 := cnt_le n
  have g7 := alo_dif m n
  have hsz := unhide HSZ
  have hstr := str_beq (unhide HA).2.2.2 (unhide HB).2.2.2
  rw [alo_comm m l]
  generalize aloN cutS l m = AB at *
  generalize aloN cutS m n = BC at *
  generalize aloN cutS l n = AC at *
  generalize (cutP l (cutS l)).length = N at *
  generalize (cutP m (cutS m)).length = M at *
  have t1 : ((AB : Int) == 0) = decide (l = m) := by
    by_cases h : l = m
    · rw [decide_eq_true h, g3.2 h]; rfl
    · rw [decide_eq_false h]
      have : ¬ AB = 0 := fun e => h (g3.1 e)
      simp; omega
  have t2 : decide ((AC : Int) ≤ (AB : Int) + (BC : Int)) = true := decide_eq_true (by omega)
  have t3 : decide ((AB : Int) ≥ (N : Int) - (M : Int)) = true := decide_eq_true (by omega)
  have t3' : decide ((N : Int) - (M : Int) ≤ (AB : Int)) = true := decide_eq_true (by omega)
  have t4 : decide ((AB : Int) ≥ (M : Int) - (N : Int)) = true := decide_eq_true (by omega)
  have t4' : decide ((M : Int) - (N : Int) ≤ (AB : Int)) = true := decide_eq_true (by omega)
  have t5 : decide ((AB : Int) ≤ (N : Int) + (M : Int)) = true := decide_eq_true (by omega)
  clear g3
  go_wp2_with fail
  exact bodyPost_ret (results_tmp rfl _ _ _) rfl ⟨rfl, unhide H3⟩
end Go.Proofs.YtkdnanlgkedjgaaDoor
end

section
namespace Go.Proofs.YtkdnanlgkedjgaaDoor
open Go.ChangeShapes Go.WideShapes Go.ChangeAt Go.RowKit
attribute [local go_sem] Oper.semAt_some

section
set_option linter.unusedSectionVars false
variable {α : Type} [DecidableEq α]
theorem lcs_snoc (x y : List α) (a : α) : lcs (x ++ [a]) (y ++ [a]) = lcs x y + 1 := by rw [lcs_tail]; simp; omega
theorem lcs_snoc_ne {a b : α} (h : ¬ a = b) (x y : List α) : lcs (x ++ [a]) (y ++ [b]) = max (lcs x (y ++ [b])) (lcs (x ++ [a]) y) := by
  rw [← lcs_rev, List.reverse_append, List.reverse_append, List.reverse_singleton, List.reverse_singleton, List.singleton_append, List.singleton_append, lcs_ne h]
  rw [← lcs_rev x (y ++ [b]), ← lcs_rev (x ++ [a]) y]
  simp
theorem lcs_snoc_le (x y : List α) (a : α) : lcs (x ++ [a]) y ≤ lcs x y + 1 := by
  rw [← lcs_rev, List.reverse_append, List.reverse_singleton, List.singleton_append, ← lcs_rev x y]
  exact lcs_drop a _ _
theorem take_snoc (x : List α) {i : Nat} (h : i < x.length) : x.take (i + 1) = x.take i ++ [x[i]] := by rw [List.take_add_one, List.getElem?_eq_getElem h]; rfl
/-- one cell of the document's table -/
theorem tab_same {x y : List α} {i k : Nat} (hi : i < x.length) (hk : k < y.length) (e : x[i] = y[k]) :
    lcs (x.take (i + 1)) (y.take (k + 1)) = lcs (x.take i) (y.take k) + 1 ∧ lcs (x.take (i + 1)) (y.take k) ≤ lcs (x.take i) (y.take k) + 1 ∧ lcs (x.take i) (y.take (k + 1)) ≤ lcs (x.take i) (y.take k) + 1 := by
  rw [take_snoc x hi, take_snoc y hk, e]
  refine ⟨lcs_snoc _ _ _, lcs_snoc_le _ _ _, ?_⟩
  rw [lcs_comm, lcs_comm (x.take i) (y.take k)]
  exact lcs_snoc_le _ _ _
theorem tab_ne {x y : List α} {i k : Nat} (hi : i < x.length) (hk : k < y.length) (e : ¬ x[i] = y[k]) :
    lcs (x.take (i + 1)) (y.take (k + 1)) = max (lcs (x.take (i + 1)) (y.take k)) (lcs (x.take i) (y.take (k + 1))) := by
  rw [take_snoc x hi, take_snoc y hk, lcs_snoc_ne e, Nat.max_comm]
end
/-- a block of numbers -/
def TbI (X : World) (g M : Nat) (f : Nat → Nat) : Prop := ∃ cur : Array Value, X.heap[g]? = some (.cells cur 3 (0, 0)) ∧ cur.size = M ∧ ∀ k, k < M → cur[k]? = some (.int .i64 (f k : Int))
theorem TbI.cell {X : World} {g M : Nat} {f : Nat → Nat} (h : TbI X g M f) {k : Nat} (hk : k < M) : X.cell? ⟨g, k, none⟩ = some (.int .i64 (f k : Int)) := by
  obtain ⟨cur, h1, _, h3⟩ := h
  unfold World.cell?
  simp only [h1]
  exact h3 k hk
theorem TbI.lt {X : World} {g M : Nat} {f : Nat → Nat} (h : TbI X g M f) : g < X.heap.size := by
  obtain ⟨cur, h1, _⟩ := h
  exact (Array.getElem?_eq_some_iff.1 h1).1
theorem TbI.same {X Y : World} {g M : Nat} {f : Nat → Nat} (h : TbI X g M f) (hb : Y.heap[g]? = X.heap[g]?) : TbI Y g M f := by
  obtain ⟨cur, h1, h2⟩ := h
  exact ⟨cur, hb.trans h1, h2⟩
theorem TbI.frozen {X : World} {g M : Nat} {f : Nat → Nat} (h : TbI X g M f) (k : Nat) : X.frozen? ⟨g, k, none⟩ = false := by
  obtain ⟨cur, h1, h2, h3⟩ := h
  unfold World.frozen?
  simp only [h1]
  simp
theorem TbI.set {X : World} {g M : Nat} {f : Nat → Nat} (h : TbI X g M f) {k : Nat} (hk : k < M) (v : Nat) : TbI (X.setCell ⟨g, k, none⟩ (.int .i64 (v : Int))) g M (fun m => if m = k then v else f m) := by
  obtain ⟨cur, h1, h2, h3⟩ := h
  refine ⟨cur.setIfInBounds k (.int .i64 (v : Int)), ?_, by simp [h2], fun m hm => ?_⟩
  · show (X.heap.modify g _)[g]? = _
    rw [Array.getElem?_modify]
    simp [h1]
  · by_cases e : m = k
    · subst e; simp [h2, hk]
    · simp [e, h3 m hm, show ¬ k = m from fun g => e g.symm]
theorem make_row (w : World) (n : Nat) (hn : n ≤ 1048577) : ∃ C : Array Value, (Instr.makeSlice 51 (.int .i64 (n : Int)) (.int .i64 (n : Int))).run Tryd.prog w = .ok (.slice (some ⟨w.heap.size, 0, none⟩) n n) (w.alloc (.cells C 3)) ∧
    TbI (w.alloc (.cells C 3)) w.heap.size n (fun _ => 0) := by
  obtain ⟨i, hi, hz, hs, hb⟩ := info_intS
  have hr := run_make (P := Tryd.prog) w 51 3 i (.int .i64 0) Tryd.underlying51 hi hz .i64 .i64 n n (by omega) (Int.le_refl _) (by rw [hb]; omega) (by omega)
  simp only [Int.toNat_natCast] at hr
  refine ⟨_, hr, _, heap_alloc_new w _, by rw [size_madeCells, hs, Nat.mul_one], fun k hk => ?_⟩
  rw [hs]
  unfold madeCells
  simp [hk, Value.cells, Nat.mod_one]
/-- texts are bytes -/
theorem TbI.congr {X : World} {g M : Nat} {f f' : Nat → Nat} (h : TbI X g M f) (e : ∀ k, k < M → f k = f' k) : TbI X g M f' := by
  obtain ⟨cur, h1, h2, h3⟩ := h
  exact ⟨cur, h1, h2, fun k hk => by rw [← e k hk]; exact h3 k hk⟩
theorem IsTx.at {X : World} {a : Option Addr} {ps : List (List Int)} (h : IsTx X a ps) {k : Nat} (hk : k < ps.length) : ∃ g off, a = some ⟨g, off, none⟩ ∧ g < X.heap.size ∧ ∀ j, j < ps.length → X.cell? ⟨g, off + j, none⟩ = some (.string (strOfNums (ps.getD j []))) := by
  rcases h with h | h
  · subst h; simp at hk
  · exact h
/-- what the loops over both keep -/
structure CoL (w X : World) (x y : List (List Int)) (i g1 : Nat) : Prop where
  l : TbI X g1 (y.length + 1) (fun k => lcs (x.take i) (y.take k))
  b : Below w.heap.size w X
  n : w.heap.size ≤ g1
structure CoN (w X : World) (x y : List (List Int)) (i k g1 g2 : Nat) : Prop where
  o : CoL w X x y i g1
  t : ∃ f, TbI X g2 (y.length + 1) f ∧ ∀ j, j ≤ k → f j = lcs (x.take (i + 1)) (y.take j)
  n : w.heap.size ≤ g2 ∧ g1 ≠ g2
theorem CoN.set {w X : World} {x y : List (List Int)} {i k g1 g2 : Nat} (h : CoN w X x y i k g1 g2) (hk : k < y.length) (v : Nat) : CoN w (X.setCell ⟨g2, k + 1, none⟩ (.int .i64 (v : Int))) x y i k g1 g2 ∧ (v = lcs (x.take (i + 1)) (y.take (k + 1)) → CoN w (X.setCell ⟨g2, k + 1, none⟩ (.int .i64 (v : Int))) x y i (k + 1) g1 g2) := by
  obtain ⟨f, h1, h2⟩ := h.t
  have o : CoL w (X.setCell ⟨g2, k + 1, none⟩ (.int .i64 (v : Int))) x y i g1 := ⟨h.o.l.same (Below.heap_setCell X _ _ g1 h.n.2), h.o.b.setCell h.n.1 _, h.o.n⟩
  have t := h1.set (show k + 1 < y.length + 1 by omega) v
  refine ⟨⟨o, ⟨_, t, fun j hj => ?_⟩, h.n⟩, fun e => ⟨o, ⟨_, t, fun j hj => ?_⟩, h.n⟩⟩
  · simp only [show ¬ j = k + 1 by omega, if_false]; exact h2 j hj
  · by_cases g : j = k + 1
    · simp only [g, if_true]; exact e
    · simp only [g, if_false]; exact h2 j (by omega)
theorem CoN.dN {w X : World} {x y : List (List Int)} {i k g1 g2 : Nat} (h : CoN w X x y i k g1 g2) (n : Nat) : CoN w (X.drewN n) x y i k g1 g2 := by
  obtain ⟨f, h1, h2⟩ := h.t
  exact ⟨⟨h.o.l.same (by rw [drewN_heap]), bdrN h.o.b n, h.o.n⟩, ⟨f, h1.same (by rw [drewN_heap]), h2⟩, h.n⟩
set_option maxRecDepth 100000 in
set_option maxHeartbeats 8000000 in
theorem RCommon_at (a : Option Addr) (c : Nat) (x : List (List Int)) (a' : Option Addr) (c' : Nat) (y : List (List Int)) (w : World) (h : IsTx w a x) (h' : IsTx w a' y) (hx : x.length ≤ 1048576) (hy : y.length ≤ 1048576) (bx : ∀ q ∈ x, ByL q) (by' : ∀ q ∈ y, ByL q) :
    Calls Tryd.prog 29 #[.slice a x.length c, .slice a' y.length c'] w fun e w' => e = .returned (.int .i64 (lcs x y : Int)) ∧ Below w.heap.size w w' := by
  have HX := hide fun (X : World) (hx : Below w.heap.size w X) => h.below hx (Nat.le_refl _)
  have HY := hide fun (X : World) (hx : Below w.heap.size w X) => h'.below hx (Nat.le_refl _)
  have HBX := hide bx
  have HBY := hide by'
  clear h h' bx by'
  obtain ⟨C, mk, t0⟩ := make_row w (y.length + 1) (by omega)
  have K0 : CoL w (w.alloc (.cells C 3)) x y 0 w.heap.size := ⟨t0.congr fun k _ => by simp [lcs], (Below.refl _ _).alloc (Nat.le_refl _) _, Nat.le_refl _⟩
  have H0 := hide K0
  rw [show ((y.length + 1 : Nat) : Int) = (y.length : Int) + 1 from rfl] at mk
  have HZ := hide hx
  clear K0 t0
  go_enter Tryd.func29, Tryd.ntmps29
  go_wp2_with fail
  clear mk
  go_loopw [5, 6, 7, 8] (fun v5 v6 v7 v8 wx => (∃ z, v7 = z) ∧ (∃ z, v8 = z) ∧ ∃ i g1 : Nat, v5 = .slice (some ⟨g1, 0, none⟩) (y.length + 1) (y.length + 1) ∧ v6 = .int .i64 (i : Int) ∧ i ≤ x.length ∧ Hid (CoL w wx x y i g1)) (fun _ v6 _ _ _ => x.length - (intOf v6).toNat)
  case atStart => exact ⟨⟨_, rfl⟩, ⟨_, rfl⟩, 0, _, rfl, rfl, Nat.zero_le _, H0⟩
  case round =>
    clear H0
    obtain ⟨⟨z1, rfl⟩, ⟨z2, rfl⟩, i, g1, rfl, rfl, hi, HL⟩ := hrel
    by_cases h1 : i < x.length
    · have t1 : decide ((i : Int) < (x.length : Int)) = true := decide_eq_true (by omega)
      obtain ⟨C2, mk2, t2⟩ := make_row wr (y.length + 1) (by omega)
      have hlt := (unhide HL).l.lt
      have N0 : CoN w (wr.alloc (.cells C2 3)) x y i 0 g1 wr.heap.size := ⟨⟨(unhide HL).l.same (heap_alloc_old _ _ hlt), (unhide HL).b.alloc (unhide HL).b.size _, (unhide HL).n⟩, ⟨_, t2, fun j hj => by rw [show j = 0 by omega]; simp [lcs_nil]⟩, (unhide HL).b.size, by omega⟩
      have HN0 := hide N0
      rw [show ((y.length + 1 : Nat) : Int) = (y.length : Int) + 1 from rfl] at mk2
      clear N0 t2 hlt HL
      go_wp2_with fail
      clear mk2
      generalize wr.alloc (.cells C2 3) = wz at *
      generalize wr.heap.size = g2 at *
      go_loopw [8] (fun v8 wx => ∃ k : Nat, v8 = .int .i64 (k : Int) ∧ k ≤ y.length ∧ Hid (CoN w wx x y i k g1 g2)) (fun v8 _ => y.length - (intOf v8).toNat)
      case atStart => exact ⟨0, rfl, Nat.zero_le _, HN0⟩
      case round =>
        clear HN0
        obtain ⟨k, rfl, hk, HN⟩ := hrel
        by_cases h2 : k < y.length
        · have t2 : decide ((k : Int) < (y.length : Int)) = true := decide_eq_true (by omega)
          obtain ⟨f, q1, q2⟩ := (unhide HN).t
          have hbw := (unhide HN).o.b
          obtain ⟨gx, ox, ea, hgx, cx⟩ := (unhide HX wr hbw).at h1
          obtain ⟨gy, oy, eb, hgy, cy⟩ := (unhide HY wr hbw).at h2
          have cN := q1.cell (k := k) (by omega)
          have cS := q1.cell (k := k + 1) (by omega)
          have fS := q1.frozen (k + 1)
          have cL := (unhide HN).o.l.cell (k := k + 1) (by omega)
          have cR := (unhide HN).o.l.cell (k := k) (by omega)
          rw [q2 k (Nat.le_refl _)] at cN
          have hX := unhide HX
          have hY := unhide HY
          have HSET := hide fun (v : Nat) => ((unhide HN).dN 1).set h2 v
          have HTS := hide fun (e : x[i] = y[k]) => tab_same h1 h2 e
          have HTN := hide fun (e : ¬ x[i] = y[k]) => tab_ne h1 h2 e
          have hpr : lcs (x.take (i + 1)) (y.take k) ≤ 1048576 := by have := (lcs_len (x.take (i + 1)) (y.take k)).2; rw [List.length_take] at this; omega
          have hqr : lcs (x.take i) (y.take (k + 1)) ≤ 1048576 := by have := (lcs_len (x.take i) (y.take (k + 1))).2; rw [List.length_take] at this; omega
          have hrr : lcs (x.take i) (y.take k) ≤ 1048576 := by have := (lcs_len (x.take i) (y.take k)).2; rw [List.length_take] at this; omega
          have ex : x.getD i [] = x[i] := by simp [List.getD, List.getElem?_eq_getElem h1]
          have ey : y.getD k [] = y[k] := by simp [List.getD, List.getElem?_eq_getElem h2]
          have hstr := str_beq (unhide HBX _ (List.getElem_mem h1)) (unhide HBY _ (List.getElem_mem h2))
          have c1 := cx i h1
          have c2 := cy k h2
          rw [ex] at c1
          rw [ey] at c2
          subst ea eb
          clear cx cy q1 q2 ex ey hX hY
          generalize hgp : lcs (x.take (i + 1)) (y.take k) = p at *
          generalize hgq : lcs (x.take i) (y.take (k + 1)) = q at *
          generalize hgr : lcs (x.take i) (y.take k) = r at *
          generalize f (k + 1) = F at *
          have hgxw : gx < w.heap.size := by
            obtain ⟨_, _, e, h, _⟩ := (unhide HX w (Below.refl _ _)).at h1
            cases e; exact h
          have hgyw : gy < w.heap.size := by
            obtain ⟨_, _, e, h, _⟩ := (unhide HY w (Below.refl _ _)).at h2
            cases e; exact h
          have n2 := (unhide HN).n.1
          have n1 := (unhide HN).n.2
          have e1 : IntKind.i64.wrap ((k : Int) + 1) = (k : Int) + 1 := by rw [IntKind.wrap_i64]; omega
          have f1 : (k : Int) < (y.length : Int) + 1 := by clear e1; omega
          have f2 : (k : Int) + 1 < (y.length : Int) + 1 := by clear e1; omega
          have f3 : (0 : Int) ≤ (k : Int) := by clear e1; omega
          have f4 : (0 : Int) ≤ (k : Int) + 1 := by clear e1; omega
          have f5 : (i : Int) < (x.length : Int) := by clear e1; omega
          have f6 : (k : Int) < (y.length : Int) := by clear e1; omega
          have f7 : (0 : Int) ≤ (i : Int) := by clear e1; omega
          obtain ⟨M1, hM1⟩ : ∃ M1, M1 = max p q := ⟨_, rfl⟩
          have HM1 := hide hM1
          have HPQ := hide (And.intro hgp (And.intro hgq hgr))
          have S0 : wr.drew.cell? ⟨g2, k, none⟩ = some (.int .i64 (p : Int)) ∧ wr.drew.cell? ⟨g1, k + 1, none⟩ = some (.int .i64 (q : Int)) := ⟨cN, cL⟩
          have cSd : wr.drew.cell? ⟨g2, k + 1, none⟩ = some (.int .i64 (F : Int)) := cS
          have fSd : wr.drew.frozen? ⟨g2, k + 1, none⟩ = false := fS
          have cRd : wr.drew.cell? ⟨g1, k, none⟩ = some (.int .i64 (r : Int)) := cR
          have c1d : wr.drew.cell? ⟨gx, ox + i, none⟩ = some (.string (strOfNums x[i])) := c1
          have c2d : wr.drew.cell? ⟨gy, oy + k, none⟩ = some (.string (strOfNums y[k])) := c2
          have HSET' : Hid (∀ v : Nat, CoN w (wr.drew.setCell ⟨g2, k + 1, none⟩ (.int .i64 (v : Int))) x y i k g1 g2 ∧ (v = lcs (x.take (i + 1)) (y.take (k + 1)) → CoN w (wr.drew.setCell ⟨g2, k + 1, none⟩ (.int .i64 (v : Int))) x y i (k + 1) g1 g2)) := HSET
          clear HSET cN cL cS fS cR c1 c2 hbw hgx hgy hgp hgq hgr HN
          have S1 : (wr.drew.setCell ⟨g2, k + 1, none⟩ (.int .i64 (M1 : Int))).cell? ⟨g2, k, none⟩ = some (.int .i64 (p : Int)) ∧ (wr.drew.setCell ⟨g2, k + 1, none⟩ (.int .i64 (M1 : Int))).cell? ⟨g1, k + 1, none⟩ = some (.int .i64 (q : Int)) := by
            refine ⟨?_, (World.cell?_of_block (a := ⟨g1, k + 1, none⟩) (Below.heap_setCell _ _ _ g1 n1)).trans S0.2⟩
            rw [cellS_set (by rw [cSd]; rfl), if_neg (by omega)]; exact S0.1
          have d1 := (World.cell?_of_block (a := ⟨gx, ox + i, none⟩) (Below.heap_setCell wr.drew ⟨g2, k + 1, none⟩ (.int .i64 (M1 : Int)) gx (by show gx ≠ g2; omega))).trans c1d
          have d2 := (World.cell?_of_block (a := ⟨gy, oy + k, none⟩) (Below.heap_setCell wr.drew ⟨g2, k + 1, none⟩ (.int .i64 (M1 : Int)) gy (by show gy ≠ g2; omega))).trans c2d
          have d3 := (World.cell?_of_block (a := ⟨g1, k, none⟩) (Below.heap_setCell wr.drew ⟨g2, k + 1, none⟩ (.int .i64 (M1 : Int)) g1 n1)).trans cRd
          have d4 : (wr.drew.setCell ⟨g2, k + 1, none⟩ (.int .i64 (M1 : Int))).cell? ⟨g2, k + 1, none⟩ = some (.int .i64 (M1 : Int)) := by rw [cellS_set (by rw [cSd]; rfl), if_pos rfl]
          have d5 : (wr.drew.setCell ⟨g2, k + 1, none⟩ (.int .i64 (M1 : Int))).frozen? ⟨g2, k + 1, none⟩ = false := by rw [frozenS_set]; exact fSd
          have K1 := (unhide HSET') M1
          have HK1 := hide K1
          clear HSET' K1 cRd c1d c2d
          go_wp2_with fail
          have hmx : max (p : Int) (q : Int) = (M1 : Int) := by rw [hM1]; clear e1; omega
          clear hM1
          refine regionL (S := fun w' => w'.cell? ⟨g2, k, none⟩ = some (.int .i64 (p : Int)) ∧ w'.cell? ⟨g1, k + 1, none⟩ = some (.int .i64 (q : Int))) (fun _ => false) (by kernel_rfl) ?_
          generalize wr.drew = v1 at *
          refine anyL_take (i := 0) (v := ?vq0) rfl (by kernel_rfl) (by kernel_rfl) (by kernel_rfl) (by kernel_rfl) (fun _ _ _ h => h) (Or.inl ⟨by rfl, ?hq0⟩) (S0) ?_
          case hq0 => (intro w hSw; (try dsimp only at hSw); go_simp) <;> with_reducible rfl
          simp only [Act.put, List.getElem_toArray, List.getElem_cons_zero, List.setIfInBounds_toArray, List.set_cons_zero, List.set_cons_succ]
          refine anyL_take (i := 1) (v := ?vq1) rfl (by kernel_rfl) (by kernel_rfl) (by kernel_rfl) (by kernel_rfl) (fun _ _ _ h => h) (Or.inl ⟨by rfl, ?hq1⟩) (S0) ?_
          case hq1 => (intro w hSw; (try dsimp only at hSw); go_simp) <;> with_reducible rfl
          simp only [Act.put, List.getElem_toArray, List.getElem_cons_zero, List.getElem_cons_succ, List.setIfInBounds_toArray, List.set_cons_zero, List.set_cons_succ]
          refine anyL_take (i := 2) (v := ?vq2) rfl (by kernel_rfl) (by kernel_rfl) (by kernel_rfl) (by kernel_rfl) (fun _ _ _ h => h) (Or.inl ⟨by rfl, ?hq2⟩) (S0) ?_
          case hq2 => (intro w hSw; (try dsimp only at hSw); go_simp) <;> with_reducible rfl
          simp only [Act.put, List.getElem_toArray, List.getElem_cons_zero, List.getElem_cons_succ, List.setIfInBounds_toArray, List.set_cons_zero, List.set_cons_succ]
          refine anyL_take (i := 3) (v := ?vq3) rfl (by kernel_rfl) (by kernel_rfl) (by kernel_rfl) (by kernel_rfl) (fun _ _ _ h => h) (Or.inl ⟨by rfl, ?hq3⟩) (S0) ?_
          case hq3 => (intro w hSw; (try dsimp only at hSw); go_simp) <;> with_reducible rfl
          simp only [Act.put, List.getElem_toArray, List.getElem_cons_zero, List.getElem_cons_succ, List.setIfInBounds_toArray, List.set_cons_zero, List.set_cons_succ]
          refine anyL_take (i := 4) (v := ?vq4) rfl (by kernel_rfl) (by kernel_rfl) (by kernel_rfl) (by kernel_rfl) (fun _ _ _ h => h) (Or.inl ⟨by rfl, ?hq4⟩) (S0) ?_
          case hq4 => (intro w hSw; (try dsimp only at hSw); go_simp) <;> with_reducible rfl
          simp only [Act.put, List.getElem_toArray, List.getElem_cons_zero, List.getElem_cons_succ, List.setIfInBounds_toArray, List.set_cons_zero, List.set_cons_succ]
          refine anyL_take (i := 5) (v := ?vq5) rfl (by kernel_rfl) (by kernel_rfl) (by kernel_rfl) (by kernel_rfl) (fun _ _ _ h => h) (Or.inl ⟨by rfl, ?hq5⟩) (S0) ?_
          case hq5 => (intro w hSw; (try dsimp only at hSw); go_simp) <;> with_reducible rfl
          simp only [Act.put, List.getElem_toArray, List.getElem_cons_zero, List.getElem_cons_succ, List.setIfInBounds_toArray, List.set_cons_zero, List.set_cons_succ]
          refine anyL_take (i := 6) (v := ?vq6) rfl (by kernel_rfl) (by kernel_rfl) (by kernel_rfl) (by kernel_rfl) (fun _ _ _ h => h) (Or.inl ⟨by rfl, ?hq6⟩) (S0) ?_
          case hq6 => (intro w hSw; (try dsimp only at hSw); go_simp) <;> with_reducible rfl
          simp only [Act.put, List.getElem_toArray, List.getElem_cons_zero, List.getElem_cons_succ, List.setIfInBounds_toArray, List.set_cons_zero, List.set_cons_succ]
          refine anyL_take (i := 7) (v := ?vq7) rfl (by kernel_rfl) (by kernel_rfl) (by kernel_rfl) (by kernel_rfl) (fun _ _ _ h => h) (Or.inl ⟨by rfl, ?hq7⟩) (S0) ?_
          case hq7 => (intro w hSw; (try dsimp only at hSw); go_simp) <;> with_reducible rfl
          simp only [Act.put, List.getElem_toArray, List.getElem_cons_zero, List.getElem_cons_succ, List.setIfInBounds_toArray, List.set_cons_zero, List.set_cons_succ]
          refine anyL_take (i := 8) (v := ?vq8) rfl (by kernel_rfl) (by kernel_rfl) (by kernel_rfl) (by kernel_rfl) (fun _ _ _ h => h) (Or.inl ⟨by rfl, ?hq8⟩) (S0) ?_
          case hq8 => (intro w hSw; (try dsimp only at hSw); go_simp) <;> with_reducible rfl
          simp only [Act.put, List.getElem_toArray, List.getElem_cons_zero, List.getElem_cons_succ, List.setIfInBounds_toArray, List.set_cons_zero, List.set_cons_succ]
          refine anyL_take (i := 9) (v := ?vq9) rfl (by kernel_rfl) (by kernel_rfl) (by kernel_rfl) (by kernel_rfl) (fun _ _ _ h => h) (Or.inl ⟨by rfl, ?hq9⟩) (S0) ?_
          case hq9 => (intro w hSw; (try dsimp only at hSw); go_simp) <;> with_reducible rfl
          simp only [Act.put, List.getElem_toArray, List.getElem_cons_zero, List.getElem_cons_succ, List.setIfInBounds_toArray, List.set_cons_zero, List.set_cons_succ]
          refine anyL_take (i := 10) (v := ?vq10) rfl (by kernel_rfl) (by kernel_rfl) (by kernel_rfl) (by kernel_rfl) (fun _ _ _ h => h) (Or.inl ⟨by rfl, ?hq10⟩) (S0) ?_
          case hq10 => (intro w hSw; (try dsimp only at hSw); go_simp) <;> with_reducible rfl
          simp only [Act.put, List.getElem_toArray, List.getElem_cons_zero, List.getElem_cons_succ, List.setIfInBounds_toArray, List.set_cons_zero, List.set_cons_succ]
          refine anyL_take (i := 11) (v := ?vq11) rfl (by kernel_rfl) (by kernel_rfl) (by kernel_rfl) (by kernel_rfl) (fun _ _ _ h => h) (Or.inl ⟨by rfl, ?hq11⟩) (S0) ?_
          case hq11 => (intro w hSw; (try dsimp only at hSw); go_simp) <;> with_reducible rfl
          simp only [Act.put, List.getElem_toArray, List.getElem_cons_zero, List.getElem_cons_succ, List.setIfInBounds_toArray, List.set_cons_zero, List.set_cons_succ]
          refine anyL_take (i := 12) (v := ?vq12) rfl (by kernel_rfl) (by kernel_rfl) (by kernel_rfl) (by kernel_rfl) (fun _ _ _ h => h) (Or.inl ⟨by rfl, ?hq12⟩) (S0) ?_
          case hq12 => (intro w hSw; (try dsimp only at hSw); go_simp) <;> with_reducible rfl
          simp only [Act.put, List.getElem_toArray, List.getElem_cons_zero, List.getElem_cons_succ, List.setIfInBounds_toArray, List.set_cons_zero, List.set_cons_succ]
          refine anyL_take (i := 13) (v := ?vq13) rfl (by kernel_rfl) (by kernel_rfl) (by kernel_rfl) (by kernel_rfl) (fun _ _ _ h => h) (Or.inl ⟨by rfl, ?hq13⟩) (S0) ?_
          case hq13 => (intro w hSw; (try dsimp only at hSw); go_simp) <;> with_reducible rfl
          simp only [Act.put, List.getElem_toArray, List.getElem_cons_zero, List.getElem_cons_succ, List.setIfInBounds_toArray, List.set_cons_zero, List.set_cons_succ]
          refine anyL_ready (rs := [14]) (by kernel_rfl) (by simp) ?_
          refine AllL.cons rfl (fun K hK => ?_) AllL.nil
          go_simp
          refine unhide hK _ _ (fun _ => S1) ?_
          clear hK K
          refine anyL_done (by kernel_rfl) ?_ _
          clear S0 cSd fSd hmx
          generalize v1.setCell ⟨g2, k + 1, none⟩ (.int .i64 (M1 : Int)) = v2 at *
          go_wp2_with fail
          by_cases hxy : x[i] = y[k]
          · rw [decide_eq_true hxy] at hstr
            have ht3 := unhide HTS hxy
            obtain ⟨r1, hr1⟩ : ∃ r1, r1 = r + 1 := ⟨_, rfl⟩
            have hmy : max (M1 : Int) ((r : Int) + 1) = (r1 : Int) := by have := unhide HM1; clear e1; omega
            have hrw : IntKind.i64.wrap ((r : Int) + 1) = (r : Int) + 1 := by clear e1; rw [IntKind.wrap_i64]; omega
            have HNX := hide (fun n => ((((unhide HK1).1.dN n).dN 1).set h2 r1).2 (by rw [ht3.1, hr1]))
            clear ht3 hr1 HK1 HTS HTN S1
            go_quiet (fail)
            clear d1 d2
            have T0 : (v2.drewN nq).drew.cell? ⟨g2, k + 1, none⟩ = some (.int .i64 (M1 : Int)) ∧ (v2.drewN nq).drew.cell? ⟨g1, k, none⟩ = some (.int .i64 (r : Int)) := ⟨(World.cell?_of_block (a := ⟨g2, k + 1, none⟩) (congrArg (·[g2]?) (drewN_heap v2 (nq + 1)))).trans d4, (World.cell?_of_block (a := ⟨g1, k, none⟩) (congrArg (·[g1]?) (drewN_heap v2 (nq + 1)))).trans d3⟩
            have T5 : (v2.drewN nq).drew.frozen? ⟨g2, k + 1, none⟩ = false := (World.frozen?_of_block (a := ⟨g2, k + 1, none⟩) (congrArg (·[g2]?) (drewN_heap v2 (nq + 1)))).trans d5
            have T4 := T0.1
            have HNY : Hid (CoN w ((v2.drewN nq).drew.setCell ⟨g2, k + 1, none⟩ (.int .i64 (r1 : Int))) x y i (k + 1) g1 g2) := hide (unhide HNX nq)
            clear HNX d3 d4 d5
            generalize v2.drewN nq = v3 at *
            go_wp2_with fail
            refine regionL (S := fun w' => w'.cell? ⟨g2, k + 1, none⟩ = some (.int .i64 (M1 : Int)) ∧ w'.cell? ⟨g1, k, none⟩ = some (.int .i64 (r : Int))) (fun i => i == 15) (by kernel_rfl) ?_
            generalize v3.drew = v4 at *
            refine anyL_take (i := 0) (v := ?vq14) rfl (by kernel_rfl) (by kernel_rfl) (by kernel_rfl) (by kernel_rfl) (fun _ _ _ h => h) (Or.inl ⟨by rfl, ?hq14⟩) (T0) ?_
            case hq14 => (intro w hSw; (try dsimp only at hSw); go_simp) <;> with_reducible rfl
            simp only [Act.put, List.getElem_toArray, List.getElem_cons_zero, List.setIfInBounds_toArray, List.set_cons_zero, List.set_cons_succ]
            refine anyL_take (i := 1) (v := ?vq15) rfl (by kernel_rfl) (by kernel_rfl) (by kernel_rfl) (by kernel_rfl) (fun _ _ _ h => h) (Or.inl ⟨by rfl, ?hq15⟩) (T0) ?_
            case hq15 => (intro w hSw; (try dsimp only at hSw); go_simp) <;> with_reducible rfl
            simp only [Act.put, List.getElem_toArray, List.getElem_cons_zero, List.getElem_cons_succ, List.setIfInBounds_toArray, List.set_cons_zero, List.set_cons_succ]
            refine anyL_take (i := 2) (v := ?vq16) rfl (by kernel_rfl) (by kernel_rfl) (by kernel_rfl) (by kernel_rfl) (fun _ _ _ h => h) (Or.inl ⟨by rfl, ?hq16⟩) (T0) ?_
            case hq16 => (intro w hSw; (try dsimp only at hSw); go_simp) <;> with_reducible rfl
            simp only [Act.put, List.getElem_toArray, List.getElem_cons_zero, List.getElem_cons_succ, List.setIfInBounds_toArray, List.set_cons_zero, List.set_cons_succ]
            refine anyL_take (i := 3) (v := ?vq17) rfl (by kernel_rfl) (by kernel_rfl) (by kernel_rfl) (by kernel_rfl) (fun _ _ _ h => h) (Or.inl ⟨by rfl, ?hq17⟩) (T0) ?_
            case hq17 => (intro w hSw; (try dsimp only at hSw); go_simp) <;> with_reducible rfl
            simp only [Act.put, List.getElem_toArray, List.getElem_cons_zero, List.getElem_cons_succ, List.setIfInBounds_toArray, List.set_cons_zero, List.set_cons_succ]
            refine anyL_take (i := 4) (v := ?vq18) rfl (by kernel_rfl) (by kernel_rfl) (by kernel_rfl) (by kernel_rfl) (fun _ _ _ h => h) (Or.inl ⟨by rfl, ?hq18⟩) (T0) ?_
            case hq18 => (intro w hSw; (try dsimp only at hSw); go_simp) <;> with_reducible rfl
            simp only [Act.put, List.getElem_toArray, List.getElem_cons_zero, List.getElem_cons_succ, List.setIfInBounds_toArray, List.set_cons_zero, List.set_cons_succ]
            refine anyL_take (i := 5) (v := ?vq19) rfl (by kernel_rfl) (by kernel_rfl) (by kernel_rfl) (by kernel_rfl) (fun _ _ _ h => h) (Or.inl ⟨by rfl, ?hq19⟩) (T0) ?_
            case hq19 => (intro w hSw; (try dsimp only at hSw); go_simp) <;> with_reducible rfl
            simp only [Act.put, List.getElem_toArray, List.getElem_cons_zero, List.getElem_cons_succ, List.setIfInBounds_toArray, List.set_cons_zero, List.set_cons_succ]
            refine anyL_take (i := 6) (v := ?vq20) rfl (by kernel_rfl) (by kernel_rfl) (by kernel_rfl) (by kernel_rfl) (fun _ _ _ h => h) (Or.inl ⟨by rfl, ?hq20⟩) (T0) ?_
            case hq20 => (intro w hSw; (try dsimp only at hSw); go_simp) <;> with_reducible rfl
            simp only [Act.put, List.getElem_toArray, List.getElem_cons_zero, List.getElem_cons_succ, List.setIfInBounds_toArray, List.set_cons_zero, List.set_cons_succ]
            refine anyL_take (i := 7) (v := ?vq21) rfl (by kernel_rfl) (by kernel_rfl) (by kernel_rfl) (by kernel_rfl) (fun _ _ _ h => h) (Or.inl ⟨by rfl, ?hq21⟩) (T0) ?_
            case hq21 => (intro w hSw; (try dsimp only at hSw); go_simp) <;> with_reducible rfl
            simp only [Act.put, List.getElem_toArray, List.getElem_cons_zero, List.getElem_cons_succ, List.setIfInBounds_toArray, List.set_cons_zero, List.set_cons_succ]
            refine anyL_take (i := 8) (v := ?vq22) rfl (by kernel_rfl) (by kernel_rfl) (by kernel_rfl) (by kernel_rfl) (fun _ _ _ h => h) (Or.inl ⟨by rfl, ?hq22⟩) (T0) ?_
            case hq22 => (intro w hSw; (try dsimp only at hSw); go_simp) <;> with_reducible rfl
            simp only [Act.put, List.getElem_toArray, List.getElem_cons_zero, List.getElem_cons_succ, List.setIfInBounds_toArray, List.set_cons_zero, List.set_cons_succ]
            refine anyL_take (i := 9) (v := ?vq23) rfl (by kernel_rfl) (by kernel_rfl) (by kernel_rfl) (by kernel_rfl) (fun _ _ _ h => h) (Or.inl ⟨by rfl, ?hq23⟩) (T0) ?_
            case hq23 => (intro w hSw; (try dsimp only at hSw); go_simp) <;> with_reducible rfl
            simp only [Act.put, List.getElem_toArray, List.getElem_cons_zero, List.getElem_cons_succ, List.setIfInBounds_toArray, List.set_cons_zero, List.set_cons_succ]
            refine anyL_take (i := 10) (v := ?vq24) rfl (by kernel_rfl) (by kernel_rfl) (by kernel_rfl) (by kernel_rfl) (fun _ _ _ h => h) (Or.inl ⟨by rfl, ?hq24⟩) (T0) ?_
            case hq24 => (intro w hSw; (try dsimp only at hSw); go_simp) <;> with_reducible rfl
            simp only [Act.put, List.getElem_toArray, List.getElem_cons_zero, List.getElem_cons_succ, List.setIfInBounds_toArray, List.set_cons_zero, List.set_cons_succ]
            refine anyL_take (i := 11) (v := ?vq25) rfl (by kernel_rfl) (by kernel_rfl) (by kernel_rfl) (by kernel_rfl) (fun _ _ _ h => h) (Or.inl ⟨by rfl, ?hq25⟩) (T0) ?_
            case hq25 => (intro w hSw; (try dsimp only at hSw); go_simp) <;> with_reducible rfl
            simp only [Act.put, List.getElem_toArray, List.getElem_cons_zero, List.getElem_cons_succ, List.setIfInBounds_toArray, List.set_cons_zero, List.set_cons_succ]
            refine anyL_take (i := 12) (v := ?vq26) rfl (by kernel_rfl) (by kernel_rfl) (by kernel_rfl) (by kernel_rfl) (fun _ _ _ h => h) (Or.inl ⟨by rfl, ?hq26⟩) (T0) ?_
            case hq26 => (intro w hSw; (try dsimp only at hSw); go_simp) <;> with_reducible rfl
            simp only [Act.put, List.getElem_toArray, List.getElem_cons_zero, List.getElem_cons_succ, List.setIfInBounds_toArray, List.set_cons_zero, List.set_cons_succ]
            refine anyL_take (i := 13) (v := ?vq27) rfl (by kernel_rfl) (by kernel_rfl) (by kernel_rfl) (by kernel_rfl) (fun _ _ _ h => h) (Or.inl ⟨by rfl, ?hq27⟩) (T0) ?_
            case hq27 => (intro w hSw; (try dsimp only at hSw); go_simp) <;> with_reducible rfl
            simp only [Act.put, List.getElem_toArray, List.getElem_cons_zero, List.getElem_cons_succ, List.setIfInBounds_toArray, List.set_cons_zero, List.set_cons_succ]
            refine anyL_take (i := 14) (v := ?vq28) rfl (by kernel_rfl) (by kernel_rfl) (by kernel_rfl) (by kernel_rfl) (fun _ _ _ h => h) (Or.inl ⟨by rfl, ?hq28⟩) (T0) ?_
            case hq28 => (intro w hSw; (try dsimp only at hSw); go_simp) <;> with_reducible rfl
            simp only [Act.put, List.getElem_toArray, List.getElem_cons_zero, List.getElem_cons_succ, List.setIfInBounds_toArray, List.set_cons_zero, List.set_cons_succ]
            refine anyL_ready (rs := [15]) (by kernel_rfl) (by simp) ?_
            refine AllL.cons rfl (fun K hK => ?_) AllL.nil
            go_simp
            refine unhide hK _ _ (fun h => absurd h (by decide)) ?_
            clear hK K
            refine anyL_done (by kernel_rfl) ?_ _
            clear T0 T4 T5
            go_wp2_with fail
            go_roundw
            case rel => exact ⟨k + 1, by go_num, h2, HNY⟩
            case measure => simp [intOf]; omega
          · rw [decide_eq_false hxy] at hstr
            have hv := unhide HTN hxy
            have HNX := hide (fun n => ((unhide HK1).2 (by rw [hv]; exact unhide HM1)).dN n)
            clear hv HK1 HTS HTN d3 d4 d5 S1
            go_quiet (fail)
            go_wp2_with fail
            go_roundw
            case rel => exact ⟨k + 1, by go_num, h2, hide (unhide HNX _)⟩
            case measure => simp [intOf]; omega
        · have t2 : decide ((k : Int) < (y.length : Int)) = false := decide_eq_false (by omega)
          obtain ⟨f, q1, q2⟩ := (unhide HN).t
          have HE : Hid (CoL w wr x y (i + 1) g2) := hide ⟨q1.congr fun j hj => q2 j (by omega), (unhide HN).o.b, (unhide HN).n.1⟩
          clear HN q1 q2
          go_wp2_with fail
          go_roundw
          case rel => exact ⟨⟨_, rfl⟩, ⟨_, rfl⟩, i + 1, g2, rfl, by go_num, h1, HE⟩
          case measure => simp [intOf]; omega
    · have t1 : decide ((i : Int) < (x.length : Int)) = false := decide_eq_false (by omega)
      have ce := (unhide HL).l.cell (k := y.length) (by omega)
      have e0 : lcs (x.take i) (y.take y.length) = lcs x y := by rw [List.take_of_length_le (by omega), List.take_length]
      rw [e0] at ce
      have f1 : (y.length : Int) < (y.length : Int) + 1 := by omega
      have f2 : (0 : Int) ≤ (y.length : Int) := by omega
      have HB := hide (unhide HL).b
      clear HL e0
      go_wp2_with fail
      exact bodyPost_ret (results_tmp rfl _ _ _) rfl ⟨rfl, unhide HB⟩
end Go.Proofs.YtkdnanlgkedjgaaDoor
end

section
namespace Go.Proofs.YtkdnanlgkedjgaaDoor
open Go.ChangeShapes Go.WideShapes Go.ChangeAt Go.RowKit
attribute [local go_sem] Oper.semAt_some

theorem cut_byl {l : List Int} (hb : ByL l) : ∀ cs : List Nat, ∀ q ∈ cutP l cs, ByL q
  | [], q, h => by cases h
  | [_], q, h => by cases h
  | c :: d :: r, q, h => by
    rcases List.mem_cons.1 h with rfl | h
    · exact fun x hx => hb x (List.mem_of_mem_drop (List.mem_of_mem_take hx))
    · exact cut_byl hb (d :: r) q h
set_option maxRecDepth 100000 in
set_option maxHeartbeats 4000000 in
theorem RDistance_at (a0 : Option Addr) (c0 : Nat) (l : List Int) (b0 : Option Addr) (d0 : Nat) (m : List Int) (w : World) (hA : IsB w a0 c0 l) (hB : IsB w b0 d0 m) (hl : l.length ≤ 1048576) (hm : m.length ≤ 1048576) (s1 : (cutS l).length ≤ 2049) (s2 : (cutS m).length ≤ 2049) :
    Calls Tryd.prog 13 #[.slice a0 l.length c0, .slice b0 m.length d0] w fun e w' => e = .returned (.tuple #[.int .i64 (aloN cutS l m : Int), .int .i64 0]) ∧ Below w.heap.size w w' := by
  have HC1 := hide (RSteps_at a0 c0 l w hA hl)
  have HC2 := hide fun (X : World) (hX : Below w.heap.size w X) => RSteps_at b0 d0 m X (hB.below hX (Nat.le_refl _)) hm
  have n1 := cutP_cnt (cutS_ok l)
  have n2 := cutP_cnt (cutS_ok m)
  have z1 := cnt_le l
  have z2 := cnt_le m
  have hlc := lcs_len (cutP l (cutS l)) (cutP m (cutS m))
  have HAL : Hid (∀ L : Nat, L = lcs (cutP l (cutS l)) (cutP m (cutS m)) → Value.int .i64 (((cutP l (cutS l)).length : Int) + ((cutP m (cutS m)).length : Int) - 2 * (L : Int)) = .int .i64 (aloN cutS l m : Int)) := hide fun L e => by unfold aloN; rw [← e] at hlc ⊢; congr 1; omega
  have HCM := hide fun (a a' : Option Addr) (c c' : Nat) (X : World) (h : IsTx X a (cutP l (cutS l))) (h' : IsTx X a' (cutP m (cutS m))) => RCommon_at a c (cutP l (cutS l)) a' c' (cutP m (cutS m)) X h h' (by omega) (by omega) (cut_byl hA.2.2.2 _) (cut_byl hB.2.2.2 _)
  clear hA hB
  go_enter Tryd.func13, Tryd.ntmps13
  go_wp2_with fail
  refine (unhide HC1).mono ?_
  rintro e w1 ⟨v1, rfl, x1⟩
  obtain ⟨k1, y1, _⟩ := x1.row
  obtain ⟨a1, c1, rfl, i1⟩ := ra_txs y1
  dsimp only
  have HB1 := hide x1.b
  have HI1 := hide i1
  clear HC1 x1 y1 i1
  go_wp2_with fail
  refine (unhide HC2 w1 (unhide HB1)).mono ?_
  rintro e w2 ⟨v2, rfl, x2⟩
  obtain ⟨k2, y2, _⟩ := x2.row
  obtain ⟨a2, c2, rfl, i2⟩ := ra_txs y2
  dsimp only
  have HB2 := hide ((unhide HB1).trans (x2.b.mono (unhide HB1).size))
  have HC3 := hide (unhide HCM a1 a2 c1 c2 w2 ((unhide HI1).below x2.b (Nat.le_refl _)) i2)
  have t1 : decide (((cutP l (cutS l)).length : Int) > 2048) = false := decide_eq_false (by omega)
  have t2 : decide (((cutP m (cutS m)).length : Int) > 2048) = false := decide_eq_false (by omega)
  have p1 : (cutP l (cutS l)).length ≤ 2048 := by omega
  have p2 : (cutP m (cutS m)).length ≤ 2048 := by omega
  clear HC2 HCM HB1 HI1 x2 y2 i2
  obtain ⟨L, hL⟩ : ∃ L, L = lcs (cutP l (cutS l)) (cutP m (cutS m)) := ⟨_, rfl⟩
  rw [← hL] at HC3 hlc
  have HE := hide (unhide HAL L hL)
  clear HAL hL n1 n2 z1 z2
  go_wp2_with fail
  refine (unhide HC3).mono ?_
  rintro e w3 ⟨rfl, hb3⟩
  dsimp only
  have HB3 := hide ((unhide HB2).trans (hb3.mono (unhide HB2).size))
  clear HC3 HB2 hb3
  go_wp2_with fail
  refine bodyPost_ret (results_tmp2 rfl _ _ _) rfl ⟨?_, unhide HB3⟩
  rw [← unhide HE]
  rfl
set_option maxRecDepth 100000 in
set_option maxHeartbeats 8000000 in
theorem DiffDistance_any (a0 : Option Addr) (c0 : Nat) (l : List Int) (b0 : Option Addr) (d0 : Nat) (m : List Int) (w : World) (hA : IsB w a0 c0 l) (hB : IsB w b0 d0 m) (hT : Tab w) :
    Calls Tryd.prog 3 #[.slice a0 l.length c0, .slice b0 m.length d0] w fun e w' => e = .returned (.bool true) ∧ Below w.heap.size w w' := by
  have HW := hide (wakes19_at w hT)
  have HA := hide hA
  have HB := hide hB
  have HT := hide hT
  clear hA hB hT
  have HLO1 := hide fun (X : World) => long19_at a0 l.length c0 b0 m.length d0 X
  go_enter Tryd.func3, Tryd.ntmps3
  go_wp2_with fail
  refine (unhide HW).mono ?_
  rintro e w1 ⟨rfl, hb1⟩
  dsimp only
  have H1 := hide hb1
  clear HW hb1
  go_wp2_with fail
  refine (unhide HLO1 w1).mono ?_
  rintro e w2 ⟨rfl, rfl⟩
  dsimp only
  by_cases hl1 : 700 < l.length ∨ 700 < m.length
  · rw [decide_eq_true hl1]
    go_wp2_with fail
    exact bodyPost_ret (results_tmp rfl _ _ _) rfl ⟨rfl, unhide H1⟩
  rw [decide_eq_false hl1]
  have HCS : Hid ((cutS l).length ≤ 2049 ∧ (cutS m).length ≤ 2049) := hide ⟨cut_small (by omega), cut_small (by omega)⟩
  have HSZ : Hid (l.length ≤ 700 ∧ m.length ≤ 700) := hide (by omega)
  clear HLO1 hl1
  go_wp2_with fail
  refine (own19_at a0 c0 l w2 ((unhide HA).below (unhide H1) (Nat.le_refl _))).mono ?_
  rintro e u1 ⟨p1, q1, rfl, i1, hb1⟩
  dsimp only
  have G1 := hide ((unhide H1).trans (hb1.mono (unhide H1).size))
  have I1 := hide i1
  clear hb1 i1 H1
  go_wp2_with fail
  refine (own19_at b0 d0 m u1 ((unhide HB).below (unhide G1) (Nat.le_refl _))).mono ?_
  rintro e u2 ⟨p2, q2, rfl, i2, hb2⟩
  dsimp only
  have G2 := hide ((unhide G1).trans (hb2.mono (unhide G1).size))
  have I2 := hide i2
  have I3 := hide ((unhide I1).below hb2 (Nat.le_refl _))
  clear hb2 i2 I1 G1
  go_wp2_with fail
  refine (Distance_at p1 q1 l p2 q2 m u2 (unhide I3) (unhide I2) ((unhide HT).below (unhide G2) (unhide HT).size)).mono ?_
  rintro e u3 ⟨hb3, ⟨hno, _⟩ | ⟨_, _, rfl⟩⟩
  · have := unhide HCS; exact absurd ⟨by omega, by omega⟩ hno
  dsimp only
  have G3 := hide ((unhide G2).trans (hb3.mono (unhide G2).size))
  clear hb3 I2 I3 G2
  go_wp2_with fail
  refine (RDistance_at a0 c0 l b0 d0 m u3 ((unhide HA).below (unhide G3) (Nat.le_refl _)) ((unhide HB).below (unhide G3) (Nat.le_refl _)) (by have := unhide HSZ; omega) (by have := unhide HSZ; omega) (unhide HCS).1 (unhide HCS).2).mono ?_
  rintro e u4 ⟨rfl, hb4⟩
  dsimp only
  have G4 := hide ((unhide G3).trans (hb4.mono (unhide G3).size))
  clear hb4 G3
  generalize aloN cutS l m = AB at *
  go_wp2_with fail
  exact bodyPost_ret (results_tmp rfl _ _ _) rfl ⟨rfl, unhide G4⟩
end Go.Proofs.YtkdnanlgkedjgaaDoor
end

section
namespace Go.Proofs.YtkdnanlgkedjgaaDoor
/-- does a line end behind byte i? -/
def endL (l : List Int) (i : Nat) : Bool := decide (l.getD i 0 = 10) || (decide (l.getD i 0 = 13) && (decide (i + 1 = l.length) || !decide (l.getD (i + 1) 0 = 10)))
def upC (l : List Int) (i : Nat) : List Nat := 0 :: ((List.range i).filter (endL l)).map (· + 1)
theorem upC_yes {l : List Int} {i : Nat} (h : endL l i = true) : upC l (i + 1) = upC l i ++ [i + 1] := by
  unfold upC; rw [List.range_succ, List.filter_append]; simp [h]
theorem upC_no {l : List Int} {i : Nat} (h : endL l i = false) : upC l (i + 1) = upC l i := by
  unfold upC; rw [List.range_succ, List.filter_append]; simp [h]
theorem endL_not {l : List Int} {i : Nat} (h : isNl (l.getD i 0) = false) : endL l i = false := by
  unfold isNl at h; unfold endL; simp at h ⊢; omega
theorem filter_none {s n : Nat} {p : Nat → Bool} (h : ∀ j, s ≤ j → j < s + n → p j = false) : (List.range' s n).filter p = [] := by
  rw [List.filter_eq_nil_iff]
  intro a ha
  rw [List.mem_range'_1] at ha
  rw [h a ha.1 ha.2]; simp
theorem sta_up {l : List Int} : ∀ (f k s : Nat), l.length - s ≤ f → s ≤ l.length → ((lnR l k s).map fun e => e.2.1) = s :: ((List.range' s (l.length - s)).filter (endL l)).map (· + 1) := by
  intro f
  induction f with
  | zero =>
    intro k s h hs
    have hn : ¬ ctn l s < l.length := by have := ctn_le l s; omega
    rw [lnR_last hn, show l.length - s = 0 by omega]
    rfl
  | succ f ih =>
    intro k s h hs
    by_cases hc : ctn l s < l.length
    · have h1 := ctn_le l s
      have h4 := nxt_len hc
      have hnl := ctn_nl hc
      have hno : ∀ j, s ≤ j → j < ctn l s → endL l j = false := fun j a b => endL_not (ctn_no a b hs)
      have e0 : (l.drop (ctn l s)).getD 0 0 = l.getD (ctn l s) 0 := by simp [List.getD]
      have e1 : (l.drop (ctn l s)).getD 1 0 = l.getD (ctn l s + 1) 0 := by simp [List.getD, List.getElem?_drop]
      rw [lnR_cons hc, List.map_cons, ih (k + 1) (nxt l (ctn l s)) (by have := nxt_gt l (ctn l s); omega) h4]
      have key : (List.range' s (nxt l (ctn l s) - s)).filter (endL l) = [nxt l (ctn l s) - 1] := by
        unfold nxt edw at h4 ⊢
        rw [e0, e1] at h4 ⊢
        split
        · rename_i g
          have hlt : ctn l s + 1 < l.length := by
            rw [if_pos g] at h4; omega
          rw [show ctn l s + 2 - s = (ctn l s + 1 - s) + 1 by omega, List.range'_concat, List.filter_append, filter_none (fun j a b => by
            by_cases e : j = ctn l s
            · subst e; unfold endL; rw [g.1, g.2]; simp; omega
            · exact hno j a (by omega))]
          have : endL l (ctn l s + 1) = true := by unfold endL; rw [g.2]; simp
          simp [show s + (ctn l s + 1 - s) = ctn l s + 1 by omega, this]
        · rename_i g
          rw [show ctn l s + 1 - s = (ctn l s - s) + 1 by omega, List.range'_concat, List.filter_append, filter_none (fun j a b => hno j a (by omega))]
          have : endL l (ctn l s) = true := by
            unfold isNl at hnl; unfold endL
            simp at hnl g ⊢
            rcases hnl with e | e
            · exact .inr ⟨e, .inr (g e)⟩
            · exact .inl e
          simp [show s + (ctn l s - s) = ctn l s by omega, this]
      have hg := nxt_gt l (ctn l s)
      generalize nxt l (ctn l s) = q at *
      show s :: q :: _ = _
      rw [show l.length - s = (q - s) + (l.length - q) by omega, ← List.range'_append_1, List.filter_append, key]
      simp [show s + (q - s) = q by omega, show q - 1 + 1 = q by omega]
    · rw [lnR_last hc]
      have : (List.range' s (l.length - s)).filter (endL l) = [] := filter_none fun j a b => endL_not (ctn_no a (by have := ctn_len hs; omega) hs)
      rw [this]; rfl
theorem staL_up (l : List Int) : staL l = upC l l.length := by
  have := sta_up (l := l) l.length 0 0 (by omega) (Nat.zero_le _)
  unfold upC
  rw [List.range_eq_range']
  exact this
/-- the pieces between cuts and one cut more -/
theorem cutP_snoc (l : List Int) : ∀ (cs : List Nat) (c d : Nat), cutP l ((cs ++ [c]) ++ [d]) = cutP l (cs ++ [c]) ++ [subL l c d]
  | [], c, d => rfl
  | [b], c, d => rfl
  | a :: b :: r, c, d => by
    have := cutP_snoc l (b :: r) c d
    show _ :: cutP l ((b :: r ++ [c]) ++ [d]) = _ :: (cutP l (b :: r ++ [c]) ++ _)
    rw [this]
def lastC (l : List Int) (i : Nat) : Nat := (upC l i).getLast (by simp [upC])
theorem up_snoc {l : List Int} {i : Nat} : ∃ cs, upC l i = cs ++ [lastC l i] := ⟨_, (List.dropLast_concat_getLast (l := upC l i) (by simp [upC])).symm⟩
theorem piece_yes {l : List Int} {i : Nat} (h : endL l i = true) : cutP l (upC l (i + 1)) = cutP l (upC l i) ++ [subL l (lastC l i) (i + 1)] ∧ lastC l (i + 1) = i + 1 := by
  have hu := upC_yes h
  refine ⟨?_, ?_⟩
  · rw [hu]
    obtain ⟨cs, hc⟩ := up_snoc (l := l) (i := i)
    rw [hc]; exact cutP_snoc l cs _ _
  · unfold lastC; simp [hu]
theorem piece_no {l : List Int} {i : Nat} (h : endL l i = false) : cutP l (upC l (i + 1)) = cutP l (upC l i) ∧ lastC l (i + 1) = lastC l i := by
  have hu := upC_no h
  exact ⟨by rw [hu], by unfold lastC; simp [hu]⟩
theorem last_le (l : List Int) (i : Nat) : lastC l i ≤ i := by
  have : lastC l i ∈ upC l i := List.getLast_mem _
  unfold upC at this
  simp at this
  rcases this with e | ⟨a, ⟨h, _⟩, e⟩ <;> omega
theorem cutN_last (l : List Int) : (staL l).getD ((staL l).length - 1) 0 = lastC l l.length := by
  rw [staL_up]
  unfold lastC
  have : (upC l l.length).length - 1 < (upC l l.length).length := by simp [upC]
  rw [List.getLast_eq_getElem (by simp [upC])]
  simp only [List.getD, List.getElem?_eq_getElem this, Option.getD_some]
theorem pieces_more {l : List Int} (h : lastC l l.length < l.length) : cutP l (cutN l) = cutP l (upC l l.length) ++ [subL l (lastC l l.length) l.length] := by
  unfold cutN
  rw [cutN_last, if_pos h, staL_up]
  obtain ⟨cs, hc⟩ := up_snoc (l := l) (i := l.length)
  rw [hc]; exact cutP_snoc l cs _ _
theorem pieces_all {l : List Int} (h : ¬ lastC l l.length < l.length) : cutP l (cutN l) = cutP l (upC l l.length) := by
  unfold cutN
  rw [cutN_last, if_neg h, staL_up]
end Go.Proofs.YtkdnanlgkedjgaaDoor
end

section
namespace Go.Proofs.YtkdnanlgkedjgaaDoor
open Go.ChangeShapes Go.WideShapes Go.ChangeAt Go.RowKit
attribute [local go_sem] Oper.semAt_some

theorem upC_len (l : List Int) (i : Nat) : (upC l i).length ≤ i + 1 := by
  unfold upC
  have := List.length_filter_le (endL l) (List.range i)
  simp at this ⊢; omega
set_option maxRecDepth 100000 in
set_option maxHeartbeats 4000000 in
theorem RPieces_at (a0 : Option Addr) (c0 : Nat) (l : List Int) (w : World) (hB : IsB w a0 c0 l) (hl : l.length ≤ 1048576) :
    Calls Tryd.prog 34 #[.slice a0 l.length c0] w fun e w' => ∃ v, e = .returned v ∧ TxI w w' (cutP l (cutN l)) v := by
  have hcap := hB.1
  have HB := hide hB
  clear hB
  go_enter Tryd.func34, Tryd.ntmps34
  have H0 : Hid (TxI w w (cutP l (upC l 0)) (.slice none 0 0)) := hide ⟨⟨none, RA.nil w 1, fun _ e => by cases e⟩, Below.refl _ _⟩
  go_wp2_with fail
  go_loopw [3, 4, 5] (fun v3 v4 v5 wx => ∃ i : Nat, i ≤ l.length ∧ v4 = .int .i64 (lastC l i : Int) ∧ v5 = .int .i64 (i : Int) ∧ Hid (TxI w wx (cutP l (upC l i)) v3)) (fun _ _ v5 _ => l.length - (intOf v5).toNat)
  case atStart => exact ⟨0, Nat.zero_le _, rfl, rfl, H0⟩
  case round =>
    clear H0
    obtain ⟨i, hi, rfl, rfl, HT⟩ := hrel
    by_cases h1 : i < l.length
    · have t1 := lt_int h1
      have HBx := hide ((unhide HB).below (unhide HT).b (Nat.le_refl _))
      obtain ⟨g, off, rfl⟩ := (unhide HBx).someB (by omega)
      have cx := (unhide HBx).byteAt (i := i) h1
      have hla := last_le l i
      have HY : Hid (endL l i = true → ∃ pp : List Int, cutP l (upC l (i + 1)) = cutP l (upC l i) ++ [pp] ∧ pp = subL l (lastC l i) (i + 1) ∧ lastC l (i + 1) = i + 1) := hide fun h => ⟨_, (piece_yes h).1, rfl, (piece_yes h).2⟩
      have HN := hide fun h : endL l i = false => piece_no h
      have hul := upC_len l i
      have hcl := cutP_len l (upC l i)
      have e1 : IntKind.i64.wrap ((i : Int) + 1) = (i : Int) + 1 := by rw [IntKind.wrap_i64]; omega
      by_cases c1 : l.getD i 0 = 10
      · have hend : endL l i = true := by unfold endL; simp only [c1]; rfl
        rw [c1] at cx
        obtain ⟨pp, HP1, hpp, HP2⟩ := unhide HY hend
        obtain ⟨v', Y, hr, hn, hy⟩ := (unhide HT).push pp 48 (by omega)
        have KC0 : (convert 22 9 (.slice (some ⟨g, off + lastC l i, none⟩) pp.length (c0 - lastC l i))).run Tryd.prog wr = .ok (.string (strOfNums pp)) wr := by
          have := str_bs wr _ (c0 - lastC l i) _ (((unhide HBx).loD (n := lastC l i)).takeD (n := i + 1 - lastC l i)).2.2.1
          rw [if_neg (by omega), Option.map_some, Addr.add_lit] at this
          rw [hpp]
          exact this
        have hpl : i + 1 - lastC l i = pp.length := by rw [hpp]; unfold subL; simp; omega
        have HN2 : Hid (TxI w Y (cutP l (upC l (i + 1))) v') := hide (by rw [HP1]; exact hn)
        have R1 := hide hr
        clear HY HN hr hn hy hpp HP1 hend hcl hul HT HB
        have f5 : (0 : Int) ≤ (lastC l i : Int) := by clear e1; omega
        have f6 : (lastC l i : Int) ≤ (i : Int) + 1 := by clear e1; omega
        have f7 : (i : Int) + 1 ≤ (c0 : Int) := by clear e1; omega
        have f8 : i + 1 ≤ c0 := by clear e1; omega
        have f9 : ¬ c0 = lastC l i := by clear e1; omega
        generalize lastC l i = lo at *
        go_wp2_with (at_builtin; refine wpList_append_known rfl _ _ 48 48 rfl _ _ rfl rfl _ _ (unhide R1) ?_; clear R1)
        go_roundw
        case rel => exact ⟨i + 1, by omega, by rw [HP2]; go_num, by go_num, HN2⟩
        case measure => simp [intOf]; omega
      · by_cases c2 : l.getD i 0 = 13
        · rw [c2] at cx
          by_cases c3 : i + 1 = l.length
          · have hend : endL l i = true := by unfold endL; rw [c2, decide_eq_true c3]; rfl
            have t3 : decide ((i : Int) + 1 = (l.length : Int)) = true := decide_eq_true (by omega)
            obtain ⟨pp, HP1, hpp, HP2⟩ := unhide HY hend
            obtain ⟨v', Y, hr, hn, hy⟩ := (unhide HT).push pp 48 (by omega)
            have KC0 : (convert 22 9 (.slice (some ⟨g, off + lastC l i, none⟩) pp.length (c0 - lastC l i))).run Tryd.prog wr = .ok (.string (strOfNums pp)) wr := by
              have := str_bs wr _ (c0 - lastC l i) _ (((unhide HBx).loD (n := lastC l i)).takeD (n := i + 1 - lastC l i)).2.2.1
              rw [if_neg (by omega), Option.map_some, Addr.add_lit] at this
              rw [hpp]
              exact this
            have hpl : i + 1 - lastC l i = pp.length := by rw [hpp]; unfold subL; simp; omega
            have hpl2 : l.length - lastC l i = pp.length := by rw [← c3]; exact hpl
            have HC3 := hide c3
            clear c3
            have HN2 : Hid (TxI w Y (cutP l (upC l (i + 1))) v') := hide (by rw [HP1]; exact hn)
            have R1 := hide hr
            clear HY HN hr hn hy hpp HP1 hend hcl hul HT HB
            have f5 : (0 : Int) ≤ (lastC l i : Int) := by clear e1; omega
            have f6 : (lastC l i : Int) ≤ (i : Int) + 1 := by clear e1; omega
            have f7 : (i : Int) + 1 ≤ (c0 : Int) := by clear e1; omega
            have f8 : i + 1 ≤ c0 := by clear e1; omega
            have f9 : ¬ c0 = lastC l i := by clear e1; omega
            generalize lastC l i = lo at *
            go_wp2_with (at_builtin; refine wpList_append_known rfl _ _ 48 48 rfl _ _ rfl rfl _ _ (unhide R1) ?_; clear R1)
            go_roundw
            case rel => exact ⟨i + 1, by omega, by rw [HP2, unhide HC3], by rw [unhide HC3], HN2⟩
            case measure => simp [intOf]; have := unhide HC3; omega
          · have h3 : i + 1 < l.length := by omega
            have cy := (unhide HBx).byteAt (i := i + 1) h3
            have t3 : decide ((i : Int) + 1 = (l.length : Int)) = false := decide_eq_false (by omega)
            have f3 : (i : Int) + 1 < (l.length : Int) := by omega
            by_cases c4 : l.getD (i + 1) 0 = 10
            · have hend : endL l i = false := by unfold endL; rw [c2, c4, decide_eq_false c3]; rfl
              rw [c4] at cy
              obtain ⟨HP1, HP2⟩ := unhide HN hend
              have HT2 := hide (by have := unhide HT; rw [← HP1] at this; exact this)
              clear HY HN hend hcl hul HT HP1
              go_wp2_with fail
              go_roundw
              case rel => exact ⟨i + 1, by omega, by rw [HP2], by go_num, HT2⟩
              case measure => simp [intOf]; omega
            · have hend : endL l i = true := by unfold endL; rw [c2, decide_eq_false c3, decide_eq_false c4]; rfl
              have q4 : (l.getD (i + 1) 0 != 10) = true := by simpa using c4
              have q5 : (l.getD (i + 1) 0 == 10) = false := by simpa using c4
              clear c4
              generalize l.getD (i + 1) 0 = y at *
              obtain ⟨pp, HP1, hpp, HP2⟩ := unhide HY hend
              obtain ⟨v', Y, hr, hn, hy⟩ := (unhide HT).push pp 48 (by omega)
              have KC0 : (convert 22 9 (.slice (some ⟨g, off + lastC l i, none⟩) pp.length (c0 - lastC l i))).run Tryd.prog wr = .ok (.string (strOfNums pp)) wr := by
                have := str_bs wr _ (c0 - lastC l i) _ (((unhide HBx).loD (n := lastC l i)).takeD (n := i + 1 - lastC l i)).2.2.1
                rw [if_neg (by omega), Option.map_some, Addr.add_lit] at this
                rw [hpp]
                exact this
              have hpl : i + 1 - lastC l i = pp.length := by rw [hpp]; unfold subL; simp; omega
              have HN2 : Hid (TxI w Y (cutP l (upC l (i + 1))) v') := hide (by rw [HP1]; exact hn)
              have R1 := hide hr
              clear HY HN hr hn hy hpp HP1 hend hcl hul HT HB
              have f5 : (0 : Int) ≤ (lastC l i : Int) := by clear e1; omega
              have f6 : (lastC l i : Int) ≤ (i : Int) + 1 := by clear e1; omega
              have f7 : (i : Int) + 1 ≤ (c0 : Int) := by clear e1; omega
              have f8 : i + 1 ≤ c0 := by clear e1; omega
              have f9 : ¬ c0 = lastC l i := by clear e1; omega
              generalize lastC l i = lo at *
              go_wp2_with (at_builtin; refine wpList_append_known rfl _ _ 48 48 rfl _ _ rfl rfl _ _ (unhide R1) ?_; clear R1)
              go_roundw
              case rel => exact ⟨i + 1, by omega, by rw [HP2]; go_num, by go_num, HN2⟩
              case measure => simp [intOf]; omega
        · have hend : endL l i = false := by unfold endL; rw [decide_eq_false c1, decide_eq_false c2]; rfl
          have q1 : (l.getD i 0 == 10) = false := by simpa using c1
          have q2 : (l.getD i 0 == 13) = false := by simpa using c2
          clear c1 c2
          generalize l.getD i 0 = x at *
          obtain ⟨HP1, HP2⟩ := unhide HN hend
          have HT2 := hide (by have := unhide HT; rw [← HP1] at this; exact this)
          clear HY HN hend hcl hul HT HP1
          go_wp2_with fail
          go_roundw
          case rel => exact ⟨i + 1, by omega, by rw [HP2], by go_num, HT2⟩
          case measure => simp [intOf]; omega
    · obtain rfl : i = l.length := by omega
      have t1 : decide ((l.length : Int) < (l.length : Int)) = false := decide_eq_false (by omega)
      have t2 : IntKind.i64.wrap (0 : Int) = 0 := rfl
      have hla := last_le l l.length
      have HBx := hide ((unhide HB).below (unhide HT).b (Nat.le_refl _))
      have hul := upC_len l l.length
      have hcl := cutP_len l (upC l l.length)
      by_cases c1 : lastC l l.length < l.length
      · have HP := pieces_more c1
        have hpp : ∃ pp, pp = subL l (lastC l l.length) l.length := ⟨_, rfl⟩
        obtain ⟨pp, hpp⟩ := hpp
        rw [← hpp] at HP
        obtain ⟨g, off, rfl⟩ := (unhide HBx).someB (by omega)
        obtain ⟨v', Y, hr, hn, hy⟩ := (unhide HT).push pp 48 (by omega)
        have KC0 : (convert 22 9 (.slice (some ⟨g, off + lastC l l.length, none⟩) pp.length (c0 - lastC l l.length))).run Tryd.prog wr = .ok (.string (strOfNums pp)) wr := by
          have := str_bs wr _ (c0 - lastC l l.length) _ (((unhide HBx).loD (n := lastC l l.length)).takeD (n := l.length - lastC l l.length)).2.2.1
          rw [if_neg (by omega), Option.map_some, Addr.add_lit] at this
          rw [hpp]
          exact this
        have hpl : l.length - lastC l l.length = pp.length := by rw [hpp]; unfold subL; simp
        have HN2 : Hid (TxI w Y (cutP l (cutN l)) v') := hide (by rw [HP]; exact hn)
        have R1 := hide hr
        have t3 := lt_int c1
        clear hr hn hy hpp HP hcl hul HT HB
        have f5 : (0 : Int) ≤ (lastC l l.length : Int) := by omega
        have f6 : (lastC l l.length : Int) ≤ (l.length : Int) := by omega
        have f7 : (l.length : Int) ≤ (c0 : Int) := by omega
        have f9 : ¬ c0 = lastC l l.length := by omega
        generalize lastC l l.length = lo at *
        go_wp2_with (at_builtin; refine wpList_append_known rfl _ _ 48 48 rfl _ _ rfl rfl _ _ (unhide R1) ?_; clear R1)
        exact bodyPost_ret (results_tmp rfl _ _ _) rfl ⟨v', rfl, unhide HN2⟩
      · have t3 : decide ((lastC l l.length : Int) < (l.length : Int)) = false := decide_eq_false (by omega)
        have HN2 : Hid (TxI w wr (cutP l (cutN l)) u3) := hide (by rw [pieces_all c1]; exact unhide HT)
        clear HT HB
        generalize lastC l l.length = lo at *
        go_wp2_with fail
        exact bodyPost_ret (results_tmp rfl _ _ _) rfl ⟨u3, rfl, unhide HN2⟩
end Go.Proofs.YtkdnanlgkedjgaaDoor
end

section
namespace Go.Proofs.YtkdnanlgkedjgaaDoor
open Go.ChangeShapes Go.WideShapes Go.ChangeAt Go.RowKit
attribute [local go_sem] Oper.semAt_some

set_option maxRecDepth 100000 in
set_option maxHeartbeats 4000000 in
theorem RLines_at (a0 : Option Addr) (c0 : Nat) (l : List Int) (b0 : Option Addr) (d0 : Nat) (m : List Int) (w : World) (hA : IsB w a0 c0 l) (hB : IsB w b0 d0 m) (hl : l.length ≤ 1048576) (hm : m.length ≤ 1048576) (s1 : (cutN l).length ≤ 2049) (s2 : (cutN m).length ≤ 2049) :
    Calls Tryd.prog 22 #[.slice a0 l.length c0, .slice b0 m.length d0] w fun e w' => e = .returned (.tuple #[.int .i64 (aloN cutN l m : Int), .int .i64 0]) ∧ Below w.heap.size w w' := by
  have HC1 := hide (RPieces_at a0 c0 l w hA hl)
  have HC2 := hide fun (X : World) (hX : Below w.heap.size w X) => RPieces_at b0 d0 m X (hB.below hX (Nat.le_refl _)) hm
  have n1 := cutP_cnt (cutN_ok l)
  have n2 := cutP_cnt (cutN_ok m)
  have z1 := cnt_le l
  have z2 := cnt_le m
  have hlc := lcs_len (cutP l (cutN l)) (cutP m (cutN m))
  have HAL : Hid (∀ L : Nat, L = lcs (cutP l (cutN l)) (cutP m (cutN m)) → Value.int .i64 (((cutP l (cutN l)).length : Int) + ((cutP m (cutN m)).length : Int) - 2 * (L : Int)) = .int .i64 (aloN cutN l m : Int)) := hide fun L e => by unfold aloN; rw [← e] at hlc ⊢; congr 1; omega
  have HCM := hide fun (a a' : Option Addr) (c c' : Nat) (X : World) (h : IsTx X a (cutP l (cutN l))) (h' : IsTx X a' (cutP m (cutN m))) => RCommon_at a c (cutP l (cutN l)) a' c' (cutP m (cutN m)) X h h' (by omega) (by omega) (cut_byl hA.2.2.2 _) (cut_byl hB.2.2.2 _)
  clear hA hB
  go_enter Tryd.func22, Tryd.ntmps22
  go_wp2_with fail
  refine (unhide HC1).mono ?_
  rintro e w1 ⟨v1, rfl, x1⟩
  obtain ⟨k1, y1, _⟩ := x1.row
  obtain ⟨a1, c1, rfl, i1⟩ := ra_txs y1
  dsimp only
  have HB1 := hide x1.b
  have HI1 := hide i1
  clear HC1 x1 y1 i1
  go_wp2_with fail
  refine (unhide HC2 w1 (unhide HB1)).mono ?_
  rintro e w2 ⟨v2, rfl, x2⟩
  obtain ⟨k2, y2, _⟩ := x2.row
  obtain ⟨a2, c2, rfl, i2⟩ := ra_txs y2
  dsimp only
  have HB2 := hide ((unhide HB1).trans (x2.b.mono (unhide HB1).size))
  have HC3 := hide (unhide HCM a1 a2 c1 c2 w2 ((unhide HI1).below x2.b (Nat.le_refl _)) i2)
  have t1 : decide (((cutP l (cutN l)).length : Int) > 2048) = false := decide_eq_false (by omega)
  have t2 : decide (((cutP m (cutN m)).length : Int) > 2048) = false := decide_eq_false (by omega)
  have p1 : (cutP l (cutN l)).length ≤ 2048 := by omega
  have p2 : (cutP m (cutN m)).length ≤ 2048 := by omega
  clear HC2 HCM HB1 HI1 x2 y2 i2
  obtain ⟨L, hL⟩ : ∃ L, L = lcs (cutP l (cutN l)) (cutP m (cutN m)) := ⟨_, rfl⟩
  rw [← hL] at HC3 hlc
  have HE := hide (unhide HAL L hL)
  clear HAL hL n1 n2 z1 z2
  go_wp2_with fail
  refine (unhide HC3).mono ?_
  rintro e w3 ⟨rfl, hb3⟩
  dsimp only
  have HB3 := hide ((unhide HB2).trans (hb3.mono (unhide HB2).size))
  clear HC3 HB2 hb3
  go_wp2_with fail
  refine bodyPost_ret (results_tmp2 rfl _ _ _) rfl ⟨?_, unhide HB3⟩
  rw [← unhide HE]
  rfl
end Go.Proofs.YtkdnanlgkedjgaaDoor
end

section
namespace Go.Proofs.YtkdnanlgkedjgaaDoor
open Go.ChangeShapes Go.WideShapes Go.ChangeAt Go.RowKit
attribute [local go_sem] Oper.semAt_some

/-- the cell ahead of the builder's -/
def rV (v : Value) : Nat → Option Value := fun j => if j = 0 then some v else none
theorem Bd4.at0 {X : World} {g : Nat} {v vo vk vt vd : Value} (h : Bd4 X g 1 (rV v) vo vk vt vd) : X.cell? ⟨g, 0, none⟩ = some v ∧ X.frozen? ⟨g, 0, none⟩ = false := by
  obtain ⟨cs, t, h1, _, _, _, _, _, h7⟩ := h.c
  refine ⟨?_, by simp [World.frozen?, h1]⟩
  simp only [World.cell?, h1]
  exact h7 0 (.inl (by decide))
theorem Bd4.set0 {X : World} {g : Nat} {v vo vk vt vd : Value} (h : Bd4 X g 1 (rV v) vo vk vt vd) (u : Value) : Bd4 (X.setCell ⟨g, 0, none⟩ u) g 1 (rV u) vo vk vt vd := by
  obtain ⟨cs, t, h1, h2, h3, h4, h5, h6, h7⟩ := h.c
  have z3 : 1 + 3 < cs.size := (Array.getElem?_eq_some_iff.1 h6).1
  have other : ∀ j, 0 ≠ j → (cs.setIfInBounds 0 u)[j]? = cs[j]? := fun j hij => by simp [hij]
  refine ⟨_, t, heap_set h1 u, h2, ?_, ?_, ?_, ?_, fun j hj => ?_⟩
  · rw [other _ (by omega)]; exact h3
  · rw [other _ (by omega)]; exact h4
  · rw [other _ (by omega)]; exact h5
  · rw [other _ (by omega)]; exact h6
  · by_cases hj0 : j = 0
    · subst hj0
      have : 0 < cs.size := by omega
      simp [rV, this]
    · rw [other _ (Ne.symm hj0), h7 j hj]; simp [rV, hj0]
theorem IsBd.set0 {X : World} {B g : Nat} {v : Value} {b : Bld} {ts : List (List Int)} (h : IsBd X B g 1 (rV v) b ts) (u : Value) : IsBd (X.setCell ⟨g, 0, none⟩ u) B g 1 (rV u) b ts := by
  obtain ⟨vo, vt, h1, h2, h3⟩ := h.c
  exact ⟨⟨vo, vt, h1.set0 u, bd_rows h1 (fun _ => bdb_op) h2 _ _, bd_rows h1 (fun _ => bdb_str) h3 _ _⟩, h.t, h.z, fun cs q e1 _ => by simp [rV] at e1⟩
theorem IsBd.at0 {X : World} {B g : Nat} {v : Value} {b : Bld} {ts : List (List Int)} (h : IsBd X B g 1 (rV v) b ts) : X.cell? ⟨g, 0, none⟩ = some v ∧ X.frozen? ⟨g, 0, none⟩ = false := by
  obtain ⟨vo, vt, h1, _⟩ := h.c
  exact h1.at0
/-- the inverter: the old bytes that wait, what is fed so far -/
structure IsV (w X : World) (g : Nat) (l : List Int) (e : List Dop) : Prop where
  c : ∃ a c ts, IsB w a c l ∧ IsBd X w.heap.size g 1 (rV (.slice a l.length c)) (feedA b0 (dA e)) ts
  d : Below w.heap.size w X
theorem IsV.on {w X Y : World} {g : Nat} {l : List Int} {e : List Dop} (h : IsV w X g l e) (hb : Below X.heap.size X Y) : IsV w Y g l e := by
  obtain ⟨a, c, ts, h1, h2⟩ := h.c
  exact ⟨⟨a, c, ts, h1, h2.on hb (Nat.le_refl _)⟩, h.d.trans (hb.mono h.d.size)⟩
theorem feed_snoc (e : List Dop) (x : Dop) : feedA b0 (dA (e ++ [x])) = (feedA b0 (dA e)).op x := by
  rw [dA_app, feedA_app, op_atoms]; simp [dA]
theorem rest_at {w X : World} {g : Nat} {l : List Int} {e : List Dop} {a : Option Addr} {c : Nat} {ts : List (List Int)} (h1 : IsB w a c l) (h2 : IsBd X w.heap.size g 1 (rV (.slice a l.length c)) (feedA b0 (dA e)) ts) (hd : Below w.heap.size w X) (n : Nat) :
    IsV w (X.setCell ⟨g, 0, none⟩ (.slice (if c = n then a else a.map (·.add n)) (l.length - n) (c - n))) g (l.drop n) e := by
  refine ⟨⟨_, c - n, ts, h1.loD, ?_⟩, hd.setCell (p := ⟨g, 0, none⟩) h2.z _⟩
  rw [List.length_drop]
  exact h2.set0 _
end Go.Proofs.YtkdnanlgkedjgaaDoor
end

section
namespace Go.Proofs.YtkdnanlgkedjgaaDoor
open Go.ChangeShapes Go.WideShapes Go.ChangeAt Go.RowKit
attribute [local go_sem] Oper.semAt_some

/-- what waits, and what is fed, behind one operation more -/
def stV (s : List Int × List Dop) (o : Dop) : List Int × List Dop := if o.k = 1 then (s.1.drop o.n.toNat, s.2 ++ [⟨1, o.n, []⟩]) else if o.k = 2 then (s.1, s.2 ++ [⟨3, (o.t.length : Int), []⟩]) else (s.1.drop o.n.toNat, s.2 ++ [⟨2, 0, s.1.take o.n.toNat⟩])
def runV (b : List Int) (d : List Dop) : List Int × List Dop := d.foldl stV (b, [])
def ivD (b : List Int) (d : List Dop) : List Dop := (runV b d).2
theorem runV_take (b : List Int) (d : List Dop) {k : Nat} (hk : k < d.length) : runV b (d.take (k + 1)) = stV (runV b (d.take k)) (d.getD k opZ) := by
  unfold runV
  rw [List.take_add_one, List.getElem?_eq_getElem hk, Option.toList_some, List.foldl_append]
  simp [List.getD_eq_getElem?_getD, List.getElem?_eq_getElem hk]
theorem dA_snoc (e : List Dop) (x : Dop) : dA (e ++ [x]) = dA e ++ opA x := by rw [dA_app]; simp [dA]
theorem runV_len {b : List Int} {d : List Dop} (hv : valB d = true) (hf : frD d = b.length) : ∀ k, k ≤ d.length → (runV b (d.take k)).1.length + frD (d.take k) = b.length ∧ (dA (runV b (d.take k)).2).length ≤ frD (d.take k) + toD (d.take k)
  | 0, _ => by simp [runV, frD, toD, dA]
  | k + 1, hk => by
    have ih := runV_len hv hf k (by omega)
    have hx := valB_op hv (getD_memD (d := d) (k := k) (by omega))
    have e1 := frD_take d (k := k) (by omega)
    have e2 := toD_take d (k := k) (by omega)
    have e3 := (frD_le d (k + 1)).1
    rw [runV_take b d (by omega)]
    generalize runV b (d.take k) = s at *
    generalize d.getD k opZ = x at *
    obtain ⟨xk, xn, xt⟩ := x
    dsimp only at hx
    rcases hx with ⟨rfl | rfl, hn, rfl⟩ | ⟨rfl, rfl, hn⟩
    · simp [stV, frN, toN, dA_snoc, opA] at e1 e2 ⊢; omega
    · simp [stV, frN, toN, dA_snoc, opA] at e1 e2 ⊢; omega
    · simp [stV, frN, toN, dA_snoc, opA] at e1 e2 ⊢; omega
def invD (b : List Int) (d : List Dop) : List Dop := if fitE d b.length = 0 then canA (dA (ivD b d)) else []
end Go.Proofs.YtkdnanlgkedjgaaDoor
end
