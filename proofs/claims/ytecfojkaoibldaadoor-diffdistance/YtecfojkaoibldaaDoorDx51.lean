/- Layer 19: the document's answer: Common. · Layer 19: the document's Distance; DiffDistance: the walk. · What the list of package-level variables gives: the table of classes holds its numbers; and a world for the witness. · DiffDistance: for every input the law returns true and every argument reads afterwards as it read before; conditions: the table of classes holds at the call what the program's text lays (the card ties it to that text). -/
import Derived.Test.YtecfojkaoibldaaDoorDx50
import Derived.Test.YtecfojkaoibldaaDoorCards
import Derived.Test.YtecfojkaoibldaaDoorTie
import Derived.Test.YtecfojkaoibldaaDoorDx02
import Derived.SizedLaws
import Derived.Deep.DeepHandedRow
import Derived.Lib.LaidTab
import Derived.Below
import Derived.ChangeOld
import Derived.ShutString

section
namespace Go.Proofs.YtecfojkaoibldaaDoor
open Go.ChangeShapes Go.WideShapes Go.ChangeAt Go.RowKit
attribute [local go_sem] Oper.semAt_some

section
set_option linter.unusedSectionVars false
variable {α : Type} [DecidableEq α]
theorem lcs_snoc (x y : List α) (a : α) : lcs (x ++ [a]) (y ++ [a]) = lcs x y + 1 := by rw [lcs_tail]; simp; omega
theorem lcs_snoc_ne {a b : α} (h : ¬ a = b) (x y : List α) : lcs (x ++ [a]) (y ++ [b]) = max (lcs x (y ++ [b])) (lcs (x ++ [a]) y) := by
  rw [← lcs_rev, List.reverse_append, List.reverse_append, List.reverse_singleton, List.reverse_singleton, List.singleton_append, List.singleton_append, lcs_ne h]
  rw [← lcs_rev x (y ++ [b]), ← lcs_rev (x ++ [a]) y]
  simp
theorem lcs_snoc_le (x y : List α) (a : α) : lcs (x ++ [a]) y ≤ lcs x y + 1 := by
  rw [← lcs_rev, List.reverse_append, List.reverse_singleton, List.singleton_append, ← lcs_rev x y]
  exact lcs_drop a _ _
theorem take_snoc (x : List α) {i : Nat} (h : i < x.length) : x.take (i + 1) = x.take i ++ [x[i]] := by rw [List.take_add_one, List.getElem?_eq_getElem h]; rfl
/-- one cell of the document's table -/
theorem tab_same {x y : List α} {i k : Nat} (hi : i < x.length) (hk : k < y.length) (e : x[i] = y[k]) :
    lcs (x.take (i + 1)) (y.take (k + 1)) = lcs (x.take i) (y.take k) + 1 ∧ lcs (x.take (i + 1)) (y.take k) ≤ lcs (x.take i) (y.take k) + 1 ∧ lcs (x.take i) (y.take (k + 1)) ≤ lcs (x.take i) (y.take k) + 1 := by
  rw [take_snoc x hi, take_snoc y hk, e]
  refine ⟨lcs_snoc _ _ _, lcs_snoc_le _ _ _, ?_⟩
  rw [lcs_comm, lcs_comm (x.take i) (y.take k)]
  exact lcs_snoc_le _ _ _
theorem tab_ne {x y : List α} {i k : Nat} (hi : i < x.length) (hk : k < y.length) (e : ¬ x[i] = y[k]) :
    lcs (x.take (i + 1)) (y.take (k + 1)) = max (lcs (x.take (i + 1)) (y.take k)) (lcs (x.take i) (y.take (k + 1))) := by
  rw [take_snoc x hi, take_snoc y hk, lcs_snoc_ne e, Nat.max_comm]
end
/-- a block of numbers -/
def TbI (X : World) (g M : Nat) (f : Nat → Nat) : Prop := ∃ cur : Array Value, X.heap[g]? = some (.cells cur 3 (0, 0)) ∧ cur.size = M ∧ ∀ k, k < M → cur[k]? = some (.int .i64 (f k : Int))
theorem TbI.cell {X : World} {g M : Nat} {f : Nat → Nat} (h : TbI X g M f) {k : Nat} (hk : k < M) : X.cell? ⟨g, k, none⟩ = some (.int .i64 (f k : Int)) := by
  obtain ⟨cur, h1, _, h3⟩ := h
  unfold World.cell?
  simp only [h1]
  exact h3 k hk
theorem TbI.lt {X : World} {g M : Nat} {f : Nat → Nat} (h : TbI X g M f) : g < X.heap.size := by
  obtain ⟨cur, h1, _⟩ := h
  exact (Array.getElem?_eq_some_iff.1 h1).1
theorem TbI.same {X Y : World} {g M : Nat} {f : Nat → Nat} (h : TbI X g M f) (hb : Y.heap[g]? = X.heap[g]?) : TbI Y g M f := by
  obtain ⟨cur, h1, h2⟩ := h
  exact ⟨cur, hb.trans h1, h2⟩
theorem TbI.frozen {X : World} {g M : Nat} {f : Nat → Nat} (h : TbI X g M f) (k : Nat) : X.frozen? ⟨g, k, none⟩ = false := by
  obtain ⟨cur, h1, h2, h3⟩ := h
  unfold World.frozen?
  simp only [h1]
  simp
theorem TbI.set {X : World} {g M : Nat} {f : Nat → Nat} (h : TbI X g M f) {k : Nat} (hk : k < M) (v : Nat) : TbI (X.setCell ⟨g, k, none⟩ (.int .i64 (v : Int))) g M (fun m => if m = k then v else f m) := by
  obtain ⟨cur, h1, h2, h3⟩ := h
  refine ⟨cur.setIfInBounds k (.int .i64 (v : Int)), ?_, by simp [h2], fun m hm => ?_⟩
  · show (X.heap.modify g _)[g]? = _
    rw [Array.getElem?_modify]
    simp [h1]
  · by_cases e : m = k
    · subst e; simp [h2, hk]
    · simp [e, h3 m hm, show ¬ k = m from fun g => e g.symm]
theorem make_row (w : World) (n : Nat) (hn : n ≤ 1048577) : ∃ C : Array Value, (Instr.makeSlice 51 (.int .i64 (n : Int)) (.int .i64 (n : Int))).run Tryd.prog w = .ok (.slice (some ⟨w.heap.size, 0, none⟩) n n) (w.alloc (.cells C 3)) ∧
    TbI (w.alloc (.cells C 3)) w.heap.size n (fun _ => 0) := by
  obtain ⟨i, hi, hz, hs, hb⟩ := info_intS
  have hr := run_make (P := Tryd.prog) w 51 3 i (.int .i64 0) Tryd.underlying51 hi hz .i64 .i64 n n (by omega) (Int.le_refl _) (by rw [hb]; omega) (by omega)
  simp only [Int.toNat_natCast] at hr
  refine ⟨_, hr, _, heap_alloc_new w _, by rw [size_madeCells, hs, Nat.mul_one], fun k hk => ?_⟩
  rw [hs]
  unfold madeCells
  simp [hk, Value.cells, Nat.mod_one]
/-- texts are bytes -/
theorem TbI.congr {X : World} {g M : Nat} {f f' : Nat → Nat} (h : TbI X g M f) (e : ∀ k, k < M → f k = f' k) : TbI X g M f' := by
  obtain ⟨cur, h1, h2, h3⟩ := h
  exact ⟨cur, h1, h2, fun k hk => by rw [← e k hk]; exact h3 k hk⟩
theorem IsTx.at {X : World} {a : Option Addr} {ps : List (List Int)} (h : IsTx X a ps) {k : Nat} (hk : k < ps.length) : ∃ g off, a = some ⟨g, off, none⟩ ∧ g < X.heap.size ∧ ∀ j, j < ps.length → X.cell? ⟨g, off + j, none⟩ = some (.string (strOfNums (ps.getD j []))) := by
  rcases h with h | h
  · subst h; simp at hk
  · exact h
/-- what the loops over both keep -/
structure CoL (w X : World) (x y : List (List Int)) (i g1 : Nat) : Prop where
  l : TbI X g1 (y.length + 1) (fun k => lcs (x.take i) (y.take k))
  b : Below w.heap.size w X
  n : w.heap.size ≤ g1
structure CoN (w X : World) (x y : List (List Int)) (i k g1 g2 : Nat) : Prop where
  o : CoL w X x y i g1
  t : ∃ f, TbI X g2 (y.length + 1) f ∧ ∀ j, j ≤ k → f j = lcs (x.take (i + 1)) (y.take j)
  n : w.heap.size ≤ g2 ∧ g1 ≠ g2
theorem CoN.set {w X : World} {x y : List (List Int)} {i k g1 g2 : Nat} (h : CoN w X x y i k g1 g2) (hk : k < y.length) (v : Nat) : CoN w (X.setCell ⟨g2, k + 1, none⟩ (.int .i64 (v : Int))) x y i k g1 g2 ∧ (v = lcs (x.take (i + 1)) (y.take (k + 1)) → CoN w (X.setCell ⟨g2, k + 1, none⟩ (.int .i64 (v : Int))) x y i (k + 1) g1 g2) := by
  obtain ⟨f, h1, h2⟩ := h.t
  have o : CoL w (X.setCell ⟨g2, k + 1, none⟩ (.int .i64 (v : Int))) x y i g1 := ⟨h.o.l.same (Below.heap_setCell X _ _ g1 h.n.2), h.o.b.setCell h.n.1 _, h.o.n⟩
  have t := h1.set (show k + 1 < y.length + 1 by omega) v
  refine ⟨⟨o, ⟨_, t, fun j hj => ?_⟩, h.n⟩, fun e => ⟨o, ⟨_, t, fun j hj => ?_⟩, h.n⟩⟩
  · simp only [show ¬ j = k + 1 by omega, if_false]; exact h2 j hj
  · by_cases g : j = k + 1
    · simp only [g, if_true]; exact e
    · simp only [g, if_false]; exact h2 j (by omega)
theorem CoN.dN {w X : World} {x y : List (List Int)} {i k g1 g2 : Nat} (h : CoN w X x y i k g1 g2) (n : Nat) : CoN w (X.drewN n) x y i k g1 g2 := by
  obtain ⟨f, h1, h2⟩ := h.t
  exact ⟨⟨h.o.l.same (by rw [drewN_heap]), bdrN h.o.b n, h.o.n⟩, ⟨f, h1.same (by rw [drewN_heap]), h2⟩, h.n⟩
set_option maxRecDepth 100000 in
set_option maxHeartbeats 8000000 in
theorem RCommon_at (a : Option Addr) (c : Nat) (x : List (List Int)) (a' : Option Addr) (c' : Nat) (y : List (List Int)) (w : World) (h : IsTx w a x) (h' : IsTx w a' y) (hx : x.length ≤ 1048576) (hy : y.length ≤ 1048576) (bx : ∀ q ∈ x, ByL q) (by' : ∀ q ∈ y, ByL q) :
    Calls Tryd.prog 29 #[.slice a x.length c, .slice a' y.length c'] w fun e w' => e = .returned (.int .i64 (lcs x y : Int)) ∧ Below w.heap.size w w' := by
  have HX := hide fun (X : World) (hx : Below w.heap.size w X) => h.below hx (Nat.le_refl _)
  have HY := hide fun (X : World) (hx : Below w.heap.size w X) => h'.below hx (Nat.le_refl _)
  have HBX := hide bx
  have HBY := hide by'
  clear h h' bx by'
  obtain ⟨C, mk, t0⟩ := make_row w (y.length + 1) (by omega)
  have K0 : CoL w (w.alloc (.cells C 3)) x y 0 w.heap.size := ⟨t0.congr fun k _ => by simp [lcs], (Below.refl _ _).alloc (Nat.le_refl _) _, Nat.le_refl _⟩
  have H0 := hide K0
  rw [show ((y.length + 1 : Nat) : Int) = (y.length : Int) + 1 from rfl] at mk
  have HZ := hide hx
  clear K0 t0
  go_enter Tryd.func29, Tryd.ntmps29
  go_wp2_with fail
  clear mk
  go_loopw [5, 6, 7, 8] (fun v5 v6 v7 v8 wx => (∃ z, v7 = z) ∧ (∃ z, v8 = z) ∧ ∃ i g1 : Nat, v5 = .slice (some ⟨g1, 0, none⟩) (y.length + 1) (y.length + 1) ∧ v6 = .int .i64 (i : Int) ∧ i ≤ x.length ∧ Hid (CoL w wx x y i g1)) (fun _ v6 _ _ _ => x.length - (intOf v6).toNat)
  case atStart => exact ⟨⟨_, rfl⟩, ⟨_, rfl⟩, 0, _, rfl, rfl, Nat.zero_le _, H0⟩
  case round =>
    clear H0
    obtain ⟨⟨z1, rfl⟩, ⟨z2, rfl⟩, i, g1, rfl, rfl, hi, HL⟩ := hrel
    by_cases h1 : i < x.length
    · have t1 : decide ((i : Int) < (x.length : Int)) = true := decide_eq_true (by omega)
      obtain ⟨C2, mk2, t2⟩ := make_row wr (y.length + 1) (by omega)
      have hlt := (unhide HL).l.lt
      have N0 : CoN w (wr.alloc (.cells C2 3)) x y i 0 g1 wr.heap.size := ⟨⟨(unhide HL).l.same (heap_alloc_old _ _ hlt), (unhide HL).b.alloc (unhide HL).b.size _, (unhide HL).n⟩, ⟨_, t2, fun j hj => by rw [show j = 0 by omega]; simp [lcs_nil]⟩, (unhide HL).b.size, by omega⟩
      have HN0 := hide N0
      rw [show ((y.length + 1 : Nat) : Int) = (y.length : Int) + 1 from rfl] at mk2
      clear N0 t2 hlt HL
      go_wp2_with fail
      clear mk2
      generalize wr.alloc (.cells C2 3) = wz at *
      generalize wr.heap.size = g2 at *
      go_loopw [8] (fun v8 wx => ∃ k : Nat, v8 = .int .i64 (k : Int) ∧ k ≤ y.length ∧ Hid (CoN w wx x y i k g1 g2)) (fun v8 _ => y.length - (intOf v8).toNat)
      case atStart => exact ⟨0, rfl, Nat.zero_le _, HN0⟩
      case round =>
        clear HN0
        obtain ⟨k, rfl, hk, HN⟩ := hrel
        by_cases h2 : k < y.length
        · have t2 : decide ((k : Int) < (y.length : Int)) = true := decide_eq_true (by omega)
          obtain ⟨f, q1, q2⟩ := (unhide HN).t
          have hbw := (unhide HN).o.b
          obtain ⟨gx, ox, ea, hgx, cx⟩ := (unhide HX wr hbw).at h1
          obtain ⟨gy, oy, eb, hgy, cy⟩ := (unhide HY wr hbw).at h2
          have cN := q1.cell (k := k) (by omega)
          have cS := q1.cell (k := k + 1) (by omega)
          have fS := q1.frozen (k + 1)
          have cL := (unhide HN).o.l.cell (k := k + 1) (by omega)
          have cR := (unhide HN).o.l.cell (k := k) (by omega)
          rw [q2 k (Nat.le_refl _)] at cN
          have hX := unhide HX
          have hY := unhide HY
          have HSET := hide fun (v : Nat) => ((unhide HN).dN 1).set h2 v
          have HTS := hide fun (e : x[i] = y[k]) => tab_same h1 h2 e
          have HTN := hide fun (e : ¬ x[i] = y[k]) => tab_ne h1 h2 e
          have hpr : lcs (x.take (i + 1)) (y.take k) ≤ 1048576 := by have := (lcs_len (x.take (i + 1)) (y.take k)).2; rw [List.length_take] at this; omega
          have hqr : lcs (x.take i) (y.take (k + 1)) ≤ 1048576 := by have := (lcs_len (x.take i) (y.take (k + 1))).2; rw [List.length_take] at this; omega
          have hrr : lcs (x.take i) (y.take k) ≤ 1048576 := by have := (lcs_len (x.take i) (y.take k)).2; rw [List.length_take] at this; omega
          have ex : x.getD i [] = x[i] := by simp [List.getD, List.getElem?_eq_getElem h1]
          have ey : y.getD k [] = y[k] := by simp [List.getD, List.getElem?_eq_getElem h2]
          have hstr := str_beq (unhide HBX _ (List.getElem_mem h1)) (unhide HBY _ (List.getElem_mem h2))
          have c1 := cx i h1
          have c2 := cy k h2
          rw [ex] at c1
          rw [ey] at c2
          subst ea eb
          clear cx cy q1 q2 ex ey hX hY
          generalize hgp : lcs (x.take (i + 1)) (y.take k) = p at *
          generalize hgq : lcs (x.take i) (y.take (k + 1)) = q at *
          generalize hgr : lcs (x.take i) (y.take k) = r at *
          generalize f (k + 1) = F at *
          have hgxw : gx < w.heap.size := by
            obtain ⟨_, _, e, h, _⟩ := (unhide HX w (Below.refl _ _)).at h1
            cases e; exact h
          have hgyw : gy < w.heap.size := by
            obtain ⟨_, _, e, h, _⟩ := (unhide HY w (Below.refl _ _)).at h2
            cases e; exact h
          have n2 := (unhide HN).n.1
          have n1 := (unhide HN).n.2
          have e1 : IntKind.i64.wrap ((k : Int) + 1) = (k : Int) + 1 := by rw [IntKind.wrap_i64]; omega
          have f1 : (k : Int) < (y.length : Int) + 1 := by clear e1; omega
          have f2 : (k : Int) + 1 < (y.length : Int) + 1 := by clear e1; omega
          have f3 : (0 : Int) ≤ (k : Int) := by clear e1; omega
          have f4 : (0 : Int) ≤ (k : Int) + 1 := by clear e1; omega
          have f5 : (i : Int) < (x.length : Int) := by clear e1; omega
          have f6 : (k : Int) < (y.length : Int) := by clear e1; omega
          have f7 : (0 : Int) ≤ (i : Int) := by clear e1; omega
          obtain ⟨M1, hM1⟩ : ∃ M1, M1 = max p q := ⟨_, rfl⟩
          have HM1 := hide hM1
          have HPQ := hide (And.intro hgp (And.intro hgq hgr))
          have S0 : wr.drew.cell? ⟨g2, k, none⟩ = some (.int .i64 (p : Int)) ∧ wr.drew.cell? ⟨g1, k + 1, none⟩ = some (.int .i64 (q : Int)) := ⟨cN, cL⟩
          have cSd : wr.drew.cell? ⟨g2, k + 1, none⟩ = some (.int .i64 (F : Int)) := cS
          have fSd : wr.drew.frozen? ⟨g2, k + 1, none⟩ = false := fS
          have cRd : wr.drew.cell? ⟨g1, k, none⟩ = some (.int .i64 (r : Int)) := cR
          have c1d : wr.drew.cell? ⟨gx, ox + i, none⟩ = some (.string (strOfNums x[i])) := c1
          have c2d : wr.drew.cell? ⟨gy, oy + k, none⟩ = some (.string (strOfNums y[k])) := c2
          have HSET' : Hid (∀ v : Nat, CoN w (wr.drew.setCell ⟨g2, k + 1, none⟩ (.int .i64 (v : Int))) x y i k g1 g2 ∧ (v = lcs (x.take (i + 1)) (y.take (k + 1)) → CoN w (wr.drew.setCell ⟨g2, k + 1, none⟩ (.int .i64 (v : Int))) x y i (k + 1) g1 g2)) := HSET
          clear HSET cN cL cS fS cR c1 c2 hbw hgx hgy hgp hgq hgr HN
          have S1 : (wr.drew.setCell ⟨g2, k + 1, none⟩ (.int .i64 (M1 : Int))).cell? ⟨g2, k, none⟩ = some (.int .i64 (p : Int)) ∧ (wr.drew.setCell ⟨g2, k + 1, none⟩ (.int .i64 (M1 : Int))).cell? ⟨g1, k + 1, none⟩ = some (.int .i64 (q : Int)) := by
            refine ⟨?_, (World.cell?_of_block (a := ⟨g1, k + 1, none⟩) (Below.heap_setCell _ _ _ g1 n1)).trans S0.2⟩
            rw [cellS_set (by rw [cSd]; rfl), if_neg (by omega)]; exact S0.1
          have d1 := (World.cell?_of_block (a := ⟨gx, ox + i, none⟩) (Below.heap_setCell wr.drew ⟨g2, k + 1, none⟩ (.int .i64 (M1 : Int)) gx (by show gx ≠ g2; omega))).trans c1d
          have d2 := (World.cell?_of_block (a := ⟨gy, oy + k, none⟩) (Below.heap_setCell wr.drew ⟨g2, k + 1, none⟩ (.int .i64 (M1 : Int)) gy (by show gy ≠ g2; omega))).trans c2d
          have d3 := (World.cell?_of_block (a := ⟨g1, k, none⟩) (Below.heap_setCell wr.drew ⟨g2, k + 1, none⟩ (.int .i64 (M1 : Int)) g1 n1)).trans cRd
          have d4 : (wr.drew.setCell ⟨g2, k + 1, none⟩ (.int .i64 (M1 : Int))).cell? ⟨g2, k + 1, none⟩ = some (.int .i64 (M1 : Int)) := by rw [cellS_set (by rw [cSd]; rfl), if_pos rfl]
          have d5 : (wr.drew.setCell ⟨g2, k + 1, none⟩ (.int .i64 (M1 : Int))).frozen? ⟨g2, k + 1, none⟩ = false := by rw [frozenS_set]; exact fSd
          have K1 := (unhide HSET') M1
          have HK1 := hide K1
          clear HSET' K1 cRd c1d c2d
          go_wp2_with fail
          have hmx : max (p : Int) (q : Int) = (M1 : Int) := by rw [hM1]; clear e1; omega
          clear hM1
          refine regionL (S := fun w' => w'.cell? ⟨g2, k, none⟩ = some (.int .i64 (p : Int)) ∧ w'.cell? ⟨g1, k + 1, none⟩ = some (.int .i64 (q : Int))) (fun _ => false) (by kernel_rfl) ?_
          generalize wr.drew = v1 at *
          refine anyL_take (i := 0) (v := ?vq0) rfl (by kernel_rfl) (by kernel_rfl) (by kernel_rfl) (by kernel_rfl) (fun _ _ _ h => h) (Or.inl ⟨by rfl, ?hq0⟩) (S0) ?_
          case hq0 => (intro w hSw; (try dsimp only at hSw); go_simp) <;> with_reducible rfl
          simp only [Act.put, List.getElem_toArray, List.getElem_cons_zero, List.setIfInBounds_toArray, List.set_cons_zero, List.set_cons_succ]
          refine anyL_take (i := 1) (v := ?vq1) rfl (by kernel_rfl) (by kernel_rfl) (by kernel_rfl) (by kernel_rfl) (fun _ _ _ h => h) (Or.inl ⟨by rfl, ?hq1⟩) (S0) ?_
          case hq1 => (intro w hSw; (try dsimp only at hSw); go_simp) <;> with_reducible rfl
          simp only [Act.put, List.getElem_toArray, List.getElem_cons_zero, List.getElem_cons_succ, List.setIfInBounds_toArray, List.set_cons_zero, List.set_cons_succ]
          refine anyL_take (i := 2) (v := ?vq2) rfl (by kernel_rfl) (by kernel_rfl) (by kernel_rfl) (by kernel_rfl) (fun _ _ _ h => h) (Or.inl ⟨by rfl, ?hq2⟩) (S0) ?_
          case hq2 => (intro w hSw; (try dsimp only at hSw); go_simp) <;> with_reducible rfl
          simp only [Act.put, List.getElem_toArray, List.getElem_cons_zero, List.getElem_cons_succ, List.setIfInBounds_toArray, List.set_cons_zero, List.set_cons_succ]
          refine anyL_take (i := 3) (v := ?vq3) rfl (by kernel_rfl) (by kernel_rfl) (by kernel_rfl) (by kernel_rfl) (fun _ _ _ h => h) (Or.inl ⟨by rfl, ?hq3⟩) (S0) ?_
          case hq3 => (intro w hSw; (try dsimp only at hSw); go_simp) <;> with_reducible rfl
          simp only [Act.put, List.getElem_toArray, List.getElem_cons_zero, List.getElem_cons_succ, List.setIfInBounds_toArray, List.set_cons_zero, List.set_cons_succ]
          refine anyL_take (i := 4) (v := ?vq4) rfl (by kernel_rfl) (by kernel_rfl) (by kernel_rfl) (by kernel_rfl) (fun _ _ _ h => h) (Or.inl ⟨by rfl, ?hq4⟩) (S0) ?_
          case hq4 => (intro w hSw; (try dsimp only at hSw); go_simp) <;> with_reducible rfl
          simp only [Act.put, List.getElem_toArray, List.getElem_cons_zero, List.getElem_cons_succ, List.setIfInBounds_toArray, List.set_cons_zero, List.set_cons_succ]
          refine anyL_take (i := 5) (v := ?vq5) rfl (by kernel_rfl) (by kernel_rfl) (by kernel_rfl) (by kernel_rfl) (fun _ _ _ h => h) (Or.inl ⟨by rfl, ?hq5⟩) (S0) ?_
          case hq5 => (intro w hSw; (try dsimp only at hSw); go_simp) <;> with_reducible rfl
          simp only [Act.put, List.getElem_toArray, List.getElem_cons_zero, List.getElem_cons_succ, List.setIfInBounds_toArray, List.set_cons_zero, List.set_cons_succ]
          refine anyL_take (i := 6) (v := ?vq6) rfl (by kernel_rfl) (by kernel_rfl) (by kernel_rfl) (by kernel_rfl) (fun _ _ _ h => h) (Or.inl ⟨by rfl, ?hq6⟩) (S0) ?_
          case hq6 => (intro w hSw; (try dsimp only at hSw); go_simp) <;> with_reducible rfl
          simp only [Act.put, List.getElem_toArray, List.getElem_cons_zero, List.getElem_cons_succ, List.setIfInBounds_toArray, List.set_cons_zero, List.set_cons_succ]
          refine anyL_take (i := 7) (v := ?vq7) rfl (by kernel_rfl) (by kernel_rfl) (by kernel_rfl) (by kernel_rfl) (fun _ _ _ h => h) (Or.inl ⟨by rfl, ?hq7⟩) (S0) ?_
          case hq7 => (intro w hSw; (try dsimp only at hSw); go_simp) <;> with_reducible rfl
          simp only [Act.put, List.getElem_toArray, List.getElem_cons_zero, List.getElem_cons_succ, List.setIfInBounds_toArray, List.set_cons_zero, List.set_cons_succ]
          refine anyL_take (i := 8) (v := ?vq8) rfl (by kernel_rfl) (by kernel_rfl) (by kernel_rfl) (by kernel_rfl) (fun _ _ _ h => h) (Or.inl ⟨by rfl, ?hq8⟩) (S0) ?_
          case hq8 => (intro w hSw; (try dsimp only at hSw); go_simp) <;> with_reducible rfl
          simp only [Act.put, List.getElem_toArray, List.getElem_cons_zero, List.getElem_cons_succ, List.setIfInBounds_toArray, List.set_cons_zero, List.set_cons_succ]
          refine anyL_take (i := 9) (v := ?vq9) rfl (by kernel_rfl) (by kernel_rfl) (by kernel_rfl) (by kernel_rfl) (fun _ _ _ h => h) (Or.inl ⟨by rfl, ?hq9⟩) (S0) ?_
          case hq9 => (intro w hSw; (try dsimp only at hSw); go_simp) <;> with_reducible rfl
          simp only [Act.put, List.getElem_toArray, List.getElem_cons_zero, List.getElem_cons_succ, List.setIfInBounds_toArray, List.set_cons_zero, List.set_cons_succ]
          refine anyL_take (i := 10) (v := ?vq10) rfl (by kernel_rfl) (by kernel_rfl) (by kernel_rfl) (by kernel_rfl) (fun _ _ _ h => h) (Or.inl ⟨by rfl, ?hq10⟩) (S0) ?_
          case hq10 => (intro w hSw; (try dsimp only at hSw); go_simp) <;> with_reducible rfl
          simp only [Act.put, List.getElem_toArray, List.getElem_cons_zero, List.getElem_cons_succ, List.setIfInBounds_toArray, List.set_cons_zero, List.set_cons_succ]
          refine anyL_take (i := 11) (v := ?vq11) rfl (by kernel_rfl) (by kernel_rfl) (by kernel_rfl) (by kernel_rfl) (fun _ _ _ h => h) (Or.inl ⟨by rfl, ?hq11⟩) (S0) ?_
          case hq11 => (intro w hSw; (try dsimp only at hSw); go_simp) <;> with_reducible rfl
          simp only [Act.put, List.getElem_toArray, List.getElem_cons_zero, List.getElem_cons_succ, List.setIfInBounds_toArray, List.set_cons_zero, List.set_cons_succ]
          refine anyL_take (i := 12) (v := ?vq12) rfl (by kernel_rfl) (by kernel_rfl) (by kernel_rfl) (by kernel_rfl) (fun _ _ _ h => h) (Or.inl ⟨by rfl, ?hq12⟩) (S0) ?_
          case hq12 => (intro w hSw; (try dsimp only at hSw); go_simp) <;> with_reducible rfl
          simp only [Act.put, List.getElem_toArray, List.getElem_cons_zero, List.getElem_cons_succ, List.setIfInBounds_toArray, List.set_cons_zero, List.set_cons_succ]
          refine anyL_take (i := 13) (v := ?vq13) rfl (by kernel_rfl) (by kernel_rfl) (by kernel_rfl) (by kernel_rfl) (fun _ _ _ h => h) (Or.inl ⟨by rfl, ?hq13⟩) (S0) ?_
          case hq13 => (intro w hSw; (try dsimp only at hSw); go_simp) <;> with_reducible rfl
          simp only [Act.put, List.getElem_toArray, List.getElem_cons_zero, List.getElem_cons_succ, List.setIfInBounds_toArray, List.set_cons_zero, List.set_cons_succ]
          refine anyL_ready (rs := [14]) (by kernel_rfl) (by simp) ?_
          refine AllL.cons rfl (fun K hK => ?_) AllL.nil
          go_simp
          refine unhide hK _ _ (fun _ => S1) ?_
          clear hK K
          refine anyL_done (by kernel_rfl) ?_ _
          clear S0 cSd fSd hmx
          generalize v1.setCell ⟨g2, k + 1, none⟩ (.int .i64 (M1 : Int)) = v2 at *
          go_wp2_with fail
          by_cases hxy : x[i] = y[k]
          · rw [decide_eq_true hxy] at hstr
            have ht3 := unhide HTS hxy
            obtain ⟨r1, hr1⟩ : ∃ r1, r1 = r + 1 := ⟨_, rfl⟩
            have hmy : max (M1 : Int) ((r : Int) + 1) = (r1 : Int) := by have := unhide HM1; clear e1; omega
            have hrw : IntKind.i64.wrap ((r : Int) + 1) = (r : Int) + 1 := by clear e1; rw [IntKind.wrap_i64]; omega
            have HNX := hide (fun n => ((((unhide HK1).1.dN n).dN 1).set h2 r1).2 (by rw [ht3.1, hr1]))
            clear ht3 hr1 HK1 HTS HTN S1
            go_quiet (fail)
            clear d1 d2
            have T0 : (v2.drewN nq).drew.cell? ⟨g2, k + 1, none⟩ = some (.int .i64 (M1 : Int)) ∧ (v2.drewN nq).drew.cell? ⟨g1, k, none⟩ = some (.int .i64 (r : Int)) := ⟨(World.cell?_of_block (a := ⟨g2, k + 1, none⟩) (congrArg (·[g2]?) (drewN_heap v2 (nq + 1)))).trans d4, (World.cell?_of_block (a := ⟨g1, k, none⟩) (congrArg (·[g1]?) (drewN_heap v2 (nq + 1)))).trans d3⟩
            have T5 : (v2.drewN nq).drew.frozen? ⟨g2, k + 1, none⟩ = false := (World.frozen?_of_block (a := ⟨g2, k + 1, none⟩) (congrArg (·[g2]?) (drewN_heap v2 (nq + 1)))).trans d5
            have T4 := T0.1
            have HNY : Hid (CoN w ((v2.drewN nq).drew.setCell ⟨g2, k + 1, none⟩ (.int .i64 (r1 : Int))) x y i (k + 1) g1 g2) := hide (unhide HNX nq)
            clear HNX d3 d4 d5
            generalize v2.drewN nq = v3 at *
            go_wp2_with fail
            refine regionL (S := fun w' => w'.cell? ⟨g2, k + 1, none⟩ = some (.int .i64 (M1 : Int)) ∧ w'.cell? ⟨g1, k, none⟩ = some (.int .i64 (r : Int))) (fun i => i == 15) (by kernel_rfl) ?_
            generalize v3.drew = v4 at *
            refine anyL_take (i := 0) (v := ?vq14) rfl (by kernel_rfl) (by kernel_rfl) (by kernel_rfl) (by kernel_rfl) (fun _ _ _ h => h) (Or.inl ⟨by rfl, ?hq14⟩) (T0) ?_
            case hq14 => (intro w hSw; (try dsimp only at hSw); go_simp) <;> with_reducible rfl
            simp only [Act.put, List.getElem_toArray, List.getElem_cons_zero, List.setIfInBounds_toArray, List.set_cons_zero, List.set_cons_succ]
            refine anyL_take (i := 1) (v := ?vq15) rfl (by kernel_rfl) (by kernel_rfl) (by kernel_rfl) (by kernel_rfl) (fun _ _ _ h => h) (Or.inl ⟨by rfl, ?hq15⟩) (T0) ?_
            case hq15 => (intro w hSw; (try dsimp only at hSw); go_simp) <;> with_reducible rfl
            simp only [Act.put, List.getElem_toArray, List.getElem_cons_zero, List.getElem_cons_succ, List.setIfInBounds_toArray, List.set_cons_zero, List.set_cons_succ]
            refine anyL_take (i := 2) (v := ?vq16) rfl (by kernel_rfl) (by kernel_rfl) (by kernel_rfl) (by kernel_rfl) (fun _ _ _ h => h) (Or.inl ⟨by rfl, ?hq16⟩) (T0) ?_
            case hq16 => (intro w hSw; (try dsimp only at hSw); go_simp) <;> with_reducible rfl
            simp only [Act.put, List.getElem_toArray, List.getElem_cons_zero, List.getElem_cons_succ, List.setIfInBounds_toArray, List.set_cons_zero, List.set_cons_succ]
            refine anyL_take (i := 3) (v := ?vq17) rfl (by kernel_rfl) (by kernel_rfl) (by kernel_rfl) (by kernel_rfl) (fun _ _ _ h => h) (Or.inl ⟨by rfl, ?hq17⟩) (T0) ?_
            case hq17 => (intro w hSw; (try dsimp only at hSw); go_simp) <;> with_reducible rfl
            simp only [Act.put, List.getElem_toArray, List.getElem_cons_zero, List.getElem_cons_succ, List.setIfInBounds_toArray, List.set_cons_zero, List.set_cons_succ]
            refine anyL_take (i := 4) (v := ?vq18) rfl (by kernel_rfl) (by kernel_rfl) (by kernel_rfl) (by kernel_rfl) (fun _ _ _ h => h) (Or.inl ⟨by rfl, ?hq18⟩) (T0) ?_
            case hq18 => (intro w hSw; (try dsimp only at hSw); go_simp) <;> with_reducible rfl
            simp only [Act.put, List.getElem_toArray, List.getElem_cons_zero, List.getElem_cons_succ, List.setIfInBounds_toArray, List.set_cons_zero, List.set_cons_succ]
            refine anyL_take (i := 5) (v := ?vq19) rfl (by kernel_rfl) (by kernel_rfl) (by kernel_rfl) (by kernel_rfl) (fun _ _ _ h => h) (Or.inl ⟨by rfl, ?hq19⟩) (T0) ?_
            case hq19 => (intro w hSw; (try dsimp only at hSw); go_simp) <;> with_reducible rfl
            simp only [Act.put, List.getElem_toArray, List.getElem_cons_zero, List.getElem_cons_succ, List.setIfInBounds_toArray, List.set_cons_zero, List.set_cons_succ]
            refine anyL_take (i := 6) (v := ?vq20) rfl (by kernel_rfl) (by kernel_rfl) (by kernel_rfl) (by kernel_rfl) (fun _ _ _ h => h) (Or.inl ⟨by rfl, ?hq20⟩) (T0) ?_
            case hq20 => (intro w hSw; (try dsimp only at hSw); go_simp) <;> with_reducible rfl
            simp only [Act.put, List.getElem_toArray, List.getElem_cons_zero, List.getElem_cons_succ, List.setIfInBounds_toArray, List.set_cons_zero, List.set_cons_succ]
            refine anyL_take (i := 7) (v := ?vq21) rfl (by kernel_rfl) (by kernel_rfl) (by kernel_rfl) (by kernel_rfl) (fun _ _ _ h => h) (Or.inl ⟨by rfl, ?hq21⟩) (T0) ?_
            case hq21 => (intro w hSw; (try dsimp only at hSw); go_simp) <;> with_reducible rfl
            simp only [Act.put, List.getElem_toArray, List.getElem_cons_zero, List.getElem_cons_succ, List.setIfInBounds_toArray, List.set_cons_zero, List.set_cons_succ]
            refine anyL_take (i := 8) (v := ?vq22) rfl (by kernel_rfl) (by kernel_rfl) (by kernel_rfl) (by kernel_rfl) (fun _ _ _ h => h) (Or.inl ⟨by rfl, ?hq22⟩) (T0) ?_
            case hq22 => (intro w hSw; (try dsimp only at hSw); go_simp) <;> with_reducible rfl
            simp only [Act.put, List.getElem_toArray, List.getElem_cons_zero, List.getElem_cons_succ, List.setIfInBounds_toArray, List.set_cons_zero, List.set_cons_succ]
            refine anyL_take (i := 9) (v := ?vq23) rfl (by kernel_rfl) (by kernel_rfl) (by kernel_rfl) (by kernel_rfl) (fun _ _ _ h => h) (Or.inl ⟨by rfl, ?hq23⟩) (T0) ?_
            case hq23 => (intro w hSw; (try dsimp only at hSw); go_simp) <;> with_reducible rfl
            simp only [Act.put, List.getElem_toArray, List.getElem_cons_zero, List.getElem_cons_succ, List.setIfInBounds_toArray, List.set_cons_zero, List.set_cons_succ]
            refine anyL_take (i := 10) (v := ?vq24) rfl (by kernel_rfl) (by kernel_rfl) (by kernel_rfl) (by kernel_rfl) (fun _ _ _ h => h) (Or.inl ⟨by rfl, ?hq24⟩) (T0) ?_
            case hq24 => (intro w hSw; (try dsimp only at hSw); go_simp) <;> with_reducible rfl
            simp only [Act.put, List.getElem_toArray, List.getElem_cons_zero, List.getElem_cons_succ, List.setIfInBounds_toArray, List.set_cons_zero, List.set_cons_succ]
            refine anyL_take (i := 11) (v := ?vq25) rfl (by kernel_rfl) (by kernel_rfl) (by kernel_rfl) (by kernel_rfl) (fun _ _ _ h => h) (Or.inl ⟨by rfl, ?hq25⟩) (T0) ?_
            case hq25 => (intro w hSw; (try dsimp only at hSw); go_simp) <;> with_reducible rfl
            simp only [Act.put, List.getElem_toArray, List.getElem_cons_zero, List.getElem_cons_succ, List.setIfInBounds_toArray, List.set_cons_zero, List.set_cons_succ]
            refine anyL_take (i := 12) (v := ?vq26) rfl (by kernel_rfl) (by kernel_rfl) (by kernel_rfl) (by kernel_rfl) (fun _ _ _ h => h) (Or.inl ⟨by rfl, ?hq26⟩) (T0) ?_
            case hq26 => (intro w hSw; (try dsimp only at hSw); go_simp) <;> with_reducible rfl
            simp only [Act.put, List.getElem_toArray, List.getElem_cons_zero, List.getElem_cons_succ, List.setIfInBounds_toArray, List.set_cons_zero, List.set_cons_succ]
            refine anyL_take (i := 13) (v := ?vq27) rfl (by kernel_rfl) (by kernel_rfl) (by kernel_rfl) (by kernel_rfl) (fun _ _ _ h => h) (Or.inl ⟨by rfl, ?hq27⟩) (T0) ?_
            case hq27 => (intro w hSw; (try dsimp only at hSw); go_simp) <;> with_reducible rfl
            simp only [Act.put, List.getElem_toArray, List.getElem_cons_zero, List.getElem_cons_succ, List.setIfInBounds_toArray, List.set_cons_zero, List.set_cons_succ]
            refine anyL_take (i := 14) (v := ?vq28) rfl (by kernel_rfl) (by kernel_rfl) (by kernel_rfl) (by kernel_rfl) (fun _ _ _ h => h) (Or.inl ⟨by rfl, ?hq28⟩) (T0) ?_
            case hq28 => (intro w hSw; (try dsimp only at hSw); go_simp) <;> with_reducible rfl
            simp only [Act.put, List.getElem_toArray, List.getElem_cons_zero, List.getElem_cons_succ, List.setIfInBounds_toArray, List.set_cons_zero, List.set_cons_succ]
            refine anyL_ready (rs := [15]) (by kernel_rfl) (by simp) ?_
            refine AllL.cons rfl (fun K hK => ?_) AllL.nil
            go_simp
            refine unhide hK _ _ (fun h => absurd h (by decide)) ?_
            clear hK K
            refine anyL_done (by kernel_rfl) ?_ _
            clear T0 T4 T5
            go_wp2_with fail
            go_roundw
            case rel => exact ⟨k + 1, by go_num, h2, HNY⟩
            case measure => simp [intOf]; omega
          · rw [decide_eq_false hxy] at hstr
            have hv := unhide HTN hxy
            have HNX := hide (fun n => ((unhide HK1).2 (by rw [hv]; exact unhide HM1)).dN n)
            clear hv HK1 HTS HTN d3 d4 d5 S1
            go_quiet (fail)
            go_wp2_with fail
            go_roundw
            case rel => exact ⟨k + 1, by go_num, h2, hide (unhide HNX _)⟩
            case measure => simp [intOf]; omega
        · have t2 : decide ((k : Int) < (y.length : Int)) = false := decide_eq_false (by omega)
          obtain ⟨f, q1, q2⟩ := (unhide HN).t
          have HE : Hid (CoL w wr x y (i + 1) g2) := hide ⟨q1.congr fun j hj => q2 j (by omega), (unhide HN).o.b, (unhide HN).n.1⟩
          clear HN q1 q2
          go_wp2_with fail
          go_roundw
          case rel => exact ⟨⟨_, rfl⟩, ⟨_, rfl⟩, i + 1, g2, rfl, by go_num, h1, HE⟩
          case measure => simp [intOf]; omega
    · have t1 : decide ((i : Int) < (x.length : Int)) = false := decide_eq_false (by omega)
      have ce := (unhide HL).l.cell (k := y.length) (by omega)
      have e0 : lcs (x.take i) (y.take y.length) = lcs x y := by rw [List.take_of_length_le (by omega), List.take_length]
      rw [e0] at ce
      have f1 : (y.length : Int) < (y.length : Int) + 1 := by omega
      have f2 : (0 : Int) ≤ (y.length : Int) := by omega
      have HB := hide (unhide HL).b
      clear HL e0
      go_wp2_with fail
      exact bodyPost_ret (results_tmp rfl _ _ _) rfl ⟨rfl, unhide HB⟩
end Go.Proofs.YtecfojkaoibldaaDoor
end

section
namespace Go.Proofs.YtecfojkaoibldaaDoor
open Go.ChangeShapes Go.WideShapes Go.ChangeAt Go.RowKit
attribute [local go_sem] Oper.semAt_some

theorem cut_byl {l : List Int} (hb : ByL l) : ∀ cs : List Nat, ∀ q ∈ cutP l cs, ByL q
  | [], q, h => by cases h
  | [_], q, h => by cases h
  | c :: d :: r, q, h => by
    rcases List.mem_cons.1 h with rfl | h
    · exact fun x hx => hb x (List.mem_of_mem_drop (List.mem_of_mem_take hx))
    · exact cut_byl hb (d :: r) q h
set_option maxRecDepth 100000 in
set_option maxHeartbeats 4000000 in
theorem RDistance_at (a0 : Option Addr) (c0 : Nat) (l : List Int) (b0 : Option Addr) (d0 : Nat) (m : List Int) (w : World) (hA : IsB w a0 c0 l) (hB : IsB w b0 d0 m) (hl : l.length ≤ 1048576) (hm : m.length ≤ 1048576) (s1 : (cutS l).length ≤ 2049) (s2 : (cutS m).length ≤ 2049) :
    Calls Tryd.prog 13 #[.slice a0 l.length c0, .slice b0 m.length d0] w fun e w' => e = .returned (.tuple #[.int .i64 (aloN cutS l m : Int), .int .i64 0]) ∧ Below w.heap.size w w' := by
  have HC1 := hide (RSteps_at a0 c0 l w hA hl)
  have HC2 := hide fun (X : World) (hX : Below w.heap.size w X) => RSteps_at b0 d0 m X (hB.below hX (Nat.le_refl _)) hm
  have n1 := cutP_cnt (cutS_ok l)
  have n2 := cutP_cnt (cutS_ok m)
  have z1 := cnt_le l
  have z2 := cnt_le m
  have hlc := lcs_len (cutP l (cutS l)) (cutP m (cutS m))
  have HAL : Hid (∀ L : Nat, L = lcs (cutP l (cutS l)) (cutP m (cutS m)) → Value.int .i64 (((cutP l (cutS l)).length : Int) + ((cutP m (cutS m)).length : Int) - 2 * (L : Int)) = .int .i64 (aloN cutS l m : Int)) := hide fun L e => by unfold aloN; rw [← e] at hlc ⊢; congr 1; omega
  have HCM := hide fun (a a' : Option Addr) (c c' : Nat) (X : World) (h : IsTx X a (cutP l (cutS l))) (h' : IsTx X a' (cutP m (cutS m))) => RCommon_at a c (cutP l (cutS l)) a' c' (cutP m (cutS m)) X h h' (by omega) (by omega) (cut_byl hA.2.2.2 _) (cut_byl hB.2.2.2 _)
  clear hA hB
  go_enter Tryd.func13, Tryd.ntmps13
  go_wp2_with fail
  refine (unhide HC1).mono ?_
  rintro e w1 ⟨v1, rfl, x1⟩
  obtain ⟨k1, y1, _⟩ := x1.row
  obtain ⟨a1, c1, rfl, i1⟩ := ra_txs y1
  dsimp only
  have HB1 := hide x1.b
  have HI1 := hide i1
  clear HC1 x1 y1 i1
  go_wp2_with fail
  refine (unhide HC2 w1 (unhide HB1)).mono ?_
  rintro e w2 ⟨v2, rfl, x2⟩
  obtain ⟨k2, y2, _⟩ := x2.row
  obtain ⟨a2, c2, rfl, i2⟩ := ra_txs y2
  dsimp only
  have HB2 := hide ((unhide HB1).trans (x2.b.mono (unhide HB1).size))
  have HC3 := hide (unhide HCM a1 a2 c1 c2 w2 ((unhide HI1).below x2.b (Nat.le_refl _)) i2)
  have t1 : decide (((cutP l (cutS l)).length : Int) > 2048) = false := decide_eq_false (by omega)
  have t2 : decide (((cutP m (cutS m)).length : Int) > 2048) = false := decide_eq_false (by omega)
  have p1 : (cutP l (cutS l)).length ≤ 2048 := by omega
  have p2 : (cutP m (cutS m)).length ≤ 2048 := by omega
  clear HC2 HCM HB1 HI1 x2 y2 i2
  obtain ⟨L, hL⟩ : ∃ L, L = lcs (cutP l (cutS l)) (cutP m (cutS m)) := ⟨_, rfl⟩
  rw [← hL] at HC3 hlc
  have HE := hide (unhide HAL L hL)
  clear HAL hL n1 n2 z1 z2
  go_wp2_with fail
  refine (unhide HC3).mono ?_
  rintro e w3 ⟨rfl, hb3⟩
  dsimp only
  have HB3 := hide ((unhide HB2).trans (hb3.mono (unhide HB2).size))
  clear HC3 HB2 hb3
  go_wp2_with fail
  refine bodyPost_ret (results_tmp2 rfl _ _ _) rfl ⟨?_, unhide HB3⟩
  rw [← unhide HE]
  rfl
set_option maxRecDepth 100000 in
set_option maxHeartbeats 8000000 in
theorem DiffDistance_any (a0 : Option Addr) (c0 : Nat) (l : List Int) (b0 : Option Addr) (d0 : Nat) (m : List Int) (w : World) (hA : IsB w a0 c0 l) (hB : IsB w b0 d0 m) (hT : Tab w) :
    Calls Tryd.prog 3 #[.slice a0 l.length c0, .slice b0 m.length d0] w fun e w' => e = .returned (.bool true) ∧ Below w.heap.size w w' := by
  have HW := hide (wakes19_at w hT)
  have HA := hide hA
  have HB := hide hB
  have HT := hide hT
  clear hA hB hT
  have HLO1 := hide fun (X : World) => long19_at a0 l.length c0 b0 m.length d0 X
  go_enter Tryd.func3, Tryd.ntmps3
  go_wp2_with fail
  refine (unhide HW).mono ?_
  rintro e w1 ⟨rfl, hb1⟩
  dsimp only
  have H1 := hide hb1
  clear HW hb1
  go_wp2_with fail
  refine (unhide HLO1 w1).mono ?_
  rintro e w2 ⟨rfl, rfl⟩
  dsimp only
  by_cases hl1 : 700 < l.length ∨ 700 < m.length
  · rw [decide_eq_true hl1]
    go_wp2_with fail
    exact bodyPost_ret (results_tmp rfl _ _ _) rfl ⟨rfl, unhide H1⟩
  rw [decide_eq_false hl1]
  have HCS : Hid ((cutS l).length ≤ 2049 ∧ (cutS m).length ≤ 2049) := hide ⟨cut_small (by omega), cut_small (by omega)⟩
  have HSZ : Hid (l.length ≤ 700 ∧ m.length ≤ 700) := hide (by omega)
  clear HLO1 hl1
  go_wp2_with fail
  refine (own19_at a0 c0 l w2 ((unhide HA).below (unhide H1) (Nat.le_refl _))).mono ?_
  rintro e u1 ⟨p1, q1, rfl, i1, hb1⟩
  dsimp only
  have G1 := hide ((unhide H1).trans (hb1.mono (unhide H1).size))
  have I1 := hide i1
  clear hb1 i1 H1
  go_wp2_with fail
  refine (own19_at b0 d0 m u1 ((unhide HB).below (unhide G1) (Nat.le_refl _))).mono ?_
  rintro e u2 ⟨p2, q2, rfl, i2, hb2⟩
  dsimp only
  have G2 := hide ((unhide G1).trans (hb2.mono (unhide G1).size))
  have I2 := hide i2
  have I3 := hide ((unhide I1).below hb2 (Nat.le_refl _))
  clear hb2 i2 I1 G1
  go_wp2_with fail
  refine (Distance_at p1 q1 l p2 q2 m u2 (unhide I3) (unhide I2) ((unhide HT).below (unhide G2) (unhide HT).size)).mono ?_
  rintro e u3 ⟨hb3, ⟨hno, _⟩ | ⟨_, _, rfl⟩⟩
  · have := unhide HCS; exact absurd ⟨by omega, by omega⟩ hno
  dsimp only
  have G3 := hide ((unhide G2).trans (hb3.mono (unhide G2).size))
  clear hb3 I2 I3 G2
  go_wp2_with fail
  refine (RDistance_at a0 c0 l b0 d0 m u3 ((unhide HA).below (unhide G3) (Nat.le_refl _)) ((unhide HB).below (unhide G3) (Nat.le_refl _)) (by have := unhide HSZ; omega) (by have := unhide HSZ; omega) (unhide HCS).1 (unhide HCS).2).mono ?_
  rintro e u4 ⟨rfl, hb4⟩
  dsimp only
  have G4 := hide ((unhide G3).trans (hb4.mono (unhide G3).size))
  clear hb4 G3
  generalize aloN cutS l m = AB at *
  go_wp2_with fail
  exact bodyPost_ret (results_tmp rfl _ _ _) rfl ⟨rfl, unhide G4⟩
end Go.Proofs.YtecfojkaoibldaaDoor
end

section
namespace Go.Proofs.YtecfojkaoibldaaDoor
open Go.ChangeShapes Go.WideShapes Go.ChangeAt Go.RowKit

def tab : List Int := (List.range 245).map fun (i : Nat) => cls (i : Int)
theorem laid_eq : (Rows.laid_galley_octet_classes : DataW Unit) = Lib.tabData .u8 tab := by kernel_rfl
theorem ownC : ownKnob Tryd.prog.godebug = none := by kernel_rfl
theorem gTab : Tryd.prog.globalNamed "galley/octet.classes" = some 0 := by kernel_rfl
theorem gTabType : (Tryd.prog.globals[0]?).map (·.type) = some 138 := by kernel_rfl
theorem cellsTab : Tryd.prog.cellsOf 138 = 245 := by kernel_rfl
theorem cellsByte : Tryd.prog.cellsOf 5 = 1 := by kernel_rfl

theorem tab_of_laid {W : World} (h : laidMetH Tryd.prog [("galley/octet.classes", Rows.laid_galley_octet_classes)] W) : Tab W := by
  rw [laid_eq] at h
  have t := Lib.tabIs_of_head (rest := []) gTab gTabType Tryd.underlying138 Tryd.underlying5 cellsByte cellsTab h
  intro b h0 h1
  have hl : tab.length = 245 := by simp [tab]
  have := t.cell gTab b.toNat (by rw [hl]; omega)
  rw [this]
  have hb : b.toNat < 245 := by omega
  have e : tab.getD b.toNat 0 = cls b := by
    simp [tab, List.getD, hb, Int.toNat_of_nonneg h0]
  rw [e]

noncomputable def laidWorld (os : Os) : World :=
  { World.holding Tryd.prog os ⟨#[], #[], []⟩ with heap := (World.holding Tryd.prog os ⟨#[], #[], []⟩).heap.modify 0 fun
      | .cells _ t frozen => .cells (tab.map (Value.int .u8)).toArray t frozen
      | o => o }

theorem laidOut : laidOutB Tryd.prog = true := by kernel_rfl

/-- a []byte that came in reads as these bytes -/
theorem row_of_trod {H : Type} {enc : TypeId × Value → H} {W : World} {a0 : Option Addr} {len0 cap0 : Nat} {d0 : DataW H} {p0 : List MemPlace}
    (h0 : DataW.Trod enc Tryd.prog W 0 (fun _ => true) true 22 (Value.slice a0 len0 cap0) d0 p0)
    {ts : List TypeId} {ds : List (DataW H)} {j : Nat} (hsz : (DataW.weightsEach Tryd.prog ts ds).all (· ≤ reachBytes) = true) (ht : ts[j]? = some 22) (hd : ds[j]? = some d0) :
    ∃ l : List Int, len0 = l.length ∧ IsB W a0 cap0 l := by
  obtain ⟨fuel, hf⟩ := h0
  rcases open_ints Tryd.underlying22 Tryd.underlying5 (by kernel_rfl) hf with ⟨hcs, _⟩ | ⟨x, l, c, zs, hcs, _, hl, hm, hz, hx, hcell, hwz⟩
  · simp [Value.cells] at hcs
    obtain ⟨rfl, rfl, rfl⟩ := hcs
    exact ⟨[], rfl, by simp, by simp, Or.inl rfl, by simp⟩
  · simp [Value.cells] at hcs
    obtain ⟨rfl, rfl, rfl⟩ := hcs
    simp only [Prod.mk.injEq] at hx
    obtain ⟨rfl, _⟩ := hx
    have hz' : zs.length = cap0 := by simpa using hz
    have hs := sized_slice hsz ht hd Tryd.underlying22
    rw [show Tryd.prog.bytesOf 5 = 1 by kernel_rfl] at hs
    have hr : reachBytes = 140737488351232 := rfl
    simp [lits] at hs
    have hlen : (zs.take len0).length = len0 := by simp; omega
    have hby : ∀ x ∈ zs, 0 ≤ x ∧ x ≤ 255 := fun n hn => bounds_u8 (hwz n hn)
    refine ⟨zs.take len0, hlen.symm, by rw [hlen]; omega, by rw [hlen]; omega, ?_, fun y hy => hby y (List.mem_of_mem_take hy)⟩
    rcases Nat.eq_zero_or_pos len0 with h0 | h0
    · subst h0; exact Or.inl rfl
    · obtain ⟨b, off, spot⟩ := x
      have hspot : spot = none := by simpa [Addr.add] using World.cell?_spot (hcell 0 (by omega))
      subst hspot
      refine Or.inr ⟨b, off, rfl, fun i hi => ?_⟩
      rw [hlen] at hi
      have e : (zs.take len0).getD i 0 = zs.getD i 0 := by simp [List.getD, hi]
      rw [e]
      have hc := hcell i (by omega)
      rw [Addr.add_lit] at hc
      refine ⟨hc, ?_⟩
      have := hby (zs[i]'(by omega)) (List.getElem_mem _)
      simpa [List.getD, List.getElem?_eq_getElem (show i < zs.length by omega)] using this

end Go.Proofs.YtecfojkaoibldaaDoor
end

section
namespace Go.Proofs.YtecfojkaoibldaaDoor
open Go.ChangeShapes Go.WideShapes Go.ChangeAt Go.RowKit
open Go.ChangeMaps (open_string shut_string)

set_option maxRecDepth 100000 in
theorem diffDistance_contract (H : Type) (enc : TypeId × Value → H) (W : World) (base : Nat) (args : Array Value) (ds gs : List (DataW H)) (before : List MemPlace)
    (hval : ∀ (j : Nat) t v, Tryd.f3.params[j]? = some t → args[j]? = some v → Value.okWide Tryd.prog W .any base t v)
    (hW : DataW.Whole enc Tryd.prog Tryd.f3.params.toList Rows.diffDistanceSpec.vars false W args.toList ds gs before) (hsz : (DataW.weightsEach Tryd.prog (Tryd.f3.params.toList ++ (OpenSpec.ofChange Rows.diffDistanceSpec).bare.plain.varTypes Tryd.prog) (ds ++ gs)).all (· ≤ reachBytes) = true) (hL : laidMetH Tryd.prog Rows.diffDistanceRow.laid W) :
    Calls Tryd.prog 3 args W fun e W' => ∃ v, e = .returned v ∧ Rows.diffDistanceSpec.post enc Tryd.prog Tryd.f3 false true false false W args v W' := by
  have hW' := hW
  obtain ⟨p, q, hA0, hV, rfl, _, _⟩ := hW
  have hA : DataW.TrodAll enc Tryd.prog W 0 (fun _ => true) true Tryd.f3.params.toList args.toList ds p := hA0
  rw [Tryd.params3] at hA hval hsz
  obtain ⟨v0, vs0, d0, ds0, p0, q0, hargs, rfl, rfl, h0, r0⟩ := trodAll_cons hA
  obtain ⟨v1, vs1, d1, ds1, p1, q1, rfl, rfl, rfl, h1, r1⟩ := trodAll_cons r0
  obtain ⟨rfl, rfl, rfl⟩ := trodAll_nil r1
  obtain rfl : args = #[v0, v1] := by cases args; simp_all
  obtain ⟨rfl, rfl⟩ := trodVars_none hV
  obtain ⟨a0, len0, cap0, rfl⟩ := okWide_slice Tryd.underlying22 (hval 0 22 v0 rfl rfl)
  have k0 := h0
  have lt0 : ∀ x ∈ p0, x.block < W.heap.size := by obtain ⟨m, hm⟩ := k0; exact DataW.trod_lt m _ _ _ hm
  obtain ⟨l0, rfl, w0⟩ := row_of_trod h0 hsz (j := 0) rfl rfl
  obtain ⟨a1, len1, cap1, rfl⟩ := okWide_slice Tryd.underlying22 (hval 1 22 v1 rfl rfl)
  have k1 := h1
  have lt1 : ∀ x ∈ p1, x.block < W.heap.size := by obtain ⟨m, hm⟩ := k1; exact DataW.trod_lt m _ _ _ hm
  obtain ⟨l1, rfl, w1⟩ := row_of_trod h1 hsz (j := 1) rfl rfl
  clear hA0
  refine (DiffDistance_any a0 cap0 l0 a1 cap1 l1 W w0 w1 (tab_of_laid hL)).mono fun e W' ⟨he, bel⟩ => ?_
  subst he
  exact ⟨_, rfl, _, _, _, [], _, [], hW', trodAll_mk1 (shut_bool Tryd.underlying4 _), (trodAll_cons_mk (Below.trod laidOut (by kernel_rfl) (of_decide_eq_true (by kernel_rfl)) k0 bel lt0) (trodAll_cons_mk (Below.trod laidOut (by kernel_rfl) (of_decide_eq_true (by kernel_rfl)) k1 bel lt1) trodAll_mk0)), rfl, bel.frame _, fun h => by cases h⟩

theorem diffDistance_met (os : Os) : laidMet Tryd.prog Rows.diffDistanceRow.laid ((laidWorld os).forCall (fun _ _ => 0) ⟨#[], #[.slice none 0 0, .slice none 0 0], []⟩).memory :=
  laidMet_of_run' 8 (by kernel_rfl) (by kernel_rfl)
theorem diffDistance_reads (os : Os) {H : Type} (enc : TypeId × Value → H) : ∃ places, DataW.whole enc Tryd.prog ((laidWorld os).forCall (fun _ _ => 0) ⟨#[], #[.slice none 0 0, .slice none 0 0], []⟩).memory Tryd.f3.params.toList Rows.diffDistanceSpec.vars false (#[.slice none 0 0, .slice none 0 0] : Array Value).toList 8 = some ([.nil, .nil], [], places) :=
  ⟨[], by kernel_rfl⟩

set_option maxRecDepth 100000 in
theorem diffDistance_lifted (os : Os) (started : os.Started) (H : Type) (enc : TypeId × Value → H) (F : Stop.Interp) :
    ReturnsInHanded {} Tryd.checked os 3 .any ((OpenSpec.ofChange Rows.diffDistanceSpec).preRow enc Tryd.prog Tryd.f3 Rows.diffDistanceRow.domain false Rows.diffDistanceRow.laid) (((OpenSpec.ofChange Rows.diffDistanceSpec).at F).post enc Tryd.prog Tryd.f3 false true false false) := by
  obtain ⟨places, hx⟩ := diffDistance_reads os enc
  refine returnsInHanded_of_row (C := Tryd.checked) (s := OpenSpec.ofChange Rows.diffDistanceSpec) ownC started (by kernel_rfl) Tryd.func3
    (witness_row_at (enc := enc) (C := Tryd.checked) false (laidWorld os) #[.slice none 0 0, .slice none 0 0] rfl (by kernel_rfl) (by kernel_rfl) (by kernel_rfl)
      (OpenSpec.preRow_of_cond 8 hx (by kernel_rfl) (fun k hk => by cases hk) (by kernel_rfl) (diffDistance_met os))) ?_
  intro W base args ds gs before hval hW _ _ hsz hL _ _
  exact diffDistance_contract H enc W base args ds gs before hval hW hsz hL

theorem diffDistance_said : Rows.DiffDistanceSaid :=
  OpenClaim.holds_of_cond 3 Tryd.f3 rfl rfl rfl rfl rfl rfl rfl ⟨rfl, rfl, rfl, rfl, rfl⟩ rfl rfl rfl rfl rfl (by kernel_rfl) Tryd.func3 (by kernel_rfl)
    (of_decide_eq_true (by kernel_rfl)) (by unfold Func.isWrapper; first | (rw [if_pos (by decide +kernel)]; kernel_rfl) | (rw [if_neg (by decide +kernel)]; exact ⟨rfl, rfl⟩))
    (fun os started H enc _ F => by rw [OpenClaim.pre_eq_preRow]; exact diffDistance_lifted os started H enc F)

theorem diffDistance_plain (f : FuncId) (fn : Func) (hf : Tryd.pinned.checked.prog.funcNamed "galley/galleylaw19.DiffDistance" = some f) (hfn : Tryd.pinned.checked.prog.funcs[f]? = some fn) :
    false = Tryd.pinned.checked.prog.looks [] ∧ ∀ (j : Nat) t, fn.params[j]? = some t → Tryd.pinned.checked.prog.wantsStandIn t = false := by
  obtain rfl : f = 3 := Option.some.inj ((show Tryd.prog.funcNamed "galley/galleylaw19.DiffDistance" = some 3 by kernel_rfl).symm.trans hf) |>.symm
  obtain rfl : fn = Tryd.f3 := (Option.some.inj (Tryd.func3.symm.trans hfn)).symm
  refine ⟨by kernel_rfl, fun j t ht => ?_⟩
  rw [Tryd.params3] at ht
  obtain rfl : t = 22 := by simpa using Array.mem_of_getElem? ht
  exact (show Tryd.prog.wantsStandIn 22 = false by kernel_rfl)

/-- the card -/
theorem diffDistance_card : Rows.DiffDistanceCardSaid :=
  Claim7.holds_tied_plain_at .later [] _ _ _ _ diffDistance_said (fun _ h => by cases h) (by kernel_rfl) (fun _ h => by cases h) diffDistance_row_tie rfl ⟨rfl, rfl⟩ (by kernel_rfl) rfl diffDistance_plain (by kernel_rfl)

#print axioms diffDistance_card
end Go.Proofs.YtecfojkaoibldaaDoor
end
