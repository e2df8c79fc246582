/- ScanPieces: the loop over the steps: its state. -/
import Derived.Test.YthpbgeaajehlkaaDoorPieA
namespace Go.Proofs.YthpbgeaajehlkaaDoor
open Go.ChangeShapes Go.WideShapes Go.ChangeAt Go.RowKit

structure Pl (R G gs gk ga Bn n₁ : Nat) (l : List Int) (vg : Value) (w : World) (j q : Nat) (W : World) : Prop where
  bk : Boxed W gk 3 (.int .i64 (j : Int))
  ba : Boxed W ga 3 (.int .i64 (q : Int))
  bg : Boxed W G 30 vg
  br : Boxed W R 4 (.bool false)
  bn : Boxed W Bn 9 (.string (strOfNums l))
  got : RT n₁ vg (stepsL l) W
  sca : Sca W gs [] (l.length : Int)
  below : Below R w W
  lo : R ≤ G ∧ R ≤ gk ∧ R ≤ ga ∧ R ≤ Bn ∧ R ≤ gs ∧ R ≤ n₁
theorem Sca.cells {w : World} {g : Nat} {h : List Int} {fed : Int} (hS : Sca w g h fed) : ∃ cur t m, w.heap[g]? = some (.cells cur t m) := by
  have hc := hS.2.2.2.2.2.1
  simp only [World.cell?] at hc
  cases hh : w.heap[g]? with
  | none => rw [hh] at hc; cases hc
  | some o =>
    cases o with
    | cells cur t m => exact ⟨cur, t, m, rfl⟩
    | _ => rw [hh] at hc; cases hc
theorem Pl.kept {R G gs gk ga Bn n₁ : Nat} {l : List Int} {vg : Value} {w : World} {j q : Nat} {W W' : World} {row : Option Nat} (h : Pl R G gs gk ga Bn n₁ l vg w j q W) (hw : R ≤ w.heap.size) (hg : W.grownBy W' row)
    (hr : ∀ r, row = some r → R ≤ r ∧ ∃ o : Obj, W.heap[r]? = some o ∧ o.isCells = false) : Pl R G gs gk ga Bn n₁ l vg w j q W' := by
  have ne : ∀ {k : Nat} {cur : Array Value} {t : TypeId} {m : Nat × Nat}, W.heap[k]? = some (.cells cur t m) → some k ≠ row := fun hk e => by
    obtain ⟨_, o, ho, hc⟩ := hr _ e.symm
    rw [hk] at ho
    cases ho
    cases hc
  have nr : ∀ {e s : Nat} {v : Value} {n : Nat} {xs : List Value} {B : Nat}, W.ownsRow B e s v n xs → v.ownBlock = none ∨ v.ownBlock ≠ row := fun h => by
    rcases h.2 with ⟨rfl, _⟩ | ⟨g, cap, cur, rfl, _, hg, _⟩
    · exact Or.inl rfl
    · exact Or.inr (ne hg)
  obtain ⟨cur, t, m, hc⟩ := h.sca.cells
  refine ⟨h.bk.kept hg (ne h.bk), h.ba.kept hg (ne h.ba), h.bg.kept hg (ne h.bg), h.br.kept hg (ne h.br), h.bn.kept hg (ne h.bn), World.ownsRow.kept h.got hg (nr h.got), h.sca.same hg.size (hg.block gs h.sca.lt (ne hc)), h.below.grown hg (by have := h.below.size; omega) (fun k e => (hr k e).1), h.lo⟩
theorem Pl.alloc {R G gs gk ga Bn n₁ : Nat} {l : List Int} {vg : Value} {w : World} {j q : Nat} {W : World} (h : Pl R G gs gk ga Bn n₁ l vg w j q W) (hw : R ≤ w.heap.size) (o : Obj) : Pl R G gs gk ga Bn n₁ l vg w j q (W.alloc o) :=
  h.kept hw (World.grownBy_alloc W o none) (fun r e => by cases e)
theorem Pl.drew {R G gs gk ga Bn n₁ : Nat} {l : List Int} {vg : Value} {w : World} {j q : Nat} {W : World} (h : Pl R G gs gk ga Bn n₁ l vg w j q W) (hw : R ≤ w.heap.size) : Pl R G gs gk ga Bn n₁ l vg w j q W.drew :=
  h.kept (row := none) hw ⟨rfl, rfl, rfl, Nat.le_refl _, fun _ _ _ => rfl⟩ (fun r e => by cases e)
/-- both counters go on -/
theorem Pl.set {R G gs gk ga Bn n₁ : Nat} {l : List Int} {vg : Value} {w : World} {j q : Nat} {W : World} (h : Pl R G gs gk ga Bn n₁ l vg w j q W) (ne : gk ≠ ga ∧ G ≠ ga ∧ G ≠ gk ∧ R ≠ ga ∧ R ≠ gk ∧ Bn ≠ ga ∧ Bn ≠ gk ∧ gs ≠ ga ∧ gs ≠ gk) (j' q' : Nat) :
    Boxed (W.setCell ⟨ga, 0, none⟩ (.int .i64 (q' : Int))) gk 3 (.int .i64 (j : Int)) ∧ Pl R G gs gk ga Bn n₁ l vg w j' q' ((W.setCell ⟨ga, 0, none⟩ (.int .i64 (q' : Int))).setCell ⟨gk, 0, none⟩ (.int .i64 (j' : Int))) := by
  obtain ⟨n1, n2, n3, n4, n5, n6, n7, n8, n9⟩ := ne
  obtain ⟨l1, l2, l3, l4, l5, l6⟩ := h.lo
  have k1 : ∀ k, k ≠ ga → k ≠ gk → ((W.setCell ⟨ga, 0, none⟩ (.int .i64 (q' : Int))).setCell ⟨gk, 0, none⟩ (.int .i64 (j' : Int))).heap[k]? = W.heap[k]? := fun k a b => (set_same _ _ b).trans (set_same _ _ a)
  have b1 : Boxed (W.setCell ⟨ga, 0, none⟩ (.int .i64 (q' : Int))) gk 3 (.int .i64 (j : Int)) := box_same h.bk (set_same _ _ n1)
  refine ⟨b1, b1.set _, box_same (h.ba.set _) (set_same _ _ (Ne.symm n1)), box_same h.bg (k1 _ n2 n3), box_same h.br (k1 _ n4 n5), box_same h.bn (k1 _ n6 n7), ?_, h.sca.same (by rw [size_set, size_set]; exact Nat.le_refl _) (k1 _ n8 n9), ?_, h.lo⟩
  · rcases h.got.2 with hn | ⟨g, cap, cur, hv, hB, hgg, rest⟩
    · exact ⟨h.got.1, .inl hn⟩
    · refine ⟨h.got.1, .inr ⟨g, cap, cur, hv, hB, (k1 g ?_ ?_).trans hgg, rest⟩⟩
      · intro e; subst e
        rw [show W.heap[g]? = _ from h.ba] at hgg
        cases hgg
      · intro e; subst e
        rw [show W.heap[g]? = _ from h.bk] at hgg
        cases hgg
  · exact (h.below.setCell (p := ⟨ga, 0, none⟩) l3 _).setCell (p := ⟨gk, 0, none⟩) l2 _
/-- the frame in the body: what it reads -/
def FrP (R G gk ga Bx : Nat) (x : Int) (a : Act) : Prop := ∃ u0 u1 u3 u4 u6 u9 u12 u13 u14 u15 u16 u17 u18 u19 u20 u21 u22 u23 u24 u25 u26 u27 u28 u29 u30 u31 u32 u33 u34 u35 u36 u37 u38 u39 u40 u41 u42 u43 u44 u45 u46 u47 u48 u49 u50 u51 u52 u53 u54 u55 u56 u57 u58 u59 u60 u61 u62 u63 u64 u65 u66 u67 u68 u69 u70 u71 u72 u73 u74 u75 u76 u77 u78 u79 u80 u81 u82 u83 u84 u85 u86 u87 u88 u89 u90 u91 u92 u93 u94 u95 u96 u97 u98 u99 u100 u101 u102 u103 u104 u105 u106 u107 u108 u109 u110 : Value, a = { tmps := #[u0, u1, .pointer (some ⟨R, 0, none⟩), u3, u4, .pointer (some ⟨G, 0, none⟩), u6, .pointer (some ⟨gk, 0, none⟩), .pointer (some ⟨ga, 0, none⟩), u9, .int .i64 x, .pointer (some ⟨Bx, 0, none⟩), u12, u13, u14, u15, u16, u17, u18, u19, u20, u21, u22, u23, u24, u25, u26, u27, u28, u29, u30, u31, u32, u33, u34, u35, u36, u37, u38, u39, u40, u41, u42, u43, u44, u45, u46, u47, u48, u49, u50, u51, u52, u53, u54, u55, u56, u57, u58, u59, u60, u61, u62, u63, u64, u65, u66, u67, u68, u69, u70, u71, u72, u73, u74, u75, u76, u77, u78, u79, u80, u81, u82, u83, u84, u85, u86, u87, u88, u89, u90, u91, u92, u93, u94, u95, u96, u97, u98, u99, u100, u101, u102, u103, u104, u105, u106, u107, u108, u109, u110], defers := [] }
/-- before the next step -/
def plI (R G gs gk ga Bn n₁ : Nat) (l : List Int) (vg : Value) (w : World) (pre : List (PlL l)) (W : World) : Prop := ∃ q, spots l 0 = vals pre ++ spots l q ∧ q ≤ l.length ∧ Pl R G gs gk ga Bn n₁ l vg w pre.length q W
def plX (l : List Int) (_ : Code) (pre : List (PlL l)) (_ : World) : Prop := ¬ (vals pre <+: spots l 0)
def plA (R G gk ga : Nat) (l : List Int) (x : PlL l) (a : Act) (W : World) : Prop := ∃ Bx, Box3 W Bx 45 (.int .i32 (first (l.drop x.1)).1) (.int .i64 (wid (l.drop x.1))) (.bool (whl (l.drop x.1))) ∧ FrP R G gk ga Bx (x.1 : Int) a
theorem plI_own (R G gs gk ga Bn n₁ : Nat) (l : List Int) (vg : Value) (w : World) (B : Nat) (hw : R ≤ w.heap.size) (hB : R ≤ B) : OwnFrom B (plI R G gs gk ga Bn n₁ l vg w) := by
  rintro pre W W' row ⟨q, h1, h2, h⟩ hg hr
  exact ⟨q, h1, h2, h.kept hw hg (fun r e => ⟨by have := (hr r e).1; omega, (hr r e).2⟩)⟩
theorem plA_own (R G gk ga : Nat) (l : List Int) (B : Nat) (x : PlL l) (a : Act) : OwnFrom B (fun (_ : Unit) W => plA R G gk ga l x a W) := by
  rintro _ W W' row ⟨Bx, h2, h5⟩ hg hr
  have ne : ∀ {k : Nat} {cur : Array Value} {t : TypeId} {m : Nat × Nat}, W.heap[k]? = some (.cells cur t m) → some k ≠ row := fun hk e => by
    obtain ⟨o, ho, hc⟩ := (hr _ e.symm).2
    rw [hk] at ho
    cases ho
    cases hc
  exact ⟨Bx, h2.kept hg (ne h2), h5⟩
theorem others_w {A B : World} (h : KeepsOthers A B) : KeepsWalks A B := ⟨h.size, fun k o hk ho => h.same k o hk (by cases o <;> first | rfl | cases ho)⟩
end Go.Proofs.YthpbgeaajehlkaaDoor
