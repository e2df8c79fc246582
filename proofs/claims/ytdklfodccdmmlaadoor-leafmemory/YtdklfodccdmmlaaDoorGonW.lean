/- Contract of galleylaw02.gone: what an iterator gives, in two lists of the call's own. -/
import Derived.Test.YtdklfodccdmmlaaDoorGon
import Derived.Test.YtdklfodccdmmlaaDoorLat
namespace Go.Proofs.YtdklfodccdmmlaaDoor
open Go.ChangeShapes Go.WideShapes Go.ChangeAt Go.RowKit
attribute [local go_sem] Oper.semAt_some

def goneI (n₀ : Nat) (w : World) (l : List Int) (pre : List Nat) (W : World) : Prop := (∃ vp vs, Mid n₀ n₀ (n₀ + 1) vp vs l pre W) ∧ Below n₀ w W
def goneA (n₀ : Nat) (gf : Nat) (lb : Array Value) (l : List Int) (x : Nat) (a : Act) (W : World) : Prop :=
  ∃ Bx vs, n₀ + 1 < Bx ∧ Box3 W Bx 64 (.int .i32 (first (l.drop x)).1) (.int .i64 (wid (l.drop x))) (.bool (whl (l.drop x))) ∧ Boxed W (n₀ + 1) 60 vs ∧ vs.ownBlock ≠ some Bx ∧
    a = { tmps := #[.func (.func gf) #[] lb, undef, .slice none 0 0, .slice none 0 0, .pointer (some ⟨n₀, 0, none⟩), .pointer (some ⟨n₀ + 1, 0, none⟩), .int .i64 x, .pointer (some ⟨Bx, 0, none⟩), .func (.func gf) #[] lb, .int .i64 x, .agg #[.int .i32 (first (l.drop x)).1, .int .i64 (wid (l.drop x)), .bool (whl (l.drop x))], undef, undef, undef, undef, undef, undef, undef, undef, undef, undef], defers := [] }

theorem goneI_own (n₀ : Nat) (w : World) (l : List Int) (B : Nat) (hw : w.heap.size = n₀) (hB : n₀ ≤ B) : OwnFrom B (goneI n₀ w l) := by
  intro pre W W' row ⟨⟨vp, vs, hm⟩, hb⟩ hg hr
  refine ⟨⟨vp, vs, hm.kept hg (fun r e => (hr r e).2)⟩, hb.grown hg (by have := hb.size; omega) (fun k e => by have := (hr k e).1; omega)⟩
theorem goneA_own (n₀ : Nat) (gf : Nat) (lb : Array Value) (l : List Int) (B : Nat) (x : Nat) (a : Act) : OwnFrom B (fun (_ : Unit) W => goneA n₀ gf lb l x a W) := by
  intro _ W W' row ⟨Bx, vs, h1, h2, h3, h4, h5⟩ hg hr
  have ne : ∀ {k : Nat} {cur : Array Value} {t : TypeId} {m : Nat × Nat}, W.heap[k]? = some (.cells cur t m) → some k ≠ row := fun hk e => by
    obtain ⟨o, ho, hc⟩ := (hr _ e.symm).2
    rw [hk] at ho
    cases ho
    cases hc
  exact ⟨Bx, vs, h1, h2.kept hg (ne h2), h3.kept hg (ne h3), h4, h5⟩

end Go.Proofs.YtdklfodccdmmlaaDoor
