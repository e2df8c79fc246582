/- What stays while a law of layer 7 goes on; Where at an edge. -/
import Derived.Test.YtbnfpcfoeojceaaDoorLnk
import Derived.Test.YtbnfpcfoeojceaaDoorLml
namespace Go.Proofs.YtbnfpcfoeojceaaDoor
open Go.ChangeShapes Go.WideShapes Go.ChangeAt Go.RowKit

/-- what stays while the law goes on -/
structure Lw (w : World) (a0 : Option Addr) (cap : Nat) (l : List Int) (ks : List (Nat × TypeId × Array Value)) (X : World) : Prop where
  b : IsB X a0 cap l
  t : Tab X
  d : Below w.heap.size w X
  k : ∀ y ∈ ks, Cls X y.1 y.2.1 y.2.2
theorem Lw.on {w : World} {a0 : Option Addr} {cap : Nat} {l : List Int} {ks : List (Nat × TypeId × Array Value)} {X Y : World} (h : Lw w a0 cap l ks X) (hb : Below X.heap.size X Y) : Lw w a0 cap l ks Y :=
  ⟨h.b.below hb (Nat.le_refl _), h.t.below hb h.t.size, h.d.trans (hb.mono h.d.size), fun y hy => (h.k y hy).below hb (h.k y hy).lt⟩
theorem drew_belowL (w : World) : Below w.heap.size w w.drew := (ch_drew (N := w.heap.size) (n := 0) w).1
theorem Lw.drew {w : World} {a0 : Option Addr} {cap : Nat} {l : List Int} {ks : List (Nat × TypeId × Array Value)} {X : World} (h : Lw w a0 cap l ks X) : Lw w a0 cap l ks X.drew := h.on (drew_belowL X)
theorem Lw.one {w : World} {a0 : Option Addr} {cap : Nat} {l : List Int} {k : Nat × TypeId × Array Value} {ks : List (Nat × TypeId × Array Value)} {X : World} (h : Lw w a0 cap l (k :: ks) X) : Cls X k.1 k.2.1 k.2.2 := h.k k (List.mem_cons_self ..)
theorem Lw.two {w : World} {a0 : Option Addr} {cap : Nat} {l : List Int} {k j : Nat × TypeId × Array Value} {ks : List (Nat × TypeId × Array Value)} {X : World} (h : Lw w a0 cap l (k :: j :: ks) X) : Cls X j.1 j.2.1 j.2.2 := h.k j (List.mem_cons_of_mem _ (List.mem_cons_self ..))
/-- one more block -/
theorem Lw.new {w : World} {a0 : Option Addr} {cap : Nat} {l : List Int} {ks : List (Nat × TypeId × Array Value)} {X : World} (h : Lw w a0 cap l ks X) (t : TypeId) (cs : Array Value) : Lw w a0 cap l ((X.heap.size, t, cs) :: ks) (X.alloc (.cells cs t)) := by
  have hb := (Below.refl X.heap.size X).alloc (Nat.le_refl _) (.cells cs t)
  have h' := h.on hb
  refine ⟨h'.b, h'.t, h'.d, fun y hy => ?_⟩
  rcases List.mem_cons.1 hy with rfl | hy
  · exact Cls.new X t cs
  · exact h'.k y hy
theorem wh_pl {l : List Int} {k : Int} {p : Nat} (h : PlK l k p) : ∃ x1 x2 x4 x5 x6 : Int, whV l (p : Int) = .tuple #[.agg #[.int .i64 (p : Int), .int .i64 x1, .int .i64 x2, .int .i64 k, .int .i64 x4, .int .i64 x5, .int .i64 x6], .int .i64 0] := by
  have h1 := h.le
  have e : whV l (p : Int) = .tuple #[.agg (whC l p), .int .i64 0] := by
    unfold whV
    rw [if_neg (by omega), Int.toNat_natCast, h.fl]
  rw [e]
  unfold whC
  rw [h.ln]
  exact ⟨_, _, _, _, _, rfl⟩

end Go.Proofs.YtbnfpcfoeojceaaDoor
