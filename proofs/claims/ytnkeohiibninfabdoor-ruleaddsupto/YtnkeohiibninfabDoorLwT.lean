/- What stays while a law of layer 6 goes on. -/
import Derived.Test.YtnkeohiibninfabDoorRwk
namespace Go.Proofs.YtnkeohiibninfabDoor
open Go.ChangeShapes Go.WideShapes Go.ChangeAt Go.RowKit

/-- what stays while the law goes on -/
structure Lw (w : World) (a0 : Option Addr) (cap : Nat) (l : List Int) (ks : List (Nat × TypeId × Array Value)) (X : World) : Prop where
  b : IsB X a0 cap l
  t : Tab X
  d : Below w.heap.size w X
  k : ∀ y ∈ ks, Cls X y.1 y.2.1 y.2.2
theorem Lw.on {w : World} {a0 : Option Addr} {cap : Nat} {l : List Int} {ks : List (Nat × TypeId × Array Value)} {X Y : World} (h : Lw w a0 cap l ks X) (hb : Below X.heap.size X Y) : Lw w a0 cap l ks Y :=
  ⟨h.b.below hb (Nat.le_refl _), h.t.below hb h.t.size, h.d.trans (hb.mono h.d.size), fun y hy => (h.k y hy).below hb (h.k y hy).lt⟩

end Go.Proofs.YtnkeohiibninfabDoor
