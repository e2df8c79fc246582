/- A block of cells of one's own, of any number. -/
import Derived.Test.YthifdfjpfmhcpaaMg06

namespace Go.Proofs.Ythifdfjpfmhcpaa
open Go.ChangeShapes Go.WideShapes Go.ChangeAt Go.RowKit

def Cls (W : World) (B : Nat) (t : TypeId) (cs : Array Value) : Prop := W.heap[B]? = some (.cells cs t (0, 0))
theorem Cls.lt {W : World} {B : Nat} {t : TypeId} {cs : Array Value} (h : Cls W B t cs) : B < W.heap.size := (Array.getElem?_eq_some_iff.1 h).1
theorem Cls.cell {W : World} {B : Nat} {t : TypeId} {cs : Array Value} (h : Cls W B t cs) (i : Nat) : W.cell? ⟨B, i, none⟩ = cs[i]? := by simp [World.cell?, show W.heap[B]? = _ from h]
theorem Cls.frozen {W : World} {B : Nat} {t : TypeId} {cs : Array Value} (h : Cls W B t cs) (i : Nat) : W.frozen? ⟨B, i, none⟩ = false := by simp [World.frozen?, show W.heap[B]? = _ from h]
theorem Cls.new (W : World) (t : TypeId) (cs : Array Value) : Cls (W.alloc (.cells cs t)) W.heap.size t cs := World.alloc_heap_new W _
theorem Cls.same {W W' : World} {B : Nat} {t : TypeId} {cs : Array Value} (h : Cls W B t cs) (hb : W'.heap[B]? = W.heap[B]?) : Cls W' B t cs := hb.trans h
theorem Cls.below {W W' : World} {B N : Nat} {t : TypeId} {cs : Array Value} (h : Cls W B t cs) (hb : Below N W W') (hB : B < N) : Cls W' B t cs := h.same (hb.block B hB)
theorem Cls.kb {q : Nat → Prop} {N : Nat} {W W' : World} {B : Nat} {t : TypeId} {cs : Array Value} (h : Cls W B t cs) (hb : KB q N W W') (hB : q B ∨ N ≤ B) : Cls W' B t cs := h.same (hb.2 B hB h.lt)
theorem Cls.alloc {W : World} {B : Nat} {t : TypeId} {cs : Array Value} (h : Cls W B t cs) (o : Obj) : Cls (W.alloc o) B t cs := h.same (Below.heap_alloc W o B h.lt)
theorem Cls.other {W : World} {B : Nat} {t : TypeId} {cs : Array Value} (h : Cls W B t cs) (p : Addr) (v : Value) (hp : B ≠ p.block) : Cls (W.setCell p v) B t cs := h.same (Below.heap_setCell W p v B hp)
theorem Cls.set {W : World} {B : Nat} {t : TypeId} {cs : Array Value} (h : Cls W B t cs) (i : Nat) (v : Value) : Cls (W.setCell ⟨B, i, none⟩ v) B t (cs.setIfInBounds i v) := by
  have hl := h.lt
  show (W.heap.modify B _)[B]? = _
  rw [Array.getElem?_eq_getElem (by rw [Array.size_modify]; exact hl), Array.getElem_modify_self]
  have := h
  unfold Cls at this
  rw [Array.getElem?_eq_getElem hl] at this
  rw [Option.some.inj this]
  rfl
theorem setCell_size (W : World) (p : Addr) (v : Value) : (W.setCell p v).heap.size = W.heap.size := by show (W.heap.modify _ _).size = _; rw [Array.size_modify]
theorem setCell_below {N : Nat} (W : World) (p : Addr) (v : Value) (h : N ≤ p.block) : Below N W (W.setCell p v) := (Below.refl N W).setCell (p := p) h v

end Go.Proofs.Ythifdfjpfmhcpaa
