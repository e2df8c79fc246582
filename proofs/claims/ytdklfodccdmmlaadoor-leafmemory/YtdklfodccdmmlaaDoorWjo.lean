/- Layer 5: joined; what valid measures keep to. -/
import Derived.Test.YtdklfodccdmmlaaDoorWse
namespace Go.Proofs.YtdklfodccdmmlaaDoor
open Go.ChangeShapes Go.WideShapes Go.ChangeAt Go.RowKit

def addZ (a b l : Sz) : Sz := ⟨a.b + b.b - l.b, a.r + b.r - l.r, a.u + b.u - l.u, a.e + b.e - l.e⟩
def InZ (z : Sz) : Prop := (-1000000000 ≤ z.b ∧ z.b ≤ 1000000000) ∧ (-1000000000 ≤ z.r ∧ z.r ≤ 1000000000) ∧ (-1000000000 ≤ z.u ∧ z.u ≤ 1000000000) ∧ (-1000000000 ≤ z.e ∧ z.e ≤ 1000000000)

theorem places_le (l : List Int) : ∀ (f p : Nat), (places l f p).length ≤ f
  | 0, p => by simp [places]
  | f + 1, p => by
    unfold places
    split
    · have := places_le l f (p + wid (l.drop p)); simp; omega
    · simp
theorem rnN_le (l : List Int) : rnN l ≤ l.length := places_le l _ 0
theorem usum_in (l : List Int) : ∀ ps : List Nat, (ps.length : Int) ≤ usum l ps ∧ usum l ps ≤ 2 * (ps.length : Int)
  | [] => by simp [usum]
  | p :: ps => by
    have ih := usum_in l ps
    have := uni1_in (first (l.drop p)).1
    rw [usum_cons, List.length_cons]
    omega
theorem szL_in {l : List Int} (h : l.length ≤ 268435456) : InZ (szL l) := by
  have h1 := rnN_le l
  have h2 := usum_in l (spots l 0)
  have h3 := endsN_in l
  have h4 : (spots l 0).length ≤ l.length := rnN_le l
  unfold InZ szL unN
  dsimp only
  omega
theorem seamL_in {s t : List Int} : InZ (seamL s t) ∧ (seamL s t).b = 0 := by
  have h4 := wid_four ((s ++ t).drop (flr (s ++ t) s.length))
  have h1 := uni1_in (first ((s ++ t).drop (flr (s ++ t) s.length))).1
  refine ⟨?_, rfl⟩
  unfold InZ seamL seamR seamU seamE
  dsimp only
  split <;> split <;> omega
theorem valid_in {x : We} (h : validB x = true) : InZ x.z ∧ x.h.length ≤ 3 ∧ x.t.length ≤ 3 ∧ 0 ≤ x.z.b ∧ x.z.b ≤ 268435456 ∧ (x.h.length : Int) = min x.z.b 3 ∧ (x.t.length : Int) = min x.z.b 3 := by
  unfold validB at h
  split at h
  · cases h
  · rename_i h1
    split at h
    · cases h
    · rename_i h2
      have h3 : (x.h.length : Int) = min x.z.b 3 ∧ (x.t.length : Int) = min x.z.b 3 := by omega
      refine ⟨?_, by omega, by omega, by omega, by omega, h3.1, h3.2⟩
      split at h
      · rename_i h6
        have e := of_decide_eq_true h
        rw [e]
        refine szL_in ?_
        unfold toldL
        simp
        omega
      · have := of_decide_eq_true (Bool.and_eq_true_iff.1 h).1
        simp only [mayB, Bool.and_eq_true, decide_eq_true_eq] at h
        unfold InZ
        omega

def zeroWe : We := ⟨⟨0, 0, 0, 0⟩, [], []⟩
def wc (x : We) : Array Value := #[.int .i64 x.z.b, .int .i64 x.z.r, .int .i64 x.z.u, .int .i64 x.z.e, .string (strOfNums x.h), .string (strOfNums x.t)]
def zc (z : Sz) : Array Value := #[.int .i64 z.b, .int .i64 z.r, .int .i64 z.u, .int .i64 z.e]
/-- the two measures, the two results in memory -/
structure Jb (w : World) (ga gb gr gz : Nat) (a b r : We) (z : Sz) (wx : World) : Prop where
  xa : wx.heap[ga]? = some (.cells (wc a) 42 (0, 0))
  xb : wx.heap[gb]? = some (.cells (wc b) 42 (0, 0))
  xr : wx.heap[gr]? = some (.cells (wc r) 42 (0, 0))
  xz : wx.heap[gz]? = some (.cells (zc z) 40 (0, 0))
  below : Below w.heap.size w wx
  lo : w.heap.size ≤ ga ∧ w.heap.size ≤ gb ∧ w.heap.size ≤ gr ∧ w.heap.size ≤ gz
  hi : ga < wx.heap.size ∧ gb < wx.heap.size ∧ gr < wx.heap.size ∧ gz < wx.heap.size
theorem Jb.on {w : World} {ga gb gr gz : Nat} {a b r : We} {z : Sz} {wx w' : World} (p : Jb w ga gb gr gz a b r z wx) (h : Below wx.heap.size wx w') : Jb w ga gb gr gz a b r z w' := by
  obtain ⟨h1, h2, h3, h4⟩ := p.hi
  have hs := h.size
  exact ⟨(h.block ga h1).trans p.xa, (h.block gb h2).trans p.xb, (h.block gr h3).trans p.xr, (h.block gz h4).trans p.xz, p.below.trans (h.mono p.below.size), p.lo, ⟨by omega, by omega, by omega, by omega⟩⟩
theorem box6_w {W : World} {g : Nat} {x y : We} (h : W.heap[g]? = some (.cells (wc x) 42 (0, 0))) :
    ((((((W.setCell ⟨g, 0, none⟩ (.int .i64 y.z.b)).setCell ⟨g, 1, none⟩ (.int .i64 y.z.r)).setCell ⟨g, 2, none⟩ (.int .i64 y.z.u)).setCell ⟨g, 3, none⟩ (.int .i64 y.z.e)).setCell ⟨g, 4, none⟩ (.string (strOfNums y.h))).setCell ⟨g, 5, none⟩ (.string (strOfNums y.t))).heap[g]? = some (.cells (wc y) 42 (0, 0)) := box6_all h _ _ _ _ _ _
theorem size_set6 (W : World) (g : Nat) (a b c d e f : Value) : ((((((W.setCell ⟨g, 0, none⟩ a).setCell ⟨g, 1, none⟩ b).setCell ⟨g, 2, none⟩ c).setCell ⟨g, 3, none⟩ d).setCell ⟨g, 4, none⟩ e).setCell ⟨g, 5, none⟩ f).heap.size = W.heap.size := by simp [World.setCell]
theorem set6_other (W : World) {g k : Nat} (a b c d e f : Value) (h : k ≠ g) : ((((((W.setCell ⟨g, 0, none⟩ a).setCell ⟨g, 1, none⟩ b).setCell ⟨g, 2, none⟩ c).setCell ⟨g, 3, none⟩ d).setCell ⟨g, 4, none⟩ e).setCell ⟨g, 5, none⟩ f).heap[k]? = W.heap[k]? := by
  rw [set_other _ _ h, set_other _ _ h, set_other _ _ h, set_other _ _ h, set_other _ _ h, set_other _ _ h]
theorem size_set4 (W : World) (g : Nat) (a b c d : Value) : ((((W.setCell ⟨g, 0, none⟩ a).setCell ⟨g, 1, none⟩ b).setCell ⟨g, 2, none⟩ c).setCell ⟨g, 3, none⟩ d).heap.size = W.heap.size := by simp [World.setCell]
theorem set4_other (W : World) {g k : Nat} (a b c d : Value) (h : k ≠ g) : ((((W.setCell ⟨g, 0, none⟩ a).setCell ⟨g, 1, none⟩ b).setCell ⟨g, 2, none⟩ c).setCell ⟨g, 3, none⟩ d).heap[k]? = W.heap[k]? := by
  rw [set_other _ _ h, set_other _ _ h, set_other _ _ h, set_other _ _ h]
/-- the first result written -/
theorem Jb.setr {w : World} {ga gb gr gz : Nat} {a b r : We} {z : Sz} {wx : World} (p : Jb w ga gb gr gz a b r z wx) (y : We) (h1 : ga ≠ gr) (h2 : gb ≠ gr) (h3 : gz ≠ gr) : Jb w ga gb gr gz a b y z ((((((wx.setCell ⟨gr, 0, none⟩ (.int .i64 y.z.b)).setCell ⟨gr, 1, none⟩ (.int .i64 y.z.r)).setCell ⟨gr, 2, none⟩ (.int .i64 y.z.u)).setCell ⟨gr, 3, none⟩ (.int .i64 y.z.e)).setCell ⟨gr, 4, none⟩ (.string (strOfNums y.h))).setCell ⟨gr, 5, none⟩ (.string (strOfNums y.t))) :=
  ⟨(set6_other _ _ _ _ _ _ _ h1).trans p.xa, (set6_other _ _ _ _ _ _ _ h2).trans p.xb, box6_w p.xr, (set6_other _ _ _ _ _ _ _ h3).trans p.xz, below6 p.below p.lo.2.2.1 _ _ _ _ _ _, p.lo, by rw [size_set6]; exact p.hi⟩
/-- the second -/
theorem Jb.setz {w : World} {ga gb gr gz : Nat} {a b r : We} {z : Sz} {wx : World} (p : Jb w ga gb gr gz a b r z wx) (y : Sz) (h1 : ga ≠ gz) (h2 : gb ≠ gz) (h3 : gr ≠ gz) : Jb w ga gb gr gz a b r y ((((wx.setCell ⟨gz, 0, none⟩ (.int .i64 y.b)).setCell ⟨gz, 1, none⟩ (.int .i64 y.r)).setCell ⟨gz, 2, none⟩ (.int .i64 y.u)).setCell ⟨gz, 3, none⟩ (.int .i64 y.e)) :=
  ⟨(set4_other _ _ _ _ _ h1).trans p.xa, (set4_other _ _ _ _ _ h2).trans p.xb, (set4_other _ _ _ _ _ h3).trans p.xr, box4_all p.xz _ _ _ _, below4 p.below p.lo.2.2.2 _ _ _ _, p.lo, by rw [size_set4]; exact p.hi⟩
end Go.Proofs.YtdklfodccdmmlaaDoor
