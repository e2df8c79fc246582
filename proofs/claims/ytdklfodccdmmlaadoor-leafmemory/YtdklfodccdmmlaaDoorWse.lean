/- Layer 5: the seam. -/
import Derived.Test.YtdklfodccdmmlaaDoorWvb
namespace Go.Proofs.YtdklfodccdmmlaaDoor
open Go.ChangeShapes Go.WideShapes Go.ChangeAt Go.RowKit

theorem IsN.bytesIn {w : World} {a0 : Option Addr} {cap : Nat} {l : List Int} (h : IsB w a0 cap l) : Lib.BytesIn w a0 l.length l := by
  intro hn
  rcases h.2.2.1 with h0 | ⟨g, off, e, hL⟩
  · rw [h0] at hn; simp at hn
  · exact ⟨g, off, e, fun i hi => (hL i hi).1⟩
theorem pre1 {l : List Int} (h : ∀ x ∈ l, 0 ≤ x ∧ x ≤ 255) {c : Int} (hc : 0 ≤ c ∧ c ≤ 255) : Lib.hasPrefix (Lib.bytesOf l) (Lib.bytesOf [c]) = decide (l.head? = some c) := by
  cases l with
  | nil => rfl
  | cons x r =>
    have hx := u8_eq (h x (List.mem_cons_self ..)) c.toNat (by omega)
    have e : Lib.hasPrefix (Lib.bytesOf (x :: r)) (Lib.bytesOf [c]) = ((UInt8.ofNat c.toNat == UInt8.ofNat x.toNat) && true) := rfl
    rw [e, Bool.and_true, List.head?_cons]
    rw [Bool.eq_iff_iff, beq_iff_eq, decide_eq_true_eq, eq_comm (a := UInt8.ofNat c.toNat), hx, Option.some.injEq]
    omega
theorem suf1 {l : List Int} (h : ∀ x ∈ l, 0 ≤ x ∧ x ≤ 255) {c : Int} (hc : 0 ≤ c ∧ c ≤ 255) : Lib.hasSuffix (Lib.bytesOf l) (Lib.bytesOf [c]) = decide (l.getLast? = some c) := by
  have h1 := pre1 (l := l.reverse) (fun x hx => h x (by simpa using hx)) hc
  rw [List.head?_reverse] at h1
  rw [← h1]
  unfold Lib.hasSuffix Lib.hasPrefix List.isSuffixOf
  simp [Lib.bytesOf]
theorem cells3 {W : World} {g : Nat} {x y z : Value} {t : TypeId} (h : W.heap[g]? = some (.cells #[x, y, z] t (0, 0))) : W.cell? ⟨g, 0, none⟩ = some x ∧ W.cell? ⟨g, 1, none⟩ = some y ∧ W.cell? ⟨g, 2, none⟩ = some z :=
  ⟨by simp only [World.cell?, h]; rfl, by simp only [World.cell?, h]; rfl, by simp only [World.cell?, h]; rfl⟩
theorem set_other (W : World) {g k o : Nat} (v : Value) (h : k ≠ g) : (W.setCell ⟨g, o, none⟩ v).heap[k]? = W.heap[k]? := heap_setCell_other W ⟨g, o, none⟩ k v h
theorem isN_set {W : World} {g c k : Nat} {x : List Int} {o : Nat} {v : Value} (h : IsN W (some ⟨g, o, none⟩) c x) (hg : g ≠ k) {j : Nat} : IsN (W.setCell ⟨k, j, none⟩ v) (some ⟨g, o, none⟩) c x := by
  obtain ⟨⟨h1, h2, h3, h4⟩, h5⟩ := h
  refine ⟨⟨h1, h2, ?_, h4⟩, h5⟩
  rcases h3 with h0 | ⟨g', off', e, hL⟩
  · exact Or.inl h0
  · cases e
    refine Or.inr ⟨g, o, rfl, fun i hi => ?_⟩
    have := hL i hi
    exact ⟨(World.cell?_of_block (a := ⟨g, o + i, none⟩) (set_other W v hg)).trans this.1, this.2⟩
def seamR (x : List Int) (p : Nat) : Int := if inside x p then (wid (x.drop (flr x p)) : Int) - 1 else 0
def seamU (x : List Int) (p : Nat) : Int := if inside x p then (wid (x.drop (flr x p)) : Int) - uni1 (first (x.drop (flr x p))).1 else 0
def seamE (s t : List Int) : Int := if s.getLast? = some 13 ∧ t.head? = some 10 then 1 else 0
def seamL (s t : List Int) : Sz := ⟨0, seamR (s ++ t) s.length, seamU (s ++ t) s.length, seamE s t⟩

end Go.Proofs.YtdklfodccdmmlaaDoor
