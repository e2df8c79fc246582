/- Layer 17: lists of words of one's own. -/
import Derived.Test.YthifdfjpfmhcpaaMg09
import Derived.Laws.MakeOwn

namespace Go.Proofs.Ythifdfjpfmhcpaa
open Go.ChangeShapes Go.WideShapes Go.ChangeAt Go.RowKit

theorem RA.ofOwn {X : World} {B s n : Nat} {e : TypeId} {v : Value} {xs : List Value} (h : X.ownsRow B e s v n xs) : ∃ k, RA X s v n xs k ∧ ∀ g, k = some g → B ≤ g := by
  rcases h.2 with ⟨e1, e2⟩ | ⟨g, cap, cur, e1, hb, hg, hn, hm, hs, ht⟩
  · exact ⟨none, ⟨h.1, .inl ⟨e1, e2, rfl⟩⟩, fun _ e => by cases e⟩
  · refine ⟨some g, ⟨h.1, .inr ⟨g, 0, cap, e1, rfl, (Array.getElem?_eq_some_iff.1 hg).1, hn, fun j hj => ⟨?_, ?_⟩, fun j hj => ?_⟩⟩, fun i e => by cases e; exact hb⟩
    · simp only [World.cell?, hg, Nat.zero_add]
      rw [Array.getElem?_eq_getElem (by omega)]; rfl
    · simp only [World.frozen?]; rw [hg]; simp
    · simp only [World.cell?, hg, Nat.zero_add]
      rw [← ht, List.getElem?_take_of_lt hj]
      simp
theorem idx_lt {i n s j : Nat} (hj : j < s) (hi : i < n) : i * s + j < n * s := by
  have : (i + 1) * s ≤ n * s := Nat.mul_le_mul_right s hi
  rw [Nat.add_mul] at this
  omega
/-- a list of words -/
def RS (X : World) (v : Value) (l : List ByteArray) (k : Option Nat) : Prop := RA X 1 v l.length (l.map Value.string) k
set_option maxRecDepth 100000 in
theorem pushW {X : World} {v : Value} {l : List ByteArray} {k : Option Nat} (h : RS X v l k) (w : ByteArray) (hn : l.length ≤ 1000000) :
    ∃ v' Y k', (Builtin.append_ #[37, 37] 37 #[v, .slice (some ⟨X.heap.size, 0, none⟩) 1 1]).run Try.prog (X.alloc (.cells #[.string w] 9)) = .ok v' Y ∧ RS Y v' (l ++ [w]) k' ∧
      KpF (fun b => k = some b) X Y ∧ (k' = k ∧ k ≠ none ∨ ∃ h, k' = some h ∧ X.heap.size ≤ h) := by
  have h1 := RA.allocd h (.cells #[.string w] 9)
  obtain ⟨v', Y, k', hr, h2, h3, h4⟩ := h1.push (P := Try.prog) 37 37 9 _ _ 16 Try.underlying37 rfl rfl rfl rfl rfl ⟨X.heap.size, 0, none⟩ 1 [.string w] rfl (fun j u hj => by
      rw [Addr.add_lit, Nat.zero_add]
      refine (World.cell?_alloc_mark X _ _ (0, 0) j).trans ?_
      rw [List.getElem?_toArray]; exact hj) (fun u hu => by
      simp only [List.mem_cons, List.not_mem_nil, or_false] at hu
      rcases hu with rfl <;> rfl) (by omega) (by omega)
  refine ⟨v', Y, k', hr, ?_, ((KpF.alloc _ X _).trans h3 (fun _ _ e => e)), ?_⟩
  · unfold RS
    rw [List.map_append, List.length_append]
    exact h2
  · rcases h4 with h4 | h4
    · exact .inl h4
    · exact .inr ⟨_, h4, by simp⟩
set_option maxRecDepth 100000 in
theorem makeW (X : World) (c : Nat) (hc : c ≤ 1000000) : ∃ Y k, (Instr.makeSlice 37 (.int .i64 0) (.int .i64 (c : Int))).run Try.prog X = .ok (.slice (some ⟨X.heap.size, 0, none⟩) 0 c) Y ∧ RS Y (.slice (some ⟨X.heap.size, 0, none⟩) 0 c) [] k ∧ (∀ g, k = some g → X.heap.size ≤ g) ∧ Below X.heap.size X Y := by
  obtain ⟨w', h1, h2, h3⟩ := run_make_own (P := Try.prog) X X.heap.size 37 9 _ (.string ⟨#[]⟩) 1 Try.underlying37 rfl rfl rfl .i64 .i64 c (by show 16 * c ≤ 281474976710656; omega) (by unfold maxLen; omega) (Nat.le_refl _)
  obtain ⟨k, h4, h5⟩ := RA.ofOwn h2
  exact ⟨w', k, h1, h4, h5, (Below.refl _ X).grown h3 (Nat.le_refl _) (fun k e => by cases e)⟩
theorem RS.below {X Y : World} {v : Value} {l : List ByteArray} {k : Option Nat} (h : RS X v l k) (b : Below X.heap.size X Y) : RS Y v l k := RA.kpf (F := fun _ => False) h (KpF.of b) (fun _ _ e => e)
theorem RS.kpf {F : Nat → Prop} {X Y : World} {v : Value} {l : List ByteArray} {k : Option Nat} (h : RS X v l k) (b : KpF F X Y) (hF : ∀ g, k = some g → ¬ F g) : RS Y v l k := RA.kpf h b hF
/-- its form, where it is not empty, and a word of it -/
theorem RS.get {X : World} {v : Value} {l : List ByteArray} {k : Option Nat} (h : RS X v l k) {i : Nat} (hi : i < l.length) : ∃ g off cap, v = .slice (some ⟨g, off, none⟩) l.length cap ∧ k = some g ∧ g < X.heap.size ∧ X.cell? ⟨g, off + i, none⟩ = some (.string l[i]) := by
  obtain ⟨g, off, cap, e, hk, hg, _, _, hc⟩ := RA.form h (by omega)
  refine ⟨g, off, cap, e, hk, hg, ?_⟩
  rw [hc i (by omega), List.getElem?_map, List.getElem?_eq_getElem hi]; rfl
theorem RS.val {X : World} {v : Value} {l : List ByteArray} {k : Option Nat} (h : RS X v l k) : ∃ a c, v = .slice a l.length c := by
  rcases RA.val h with ⟨e, e2, _⟩ | ⟨g, off, cap, e, _⟩
  · exact ⟨none, 0, by rw [e, e2]⟩
  · exact ⟨_, _, e⟩
end Go.Proofs.Ythifdfjpfmhcpaa
