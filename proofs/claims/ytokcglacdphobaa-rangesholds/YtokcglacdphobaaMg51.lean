/- Layer 16, plain: what RangesHolds' loop over the operations keeps. -/
import Derived.Test.YtokcglacdphobaaMg49

namespace Go.Proofs.Ytokcglacdphobaa

theorem drop_at {d : List Dop} {k : Nat} (hk : k < d.length) : d.drop k = d.getD k opZ :: d.drop (k + 1) := by
  rw [List.drop_eq_getElem_cons hk]
  simp [List.getD_eq_getElem?_getD, List.getElem?_eq_getElem hk]
theorem lft_le : ∀ (u : List Atm) (x : Nat), lftA u x ≤ u.length
  | [], _ => by simp [lftA]
  | .k :: _, 0 => by simp [lftA]
  | .k :: u, x + 1 => by have := lft_le u x; simp only [lftA, List.length_cons]; omega
  | .d :: _, 0 => by simp [lftA]
  | .d :: u, x + 1 => by have := lft_le u x; simp only [lftA, List.length_cons]; omega
  | .p _ :: u, x => by have := lft_le u x; simp only [lftA, List.length_cons]; split <;> omega
theorem rgt_le : ∀ (u : List Atm) (x : Nat), rgtA u x ≤ u.length
  | [], _ => by simp [rgtA]
  | .k :: _, 0 => by simp [rgtA]
  | .k :: u, x + 1 => by have := rgt_le u x; simp only [rgtA, List.length_cons]; omega
  | .d :: u, 0 => by have := rgt_le u 0; simp only [rgtA, List.length_cons]; omega
  | .d :: u, x + 1 => by have := rgt_le u x; simp only [rgtA, List.length_cons]; omega
  | .p _ :: u, x => by have := rgt_le u x; simp only [rgtA, List.length_cons]; omega
theorem dA_small : ∀ d : List Dop, (∀ o ∈ d, o.k = 1 ∨ o.k = 2 ∨ o.k = 3) → (dA d).length ≤ frD d + toD d
  | [], _ => by simp [dA]
  | o :: d, h => by
    have ih := dA_small d fun x hx => h x (List.mem_cons_of_mem _ hx)
    have ho := h o List.mem_cons_self
    rw [dA_cons, List.length_append, frD_cons, show toD (o :: d) = toN o + toD d by simp [toD]]
    have : (opA o).length ≤ frN o + toN o := by
      unfold opA frN toN
      rcases ho with h1 | h1 | h1 <;> simp [h1]
    omega
/-- where a place comes to stand is small -/
theorem pl_small {d : List Dop} {p g : Int} (hv : valB d = true) (hp : 0 ≤ p ∧ p ≤ frD d) (hg : g = 1 ∨ g = 2) : 0 ≤ plV d p g ∧ plV d p g ≤ 536870912 := by
  have hz := (pl_zero hv hp hg).2
  obtain ⟨x, rfl⟩ : ∃ x : Nat, p = (x : Int) := ⟨p.toNat, by omega⟩
  have ha := pl_atoms (x := x) hv (by omega)
  have hl := dA_small d (valB_k hv)
  have hn := (valB_nn hv).2
  have h1 := lft_le (dA d) x
  have h2 := rgt_le (dA d) x
  rcases hg with rfl | rfl
  · rw [hz, ha.1]; omega
  · rw [hz, ha.2]; omega
/-- behind k operations: K bytes of [lo, hi) were kept, T old bytes lie behind, F is the first kept or -1 -/
structure KpI (d : List Dop) (lo hi k : Nat) (K T F : Int) : Prop where
  t : T + frD (d.drop k) = frD d
  t0 : 0 ≤ T
  k0 : 0 ≤ K
  e : K + kpA (dA (d.drop k)) (lo - T.toNat) (hi - T.toNat) = kpA (dA d) lo hi
  f : (F = -1 ∧ K = 0) ∨ (0 ≤ F ∧ 0 < K)
namespace KpI
variable {d : List Dop} {lo hi k : Nat} {K T F : Int}
theorem start (d : List Dop) (lo hi : Nat) : KpI d lo hi 0 0 0 (-1) := ⟨by simp, by omega, by omega, by simp, .inl ⟨rfl, rfl⟩⟩
theorem done (h : KpI d lo hi d.length K T F) : K = kpA (dA d) lo hi := by
  have := h.e
  simp [dA, kpA] at this
  simpa [dA] using this
theorem put (h : KpI d lo hi k K T F) (hk : k < d.length) (ho : (d.getD k opZ).k = 2) : KpI d lo hi (k + 1) K T F := by
  obtain ⟨a, b, c, e, f⟩ := h
  rw [drop_at hk] at a e
  generalize d.getD k opZ = o at *
  rw [frD_cons, show frN o = 0 by simp [frN, ho]] at a
  rw [dA_cons, show opA o = o.t.map .p by simp [opA, ho], kpA_p] at e
  exact ⟨by omega, b, c, e, f⟩
theorem del (h : KpI d lo hi k K T F) (hk : k < d.length) (ho : (d.getD k opZ).k = 3) (hn : 1 ≤ (d.getD k opZ).n) : KpI d lo hi (k + 1) K (T + (d.getD k opZ).n) F := by
  obtain ⟨a, b, c, e, f⟩ := h
  rw [drop_at hk] at a e
  generalize d.getD k opZ = o at *
  rw [frD_cons, show frN o = o.n.toNat by simp [frN, ho]] at a
  rw [dA_cons, show opA o = List.replicate o.n.toNat .d by simp [opA, ho], kpA_d] at e
  generalize o.n = m at *
  rw [show lo - T.toNat - m.toNat = lo - (T + m).toNat by omega, show hi - T.toNat - m.toNat = hi - (T + m).toNat by omega] at e
  exact ⟨by omega, by omega, c, e, f⟩
theorem keep (h : KpI d lo hi k K T F) (hk : k < d.length) (ho : (d.getD k opZ).k = 1) (hn : 1 ≤ (d.getD k opZ).n) (hl : lo ≤ hi) :
    (max T lo < min (T + (d.getD k opZ).n) hi → KpI d lo hi (k + 1) (K + (min (T + (d.getD k opZ).n) hi - max T lo)) (T + (d.getD k opZ).n) (if F < 0 then max T lo else F)) ∧
    (¬ max T (lo : Int) < min (T + (d.getD k opZ).n) hi → KpI d lo hi (k + 1) K (T + (d.getD k opZ).n) F) := by
  obtain ⟨a, b, c, e, f⟩ := h
  rw [drop_at hk] at a e
  generalize d.getD k opZ = o at *
  rw [frD_cons, show frN o = o.n.toNat by simp [frN, ho]] at a
  rw [dA_cons, show opA o = List.replicate o.n.toNat .k by simp [opA, ho], kpA_k _ _ _ _ (by omega)] at e
  generalize o.n = m at *
  rw [show lo - T.toNat - m.toNat = lo - (T + m).toNat by omega, show hi - T.toNat - m.toNat = hi - (T + m).toNat by omega] at e
  refine ⟨fun h1 => ⟨by omega, by omega, by omega, by omega, .inr ⟨?_, by omega⟩⟩, fun h1 => ⟨by omega, by omega, c, by omega, f⟩⟩
  split <;> omega
end KpI
end Go.Proofs.Ytokcglacdphobaa
