/- One step is appended to a list of the call's own. -/
import Derived.Test.YtpgipahlhbkjjaaDoorRwx
namespace Go.Proofs.YtpgipahlhbkjjaaDoor
open Go.ChangeShapes Go.WideShapes Go.ChangeAt Go.RowKit

theorem info_st : ∃ i, Tryd.prog.info? 42 = some i ∧ i.zero = some (.agg #[.int .i32 0, .int .i64 0, .bool false]) ∧ i.size = 3 ∧ i.bytes = 24 := by
  refine ⟨_, rfl, ?_, ?_, ?_⟩ <;> rfl
theorem three_nw (w : World) (a b c : Value) {t : TypeId} : (w.alloc (.cells #[a, b, c] t)).cell? ⟨w.heap.size, 0, none⟩ = some a ∧ (w.alloc (.cells #[a, b, c] t)).cell? ⟨w.heap.size, 1, none⟩ = some b ∧ (w.alloc (.cells #[a, b, c] t)).cell? ⟨w.heap.size, 2, none⟩ = some c := by
  refine ⟨?_, ?_, ?_⟩
  · exact (World.cell?_alloc_mark w #[a, b, c] t (0, 0) 0).trans rfl
  · exact (World.cell?_alloc_mark w #[a, b, c] t (0, 0) 1).trans rfl
  · exact (World.cell?_alloc_mark w #[a, b, c] t (0, 0) 2).trans rfl
theorem own_bl {W W' : World} {B e s n : Nat} {v : Value} {xs : List Value} (h : W.ownsRow B e s v n xs) (hb : Below W.heap.size W W') : W'.ownsRow B e s v n xs :=
  h.kept (row := none) ⟨hb.os, hb.tape, hb.output, hb.size, fun j hj _ => hb.block j hj⟩ (by cases hv : v.ownBlock <;> simp)
/-- one step is appended to a []api.Step of the call's own -/
theorem push_st (W : World) (B n : Nat) (v : Value) (xs : List Value) (a b c : Value) (ty : TypeId) (h : W.ownsRow B 42 3 v n xs) (hn : n ≤ 4194304) (hB : B ≤ W.heap.size) (ha : a.oneCell' = true) (hb : b.oneCell' = true) (hc : c.oneCell' = true) :
    ∃ g k W', (Builtin.append_ #[30, 30] ty #[v, .slice (some ⟨W.heap.size, 0, none⟩) 1 1]).run Tryd.prog (W.alloc (.cells #[a, b, c] 42)) = .ok (.slice (some ⟨g, 0, none⟩) (n + 1) k) W' ∧
      W'.ownsRow B 42 3 (.slice (some ⟨g, 0, none⟩) (n + 1) k) (n + 1) (xs ++ [a, b, c]) ∧ Below B W W' := by
  obtain ⟨i, hi, hz, hs, hby⟩ := info_st
  have hr := World.ownsRow.alloc h (.cells #[a, b, c] 42)
  obtain ⟨c0, c1, c2⟩ := three_nw W a b c (t := 42)
  obtain ⟨g, k, W', hrun, ho, hg, _, _⟩ := run_append_lies (P := Tryd.prog) (W.alloc (.cells #[a, b, c] 42)) 30 ty B 42 i (.agg #[.int .i32 0, .int .i64 0, .bool false]) 3 24 Tryd.underlying30 hi hz hs hby rfl (by decide)
    v n xs hr ⟨W.heap.size, 0, none⟩ 1 1 [a, b, c] rfl
    (fun j u hj => by
      match j with
      | 0 => simp at hj; subst hj; rw [Addr.add_lit]; exact c0
      | 1 => simp at hj; subst hj; rw [Addr.add_lit]; exact c1
      | 2 => simp at hj; subst hj; rw [Addr.add_lit]; exact c2
      | j + 3 => simp at hj)
    (fun u hu => by simp at hu; rcases hu with rfl | rfl | rfl <;> assumption) (by decide) (by unfold maxLen; omega) (by omega) (by simp; omega) _ rfl
  exact ⟨g, k, W', hrun, ho, ((Below.refl B W).alloc hB _).grown hg (by simp; omega) (fun k hk => (hr.lt k hk).1)⟩

end Go.Proofs.YtpgipahlhbkjjaaDoor
