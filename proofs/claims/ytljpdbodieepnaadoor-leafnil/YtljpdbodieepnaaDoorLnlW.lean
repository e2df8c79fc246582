/- LeafNil: the walk. -/
import Derived.Test.YtljpdbodieepnaaDoorLej
namespace Go.Proofs.YtljpdbodieepnaaDoor
open Go.ChangeShapes Go.WideShapes Go.ChangeAt Go.RowKit
attribute [local go_sem] Oper.semAt_some

set_option maxRecDepth 100000 in
set_option maxHeartbeats 4000000 in
theorem LeafNil_any (n : Int) (w : World) (_hn : (Lit.int .i64 n).wf = true) (hW : Wt w) :
    Calls Tryd.prog 8 #[.int .i64 n] w fun e w' => e = .returned (.bool true) ∧ Below w.heap.size w w' := by
  clear _hn
  go_enter Tryd.func8, Tryd.ntmps8
  go_wp2_with fail
  refine (fixed8_at w hW).mono ?_
  rintro e w1 ⟨rfl, b1⟩
  go_wp2_with fail
  have hb := BeforeN_at n w1
  unfold z6 at hb
  refine hb.mono ?_
  rintro e w2 ⟨rfl, x2⟩
  have b2 := b1.trans (x2.mono b1.size)
  clear hb x2 b1
  dsimp only
  have x3 : Below w2.heap.size w2 (w2.alloc (.cells #[.int .i64 0, .int .i64 0, .int .i64 0, .int .i64 0, .string ⟨#[]⟩, .string ⟨#[]⟩] 40)) := (Below.refl _ _).alloc (Nat.le_refl _) _
  have g3 := push_get w2 (.cells #[.int .i64 0, .int .i64 0, .int .i64 0, .int .i64 0, .string ⟨#[]⟩, .string ⟨#[]⟩] 40)
  have z3 : w2.heap.size < (w2.alloc (.cells #[.int .i64 0, .int .i64 0, .int .i64 0, .int .i64 0, .string ⟨#[]⟩, .string ⟨#[]⟩] 40)).heap.size := by simp
  go_wp2_with fail
  have b3 := b2.trans (x3.mono b2.size)
  clear x3 b2
  generalize w2.alloc (.cells #[.int .i64 0, .int .i64 0, .int .i64 0, .int .i64 0, .string ⟨#[]⟩, .string ⟨#[]⟩] 40) = w3 at *
  generalize w2.heap.size = gw at *
  refine (SplitN_at n w3).mono ?_
  rintro e w4 ⟨rfl, rfl⟩
  dsimp only
  go_wp2_with fail
  refine (BytesN_at w4).mono ?_
  rintro e w5 ⟨rfl, rfl⟩
  dsimp only
  go_wp2_with fail
  refine (LenN_at w5).mono ?_
  rintro e w6 ⟨rfl, rfl⟩
  dsimp only
  go_wp2_with fail
  have hw := WeldN_at w6 (hW.below b3)
  unfold z6 at hw
  refine hw.mono ?_
  rintro e w7 ⟨rfl, x7⟩
  have b7 := b3.trans (x7.mono b3.size)
  have g7 : w7.heap[gw]? = _ := (x7.block gw z3).trans g3
  have z7 := Nat.lt_of_lt_of_le z3 x7.size
  clear hw x7 b3 g3 z3
  dsimp only
  go_wp2_with fail
  have hOf := Of_at none 0 [] w7 ⟨⟨Nat.le_refl _, by simp, Or.inl rfl, by simp⟩, fun _ => rfl⟩ (by simp) (hW.below b7)
  rw [show weV (ofL []) = .agg #[.int .i64 0, .int .i64 0, .int .i64 0, .int .i64 0, .string ⟨#[]⟩, .string ⟨#[]⟩] by rfl, show ([] : List Int).length = 0 from rfl] at hOf
  refine hOf.mono ?_
  rintro e w8 ⟨rfl, x8⟩
  have b8 := b7.trans (x8.mono b7.size)
  have g8 : w8.heap[gw]? = _ := (x8.block gw z7).trans g7
  obtain ⟨e0', e1, e2, e3, e4, e5, _⟩ := cells6 g8
  clear hOf x8 b7 g7 z7 g8
  dsimp only
  go_wp2_with fail
  go_ret
  exact ⟨rfl, b8⟩

end Go.Proofs.YtljpdbodieepnaaDoor
