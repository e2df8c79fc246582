/- LeafNames: the walk. -/
import Derived.Test.YtljpdbodieepnaaDoorLej
import Derived.Test.YtljpdbodieepnaaDoorOwnR
import Derived.Laws.OwnMore
namespace Go.Proofs.YtljpdbodieepnaaDoor
open Go.ChangeShapes Go.WideShapes Go.ChangeAt Go.RowKit
attribute [local go_sem] Oper.semAt_some

theorem made_u8 (n : Nat) : (madeCells (Value.int .u8 0).cells (n * 1)).toList = (List.replicate n (0 : Int)).map (Value.int .u8) := by
  apply List.ext_getElem?
  intro i
  simp only [madeCells, Nat.mul_one, Array.toList_map, Array.toList_range, List.getElem?_map, List.map_replicate]
  rcases Nat.lt_or_ge i n with h | h
  · rw [List.getElem?_range h, List.getElem?_replicate, if_pos h]
    simp [Value.cells]
    simp [Nat.mod_one]
  · rw [List.getElem?_eq_none (by simpa using h), List.getElem?_replicate, if_neg (by omega)]
    rfl
theorem make_u8s (w : World) (n : Nat) (hn : n ≤ 5000) : ∃ w', (Instr.makeSlice 26 (.int .i64 (n : Int)) (.int .i64 (n : Int))).run Tryd.prog w = .ok (.slice (some ⟨w.heap.size, 0, none⟩) n n) w' ∧
    IsN w' (some ⟨w.heap.size, 0, none⟩) n (List.replicate n 0) ∧ Below w.heap.size w w' := by
  obtain ⟨i, hi, hz, hs, hby⟩ := info_u8
  obtain ⟨w', h1, h2, h3⟩ := run_make_full (P := Tryd.prog) w w.heap.size 26 5 i _ 1 Tryd.underlying26 hi hz hs .i64 .i64 n (by rw [hby]; omega) (by unfold maxLen; omega) (Nat.le_refl _)
  rw [made_u8] at h2
  have ho : Own w' w.heap.size (.slice (some ⟨w.heap.size, 0, none⟩) n n) (List.replicate n 0) := by unfold Own; rw [List.length_replicate]; exact h2
  have hin : ∀ x ∈ List.replicate n (0 : Int), 0 ≤ x ∧ x ≤ 255 := fun x hx => by rw [List.eq_of_mem_replicate hx]; decide
  exact ⟨w', h1, ⟨⟨by simp, by simp; omega, Or.inr ⟨_, 0, rfl, ho.lies hin⟩, hin⟩, fun e => by cases e⟩, (Below.refl _ w).grown h3 (Nat.le_refl _) (fun k e => by cases e)⟩
set_option maxRecDepth 100000 in
theorem CutNo_at (a0 : Option Addr) (len cap : Nat) (m : Int) (w : World) (h : m < 1 ∨ 4096 < m) :
    Calls Tryd.prog 10 #[.slice a0 len cap, .int .i64 m] w fun y w' => y = .returned (.tuple #[.slice none 0 0, .int .i64 80]) ∧ w' = w := by
  go_enter Tryd.func10, Tryd.ntmps10
  by_cases h1 : m < 1
  · have t1 : decide (m < 1) = true := decide_eq_true h1
    clear h
    go_wp2_with fail
    refine bodyPost_ret (results_tmp2 rfl _ _ _) rfl ?_
    exact ⟨rfl, rfl⟩
  · have t1 : decide (m < 1) = false := decide_eq_false h1
    have t2 : decide (m > 4096) = true := decide_eq_true (by omega)
    have t3 : decide (4096 < m) = true := decide_eq_true (by omega)
    clear h h1
    go_wp2_with fail
    refine bodyPost_ret (results_tmp2 rfl _ _ _) rfl ?_
    exact ⟨rfl, rfl⟩
set_option maxRecDepth 100000 in
set_option maxHeartbeats 4000000 in
theorem LeafNames_any (w : World) (hW : Wt w) :
    Calls Tryd.prog 3 #[] w fun e w' => e = .returned (.bool true) ∧ Below w.heap.size w w' := by
  obtain ⟨w1, r1, _, b1⟩ := make_u8s w 4097 (by decide)
  rw [show ((4097 : Nat) : Int) = 4097 from rfl] at r1
  go_enter Tryd.func3, Tryd.ntmps3
  go_wp2_with fail
  clear r1
  refine (NewLong_at (some ⟨w.heap.size, 0, none⟩) 4097 4097 w1 (by decide)).mono ?_
  rintro e w1' ⟨rfl, rfl⟩
  dsimp only
  obtain ⟨w2, r2, n2, x2⟩ := make_u8s w1' 4096 (by decide)
  rw [show ((4096 : Nat) : Int) = 4096 from rfl] at r2
  have N2 := hide n2
  clear n2
  go_wp2_with fail
  clear r2
  have b2 := b1.trans (x2.mono b1.size)
  have hNew := New_at (some ⟨w1'.heap.size, 0, none⟩) 4096 (List.replicate 4096 0) w2 (unhide N2) (hW.below b2) (by rw [List.length_replicate]; decide)
  rw [List.length_replicate] at hNew
  refine hNew.mono ?_
  rintro e w3 ⟨g, rfl, _, _, x3⟩
  have b3 := b2.trans (x3.mono b2.size)
  clear hNew x3 x2 b1 b2 N2
  dsimp only
  go_wp2_with fail
  refine (CutNo_at none 0 0 0 w3 (Or.inl (by decide))).mono ?_
  rintro e w4 ⟨rfl, rfl⟩
  dsimp only
  go_wp2_with fail
  refine (CutNo_at none 0 0 4097 w4 (Or.inr (by decide))).mono ?_
  rintro e w5 ⟨rfl, rfl⟩
  dsimp only
  go_wp2_with fail
  have hC := Cut_at none 0 [] 4096 w5 ⟨⟨Nat.le_refl _, by simp, Or.inl rfl, by simp⟩, fun _ => rfl⟩ (hW.below b3) (by decide) (by decide) (by simp)
  rw [show ([] : List Int).length = 0 from rfl, show ((4096 : Nat) : Int) = 4096 from rfl, show pcs [] 4096 = [] from rfl] at hC
  refine hC.mono ?_
  rintro e w6 ⟨v, gs, rfl, o6, l6, x6⟩
  obtain rfl : gs = [] := List.length_eq_zero_iff.1 l6.1
  obtain ⟨a6, c6, rfl⟩ : ∃ a c, v = .slice a 0 c := by
    rcases o6.2 with ⟨rfl, _⟩ | ⟨g', c, cur, rfl, _⟩
    · exact ⟨none, 0, rfl⟩
    · exact ⟨_, c, rfl⟩
  have b6 := b3.trans (x6.mono b3.size)
  clear hC o6 l6 x6 b3
  dsimp only
  go_wp2_with fail
  refine (fixed8_at w6 (hW.below b6)).mono ?_
  rintro e w7 ⟨rfl, x7⟩
  have b7 := b6.trans (x7.mono b6.size)
  clear x7 b6
  dsimp only
  go_wp2_with fail
  go_ret
  exact ⟨rfl, b7⟩

end Go.Proofs.YtljpdbodieepnaaDoor
