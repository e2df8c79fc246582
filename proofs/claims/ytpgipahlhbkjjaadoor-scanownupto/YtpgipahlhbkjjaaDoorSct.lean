/- What is broken off: End. -/
import Derived.Test.YtpgipahlhbkjjaaDoorScm
import Derived.Test.YtpgipahlhbkjjaaDoorPst
namespace Go.Proofs.YtpgipahlhbkjjaaDoor
open Go.ChangeShapes Go.WideShapes Go.ChangeAt Go.RowKit

/-- steps: rune, width, whole -/
abbrev Tri := Int × Nat × Bool
def tc (t : Tri) : List Value := [.int .i32 t.1, .int .i64 t.2.1, .bool t.2.2]
def tcs (ts : List Tri) : List Value := ts.flatMap tc
def badT : Tri := (65533, 1, false)
def RT (B : Nat) (v : Value) (ts : List Tri) (W : World) : Prop := W.ownsRow B 42 3 v ts.length (tcs ts)
theorem RT.nil (B : Nat) (W : World) : RT B (.slice none 0 0) [] W := World.ownsRow_nil _ _ _ _
theorem RT.below {B : Nat} {v : Value} {ts : List Tri} {W W' : World} (h : RT B v ts W) (hb : Below W.heap.size W W') : RT B v ts W' := own_bl h hb
theorem RT.push {B : Nat} {v : Value} {ts : List Tri} {W : World} (h : RT B v ts W) (r : Int) (n : Nat) (b : Bool) (hn : ts.length ≤ 4194304) (hB : B ≤ W.heap.size) :
    ∃ g k W', (Builtin.append_ #[30, 30] 30 #[v, .slice (some ⟨W.heap.size, 0, none⟩) 1 1]).run Tryd.prog (W.alloc (.cells #[.int .i32 r, .int .i64 (n : Int), .bool b] 42)) = .ok (.slice (some ⟨g, 0, none⟩) (ts.length + 1) k) W' ∧
      RT B (.slice (some ⟨g, 0, none⟩) (ts.length + 1) k) (ts ++ [(r, n, b)]) W' ∧ Below B W W' := by
  obtain ⟨g, k, W', h1, h2, h3⟩ := push_st W B ts.length v (tcs ts) (.int .i32 r) (.int .i64 (n : Int)) (.bool b) 30 h hn hB rfl rfl rfl
  exact ⟨g, k, W', h1, by simpa [RT, tcs, tc] using h2, h3⟩

theorem RT.pushb {B : Nat} {v : Value} {ts : List Tri} {W : World} (h : RT B v ts W) (hn : ts.length ≤ 4194304) (hB : B ≤ W.heap.size) :
    ∃ g k W', (Builtin.append_ #[30, 30] 30 #[v, .slice (some ⟨W.heap.size, 0, none⟩) 1 1]).run Tryd.prog (W.alloc (.cells #[.int .i32 65533, .int .i64 1, .bool false] 42)) = .ok (.slice (some ⟨g, 0, none⟩) (ts.length + 1) k) W' ∧
      RT B (.slice (some ⟨g, 0, none⟩) (ts.length + 1) k) (ts ++ [badT]) W' ∧ Below B W W' := h.push 65533 1 false hn hB
theorem RT.same {B : Nat} {v : Value} {ts : List Tri} {W W' : World} (h : RT B v ts W) (hb : ∀ k, B ≤ k → k < W.heap.size → W'.heap[k]? = W.heap[k]?) : RT B v ts W' := by
  refine ⟨h.1, ?_⟩
  rcases h.2 with hn | ⟨g, cap, cur, rfl, hB, hgg, rest⟩
  · exact .inl hn
  · exact .inr ⟨g, cap, cur, rfl, hB, (hb g hB (Array.getElem?_eq_some_iff.1 hgg).1).trans hgg, rest⟩
theorem own_set {B g o : Nat} {v x : Value} {ts : List Tri} {W : World} (h : RT B v ts W) (hg : g < B) : RT B v ts (W.setCell ⟨g, o, none⟩ x) := h.same fun k hk _ => by
  simp only [World.setCell]
  rw [Array.getElem?_modify, if_neg (by show ¬ g = k; omega)]

set_option maxHeartbeats 1000000 in
theorem breakOff_at (g B : Nat) (h : List Int) (fed : Int) (v : Value) (ts : List Tri) (w : World) (hS : Sca w g h fed) (hR : RT B v ts w) (hB : B ≤ w.heap.size) (hgB : g < B) (hn : ts.length ≤ 4194000) :
    Calls Tryd.prog 17 #[.pointer (some ⟨g, 0, none⟩), v] w fun e w' => ∃ v', e = .returned v' ∧ RT B v' (ts ++ List.replicate h.length badT) w' ∧ Sca w' g [] fed ∧ Scf B g w w' := by
  have hle := hS.2.1
  have hc := hS.2.2.2.2.2.1
  have HS := hide hS
  clear hS
  generalize hm : h.length = m at *
  have HM := hide hm
  clear hm
  go_enter Tryd.func17, Tryd.ntmps17
  go_wp2_with fail
  go_loopw [1, 9] (fun u i wx => ∃ (k : Nat), k ≤ m ∧ i = .int .i64 k ∧ Hid (RT B u (ts ++ List.replicate k badT) wx) ∧ Below B w wx) (fun _ i _ => m - (intOf i).toNat)
  case atStart => exact ⟨0, Nat.zero_le _, rfl, by simpa using hide hR, Below.refl _ _⟩
  case round =>
    obtain ⟨k, hk, rfl, ho, hb⟩ := hrel
    by_cases hlt : k < m
    · go_wp2_with fail
      refine (sbad_any _).mono ?_
      unfold stepV
      rintro e w2 ⟨rfl, x2⟩
      have hb2 := hb.trans (x2.mono (Nat.le_trans hB hb.size))
      have hl2 : (ts ++ List.replicate k badT).length = ts.length + k := by simp
      obtain ⟨g3, c3, w3, r3, o3, x3⟩ := ((unhide ho).below x2).pushb (by rw [hl2]; omega) (Nat.le_trans hB hb2.size)
      have R3 := hide r3
      clear r3
      go_wp2_with (at_builtin; refine wpList_append_known rfl _ _ 30 30 rfl _ _ rfl rfl _ _ (unhide R3) ?_)
      go_roundw
      case rel => exact ⟨k + 1, by omega, by go_num, hide (by rw [List.replicate_succ', ← List.append_assoc, ← hl2]; exact o3), hb2.trans x3⟩
      case measure => simp [intOf]; omega
    · obtain rfl : k = m := by omega
      have hSx := (unhide HS).below hb hgB
      have hcx := hSx.2.2.2.2.2.1
      have hfx := hSx.2.2.2.1 3 (by omega)
      have HX := hide hSx
      clear hSx
      go_wp2_with fail
      go_ret
      refine ⟨_, rfl, ?_, (unhide HX).gone, (Scf.of hb).set _ _⟩
      exact own_set (unhide ho) hgB
theorem End_at (g : Nat) (h : List Int) (fed : Int) (w : World) (hS : Sca w g h fed) :
    Calls Tryd.prog 8 #[.pointer (some ⟨g, 0, none⟩)] w fun e w' => ∃ v', e = .returned v' ∧ RT w.heap.size v' (List.replicate h.length badT) w' ∧ Sca w' g [] fed ∧ Scf w.heap.size g w w' := by
  have hg := hS.1
  go_enter Tryd.func8, Tryd.ntmps8
  go_wp2_with fail
  refine (breakOff_at g w.heap.size h fed _ [] w hS (RT.nil _ _) (Nat.le_refl _) hg (by simp)).mono ?_
  rintro e w1 ⟨v1, rfl, h1, h2, h3⟩
  dsimp only
  go_wp2_with fail
  go_ret
  exact ⟨v1, rfl, by simpa using h1, h2, h3⟩
end Go.Proofs.YtpgipahlhbkjjaaDoor
