/- Layer 6: galleyref01.SameInts of equal numbers, and wakes: true wherever the table holds the classes. -/
import Derived.Test.YtnkeohiibninfabDoorRuv
import Derived.Lib.SlBytesConst
namespace Go.Proofs.YtnkeohiibninfabDoor
open Go.ChangeShapes Go.WideShapes Go.ChangeAt Go.RowKit

def LiesI (w : World) (g : Nat) (ps : List Nat) : Prop := ∀ k, k < ps.length → w.cell? ⟨g, k, none⟩ = some (.int .i64 (ps.getD k 0 : Nat))
theorem LiesI.below {w w' : World} {B g : Nat} {ps : List Nat} (h : LiesI w g ps) (hb : Below B w w') (hg : g < B) : LiesI w' g ps := fun k hk => (hb.cell (p := ⟨g, k, none⟩) hg).trans (h k hk)
theorem rowI {W : World} {B : Nat} {v : Value} {ps : List Nat} (h : W.ownsRow B 3 1 v ps.length (ps.map fun (n : Nat) => Value.int .i64 (n : Int))) (h0 : ps ≠ []) : ∃ g c, v = .slice (some ⟨g, 0, none⟩) ps.length c ∧ LiesI W g ps ∧ g < W.heap.size := by
  have hc := h
  rcases h.2 with ⟨rfl, hz⟩ | ⟨g, cap, cur, rfl, _, hg, hle, _⟩
  · exact absurd (List.length_eq_zero_iff.1 hz) h0
  · refine ⟨g, cap, rfl, fun k hk => ?_, heap_lt hg⟩
    have := World.ownsRow.cells hc rfl k (.int .i64 (ps.getD k 0 : Nat)) (by simp [List.getElem?_eq_getElem hk, List.getD])
    rwa [Addr.add_lit, Nat.zero_add] at this
theorem intsE_map (r : Int) (E : List Ed) : intsE r E = (E.map (byE r)).map fun (n : Nat) => Value.int .i64 (n : Int) := by simp [intsE]

set_option maxHeartbeats 400000 in
theorem SameI_some (g g' c c' : Nat) (ps : List Nat) (w : World) (h : LiesI w g ps) (h' : LiesI w g' ps) (hm : ps.length ≤ maxLen) :
    Calls Tryd.prog 22 #[.slice (some ⟨g, 0, none⟩) ps.length c, .slice (some ⟨g', 0, none⟩) ps.length c'] w fun e w' => e = .returned (.bool true) ∧ ∃ n, w' = w.drewN n := by
  unfold maxLen at hm
  generalize hn : ps.length = m at *
  have HN := hide hn
  go_enter Tryd.func22, Tryd.ntmps22
  go_wp2
  go_loopw [5] (fun i wx => ∃ k n : Nat, k ≤ m ∧ i = .int .i64 k ∧ wx = w.drewN n) (fun i _ => m - (intOf i).toNat)
  case atStart => exact ⟨0, 0, Nat.zero_le _, rfl, rfl⟩
  case round =>
    obtain ⟨k, n, hk, rfl, rfl⟩ := hrel
    by_cases hlt : k < m
    · have c1 : w.cell? ⟨g, k, none⟩ = _ := h k (by rw [unhide HN]; exact hlt)
      have c2 : w.cell? ⟨g', k, none⟩ = _ := h' k (by rw [unhide HN]; exact hlt)
      generalize ps.getD k 0 = x at *
      go_wp2
      go_quiet (fail)
      go_wp2
      go_roundw
      case rel => exact ⟨k + 1, n + _, by omega, by go_num, by simp [World.drewN]; rfl⟩
      case measure => simp [intOf]; omega
    · go_wp2
      go_ret
      exact ⟨rfl, n, rfl⟩

def litR : List Int := [97, 240, 159, 152, 128, 226, 130, 10]
theorem litR_in : ∀ x ∈ litR, 0 ≤ x ∧ x ≤ 255 := by decide
theorem litR_E : EE litR = [(0, 0, 0), (1, 1, 1), (5, 2, 3), (6, 3, 4), (7, 4, 5), (8, 5, 6)] := by decide
theorem litR_sz : szE 3 litR = 6 := by decide
theorem litR_to : toP 1 3 3 2 (EE litR) = 3 ∧ toR 1 3 3 2 (EE litR) = 0 := by rw [litR_E]; decide
theorem litR_ex : toR 1 3 3 3 (EE litR) = 4 := by rw [litR_E]; decide
theorem litR_tb : (EE litR).map (byE 3) = [0, 1, 3, 4, 5, 6] := by rw [litR_E]; decide
theorem litR_cu : cuR 3 2 4 1 (EE litR) = 0 := by rw [litR_E]; decide
theorem litR_cl : cuL 3 2 4 1 litR = [240, 159, 152, 128, 226] := by unfold cuL; rw [litR_cu, litR_E]; decide
theorem litR_eg : isEg 1 6 (EE litR) = true ∧ isEg 1 4 (EE litR) = false := by rw [litR_E]; decide
theorem litR_str : strOfNums [240, 159, 152, 128, 226] = ⟨#[240, 159, 152, 128, 226]⟩ := by decide

set_option maxRecDepth 100000 in
set_option maxHeartbeats 2000000 in
theorem wakes6_any (w : World) (hT : Tab w) :
    Calls Tryd.prog 9 #[] w fun e w' => e = .returned (.bool true) ∧ Below w.heap.size w w' := by
  have kc := fun (w : World) (C : Array Value) (n c : Nat) => Lib.run_convert_bytes_const (P := Tryd.prog) w 22 5 C n c Tryd.underlying22 Tryd.underlying5
  go_enter Tryd.func9, Tryd.ntmps9
  go_wp2_with fail
  have d1 := (Below.refl w.heap.size w).alloc (Nat.le_refl _) (.cells (litR.map (Value.int .u8)).toArray 5 (8, 9))
  have i1 : IsB (w.alloc (.cells (litR.map (Value.int .u8)).toArray 5 (8, 9))) (some ⟨w.heap.size, 0, none⟩) 8 litR := ⟨by decide, by decide, Or.inr ⟨_, 0, rfl, lies_new w litR (8, 9) litR_in⟩, litR_in⟩
  have t1 := hT.below d1 hT.size
  rw [show (litR.map (Value.int .u8)).toArray = #[.int .u8 97, .int .u8 240, .int .u8 159, .int .u8 152, .int .u8 128, .int .u8 226, .int .u8 130, .int .u8 10] from rfl] at d1 i1 t1
  generalize w.alloc (.cells #[.int .u8 97, .int .u8 240, .int .u8 159, .int .u8 152, .int .u8 128, .int .u8 226, .int .u8 130, .int .u8 10] 5 (8, 9)) = w1 at *
  generalize hg0 : w.heap.size = g0 at *
  have HG0 := hide hg0
  clear kc hT hg0
  refine (Size_at (some ⟨g0, 0, none⟩) 8 litR 3 w1 i1 t1).mono ?_
  rw [litR_sz, show szR 3 = 0 from rfl]
  rintro e w2 ⟨rfl, x2⟩
  have i2 := i1.below x2 (Nat.le_refl _)
  have t2 := t1.below x2 t1.size
  have b2 := d1.trans (x2.mono (by have := d1.size; rw [← unhide HG0]; exact this))
  clear i1 t1 x2
  go_wp2_with fail
  refine (To_at (some ⟨g0, 0, none⟩) 8 litR 1 3 3 2 w2 i2 t2).mono ?_
  rw [litR_to.1, litR_to.2]
  rintro e w3 ⟨rfl, x3⟩
  have i3 := i2.below x3 (Nat.le_refl _)
  have t3 := t2.below x3 t2.size
  have b3 := b2.trans (x3.mono (by have := b2.size; rw [← unhide HG0]; exact this))
  clear i2 t2 x3 b2
  go_wp2_with fail
  refine (To_at (some ⟨g0, 0, none⟩) 8 litR 1 3 3 3 w3 i3 t3).mono ?_
  rw [litR_ex]
  rintro e w4 ⟨rfl, x4⟩
  have i4 := i3.below x4 (Nat.le_refl _)
  have t4 := t3.below x4 t3.size
  have b4 := b3.trans (x4.mono (by have := b3.size; rw [← unhide HG0]; exact this))
  clear i3 t3 x4 b3
  generalize toP 1 3 3 3 (EE litR) = pq at *
  go_wp2_with fail
  refine (Table_in (some ⟨g0, 0, none⟩) 8 litR 3 w4 i4 t4 (by decide) (by decide)).mono ?_
  rintro e w5 ⟨v, rfl, o5, x5⟩
  rw [intsE_map, litR_tb, show (EE litR).length = 6 by rw [litR_E]; rfl] at o5
  obtain ⟨g5, c5, rfl, l5, z5⟩ := rowI (ps := [0, 1, 3, 4, 5, 6]) o5 (by decide)
  have i5 := i4.below x5 (Nat.le_refl _)
  have t5 := t4.below x5 t4.size
  have b5 := b4.trans (x5.mono (by have := b4.size; rw [← unhide HG0]; exact this))
  rw [show ([0, 1, 3, 4, 5, 6] : List Nat).length = 6 from rfl]
  clear i4 t4 x5 b4 o5
  go_wp2_with fail
  refine (Cut_at (some ⟨g0, 0, none⟩) 8 litR 3 2 4 1 w5 i5 t5).mono ?_
  rw [litR_cu, litR_cl]
  rintro e w6 ⟨a6, c6, rfl, j6, x6⟩
  rw [show ([240, 159, 152, 128, 226] : List Int).length = 5 from rfl]
  have i6 := i5.below x6 (Nat.le_refl _)
  have t6 := t5.below x6 t5.size
  have l6 := l5.below x6 z5
  have b6 := b5.trans (x6.mono (by have := b5.size; rw [← unhide HG0]; exact this))
  have z6 : g5 < w6.heap.size := Nat.lt_of_lt_of_le z5 x6.size
  clear i5 t5 x6 b5 l5 z5
  have d7 := (Below.refl w6.heap.size w6).alloc (Nat.le_refl _) (.cells #[.int .i64 0, .int .i64 1, .int .i64 3, .int .i64 4, .int .i64 5, .int .i64 6] 3)
  have k7 := Cls.new w6 3 #[.int .i64 0, .int .i64 1, .int .i64 3, .int .i64 4, .int .i64 5, .int .i64 6]
  have l7' : LiesI (w6.alloc (.cells #[.int .i64 0, .int .i64 1, .int .i64 3, .int .i64 4, .int .i64 5, .int .i64 6] 3)) w6.heap.size [0, 1, 3, 4, 5, 6] := fun k hk => by
    rw [k7.cell k]
    match k, hk with
    | 0, _ => rfl
    | 1, _ => rfl
    | 2, _ => rfl
    | 3, _ => rfl
    | 4, _ => rfl
    | 5, _ => rfl
  have i7 := i6.below d7 (Nat.le_refl _)
  have t7 := t6.below d7 t6.size
  have l7 := l6.below d7 z6
  have j7 := j6.below d7 (Nat.le_refl _)
  have b7 := b6.trans (d7.mono (by have := b6.size; rw [← unhide HG0]; exact this))
  clear k7 i6 t6 l6 b6 d7 j6
  go_wp2_with fail
  generalize w6.alloc (.cells #[.int .i64 0, .int .i64 1, .int .i64 3, .int .i64 4, .int .i64 5, .int .i64 6] 3) = w7 at *
  generalize w6.heap.size = g6 at *
  have hsi := SameI_some g5 g6 c5 6 [0, 1, 3, 4, 5, 6] w7 l7 l7' (by decide)
  rw [show ([0, 1, 3, 4, 5, 6] : List Nat).length = 6 from rfl] at hsi
  refine hsi.mono ?_
  rintro e w8 ⟨rfl, h8⟩
  have x8 : Below w7.heap.size w7 w8 := quiet_below h8 _
  have i8 := i7.below x8 (Nat.le_refl _)
  have t8 := t7.below x8 t7.size
  have j8 := j7.below x8 (Nat.le_refl _)
  have b8 := b7.trans (x8.mono (by have := b7.size; rw [← unhide HG0]; exact this))
  have k8 := str_bs w8 _ c6 [240, 159, 152, 128, 226] j8.2.2.1
  rw [litR_str, show ([240, 159, 152, 128, 226] : List Int).length = 5 from rfl] at k8
  clear i7 t7 l7 l7' j7 x8 b7 h8 hsi
  go_wp2_with fail
  refine (EdgeR_at (some ⟨g0, 0, none⟩) 8 litR 1 6 w8 i8 t8).mono ?_
  rw [litR_eg.1]
  rintro e w9 ⟨rfl, x9⟩
  have i9 := i8.below x9 (Nat.le_refl _)
  have t9 := t8.below x9 t8.size
  have b9 := b8.trans (x9.mono (by have := b8.size; rw [← unhide HG0]; exact this))
  clear i8 t8 x9 b8 k8 j8
  go_wp2_with fail
  refine (EdgeR_at (some ⟨g0, 0, none⟩) 8 litR 1 4 w9 i9 t9).mono ?_
  rw [litR_eg.2]
  rintro e w10 ⟨rfl, x10⟩
  have b10 := b9.trans (x10.mono (by have := b9.size; rw [← unhide HG0]; exact this))
  go_wp2_with fail
  go_ret
  exact ⟨rfl, by rw [unhide HG0]; exact b10⟩

end Go.Proofs.YtnkeohiibninfabDoor
