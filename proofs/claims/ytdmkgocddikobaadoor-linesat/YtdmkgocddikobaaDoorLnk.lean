/- Layer 7: the law's own, Large and awake: true wherever the table holds the classes (LiesI .. SameI_some taken from Rwk: not beside it). -/
import Derived.Test.YtdmkgocddikobaaDoorLnt
import Derived.Test.YtdmkgocddikobaaDoorLnv
import Derived.Test.YtdmkgocddikobaaDoorLns
import Derived.Lib.SlBytesConst
namespace Go.Proofs.YtdmkgocddikobaaDoor
open Go.ChangeShapes Go.WideShapes Go.ChangeAt Go.RowKit

def LiesI (w : World) (g : Nat) (ps : List Nat) : Prop := ∀ k, k < ps.length → w.cell? ⟨g, k, none⟩ = some (.int .i64 (ps.getD k 0 : Nat))
theorem LiesI.below {w w' : World} {B g : Nat} {ps : List Nat} (h : LiesI w g ps) (hb : Below B w w') (hg : g < B) : LiesI w' g ps := fun k hk => (hb.cell (p := ⟨g, k, none⟩) hg).trans (h k hk)
theorem rowI {W : World} {B : Nat} {v : Value} {ps : List Nat} (h : W.ownsRow B 3 1 v ps.length (ps.map fun (n : Nat) => Value.int .i64 (n : Int))) (h0 : ps ≠ []) : ∃ g c, v = .slice (some ⟨g, 0, none⟩) ps.length c ∧ LiesI W g ps ∧ g < W.heap.size := by
  have hc := h
  rcases h.2 with ⟨rfl, hz⟩ | ⟨g, cap, cur, rfl, _, hg, hle, _⟩
  · exact absurd (List.length_eq_zero_iff.1 hz) h0
  · refine ⟨g, cap, rfl, fun k hk => ?_, heap_lt hg⟩
    have := World.ownsRow.cells hc rfl k (.int .i64 (ps.getD k 0 : Nat)) (by simp [List.getElem?_eq_getElem hk, List.getD])
    rwa [Addr.add_lit, Nat.zero_add] at this
set_option maxHeartbeats 400000 in
theorem SameI_some (g g' c c' : Nat) (ps : List Nat) (w : World) (h : LiesI w g ps) (h' : LiesI w g' ps) (hm : ps.length ≤ maxLen) :
    Calls Tryd.prog 15 #[.slice (some ⟨g, 0, none⟩) ps.length c, .slice (some ⟨g', 0, none⟩) ps.length c'] w fun e w' => e = .returned (.bool true) ∧ ∃ n, w' = w.drewN n := by
  unfold maxLen at hm
  generalize hn : ps.length = m at *
  have HN := hide hn
  go_enter Tryd.func15, Tryd.ntmps15
  go_wp2
  go_loopw [5] (fun i wx => ∃ k n : Nat, k ≤ m ∧ i = .int .i64 k ∧ wx = w.drewN n) (fun i _ => m - (intOf i).toNat)
  case atStart => exact ⟨0, 0, Nat.zero_le _, rfl, rfl⟩
  case round =>
    obtain ⟨k, n, hk, rfl, rfl⟩ := hrel
    by_cases hlt : k < m
    · have c1 : w.cell? ⟨g, k, none⟩ = _ := h k (by rw [unhide HN]; exact hlt)
      have c2 : w.cell? ⟨g', k, none⟩ = _ := h' k (by rw [unhide HN]; exact hlt)
      generalize ps.getD k 0 = x at *
      go_wp2
      go_quiet (fail)
      go_wp2
      go_roundw
      case rel => exact ⟨k + 1, n + _, by omega, by go_num, by simp [World.drewN]; rfl⟩
      case measure => simp [intOf]; omega
    · go_wp2
      go_ret
      exact ⟨rfl, n, rfl⟩

theorem own7_at (a0 : Option Addr) (cap : Nat) (l : List Int) (w : World) (hB : IsB w a0 cap l) :
    Calls Tryd.prog 8 #[.slice a0 l.length cap] w fun e w' => ∃ a' c', e = .returned (.slice a' l.length c') ∧ IsB w' a' c' l ∧ Below w.heap.size w w' := by
  obtain ⟨a1, c1, w1, r1, x1, y1, z1⟩ := run_copy w a0 cap l 22 hB
  have R1 := hide r1
  clear r1
  go_enter Tryd.func8, Tryd.ntmps8
  go_wp2_with (at_builtin; refine wpList_append_known rfl _ _ 22 22 rfl _ _ rfl rfl _ _ (unhide R1) ?_)
  go_ret
  exact ⟨a1, c1, rfl, ⟨x1, hB.2.1, y1, hB.2.2.2⟩, z1⟩


theorem Large_at (a0 : Option Addr) (len cap : Nat) (w : World) : Calls Tryd.prog 6 #[.slice a0 len cap] w fun e w' => e = .returned (.bool (decide (600 < len))) ∧ w' = w := by
  go_enter Tryd.func6, Tryd.ntmps6
  go_wp2
  go_ret
  exact ⟨ret_bool (by rw [Bool.eq_iff_iff]; simp; omega), rfl⟩

def litN : List Int := [97, 13, 10, 226, 130, 172, 120, 10, 13, 98]
theorem litN_in : ∀ x ∈ litN, 0 ≤ x ∧ x ≤ 255 := by decide
theorem litN_ln : LN litN = [(0, 0, 1, 3), (1, 3, 7, 8), (2, 8, 8, 9), (3, 9, 10, 10)] := by decide
theorem litN_fl : flr litN 7 = 7 := by decide
theorem litN_of : lnOf litN 7 = (1, 3, 7, 8) := by decide
theorem litN_w : szE 2 (litN.take 7) = 5 ∧ szE 3 (litN.take 7) = 5 ∧ szE 2 (cutL litN 3 7) = 2 ∧ szE 3 (cutL litN 3 7) = 2 := by decide
theorem litN_wh : whV litN 7 = .tuple #[.agg #[.int .i64 7, .int .i64 5, .int .i64 5, .int .i64 1, .int .i64 4, .int .i64 2, .int .i64 2], .int .i64 0] := by
  unfold whV
  rw [if_neg (by decide)]
  unfold whC
  rw [show (7 : Int).toNat = 7 from rfl, litN_fl, litN_of]
  show Value.tuple #[.agg #[_, .int .i64 (szE 2 (litN.take 7) : Int), .int .i64 (szE 3 (litN.take 7) : Int), _, _, .int .i64 (szE 2 (cutL litN 3 7) : Int), .int .i64 (szE 3 (cutL litN 3 7) : Int)], _] = _
  rw [litN_w.1, litN_w.2.1, litN_w.2.2.1, litN_w.2.2.2]
  rfl
theorem litN_nb : nbr litN 1 = some (1, 3, 7, 8) := by unfold nbr; rw [litN_ln]; rfl
theorem litN_cut : EE (cutL litN 3 7) = [(0, 0, 0), (3, 1, 1), (4, 2, 2)] := by decide
theorem litN_at : atP litN 1 1 2 3 = 6 ∧ atR litN 1 1 2 3 = 0 := by
  unfold atP atR
  rw [litN_nb]
  show (if _ then (if (1 : Int) < 0 then 0 else _) else _) = 6 ∧ _
  rw [show lst ((1, 3, 7, 8) : Ln) = 7 from rfl, litN_cut]
  decide

set_option maxRecDepth 100000 in
set_option maxHeartbeats 2000000 in
theorem awake7_any (w : World) (hT : Tab w) :
    Calls Tryd.prog 5 #[] w fun e w' => e = .returned (.bool true) ∧ Below w.heap.size w w' := by
  have kc := fun (w : World) (C : Array Value) (n c : Nat) => Lib.run_convert_bytes_const (P := Tryd.prog) w 22 5 C n c Tryd.underlying22 Tryd.underlying5
  go_enter Tryd.func5, Tryd.ntmps5
  go_wp2_with fail
  have d1 := (Below.refl w.heap.size w).alloc (Nat.le_refl _) (.cells (litN.map (Value.int .u8)).toArray 5 (10, 11))
  have i1 : IsB (w.alloc (.cells (litN.map (Value.int .u8)).toArray 5 (10, 11))) (some ⟨w.heap.size, 0, none⟩) 10 litN := ⟨by decide, by decide, Or.inr ⟨_, 0, rfl, lies_new w litN (10, 11) litN_in⟩, litN_in⟩
  have t1 := hT.below d1 hT.size
  rw [show (litN.map (Value.int .u8)).toArray = #[.int .u8 97, .int .u8 13, .int .u8 10, .int .u8 226, .int .u8 130, .int .u8 172, .int .u8 120, .int .u8 10, .int .u8 13, .int .u8 98] from rfl] at d1 i1 t1
  generalize w.alloc (.cells #[.int .u8 97, .int .u8 13, .int .u8 10, .int .u8 226, .int .u8 130, .int .u8 172, .int .u8 120, .int .u8 10, .int .u8 13, .int .u8 98] 5 (10, 11)) = w1 at *
  generalize hg0 : w.heap.size = g0 at *
  have HG0 := hide hg0
  clear kc hT hg0
  have hst := Starts_at (some ⟨g0, 0, none⟩) 10 litN w1 i1 (by decide)
  rw [show litN.length = 10 from rfl] at hst
  refine hst.mono ?_
  rintro e w2 ⟨v, rfl, o2, x2⟩
  have hsv : stsV (LN litN) = ([0, 3, 8, 9] : List Nat).map fun (n : Nat) => Value.int .i64 (n : Int) := by rw [litN_ln]; rfl
  rw [hsv, show (LN litN).length = 4 by rw [litN_ln]; rfl] at o2
  obtain ⟨g2, c2, rfl, l2, z2⟩ := rowI (ps := [0, 3, 8, 9]) o2 (by decide)
  have i2 := i1.below x2 (Nat.le_refl _)
  have t2 := t1.below x2 t1.size
  have b2 := d1.trans (x2.mono (by have := d1.size; rw [← unhide HG0]; exact this))
  rw [show ([0, 3, 8, 9] : List Nat).length = 4 from rfl]
  clear i1 t1 x2 o2 hst hsv d1
  go_wp2_with fail
  have hwh := Where_at (some ⟨g0, 0, none⟩) 10 litN 7 w2 i2 t2
  rw [show litN.length = 10 from rfl, litN_wh] at hwh
  refine hwh.mono ?_
  rintro e w3 ⟨rfl, x3⟩
  have i3 := i2.below x3 (Nat.le_refl _)
  have t3 := t2.below x3 t2.size
  have l3 := l2.below x3 z2
  have z3 : g2 < w3.heap.size := Nat.lt_of_lt_of_le z2 x3.size
  have b3 := b2.trans (x3.mono (by have := b2.size; rw [← unhide HG0]; exact this))
  clear i2 t2 l2 z2 x3 b2 hwh
  have k4 := Cls.new w3 27 #[.int .i64 7, .int .i64 5, .int .i64 5, .int .i64 1, .int .i64 4, .int .i64 2, .int .i64 2]
  have d4 := (Below.refl w3.heap.size w3).alloc (Nat.le_refl _) (.cells #[.int .i64 7, .int .i64 5, .int .i64 5, .int .i64 1, .int .i64 4, .int .i64 2, .int .i64 2] 27)
  have i4 := i3.below d4 (Nat.le_refl _)
  have t4 := t3.below d4 t3.size
  have l4 := l3.below d4 z3
  have z4' : g2 < (w3.alloc (.cells #[.int .i64 7, .int .i64 5, .int .i64 5, .int .i64 1, .int .i64 4, .int .i64 2, .int .i64 2] 27)).heap.size := Nat.lt_of_lt_of_le z3 d4.size
  have b4 := b3.trans (d4.mono (by have := b3.size; rw [← unhide HG0]; exact this))
  clear i3 t3 l3 z3 d4 b3
  go_wp2_with fail
  generalize w3.alloc (.cells #[.int .i64 7, .int .i64 5, .int .i64 5, .int .i64 1, .int .i64 4, .int .i64 2, .int .i64 2] 27) = w4 at *
  generalize w3.heap.size = g3 at *
  have hat := AtL_at (some ⟨g0, 0, none⟩) 10 litN 1 1 2 3 w4 i4 t4
  rw [show litN.length = 10 from rfl, litN_at.1, litN_at.2] at hat
  refine hat.mono ?_
  rintro e w5 ⟨rfl, x5⟩
  have i5 := i4.below x5 (Nat.le_refl _)
  have t5 := t4.below x5 t4.size
  have l5 := l4.below x5 z4'
  have k5 := k4.below x5 k4.lt
  have z5 : g2 < w5.heap.size := Nat.lt_of_lt_of_le z4' x5.size
  have b5 := b4.trans (x5.mono (by have := b4.size; rw [← unhide HG0]; exact this))
  clear i4 t4 l4 z4' k4 x5 b4 hat
  have d7 := (Below.refl w5.heap.size w5).alloc (Nat.le_refl _) (.cells #[.int .i64 0, .int .i64 3, .int .i64 8, .int .i64 9] 3)
  have k7 := Cls.new w5 3 #[.int .i64 0, .int .i64 3, .int .i64 8, .int .i64 9]
  have l7' : LiesI (w5.alloc (.cells #[.int .i64 0, .int .i64 3, .int .i64 8, .int .i64 9] 3)) w5.heap.size [0, 3, 8, 9] := fun k hk => by
    rw [k7.cell k]
    match k, hk with
    | 0, _ => rfl
    | 1, _ => rfl
    | 2, _ => rfl
    | 3, _ => rfl
  have i7 := i5.below d7 (Nat.le_refl _)
  have t7 := t5.below d7 t5.size
  have l7 := l5.below d7 z5
  have kw7 := k5.below d7 k5.lt
  have b7 := b5.trans (d7.mono (by have := b5.size; rw [← unhide HG0]; exact this))
  clear k7 i5 t5 l5 b5 d7 k5
  go_wp2_with fail
  generalize w5.alloc (.cells #[.int .i64 0, .int .i64 3, .int .i64 8, .int .i64 9] 3) = w7 at *
  generalize w5.heap.size = g6 at *
  have hsi := SameI_some g2 g6 c2 4 [0, 3, 8, 9] w7 l7 l7' (by decide)
  rw [show ([0, 3, 8, 9] : List Nat).length = 4 from rfl] at hsi
  refine hsi.mono ?_
  rintro e w8 ⟨rfl, h8⟩
  have x8 : Below w7.heap.size w7 w8 := quiet_below h8 _
  have i8 := i7.below x8 (Nat.le_refl _)
  have kw8 := kw7.below x8 kw7.lt
  have b8 := b7.trans (x8.mono (by have := b7.size; rw [← unhide HG0]; exact this))
  clear i7 t7 l7 l7' x8 b7 h8 hsi kw7
  go_wp2_with fail
  have hct := Count_at (some ⟨g0, 0, none⟩) 10 litN w8 i8
  rw [show litN.length = 10 from rfl, show ((LN litN).length : Int) = 4 by rw [litN_ln]; rfl] at hct
  refine hct.mono ?_
  rintro e w9 ⟨rfl, x9⟩
  have kw9 := kw8.below x9 kw8.lt
  have b9 := b8.trans (x9.mono (by have := b8.size; rw [← unhide HG0]; exact this))
  have q5 := kw9.cell 5
  simp only [List.getElem?_toArray, List.getElem?_cons_zero, List.getElem?_cons_succ] at q5
  go_wp2_with fail
  go_ret
  exact ⟨rfl, by rw [unhide HG0]; exact b9⟩

end Go.Proofs.YtdmkgocddikobaaDoor
