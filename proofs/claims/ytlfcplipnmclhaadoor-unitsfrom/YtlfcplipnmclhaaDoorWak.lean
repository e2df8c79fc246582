/- Layer 3: galleyref03.SameUnits of equal units, and wakes: true wherever the table holds the classes. -/
import Derived.Test.YtlfcplipnmclhaaDoorUnx
import Derived.Lib.SlBytesConst
namespace Go.Proofs.YtlfcplipnmclhaaDoor
open Go.ChangeShapes Go.WideShapes Go.ChangeAt Go.RowKit

set_option maxHeartbeats 400000 in
theorem SameU_some (g off g' off' c c' : Nat) (u : List Int) (w : World) (h : LiesU w g off u) (h' : LiesU w g' off' u) (hm : u.length ≤ maxLen) :
    Calls Tryd.prog 18 #[.slice (some ⟨g, off, none⟩) u.length c, .slice (some ⟨g', off', none⟩) u.length c'] w fun e w' => e = .returned (.bool true) ∧ ∃ n, w' = w.drewN n := by
  unfold maxLen at hm
  generalize hn : u.length = m at *
  have HN := hide hn
  go_enter Tryd.func18, Tryd.ntmps18
  go_wp2
  go_loopw [5] (fun i wx => ∃ k n : Nat, k ≤ m ∧ i = .int .i64 k ∧ wx = w.drewN n) (fun i _ => m - (intOf i).toNat)
  case atStart => exact ⟨0, 0, Nat.zero_le _, rfl, rfl⟩
  case round =>
    obtain ⟨k, n, hk, rfl, rfl⟩ := hrel
    by_cases hlt : k < m
    · have c1 : w.cell? ⟨g, off + k, none⟩ = _ := (h k (by rw [unhide HN]; exact hlt)).1
      have c2 : w.cell? ⟨g', off' + k, none⟩ = _ := (h' k (by rw [unhide HN]; exact hlt)).1
      generalize u.getD k 0 = x at *
      go_wp2
      go_quiet (fail)
      go_wp2
      go_roundw
      case rel => exact ⟨k + 1, n + _, by omega, by go_num, by simp [World.drewN]; rfl⟩
      case measure => simp [intOf]; omega
    · go_wp2
      go_ret
      exact ⟨rfl, n, rfl⟩
theorem SameU_none (a b : Option Addr) (c c' : Nat) (w : World) :
    Calls Tryd.prog 18 #[.slice a 0 c, .slice b 0 c'] w fun e w' => e = .returned (.bool true) ∧ ∃ n, w' = w.drewN n := by
  go_enter Tryd.func18, Tryd.ntmps18
  go_wp2
  go_loop [5] (fun i => i = .int .i64 0) (fun _ => 0)
  case atStart => rfl
  case round =>
    subst hrel
    go_wp2
    go_ret
    exact ⟨rfl, 0, rfl⟩
theorem SameU_at (a b : Option Addr) (c c' : Nat) (u : List Int) (w : World) (h : IsU w a c u) (h' : IsU w b c' u) (hm : u.length ≤ maxLen) :
    Calls Tryd.prog 18 #[.slice a u.length c, .slice b u.length c'] w fun e w' => e = .returned (.bool true) ∧ Below w.heap.size w w' := by
  rcases Nat.eq_zero_or_pos u.length with h0 | h0
  · rw [h0]
    exact (SameU_none a b c c' w).mono fun e w' ⟨h1, h2⟩ => ⟨h1, quiet_below h2 _⟩
  · obtain ⟨g, off, rfl, hL, _⟩ := h.lies h0
    obtain ⟨g', off', rfl, hL', _⟩ := h'.lies h0
    exact (SameU_some g off g' off' c c' u w hL hL' hm).mono fun e w' ⟨h1, h2⟩ => ⟨h1, quiet_below h2 _⟩
theorem isU_lit (W : World) (u : List Int) (hu : ∀ x ∈ u, 0 ≤ x ∧ x ≤ 65535) : IsU (W.alloc (.cells (u.map (Value.int .u16)).toArray 22)) (some ⟨W.heap.size, 0, none⟩) u.length u := by
  refine ⟨Nat.le_refl _, Or.inr ⟨W.heap.size, 0, rfl, fun i hi => ⟨?_, ?_⟩⟩, hu⟩
  · rw [Nat.zero_add, World.cell?_alloc_mark]
    simp [List.getElem?_eq_getElem hi, List.getD]
  · have := hu _ (List.getElem_mem hi)
    simpa [List.getD, List.getElem?_eq_getElem hi] using this

theorem bchain {B : Nat} {a b c : World} (hB : B ≤ a.heap.size) (h : Below B a b) (k : Below b.heap.size b c) : Below B a c := h.trans (k.mono (Nat.le_trans hB h.size))

def litB : List Int := [97, 226, 130, 172, 240, 159, 152, 128, 226, 130]
theorem litB_in : ∀ x ∈ litB, 0 ≤ x ∧ x ≤ 255 := by decide
theorem litB_to : toL litB = [97, 8364, 55357, 56832, 65533, 65533] := by decide
theorem litB_ex : exL litB = [97, 8364, 55357, 56832, 56546, 56450] := by decide
theorem lit_from : fromL [55357, 56832, 97] = ([240, 159, 152, 128, 97], 0, 0) := by
  rw [fromL, rd_ok (by decide) (show itF [55357, 56832, 97] 0 = .ok [240, 159, 152, 128] 1 from rfl), rd_ok (by decide) (show itF [55357, 56832, 97] (0 + (1 + 1)) = .ok [97] 0 from rfl), rd_end (by decide)]
  rfl
theorem lit_back : exactL [97, 8364, 55357, 56832, 56546, 56450] = (litB, 0, 0) := by
  rw [exactL, rd_ok (by decide) (show itX [97, 8364, 55357, 56832, 56546, 56450] 0 = .ok [97] 0 from rfl), rd_ok (by decide) (show itX [97, 8364, 55357, 56832, 56546, 56450] 1 = .ok [226, 130, 172] 0 from rfl),
    rd_ok (by decide) (show itX [97, 8364, 55357, 56832, 56546, 56450] 2 = .ok [240, 159, 152, 128] 1 from rfl), rd_ok (by decide) (show itX [97, 8364, 55357, 56832, 56546, 56450] 4 = .ok [226] 0 from rfl),
    rd_ok (by decide) (show itX [97, 8364, 55357, 56832, 56546, 56450] 5 = .ok [130] 0 from rfl), rd_end (by decide)]
  rfl
theorem lit_str1 : strOfNums [240, 159, 152, 128, 97] = ⟨#[240, 159, 152, 128, 97]⟩ := by decide

set_option maxHeartbeats 1000000 in
theorem wakes_any (w : World) (hT : Tab w) :
    Calls Tryd.prog 9 #[] w fun e w' => e = .returned (.bool true) ∧ Below w.heap.size w w' := by
  have kc := fun (w : World) (C : Array Value) (n c : Nat) => Lib.run_convert_bytes_const (P := Tryd.prog) w 30 5 C n c Tryd.underlying30 Tryd.underlying5
  go_enter Tryd.func9, Tryd.ntmps9
  go_wp2_with (first
    | (go_at_call 10; refine (Split_any 128512 _ (by decide) (by decide)).mono ?_; rintro e w' ⟨rfl, rfl⟩; rw [show splitV 128512 = .tuple #[.int .u16 55357, .int .u16 56832, .bool true] from rfl])
    | (go_at_call 12; refine (Join_any 55357 56832 _ (by decide) (by decide) (by decide) (by decide)).mono ?_; rintro e w' ⟨rfl, rfl⟩; rw [show joinV 55357 56832 = .tuple #[.int .i32 128512, .bool true] from rfl]))
  have d1 := (Below.refl w.heap.size w).alloc (Nat.le_refl _) (.cells (litB.map (Value.int .u8)).toArray 5 (10, 11))
  have i1 : IsB (w.alloc (.cells (litB.map (Value.int .u8)).toArray 5 (10, 11))) (some ⟨w.heap.size, 0, none⟩) 10 litB := ⟨by decide, by decide, Or.inr ⟨_, 0, rfl, lies_new w litB (10, 11) litB_in⟩, litB_in⟩
  have t1 := hT.below d1 hT.size
  rw [show (litB.map (Value.int .u8)).toArray = #[.int .u8 97, .int .u8 226, .int .u8 130, .int .u8 172, .int .u8 240, .int .u8 159, .int .u8 152, .int .u8 128, .int .u8 226, .int .u8 130] from rfl] at d1 i1 t1
  generalize w.alloc (.cells #[.int .u8 97, .int .u8 226, .int .u8 130, .int .u8 172, .int .u8 240, .int .u8 159, .int .u8 152, .int .u8 128, .int .u8 226, .int .u8 130] 5 (10, 11)) = w1 at *
  generalize hg0 : w.heap.size = g0 at *
  have HG0 := hide hg0
  clear kc hT hg0
  refine (To_at (some ⟨g0, 0, none⟩) 10 litB w1 i1 (by decide)).mono ?_
  rintro e w2 ⟨v2, rfl, o2, x2⟩
  rw [litB_to] at o2
  have i2 := i1.below x2 (Nat.le_refl _)
  have t2 := t1.below x2 t1.size
  clear i1 t1
  go_wp2_with fail
  refine (ToExact_at (some ⟨g0, 0, none⟩) 10 litB w2 i2 (by decide) t2).mono ?_
  rintro e w3 ⟨v3, rfl, o3, x3⟩
  rw [litB_ex] at o3
  have i3 := i2.below x3 (Nat.le_refl _)
  have t3 := t2.below x3 t2.size
  obtain ⟨a2, c2, rfl, u2⟩ := (o2.below x3).isU (by decide)
  obtain ⟨a3, c3, rfl, u3⟩ := o3.isU (by decide)
  have d4 := (Below.refl w3.heap.size w3).alloc (Nat.le_refl _) (.cells #[.int .u16 55357, .int .u16 56832, .int .u16 97] 22)
  have u4 := isU_lit w3 [55357, 56832, 97] (by decide)
  simp only [List.map_cons, List.map_nil, List.length_cons, List.length_nil, Nat.reduceAdd] at u4 u2 u3 ⊢
  have i4 := i3.below d4 (Nat.le_refl _)
  have t4 := t3.below d4 t3.size
  have v24 := u2.below d4 (Nat.le_refl _)
  have v34 := u3.below d4 (Nat.le_refl _)
  clear i2 t2 i3 t3 u2 u3 o2 o3
  go_wp2_with fail
  generalize w3.alloc (.cells #[.int .u16 55357, .int .u16 56832, .int .u16 97] 22) = w4 at *
  generalize hg3 : w3.heap.size = g3 at *
  refine (From_at (some ⟨g3, 0, none⟩) 3 [55357, 56832, 97] w4 u4 (by decide)).mono ?_
  rintro e w5 ⟨⟨a5, c5, rfl, i5⟩, x5⟩
  rw [lit_from] at i5 ⊢
  simp only [List.length_cons, List.length_nil, Nat.reduceAdd] at i5 ⊢
  have j4 := i4.below x5 (Nat.le_refl _)
  have t5 := t4.below x5 t4.size
  have v25 := v24.below x5 (Nat.le_refl _)
  have v35 := v34.below x5 (Nat.le_refl _)
  clear i4 t4 v24 v34 u4
  go_wp2_with fail
  refine (FromExact_at a3 c3 [97, 8364, 55357, 56832, 56546, 56450] w5 v35 (by decide) t5).mono ?_
  rintro e w6 ⟨⟨a6, c6, rfl, i6⟩, x6⟩
  rw [lit_back] at i6 ⊢
  rw [show ((litB, 0, 0) : List Int × Nat × Int).1.length = 10 from rfl]
  have i46 := j4.below x6 (Nat.le_refl _)
  have t6 := t5.below x6 t5.size
  have v26 := v25.below x6 (Nat.le_refl _)
  have v36 := v35.below x6 (Nat.le_refl _)
  have i56 := i5.below x6 (Nat.le_refl _)
  have d7 := (Below.refl w6.heap.size w6).alloc (Nat.le_refl _) (.cells #[.int .u16 97, .int .u16 8364, .int .u16 55357, .int .u16 56832, .int .u16 65533, .int .u16 65533] 22)
  have u7 := isU_lit w6 [97, 8364, 55357, 56832, 65533, 65533] (by decide)
  simp only [List.map_cons, List.map_nil, List.length_cons, List.length_nil, Nat.reduceAdd] at u7
  have i47 := i46.below d7 (Nat.le_refl _)
  have i57 := i56.below d7 (Nat.le_refl _)
  have i67 := i6.below d7 (Nat.le_refl _)
  have v27 := v26.below d7 (Nat.le_refl _)
  have v37 := v36.below d7 (Nat.le_refl _)
  clear j4 t5 v25 v35 i5 i46 t6 v26 v36 i56 i6
  have kl : ulen 97 = 1 := rfl
  go_wp2_with (go_at_call 14; refine (Len_any 97 _ (by decide) (by decide)).mono ?_; rintro e w6 ⟨rfl, rfl⟩)
  generalize w6.alloc (.cells #[.int .u16 97, .int .u16 8364, .int .u16 55357, .int .u16 56832, .int .u16 65533, .int .u16 65533] 22) = w7 at *
  generalize hg6 : w6.heap.size = g6 at *
  refine (SameU_at a2 (some ⟨g6, 0, none⟩) c2 6 [97, 8364, 55357, 56832, 65533, 65533] w7 v27 u7 (by decide)).mono ?_
  rintro e w8 ⟨rfl, x8⟩
  have i48 := i47.below x8 (Nat.le_refl _)
  have i58 := i57.below x8 (Nat.le_refl _)
  have i68 := i67.below x8 (Nat.le_refl _)
  have v38 := v37.below x8 (Nat.le_refl _)
  have d9 := (Below.refl w8.heap.size w8).alloc (Nat.le_refl _) (.cells #[.int .u16 97, .int .u16 8364, .int .u16 55357, .int .u16 56832, .int .u16 56546, .int .u16 56450] 22)
  have u9 := isU_lit w8 [97, 8364, 55357, 56832, 56546, 56450] (by decide)
  simp only [List.map_cons, List.map_nil, List.length_cons, List.length_nil, Nat.reduceAdd] at u9
  have i49 := i48.below d9 (Nat.le_refl _)
  have i59 := i58.below d9 (Nat.le_refl _)
  have i69 := i68.below d9 (Nat.le_refl _)
  have v39 := v38.below d9 (Nat.le_refl _)
  clear i47 i57 i67 v37 v27 u7 i48 i58 i68 v38
  go_wp2_with fail
  generalize w8.alloc (.cells #[.int .u16 97, .int .u16 8364, .int .u16 55357, .int .u16 56832, .int .u16 56546, .int .u16 56450] 22) = w9 at *
  generalize hg8 : w8.heap.size = g8 at *
  refine (SameU_at a3 (some ⟨g8, 0, none⟩) c3 6 [97, 8364, 55357, 56832, 56546, 56450] w9 v39 u9 (by decide)).mono ?_
  rintro e w10 ⟨rfl, x10⟩
  have i4 := i49.below x10 (Nat.le_refl _)
  have i5 := i59.below x10 (Nat.le_refl _)
  have i6 := i69.below x10 (Nat.le_refl _)
  have k4 := str_bs w10 _ 10 litB i4.2.2.1
  have k5 := str_bs w10 _ c5 [240, 159, 152, 128, 97] i5.2.2.1
  have k6 := str_bs w10 _ c6 litB i6.2.2.1
  rw [lit_str1] at k5
  rw [show litB.length = 10 from rfl] at k4 k6
  rw [show ([240, 159, 152, 128, 97] : List Int).length = 5 from rfl] at k5
  have y10 : Below w.heap.size w w10 := by
    rw [← hg3] at d4
    rw [← hg6] at d7
    rw [← hg8] at d9
    rw [← unhide HG0] at d1
    have L := Nat.le_refl w.heap.size
    exact bchain L (bchain L (bchain L (bchain L (bchain L (bchain L (bchain L (bchain L (bchain L d1 x2) x3) d4) x5) x6) d7) x8) d9) x10
  clear v39 u9 i49 i59 i69
  go_wp2_with fail
  go_ret
  exact ⟨rfl, y10⟩

end Go.Proofs.YtlfcplipnmclhaaDoor
