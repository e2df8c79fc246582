/- Layer 3, for lists of units of any length that fits: From, FromExact, and the document's answer for them. -/
import Derived.Test.YtlfcplipnmclhaaDoorUls
import Derived.Test.YtlfcplipnmclhaaDoorRf6
import Derived.Deep.DeepAppendWide
namespace Go.Proofs.YtlfcplipnmclhaaDoor
open Go.ChangeShapes Go.WideShapes Go.ChangeAt Go.RowKit

theorem drop_inB {u : List Int} (hu : ∀ x ∈ u, 0 ≤ x ∧ x ≤ 65535) (p : Nat) : ∀ x ∈ u.drop p, 0 ≤ x ∧ x ≤ 65535 := fun x hx => hu x (List.mem_of_mem_drop hx)
/-- a rune's encoding has at most three bytes for each of its units -/
theorem enc_units {v : List Int} (hv : ∀ x ∈ v, 0 ≤ x ∧ x ≤ 65535) (h : (fstU v).2 ≠ 0) : (enc (fstU v).1).length ≤ 3 * (fstU v).2 := by
  obtain ⟨_, i2⟩ := fstU_inv hv h
  have h4 := (enc_len (fstU v).1).1
  have hr := fstU_rune hv h
  have h' : 0 ≤ (fstU v).1 ∧ (fstU v).1 < 55296 ∨ 57343 < (fstU v).1 ∧ (fstU v).1 ≤ 1114111 := of_decide_eq_true hr
  cases h2 : two (fstU v).1 with
  | true =>
    rw [uni, if_pos h2] at i2
    simp only [List.length_cons, List.length_nil] at i2
    omega
  | false =>
    have h3 : ¬ (65536 ≤ (fstU v).1 ∧ (fstU v).1 ≤ 1114111) := of_decide_eq_false h2
    have : (enc (fstU v).1).length ≤ 3 := by
      by_cases a1 : (fstU v).1 < 128
      · rw [enc_1 (by omega) a1]; simp
      · by_cases a2 : (fstU v).1 < 2048
        · rw [enc_2 (by omega) a2]; simp
        · rw [enc_3 (by omega) (by omega) (by omega)]; simp
    omega
/-- what From and FromExact answer -/
def answB (W' : World) (e : Ending) (t : List Int × Nat × Int) : Prop := ∃ a c, e = .returned (.tuple #[.slice a t.1.length c, .int .i64 (t.2.1 : Nat), .int .i64 t.2.2]) ∧ Bs W' a t.1
theorem answB_none (W' : World) (p : Nat) (e : Int) : answB W' (.returned (.tuple #[.slice none 0 0, .int .i64 p, .int .i64 e])) ([], p, e) := ⟨none, 0, rfl, Or.inl rfl⟩
theorem Bs.belowB {w w' : World} {a0 : Option Addr} {l : List Int} (h : Bs w a0 l) (hb : Below w.heap.size w w') : Bs w' a0 l := by
  rcases h with h | ⟨g, off, rfl, hL⟩
  · exact Or.inl h
  · rcases Nat.eq_zero_or_pos l.length with h0 | h0
    · exact Or.inl (List.length_eq_zero_iff.1 h0)
    · exact Or.inr ⟨g, off, rfl, hL.below hb (hL.lt h0)⟩
theorem Own.bsV {w : World} {B : Nat} {v : Value} {l : List Int} (h : Own w B v l) (hl : ∀ x ∈ l, 0 ≤ x ∧ x ≤ 255) : ∃ a cap, v = .slice a l.length cap ∧ Bs w a l := by
  have hc := h
  rcases h.2 with ⟨rfl, h0⟩ | ⟨g, cap, cur, rfl, _, hg, hle, _⟩
  · exact ⟨none, 0, by rw [h0], Or.inl (List.length_eq_zero_iff.1 h0)⟩
  · exact ⟨_, cap, rfl, Or.inr ⟨g, 0, rfl, hc.lies hl⟩⟩
theorem make_i32B (w : World) (c : Nat) (hc : c ≤ 70368744177664) : ∃ w', (Instr.makeSlice 50 (.int .i64 0) (.int .i64 (c : Int))).run Tryd.prog w = .ok (.slice (some ⟨w.heap.size, 0, none⟩) 0 c) w' ∧ w'.ownsRow w.heap.size 21 1 (.slice (some ⟨w.heap.size, 0, none⟩) 0 c) 0 [] ∧ Below w.heap.size w w' := by
  obtain ⟨i, hi, hz, hs, hby⟩ := info_i32
  obtain ⟨w', h1, h2, h3⟩ := run_make_own (P := Tryd.prog) w w.heap.size 50 21 i (.int .i32 0) 1 Tryd.underlying50 hi hz hs .i64 .i64 c (by rw [hby]; omega) (by unfold maxLen; omega) (Nat.le_refl _)
  exact ⟨w', h1, h2, (Below.refl _ w).grown h3 (Nat.le_refl _) (fun k e => by cases e)⟩
theorem make_u8B (w : World) (c : Nat) (hc : c ≤ 70368744177664) : ∃ w', (Instr.makeSlice 30 (.int .i64 0) (.int .i64 (c : Int))).run Tryd.prog w = .ok (.slice (some ⟨w.heap.size, 0, none⟩) 0 c) w' ∧ Own w' w.heap.size (.slice (some ⟨w.heap.size, 0, none⟩) 0 c) [] ∧ Below w.heap.size w w' := by
  obtain ⟨i, hi, hz, hs, hby⟩ := info_u8
  obtain ⟨w', h1, h2, h3⟩ := run_make_own (P := Tryd.prog) w w.heap.size 30 5 i (.int .u8 0) 1 Tryd.underlying30 hi hz hs .i64 .i64 c (by rw [hby]; omega) (by unfold maxLen; omega) (Nat.le_refl _)
  exact ⟨w', h1, h2, (Below.refl _ w).grown h3 (Nat.le_refl _) (fun k e => by cases e)⟩
theorem push_u8sB (W : World) (B : Nat) (v : Value) (l m : List Int) (ty : TypeId) (h : Own W B v l) (hn : l.length + m.length ≤ 220000000000000) (hB : B ≤ W.heap.size) :
    ∃ v' W', (Builtin.append_ #[30, 30] ty #[v, .slice (some ⟨W.heap.size, 0, none⟩) m.length m.length]).run Tryd.prog (W.alloc (.cells (m.map (Value.int .u8)).toArray 5)) = .ok v' W' ∧
      Own W' B v' (l ++ m) ∧ Below B W W' := by
  obtain ⟨i, hi, hz, hs, hby⟩ := info_u8
  have hr := World.ownsRow.alloc h (.cells (m.map (Value.int .u8)).toArray 5)
  obtain ⟨v', W', hrun, ho, hg, _⟩ := run_append_own_wide (P := Tryd.prog) (W.alloc (.cells (m.map (Value.int .u8)).toArray 5)) B 30 ty 5 i (.int .u8 0) 1 1 Tryd.underlying30 hi hz hs hby rfl (by decide)
    v l.length (l.map (Value.int .u8)) hr ⟨W.heap.size, 0, none⟩ m.length m.length (m.map (Value.int .u8)) (by simp)
    (fun j u hj => by
      rw [Addr.add_lit, Nat.zero_add]
      refine (World.cell?_alloc_mark W _ _ (0, 0) j).trans ?_
      rw [List.getElem?_toArray]; exact hj)
    (fun u hu => by obtain ⟨x, _, rfl⟩ := List.mem_map.1 hu; rfl) (by unfold maxLen; omega) (by omega) (by simp; omega)
  refine ⟨_, W', hrun, ?_, ((Below.refl B W).alloc hB _).grown hg (by simp; omega) (fun k hk => (hr.lt k hk).1)⟩
  unfold Own
  simpa using ho
theorem push_moreB (W : World) (B : Nat) (v : Value) (l m : List Int) (g c : Nat) (ty : TypeId) (h : Own W B v l) (hL : Lies W g 0 m) (hn : l.length ≤ 215000000000000) (hm : m.length ≤ 4) (_h0 : 0 < m.length) (hB : B ≤ W.heap.size) :
    ∃ v' W', (Builtin.append_ #[30, 30] ty #[v, .slice (some ⟨g, 0, none⟩) m.length c]).run Tryd.prog W = .ok v' W' ∧ Own W' B v' (l ++ m) ∧ Below B W W' := by
  obtain ⟨i, hi, hz, hs, hby⟩ := info_u8
  obtain ⟨v', w', hr, ho, hg, _⟩ := run_append_own_wide (P := Tryd.prog) W B 30 ty 5 i (.int .u8 0) 1 1 Tryd.underlying30 hi hz hs hby rfl (by decide)
    v l.length (l.map (Value.int .u8)) h ⟨g, 0, none⟩ m.length c (m.map (Value.int .u8)) (by simp) (src_cells hL) (src_some _ g 0 c m hL).one (by unfold maxLen; omega) (by omega) hB
  refine ⟨_, w', hr, ?_, (Below.refl B W).grown hg hB (fun k e => (World.ownsRow.lt h k e).1)⟩
  unfold Own
  simpa using ho
/-- a rune is appended where there is room -/
theorem push_i32R (W : World) (B g cap : Nat) (l : List Int) (x : Int) (ty : TypeId) (h : OwnI W B (.slice (some ⟨g, 0, none⟩) l.length cap) l) (hroom : l.length + 1 ≤ cap) (hB : B ≤ W.heap.size) :
    ∃ W', (Builtin.append_ #[50, 50] ty #[.slice (some ⟨g, 0, none⟩) l.length cap, .slice (some ⟨W.heap.size, 0, none⟩) 1 1]).run Tryd.prog (W.alloc (.cells #[.int .i32 x] 21)) = .ok (.slice (some ⟨g, 0, none⟩) (l.length + 1) cap) W' ∧
      OwnI W' B (.slice (some ⟨g, 0, none⟩) (l.length + 1) cap) (l ++ [x]) ∧ Below B W W' := by
  obtain ⟨i, hi, hz, hs, hby⟩ := info_i32
  have hr := World.ownsRow.alloc h (.cells #[.int .i32 x] 21)
  rcases hr.2 with ⟨h0, _⟩ | ⟨g', cap', cur, hv, hbg, hg, hnc, hcm, hcs, htake⟩
  · cases h0
  · simp only [Value.slice.injEq, Option.some.injEq, Addr.mk.injEq] at hv
    obtain ⟨⟨rfl, _⟩, _, rfl⟩ := hv
    have hcs' : cur.size = cap := by simpa using hcs
    have hrun := run_append_room (P := Tryd.prog) (W.alloc (.cells #[.int .i32 x] 21)) 50 ty 21 i Tryd.underlying50 hi g l.length cap cur hg ⟨W.heap.size, 0, none⟩ 1 1 [.int .i32 x] (by rw [hs]; rfl)
      (fun j u hj => by
        cases j with
        | zero => simp at hj; subst hj; rw [Addr.add_lit]; exact (World.cell?_alloc_mark W _ _ (0, 0) 0).trans rfl
        | succ j => simp at hj)
      (fun u hu => by simp at hu; subst hu; rfl) hroom (by rw [hs]; simp; omega)
    refine ⟨_, hrun, ?_, ((Below.refl B W).alloc hB _).grown (row := some g) ⟨rfl, rfl, rfl, by simp, fun k _ hk => setRow_other _ g k _ (fun e => hk (by rw [e]))⟩ (by simp; omega) (fun k hk => by cases hk; exact hbg)⟩
    refine ⟨by simp, Or.inr ⟨g, cap, _, by simp, hbg, setRow_heap _ g cur _ 21 _ hg, by simp; omega, hcm, ?_, ?_⟩⟩
    · simp only [List.size_toArray, List.length_append, List.length_take, List.length_drop, Array.length_toList, hs]
      simp; omega
    · rw [hs] at *
      simp only [Nat.mul_one] at htake ⊢
      rw [htake]
      have e : (l ++ [x]).length = (l.map (Value.int .i32) ++ [Value.int .i32 x]).length := by simp
      rw [e, List.take_left]
      simp
theorem run_toBytesB (W : World) (l : List Int) (hl : ∀ x ∈ l, 0 ≤ x ∧ x ≤ 255) :
    ∃ c W', (convert 9 30 (.string (strOfNums l))).run Tryd.prog W = .ok (.slice (some ⟨W.heap.size, 0, none⟩) l.length c) W' ∧ Bs W' (some ⟨W.heap.size, 0, none⟩) l ∧ Below W.heap.size W W' := by
  have := run_bytes_of_string (P := Tryd.prog) W 9 30 5 (strOfNums l) Tryd.underlying9 Tryd.underlying30 Tryd.underlying5
  rw [strOfNums_size] at this
  refine ⟨_, _, this, Or.inr ⟨_, 0, rfl, fun i hi => ⟨?_, ?_⟩⟩, ((Below.refl W.heap.size W).drew).alloc (Nat.le_refl _) _⟩
  · rw [Nat.zero_add]
    refine (World.cell?_alloc_mark W.drew _ 5 _ i).trans ?_
    have hb := hl _ (List.getElem_mem hi)
    unfold bytesRow
    rw [Array.getElem?_append_left (by rw [Array.size_map]; show i < (strOfNums l).size; rw [strOfNums_size]; exact hi)]
    simp [strOfNums, List.getElem?_eq_getElem hi, List.getD]
    omega
  · have := hl _ (List.getElem_mem hi)
    simpa [List.getD, List.getElem?_eq_getElem hi] using this
theorem Own.push1B {W : World} {B : Nat} {v : Value} {l : List Int} (h : Own W B v l) (x : Int) (hn : l.length ≤ 215000000000000) (hB : B ≤ W.heap.size) : ∃ v' W', (Builtin.append_ #[30, 30] 30 #[v, .slice (some ⟨W.heap.size, 0, none⟩) 1 1]).run Tryd.prog (W.alloc (.cells #[.int .u8 x] 5)) = .ok v' W' ∧ Own W' B v' (l ++ [x]) ∧ Below B W W' := by
  simpa using push_u8sB W B v l [x] 30 h (by simp; omega) hB
theorem Own.push2B {W : World} {B : Nat} {v : Value} {l : List Int} (h : Own W B v l) (x y : Int) (hn : l.length ≤ 215000000000000) (hB : B ≤ W.heap.size) : ∃ v' W', (Builtin.append_ #[30, 30] 30 #[v, .slice (some ⟨W.heap.size, 0, none⟩) 2 2]).run Tryd.prog (W.alloc (.cells #[.int .u8 x, .int .u8 y] 5)) = .ok v' W' ∧ Own W' B v' (l ++ [x, y]) ∧ Below B W W' := by
  simpa using push_u8sB W B v l [x, y] 30 h (by simp; omega) hB
theorem Own.push3B {W : World} {B : Nat} {v : Value} {l : List Int} (h : Own W B v l) (x y z : Int) (hn : l.length ≤ 215000000000000) (hB : B ≤ W.heap.size) : ∃ v' W', (Builtin.append_ #[30, 30] 30 #[v, .slice (some ⟨W.heap.size, 0, none⟩) 3 3]).run Tryd.prog (W.alloc (.cells #[.int .u8 x, .int .u8 y, .int .u8 z] 5)) = .ok v' W' ∧ Own W' B v' (l ++ [x, y, z]) ∧ Below B W W' := by
  simpa using push_u8sB W B v l [x, y, z] 30 h (by simp; omega) hB
theorem Own.push4B {W : World} {B : Nat} {v : Value} {l : List Int} (h : Own W B v l) (x y z t : Int) (hn : l.length ≤ 215000000000000) (hB : B ≤ W.heap.size) : ∃ v' W', (Builtin.append_ #[30, 30] 30 #[v, .slice (some ⟨W.heap.size, 0, none⟩) 4 4]).run Tryd.prog (W.alloc (.cells #[.int .u8 x, .int .u8 y, .int .u8 z, .int .u8 t] 5)) = .ok v' W' ∧ Own W' B v' (l ++ [x, y, z, t]) ∧ Below B W W' := by
  simpa using push_u8sB W B v l [x, y, z, t] 30 h (by simp; omega) hB

set_option maxHeartbeats 1000000 in
theorem appendRuneNonASCII_atB (B : Nat) (v : Value) (l : List Int) (r : Int) (w : World) (h : Own w B v l) (hr : isRune r = true) (h128 : 128 ≤ r) (hn : l.length ≤ 215000000000000) (hB : B ≤ w.heap.size) :
    Calls Tryd.prog 52 #[v, .int .i32 r] w fun e w' => ∃ v', e = .returned v' ∧ Own w' B v' (l ++ enc r) ∧ Below B w w' := by
  have h' : 0 ≤ r ∧ r < 55296 ∨ 57343 < r ∧ r ≤ 1114111 := of_decide_eq_true hr
  by_cases a2 : r < 2048
  · rw [enc_2 h128 a2]
    obtain ⟨v', w', r1, o1, b1⟩ := h.push2B (192 + r / 64) (128 + r % 64) hn hB
    have R1 := hide r1
    clear r1 h hr h'
    go_enter Tryd.func52, Tryd.ntmps52
    go_wp2_with (at_builtin; refine wpList_append_known rfl _ _ 30 30 rfl _ _ rfl rfl _ _ (unhide R1) ?_)
    go_ret
    exact ⟨_, rfl, o1, b1⟩
  · by_cases a3 : r < 65536
    · rw [enc_3 (by omega) a3 (by omega)]
      obtain ⟨v', w', r1, o1, b1⟩ := h.push3B (224 + r / 4096) (128 + r / 64 % 64) (128 + r % 64) hn hB
      have R1 := hide r1
      clear r1 h hr
      rcases h' with h' | h'
      · go_enter Tryd.func52, Tryd.ntmps52
        go_wp2_with (at_builtin; refine wpList_append_known rfl _ _ 30 30 rfl _ _ rfl rfl _ _ (unhide R1) ?_)
        go_ret
        exact ⟨_, rfl, o1, b1⟩
      · go_enter Tryd.func52, Tryd.ntmps52
        go_wp2_with (at_builtin; refine wpList_append_known rfl _ _ 30 30 rfl _ _ rfl rfl _ _ (unhide R1) ?_)
        go_ret
        exact ⟨_, rfl, o1, b1⟩
    · rw [enc_4 (by omega) (by omega)]
      obtain ⟨v', w', r1, o1, b1⟩ := h.push4B (240 + r / 262144) (128 + r / 4096 % 64) (128 + r / 64 % 64) (128 + r % 64) hn hB
      have R1 := hide r1
      have h2 : r ≤ 1114111 := by omega
      clear r1 h hr h'
      go_enter Tryd.func52, Tryd.ntmps52
      go_wp2_with (at_builtin; refine wpList_append_known rfl _ _ 30 30 rfl _ _ rfl rfl _ _ (unhide R1) ?_)
      go_ret
      exact ⟨_, rfl, o1, b1⟩

theorem AppendRune_atB (B : Nat) (v : Value) (l : List Int) (r : Int) (w : World) (h : Own w B v l) (hr : isRune r = true) (hn : l.length ≤ 215000000000000) (hB : B ≤ w.heap.size) :
    Calls Tryd.prog 40 #[v, .int .i32 r] w fun e w' => ∃ v', e = .returned v' ∧ Own w' B v' (l ++ enc r) ∧ Below B w w' := by
  have h' : 0 ≤ r ∧ r < 55296 ∨ 57343 < r ∧ r ≤ 1114111 := of_decide_eq_true hr
  by_cases a1 : r < 128
  · rw [enc_1 (by omega) a1]
    obtain ⟨v', w', r1, o1, b1⟩ := h.push1B r hn hB
    have R1 := hide r1
    have h0 : 0 ≤ r := by omega
    clear r1 h hr h'
    go_enter Tryd.func40, Tryd.ntmps40
    go_wp2_with (at_builtin; refine wpList_append_known rfl _ _ 30 30 rfl _ _ rfl rfl _ _ (unhide R1) ?_)
    go_ret
    exact ⟨_, rfl, o1, b1⟩
  · have HC := hide (appendRuneNonASCII_atB B v l r w h hr (by omega) hn hB)
    have h2 : r ≤ 1114111 := by omega
    clear h hr h'
    go_enter Tryd.func40, Tryd.ntmps40
    go_wp2_with fail
    refine (unhide HC).mono ?_
    rintro e w1 ⟨v1, rfl, o1, b1⟩
    go_wp2
    go_ret
    exact ⟨_, rfl, o1, b1⟩

theorem run_copyUB (w : World) (a0 : Option Addr) (cap : Nat) (l : List Int) (ty : TypeId) (hU : IsU w a0 cap l) (hl : l.length ≤ 70368744177664) :
    ∃ a' cap' w', (Builtin.append_ #[31, 31] ty #[.slice (some ⟨w.heap.size, 0, none⟩) 0 0, .slice a0 l.length cap]).run Tryd.prog (w.alloc (.cells #[] 22)) = .ok (.slice a' l.length cap') w' ∧
      IsU w' a' cap' l ∧ OwnU w' w.heap.size (.slice a' l.length cap') l ∧ Below w.heap.size w w' := by
  obtain ⟨i, hi, hz, hs, hby⟩ := info_u16
  have hb0 : Below w.heap.size w (w.alloc (.cells #[] 22)) := (Below.refl _ _).alloc (Nat.le_refl _) _
  have hown : (w.alloc (.cells #[] 22)).ownsRow w.heap.size 22 1 (.slice (some ⟨w.heap.size, 0, none⟩) 0 0) 0 [] := World.ownsRow_made w #[] 0 (Nat.le_refl _) (Nat.zero_le _) rfl
  have hU1 := hU.below hb0 (Nat.le_refl _)
  rcases Nat.eq_zero_or_pos l.length with h0 | h0
  · obtain rfl : l = [] := List.length_eq_zero_iff.1 h0
    have hsrc : Src Tryd.prog 1 31 (.slice a0 0 cap) 0 [] (w.alloc (.cells #[] 22)) := by
      cases a0 with
      | none => exact Src.ofNil _ Tryd.underlying31 cap
      | some a => exact Src.ofSlice _ Tryd.underlying31 a 0 cap [] rfl (fun j u h => by simp at h) (fun u h => by cases h)
    refine ⟨some ⟨w.heap.size, 0, none⟩, 0, _, ?_, ⟨Nat.le_refl _, Or.inl rfl, hU.2.2⟩, hown, hb0⟩
    exact run_append_room_src (P := Tryd.prog) (w.alloc (.cells #[] 22)) 31 31 ty 22 i Tryd.underlying31 hi w.heap.size 0 0 0 (.slice a0 0 cap) 0 [] (by rw [hs]; exact hsrc) (Nat.le_refl _) (fun j hj => absurd hj (Nat.not_lt_zero _)) (fun j hj => absurd hj (Nat.not_lt_zero _))
  · obtain ⟨g, off, rfl, hL, _⟩ := hU1.lies h0
    obtain ⟨g', c', w', hr, ho, hg, hat, hlt⟩ := run_append_lies (P := Tryd.prog) (w.alloc (.cells #[] 22)) 31 ty w.heap.size 22 i (.int .u16 0) 1 2 Tryd.underlying31 hi hz hs hby rfl (by decide)
      _ 0 [] hown ⟨g, off, none⟩ l.length cap (l.map (Value.int .u16)) (by simp)
      (fun j u h => by
        have hj : j < l.length := by
          rcases Nat.lt_or_ge j l.length with h' | h'
          · exact h'
          · rw [List.getElem?_eq_none (by simpa using h')] at h; cases h
        rw [Addr.add_lit, (hL j hj).1]
        simp [List.getElem?_eq_getElem hj] at h
        simp [List.getD, List.getElem?_eq_getElem hj, h])
      (fun u hu => by obtain ⟨x, _, rfl⟩ := List.mem_map.1 hu; rfl) h0 (by unfold maxLen; omega) (by omega) (by simp) (w.heap.size + 1) (by simp)
    rw [Nat.zero_add] at hr ho
    have hown' : OwnU w' w.heap.size (.slice (some ⟨g', 0, none⟩) l.length c') l := by unfold OwnU; simpa using ho
    obtain ⟨a1, c1, e1, u1⟩ := hown'.isU hU.2.2
    cases e1
    exact ⟨_, _, w', hr, u1, hown', hb0.grown hg (by simp) (fun k e => by cases e; exact Nat.le_refl _)⟩

theorem copied_atB (a0 : Option Addr) (cap : Nat) (u : List Int) (w : World) (hU : IsU w a0 cap u) (hl : u.length ≤ 70368744177664) :
    Calls Tryd.prog 22 #[.slice a0 u.length cap] w fun e w' => ∃ a c, e = .returned (.slice a u.length c) ∧ IsU w' a c u ∧ Below w.heap.size w w' := by
  obtain ⟨a', c', w', r1, u1, _, b1⟩ := run_copyUB w a0 cap u 31 hU hl
  have R1 := hide r1
  clear r1
  go_enter Tryd.func22, Tryd.ntmps22
  go_wp2_with (at_builtin; refine wpList_append_known rfl _ _ 31 31 rfl _ _ rfl rfl _ _ (unhide R1) ?_)
  go_ret
  exact ⟨_, _, rfl, u1, b1⟩

set_option maxHeartbeats 400000 in
theorem pair_atB (g off cap p : Nat) (u : List Int) (w : World) (hp : p < u.length) (hm : u.length ≤ 70368744177664) (hL : LiesU w g off u) :
    Calls Tryd.prog 51 #[.slice (some ⟨g, off, none⟩) u.length cap, .int .i64 p] w fun e w' => e = .returned (.bool (pairB u p)) ∧ w' = w := by
  obtain ⟨c0, _, _⟩ := hL p hp
  by_cases h1 : p + 1 < u.length
  · obtain ⟨c1, _, _⟩ := hL (p + 1) h1
    have HV : Hid (pairB u p = (isHi (u.getD p 0) && isLo (u.getD (p + 1) 0))) := hide (by simp [pairB, h1])
    rw [unhide HV]
    generalize u.getD p 0 = x at *
    generalize u.getD (p + 1) 0 = y at *
    clear hL
    go_enter Tryd.func51, Tryd.ntmps51
    cases hx : isHi x with
    | false =>
      go_wp2_with (first | (go_at_call 31; refine (High_any _ _).mono ?_; rintro e w ⟨rfl, rfl⟩) | (go_at_call 32; refine (Low_any _ _).mono ?_; rintro e w ⟨rfl, rfl⟩))
      all_goals go_ret
      all_goals exact ⟨ret_bool (by simp), rfl⟩
    | true =>
      go_wp2_with (first | (go_at_call 31; refine (High_any _ _).mono ?_; rintro e w ⟨rfl, rfl⟩) | (go_at_call 32; refine (Low_any _ _).mono ?_; rintro e w ⟨rfl, rfl⟩))
      all_goals go_ret
      all_goals exact ⟨ret_bool (by simp), rfl⟩
  · have HV : Hid (pairB u p = false) := hide (by simp [pairB, h1])
    rw [unhide HV]
    generalize u.length = n at *
    go_enter Tryd.func51, Tryd.ntmps51
    go_wp2
    go_ret
    exact ⟨rfl, rfl⟩

set_option maxHeartbeats 400000 in
theorem lone_atB (g off cap p : Nat) (u : List Int) (w : World) (hp : p < u.length) (hm : u.length ≤ 70368744177664) (hL : LiesU w g off u) :
    Calls Tryd.prog 38 #[.slice (some ⟨g, off, none⟩) u.length cap, .int .i64 p] w fun e w' => e = .returned (.bool (decide ((fstU (u.drop p)).2 = 0))) ∧ w' = w := by
  have HP := hide (pair_atB g off cap p u w hp hm hL)
  obtain ⟨c0, _, _⟩ := hL p hp
  have HV : Hid ((!pairB u p && (isHi (u.getD p 0) || isLo (u.getD p 0))) = decide ((fstU (u.drop p)).2 = 0)) := hide (by
    cases h1 : pairB u p with
    | true => rw [fstU_pair h1]; rfl
    | false =>
      cases h2 : (isHi (u.getD p 0) || isLo (u.getD p 0)) with
      | true => rw [fstU_lone hp h1 h2]; rfl
      | false => rw [fstU_own hp h2]; rfl)
  rw [← unhide HV]
  generalize u.getD p 0 = x at *
  generalize u.length = n at *
  clear HV hL
  cases hq : pairB u p <;> cases hx : isHi x <;> rw [hq] at HP
  all_goals
    go_enter Tryd.func38, Tryd.ntmps38
    go_wp2_with (first | (go_at_call 51; refine (unhide HP).mono ?_; rintro e w ⟨rfl, rfl⟩) | (go_at_call 31; refine (High_any _ _).mono ?_; rintro e w ⟨rfl, rfl⟩) | (go_at_call 32; refine (Low_any _ _).mono ?_; rintro e w ⟨rfl, rfl⟩))
    go_ret
    exact ⟨ret_bool (by simp), rfl⟩

set_option maxHeartbeats 400000 in
theorem uat_atB (g off cap p : Nat) (u : List Int) (w : World) (hp : p < u.length) (hm : u.length ≤ 70368744177664) (hL : LiesU w g off u) (h0 : (fstU (u.drop p)).2 ≠ 0) :
    Calls Tryd.prog 39 #[.slice (some ⟨g, off, none⟩) u.length cap, .int .i64 p] w fun e w' => e = .returned (fstV (u.drop p)) ∧ ∃ n, w' = w.drewN n := by
  have HP := hide (pair_atB g off cap p u w hp hm hL)
  obtain ⟨c0, x0, x1⟩ := hL p hp
  cases h1 : pairB u p with
  | true =>
    rw [h1] at HP
    have hl1 : p + 1 < u.length := by simp [pairB] at h1; exact h1.1
    obtain ⟨c1, y0, y1⟩ := hL (p + 1) hl1
    have HV : Hid (fstV (u.drop p) = .tuple #[.int .i32 (joinR (u.getD p 0) (u.getD (p + 1) 0)), .int .i64 2]) := hide (by rw [fstV, fstU_pair h1]; rfl)
    have hj : joinV (u.getD p 0) (u.getD (p + 1) 0) = .tuple #[.int .i32 (joinR (u.getD p 0) (u.getD (p + 1) 0)), .bool true] := by
      simp only [pairB, Bool.and_eq_true] at h1
      rw [joinV, h1.2.1, h1.2.2]
      rfl
    have HJ := hide (fun n => RJoin_any (u.getD p 0) (u.getD (p + 1) 0) (w.drewN n) x0 x1 y0 y1)
    rw [hj] at HJ
    rw [unhide HV]
    clear h0 h1 hj hL HV
    generalize joinR (u.getD p 0) (u.getD (p + 1) 0) = r at *
    generalize u.getD p 0 = x at *
    generalize u.getD (p + 1) 0 = y at *
    generalize u.length = n at *
    go_enter Tryd.func39, Tryd.ntmps39
    go_wp2_with (first | (go_at_call 51; refine (unhide HP).mono ?_; rintro e w ⟨rfl, rfl⟩) | (go_at_call 13; fail))
    go_quiet ((go_at_call 13; exact Calls.quiet_of_same (unhide HJ _)))
    go_wp2
    go_ret2
    exact ⟨rfl, _, rfl⟩
  | false =>
    rw [h1] at HP
    have h2 : (isHi (u.getD p 0) || isLo (u.getD p 0)) = false := by
      cases h2 : (isHi (u.getD p 0) || isLo (u.getD p 0)) with
      | true => exact absurd (fstU_lone hp h1 h2) h0
      | false => rfl
    have HV : Hid (fstV (u.drop p) = .tuple #[.int .i32 (u.getD p 0), .int .i64 1]) := hide (by rw [fstV, fstU_own hp h2]; rfl)
    rw [unhide HV]
    clear h0 h1 hL HV h2
    generalize u.getD p 0 = x at *
    generalize u.length = n at *
    go_enter Tryd.func39, Tryd.ntmps39
    go_wp2_with (go_at_call 51; refine (unhide HP).mono ?_; rintro e w ⟨rfl, rfl⟩)
    go_ret2
    exact ⟨rfl, 0, rfl⟩

set_option maxHeartbeats 1000000 in
theorem From_atB (a0 : Option Addr) (cap : Nat) (u : List Int) (w : World) (hU : IsU w a0 cap u) (hl : u.length ≤ 70368744175616) :
    Calls Tryd.prog 21 #[.slice a0 u.length cap] w fun e w' => answB w' e (fromL u) ∧ Below w.heap.size w w' := by
  have hcap := hU.1
  obtain ⟨w2, hm, o2, b2⟩ := make_i32B w u.length (by omega)
  have HO : Hid (OwnI w2 w.heap.size (.slice (some ⟨w.heap.size, 0, none⟩) 0 u.length) []) := o2
  clear o2
  have HF : Hid (fromL u = rd (itF u) u.length 0 []) := hide rfl
  go_enter Tryd.func21, Tryd.ntmps21
  go_wp2_with fail
  clear hm
  have s2 := b2.size
  go_loopw [5, 6] (fun v i wx => ∃ (p : Nat) (rs : List Int), p ≤ u.length ∧ i = .int .i64 p ∧ v = .slice (some ⟨w.heap.size, 0, none⟩) rs.length u.length ∧ Hid (fromL u = rd (itF u) u.length p (rs.flatMap enc)) ∧ Hid (OwnI wx w.heap.size v rs) ∧ rs.length ≤ p ∧ Below w.heap.size w wx) (fun _ i _ => u.length - (intOf i).toNat)
  case atStart => exact ⟨0, [], Nat.zero_le _, rfl, rfl, HF, HO, Nat.le_refl _, b2⟩
  case round =>
    obtain ⟨p, rs, hp, rfl, rfl, hf, ho, hlr, hb⟩ := hrel
    clear HO HF b2
    have hsz := hb.size
    by_cases hlt : p < u.length
    · obtain ⟨gu, ou, rfl, hL, hgu⟩ := hU.lies (by omega)
      have hLx := hL.below hb hgu
      have hpc : ¬ cap = p := by omega
      have hpc2 : p ≤ cap := by omega
      have hfl := fstU_le (u.drop p)
      rw [List.length_drop] at hfl
      have HI : Hid (itF u p = if (fstU (u.drop p)).2 = 0 then .bad 30 else .ok (enc (fstU (u.drop p)).1) ((fstU (u.drop p)).2 - 1)) := hide rfl
      have HC := hide (ufirst_from gu ou cap p u wr hlt (by unfold maxLen; omega) hLx)
      unfold fstV at HC
      generalize (fstU (u.drop p)).1 = r at *
      generalize (fstU (u.drop p)).2 = n at *
      clear hL hLx
      by_cases h0 : n = 0
      · have hn0 : ((n : Int) == 0) = true := by simp [h0]
        have hres := unhide hf
        rw [rd_bad hlt ((unhide HI).trans (if_pos h0))] at hres
        have HRES := hide hres
        clear hres h0
        go_wp2_with fail
        refine (unhide HC).mono ?_
        rintro e w3 ⟨rfl, k3, rfl⟩
        go_wp2
        go_ret3
        rw [unhide HRES]
        exact ⟨answB_none _ _ _, Below.drewN hb _⟩
      · have hn0 : ((n : Int) == 0) = false := by rw [beq_eq_false_iff_ne]; omega
        have hres := unhide hf
        rw [rd_ok hlt ((unhide HI).trans (if_neg h0)), show p + (n - 1 + 1) = p + n by omega] at hres
        have HRES := hide hres
        clear hres
        go_wp2_with fail
        refine (unhide HC).mono ?_
        rintro e w3 ⟨rfl, k3, rfl⟩
        obtain ⟨w4, r4, o4, b4⟩ := push_i32R (wr.drewN k3) w.heap.size w.heap.size u.length rs r 50 (unhide ho) (by omega) hsz
        have R4 := hide r4
        clear r4 hn0
        have hn1 : ((n : Int) == 0) = false := by rw [beq_eq_false_iff_ne]; omega
        go_wp2_with (at_builtin; refine wpList_append_known rfl _ _ 50 50 rfl _ _ rfl rfl _ _ (unhide R4) ?_)
        go_roundw
        case rel => exact ⟨p + n, rs ++ [r], by omega, by go_num, by simp, by rw [List.flatMap_append, List.flatMap_singleton]; exact HRES, by simpa using hide o4, by simp; omega, (Below.drewN hb k3).trans b4⟩
        case measure => simp [intOf]; omega
    · obtain rfl : p = u.length := by omega
      have hres := unhide hf
      rw [rd_end hlt] at hres
      have HRES := hide hres
      have kb := run_back wr w.heap.size u.length rs (unhide ho).runes
      obtain ⟨c5, w5, r5, i5, b5⟩ := run_toBytesB wr (rs.flatMap enc) (encs_in rs)
      clear hres hf ho
      generalize rs.flatMap enc = bs at *
      go_wp2
      go_ret3
      rw [unhide HRES]
      exact ⟨⟨_, _, rfl, i5⟩, hb.trans (b5.mono hsz)⟩

set_option maxHeartbeats 1000000 in
theorem RFrom_atB (a0 : Option Addr) (cap : Nat) (u : List Int) (w : World) (hU : IsU w a0 cap u) (hl : u.length ≤ 70368744175616) :
    Calls Tryd.prog 23 #[.slice a0 u.length cap] w fun e w' => answB w' e (fromL u) ∧ Below w.heap.size w w' := by
  have HF : Hid (fromL u = rd (itF u) u.length 0 []) := hide rfl
  have HU := hide hU.2.2
  go_enter Tryd.func23, Tryd.ntmps23
  go_wp2_with fail
  go_loopw [5, 6] (fun v i wx => ∃ (p : Nat) (bs : List Int), p ≤ u.length ∧ i = .int .i64 p ∧ Hid (fromL u = rd (itF u) u.length p bs) ∧ Hid (Own wx w.heap.size v bs) ∧ bs.length ≤ 3 * p ∧ Hid (∀ x ∈ bs, 0 ≤ x ∧ x ≤ 255) ∧ Below w.heap.size w wx) (fun _ i _ => u.length - (intOf i).toNat)
  case atStart => exact ⟨0, [], Nat.zero_le _, rfl, HF, hide (World.ownsRow_nil _ _ _ _), Nat.zero_le _, hide (fun x h => by cases h), Below.refl _ _⟩
  case round =>
    obtain ⟨p, bs, hp, rfl, hf, ho, hlr, hin, hb⟩ := hrel
    clear HF
    have hsz := hb.size
    by_cases hlt : p < u.length
    · obtain ⟨gu, ou, rfl, hL, hgu⟩ := hU.lies (by omega)
      have hLx := hL.below hb hgu
      have hfl := fstU_le (u.drop p)
      rw [List.length_drop] at hfl
      have hru : (fstU (u.drop p)).2 ≠ 0 → isRune (fstU (u.drop p)).1 = true := fstU_rune (fun x hx => unhide HU x (List.mem_of_mem_drop hx))
      have HRU := hide hru
      have HE3 := hide (enc_units (drop_inB (unhide HU) p))
      have HI : Hid (itF u p = if (fstU (u.drop p)).2 = 0 then .bad 30 else .ok (enc (fstU (u.drop p)).1) ((fstU (u.drop p)).2 - 1)) := hide rfl
      have HLO := hide (lone_atB gu ou cap p u wr hlt (by omega) hLx)
      have HAT := hide (uat_atB gu ou cap p u wr hlt (by omega) hLx)
      unfold fstV at HAT
      clear hru hL hLx
      generalize (fstU (u.drop p)).1 = r at *
      generalize (fstU (u.drop p)).2 = n at *
      by_cases h0 : n = 0
      · have hres := unhide hf
        rw [rd_bad hlt ((unhide HI).trans (if_pos h0))] at hres
        have HRES := hide hres
        rw [decide_eq_true h0] at HLO
        clear hres h0
        go_wp2_with (go_at_call 38; refine (unhide HLO).mono ?_; rintro e wr ⟨rfl, rfl⟩)
        go_ret3
        rw [unhide HRES]
        exact ⟨answB_none _ _ _, hb⟩
      · have hres := unhide hf
        rw [rd_ok hlt ((unhide HI).trans (if_neg h0)), show p + (n - 1 + 1) = p + n by omega] at hres
        have HRES := hide hres
        rw [decide_eq_false h0] at HLO
        have HAT' := hide (unhide HAT h0)
        have hr1 : isRune r = true := unhide HRU h0
        have hr2 : 0 ≤ r ∧ r < 55296 ∨ 57343 < r ∧ r ≤ 1114111 := of_decide_eq_true hr1
        have hel := enc_len r
        have hel3 := unhide HE3 h0
        clear hres HAT HRU hr1
        go_wp2_with (go_at_call 38; refine (unhide HLO).mono ?_; rintro e wr ⟨rfl, rfl⟩)
        refine (unhide HAT').mono ?_
        rintro e w3 ⟨rfl, k3, rfl⟩
        go_wp2_with fail
        refine (RBytes_fresh r (wr.drewN k3) (by omega) (by omega)).mono ?_
        rintro e w4 ⟨g4, rfl, l4, b4⟩
        have o4 := Own.below (w := wr.drewN k3) (unhide ho) b4
        have y4 := bchain (Nat.le_refl _) (Below.drewN hb k3) b4
        obtain ⟨v5, w5, r5, o5, b5⟩ := push_moreB w4 w.heap.size _ bs (enc r) g4 (enc r).length 30 o4 l4 (by omega) hel.1 hel.2 y4.size
        have R5 := hide r5
        clear r5 o4 l4
        generalize hle : (enc r).length = m at *
        have HLE := hide hle
        clear hle
        go_wp2_with (at_builtin; refine wpList_append_known rfl _ _ 30 30 rfl _ _ rfl rfl _ _ (unhide R5) ?_)
        go_roundw
        case rel => exact ⟨p + n, bs ++ enc r, by omega, by go_num, HRES, hide o5, by rw [List.length_append, unhide HLE]; omega, hide (fun y hy => by rcases List.mem_append.1 hy with h | h; exact unhide hin y h; exact enc_bytes r y h), y4.trans b5⟩
        case measure => simp [intOf]; omega
    · obtain rfl : p = u.length := by omega
      have hres := unhide hf
      rw [rd_end hlt] at hres
      have HRES := hide hres
      obtain ⟨a5, c5, e5, i5⟩ := (unhide ho).bsV (unhide hin)
      subst e5
      have I5 := hide i5
      clear hres hf ho i5
      go_wp2
      go_ret3
      rw [unhide HRES]
      exact ⟨⟨_, _, rfl, unhide I5⟩, hb⟩

set_option maxHeartbeats 1000000 in
theorem Rjoins_atB (g off cap p : Nat) (u : List Int) (w : World) (hp : p < u.length) (hm : u.length ≤ 70368744177664) (hL : LiesU w g off u) :
    Calls Tryd.prog 45 #[.slice (some ⟨g, off, none⟩) u.length cap, .int .i64 p] w fun e w' => e = .returned (.bool (jn (u.drop p))) ∧ Below w.heap.size w w' := by
  have hgl := hL.lt (by omega)
  obtain ⟨n, hn⟩ : ∃ n, u.length = n := ⟨_, rfl⟩
  have HN := hide hn
  rw [hn] at hp hm ⊢
  clear hn
  have hvl : (u.drop p).length = n - p := by rw [List.length_drop, unhide HN]
  have HVL := hide hvl
  clear hvl
  have hget : ∀ j, (u.drop p).getD j 0 = u.getD (p + j) 0 := fun j => by simp [List.getD, List.getElem?_drop]
  have HG := hide hget
  clear hget
  go_enter Tryd.func45, Tryd.ntmps45
  go_wp2_with fail
  go_loopw [5, 6] (fun v i wx => ∃ j q : Nat, j ≤ 4 ∧ q ≤ n ∧ Hid (q = p + j) ∧ i = .int .i64 q ∧ Hid (∀ y ∈ (u.drop p).take j, isBu y = true) ∧ Hid (∀ m, m ≤ j → whole (((u.drop p).take m).map ubyt) = false) ∧ Hid (Own wx w.heap.size v (((u.drop p).take j).map ubyt)) ∧ Below w.heap.size w wx) (fun _ i _ => n - (intOf i).toNat)
  case atStart => exact ⟨0, p, by omega, by omega, hide rfl, rfl, hide (fun y hy => by simp at hy), hide (fun m hm => by rw [Nat.le_zero.1 hm]; rfl), hide (World.ownsRow_nil _ _ _ _), Below.refl _ _⟩
  case round =>
    obtain ⟨j, q, hj4, hjn, HQ, rfl, hall, hno, ho, hb⟩ := hrel
    have hsz := hb.size
    by_cases hlt : j < 4 ∧ q < n
    · obtain ⟨hj, hpj⟩ := hlt
      have hjv : j < (u.drop p).length := by rw [unhide HVL]; have := unhide HQ; omega
      obtain ⟨c0, _, _⟩ := hL.below hb hgl q (by rw [unhide HN]; exact hpj)
      have HM := hide (take_map (f := ubyt) hjv)
      have HALL := hide (take_mem (p := fun y => isBu y = true) hjv (unhide hall))
      have hfalse : isBu ((u.drop p).getD j 0) = false → jn (u.drop p) = false := fun h => jn_not (unhide hno) (fun m h1 h2 _ => take_all h1 h2 h)
      have HFALSE := hide hfalse
      clear hfalse
      rw [unhide HG j, ← unhide HQ] at HM HALL HFALSE
      have hlen : (((u.drop p).take j).map ubyt).length ≤ 4 := by simp; omega
      generalize u.getD q 0 = y at *
      have d1 : (q : Int) < (p : Int) + 4 := by have := unhide HQ; omega
      cases hy : isBu y with
      | false =>
        have HY := hide hy
        go_wp2_with (go_at_call 44; refine (RByte_any _ _).mono ?_; rintro e wr ⟨rfl, rfl⟩)
        go_ret
        exact ⟨ret_bool (unhide HFALSE (unhide HY)).symm, hb⟩
      | true =>
        have HY := hide hy
        have y1 : 56448 ≤ y ∧ y ≤ 56575 := of_decide_eq_true hy
        obtain ⟨y1, y2⟩ := y1
        obtain ⟨v4, w4, r4, o4, b4⟩ := (unhide ho).push1B (y - 56320) (by omega) hsz
        have R4 := hide r4
        clear r4
        have o4' : Own w4 w.heap.size v4 (((u.drop p).take (j + 1)).map ubyt) := by rw [unhide HM]; exact o4
        have hbi := byt_in (unhide HALL (unhide HY))
        have hl5 : (((u.drop p).take (j + 1)).map ubyt).length ≤ 5 := by simp; omega
        obtain ⟨a5, c5, e5, i5⟩ := o4'.isB hbi (by omega)
        subst e5
        have HW := hide (RWhole_at a5 c5 _ w4 (by unfold maxLen; omega) i5.2.2.1)
        have HO4 := hide o4'
        have HTRUE : Hid (whole (((u.drop p).take (j + 1)).map ubyt) = true → jn (u.drop p) = true) := hide (fun h => jn_of (by rw [unhide HVL]; have := unhide HQ; omega) h (unhide HALL (unhide HY)))
        have HNO : Hid (whole (((u.drop p).take (j + 1)).map ubyt) = false → ∀ m, m ≤ j + 1 → whole (((u.drop p).take m).map ubyt) = false) := hide (fun h m hm => by
          rcases Nat.lt_or_ge j m with h1 | h1
          · rw [show m = j + 1 by omega]; exact h
          · exact unhide hno m h1)
        clear o4 o4' i5 hbi hl5 ho HM
        cases hwh : whole (((u.drop p).take (j + 1)).map ubyt) with
        | true =>
          rw [hwh] at HW
          have HJ := hide (unhide HTRUE hwh)
          clear hwh HO4
          generalize (((u.drop p).take (j + 1)).map ubyt).length = m5 at *
          go_wp2_with (first
            | (go_at_call 44; refine (RByte_any _ _).mono ?_; rintro e wr ⟨rfl, rfl⟩)
            | (at_builtin; refine wpList_append_known rfl _ _ 30 30 rfl _ _ rfl rfl _ _ (unhide R4) ?_)
            | (go_at_call 55; refine (unhide HW).mono ?_; rintro e w6 ⟨rfl, n6, rfl⟩))
          go_ret
          exact ⟨ret_bool (unhide HJ).symm, Below.drewN (hb.trans b4) _⟩
        | false =>
          rw [hwh] at HW
          have HNO' := hide (unhide HNO hwh)
          have HALL' := hide (unhide HALL (unhide HY))
          clear hwh
          generalize hm5 : (((u.drop p).take (j + 1)).map ubyt).length = m5 at *
          have HM5 := hide hm5
          clear hm5
          go_wp2_with (first
            | (go_at_call 44; refine (RByte_any _ _).mono ?_; rintro e wr ⟨rfl, rfl⟩)
            | (at_builtin; refine wpList_append_known rfl _ _ 30 30 rfl _ _ rfl rfl _ _ (unhide R4) ?_)
            | (go_at_call 55; refine (unhide HW).mono ?_; rintro e w6 ⟨rfl, n6, rfl⟩))
          go_roundw
          case rel => exact ⟨j + 1, q + 1, by omega, by omega, hide (by rw [unhide HQ]; omega), by go_num, HALL', HNO', HO4, Below.drewN (hb.trans b4) _⟩
          case measure => simp [intOf]; omega
    · have HJ : Hid (jn (u.drop p) = false) := hide (jn_not (unhide hno) (fun m h1 h2 h3 => by rw [unhide HVL] at h2; have := unhide HQ; omega))
      by_cases hqn : q < n
      · have d1 : ¬ (q : Int) < (p : Int) + 4 := by have := unhide HQ; omega
        go_wp2
        go_ret
        exact ⟨ret_bool (unhide HJ).symm, hb⟩
      · go_wp2
        go_ret
        exact ⟨ret_bool (unhide HJ).symm, hb⟩

set_option maxHeartbeats 1000000 in
theorem FromExact_atB (a0 : Option Addr) (cap : Nat) (u : List Int) (w : World) (hU : IsU w a0 cap u) (hl : u.length ≤ 70368744175616) (hT : Tab w) :
    Calls Tryd.prog 24 #[.slice a0 u.length cap] w fun e w' => answB w' e (exactL u) ∧ Below w.heap.size w w' := by
  have hcap := hU.1
  obtain ⟨w2, hm, o2, b2⟩ := make_u8B w u.length (by omega)
  have HO : Hid (Own w2 w.heap.size (.slice (some ⟨w.heap.size, 0, none⟩) 0 u.length) []) := o2
  clear o2
  have HF : Hid (exactL u = rd (itX u) u.length 0 []) := hide rfl
  have HU := hide hU.2.2
  go_enter Tryd.func24, Tryd.ntmps24
  go_wp2_with fail
  clear hm
  go_loopw [5, 6] (fun v i wx => ∃ (p : Nat) (bs : List Int), p ≤ u.length ∧ i = .int .i64 p ∧ Hid (exactL u = rd (itX u) u.length p bs) ∧ Hid (Own wx w.heap.size v bs) ∧ bs.length ≤ 3 * p ∧ Hid (∀ x ∈ bs, 0 ≤ x ∧ x ≤ 255) ∧ Below w.heap.size w wx) (fun _ i _ => u.length - (intOf i).toNat)
  case atStart => exact ⟨0, [], Nat.zero_le _, rfl, HF, HO, Nat.zero_le _, hide (fun x h => by cases h), b2⟩
  case round =>
    obtain ⟨p, bs, hp, rfl, hf, ho, hlr, hin, hb⟩ := hrel
    clear HO HF b2
    have hsz := hb.size
    by_cases hlt : p < u.length
    · obtain ⟨gu, ou, rfl, hL, hgu⟩ := hU.lies (by omega)
      have hLx := hL.below hb hgu
      have hpc : ¬ cap = p := by omega
      have hpc2 : p ≤ cap := by omega
      have hfl := fstU_le (u.drop p)
      rw [List.length_drop] at hfl
      have hru : (fstU (u.drop p)).2 ≠ 0 → isRune (fstU (u.drop p)).1 = true := fstU_rune (fun x hx => unhide HU x (List.mem_of_mem_drop hx))
      have HRU := hide hru
      have HE3 := hide (enc_units (drop_inB (unhide HU) p))
      have hc := (hLx p hlt).1
      have HI : Hid (itX u p = if (fstU (u.drop p)).2 = 0 then (if isBu (u.getD p 0) then (if jn (u.drop p) then .bad 31 else .ok [ubyt (u.getD p 0)] 0) else .bad 30) else .ok (enc (fstU (u.drop p)).1) ((fstU (u.drop p)).2 - 1)) := hide rfl
      have HC := hide (ufirst_from gu ou cap p u wr hlt (by unfold maxLen; omega) hLx)
      have HJN := hide (fun n h => joins_from gu ou cap p u (wr.drewN n) hlt (by unfold maxLen; omega) hcap hLx h (Tab.drewN (hT.below hb hT.size) n))
      unfold fstV at HC
      clear hru
      generalize (fstU (u.drop p)).1 = r at *
      generalize (fstU (u.drop p)).2 = n at *
      generalize jn (u.drop p) = j at *
      generalize u.getD p 0 = x at *
      clear hL hLx
      by_cases h0 : n = 0
      · have hn0 : decide ((n : Int) > 0) = false := by simp [h0]
        have hn1 : ¬ ((n : Int) > 0) := by omega
        have HI2 : Hid (itX u p = _) := hide ((unhide HI).trans (if_pos h0))
        cases hx : isBu x with
        | false =>
          have hres := unhide hf
          rw [rd_bad hlt ((unhide HI2).trans (if_neg (by simp [hx])))] at hres
          have HRES := hide hres
          clear hres h0
          go_wp2_with fail
          refine (unhide HC).mono ?_
          rintro e w3 ⟨rfl, k3, rfl⟩
          go_wp2_with (go_at_call 41; refine (isByteUnit_any _ _).mono ?_; rintro e w' ⟨rfl, rfl⟩)
          go_ret3
          rw [unhide HRES]
          exact ⟨answB_none _ _ _, Below.drewN hb _⟩
        | true =>
          have HI3 : Hid (itX u p = _) := hide ((unhide HI2).trans (if_pos hx))
          have HX := hide hx
          cases j with
          | true =>
            have hres := unhide hf
            rw [rd_bad hlt ((unhide HI3).trans (if_pos rfl))] at hres
            have HRES := hide hres
            clear hres h0
            go_wp2_with fail
            refine (unhide HC).mono ?_
            rintro e w3 ⟨rfl, k3, rfl⟩
            go_wp2_with (first
              | (go_at_call 41; refine (isByteUnit_any _ _).mono ?_; rintro e w' ⟨rfl, rfl⟩)
              | (go_at_call 42; refine (unhide HJN _ (unhide HX)).mono ?_; rintro e w5 ⟨rfl, b5⟩))
            go_ret3
            rw [unhide HRES]
            exact ⟨answB_none _ _ _, (Below.drewN hb k3).trans (b5.mono hsz)⟩
          | false =>
            have hx2 : 56448 ≤ x ∧ x ≤ 56575 := of_decide_eq_true hx
            obtain ⟨x1, x2⟩ := hx2
            have hres := unhide hf
            rw [rd_ok hlt ((unhide HI3).trans (if_neg (by simp)))] at hres
            have HRES := hide hres
            clear hres h0
            go_wp2_with fail
            refine (unhide HC).mono ?_
            rintro e w3 ⟨rfl, k3, rfl⟩
            go_wp2_with (first
              | (go_at_call 41; refine (isByteUnit_any _ _).mono ?_; rintro e w' ⟨rfl, rfl⟩)
              | (go_at_call 42; refine (unhide HJN _ (unhide HX)).mono ?_; rintro e w5 ⟨rfl, b5⟩
                 have hc5 : w5.cell? ⟨gu, ou + p, none⟩ = some (.int .u16 x) := (b5.cell (p := ⟨gu, ou + p, none⟩) (Nat.lt_of_lt_of_le hgu hsz)).trans hc
                 obtain ⟨v6, w6, r6, o6, b6⟩ := (Own.below (w := wr.drewN k3) (unhide ho) b5).push1B (x - 56320) (by omega) (Nat.le_trans hsz b5.size); have R6 := hide r6; clear r6)
              | (go_at_call 43; refine (byteOf_any _ _ x1 x2).mono ?_; rintro e w' ⟨rfl, rfl⟩)
              | (at_builtin; refine wpList_append_known rfl _ _ 30 30 rfl _ _ rfl rfl _ _ (unhide R6) ?_))
            go_roundw
            case rel => exact ⟨p + 1, bs ++ [ubyt x], by omega, by go_num, HRES, hide o6, by simp; omega, hide (fun y hy => by rcases List.mem_append.1 hy with h | h; exact unhide hin y h; rw [List.mem_singleton] at h; rw [h]; unfold ubyt; omega), ((Below.drewN hb k3).trans (b5.mono hsz)).trans b6⟩
            case measure => simp [intOf]; omega
      · have hn1 : (n : Int) > 0 := by omega
        have hn2 : decide ((n : Int) > 0) = true := by simp; omega
        have hres := unhide hf
        rw [rd_ok hlt ((unhide HI).trans (if_neg h0)), show p + (n - 1 + 1) = p + n by omega] at hres
        have HRES := hide hres
        have HR : Hid (isRune r = true) := hide (unhide HRU h0)
        have hel := enc_len r
        have hel3 := unhide HE3 h0
        clear hres HRU
        go_wp2_with fail
        refine (unhide HC).mono ?_
        rintro e w3 ⟨rfl, k3, rfl⟩
        go_wp2_with fail
        refine (AppendRune_atB w.heap.size _ bs r (wr.drewN k3) (unhide ho) (unhide HR) (by omega) hsz).mono ?_
        rintro e w4 ⟨v4, rfl, o4, b4⟩
        go_wp2
        go_roundw
        case rel => exact ⟨p + n, bs ++ enc r, by omega, by go_num, HRES, hide o4, by simp; omega, hide (fun y hy => by rcases List.mem_append.1 hy with h | h; exact unhide hin y h; exact enc_bytes r y h), (Below.drewN hb k3).trans b4⟩
        case measure => simp [intOf]; omega
    · obtain rfl : p = u.length := by omega
      have hres := unhide hf
      rw [rd_end hlt] at hres
      have HRES := hide hres
      obtain ⟨a5, c5, e5, i5⟩ := (unhide ho).bsV (unhide hin)
      subst e5
      have I5 := hide i5
      clear hres hf ho i5
      go_wp2
      go_ret3
      rw [unhide HRES]
      exact ⟨⟨_, _, rfl, unhide I5⟩, hb⟩

set_option maxHeartbeats 1000000 in
theorem RFromExact_atB (a0 : Option Addr) (cap : Nat) (u : List Int) (w : World) (hU : IsU w a0 cap u) (hl : u.length ≤ 70368744175616) :
    Calls Tryd.prog 25 #[.slice a0 u.length cap] w fun e w' => answB w' e (exactL u) ∧ Below w.heap.size w w' := by
  have HF : Hid (exactL u = rd (itX u) u.length 0 []) := hide rfl
  have HU := hide hU.2.2
  go_enter Tryd.func25, Tryd.ntmps25
  go_wp2_with fail
  go_loopw [5, 6] (fun v i wx => ∃ (p : Nat) (bs : List Int), p ≤ u.length ∧ i = .int .i64 p ∧ Hid (exactL u = rd (itX u) u.length p bs) ∧ Hid (Own wx w.heap.size v bs) ∧ bs.length ≤ 3 * p ∧ Hid (∀ x ∈ bs, 0 ≤ x ∧ x ≤ 255) ∧ Below w.heap.size w wx) (fun _ i _ => u.length - (intOf i).toNat)
  case atStart => exact ⟨0, [], Nat.zero_le _, rfl, HF, hide (World.ownsRow_nil _ _ _ _), Nat.zero_le _, hide (fun x h => by cases h), Below.refl _ _⟩
  case round =>
    obtain ⟨p, bs, hp, rfl, hf, ho, hlr, hin, hb⟩ := hrel
    clear HF
    have hsz := hb.size
    by_cases hlt : p < u.length
    · obtain ⟨gu, ou, rfl, hL, hgu⟩ := hU.lies (by omega)
      have hLx := hL.below hb hgu
      have hc := (hLx p hlt).1
      have hfl := fstU_le (u.drop p)
      rw [List.length_drop] at hfl
      have hru : (fstU (u.drop p)).2 ≠ 0 → isRune (fstU (u.drop p)).1 = true := fstU_rune (fun x hx => unhide HU x (List.mem_of_mem_drop hx))
      have HRU := hide hru
      have HE3 := hide (enc_units (drop_inB (unhide HU) p))
      have HI : Hid (itX u p = if (fstU (u.drop p)).2 = 0 then (if isBu (u.getD p 0) then (if jn (u.drop p) then .bad 31 else .ok [ubyt (u.getD p 0)] 0) else .bad 30) else .ok (enc (fstU (u.drop p)).1) ((fstU (u.drop p)).2 - 1)) := hide rfl
      have HLO := hide (lone_atB gu ou cap p u wr hlt (by omega) hLx)
      have HAT := hide (uat_atB gu ou cap p u wr hlt (by omega) hLx)
      have HJN := hide (Rjoins_atB gu ou cap p u wr hlt (by omega) hLx)
      unfold fstV at HAT
      clear hru hL hLx
      generalize (fstU (u.drop p)).1 = r at *
      generalize (fstU (u.drop p)).2 = n at *
      generalize jn (u.drop p) = j at *
      generalize u.getD p 0 = x at *
      by_cases h0 : n = 0
      · have HI2 : Hid (itX u p = _) := hide ((unhide HI).trans (if_pos h0))
        rw [decide_eq_true h0] at HLO
        cases hx : isBu x with
        | false =>
          have hres := unhide hf
          rw [rd_bad hlt ((unhide HI2).trans (if_neg (by simp [hx])))] at hres
          have HRES := hide hres
          clear hres h0
          go_wp2_with (first | (go_at_call 38; refine (unhide HLO).mono ?_; rintro e wr ⟨rfl, rfl⟩) | (go_at_call 44; refine (RByte_any _ _).mono ?_; rintro e wr ⟨rfl, rfl⟩))
          go_ret3
          rw [unhide HRES]
          exact ⟨answB_none _ _ _, hb⟩
        | true =>
          have HI3 : Hid (itX u p = _) := hide ((unhide HI2).trans (if_pos hx))
          have hx2 : 56448 ≤ x ∧ x ≤ 56575 := of_decide_eq_true hx
          obtain ⟨x1, x2⟩ := hx2
          cases j with
          | true =>
            have hres := unhide hf
            rw [rd_bad hlt ((unhide HI3).trans (if_pos rfl))] at hres
            have HRES := hide hres
            clear hres h0
            go_wp2_with (first
              | (go_at_call 38; refine (unhide HLO).mono ?_; rintro e wr ⟨rfl, rfl⟩)
              | (go_at_call 44; refine (RByte_any _ _).mono ?_; rintro e wr ⟨rfl, rfl⟩)
              | (go_at_call 45; refine (unhide HJN).mono ?_; rintro e w5 ⟨rfl, b5⟩))
            go_ret3
            rw [unhide HRES]
            exact ⟨answB_none _ _ _, hb.trans (b5.mono hsz)⟩
          | false =>
            have hres := unhide hf
            rw [rd_ok hlt ((unhide HI3).trans (if_neg (by simp)))] at hres
            have HRES := hide hres
            clear hres h0
            go_wp2_with (first
              | (go_at_call 38; refine (unhide HLO).mono ?_; rintro e wr ⟨rfl, rfl⟩)
              | (go_at_call 44; refine (RByte_any _ _).mono ?_; rintro e wr ⟨rfl, rfl⟩)
              | (go_at_call 45; refine (unhide HJN).mono ?_; rintro e w5 ⟨rfl, b5⟩
                 have hc5 : w5.cell? ⟨gu, ou + p, none⟩ = some (.int .u16 x) := (b5.cell (p := ⟨gu, ou + p, none⟩) (Nat.lt_of_lt_of_le hgu hsz)).trans hc
                 obtain ⟨v6, w6, r6, o6, b6⟩ := (Own.below (unhide ho) b5).push1B (x - 56320) (by omega) (Nat.le_trans hsz b5.size); have R6 := hide r6; clear r6)
              | (at_builtin; refine wpList_append_known rfl _ _ 30 30 rfl _ _ rfl rfl _ _ (unhide R6) ?_))
            go_roundw
            case rel => exact ⟨p + 1, bs ++ [ubyt x], by omega, by go_num, HRES, hide o6, by simp; omega, hide (fun y hy => by rcases List.mem_append.1 hy with h | h; exact unhide hin y h; rw [List.mem_singleton] at h; rw [h]; unfold ubyt; omega), (hb.trans (b5.mono hsz)).trans b6⟩
            case measure => simp [intOf]; omega
      · have hres := unhide hf
        rw [rd_ok hlt ((unhide HI).trans (if_neg h0)), show p + (n - 1 + 1) = p + n by omega] at hres
        have HRES := hide hres
        rw [decide_eq_false h0] at HLO
        have HAT' := hide (unhide HAT h0)
        have hr1 : isRune r = true := unhide HRU h0
        have hr2 : 0 ≤ r ∧ r < 55296 ∨ 57343 < r ∧ r ≤ 1114111 := of_decide_eq_true hr1
        have hel := enc_len r
        have hel3 := unhide HE3 h0
        clear hres HAT HRU hr1
        go_wp2_with (go_at_call 38; refine (unhide HLO).mono ?_; rintro e wr ⟨rfl, rfl⟩)
        refine (unhide HAT').mono ?_
        rintro e w3 ⟨rfl, k3, rfl⟩
        go_wp2_with fail
        refine (RBytes_fresh r (wr.drewN k3) (by omega) (by omega)).mono ?_
        rintro e w4 ⟨g4, rfl, l4, b4⟩
        have o4 := Own.below (w := wr.drewN k3) (unhide ho) b4
        have y4 := bchain (Nat.le_refl _) (Below.drewN hb k3) b4
        obtain ⟨v5, w5, r5, o5, b5⟩ := push_moreB w4 w.heap.size _ bs (enc r) g4 (enc r).length 30 o4 l4 (by omega) hel.1 hel.2 y4.size
        have R5 := hide r5
        clear r5 o4 l4
        generalize hle : (enc r).length = m at *
        have HLE := hide hle
        clear hle
        go_wp2_with (at_builtin; refine wpList_append_known rfl _ _ 30 30 rfl _ _ rfl rfl _ _ (unhide R5) ?_)
        go_roundw
        case rel => exact ⟨p + n, bs ++ enc r, by omega, by go_num, HRES, hide o5, by rw [List.length_append, unhide HLE]; omega, hide (fun y hy => by rcases List.mem_append.1 hy with h | h; exact unhide hin y h; exact enc_bytes r y h), y4.trans b5⟩
        case measure => simp [intOf]; omega
    · obtain rfl : p = u.length := by omega
      have hres := unhide hf
      rw [rd_end hlt] at hres
      have HRES := hide hres
      obtain ⟨a5, c5, e5, i5⟩ := (unhide ho).bsV (unhide hin)
      subst e5
      have I5 := hide i5
      clear hres hf ho i5
      go_wp2
      go_ret3
      rw [unhide HRES]
      exact ⟨⟨_, _, rfl, unhide I5⟩, hb⟩


end Go.Proofs.YtlfcplipnmclhaaDoor
