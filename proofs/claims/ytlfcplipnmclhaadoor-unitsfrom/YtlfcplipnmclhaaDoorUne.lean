/- Layer 3: contracts of utf8.AppendRune onto bytes of one's own, and of units' joins and FromExact. -/
import Derived.Test.YtlfcplipnmclhaaDoorUnf
import Derived.Lib.RuneBytes
namespace Go.Proofs.YtlfcplipnmclhaaDoor
open Go.ChangeShapes Go.WideShapes Go.ChangeAt Go.RowKit

theorem Own.isB {w : World} {B : Nat} {v : Value} {l : List Int} (h : Own w B v l) (hl : ∀ x ∈ l, 0 ≤ x ∧ x ≤ 255) (hn : l.length ≤ 140737488351232) : ∃ a cap, v = .slice a l.length cap ∧ IsB w a cap l := by
  have hc := h
  rcases h.2 with ⟨rfl, h0⟩ | ⟨g, cap, cur, rfl, _, hg, hle, _⟩
  · exact ⟨none, 0, by rw [h0], by omega, hn, Or.inl (List.length_eq_zero_iff.1 h0), hl⟩
  · exact ⟨_, cap, rfl, hle, hn, Or.inr ⟨g, 0, rfl, hc.lies hl⟩, hl⟩

theorem push_u8s (W : World) (B : Nat) (v : Value) (l m : List Int) (ty : TypeId) (h : Own W B v l) (hn : l.length ≤ 140737488350000) (hm : m.length ≤ 4) (h0 : 0 < m.length) (hB : B ≤ W.heap.size) :
    ∃ v' W', (Builtin.append_ #[30, 30] ty #[v, .slice (some ⟨W.heap.size, 0, none⟩) m.length m.length]).run Tryd.prog (W.alloc (.cells (m.map (Value.int .u8)).toArray 5)) = .ok v' W' ∧
      Own W' B v' (l ++ m) ∧ Below B W W' := by
  obtain ⟨i, hi, hz, hs, hby⟩ := info_u8
  have hr := World.ownsRow.alloc h (.cells (m.map (Value.int .u8)).toArray 5)
  obtain ⟨g, c, W', hrun, ho, hg, _, _⟩ := run_append_lies (P := Tryd.prog) (W.alloc (.cells (m.map (Value.int .u8)).toArray 5)) 30 ty B 5 i (.int .u8 0) 1 1 Tryd.underlying30 hi hz hs hby rfl (by decide)
    v l.length (l.map (Value.int .u8)) hr ⟨W.heap.size, 0, none⟩ m.length m.length (m.map (Value.int .u8)) (by simp)
    (fun j u hj => by
      rw [Addr.add_lit, Nat.zero_add]
      refine (World.cell?_alloc_mark W _ _ (0, 0) j).trans ?_
      rw [List.getElem?_toArray]; exact hj)
    (fun u hu => by obtain ⟨x, _, rfl⟩ := List.mem_map.1 hu; rfl) h0 (by unfold maxLen; omega) (by omega) (by simp; omega) _ rfl
  refine ⟨_, W', hrun, ?_, ((Below.refl B W).alloc hB _).grown hg (by simp; omega) (fun k hk => (hr.lt k hk).1)⟩
  unfold Own
  simpa using ho

theorem Own.push1 {W : World} {B : Nat} {v : Value} {l : List Int} (h : Own W B v l) (x : Int) (hn : l.length ≤ 140737488350000) (hB : B ≤ W.heap.size) : ∃ v' W', (Builtin.append_ #[30, 30] 30 #[v, .slice (some ⟨W.heap.size, 0, none⟩) 1 1]).run Tryd.prog (W.alloc (.cells #[.int .u8 x] 5)) = .ok v' W' ∧ Own W' B v' (l ++ [x]) ∧ Below B W W' := by
  simpa using push_u8s W B v l [x] 30 h hn (by simp) (by simp) hB
theorem Own.push2 {W : World} {B : Nat} {v : Value} {l : List Int} (h : Own W B v l) (x y : Int) (hn : l.length ≤ 140737488350000) (hB : B ≤ W.heap.size) : ∃ v' W', (Builtin.append_ #[30, 30] 30 #[v, .slice (some ⟨W.heap.size, 0, none⟩) 2 2]).run Tryd.prog (W.alloc (.cells #[.int .u8 x, .int .u8 y] 5)) = .ok v' W' ∧ Own W' B v' (l ++ [x, y]) ∧ Below B W W' := by
  simpa using push_u8s W B v l [x, y] 30 h hn (by simp) (by simp) hB
theorem Own.push3 {W : World} {B : Nat} {v : Value} {l : List Int} (h : Own W B v l) (x y z : Int) (hn : l.length ≤ 140737488350000) (hB : B ≤ W.heap.size) : ∃ v' W', (Builtin.append_ #[30, 30] 30 #[v, .slice (some ⟨W.heap.size, 0, none⟩) 3 3]).run Tryd.prog (W.alloc (.cells #[.int .u8 x, .int .u8 y, .int .u8 z] 5)) = .ok v' W' ∧ Own W' B v' (l ++ [x, y, z]) ∧ Below B W W' := by
  simpa using push_u8s W B v l [x, y, z] 30 h hn (by simp) (by simp) hB
theorem Own.push4 {W : World} {B : Nat} {v : Value} {l : List Int} (h : Own W B v l) (x y z t : Int) (hn : l.length ≤ 140737488350000) (hB : B ≤ W.heap.size) : ∃ v' W', (Builtin.append_ #[30, 30] 30 #[v, .slice (some ⟨W.heap.size, 0, none⟩) 4 4]).run Tryd.prog (W.alloc (.cells #[.int .u8 x, .int .u8 y, .int .u8 z, .int .u8 t] 5)) = .ok v' W' ∧ Own W' B v' (l ++ [x, y, z, t]) ∧ Below B W W' := by
  simpa using push_u8s W B v l [x, y, z, t] 30 h hn (by simp) (by simp) hB

set_option maxHeartbeats 1000000 in
theorem appendRuneNonASCII_at (B : Nat) (v : Value) (l : List Int) (r : Int) (w : World) (h : Own w B v l) (hr : isRune r = true) (h128 : 128 ≤ r) (hn : l.length ≤ 140737488350000) (hB : B ≤ w.heap.size) :
    Calls Tryd.prog 52 #[v, .int .i32 r] w fun e w' => ∃ v', e = .returned v' ∧ Own w' B v' (l ++ enc r) ∧ Below B w w' := by
  have h' : 0 ≤ r ∧ r < 55296 ∨ 57343 < r ∧ r ≤ 1114111 := of_decide_eq_true hr
  by_cases a2 : r < 2048
  · rw [enc_2 h128 a2]
    obtain ⟨v', w', r1, o1, b1⟩ := h.push2 (192 + r / 64) (128 + r % 64) hn hB
    have R1 := hide r1
    clear r1 h hr h'
    go_enter Tryd.func52, Tryd.ntmps52
    go_wp2_with (at_builtin; refine wpList_append_known rfl _ _ 30 30 rfl _ _ rfl rfl _ _ (unhide R1) ?_)
    go_ret
    exact ⟨_, rfl, o1, b1⟩
  · by_cases a3 : r < 65536
    · rw [enc_3 (by omega) a3 (by omega)]
      obtain ⟨v', w', r1, o1, b1⟩ := h.push3 (224 + r / 4096) (128 + r / 64 % 64) (128 + r % 64) hn hB
      have R1 := hide r1
      clear r1 h hr
      rcases h' with h' | h'
      · go_enter Tryd.func52, Tryd.ntmps52
        go_wp2_with (at_builtin; refine wpList_append_known rfl _ _ 30 30 rfl _ _ rfl rfl _ _ (unhide R1) ?_)
        go_ret
        exact ⟨_, rfl, o1, b1⟩
      · go_enter Tryd.func52, Tryd.ntmps52
        go_wp2_with (at_builtin; refine wpList_append_known rfl _ _ 30 30 rfl _ _ rfl rfl _ _ (unhide R1) ?_)
        go_ret
        exact ⟨_, rfl, o1, b1⟩
    · rw [enc_4 (by omega) (by omega)]
      obtain ⟨v', w', r1, o1, b1⟩ := h.push4 (240 + r / 262144) (128 + r / 4096 % 64) (128 + r / 64 % 64) (128 + r % 64) hn hB
      have R1 := hide r1
      have h2 : r ≤ 1114111 := by omega
      clear r1 h hr h'
      go_enter Tryd.func52, Tryd.ntmps52
      go_wp2_with (at_builtin; refine wpList_append_known rfl _ _ 30 30 rfl _ _ rfl rfl _ _ (unhide R1) ?_)
      go_ret
      exact ⟨_, rfl, o1, b1⟩

theorem AppendRune_at (B : Nat) (v : Value) (l : List Int) (r : Int) (w : World) (h : Own w B v l) (hr : isRune r = true) (hn : l.length ≤ 140737488350000) (hB : B ≤ w.heap.size) :
    Calls Tryd.prog 40 #[v, .int .i32 r] w fun e w' => ∃ v', e = .returned v' ∧ Own w' B v' (l ++ enc r) ∧ Below B w w' := by
  have h' : 0 ≤ r ∧ r < 55296 ∨ 57343 < r ∧ r ≤ 1114111 := of_decide_eq_true hr
  by_cases a1 : r < 128
  · rw [enc_1 (by omega) a1]
    obtain ⟨v', w', r1, o1, b1⟩ := h.push1 r hn hB
    have R1 := hide r1
    have h0 : 0 ≤ r := by omega
    clear r1 h hr h'
    go_enter Tryd.func40, Tryd.ntmps40
    go_wp2_with (at_builtin; refine wpList_append_known rfl _ _ 30 30 rfl _ _ rfl rfl _ _ (unhide R1) ?_)
    go_ret
    exact ⟨_, rfl, o1, b1⟩
  · have HC := hide (appendRuneNonASCII_at B v l r w h hr (by omega) hn hB)
    have h2 : r ≤ 1114111 := by omega
    clear h hr h'
    go_enter Tryd.func40, Tryd.ntmps40
    go_wp2_with fail
    refine (unhide HC).mono ?_
    rintro e w1 ⟨v1, rfl, o1, b1⟩
    go_wp2
    go_ret
    exact ⟨_, rfl, o1, b1⟩

end Go.Proofs.YtlfcplipnmclhaaDoor
