/- Layer 3: []uint16 in memory; units are appended to one's own; contracts of appendRune and To. -/
import Derived.Test.YtnkeohiibninfabDoorUni
import Derived.Test.YtnkeohiibninfabDoorRun
import Derived.Test.YtnkeohiibninfabDoorOwnR
import Derived.Laws.MakeOwn
import Derived.Deep.AppendLies
namespace Go.Proofs.YtnkeohiibninfabDoor
open Go.ChangeShapes Go.WideShapes Go.ChangeAt Go.RowKit

/-- the units l lie in block g from off on -/
def LiesU (w : World) (g off : Nat) (l : List Int) : Prop := ∀ i, i < l.length → w.cell? ⟨g, off + i, none⟩ = some (.int .u16 (l.getD i 0)) ∧ 0 ≤ l.getD i 0 ∧ l.getD i 0 ≤ 65535
/-- a []uint16 that came in: its units, its room -/
def IsU (w : World) (a0 : Option Addr) (cap : Nat) (l : List Int) : Prop := l.length ≤ cap ∧ (l = [] ∨ ∃ g off, a0 = some ⟨g, off, none⟩ ∧ LiesU w g off l) ∧ ∀ x ∈ l, 0 ≤ x ∧ x ≤ 65535
/-- v is a []uint16 of the call's own, from block B on, that holds the units l -/
def OwnU (w : World) (B : Nat) (v : Value) (l : List Int) : Prop := w.ownsRow B 83 1 v l.length (l.map (Value.int .u16))
theorem LiesU.drewN {w : World} {g off : Nat} {l : List Int} (h : LiesU w g off l) (n : Nat) : LiesU (w.drewN n) g off l := h
theorem LiesU.below {w w' : World} {B g off : Nat} {l : List Int} (h : LiesU w g off l) (hb : Below B w w') (hB : g < B) : LiesU w' g off l :=
  fun i hi => ⟨(hb.cell (p := ⟨g, off + i, none⟩) hB).trans (h i hi).1, (h i hi).2⟩
theorem LiesU.lt {w : World} {g off : Nat} {l : List Int} (h : LiesU w g off l) (hl : 0 < l.length) : g < w.heap.size := by
  have := (h 0 hl).1
  rcases Nat.lt_or_ge g w.heap.size with h' | h'
  · exact h'
  · simp [World.cell?, Array.getElem?_eq_none h'] at this
theorem LiesU.drop {w : World} {g off : Nat} {l : List Int} (h : LiesU w g off l) (k : Nat) : LiesU w g (off + k) (l.drop k) := by
  intro i hi
  have := h (k + i) (by simp at hi; omega)
  rw [← Nat.add_assoc] at this
  simpa [List.getD, List.getElem?_drop] using this
theorem IsU.below {w w' : World} {B : Nat} {a0 : Option Addr} {cap : Nat} {l : List Int} (h : IsU w a0 cap l) (hb : Below B w w') (hB : w.heap.size ≤ B) : IsU w' a0 cap l := by
  obtain ⟨h1, h3, h4⟩ := h
  refine ⟨h1, ?_, h4⟩
  rcases h3 with h3 | ⟨g, off, rfl, hL⟩
  · exact Or.inl h3
  · rcases Nat.eq_zero_or_pos l.length with h0 | h0
    · exact Or.inl (List.length_eq_zero_iff.1 h0)
    · exact Or.inr ⟨g, off, rfl, hL.below hb (Nat.lt_of_lt_of_le (hL.lt h0) hB)⟩
theorem IsU.drewN {w : World} {a0 : Option Addr} {cap : Nat} {l : List Int} (h : IsU w a0 cap l) (n : Nat) : IsU (w.drewN n) a0 cap l := h
theorem OwnU.isU {w : World} {B : Nat} {v : Value} {l : List Int} (h : OwnU w B v l) (hl : ∀ x ∈ l, 0 ≤ x ∧ x ≤ 65535) : ∃ a cap, v = .slice a l.length cap ∧ IsU w a cap l := by
  have hc := h
  rcases h.2 with ⟨rfl, h0⟩ | ⟨g, cap, cur, rfl, _, hg, hle, _⟩
  · exact ⟨none, 0, by rw [h0], by omega, Or.inl (List.length_eq_zero_iff.1 h0), hl⟩
  · refine ⟨_, cap, rfl, hle, Or.inr ⟨g, 0, rfl, fun k hk => ⟨?_, ?_⟩⟩, hl⟩
    · have := World.ownsRow.cells hc rfl k (.int .u16 (l.getD k 0)) (by simp [List.getElem?_eq_getElem hk, List.getD])
      rwa [Addr.add_lit] at this
    · have := hl _ (List.getElem_mem hk)
      simpa [List.getD, List.getElem?_eq_getElem hk] using this

theorem info_u16 : ∃ i, Tryd.prog.info? 83 = some i ∧ i.zero = some (.int .u16 0) ∧ i.size = 1 ∧ i.bytes = 2 := by
  refine ⟨_, rfl, ?_, ?_, ?_⟩ <;> rfl
theorem info_i32 : ∃ i, Tryd.prog.info? 21 = some i ∧ i.zero = some (.int .i32 0) ∧ i.size = 1 ∧ i.bytes = 4 := by
  refine ⟨_, rfl, ?_, ?_, ?_⟩ <;> rfl

/-- make([]uint16, 0, c), make([]rune, 0, c), make([]byte, 0, c) -/
theorem make_u16 (w : World) (c : Nat) (hc : c ≤ 4194304) : ∃ w', (Instr.makeSlice 39 (.int .i64 0) (.int .i64 (c : Int))).run Tryd.prog w = .ok (.slice (some ⟨w.heap.size, 0, none⟩) 0 c) w' ∧ OwnU w' w.heap.size (.slice (some ⟨w.heap.size, 0, none⟩) 0 c) [] ∧ Below w.heap.size w w' := by
  obtain ⟨i, hi, hz, hs, hby⟩ := info_u16
  obtain ⟨w', h1, h2, h3⟩ := run_make_own (P := Tryd.prog) w w.heap.size 39 83 i (.int .u16 0) 1 Tryd.underlying39 hi hz hs .i64 .i64 c (by rw [hby]; omega) (by unfold maxLen; omega) (Nat.le_refl _)
  exact ⟨w', h1, h2, (Below.refl _ w).grown h3 (Nat.le_refl _) (fun k e => by cases e)⟩
theorem make_i32 (w : World) (c : Nat) (hc : c ≤ 4194304) : ∃ w', (Instr.makeSlice 68 (.int .i64 0) (.int .i64 (c : Int))).run Tryd.prog w = .ok (.slice (some ⟨w.heap.size, 0, none⟩) 0 c) w' ∧ w'.ownsRow w.heap.size 21 1 (.slice (some ⟨w.heap.size, 0, none⟩) 0 c) 0 [] ∧ Below w.heap.size w w' := by
  obtain ⟨i, hi, hz, hs, hby⟩ := info_i32
  obtain ⟨w', h1, h2, h3⟩ := run_make_own (P := Tryd.prog) w w.heap.size 68 21 i (.int .i32 0) 1 Tryd.underlying68 hi hz hs .i64 .i64 c (by rw [hby]; omega) (by unfold maxLen; omega) (Nat.le_refl _)
  exact ⟨w', h1, h2, (Below.refl _ w).grown h3 (Nat.le_refl _) (fun k e => by cases e)⟩
theorem make_u8 (w : World) (c : Nat) (hc : c ≤ 4194304) : ∃ w', (Instr.makeSlice 22 (.int .i64 0) (.int .i64 (c : Int))).run Tryd.prog w = .ok (.slice (some ⟨w.heap.size, 0, none⟩) 0 c) w' ∧ Own w' w.heap.size (.slice (some ⟨w.heap.size, 0, none⟩) 0 c) [] ∧ Below w.heap.size w w' := by
  obtain ⟨i, hi, hz, hs, hby⟩ := info_u8
  obtain ⟨w', h1, h2, h3⟩ := run_make_own (P := Tryd.prog) w w.heap.size 22 5 i (.int .u8 0) 1 Tryd.underlying22 hi hz hs .i64 .i64 c (by rw [hby]; omega) (by unfold maxLen; omega) (Nat.le_refl _)
  exact ⟨w', h1, h2, (Below.refl _ w).grown h3 (Nat.le_refl _) (fun k e => by cases e)⟩

theorem push_u16s (W : World) (B : Nat) (v : Value) (l m : List Int) (ty : TypeId) (h : OwnU W B v l) (hn : l.length ≤ 8388608) (hm : m.length ≤ 4) (h0 : 0 < m.length) (hB : B ≤ W.heap.size) :
    ∃ v' W', (Builtin.append_ #[39, 39] ty #[v, .slice (some ⟨W.heap.size, 0, none⟩) m.length m.length]).run Tryd.prog (W.alloc (.cells (m.map (Value.int .u16)).toArray 83)) = .ok v' W' ∧
      OwnU W' B v' (l ++ m) ∧ Below B W W' ∧ (W.alloc (.cells (m.map (Value.int .u16)).toArray 83)).grownBy W' v.ownBlock := by
  obtain ⟨i, hi, hz, hs, hby⟩ := info_u16
  have hr := World.ownsRow.alloc h (.cells (m.map (Value.int .u16)).toArray 83)
  obtain ⟨g, c, W', hrun, ho, hg, _, _⟩ := run_append_lies (P := Tryd.prog) (W.alloc (.cells (m.map (Value.int .u16)).toArray 83)) 39 ty B 83 i (.int .u16 0) 1 2 Tryd.underlying39 hi hz hs hby rfl (by decide)
    v l.length (l.map (Value.int .u16)) hr ⟨W.heap.size, 0, none⟩ m.length m.length (m.map (Value.int .u16)) (by simp)
    (fun j u hj => by
      rw [Addr.add_lit, Nat.zero_add]
      refine (World.cell?_alloc_mark W _ _ (0, 0) j).trans ?_
      rw [List.getElem?_toArray]; exact hj)
    (fun u hu => by obtain ⟨x, _, rfl⟩ := List.mem_map.1 hu; rfl) h0 (by unfold maxLen; omega) (by omega) (by simp; omega) _ rfl
  refine ⟨_, W', hrun, ?_, ((Below.refl B W).alloc hB _).grown hg (by simp; omega) (fun k hk => (hr.lt k hk).1), hg⟩
  unfold OwnU
  simpa using ho
theorem push_u16 (W : World) (B : Nat) (v : Value) (l : List Int) (x : Int) (ty : TypeId) (h : OwnU W B v l) (hn : l.length ≤ 8388608) (hB : B ≤ W.heap.size) :
    ∃ v' W', (Builtin.append_ #[39, 39] ty #[v, .slice (some ⟨W.heap.size, 0, none⟩) 1 1]).run Tryd.prog (W.alloc (.cells #[.int .u16 x] 83)) = .ok v' W' ∧ OwnU W' B v' (l ++ [x]) ∧ Below B W W' ∧ (W.alloc (.cells #[.int .u16 x] 83)).grownBy W' v.ownBlock := by
  have := push_u16s W B v l [x] ty h hn (by simp) (by simp) hB
  simpa using this
theorem push_u16x2 (W : World) (B : Nat) (v : Value) (l : List Int) (x y : Int) (ty : TypeId) (h : OwnU W B v l) (hn : l.length ≤ 8388608) (hB : B ≤ W.heap.size) :
    ∃ v' W', (Builtin.append_ #[39, 39] ty #[v, .slice (some ⟨W.heap.size, 0, none⟩) 2 2]).run Tryd.prog (W.alloc (.cells #[.int .u16 x, .int .u16 y] 83)) = .ok v' W' ∧ OwnU W' B v' (l ++ [x, y]) ∧ Below B W W' ∧ (W.alloc (.cells #[.int .u16 x, .int .u16 y] 83)).grownBy W' v.ownBlock := by
  have := push_u16s W B v l [x, y] ty h hn (by simp) (by simp) hB
  simpa using this

/-- the units of a rune -/
def uni (r : Int) : List Int := if two r then [hiU r, loU r] else [r]
theorem uni_len (r : Int) : (uni r).length ≤ 2 ∧ 1 ≤ (uni r).length := by unfold uni; split <;> simp
theorem uni_in {r : Int} (h : isRune r = true) : ∀ x ∈ uni r, 0 ≤ x ∧ x ≤ 65535 := by
  have h' : 0 ≤ r ∧ r < 55296 ∨ 57343 < r ∧ r ≤ 1114111 := of_decide_eq_true h
  intro x hx
  unfold uni at hx
  split at hx
  · rename_i h2
    have h3 : 65536 ≤ r ∧ r ≤ 1114111 := of_decide_eq_true h2
    simp only [List.mem_cons, List.not_mem_nil, or_false] at hx
    unfold hiU loU at hx
    omega
  · rename_i h2
    have h3 : ¬ (65536 ≤ r ∧ r ≤ 1114111) := fun h => h2 (decide_eq_true h)
    simp only [List.mem_cons, List.not_mem_nil, or_false] at hx
    omega

set_option maxHeartbeats 400000 in
theorem appendRune_at (B : Nat) (v : Value) (l : List Int) (r : Int) (w : World) (h : OwnU w B v l) (hr : isRune r = true) (hn : l.length ≤ 8388608) (hB : B ≤ w.heap.size) :
    Calls Tryd.prog 33 #[v, .int .i32 r] w fun e w' => ∃ v', e = .returned v' ∧ OwnU w' B v' (l ++ uni r) ∧ Below B w w' ∧ ∃ o : Obj, (w.alloc o).grownBy w' v.ownBlock := by
  have h' : 0 ≤ r ∧ r < 55296 ∨ 57343 < r ∧ r ≤ 1114111 := of_decide_eq_true hr
  have hs := Split_any r w (by omega) (by omega)
  cases h2 : two r with
  | true =>
    have h3 : 65536 ≤ r ∧ r ≤ 1114111 := of_decide_eq_true h2
    rw [splitV, h2, if_pos rfl] at hs
    rw [uni, if_pos h2]
    have HS := hide hs
    obtain ⟨v', w', r1, o1, b1, g1⟩ := push_u16x2 w B v l (hiU r) (loU r) 39 h hn hB
    have R1 := hide r1
    clear r1 hs h2 h hr
    go_enter Tryd.func33, Tryd.ntmps33
    go_wp2_with (first
      | (go_at_call 44; refine (unhide HS).mono ?_; rintro e w' ⟨rfl, rfl⟩)
      | (at_builtin; refine wpList_append_known rfl _ _ 39 39 rfl _ _ rfl rfl _ _ (unhide R1) ?_))
    go_ret
    exact ⟨_, rfl, o1, b1, _, g1⟩
  | false =>
    have h3 : ¬ (65536 ≤ r ∧ r ≤ 1114111) := of_decide_eq_false h2
    rw [splitV, h2, if_neg (by simp)] at hs
    rw [uni, if_neg (by simp [h2])]
    have HS := hide hs
    obtain ⟨v', w', r1, o1, b1, g1⟩ := push_u16 w B v l r 39 h hn hB
    have R1 := hide r1
    have hw : IntKind.u16.wrap r = r := by rw [IntKind.wrap_u16]; omega
    clear r1 hs h2 h hr
    go_enter Tryd.func33, Tryd.ntmps33
    go_wp2_with (first
      | (go_at_call 44; refine (unhide HS).mono ?_; rintro e w' ⟨rfl, rfl⟩)
      | (at_builtin; refine wpList_append_known rfl _ _ 39 39 rfl _ _ rfl rfl _ _ (unhide R1) ?_))
    go_ret
    exact ⟨_, rfl, o1, b1, _, g1⟩

end Go.Proofs.YtnkeohiibninfabDoor
