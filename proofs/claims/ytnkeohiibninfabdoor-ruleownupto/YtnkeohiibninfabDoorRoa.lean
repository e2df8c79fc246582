/- Rows that may be written and grown whatever they hold; bytes are appended to one's own. · Layer 6: rule's Cut once more: what it answers lies in memory of the call's own. · Layer 6: rows of bytes and of numbers that are written and grown; what outlasts it. · Layer 6: the walk of RuleOwn, for arguments under the bound. -/
import Derived.Test.YtnkeohiibninfabDoorOwnR
import Derived.Deep.AppendSrc
import Derived.Test.YtnkeohiibninfabDoorRuv
import Derived.Test.YtnkeohiibninfabDoorRr9
import Derived.Test.YtnkeohiibninfabDoorRwk

section
namespace Go.Proofs.YtnkeohiibninfabDoor
open Go.ChangeShapes Go.WideShapes Go.ChangeAt Go.RowKit

theorem bchain {B : Nat} {a b c : World} (hB : B ≤ a.heap.size) (h : Below B a b) (k : Below b.heap.size b c) : Below B a c := h.trans (k.mono (Nat.le_trans hB h.size))

theorem Own.isB {w : World} {B : Nat} {v : Value} {l : List Int} (h : Own w B v l) (hl : ∀ x ∈ l, 0 ≤ x ∧ x ≤ 255) (hn : l.length ≤ 140737488351232) : ∃ a cap, v = .slice a l.length cap ∧ IsB w a cap l := by
  have hc := h
  rcases h.2 with ⟨rfl, h0⟩ | ⟨g, cap, cur, rfl, _, hg, hle, _⟩
  · exact ⟨none, 0, by rw [h0], by omega, hn, Or.inl (List.length_eq_zero_iff.1 h0), hl⟩
  · exact ⟨_, cap, rfl, hle, hn, Or.inr ⟨g, 0, rfl, hc.lies hl⟩, hl⟩

theorem push_u8s (W : World) (B : Nat) (v : Value) (l m : List Int) (ty : TypeId) (h : Own W B v l) (hn : l.length ≤ 140737488350000) (hm : m.length ≤ 4) (h0 : 0 < m.length) (hB : B ≤ W.heap.size) :
    ∃ v' W', (Builtin.append_ #[22, 22] ty #[v, .slice (some ⟨W.heap.size, 0, none⟩) m.length m.length]).run Tryd.prog (W.alloc (.cells (m.map (Value.int .u8)).toArray 5)) = .ok v' W' ∧
      Own W' B v' (l ++ m) ∧ Below B W W' := by
  obtain ⟨i, hi, hz, hs, hby⟩ := info_u8
  have hr := World.ownsRow.alloc h (.cells (m.map (Value.int .u8)).toArray 5)
  obtain ⟨g, c, W', hrun, ho, hg, _, _⟩ := run_append_lies (P := Tryd.prog) (W.alloc (.cells (m.map (Value.int .u8)).toArray 5)) 22 ty B 5 i (.int .u8 0) 1 1 Tryd.underlying22 hi hz hs hby rfl (by decide)
    v l.length (l.map (Value.int .u8)) hr ⟨W.heap.size, 0, none⟩ m.length m.length (m.map (Value.int .u8)) (by simp)
    (fun j u hj => by
      rw [Addr.add_lit, Nat.zero_add]
      refine (World.cell?_alloc_mark W _ _ (0, 0) j).trans ?_
      rw [List.getElem?_toArray]; exact hj)
    (fun u hu => by obtain ⟨x, _, rfl⟩ := List.mem_map.1 hu; rfl) h0 (by unfold maxLen; omega) (by omega) (by simp; omega) _ rfl
  refine ⟨_, W', hrun, ?_, ((Below.refl B W).alloc hB _).grown hg (by simp; omega) (fun k hk => (hr.lt k hk).1)⟩
  unfold Own
  simpa using ho

theorem Own.push1 {W : World} {B : Nat} {v : Value} {l : List Int} (h : Own W B v l) (x : Int) (hn : l.length ≤ 140737488350000) (hB : B ≤ W.heap.size) : ∃ v' W', (Builtin.append_ #[22, 22] 22 #[v, .slice (some ⟨W.heap.size, 0, none⟩) 1 1]).run Tryd.prog (W.alloc (.cells #[.int .u8 x] 5)) = .ok v' W' ∧ Own W' B v' (l ++ [x]) ∧ Below B W W' := by
  simpa using push_u8s W B v l [x] 22 h hn (by simp) (by simp) hB
theorem Own.push2 {W : World} {B : Nat} {v : Value} {l : List Int} (h : Own W B v l) (x y : Int) (hn : l.length ≤ 140737488350000) (hB : B ≤ W.heap.size) : ∃ v' W', (Builtin.append_ #[22, 22] 22 #[v, .slice (some ⟨W.heap.size, 0, none⟩) 2 2]).run Tryd.prog (W.alloc (.cells #[.int .u8 x, .int .u8 y] 5)) = .ok v' W' ∧ Own W' B v' (l ++ [x, y]) ∧ Below B W W' := by
  simpa using push_u8s W B v l [x, y] 22 h hn (by simp) (by simp) hB
theorem Own.push3 {W : World} {B : Nat} {v : Value} {l : List Int} (h : Own W B v l) (x y z : Int) (hn : l.length ≤ 140737488350000) (hB : B ≤ W.heap.size) : ∃ v' W', (Builtin.append_ #[22, 22] 22 #[v, .slice (some ⟨W.heap.size, 0, none⟩) 3 3]).run Tryd.prog (W.alloc (.cells #[.int .u8 x, .int .u8 y, .int .u8 z] 5)) = .ok v' W' ∧ Own W' B v' (l ++ [x, y, z]) ∧ Below B W W' := by
  simpa using push_u8s W B v l [x, y, z] 22 h hn (by simp) (by simp) hB
theorem Own.push4 {W : World} {B : Nat} {v : Value} {l : List Int} (h : Own W B v l) (x y z t : Int) (hn : l.length ≤ 140737488350000) (hB : B ≤ W.heap.size) : ∃ v' W', (Builtin.append_ #[22, 22] 22 #[v, .slice (some ⟨W.heap.size, 0, none⟩) 4 4]).run Tryd.prog (W.alloc (.cells #[.int .u8 x, .int .u8 y, .int .u8 z, .int .u8 t] 5)) = .ok v' W' ∧ Own W' B v' (l ++ [x, y, z, t]) ∧ Below B W W' := by
  simpa using push_u8s W B v l [x, y, z, t] 22 h hn (by simp) (by simp) hB

/-- a row of integers of at most N elements, none of its cells frozen -/
def RwX (k : IntKind) (N : Nat) (W : World) (v : Value) : Prop := v = .slice none 0 0 ∨ ∃ g n cap, v = .slice (some ⟨g, 0, none⟩) n cap ∧ n ≤ N ∧ g < W.heap.size ∧ n ≤ cap ∧
  (∀ i, i < cap → (W.cell? ⟨g, i, none⟩).isSome = true ∧ W.frozen? ⟨g, i, none⟩ = false) ∧ ∀ i, i < n → ∃ b, W.cell? ⟨g, i, none⟩ = some (.int k b)
theorem grownO_trans {w w1 w2 : World} {r row : Option Nat} (h : w.grownBy w1 r) (h2 : w1.grownBy w2 row) (hr : ∀ k, row = some k → r = some k ∨ w.heap.size ≤ k) : w.grownBy w2 r := by
  refine ⟨h2.os.trans h.os, h2.tape.trans h.tape, h2.output.trans h.output, Nat.le_trans h.size h2.size, fun k hk hne => ?_⟩
  refine (h2.block k (Nat.lt_of_lt_of_le hk h.size) (fun e => ?_)).trans (h.block k hk hne)
  rcases hr k e.symm with h' | h'
  · exact hne h'.symm
  · omega
theorem setCells_one (w : World) (b o : Nat) (v : Value) : w.setCells b o [v] = w.setCell ⟨b, o, none⟩ v := rfl
theorem cell_set {w : World} {g k : Nat} {v : Value} (h : (w.cell? ⟨g, k, none⟩).isSome = true) (j : Nat) : (w.setCell ⟨g, k, none⟩ v).cell? ⟨g, j, none⟩ = if j = k then some v else w.cell? ⟨g, j, none⟩ := by
  rw [← setCells_one]
  by_cases hjk : j = k
  · subst hjk
    rw [if_pos rfl]
    have := World.cell?_setCells_in g [v] j w (fun i hi => by obtain rfl : i = 0 := by simpa using hi
                                                              exact h) 0 (by simp)
    simpa using this
  · rw [if_neg hjk]
    exact World.cell?_setCells_out g [v] k w ⟨g, j, none⟩ (fun _ _ => by simp; omega)
theorem frozen_set {w : World} {g k : Nat} {v : Value} (j : Nat) : (w.setCell ⟨g, k, none⟩ v).frozen? ⟨g, j, none⟩ = w.frozen? ⟨g, j, none⟩ := by
  rw [← setCells_one]
  exact World.frozen?_setCells g [v] k w ⟨g, j, none⟩
theorem size_set (w : World) (a : Addr) (v : Value) : (w.setCell a v).heap.size = w.heap.size := by simp [World.setCell]
theorem rwX_set {k : IntKind} {N : Nat} {W : World} {g n cap : Nat} (h : RwX k N W (.slice (some ⟨g, 0, none⟩) n cap)) (j : Nat) (x : Int) (hj : j < n) : RwX k N (W.setCell ⟨g, j, none⟩ (.int k x)) (.slice (some ⟨g, 0, none⟩) n cap) := by
  rcases h with h | ⟨g', n', cap', e, h1, h2, h3, h4, h5⟩
  · cases h
  · cases e
    have hs := (h4 j (by omega)).1
    refine Or.inr ⟨g, n, cap, rfl, h1, by rw [size_set]; exact h2, h3, fun i hi => ⟨?_, by rw [frozen_set]; exact (h4 i hi).2⟩, fun i hi => ?_⟩
    · rw [cell_set hs]; split
      · rfl
      · exact (h4 i hi).1
    · rw [cell_set hs]; split
      · exact ⟨x, rfl⟩
      · exact h5 i hi
theorem rwX_put {k : IntKind} {N : Nat} {W : World} {g n cap : Nat} (h : RwX k N W (.slice (some ⟨g, 0, none⟩) n cap)) (x : Int) (hr : n + 1 ≤ cap) : RwX k (N + 1) (W.setCell ⟨g, n, none⟩ (.int k x)) (.slice (some ⟨g, 0, none⟩) (n + 1) cap) := by
  rcases h with h | ⟨g', n', cap', e, h1, h2, h3, h4, h5⟩
  · cases h
  · cases e
    have hs := (h4 n (by omega)).1
    refine Or.inr ⟨g, n + 1, cap, rfl, by omega, by rw [size_set]; exact h2, hr, fun i hi => ⟨?_, by rw [frozen_set]; exact (h4 i hi).2⟩, fun i hi => ?_⟩
    · rw [cell_set hs]; split
      · rfl
      · exact (h4 i hi).1
    · rw [cell_set hs]; split
      · exact ⟨x, rfl⟩
      · exact h5 i (by omega)
/-- a new row -/
theorem rwX_new {k : IntKind} {N : Nat} (W : World) (t : TypeId) (xs : List Value) (n c : Nat) (hx : xs.length = n) (hn : n ≤ N) (hv : ∀ u ∈ xs, ∃ b, u = .int k b) (hc : n ≤ c) :
    RwX k N (W.alloc (.cells (xs.toArray ++ Builtin.zeroCells (Value.int k 0).cells (c - n)) t)) (.slice (some ⟨W.heap.size, 0, none⟩) n c) := by
  have hz1 : (Value.int k 0).cells.size = 1 := rfl
  refine Or.inr ⟨W.heap.size, n, c, rfl, hn, by simp, hc, fun i hi => ⟨?_, ?_⟩, fun i hi => ?_⟩
  · rw [World.cell?_alloc_mark]
    have : i < (xs.toArray ++ Builtin.zeroCells (Value.int k 0).cells (c - n)).size := by simp only [Array.size_append, List.size_toArray, size_zeroCells, hz1, hx]; omega
    rw [Array.getElem?_eq_getElem this]
    rfl
  · have e : (W.alloc (.cells (xs.toArray ++ Builtin.zeroCells (Value.int k 0).cells (c - n)) t)).heap[W.heap.size]? = some (.cells (xs.toArray ++ Builtin.zeroCells (Value.int k 0).cells (c - n)) t (0, 0)) := heap_alloc_new W _
    simp only [World.frozen?]
    rw [e]
    simp
  · rw [World.cell?_alloc_mark, Array.getElem?_append_left (by simpa [hx] using hi)]
    have hi' : i < xs.length := by omega
    obtain ⟨b, hb⟩ := hv xs[i] (List.getElem_mem hi')
    exact ⟨b, by simp [List.getElem?_eq_getElem hi', hb]⟩

theorem Own.below {w w' : World} {B : Nat} {v : Value} {l : List Int} (h : Own w B v l) (hb : Below w.heap.size w w') : Own w' B v l := h.kept (row := none) ⟨hb.os, hb.tape, hb.output, hb.size, fun k hk _ => hb.block k hk⟩ (Classical.em _)

end Go.Proofs.YtnkeohiibninfabDoor
end

section
namespace Go.Proofs.YtnkeohiibninfabDoor
open Go.ChangeShapes Go.WideShapes Go.ChangeAt Go.RowKit

theorem own_base {W : World} {B B' : Nat} {v : Value} {l : List Int} (h : Own W B v l) (hB : B' ≤ B) : Own W B' v l := by
  refine ⟨h.1, ?_⟩
  rcases h.2 with h2 | ⟨g', c', cur, h1, h2, h3⟩
  · exact Or.inl h2
  · exact Or.inr ⟨g', c', cur, h1, Nat.le_trans hB h2, h3⟩
theorem Clone_own (a0 : Option Addr) (cap : Nat) (l : List Int) (w : World) (hB : IsB w a0 cap l) :
    Calls Tryd.prog 27 #[.slice a0 l.length cap] w fun e w' => ∃ v, e = .returned v ∧ Own w' w.heap.size v l ∧ Below w.heap.size w w' := by
  cases a0 with
  | none =>
    obtain rfl : l = [] := by
      rcases hB.2.2.1 with h | ⟨g, off, h, _⟩
      · exact h
      · cases h
    have hq := eqnil_none
    go_enter Tryd.func27, Tryd.ntmps27
    go_wp2
    go_ret
    exact ⟨_, rfl, World.ownsRow_nil _ _ _ _, Below.refl _ _⟩
  | some a =>
    obtain ⟨v1, w1, r1, o1, z1⟩ := run_copy_own w (some a) cap l 22 hB
    have R1 := hide r1
    clear r1
    have hq := eqnil_some
    go_enter Tryd.func27, Tryd.ntmps27
    go_wp2_with (at_builtin; refine wpList_append_known rfl _ _ 22 22 rfl _ _ rfl rfl _ _ (unhide R1) ?_)
    go_ret
    exact ⟨v1, rfl, o1, z1⟩

set_option maxRecDepth 100000 in
set_option maxHeartbeats 2000000 in
theorem CutO_at (a0 : Option Addr) (cap : Nat) (l : List Int) (r lo hi m : Int) (w : World) (hB : IsB w a0 cap l) (hT : Tab w) :
    Calls Tryd.prog 10 #[.slice a0 l.length cap, .int .i64 r, .int .i64 lo, .int .i64 hi, .int .i64 m] w fun y w' =>
      ∃ v, y = .returned (.tuple #[v, .int .i64 (cuR r lo hi m (EE l))]) ∧ Own w' w.heap.size v (cuL r lo hi m l) ∧ Below w.heap.size w w' := by
  have hf1 := find_at a0 cap l r hi m w hB hT
  have b0 := Below.refl w.heap.size w
  have k1 := isRuler_at r w
  have k2 := isMode_at m w
  have nil : ∀ (y : Ending) (X : World) (e : Int), cuR r lo hi m (EE l) = e → e ≠ 0 → y = .returned (.tuple #[.slice none 0 0, .int .i64 e]) → Below w.heap.size w X →
      ∃ v, y = .returned (.tuple #[v, .int .i64 (cuR r lo hi m (EE l))]) ∧ Own X w.heap.size v (cuL r lo hi m l) ∧ Below w.heap.size w X := by
    rintro y X e h1 h2 rfl hb
    have hc : cuL r lo hi m l = [] := by unfold cuL; rw [h1, if_neg h2]
    rw [hc, h1]
    exact ⟨_, rfl, World.ownsRow_nil _ _ _ _, hb⟩
  have NIL := hide nil
  clear nil
  cases h1 : isRu r with
  | false =>
    have HC : Hid (cuR r lo hi m (EE l) = 3) := hide (by unfold cuR; rw [h1]; rfl)
    rw [h1] at k1
    go_enter Tryd.func10, Tryd.ntmps10
    go_wp2_with fail
    refine k1.mono ?_
    rintro y w1 ⟨rfl, rfl⟩
    go_wp2_with fail
    refine bodyPost_ret (results_tmp2 rfl _ _ _) rfl ?_
    exact unhide NIL _ _ 3 (unhide HC) (by decide) rfl b0
  | true =>
    rw [h1] at k1
    cases h2 : isRu m with
    | false =>
      have HC : Hid (cuR r lo hi m (EE l) = 3) := hide (by unfold cuR; rw [h1, h2]; rfl)
      rw [h2] at k2
      go_enter Tryd.func10, Tryd.ntmps10
      go_wp2_with fail
      refine k1.mono ?_
      rintro y w1 ⟨rfl, rfl⟩
      go_wp2_with fail
      refine k2.mono ?_
      rintro y w2 ⟨rfl, rfl⟩
      go_wp2_with fail
      refine bodyPost_ret (results_tmp2 rfl _ _ _) rfl ?_
      exact unhide NIL _ _ 3 (unhide HC) (by decide) rfl b0
    | true =>
      rw [h2] at k2
      have hc0 : cuR r lo hi m (EE l) = (if lo < 0 ∨ hi < lo then 2 else if fdR r hi m (EE l) = 0 then fdR r lo m (EE l) else fdR r hi m (EE l)) := by unfold cuR; rw [h1, h2]; rfl
      by_cases h3 : lo < 0
      · have HC : Hid (cuR r lo hi m (EE l) = 2) := hide (by rw [hc0, if_pos (Or.inl h3)])
        have q3 : decide (lo < 0) = true := by simpa using h3
        clear hf1 hc0 h3
        go_enter Tryd.func10, Tryd.ntmps10
        go_wp2_with fail
        refine k1.mono ?_
        rintro y w1 ⟨rfl, rfl⟩
        go_wp2_with fail
        refine k2.mono ?_
        rintro y w2 ⟨rfl, rfl⟩
        go_wp2_with fail
        refine bodyPost_ret (results_tmp2 rfl _ _ _) rfl ?_
        exact unhide NIL _ _ 2 (unhide HC) (by decide) rfl b0
      · by_cases h4 : hi < lo
        · have HC : Hid (cuR r lo hi m (EE l) = 2) := hide (by rw [hc0, if_pos (Or.inr h4)])
          have q3 : decide (lo < 0) = false := by simpa using h3
          have q4 : decide (hi < lo) = true := by simpa using h4
          clear hf1 hc0 h3 h4
          go_enter Tryd.func10, Tryd.ntmps10
          go_wp2_with fail
          refine k1.mono ?_
          rintro y w1 ⟨rfl, rfl⟩
          go_wp2_with fail
          refine k2.mono ?_
          rintro y w2 ⟨rfl, rfl⟩
          go_wp2_with fail
          refine bodyPost_ret (results_tmp2 rfl _ _ _) rfl ?_
          exact unhide NIL _ _ 2 (unhide HC) (by decide) rfl b0
        · have q3 : decide (lo < 0) = false := by simpa using h3
          have q4 : decide (hi < lo) = false := by simpa using h4
          have hc1 : cuR r lo hi m (EE l) = if fdR r hi m (EE l) = 0 then fdR r lo m (EE l) else fdR r hi m (EE l) := by rw [hc0, if_neg (by omega)]
          have HLE : Hid (lo ≤ hi) := hide (by omega)
          clear hc0 h3 h4
          go_enter Tryd.func10, Tryd.ntmps10
          go_wp2_with fail
          refine k1.mono ?_
          rintro y w1 ⟨rfl, rfl⟩
          go_wp2_with fail
          refine k2.mono ?_
          rintro y w2 ⟨rfl, rfl⟩
          go_wp2_with fail
          refine hf1.mono ?_
          unfold edV
          rintro y w3 ⟨rfl, b3⟩
          clear hf1 k1 k2
          by_cases h5 : fdR r hi m (EE l) = 0
          · rw [if_pos h5] at hc1
            have H5 := hide h5
            have hcin := cut_in hB.2.2.2 (unhide HLE) (m := m) (r := r) h5
            rw [h5]
            generalize hye : fdE r hi m (EE l) = ye at *
            have HYE := hide hye
            have kE := Cls.new w3 58 #[.int .i64 (ye.1 : Int), .int .i64 (ye.2.1 : Int), .int .i64 (ye.2.2 : Int)]
            have b4 := b3.alloc (o := .cells #[.int .i64 (ye.1 : Int), .int .i64 (ye.2.1 : Int), .int .i64 (ye.2.2 : Int)] 58) b3.size
            clear h5 hye
            go_wp2_with fail
            generalize w3.alloc (.cells #[.int .i64 (ye.1 : Int), .int .i64 (ye.2.1 : Int), .int .i64 (ye.2.2 : Int)] 58) = w4 at *
            generalize w3.heap.size = gE at *
            have hB4 := hB.below b4 (Nat.le_refl _)
            refine (find_at a0 cap l r lo m w4 hB4 (hT.below b4 hT.size)).mono ?_
            unfold edV
            rintro y w5 ⟨rfl, b5⟩
            have kE5 := kE.below b5 kE.lt
            have hB5 := hB4.below b5 (Nat.le_refl _)
            have b45 := b4.trans (b5.mono b4.size)
            clear b5 b4 b3 kE hB4
            by_cases h6 : fdR r lo m (EE l) = 0
            · obtain ⟨i1, i2⟩ := hcin h6
              have HC : Hid (cuL r lo hi m l = (l.take ye.1).drop (fdE r lo m (EE l)).1 ∧ cuR r lo hi m (EE l) = 0) := hide (by
                have : cuR r lo hi m (EE l) = 0 := by rw [hc1, h6]
                exact ⟨by unfold cuL; rw [if_pos this, unhide HYE], this⟩)
              rw [h6]
              generalize fdE r lo m (EE l) = xe at *
              have kF := Cls.new w5 58 #[.int .i64 (xe.1 : Int), .int .i64 (xe.2.1 : Int), .int .i64 (xe.2.2 : Int)]
              have kE6 := kE5.alloc (.cells #[.int .i64 (xe.1 : Int), .int .i64 (xe.2.1 : Int), .int .i64 (xe.2.2 : Int)] 58)
              have b6 := b45.alloc (o := .cells #[.int .i64 (xe.1 : Int), .int .i64 (xe.2.1 : Int), .int .i64 (xe.2.2 : Int)] 58) b45.size
              have hB6 := hB.below b6 (Nat.le_refl _)
              have c0 : (w5.alloc (.cells #[.int .i64 (xe.1 : Int), .int .i64 (xe.2.1 : Int), .int .i64 (xe.2.2 : Int)] 58)).cell? ⟨w5.heap.size, 0, none⟩ = some (.int .i64 (xe.1 : Int)) := (kF.cell 0).trans rfl
              have c1 : (w5.alloc (.cells #[.int .i64 (xe.1 : Int), .int .i64 (xe.2.1 : Int), .int .i64 (xe.2.2 : Int)] 58)).cell? ⟨gE, 0, none⟩ = some (.int .i64 (ye.1 : Int)) := (kE6.cell 0).trans rfl
              have hcap := hB.1
              have hlen := hB.2.1
              have hLn : ((l.take ye.1).drop xe.1).length = ye.1 - xe.1 := by simp; omega
              have hIB := (hB6.takeR (n := ye.1)).loR (n := xe.1)
              have HTL := hide (Clone_own _ _ _ _ hIB)
              rw [hLn] at HTL
              clear h6 hc1 hcin kE5 hB5 kF kE6 hLn hIB hB hT hB6 b45
              by_cases hcx : cap = xe.1
              · have HCL := hide (by have := unhide HTL; rw [if_pos hcx] at this; exact this)
                subst hcx
                have sub0 : xe.1 - xe.1 = 0 := Nat.sub_self _
                rw [sub0] at HCL
                clear HTL
                go_wp2_with fail
                refine (unhide HCL).mono ?_
                rintro y w7 ⟨v7, rfl, h7, b7⟩
                go_wp2_with fail
                refine bodyPost_ret (results_tmp2 rfl _ _ _) rfl ?_
                rw [(unhide HC).1, (unhide HC).2]
                exact ⟨v7, rfl, own_base h7 b6.size, b6.trans (b7.mono b6.size)⟩
              · have HCL := hide (by have := unhide HTL; rw [if_neg hcx] at this; exact this)
                clear HTL
                go_wp2_with fail
                refine (unhide HCL).mono ?_
                rintro y w7 ⟨v7, rfl, h7, b7⟩
                go_wp2_with fail
                refine bodyPost_ret (results_tmp2 rfl _ _ _) rfl ?_
                rw [(unhide HC).1, (unhide HC).2]
                exact ⟨v7, rfl, own_base h7 b6.size, b6.trans (b7.mono b6.size)⟩
            · have HC := hide hc1
              have H6 := hide h6
              have q6 : (fdR r lo m (EE l) != 0) = true := by simpa using h6
              generalize fdR r lo m (EE l) = e at *
              clear hc1 h6 hcin
              have b6 := b45.alloc (o := .cells #[.int .i64 ((fdE r lo m (EE l)).1 : Int), .int .i64 ((fdE r lo m (EE l)).2.1 : Int), .int .i64 ((fdE r lo m (EE l)).2.2 : Int)] 58) b45.size
              go_wp2_with fail
              refine bodyPost_ret (results_tmp2 rfl _ _ _) rfl ?_
              exact unhide NIL _ _ e (unhide HC) (unhide H6) rfl b6
          · rw [if_neg h5] at hc1
            have HC := hide hc1
            have H5 := hide h5
            have q5 : (fdR r hi m (EE l) != 0) = true := by simpa using h5
            generalize fdR r hi m (EE l) = e at *
            clear hc1 h5
            have b4 := b3.alloc (o := .cells #[.int .i64 ((fdE r hi m (EE l)).1 : Int), .int .i64 ((fdE r hi m (EE l)).2.1 : Int), .int .i64 ((fdE r hi m (EE l)).2.2 : Int)] 58) b3.size
            go_wp2_with fail
            refine bodyPost_ret (results_tmp2 rfl _ _ _) rfl ?_
            exact unhide NIL _ _ e (unhide HC) (unhide H5) rfl b4

end Go.Proofs.YtnkeohiibninfabDoor
end

section
namespace Go.Proofs.YtnkeohiibninfabDoor
open Go.ChangeShapes Go.WideShapes Go.ChangeAt Go.RowKit

/-- append one to such a row -/
theorem pushX_u8 (W : World) (N : Nat) (v : Value) (x : Int) (ty : TypeId) (h : RwX .u8 N W v) (hN : N ≤ 8388608) :
    ∃ v' W', (Builtin.append_ #[22, 22] ty #[v, .slice (some ⟨W.heap.size, 0, none⟩) 1 1]).run Tryd.prog (W.alloc (.cells #[.int .u8 x] 5)) = .ok v' W' ∧ RwX .u8 (N + 1) W' v' ∧
      (W.alloc (.cells #[.int .u8 x] 5)).grownBy W' v.ownBlock ∧ ((v'.ownBlock = v.ownBlock) ∨ ∃ g, v'.ownBlock = some g ∧ W.heap.size ≤ g) := by
  obtain ⟨i, hi, hz, hs, hby⟩ := info_u8
  have hsrc : Src Tryd.prog i.size 22 (.slice (some ⟨W.heap.size, 0, none⟩) 1 1) 1 [.int .u8 x] (W.alloc (.cells #[.int .u8 x] 5)) := by
    rw [hs]
    refine Src.ofSlice _ Tryd.underlying22 ⟨W.heap.size, 0, none⟩ 1 1 [.int .u8 x] rfl (fun j u hj => ?_) (fun u hu => by simp at hu; subst hu; rfl)
    cases j with
    | zero => simp at hj; subst hj; rw [Addr.add_lit]; exact (World.cell?_alloc_mark W _ _ (0, 0) 0).trans rfl
    | succ j => simp at hj
  rcases h with rfl | ⟨g, n, cap, rfl, hn, hg, hnc, hc, hv⟩
  · have := run_append_grow_src (P := Tryd.prog) (W.alloc (.cells #[.int .u8 x] 5)) 22 22 ty 5 i (.int .u8 0) Tryd.underlying22 hi hz none 0 0 []
      (by rw [hs]; rfl) _ 1 _ hsrc (by omega) (by omega) (by rw [hby]; decide)
    refine ⟨_, _, this, ?_, ⟨rfl, rfl, rfl, by simp, fun k hk _ => heap_alloc_old _ _ hk⟩, Or.inr ⟨_, rfl, by simp⟩⟩
    exact rwX_new _ _ [.int .u8 x] 1 _ rfl (by omega) (fun u hu => by simp at hu; subst hu; exact ⟨x, rfl⟩) (grownCap_ge _ _ _ _)
  · have hga : g ≠ W.heap.size := by omega
    have hcell : ∀ i, (W.alloc (.cells #[.int .u8 x] 5)).cell? ⟨g, i, none⟩ = W.cell? ⟨g, i, none⟩ := fun i => World.cell?_of_block (a := ⟨g, i, none⟩) (heap_alloc_old W _ hg)
    have hfro : ∀ i, (W.alloc (.cells #[.int .u8 x] 5)).frozen? ⟨g, i, none⟩ = W.frozen? ⟨g, i, none⟩ := fun i => by
      have e := heap_alloc_old W (.cells #[.int .u8 x] 5) hg
      simp only [World.frozen?, e]
    by_cases hroom : n + 1 ≤ cap
    · have := run_append_room_src (P := Tryd.prog) (W.alloc (.cells #[.int .u8 x] 5)) 22 22 ty 5 i Tryd.underlying22 hi g 0 n cap _ 1 _ hsrc hroom
        (fun j hj => by
          obtain rfl : j = 0 := by simpa using hj
          rw [hs, Nat.mul_one, Nat.zero_add, Nat.add_zero, hcell]; exact (hc n (by omega)).1)
        (fun j hj => by
          obtain rfl : j = 0 := by simpa using hj
          rw [hs, Nat.mul_one, Nat.zero_add, Nat.add_zero, hfro]; exact (hc n (by omega)).2)
      rw [hs, Nat.mul_one, Nat.zero_add] at this
      rw [setCells_one] at this
      refine ⟨_, _, this, ?_, grown_set _ _ _ _, Or.inl rfl⟩
      have hb : RwX .u8 N (W.alloc (.cells #[.int .u8 x] 5)) (.slice (some ⟨g, 0, none⟩) n cap) := Or.inr ⟨g, n, cap, rfl, hn, by simp; omega, hnc, fun i hi => ⟨by rw [hcell]; exact (hc i hi).1, by rw [hfro]; exact (hc i hi).2⟩, fun i hi => by rw [hcell]; exact hv i hi⟩
      exact rwX_put hb x hroom
    · have hold : (Builtin.firstCells i.size n (.slice (some ⟨g, 0, none⟩) n cap)).run Tryd.prog (W.alloc (.cells #[.int .u8 x] 5)).drew = .ok ((List.range n).map fun i => (W.cell? ⟨g, i, none⟩).getD undef).toArray (W.alloc (.cells #[.int .u8 x] 5)).drew := by
        refine run_firstCells_some _ _ n ⟨g, 0, none⟩ n cap _ (by rw [hs]; simp) (fun j u hj => ?_)
        have hj' : j < n := by
          rcases Nat.lt_or_ge j n with h | h
          · exact h
          · rw [List.getElem?_eq_none (by simpa using h)] at hj; cases hj
        obtain ⟨b, hb⟩ := hv j hj'
        rw [List.getElem?_map, List.getElem?_range hj'] at hj
        simp [hb] at hj
        subst hj
        rw [Addr.add_lit, Nat.zero_add]
        exact (hcell j).trans hb
      have := run_append_grow_src (P := Tryd.prog) (W.alloc (.cells #[.int .u8 x] 5)) 22 22 ty 5 i (.int .u8 0) Tryd.underlying22 hi hz (some ⟨g, 0, none⟩) n cap _ hold _ 1 _ hsrc (by omega) (by omega)
        (by rw [hby]; exact growslice_fits (by omega) (by omega))
      refine ⟨_, _, this, ?_, ⟨rfl, rfl, rfl, by simp, fun k hk _ => heap_alloc_old _ _ hk⟩, Or.inr ⟨_, rfl, by simp⟩⟩
      refine rwX_new _ _ _ (n + 1) _ (by simp) (by omega) (fun u hu => ?_) (grownCap_ge _ _ _ _)
      rcases List.mem_append.1 hu with hu | hu
      · obtain ⟨j, hj, rfl⟩ := List.mem_map.1 hu
        obtain ⟨b, hb⟩ := hv j (List.mem_range.1 hj)
        exact ⟨b, by rw [hb]; rfl⟩
      · simp at hu; subst hu; exact ⟨x, rfl⟩

/-- append one to such a row -/
theorem pushX_i64 (W : World) (N : Nat) (v : Value) (x : Int) (ty : TypeId) (h : RwX .i64 N W v) (hN : N ≤ 8388608) :
    ∃ v' W', (Builtin.append_ #[36, 36] ty #[v, .slice (some ⟨W.heap.size, 0, none⟩) 1 1]).run Tryd.prog (W.alloc (.cells #[.int .i64 x] 3)) = .ok v' W' ∧ RwX .i64 (N + 1) W' v' ∧
      (W.alloc (.cells #[.int .i64 x] 3)).grownBy W' v.ownBlock ∧ ((v'.ownBlock = v.ownBlock) ∨ ∃ g, v'.ownBlock = some g ∧ W.heap.size ≤ g) := by
  obtain ⟨i, hi, hz, hs, hby⟩ := info_intR
  have hsrc : Src Tryd.prog i.size 36 (.slice (some ⟨W.heap.size, 0, none⟩) 1 1) 1 [.int .i64 x] (W.alloc (.cells #[.int .i64 x] 3)) := by
    rw [hs]
    refine Src.ofSlice _ Tryd.underlying36 ⟨W.heap.size, 0, none⟩ 1 1 [.int .i64 x] rfl (fun j u hj => ?_) (fun u hu => by simp at hu; subst hu; rfl)
    cases j with
    | zero => simp at hj; subst hj; rw [Addr.add_lit]; exact (World.cell?_alloc_mark W _ _ (0, 0) 0).trans rfl
    | succ j => simp at hj
  rcases h with rfl | ⟨g, n, cap, rfl, hn, hg, hnc, hc, hv⟩
  · have := run_append_grow_src (P := Tryd.prog) (W.alloc (.cells #[.int .i64 x] 3)) 36 36 ty 3 i (.int .i64 0) Tryd.underlying36 hi hz none 0 0 []
      (by rw [hs]; rfl) _ 1 _ hsrc (by omega) (by omega) (by rw [hby]; decide)
    refine ⟨_, _, this, ?_, ⟨rfl, rfl, rfl, by simp, fun k hk _ => heap_alloc_old _ _ hk⟩, Or.inr ⟨_, rfl, by simp⟩⟩
    exact rwX_new _ _ [.int .i64 x] 1 _ rfl (by omega) (fun u hu => by simp at hu; subst hu; exact ⟨x, rfl⟩) (grownCap_ge _ _ _ _)
  · have hga : g ≠ W.heap.size := by omega
    have hcell : ∀ i, (W.alloc (.cells #[.int .i64 x] 3)).cell? ⟨g, i, none⟩ = W.cell? ⟨g, i, none⟩ := fun i => World.cell?_of_block (a := ⟨g, i, none⟩) (heap_alloc_old W _ hg)
    have hfro : ∀ i, (W.alloc (.cells #[.int .i64 x] 3)).frozen? ⟨g, i, none⟩ = W.frozen? ⟨g, i, none⟩ := fun i => by
      have e := heap_alloc_old W (.cells #[.int .i64 x] 3) hg
      simp only [World.frozen?, e]
    by_cases hroom : n + 1 ≤ cap
    · have := run_append_room_src (P := Tryd.prog) (W.alloc (.cells #[.int .i64 x] 3)) 36 36 ty 3 i Tryd.underlying36 hi g 0 n cap _ 1 _ hsrc hroom
        (fun j hj => by
          obtain rfl : j = 0 := by simpa using hj
          rw [hs, Nat.mul_one, Nat.zero_add, Nat.add_zero, hcell]; exact (hc n (by omega)).1)
        (fun j hj => by
          obtain rfl : j = 0 := by simpa using hj
          rw [hs, Nat.mul_one, Nat.zero_add, Nat.add_zero, hfro]; exact (hc n (by omega)).2)
      rw [hs, Nat.mul_one, Nat.zero_add] at this
      rw [setCells_one] at this
      refine ⟨_, _, this, ?_, grown_set _ _ _ _, Or.inl rfl⟩
      have hb : RwX .i64 N (W.alloc (.cells #[.int .i64 x] 3)) (.slice (some ⟨g, 0, none⟩) n cap) := Or.inr ⟨g, n, cap, rfl, hn, by simp; omega, hnc, fun i hi => ⟨by rw [hcell]; exact (hc i hi).1, by rw [hfro]; exact (hc i hi).2⟩, fun i hi => by rw [hcell]; exact hv i hi⟩
      exact rwX_put hb x hroom
    · have hold : (Builtin.firstCells i.size n (.slice (some ⟨g, 0, none⟩) n cap)).run Tryd.prog (W.alloc (.cells #[.int .i64 x] 3)).drew = .ok ((List.range n).map fun i => (W.cell? ⟨g, i, none⟩).getD undef).toArray (W.alloc (.cells #[.int .i64 x] 3)).drew := by
        refine run_firstCells_some _ _ n ⟨g, 0, none⟩ n cap _ (by rw [hs]; simp) (fun j u hj => ?_)
        have hj' : j < n := by
          rcases Nat.lt_or_ge j n with h | h
          · exact h
          · rw [List.getElem?_eq_none (by simpa using h)] at hj; cases hj
        obtain ⟨b, hb⟩ := hv j hj'
        rw [List.getElem?_map, List.getElem?_range hj'] at hj
        simp [hb] at hj
        subst hj
        rw [Addr.add_lit, Nat.zero_add]
        exact (hcell j).trans hb
      have := run_append_grow_src (P := Tryd.prog) (W.alloc (.cells #[.int .i64 x] 3)) 36 36 ty 3 i (.int .i64 0) Tryd.underlying36 hi hz (some ⟨g, 0, none⟩) n cap _ hold _ 1 _ hsrc (by omega) (by omega)
        (by rw [hby]; exact growslice_fits (by omega) (by omega))
      refine ⟨_, _, this, ?_, ⟨rfl, rfl, rfl, by simp, fun k hk _ => heap_alloc_old _ _ hk⟩, Or.inr ⟨_, rfl, by simp⟩⟩
      refine rwX_new _ _ _ (n + 1) _ (by simp) (by omega) (fun u hu => ?_) (grownCap_ge _ _ _ _)
      rcases List.mem_append.1 hu with hu | hu
      · obtain ⟨j, hj, rfl⟩ := List.mem_map.1 hu
        obtain ⟨b, hb⟩ := hv j (List.mem_range.1 hj)
        exact ⟨b, by rw [hb]; rfl⟩
      · simp at hu; subst hu; exact ⟨x, rfl⟩

theorem Own.rwX {w : World} {B N : Nat} {v : Value} {l : List Int} (h : Own w B v l) (_hl : ∀ x ∈ l, 0 ≤ x ∧ x ≤ 255) (hN : l.length ≤ N) : RwX .u8 N w v := by
  have hh := h
  rcases h.2 with ⟨rfl, _⟩ | ⟨g, cap, cur, rfl, _, hg, hc, hm, hs, ht⟩
  · exact Or.inl rfl
  · refine Or.inr ⟨g, l.length, cap, rfl, hN, heap_lt hg, hc, fun i hi => ⟨?_, ?_⟩, fun i hi => ⟨l.getD i 0, ?_⟩⟩
    · simp only [World.cell?, hg]; simp; omega
    · simp [World.frozen?, hg]
    · have := World.ownsRow.cells hh rfl i (.int .u8 (l.getD i 0)) (by simp [List.getElem?_eq_getElem hi, List.getD])
      rwa [Addr.add_lit, Nat.zero_add] at this
theorem rowI_rwX {w : World} {B N : Nat} {v : Value} {l : List Int} (h : w.ownsRow B 3 1 v l.length (l.map (Value.int .i64))) (hN : l.length ≤ N) : RwX .i64 N w v := by
  have hh := h
  rcases h.2 with ⟨rfl, _⟩ | ⟨g, cap, cur, rfl, _, hg, hc, hm, hs, ht⟩
  · exact Or.inl rfl
  · refine Or.inr ⟨g, l.length, cap, rfl, hN, heap_lt hg, hc, fun i hi => ⟨?_, ?_⟩, fun i hi => ⟨l.getD i 0, ?_⟩⟩
    · simp only [World.cell?, hg]; simp; omega
    · simp [World.frozen?, hg]
    · have := World.ownsRow.cells hh rfl i (.int .i64 (l.getD i 0)) (by simp [List.getElem?_eq_getElem hi, List.getD])
      rwa [Addr.add_lit, Nat.zero_add] at this
theorem RwX.lt {k : IntKind} {N : Nat} {W : World} {v : Value} (h : RwX k N W v) {g : Nat} (hg : v.ownBlock = some g) : g < W.heap.size := by
  rcases h with rfl | ⟨g', n, cap, rfl, _, h2, _⟩
  · cases hg
  · cases hg; exact h2
theorem RwX.kept {k : IntKind} {N : Nat} {W W' : World} {v : Value} {row : Option Nat} (h : RwX k N W v) (hg : W.grownBy W' row) (hne : v.ownBlock = none ∨ v.ownBlock ≠ row) : RwX k N W' v := by
  rcases h with rfl | ⟨g, n, cap, rfl, h1, h2, h3, h4, h5⟩
  · exact Or.inl rfl
  · have e : W'.heap[g]? = W.heap[g]? := hg.block g h2 (by simpa [Value.ownBlock] using hne)
    have ec : ∀ i, W'.cell? ⟨g, i, none⟩ = W.cell? ⟨g, i, none⟩ := fun i => World.cell?_of_block (a := ⟨g, i, none⟩) e
    have ef : ∀ i, W'.frozen? ⟨g, i, none⟩ = W.frozen? ⟨g, i, none⟩ := fun i => by simp only [World.frozen?, e]
    exact Or.inr ⟨g, n, cap, rfl, h1, Nat.lt_of_lt_of_le h2 hg.size, h3, fun i hi => ⟨by rw [ec]; exact (h4 i hi).1, by rw [ef]; exact (h4 i hi).2⟩, fun i hi => by rw [ec]; exact h5 i hi⟩
theorem RwX.below {k : IntKind} {N : Nat} {W W' : World} {v : Value} (h : RwX k N W v) (hb : Below W.heap.size W W') : RwX k N W' v := h.kept (grown_below none hb) (Classical.em _)
/-- where a value's row lies -/
def Iv (v : Value) (lo hi : Nat) : Prop := ∀ k, v.ownBlock = some k → lo ≤ k ∧ k < hi
theorem iv_ne {v v' : Value} {lo hi lo' hi' k : Nat} (h : Iv v lo hi) (h' : Iv v' lo' hi') (hd : hi ≤ lo' ∨ hi' ≤ lo) (e : v.ownBlock = some k) : v'.ownBlock ≠ some k := by
  intro e'
  have := h k e
  have := h' k e'
  omega
theorem iv_row {v v' : Value} {lo hi lo' hi' : Nat} (h : Iv v lo hi) (h' : Iv v' lo' hi') (hd : hi ≤ lo' ∨ hi' ≤ lo) : v.ownBlock = none ∨ v.ownBlock ≠ v'.ownBlock := by
  cases e : v.ownBlock with
  | none => exact Or.inl rfl
  | some k => exact Or.inr (fun e' => iv_ne h h' hd e e'.symm)
theorem isB_kept {w w' : World} {row : Option Nat} {a0 : Option Addr} {cap : Nat} {l : List Int} (h : IsB w a0 cap l) (hg : w.grownBy w' row) (hne : ∀ k, row = some k → (Value.slice a0 l.length cap).ownBlock ≠ some k) : IsB w' a0 cap l := by
  obtain ⟨h1, h2, h3, h4⟩ := h
  refine ⟨h1, h2, ?_, h4⟩
  rcases h3 with h3 | ⟨g, off, rfl, hL⟩
  · exact Or.inl h3
  · exact Or.inr ⟨g, off, rfl, hL.grown hg (fun e => hne g e.symm rfl)⟩

theorem ab_in {l : List Int} (hl : ∀ x ∈ l, 0 ≤ x ∧ x ≤ 255) : ∀ x ∈ l ++ [65, 66], 0 ≤ x ∧ x ≤ 255 := by
  intro x hx
  rcases List.mem_append.1 hx with h | h
  · exact hl x h
  · simp at h; omega
theorem str_ab (l : List Int) : strOfNums (l ++ [65, 66]) = strOfNums l ++ ⟨#[65, 66]⟩ := by
  apply ByteArray.ext
  simp [strOfNums]


theorem own_own (a0 : Option Addr) (cap : Nat) (l : List Int) (w : World) (hB : IsB w a0 cap l) :
    Calls Tryd.prog 11 #[.slice a0 l.length cap] w fun e w' => ∃ v, e = .returned v ∧ Own w' w.heap.size v l ∧ Below w.heap.size w w' := by
  obtain ⟨v1, w1, r1, o1, z1⟩ := run_copy_own w a0 cap l 22 hB
  have R1 := hide r1
  clear r1
  go_enter Tryd.func11, Tryd.ntmps11
  go_wp2_with (at_builtin; refine wpList_append_known rfl _ _ 22 22 rfl _ _ rfl rfl _ _ (unhide R1) ?_)
  go_ret
  exact ⟨v1, rfl, o1, z1⟩

/-- what Table answers -/
def tbL (r : Int) (l : List Int) : List Int := if isRu r then (EE l).map fun e => (byE r e : Int) else []
def tbR (r : Int) : Int := if isRu r then 0 else 3
/-- numbers of one's own -/
def OwnI (w : World) (B : Nat) (v : Value) (l : List Int) : Prop := w.ownsRow B 3 1 v l.length (l.map (Value.int .i64))
theorem OwnI.kept {w w' : World} {B : Nat} {v : Value} {l : List Int} {row : Option Nat} (h : OwnI w B v l) (hg : w.grownBy w' row) (hne : v.ownBlock = none ∨ v.ownBlock ≠ row) : OwnI w' B v l := World.ownsRow.kept h hg hne
theorem OwnI.below {w w' : World} {B : Nat} {v : Value} {l : List Int} (h : OwnI w B v l) (hb : Below w.heap.size w w') : OwnI w' B v l := h.kept (grown_below none hb) (Classical.em _)
theorem TableO_at (a0 : Option Addr) (cap : Nat) (l : List Int) (r : Int) (w : World) (hB : IsB w a0 cap l) (hT : Tab w) (hl : l.length ≤ 1048576) :
    Calls Tryd.prog 13 #[.slice a0 l.length cap, .int .i64 r] w fun y w' => ∃ v, y = .returned (.tuple #[v, .int .i64 (tbR r)]) ∧ OwnI w' w.heap.size v (tbL r l) ∧ Below w.heap.size w w' := by
  unfold tbR tbL OwnI
  cases hr : isRu r with
  | true =>
    refine (Table_in a0 cap l r w hB hT hr hl).mono ?_
    rintro y w' ⟨v, rfl, h, hb⟩
    refine ⟨v, rfl, ?_, hb⟩
    simp only [if_true, List.length_map, List.map_map]
    exact h
  | false =>
    refine (Table_no a0 l.length cap r w hr).mono ?_
    rintro y w' ⟨rfl, hb⟩
    exact ⟨_, rfl, World.ownsRow_nil _ _ _ _, hb⟩
theorem OwnI.liesI {w : World} {B : Nat} {v : Value} {r : Int} {l : List Int} (h : OwnI w B v (tbL r l)) (hr : isRu r = true) : ∃ g c, v = .slice (some ⟨g, 0, none⟩) (EE l).length c ∧ LiesI w g ((EE l).map (byE r)) ∧ g < w.heap.size := by
  unfold OwnI tbL at h
  rw [hr] at h
  simp only [if_true, List.length_map, List.map_map] at h
  have := rowI (W := w) (B := B) (v := v) (ps := (EE l).map (byE r)) (by rw [List.length_map, List.map_map]; exact h) (by
    intro e
    have e2 := congrArg List.length e
    rw [List.length_map, EE_len] at e2
    simp at e2)
  simpa only [List.length_map] using this

end Go.Proofs.YtnkeohiibninfabDoor
end

section
namespace Go.Proofs.YtnkeohiibninfabDoor
open Go.ChangeShapes Go.WideShapes Go.ChangeAt Go.RowKit

theorem cuL_mem {r lo hi m : Int} {l : List Int} {x : Int} (h : x ∈ cuL r lo hi m l) : x ∈ l := by
  unfold cuL at h
  split at h
  · exact List.mem_of_mem_take (List.mem_of_mem_drop h)
  · cases h
theorem cuL_len (r lo hi m : Int) (l : List Int) : (cuL r lo hi m l).length ≤ l.length := by
  unfold cuL
  split
  · simp only [List.length_drop, List.length_take]; omega
  · simp
theorem tbL_len {l : List Int} (hl : ∀ x ∈ l, 0 ≤ x ∧ x ≤ 255) (r : Int) : (tbL r l).length ≤ l.length + 1 := by
  have h := (st_at hl (List.prefix_refl (spots l 0))).2.2.2.2
  unfold tbL
  split
  · rw [List.length_map, EE_len]; omega
  · simp
theorem OwnI.base {W : World} {B B' : Nat} {v : Value} {l : List Int} (h : OwnI W B v l) (hB : B' ≤ B) : OwnI W B' v l := by
  refine ⟨h.1, ?_⟩
  rcases h.2 with h2 | ⟨g', c', cur, h1, h2, h3⟩
  · exact Or.inl h2
  · exact Or.inr ⟨g', c', cur, h1, Nat.le_trans hB h2, h3⟩
theorem rwX_form {k : IntKind} {N : Nat} {w : World} {v : Value} (h : RwX k N w v) : ∃ a n cap, v = .slice a n cap ∧ n ≤ N := by
  rcases h with rfl | ⟨g, n, cap, rfl, hn, _⟩
  · exact ⟨none, 0, 0, rfl, Nat.zero_le _⟩
  · exact ⟨_, n, cap, rfl, hn⟩
/-- what must outlast all that is written -/
structure RO (w : World) (C T : List Int) (vd vs : Value) (W : World) : Prop where
  d : Own W 0 vd C
  s : OwnI W 0 vs T
  b : Below w.heap.size w W
theorem RO.kept {w : World} {C T : List Int} {vd vs : Value} {W W' : World} {row : Option Nat} (h : RO w C T vd vs W) (hg : W.grownBy W' row)
    (hr : ∀ k, row = some k → w.heap.size ≤ k ∧ vd.ownBlock ≠ some k ∧ vs.ownBlock ≠ some k) : RO w C T vd vs W' := by
  have hd : vd.ownBlock = none ∨ vd.ownBlock ≠ row := by
    cases e : vd.ownBlock with
    | none => exact Or.inl rfl
    | some k => exact Or.inr (fun e' => (hr k e'.symm).2.1 e)
  have hs : vs.ownBlock = none ∨ vs.ownBlock ≠ row := by
    cases e : vs.ownBlock with
    | none => exact Or.inl rfl
    | some k => exact Or.inr (fun e' => (hr k e'.symm).2.2 e)
  exact ⟨h.d.kept hg hd, h.s.kept hg hs, h.b.grown hg h.b.size (fun k e => (hr k e).1)⟩
theorem cells5 {w W : World} {ga gb : Nat} {ta tb : TypeId} {s0 s1 f t m : Int} (j : Cls w ga ta #[.int .i64 s0, .int .i64 s1]) (k : Cls w gb tb #[.int .i64 f, .int .i64 t, .int .i64 m]) (hb : Below w.heap.size w W) :
    W.cell? ⟨ga, 0, none⟩ = some (.int .i64 s0) ∧ W.cell? ⟨ga, 1, none⟩ = some (.int .i64 s1) ∧ W.cell? ⟨gb, 0, none⟩ = some (.int .i64 f) ∧ W.cell? ⟨gb, 1, none⟩ = some (.int .i64 t) ∧ W.cell? ⟨gb, 2, none⟩ = some (.int .i64 m) := by
  have j2 := j.below hb j.lt
  have k2 := k.below hb k.lt
  exact ⟨(j2.cell 0).trans rfl, (j2.cell 1).trans rfl, (k2.cell 0).trans rfl, (k2.cell 1).trans rfl, (k2.cell 2).trans rfl⟩
/-- the list with spare room -/
structure FU (w : World) (l : List Int) (B gf cf : Nat) (W : World) : Prop where
  full : Own W B (.slice (some ⟨gf, 0, none⟩) (l.length + 2) cf) (l ++ [65, 66])
  b : Below w.heap.size w W
theorem FU.on {w : World} {l : List Int} {B gf cf : Nat} {W W' : World} (h : FU w l B gf cf W) (hb : Below W.heap.size W W') : FU w l B gf cf W' := ⟨h.full.below hb, h.b.trans (hb.mono h.b.size)⟩
theorem FU.isB {w : World} {l : List Int} {B gf cf : Nat} {W : World} (h : FU w l B gf cf W) (hl : ∀ x ∈ l, 0 ≤ x ∧ x ≤ 255) (hn : l.length ≤ 1048576) : IsB W (some ⟨gf, 0, none⟩) cf l := by
  obtain ⟨g, c, e, _, _, hc⟩ := h.full.form (by simp)
  simp only [Value.slice.injEq, Option.some.injEq, Addr.mk.injEq] at e
  obtain ⟨⟨rfl, _⟩, _, rfl⟩ := e
  rw [List.length_append] at hc
  refine ⟨by omega, by omega, Or.inr ⟨gf, 0, rfl, (h.full.lies (ab_in hl)).pre⟩, hl⟩

set_option maxRecDepth 100000 in
set_option maxHeartbeats 8000000 in
theorem RuleOwn_any (a0 : Option Addr) (cap : Nat) (l : List Int) (s0 s1 f t m : Int) (w : World) (hB : IsB w a0 cap l) (qb : cap ≤ 1048576) (hT : Tab w) :
    Calls Tryd.prog 8 #[.slice a0 l.length cap, .agg #[.int .i64 s0, .int .i64 s1], .agg #[.int .i64 f, .int .i64 t, .int .i64 m]] w fun e w' => e = .returned (.bool true) ∧ Below w.heap.size w w' := by
  have hl : l.length ≤ 1048576 := Nat.le_trans hB.1 qb
  have HLB := hide hB.2.2.2
  have k1 := (Cls.new w 23 #[.int .i64 s0, .int .i64 s1]).alloc (.cells #[.int .i64 f, .int .i64 t, .int .i64 m] 25)
  have j1 := Cls.new (w.alloc (.cells #[.int .i64 s0, .int .i64 s1] 23)) 25 #[.int .i64 f, .int .i64 t, .int .i64 m]
  rw [World.size_alloc] at j1
  have b1 := ((Below.refl w.heap.size w).alloc (Nat.le_refl _) (.cells #[.int .i64 s0, .int .i64 s1] 23)).alloc (o := .cells #[.int .i64 f, .int .i64 t, .int .i64 m] 25) (by simp)
  have hB1 := hB.below b1 (Nat.le_refl _)
  have hT1 := hT.below b1 hT.size
  clear hB hT
  go_enter Tryd.func8, Tryd.ntmps8
  go_wp2_with fail
  generalize (w.alloc (.cells #[.int .i64 s0, .int .i64 s1] 23)).alloc (.cells #[.int .i64 f, .int .i64 t, .int .i64 m] 25) = w1 at *
  generalize hga : w.heap.size = ga at *
  have HGA := hide hga
  clear hga
  have HB := hide hB1
  have HT := hide hT1
  have HK := hide k1
  have HJ := hide j1
  refine (wakes6_any w1 hT1).mono ?_
  rintro e w2 ⟨rfl, x2⟩
  clear hT1 k1 j1
  have hB2 := hB1.below x2 (Nat.le_refl _)
  clear hB1
  go_wp2_with fail
  refine (own_own a0 cap l w2 hB2).mono ?_
  rintro e w3 ⟨v3, rfl, o3, x3⟩
  obtain ⟨v4, w4, r4, o4, x4⟩ := o3.push2 65 66 (by omega) x3.size
  obtain ⟨gf, cf, e4, gf1, gf2, _⟩ := o4.form (by simp)
  rw [List.length_append, show ([65, 66] : List Int).length = 2 from rfl] at e4
  subst e4
  have R4 := hide r4
  have z2 := x2.size
  have z3 := x3.size
  have z4 := x4.size
  have fu4 : FU w1 l w2.heap.size gf cf w4 := ⟨o4, (x2.trans (x3.mono z2)).trans (x4.mono z2)⟩
  have hcf : l.length ≤ cf := (fu4.isB (unhide HLB) hl).1
  have If : Iv (.slice (some ⟨gf, 0, none⟩) (l.length + 2) cf) w2.heap.size w4.heap.size := fun k e => by cases e; exact ⟨gf1, gf2⟩
  obtain ⟨q0, q1, q2, q3, q4⟩ := cells5 (unhide HK) (unhide HJ) fu4.b
  clear r4 o3 o4 hB2 gf1 gf2
  go_wp2_with (at_builtin; refine wpList_append_known rfl _ _ 22 22 rfl _ _ rfl rfl _ _ (unhide R4) ?_)
  refine (CutO_at (some ⟨gf, 0, none⟩) cf l f s0 s1 m w4 (fu4.isB (unhide HLB) hl) ((unhide HT).below fu4.b (unhide HT).size)).mono ?_
  rintro e w5 ⟨vc, rfl, oc, x5⟩
  have Ic : Iv vc w4.heap.size w5.heap.size := World.ownsRow.lt oc
  have z5 := x5.size
  have fu5 := fu4.on x5
  clear q0 q1 q2 q3 q4
  obtain ⟨q0, q1, q2, q3, q4⟩ := cells5 (unhide HK) (unhide HJ) fu5.b
  clear fu4
  go_wp2_with fail
  refine (CutO_at (some ⟨gf, 0, none⟩) cf l f s0 s1 m w5 (fu5.isB (unhide HLB) hl) ((unhide HT).below fu5.b (unhide HT).size)).mono ?_
  rintro e w6 ⟨vd, rfl, od, x6⟩
  have Id : Iv vd w5.heap.size w6.heap.size := World.ownsRow.lt od
  have z6 := x6.size
  have fu6 := fu5.on x6
  clear q0 q1 q2 q3 q4
  obtain ⟨q0, q1, q2, q3, q4⟩ := cells5 (unhide HK) (unhide HJ) fu6.b
  clear fu5
  go_wp2_with fail
  refine (TableO_at (some ⟨gf, 0, none⟩) cf l f w6 (fu6.isB (unhide HLB) hl) ((unhide HT).below fu6.b (unhide HT).size) hl).mono ?_
  rintro e w7 ⟨vt, rfl, ot, x7⟩
  have It : Iv vt w6.heap.size w7.heap.size := World.ownsRow.lt ot
  have z7 := x7.size
  have fu7 := fu6.on x7
  clear q0 q1 q2 q3 q4
  obtain ⟨q0, q1, q2, q3, q4⟩ := cells5 (unhide HK) (unhide HJ) fu7.b
  clear fu6
  go_wp2_with fail
  refine (TableO_at (some ⟨gf, 0, none⟩) cf l f w7 (fu7.isB (unhide HLB) hl) ((unhide HT).below fu7.b (unhide HT).size) hl).mono ?_
  rintro e w8 ⟨vs, rfl, os, x8⟩
  have Is : Iv vs w7.heap.size w8.heap.size := World.ownsRow.lt os
  have z8 := x8.size
  have fu8 := fu7.on x8
  clear q0 q1 q2 q3 q4
  obtain ⟨q0, q1, q2, q3, q4⟩ := cells5 (unhide HK) (unhide HJ) fu8.b
  clear fu7
  go_wp2_with fail
  refine (Size_at (some ⟨gf, 0, none⟩) cf l f w8 (fu8.isB (unhide HLB) hl) ((unhide HT).below fu8.b (unhide HT).size)).mono ?_
  rintro e w9 ⟨rfl, x9⟩
  have z9 := x9.size
  have fu9 := fu8.on x9
  clear q0 q1 q2 q3 q4
  obtain ⟨q0, q1, q2, q3, q4⟩ := cells5 (unhide HK) (unhide HJ) fu9.b
  clear fu8
  go_wp2_with fail
  refine (To_at (some ⟨gf, 0, none⟩) cf l f s0 t m w9 (fu9.isB (unhide HLB) hl) ((unhide HT).below fu9.b (unhide HT).size)).mono ?_
  rintro e w10 ⟨rfl, x10⟩
  have z10 := x10.size
  have fu10 := fu9.on x10
  clear q0 q1 q2 q3 q4 fu9
  have hcl := cuL_len f s0 s1 m l
  have htl := tbL_len (unhide HLB) f
  have ro10 : RO w1 (cuL f s0 s1 m l) (tbL f l) vd vs w10 := ⟨own_base (((((od.below x7).below x8).below x9).below x10)) (Nat.zero_le _), OwnI.base ((os.below x9).below x10) (Nat.zero_le _), fu10.b⟩
  have qc10 : RwX .u8 4194304 w10 vc := Own.rwX ((((((oc.below x6).below x7).below x8).below x9).below x10)) (fun x h => unhide HLB x (cuL_mem h)) (by omega)
  have qt10 : RwX .i64 4194304 w10 vt := rowI_rwX (((ot.below x8).below x9).below x10) (by omega)
  clear oc od ot os
  have kf := str_lies w10 gf 0 cf (l ++ [65, 66]) (fu10.full.lies (ab_in (unhide HLB)))
  rw [List.length_append, show ([65, 66] : List Int).length = 2 from rfl, str_ab] at kf
  have kb := str_bs w10 a0 cap l ((unhide HB).below fu10.b (Nat.le_refl _)).2.2.1
  have hcat : (strOfNums l).size + (⟨#[65, 66]⟩ : ByteArray).size ≤ 9223372036854775807 := by rw [strOfNums_size]; show l.length + 2 ≤ _; omega
  have hadd : (Op.stringOp .add (strOfNums l) ⟨#[65, 66]⟩).run Tryd.prog w10 = .ok (.string (strOfNums l ++ ⟨#[65, 66]⟩)) w10 := run_string_add_sum _ _ _ hcat
  obtain ⟨ac, nc, cc, ec, hnc⟩ := rwX_form qc10
  obtain ⟨at', nt, ct, et, hnt⟩ := rwX_form qt10
  subst ec et
  have QC := hide qc10
  have of10 := fu10.full
  clear qc10 fu10
  go_wp2_with fail
  go_loopw [96] (fun i wx => ∃ k : Nat, k ≤ nc ∧ i = .int .i64 k ∧ Hid (RwX .u8 4194304 wx (.slice ac nc cc)) ∧ w10.grownBy wx (Value.slice ac nc cc).ownBlock) (fun i _ => nc - (intOf i).toNat)
  case atStart => exact ⟨0, Nat.zero_le _, rfl, QC, grown_refl _ _⟩
  case round =>
    obtain ⟨k, hk, rfl, hr, hg⟩ := hrel
    by_cases hlt : k < nc
    · rcases unhide hr with h0 | ⟨g, n', cap', e, hn', hgl, hnc', hc, hvv⟩
      · cases h0; omega
      · cases e
        obtain ⟨b, hb⟩ := hvv k hlt
        have hf := (hc k (by omega)).2
        have hst : RwX .u8 4194304 (wr.setCell ⟨g, k, none⟩ (.int .u8 42)) (.slice (some ⟨g, 0, none⟩) nc cc) := rwX_set (unhide hr) k _ hlt
        have hgr : w10.grownBy (wr.setCell ⟨g, k, none⟩ (.int .u8 42)) (some g) := grown_trans hg (grown_set wr g k _) (fun j e => Or.inl (by cases e; rfl))
        clear hc hvv
        go_wp2
        go_roundw
        case rel => exact ⟨k + 1, by omega, by go_num, hide hst, hgr⟩
        case measure => simp [intOf]; omega
    · clear QC
      go_wp2_with fail
      go_loopw [9, 18] (fun v i wx => ∃ k : Nat, k ≤ 40 ∧ i = .int .i64 k ∧ Hid (RwX .u8 (4194304 + k) wx v) ∧ Hid (v.ownBlock = (Value.slice ac nc cc).ownBlock ∨ ∃ g, v.ownBlock = some g ∧ w10.heap.size ≤ g) ∧ w10.grownBy wx (Value.slice ac nc cc).ownBlock) (fun _ i _ => 40 - (intOf i).toNat)
      case atStart => exact ⟨0, by omega, rfl, hr, hide (Or.inl rfl), hg⟩
      case round =>
        obtain ⟨j, hj, rfl, hr2, hw2, hg2⟩ := hrel
        clear hr hg
        by_cases hlt2 : j < 40
        · obtain ⟨v4, w4', r4, q4, g4, o4⟩ := pushX_u8 wr (4194304 + j) _ 43 22 (unhide hr2) (by omega)
          have R4' := hide r4
          have hsz := hg2.size
          have hga := (World.grownBy_alloc wr (.cells #[.int .u8 43] 5) none)
          have G4 : Hid (w10.grownBy w4' (Value.slice ac nc cc).ownBlock) := hide (grownO_trans (grownO_trans hg2 hga (fun k e => by cases e)) g4 (fun k e => by
            rcases unhide hw2 with h | ⟨g, h, hle⟩
            · rw [h] at e; exact Or.inl e
            · rw [h] at e; cases e; exact Or.inr hle))
          have O4 : Hid (v4.ownBlock = (Value.slice ac nc cc).ownBlock ∨ ∃ g, v4.ownBlock = some g ∧ w10.heap.size ≤ g) := hide (by
            rcases o4 with h | ⟨g, h, hle⟩
            · rw [h]; exact unhide hw2
            · exact Or.inr ⟨g, h, Nat.le_trans hsz hle⟩)
          clear r4 g4 o4
          go_wp2_with (at_builtin; refine wpList_append_known rfl _ _ 22 22 rfl _ _ rfl rfl _ _ (unhide R4') ?_)
          go_roundw
          case rel => exact ⟨j + 1, by omega, by go_num, hide q4, O4, unhide G4⟩
          case measure => simp [intOf]; omega
        · obtain ⟨w11, hw11⟩ : ∃ w11, w11 = wr := ⟨_, rfl⟩
          subst hw11
          have ro11 := ro10.kept hg2 (fun k e => ⟨by have := Ic k e; omega, iv_ne Ic Id (by omega) e, iv_ne Ic Is (by omega) e⟩)
          have of11 := of10.kept hg2 (iv_row If Ic (by omega))
          have qt11 := qt10.kept hg2 (iv_row It Ic (by omega))
          have z11 := hg2.size
          have QT := hide qt11
          clear ro10 of10 qt10 qt11 hr2 hw2 hg2
          go_wp2_with fail
          go_loopw [112] (fun i wx => ∃ k : Nat, k ≤ nt ∧ i = .int .i64 k ∧ Hid (RwX .i64 4194304 wx (.slice at' nt ct)) ∧ w11.grownBy wx (Value.slice at' nt ct).ownBlock) (fun i _ => nt - (intOf i).toNat)
          case atStart => exact ⟨0, Nat.zero_le _, rfl, QT, grown_refl _ _⟩
          case round =>
            obtain ⟨k, hk, rfl, hr, hg⟩ := hrel
            by_cases hlt : k < nt
            · rcases unhide hr with h0 | ⟨g, n', cap', e, hn', hgl, hnc', hc, hvv⟩
              · cases h0; omega
              · cases e
                obtain ⟨b, hb⟩ := hvv k hlt
                have hf := (hc k (by omega)).2
                have hst : RwX .i64 4194304 (wr.setCell ⟨g, k, none⟩ (.int .i64 (-7))) (.slice (some ⟨g, 0, none⟩) nt ct) := rwX_set (unhide hr) k _ hlt
                have hgr : w11.grownBy (wr.setCell ⟨g, k, none⟩ (.int .i64 (-7))) (some g) := grown_trans hg (grown_set wr g k _) (fun j e => Or.inl (by cases e; rfl))
                clear hc hvv
                go_wp2
                go_roundw
                case rel => exact ⟨k + 1, by omega, by go_num, hide hst, hgr⟩
                case measure => simp [intOf]; omega
            · clear QT
              go_wp2_with fail
              go_loopw [13, 20] (fun v i wx => ∃ k : Nat, k ≤ 40 ∧ i = .int .i64 k ∧ Hid (RwX .i64 (4194304 + k) wx v) ∧ Hid (v.ownBlock = (Value.slice at' nt ct).ownBlock ∨ ∃ g, v.ownBlock = some g ∧ w11.heap.size ≤ g) ∧ w11.grownBy wx (Value.slice at' nt ct).ownBlock) (fun _ i _ => 40 - (intOf i).toNat)
              case atStart => exact ⟨0, by omega, rfl, hr, hide (Or.inl rfl), hg⟩
              case round =>
                obtain ⟨j, hj, rfl, hr2, hw2, hg2⟩ := hrel
                clear hr hg
                by_cases hlt2 : j < 40
                · obtain ⟨v4, w4', r4, q4, g4, o4⟩ := pushX_i64 wr (4194304 + j) _ (-8) 36 (unhide hr2) (by omega)
                  have R4' := hide r4
                  have hsz := hg2.size
                  have hga := (World.grownBy_alloc wr (.cells #[.int .i64 (-8)] 3) none)
                  have G4 : Hid (w11.grownBy w4' (Value.slice at' nt ct).ownBlock) := hide (grownO_trans (grownO_trans hg2 hga (fun k e => by cases e)) g4 (fun k e => by
                    rcases unhide hw2 with h | ⟨g, h, hle⟩
                    · rw [h] at e; exact Or.inl e
                    · rw [h] at e; cases e; exact Or.inr hle))
                  have O4 : Hid (v4.ownBlock = (Value.slice at' nt ct).ownBlock ∨ ∃ g, v4.ownBlock = some g ∧ w11.heap.size ≤ g) := hide (by
                    rcases o4 with h | ⟨g, h, hle⟩
                    · rw [h]; exact unhide hw2
                    · exact Or.inr ⟨g, h, Nat.le_trans hsz hle⟩)
                  clear r4 g4 o4
                  go_wp2_with (at_builtin; refine wpList_append_known rfl _ _ 36 36 rfl _ _ rfl rfl _ _ (unhide R4') ?_)
                  go_roundw
                  case rel => exact ⟨j + 1, by omega, by go_num, hide q4, O4, unhide G4⟩
                  case measure => simp [intOf]; omega
                · obtain ⟨w12, hw12⟩ : ∃ w12, w12 = wr := ⟨_, rfl⟩
                  subst hw12
                  have ro12 := ro11.kept hg2 (fun k e => ⟨by have := It k e; omega, iv_ne It Id (by omega) e, iv_ne It Is (by omega) e⟩)
                  have of12 := of11.kept hg2 (iv_row If It (by omega))
                  have z12 := hg2.size
                  clear ro11 of11 hr2 hw2 hg2 kf kb hadd
                  have kf := str_lies w12 gf 0 cf (l ++ [65, 66]) (of12.lies (ab_in (unhide HLB)))
                  rw [List.length_append, show ([65, 66] : List Int).length = 2 from rfl, str_ab] at kf
                  have kb := str_bs w12 a0 cap l ((unhide HB).below ro12.b (Nat.le_refl _)).2.2.1
                  have hadd : (Op.stringOp .add (strOfNums l) ⟨#[65, 66]⟩).run Tryd.prog w12 = .ok (.string (strOfNums l ++ ⟨#[65, 66]⟩)) w12 := run_string_add_sum _ _ _ hcat
                  have QF := hide (Own.rwX of12 (ab_in (unhide HLB)) (N := 4194304) (by rw [List.length_append]; simp; omega))
                  clear of12
                  go_wp2_with fail
                  go_loopw [134] (fun i wx => ∃ k : Nat, k ≤ l.length + 2 ∧ i = .int .i64 k ∧ Hid (RwX .u8 4194304 wx (.slice (some ⟨gf, 0, none⟩) (l.length + 2) cf)) ∧ w12.grownBy wx (some gf)) (fun i _ => l.length + 2 - (intOf i).toNat)
                  case atStart => exact ⟨0, Nat.zero_le _, rfl, QF, grown_refl _ _⟩
                  case round =>
                    obtain ⟨k, hk, rfl, hr, hg⟩ := hrel
                    by_cases hlt : k < l.length + 2
                    · rcases unhide hr with h0 | ⟨g, n', cap', e, hn', hgl, hnc', hc, hvv⟩
                      · cases h0
                      · simp only [Value.slice.injEq, Option.some.injEq, Addr.mk.injEq] at e
                        obtain ⟨⟨rfl, _⟩, rfl, rfl⟩ := e
                        obtain ⟨b, hb⟩ := hvv k hlt
                        have hf := (hc k (by omega)).2
                        have hst := rwX_set (unhide hr) k 122 hlt
                        have hgr := grown_trans hg (grown_set wr gf k (.int .u8 122)) (fun j e => Or.inl (by cases e; rfl))
                        clear hc hvv
                        go_wp2
                        go_roundw
                        case rel => exact ⟨k + 1, by omega, by go_num, hide hst, hgr⟩
                        case measure => simp [intOf]; omega
                    · obtain ⟨w13, hw13⟩ : ∃ w13, w13 = wr := ⟨_, rfl⟩
                      subst hw13
                      have ro13 := ro12.kept hg (fun k e => by
                        have e' : (Value.slice (some ⟨gf, 0, none⟩) (l.length + 2) cf).ownBlock = some k := e
                        exact ⟨by have := (If k e').1; omega, iv_ne If Id (by omega) e', iv_ne If Is (by omega) e'⟩)
                      clear ro12 kf kb hadd QF hr hg
                      obtain ⟨q0, q1, q2, q3, q4⟩ := cells5 (unhide HK) (unhide HJ) ro13.b
                      have hB13 := (unhide HB).below ro13.b (Nat.le_refl _)
                      go_wp2_with fail
                      refine (RCut_at a0 cap l f s0 s1 m w13 hB13 hl).mono ?_
                      rintro e w14 ⟨a14, c14, rfl, i14, x14⟩
                      have ro14 := ro13.kept (grown_below none x14) (fun k e => by cases e)
                      clear q0 q1 q2 q3 q4 ro13 hB13
                      obtain ⟨q0, q1, q2, q3, q4⟩ := cells5 (unhide HK) (unhide HJ) ro14.b
                      obtain ⟨ad, cd, ed, id14⟩ := ro14.d.isB (fun x h => unhide HLB x (cuL_mem h)) (by omega)
                      have n1 := str_bs w14 ad cd _ id14.2.2.1
                      have n2 := str_bs w14 a14 c14 _ i14.2.2.1
                      rw [ed] at *
                      cases hR : isRu f with
                      | false =>
                        have kR := RRuler_at f w14
                        rw [hR] at kR
                        go_wp2_with fail
                        refine kR.mono ?_
                        rintro e w15 ⟨rfl, rfl⟩
                        go_wp2_with fail
                        go_ret
                        obtain rfl := unhide HGA
                        exact ⟨ret_bool (by simp), b1.trans (ro14.b.mono b1.size)⟩
                      | true =>
                        have kR := RRuler_at f w14
                        rw [hR] at kR
                        go_wp2_with fail
                        refine kR.mono ?_
                        rintro e w15 ⟨rfl, rfl⟩
                        go_wp2_with fail
                        refine (RTable_at a0 cap l f w15 ((unhide HB).below ro14.b (Nat.le_refl _)) hR hl).mono ?_
                        rintro e w16 ⟨g16, c16, rfl, l16, _, x16⟩
                        have ro16 := ro14.kept (grown_below none x16) (fun k e => by cases e)
                        obtain ⟨gs, cs, es, ls, _⟩ := ro16.s.liesI hR
                        have HS := hide (SameI_some gs g16 cs c16 ((EE l).map (byE f)) w16 ls l16 (by rw [List.length_map, EE_len]; have := (st_at (unhide HLB) (List.prefix_refl (spots l 0))).2.2.2.2; unfold maxLen; omega))
                        rw [List.length_map] at HS
                        rw [es] at *
                        clear q0 q1 q2 q3 q4 ro14 n1 n2 kR ls l16
                        go_wp2_with fail
                        refine (unhide HS).mono ?_
                        rintro e w17 ⟨rfl, n17⟩
                        have x17 := quiet_below n17 w16.heap.size
                        go_wp2_with fail
                        go_ret
                        obtain rfl := unhide HGA
                        exact ⟨ret_bool (by simp), b1.trans ((ro16.b.trans (x17.mono ro16.b.size)).mono b1.size)⟩

end Go.Proofs.YtnkeohiibninfabDoor
end
