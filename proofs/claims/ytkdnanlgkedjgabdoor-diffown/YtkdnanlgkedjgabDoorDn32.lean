/- Rows of bytes that the call itself made: how they stay, are written, and grow by one byte. · An operation of a region that draws which reads no memory, taken first although it is a late one. -/
import Derived.Test.YtkdnanlgkedjgabDoorDn08
import Derived.Test.YtkdnanlgkedjgabDoorDn09
import Derived.Laws.AppendOwn
import Derived.Deep.AppendLies
import Derived.Test.YtkdnanlgkedjgabDoorDn14

section
namespace Go.Proofs.YtkdnanlgkedjgabDoor
open Go.ChangeShapes Go.WideShapes Go.ChangeAt Go.RowKit

/-- v is a []byte of the call's own, from block B on, that holds the bytes l -/
def Own (w : World) (B : Nat) (v : Value) (l : List Int) : Prop := w.ownsRow B 5 1 v l.length (l.map (Value.int .u8))

theorem grown_trans {w w1 w2 : World} {g : Nat} {row : Option Nat} (h : w.grownBy w1 (some g)) (h2 : w1.grownBy w2 row) (hr : ∀ k, row = some k → k = g ∨ w.heap.size ≤ k) : w.grownBy w2 (some g) := by
  refine ⟨h2.os.trans h.os, h2.tape.trans h.tape, h2.output.trans h.output, Nat.le_trans h.size h2.size, fun k hk hne => ?_⟩
  refine (h2.block k (Nat.lt_of_lt_of_le hk h.size) (fun e => ?_)).trans (h.block k hk hne)
  rcases hr k e.symm with rfl | h'
  · exact hne rfl
  · omega
theorem grown_refl (w : World) (row : Option Nat) : w.grownBy w row := ⟨rfl, rfl, rfl, Nat.le_refl _, fun _ _ _ => rfl⟩
theorem grown_set (w : World) (g k : Nat) (u : Value) : w.grownBy (w.setCell ⟨g, k, none⟩ u) (some g) :=
  ⟨rfl, rfl, rfl, by simp [World.setCell], fun j _ hne => Below.heap_setCell _ _ _ _ (fun e => hne (by rw [e]))⟩
theorem grown_drew {w w1 : World} {row : Option Nat} (h : w.grownBy w1 row) : w.grownBy w1.drew row := ⟨h.os, h.tape, h.output, h.size, h.block⟩
theorem Lies.lt {w : World} {g off : Nat} {l : List Int} (h : Lies w g off l) (hl : 0 < l.length) : g < w.heap.size := by
  have := (h 0 hl).1
  rcases Nat.lt_or_ge g w.heap.size with h' | h'
  · exact h'
  · simp [World.cell?, Array.getElem?_eq_none h'] at this
theorem Lies.grown {w w' : World} {row : Option Nat} {g off : Nat} {l : List Int} (h : Lies w g off l) (hg : w.grownBy w' row) (hne : some g ≠ row) : Lies w' g off l :=
  fun i hi => ⟨hg.cell (a := ⟨g, off + i, none⟩) (h i hi).1 hne, (h i hi).2⟩
theorem Lies.pre {w : World} {g off : Nat} {l m : List Int} (h : Lies w g off (l ++ m)) : Lies w g off l := by
  intro i hi
  have := h i (by simp; omega)
  rwa [show (l ++ m).getD i 0 = l.getD i 0 by simp [List.getD, List.getElem?_append_left hi]] at this

theorem Own.lies {w : World} {B g cap n : Nat} {l : List Int} (h : Own w B (.slice (some ⟨g, 0, none⟩) n cap) l) (hl : ∀ x ∈ l, 0 ≤ x ∧ x ≤ 255) : Lies w g 0 l := by
  intro i hi
  refine ⟨?_, ?_⟩
  · have := World.ownsRow.cells h rfl i (.int .u8 (l.getD i 0)) (by simp [List.getElem?_eq_getElem hi, List.getD])
    rwa [Addr.add_lit] at this
  · have := hl _ (List.getElem_mem hi)
    simpa [List.getD, List.getElem?_eq_getElem hi] using this
theorem Own.form {w : World} {B : Nat} {v : Value} {l : List Int} (h : Own w B v l) (hn : 0 < l.length) : ∃ g cap, v = .slice (some ⟨g, 0, none⟩) l.length cap ∧ B ≤ g ∧ g < w.heap.size ∧ l.length ≤ cap := by
  rcases h.2 with ⟨_, h0⟩ | ⟨g, cap, cur, hv, hb, hg, hc, _⟩
  · omega
  · refine ⟨g, cap, hv, hb, ?_, hc⟩
    rcases Nat.lt_or_ge g w.heap.size with hlt | hge
    · exact hlt
    · rw [Array.getElem?_eq_none hge] at hg; cases hg
theorem Own.kept {w w' : World} {B : Nat} {v : Value} {l : List Int} {row : Option Nat} (h : Own w B v l) (hg : w.grownBy w' row) (hne : v.ownBlock = none ∨ v.ownBlock ≠ row) : Own w' B v l := World.ownsRow.kept h hg hne

/-- one cell of the own row is written -/
theorem Own.cell {w : World} {B g cap n : Nat} {l : List Int} (h : Own w B (.slice (some ⟨g, 0, none⟩) n cap) l) (k : Nat) (hk : k < l.length) : (w.cell? ⟨g, k, none⟩).isSome = true ∧ w.frozen? ⟨g, k, none⟩ = false := by
  rcases h.2 with ⟨h0, _⟩ | ⟨g', cap', cur, hv, _, hg, hc, _, hs, _⟩
  · cases h0
  · cases hv
    refine ⟨?_, ?_⟩
    · simp only [World.cell?, hg]
      simp; omega
    · simp [World.frozen?, hg]
theorem Own.set {w : World} {B g cap n : Nat} {l : List Int} (h : Own w B (.slice (some ⟨g, 0, none⟩) n cap) l) (k : Nat) (x : Int) : Own (w.setCell ⟨g, k, none⟩ (.int .u8 x)) B (.slice (some ⟨g, 0, none⟩) n cap) (l.set k x) := by
  have hh := h
  rcases h.2 with ⟨h0, _⟩ | ⟨g', cap', cur, hv, hb, hg, hc, hm, hs, ht⟩
  · cases h0
  · cases hv
    refine ⟨by simp, Or.inr ⟨g, cap, cur.setIfInBounds k (.int .u8 x), ?_, hb, ?_, ?_, hm, by simpa using hs, ?_⟩⟩
    · simp
    · have hlt : g < w.heap.size := by
        rcases Nat.lt_or_ge g w.heap.size with h' | h'
        · exact h'
        · rw [Array.getElem?_eq_none h'] at hg; cases hg
      simp only [World.setCell, Array.getElem?_modify, if_true, hg, Option.map_some]
      simp
    · simpa using hc
    · simp only [Nat.mul_one, List.length_set] at ht ⊢
      rw [Array.toList_setIfInBounds, List.take_set, ht, List.map_set]

/-- append(v, b) where v is the call's own -/
theorem run_push (w : World) (B : Nat) (v : Value) (l : List Int) (b : Int) (ty : TypeId) (h : Own w B v l) (hn : l.length + 1 ≤ 140737488355328) (hB : B ≤ w.heap.size) :
    ∃ g cap w', (Builtin.append_ #[22, 22] ty #[v, .slice (some ⟨w.heap.size, 0, none⟩) 1 1]).run Tryd.prog (w.alloc (.cells #[.int .u8 b] 5)) = .ok (.slice (some ⟨g, 0, none⟩) (l.length + 1) cap) w' ∧
      Own w' B (.slice (some ⟨g, 0, none⟩) (l.length + 1) cap) (l ++ [b]) ∧ (w.alloc (.cells #[.int .u8 b] 5)).grownBy w' v.ownBlock ∧ (v.ownBlock = some g ∨ g = w.heap.size + 1) ∧ g < w'.heap.size ∧ l.length + 1 ≤ cap := by
  obtain ⟨i, hi, hz, hs, hby⟩ := info_u8
  obtain ⟨g, cap, w', hr, ho, hg, hat, hlt⟩ := run_append_lies (P := Tryd.prog) (w.alloc (.cells #[.int .u8 b] 5)) 22 ty B 5 i (.int .u8 0) 1 1 Tryd.underlying22 hi hz hs hby rfl (by decide)
    v l.length (l.map (Value.int .u8)) (World.ownsRow.alloc h _) ⟨w.heap.size, 0, none⟩ 1 1 [.int .u8 b] rfl
    (fun j u hj => by
      cases j with
      | zero =>
        simp at hj
        subst hj
        rw [Addr.add_lit]
        exact (World.cell?_alloc_mark w _ _ (0, 0) 0).trans rfl
      | succ j => simp at hj)
    (fun u hu => by simp at hu; subst hu; rfl) (by decide) (by unfold maxLen; omega) (by omega) (by simp; omega) (w.heap.size + 1) (by simp)
  have hown : Own w' B (.slice (some ⟨g, 0, none⟩) (l.length + 1) cap) (l ++ [b]) := by
    unfold Own
    simpa using ho
  obtain ⟨g', cap', e, _, _, hc⟩ := hown.form (by simp)
  refine ⟨g, cap, w', hr, hown, hg, hat, hlt, ?_⟩
  simp only [Value.slice.injEq] at e
  simp at hc
  omega

/-- append([]byte{}, b...), told as a row of the call's own -/
theorem run_copy_own (w : World) (a0 : Option Addr) (cap : Nat) (l : List Int) (ty : TypeId) (hB : IsB w a0 cap l) :
    ∃ v' w', (Builtin.append_ #[22, 22] ty #[.slice (some ⟨w.heap.size, 0, none⟩) 0 0, .slice a0 l.length cap]).run Tryd.prog (w.alloc (.cells #[] 5)) = .ok v' w' ∧
      Own w' w.heap.size v' l ∧ Below w.heap.size w w' := by
  obtain ⟨i, hi, hz, hs, hby⟩ := info_u8
  have hb0 : Below w.heap.size w (w.alloc (.cells #[] 5)) := (Below.refl _ _).alloc (Nat.le_refl _) _
  have hown : (w.alloc (.cells #[] 5)).ownsRow w.heap.size 5 1 (.slice (some ⟨w.heap.size, 0, none⟩) 0 0) 0 [] := World.ownsRow_made w #[] 0 (Nat.le_refl _) (Nat.zero_le _) rfl
  obtain ⟨h1, h2, h3, h4⟩ := hB.below hb0 (Nat.le_refl _)
  rcases Nat.eq_zero_or_pos l.length with h0 | h0
  · obtain rfl : l = [] := List.length_eq_zero_iff.1 h0
    refine ⟨.slice (some ⟨w.heap.size, 0, none⟩) 0 0, _, ?_, hown, hb0⟩
    exact run_append_room_src (P := Tryd.prog) (w.alloc (.cells #[] 5)) 22 22 ty 5 i Tryd.underlying22 hi w.heap.size 0 0 0 (.slice a0 0 cap) 0 [] (by rw [hs]; exact src_none _ a0 cap) (Nat.le_refl _) (fun j hj => absurd hj (Nat.not_lt_zero _)) (fun j hj => absurd hj (Nat.not_lt_zero _))
  · rcases h3 with h3 | ⟨g, off, rfl, hL⟩
    · rw [h3] at h0; cases h0
    have src := src_some _ g off cap l hL
    obtain ⟨v', w', hr, ho, hg, _⟩ := run_append_own (P := Tryd.prog) (w.alloc (.cells #[] 5)) w.heap.size 22 ty 5 i (.int .u8 0) 1 1 Tryd.underlying22 hi hz hs hby rfl (by decide)
      _ 0 [] hown ⟨g, off, none⟩ l.length cap (l.map (Value.int .u8)) (by simp)
      (fun j u h => by
        have hj : j < l.length := by
          rcases Nat.lt_or_ge j l.length with h' | h'
          · exact h'
          · rw [List.getElem?_eq_none (by simpa using h')] at h; cases h
        rw [Addr.add_lit, (hL j hj).1]
        simp [List.getElem?_eq_getElem hj] at h
        simp [List.getD, List.getElem?_eq_getElem hj, h])
      src.one (by unfold maxLen; omega) (by omega) (by simp)
    refine ⟨v', w', hr, ?_, hb0.grown hg (by simp) (fun k e => by cases e; exact Nat.le_refl _)⟩
    unfold Own
    simpa using ho

theorem src_cells {w : World} {g off : Nat} {m : List Int} (hL : Lies w g off m) : ∀ j u, (m.map (Value.int .u8))[j]? = some u → w.cell? ((⟨g, off, none⟩ : Addr).add j) = some u := by
  intro j u h
  have hj : j < m.length := by
    rcases Nat.lt_or_ge j m.length with h' | h'
    · exact h'
    · rw [List.getElem?_eq_none (by simpa using h')] at h; cases h
  rw [Addr.add_lit, (hL j hj).1]
  simp [List.getElem?_eq_getElem hj] at h
  simp [List.getD, List.getElem?_eq_getElem hj, h]

/-- append(v, m...) where v is the call's own -/
theorem run_more (w : World) (B g c : Nat) (l m : List Int) (a0 : Option Addr) (cap : Nat) (ty : TypeId) (h : Own w B (.slice (some ⟨g, 0, none⟩) l.length c) l) (hm : IsB w a0 cap m) (hB : B ≤ w.heap.size) (hn : l.length + m.length ≤ 140737488355328) :
    ∃ g' c' w', (Builtin.append_ #[22, 22] ty #[.slice (some ⟨g, 0, none⟩) l.length c, .slice a0 m.length cap]).run Tryd.prog w = .ok (.slice (some ⟨g', 0, none⟩) (l.length + m.length) c') w' ∧
      Own w' B (.slice (some ⟨g', 0, none⟩) (l.length + m.length) c') (l ++ m) ∧ Below B w w' ∧ B ≤ g' ∧ g' < w'.heap.size := by
  obtain ⟨i, hi, hz, hs, hby⟩ := info_u8
  have hgB : B ≤ g ∧ g < w.heap.size := World.ownsRow.lt h g rfl
  rcases Nat.eq_zero_or_pos m.length with h0 | h0
  · obtain rfl : m = [] := List.length_eq_zero_iff.1 h0
    have hlc : l.length ≤ c := by
      rcases h.2 with ⟨hv, _⟩ | ⟨g1, cap1, cur, hv, _, _, hc, _⟩
      · cases hv
      · cases hv; exact hc
    refine ⟨g, c, w, ?_, by simpa using h, Below.refl _ _, hgB.1, hgB.2⟩
    exact run_append_room_src (P := Tryd.prog) w 22 22 ty 5 i Tryd.underlying22 hi g 0 l.length c (.slice a0 0 cap) 0 [] (by rw [hs]; exact src_none _ a0 cap) (by omega) (fun j hj => absurd hj (Nat.not_lt_zero _)) (fun j hj => absurd hj (Nat.not_lt_zero _))
  · rcases hm.2.2.1 with h3 | ⟨g0, off, rfl, hL⟩
    · rw [h3] at h0; cases h0
    obtain ⟨g', c', w', hr, ho, hg, hat, hlt⟩ := run_append_lies (P := Tryd.prog) w 22 ty B 5 i (.int .u8 0) 1 1 Tryd.underlying22 hi hz hs hby rfl (by decide)
      _ l.length (l.map (Value.int .u8)) h ⟨g0, off, none⟩ m.length cap (m.map (Value.int .u8)) (by simp) (src_cells hL) (src_some _ g0 off cap m hL).one h0 (by unfold maxLen; omega) (by omega) hB (w.heap.size) (by omega)
    have hown : Own w' B (.slice (some ⟨g', 0, none⟩) (l.length + m.length) c') (l ++ m) := by
      unfold Own
      simpa using ho
    exact ⟨g', c', w', hr, hown, (Below.refl B w).grown hg hB (fun k e => by cases e; exact hgB.1), (World.ownsRow.lt hown g' rfl).1, (World.ownsRow.lt hown g' rfl).2⟩

end Go.Proofs.YtkdnanlgkedjgabDoor
end

section
namespace Go.Proofs.YtkdnanlgkedjgabDoor
open Go.ChangeShapes Go.WideShapes Go.ChangeAt Go.RowKit

section
variable {P : Program} {md : Region.Mode} {ops : Array Oper} {Q : Exit → Act → World → Prop} {S : World → Prop} {late : Nat → Bool}

theorem anyL_firstF {i : Nat} {oi : Oper} {v : Value} (hi : ops[i]? = some oi) (hsel : ∀ (j : Nat) (o : Oper) cs b, ops[j]? = some o → o.op ≠ .select cs b)
    (hQ : ∀ c a w, Q (.panic c) (a.put oi.dst v) w → Q (.panic c) a w) (hl : late i = true) :
    ∀ (fuel : Nat) (listed : Array Bool) (a : Act) (w : World),
      (∀ j oj, ops[j]? = some oj → j ≠ i → listed.getD j true = false → (∀ e ∈ oj.after, Region.binds md e = true → e.on ≠ i) → oi.apart ops oj = true) →
      i ∈ Region.ready md ops listed → YieldsIf P ops (fun _ => True) oi v a →
      anyL P md ops Q S late fuel (listed.setIfInBounds i true) (a.put oi.dst v) w → anyL P md ops Q S late (fuel + 1) listed a w
  | fuel, listed, a, w, hfree, hr, hy, H => by
    refine ⟨fun h => (by rw [h] at hr; cases hr), fun j hj => ?_⟩
    by_cases hji : j = i
    · subst hji; exact hy.wpOp hi trivial ⟨fun h => (by rw [hl] at h; cases h), H⟩
    · obtain ⟨hjun, oj, hoj, hall⟩ := mem_ready.1 hj
      have hni : listed.getD i false = true → False := fun h1 => by
        have h0 := (mem_ready.1 hr).1
        rcases Nat.lt_or_ge i listed.size with h' | h'
        · simp [h'] at h0 h1; rw [h0] at h1; cases h1
        · simp [Array.getElem?_eq_none h'] at h1
      have hnot : ∀ e ∈ oj.after, Region.binds md e = true → e.on ≠ i := fun e he hb heq => hni (by rw [← heq]; exact hall e he hb)
      match fuel, H with
      | 0, H =>
        have := ready_mono hj hji
        rw [H.1] at this
        cases this
      | fuel + 1, H =>
        have h2 := wpOp_putIf hoj (hfree j oj hoj hji hjun hnot) (fun cs b => hsel i oi cs b hi) (fun cs b => hsel j oj cs b hoj) hQ hy (H.2 j (ready_mono hj hji))
        refine wpOp_mono (fun a' w' h3 => ⟨h3.2.1, anyL_firstF hi hsel hQ hl fuel (listed.setIfInBounds j true) a' w' ?_ (ready_mono hr (Ne.symm hji)) h3.1 ?_⟩) h2
        · intro k ok hk hki hun hno
          refine hfree k ok hk hki ?_ hno
          by_cases hjk : j = k
          · subst hjk; exact hjun
          · rw [getD_set_ne true hjk] at hun; exact hun
        · rw [Array.setIfInBounds_comm _ _ hji]
          exact h3.2.2

theorem anyL_free {i : Nat} {oi : Oper} {v : Value} {fuel : Nat} {listed : Array Bool} {a : Act} {w : World} (hi : ops[i]? = some oi) (hs : Region.noSelect ops = true) (hf : Region.free md ops listed i = true)
    (hr : (Region.ready md ops listed).contains i = true) (hl : late i = true) (hQ : ∀ c a w, Q (.panic c) (a.put oi.dst v) w → Q (.panic c) a w) (hy : YieldsIf P ops (fun _ => True) oi v a)
    (h : anyL P md ops Q S late fuel (listed.setIfInBounds i true) (a.put oi.dst v) w) : anyL P md ops Q S late (fuel + 1) listed a w :=
  anyL_firstF hi (Region.noSelect_spec hs) hQ hl fuel listed a w (Region.free_spec hi hf) (by simpa using hr) hy h
end
end Go.Proofs.YtkdnanlgkedjgabDoor
end
