/- Rows of runes that may be written and grown; step.Runes answers in such a row; a row of such rows. -/
import Derived.Test.YtbkageelholpeaaDoorRwx
import Derived.Test.YtbkageelholpeaaDoorRun
import Derived.Test.YtbkageelholpeaaDoorUnm
import Derived.Test.YtbkageelholpeaaDoorIts
namespace Go.Proofs.YtbkageelholpeaaDoor
open Go.ChangeShapes Go.WideShapes Go.ChangeAt Go.RowKit

/-- append one to such a row -/
theorem pushX_i32 (W : World) (N : Nat) (v : Value) (x : Int) (ty : TypeId) (h : RwX .i32 N W v) (hN : N ≤ 8388608) :
    ∃ v' W', (Builtin.append_ #[28, 28] ty #[v, .slice (some ⟨W.heap.size, 0, none⟩) 1 1]).run Tryd.prog (W.alloc (.cells #[.int .i32 x] 21)) = .ok v' W' ∧ RwX .i32 (N + 1) W' v' ∧
      (W.alloc (.cells #[.int .i32 x] 21)).grownBy W' v.ownBlock ∧ ((v'.ownBlock = v.ownBlock) ∨ ∃ g, v'.ownBlock = some g ∧ W.heap.size ≤ g) := by
  obtain ⟨i, hi, hz, hs, hby⟩ := info_i32
  have hsrc : Src Tryd.prog i.size 28 (.slice (some ⟨W.heap.size, 0, none⟩) 1 1) 1 [.int .i32 x] (W.alloc (.cells #[.int .i32 x] 21)) := by
    rw [hs]
    refine Src.ofSlice _ Tryd.underlying28 ⟨W.heap.size, 0, none⟩ 1 1 [.int .i32 x] rfl (fun j u hj => ?_) (fun u hu => by simp at hu; subst hu; rfl)
    cases j with
    | zero => simp at hj; subst hj; rw [Addr.add_lit]; exact (World.cell?_alloc_mark W _ _ (0, 0) 0).trans rfl
    | succ j => simp at hj
  rcases h with rfl | ⟨g, n, cap, rfl, hn, hg, hnc, hc, hv⟩
  · have := run_append_grow_src (P := Tryd.prog) (W.alloc (.cells #[.int .i32 x] 21)) 28 28 ty 21 i (.int .i32 0) Tryd.underlying28 hi hz none 0 0 []
      (by rw [hs]; rfl) _ 1 _ hsrc (by omega) (by omega) (by rw [hby]; decide)
    refine ⟨_, _, this, ?_, ⟨rfl, rfl, rfl, by simp, fun k hk _ => heap_alloc_old _ _ hk⟩, Or.inr ⟨_, rfl, by simp⟩⟩
    exact rwX_new _ _ [.int .i32 x] 1 _ rfl (by omega) (fun u hu => by simp at hu; subst hu; exact ⟨x, rfl⟩) (grownCap_ge _ _ _ _)
  · have hga : g ≠ W.heap.size := by omega
    have hcell : ∀ i, (W.alloc (.cells #[.int .i32 x] 21)).cell? ⟨g, i, none⟩ = W.cell? ⟨g, i, none⟩ := fun i => World.cell?_of_block (a := ⟨g, i, none⟩) (heap_alloc_old W _ hg)
    have hfro : ∀ i, (W.alloc (.cells #[.int .i32 x] 21)).frozen? ⟨g, i, none⟩ = W.frozen? ⟨g, i, none⟩ := fun i => by
      have e := heap_alloc_old W (.cells #[.int .i32 x] 21) hg
      simp only [World.frozen?, e]
    by_cases hroom : n + 1 ≤ cap
    · have := run_append_room_src (P := Tryd.prog) (W.alloc (.cells #[.int .i32 x] 21)) 28 28 ty 21 i Tryd.underlying28 hi g 0 n cap _ 1 _ hsrc hroom
        (fun j hj => by
          obtain rfl : j = 0 := by simpa using hj
          rw [hs, Nat.mul_one, Nat.zero_add, Nat.add_zero, hcell]; exact (hc n (by omega)).1)
        (fun j hj => by
          obtain rfl : j = 0 := by simpa using hj
          rw [hs, Nat.mul_one, Nat.zero_add, Nat.add_zero, hfro]; exact (hc n (by omega)).2)
      rw [hs, Nat.mul_one, Nat.zero_add] at this
      rw [setCells_one] at this
      refine ⟨_, _, this, ?_, grown_set _ _ _ _, Or.inl rfl⟩
      have hb : RwX .i32 N (W.alloc (.cells #[.int .i32 x] 21)) (.slice (some ⟨g, 0, none⟩) n cap) := Or.inr ⟨g, n, cap, rfl, hn, by simp; omega, hnc, fun i hi => ⟨by rw [hcell]; exact (hc i hi).1, by rw [hfro]; exact (hc i hi).2⟩, fun i hi => by rw [hcell]; exact hv i hi⟩
      exact rwX_put hb x hroom
    · have hold : (Builtin.firstCells i.size n (.slice (some ⟨g, 0, none⟩) n cap)).run Tryd.prog (W.alloc (.cells #[.int .i32 x] 21)).drew = .ok ((List.range n).map fun i => (W.cell? ⟨g, i, none⟩).getD undef).toArray (W.alloc (.cells #[.int .i32 x] 21)).drew := by
        refine run_firstCells_some _ _ n ⟨g, 0, none⟩ n cap _ (by rw [hs]; simp) (fun j u hj => ?_)
        have hj' : j < n := by
          rcases Nat.lt_or_ge j n with h | h
          · exact h
          · rw [List.getElem?_eq_none (by simpa using h)] at hj; cases hj
        obtain ⟨b, hb⟩ := hv j hj'
        rw [List.getElem?_map, List.getElem?_range hj'] at hj
        simp [hb] at hj
        subst hj
        rw [Addr.add_lit, Nat.zero_add]
        exact (hcell j).trans hb
      have := run_append_grow_src (P := Tryd.prog) (W.alloc (.cells #[.int .i32 x] 21)) 28 28 ty 21 i (.int .i32 0) Tryd.underlying28 hi hz (some ⟨g, 0, none⟩) n cap _ hold _ 1 _ hsrc (by omega) (by omega)
        (by rw [hby]; exact growslice_fits (by omega) (by omega))
      refine ⟨_, _, this, ?_, ⟨rfl, rfl, rfl, by simp, fun k hk _ => heap_alloc_old _ _ hk⟩, Or.inr ⟨_, rfl, by simp⟩⟩
      refine rwX_new _ _ _ (n + 1) _ (by simp) (by omega) (fun u hu => ?_) (grownCap_ge _ _ _ _)
      rcases List.mem_append.1 hu with hu | hu
      · obtain ⟨j, hj, rfl⟩ := List.mem_map.1 hu
        obtain ⟨b, hb⟩ := hv j (List.mem_range.1 hj)
        exact ⟨b, by rw [hb]; rfl⟩
      · simp at hu; subst hu; exact ⟨x, rfl⟩


/-- []rune(string), and the row in which it lies -/
theorem run_runesX (W : World) (l : List Int) (hl : ∀ x ∈ l, 0 ≤ x ∧ x ≤ 255) (hn : l.length ≤ 4194304) :
    ∃ c W', (convert 9 28 (.string (strOfNums l))).run Tryd.prog W = .ok (.slice (some ⟨W.heap.size, 0, none⟩) (runesL l).length c) W' ∧ RwX .i32 4194304 W' (.slice (some ⟨W.heap.size, 0, none⟩) (runesL l).length c) ∧ Below W.heap.size W W' := by
  have hr := runes_of hl
  have hle := runesL_le l
  have := run_runes_of_string (P := Tryd.prog) W 9 28 21 (strOfNums l) Tryd.underlying9 Tryd.underlying28 Tryd.underlying21 (by rw [hr]; simp; omega)
  rw [hr] at this
  simp only [List.size_toArray, List.length_map] at this
  have hge := grownCap_ge W (runesL l).length 0 21
  have hsz : (((runesL l).map (Value.int .i32)).toArray ++ Array.replicate (grownCap W (runesL l).length 0 21 - (runesL l).length) (Value.int .i32 0)).size = grownCap W (runesL l).length 0 21 := by simp; omega
  refine ⟨_, _, this, Or.inr ⟨_, _, _, rfl, by omega, by simp, hge, fun i hi => ⟨?_, ?_⟩, fun i hi => ⟨(runesL l).getD i 0, ?_⟩⟩, ((Below.refl W.heap.size W).drew).alloc (Nat.le_refl _) _⟩
  · refine (congrArg Option.isSome (World.cell?_alloc_mark W.drew _ 21 (0, 0) i)).trans ?_
    rw [Array.getElem?_eq_getElem (by rw [hsz]; exact hi)]
    rfl
  · have e : (W.drew.alloc (.cells (((runesL l).map (Value.int .i32)).toArray ++ Array.replicate (grownCap W (runesL l).length 0 21 - (runesL l).length) (Value.int .i32 0)) 21)).heap[W.heap.size]? = some (.cells _ 21 (0, 0)) := heap_alloc_new W.drew _
    simp only [World.frozen?]
    rw [e]
    simp
  · refine (World.cell?_alloc_mark W.drew _ 21 (0, 0) i).trans ?_
    rw [Array.getElem?_append_left (by simpa using hi)]
    simp [List.getElem?_eq_getElem hi, List.getD]
theorem Runes_own (a0 : Option Addr) (cap : Nat) (l : List Int) (w : World) (hB : IsB w a0 cap l) (hn : l.length ≤ 4194304) :
    Calls Tryd.prog 7 #[.slice a0 l.length cap] w fun e w' => ∃ c, e = .returned (.slice (some ⟨w.heap.size, 0, none⟩) (runesL l).length c) ∧ RwX .i32 4194304 w' (.slice (some ⟨w.heap.size, 0, none⟩) (runesL l).length c) ∧ Below w.heap.size w w' := by
  have kb := str_bs w a0 cap l hB.2.2.1
  obtain ⟨c, w1, hr, h2, h3⟩ := run_runesX w l hB.2.2.2 hn
  go_enter Tryd.func7, Tryd.ntmps7
  go_wp2
  go_ret
  exact ⟨c, rfl, h2, h3⟩

/-- lists of m runes each, in the blocks gs, of these capacities -/
def sl (m : Nat) (p : Nat × Nat) : Value := .slice (some ⟨p.1, 0, none⟩) m p.2
def OwnL (W : World) (B : Nat) (v : Value) (m : Nat) (gs : List (Nat × Nat)) : Prop := W.ownsRow B 28 1 v gs.length (gs.map (sl m))
structure RR (W : World) (m : Nat) (gs : List (Nat × Nat)) : Prop where
  rows : ∀ p ∈ gs, RwX .i32 4194304 W (sl m p)
  apart : (gs.map (·.1)).Nodup
theorem info_list : ∃ i, Tryd.prog.info? 28 = some i ∧ i.zero = some (.slice none 0 0) ∧ i.size = 1 ∧ i.bytes = 24 := by
  refine ⟨_, rfl, ?_, ?_, ?_⟩ <;> rfl
theorem RwX.lt' {k : IntKind} {N : Nat} {W : World} {g n c : Nat} (h : RwX k N W (.slice (some ⟨g, 0, none⟩) n c)) : g < W.heap.size := by
  rcases h with h | ⟨g', n', cap', e, _, h2, _⟩
  · cases h
  · cases e; exact h2
theorem RwX.keptK {k : IntKind} {N : Nat} {W W' : World} {v : Value} {row : Option Nat} (h : RwX k N W v) (hg : W.grownBy W' row) (hne : v.ownBlock = none ∨ v.ownBlock ≠ row) : RwX k N W' v := by
  rcases h with rfl | ⟨g, n, cap, rfl, h1, h2, h3, h4, h5⟩
  · exact Or.inl rfl
  · have e : W'.heap[g]? = W.heap[g]? := hg.block g h2 (by simpa [Value.ownBlock] using hne)
    have ec : ∀ i, W'.cell? ⟨g, i, none⟩ = W.cell? ⟨g, i, none⟩ := fun i => World.cell?_of_block (a := ⟨g, i, none⟩) e
    have ef : ∀ i, W'.frozen? ⟨g, i, none⟩ = W.frozen? ⟨g, i, none⟩ := fun i => by simp only [World.frozen?, e]
    exact Or.inr ⟨g, n, cap, rfl, h1, Nat.lt_of_lt_of_le h2 hg.size, h3, fun i hi => ⟨by rw [ec]; exact (h4 i hi).1, by rw [ef]; exact (h4 i hi).2⟩, fun i hi => by rw [ec]; exact h5 i hi⟩
theorem RR.kept {W W' : World} {m : Nat} {gs : List (Nat × Nat)} {row : Option Nat} (h : RR W m gs) (hg : W.grownBy W' row) (hne : ∀ p ∈ gs, row ≠ some p.1) : RR W' m gs :=
  ⟨fun p hp => (h.rows p hp).keptK hg (Or.inr (fun e => hne p hp e.symm)), h.apart⟩
theorem RR.below {W W' : World} {m : Nat} {gs : List (Nat × Nat)} (h : RR W m gs) (hb : Below W.heap.size W W') : RR W' m gs := h.kept (grown_below none hb) (fun _ _ => by simp)
theorem OwnL.below {W W' : World} {B : Nat} {v : Value} {m : Nat} {gs : List (Nat × Nat)} (h : OwnL W B v m gs) (hb : Below W.heap.size W W') : OwnL W' B v m gs := World.ownsRow.kept h (grown_below none hb) (Classical.em _)
theorem RR.snoc {W : World} {m g c : Nat} {gs : List (Nat × Nat)} (h : RR W m gs) (hr : RwX .i32 4194304 W (sl m (g, c))) (hg : ∀ p ∈ gs, p.1 < g) : RR W m (gs ++ [(g, c)]) := by
  refine ⟨fun p hp => ?_, ?_⟩
  · rcases List.mem_append.1 hp with h' | h'
    · exact h.rows p h'
    · rw [List.mem_singleton] at h'; rw [h']; exact hr
  · rw [List.map_append, List.nodup_append]
    refine ⟨h.apart, by simp, fun a ha b hb => ?_⟩
    obtain ⟨p, hp, rfl⟩ := List.mem_map.1 ha
    simp at hb
    subst hb
    have := hg p hp
    omega
/-- a list is appended to the lists -/
theorem push_list (W : World) (B : Nat) (v : Value) (m : Nat) (gs : List (Nat × Nat)) (p : Nat × Nat) (ty : TypeId) (h : OwnL W B v m gs) (hn : gs.length ≤ 1000) (hB : B ≤ W.heap.size) :
    ∃ v' W', (Builtin.append_ #[27, 27] ty #[v, .slice (some ⟨W.heap.size, 0, none⟩) 1 1]).run Tryd.prog (W.alloc (.cells #[.slice (some ⟨p.1, 0, none⟩) m p.2] 28)) = .ok v' W' ∧
      OwnL W' B v' m (gs ++ [p]) ∧ Below B W W' ∧ (W.alloc (.cells #[.slice (some ⟨p.1, 0, none⟩) m p.2] 28)).grownBy W' v.ownBlock := by
  obtain ⟨i, hi, hz, hs, hby⟩ := info_list
  have hr := World.ownsRow.alloc h (.cells #[.slice (some ⟨p.1, 0, none⟩) m p.2] 28)
  obtain ⟨g, c, W', hrun, ho, hg, _, _⟩ := run_append_lies (P := Tryd.prog) (W.alloc (.cells #[.slice (some ⟨p.1, 0, none⟩) m p.2] 28)) 27 ty B 28 i (.slice none 0 0) 1 24 Tryd.underlying27 hi hz hs hby rfl (by decide)
    v gs.length (gs.map (sl m)) hr ⟨W.heap.size, 0, none⟩ 1 1 [.slice (some ⟨p.1, 0, none⟩) m p.2] rfl
    (fun j u hj => by
      cases j with
      | zero => simp at hj; subst hj; rw [Addr.add_lit]; exact (World.cell?_alloc_mark W _ _ (0, 0) 0).trans rfl
      | succ j => simp at hj)
    (fun u hu => by simp at hu; subst hu; rfl) (by decide) (by unfold maxLen; omega) (by omega) (by simp; omega) _ rfl
  refine ⟨_, W', hrun, ?_, ((Below.refl B W).alloc hB _).grown hg (by simp; omega) (fun k hk => (hr.lt k hk).1), hg⟩
  unfold OwnL
  rw [List.length_append, List.map_append]
  exact ho
theorem OwnL.cell {W : World} {B : Nat} {v : Value} {m : Nat} {gs : List (Nat × Nat)} (h : OwnL W B v m gs) (h0 : 0 < gs.length) : ∃ g c, v = .slice (some ⟨g, 0, none⟩) gs.length c ∧ B ≤ g ∧ g < W.heap.size ∧ ∀ k, k < gs.length → W.cell? ⟨g, k, none⟩ = some (sl m (gs.getD k (0, 0))) := by
  have hh := h
  rcases h.2 with ⟨_, h1⟩ | ⟨g, cap, cur, rfl, hb, hg, hc, _⟩
  · omega
  · refine ⟨g, cap, rfl, hb, heap_lt hg, fun k hk => ?_⟩
    have := World.ownsRow.cells hh rfl k (sl m (gs.getD k (0, 0))) (by simp [List.getElem?_eq_getElem hk, List.getD])
    rwa [Addr.add_lit, Nat.zero_add] at this

end Go.Proofs.YtbkageelholpeaaDoor
