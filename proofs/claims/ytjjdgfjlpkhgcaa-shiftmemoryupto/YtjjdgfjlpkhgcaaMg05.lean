/- Layer 13: operations and texts in memory, lists of them that grow. · Layer 13: the builder in memory. · Layer 13: what is looked at of each operation, and how each is handed on. -/
import Derived.Test.YtjjdgfjlpkhgcaaMg01
import Derived.Test.YtjjdgfjlpkhgcaaMg02
import Derived.Test.YtjjdgfjlpkhgcaaMg04
import Derived.Deep.AppendLies
import Derived.Deep.Cut
import Derived.Deep.CutRange
import Derived.Deep.DeepCutAuto
import Derived.Lib.Bytes

section
namespace Go.Proofs.Ytjjdgfjlpkhgcaa
open Go.ChangeShapes Go.WideShapes Go.ChangeAt Go.RowKit
attribute [local go_sem] Oper.semAt_some

theorem wrapD (n : Int) (h0 : -9223372036854775808 ≤ n) (h1 : n ≤ 9223372036854775807) : wrap64 n = n := by unfold wrap64; omega
/-- an operation's three cells -/
def opL (x : Dop) : List Value := [.int .i64 x.k, .int .i64 x.n, .string (strOfNums x.t)]
def opsV (d : List Dop) : List Value := d.flatMap opL
def opZ : Dop := ⟨0, 0, []⟩
theorem opsV_len (q : List Dop) : (opsV q).length = q.length * 3 := by
  induction q with
  | nil => rfl
  | cons t ts ih => simp only [opsV, List.flatMap_cons, List.length_append, List.length_cons] at ih ⊢; rw [ih]; simp [opL]; omega
theorem opsV_app (a b : List Dop) : opsV (a ++ b) = opsV a ++ opsV b := by simp [opsV]
theorem opsV_one (x : Dop) : opsV [x] = opL x := by simp [opsV]
theorem opsV_get : ∀ (q : List Dop) (k j : Nat), k < q.length → j < 3 → (opsV q)[k * 3 + j]? = (opL (q.getD k opZ))[j]?
  | [], k, _, hk, _ => absurd hk (by simp)
  | t :: ts, 0, j, _, hj => by
    rw [opsV, List.flatMap_cons, Nat.zero_mul, Nat.zero_add, List.getElem?_append_left (by simpa [opL] using hj)]; rfl
  | t :: ts, k + 1, j, hk, hj => by
    have ih := opsV_get ts k j (by simpa using hk) hj
    rw [opsV, List.flatMap_cons, List.getElem?_append_right (by simp [opL]; omega), show (k + 1) * 3 + j - (opL t).length = k * 3 + j by simp [opL]; omega]
    simpa [opsV] using ih
theorem opL_cell {x : Dop} {u : Value} (h : u ∈ opL x) : u.oneCell' = true := by
  simp [opL] at h
  rcases h with rfl | rfl | rfl <;> rfl
/-- a list of operations that lies there -/
def IsO (W : World) (a : Option Addr) (d : List Dop) : Prop := d = [] ∨ ∃ g off, a = some ⟨g, off, none⟩ ∧ g < W.heap.size ∧ ∀ k, k < d.length →
  W.cell? ⟨g, off + k * 3, none⟩ = some (.int .i64 (d.getD k opZ).k) ∧ W.cell? ⟨g, off + k * 3 + 1, none⟩ = some (.int .i64 (d.getD k opZ).n) ∧ W.cell? ⟨g, off + k * 3 + 2, none⟩ = some (.string (strOfNums (d.getD k opZ).t))
theorem IsO.below {W W' : World} {B : Nat} {a : Option Addr} {d : List Dop} (h : IsO W a d) (hb : Below B W W') (hB : W.heap.size ≤ B) : IsO W' a d := by
  rcases h with h | ⟨g, off, rfl, hg, hc⟩
  · exact Or.inl h
  · refine Or.inr ⟨g, off, rfl, Nat.lt_of_lt_of_le hg hb.size, fun k hk => ?_⟩
    obtain ⟨c0, c1, c2⟩ := hc k hk
    exact ⟨(hb.cell (p := ⟨g, off + k * 3, none⟩) (by show g < B; omega)).trans c0, (hb.cell (p := ⟨g, off + k * 3 + 1, none⟩) (by show g < B; omega)).trans c1, (hb.cell (p := ⟨g, off + k * 3 + 2, none⟩) (by show g < B; omega)).trans c2⟩
theorem IsO.three {W : World} {a : Option Addr} {d : List Dop} (h : IsO W a d) {k : Nat} (hk : k < d.length) : ∃ g off, a = some ⟨g, off, none⟩ ∧ g < W.heap.size ∧
    W.cell? ⟨g, off + k * 3, none⟩ = some (.int .i64 (d.getD k opZ).k) ∧ W.cell? ⟨g, off + k * 3 + 1, none⟩ = some (.int .i64 (d.getD k opZ).n) ∧ W.cell? ⟨g, off + k * 3 + 2, none⟩ = some (.string (strOfNums (d.getD k opZ).t)) := by
  rcases h with h | ⟨g, off, rfl, hg, hc⟩
  · rw [h] at hk; simp at hk
  · exact ⟨g, off, rfl, hg, hc k hk⟩
/-- a list of one's own lies there -/
theorem own_isO {W : World} {B : Nat} {v : Value} {d : List Dop} (h : W.ownsRow B 34 3 v d.length (opsV d)) : ∃ a c, v = .slice a d.length c ∧ IsO W a d ∧ d.length ≤ c := by
  have hh := h
  rcases h.2 with ⟨rfl, h0⟩ | ⟨g, cap, cur, rfl, hB, hg, hc, hm, hs, ht⟩
  · have : d = [] := List.length_eq_zero_iff.1 h0
    exact ⟨none, 0, by rw [h0], Or.inl this, by omega⟩
  · refine ⟨some ⟨g, 0, none⟩, cap, rfl, Or.inr ⟨g, 0, rfl, (Array.getElem?_eq_some_iff.1 hg).1, fun k hk => ?_⟩, hc⟩
    have f : ∀ j, j < 3 → W.cell? ⟨g, 0 + (k * 3 + j), none⟩ = (opL (d.getD k opZ))[j]? := fun j hj => by
      have e := opsV_get d k j hk hj
      obtain ⟨u, hu⟩ : ∃ u, (opL (d.getD k opZ))[j]? = some u := ⟨_, List.getElem?_eq_getElem (by simpa [opL] using hj)⟩
      rw [hu] at e ⊢
      have := World.ownsRow.cells hh rfl (k * 3 + j) u e
      rwa [Addr.add_lit] at this
    exact ⟨f 0 (by decide), f 1 (by decide), f 2 (by decide)⟩
theorem rowD_on {X Y : World} {B s n : Nat} {t : TypeId} {v : Value} {xs : List Value} (h : X.ownsRow B t s v n xs) (hb : ∀ G, v.ownBlock = some G → Y.heap[G]? = X.heap[G]?) : Y.ownsRow B t s v n xs := by
  refine ⟨h.1, ?_⟩
  rcases h.2 with h2 | ⟨g, cap, cur, e, h3, h4, h5⟩
  · exact Or.inl h2
  · exact Or.inr ⟨g, cap, cur, e, h3, (hb g (by rw [e]; rfl)).trans h4, h5⟩
theorem rowD_block {X : World} {B s n : Nat} {t : TypeId} {v : Value} {xs : List Value} (h : X.ownsRow B t s v n xs) {G : Nat} (hG : v.ownBlock = some G) : B ≤ G ∧ ∃ cur, X.heap[G]? = some (.cells cur t (0, 0)) := by
  rcases h.2 with ⟨rfl, _⟩ | ⟨g, cap, cur, rfl, h3, h4, _⟩
  · cases hG
  · cases hG; exact ⟨h3, cur, h4⟩
theorem rowD_below {X Y : World} {B N s n : Nat} {t : TypeId} {v : Value} {xs : List Value} (h : X.ownsRow B t s v n xs) (hb : Below N X Y) (hN : X.heap.size ≤ N) : Y.ownsRow B t s v n xs := rowD_on h fun G hG => by
  obtain ⟨_, cur, hc⟩ := rowD_block h hG
  exact hb.block G (Nat.lt_of_lt_of_le (Array.getElem?_eq_some_iff.1 hc).1 hN)
theorem typeD_ne {X : World} {a b : Nat} {ca cb : Array Value} {ta tb : TypeId} {ma mb : Nat × Nat} (ha : X.heap[a]? = some (.cells ca ta ma)) (hb : X.heap[b]? = some (.cells cb tb mb)) (h : ta ≠ tb) : a ≠ b := by
  rintro rfl
  rw [ha] at hb
  cases hb
  exact h rfl
theorem push_getD (W : World) (o : Obj) : (W.alloc o).heap[W.heap.size]? = some o := World.alloc_heap_new W o
set_option maxRecDepth 100000 in
theorem info_op : ∃ i, Try.prog.info? 34 = some i ∧ i.zero = some (.agg #[.int .i64 0, .int .i64 0, .string ⟨#[]⟩]) ∧ i.size = 3 ∧ i.bytes = 32 := by
  refine ⟨_, rfl, ?_, ?_, ?_⟩ <;> rfl
set_option maxRecDepth 100000 in
theorem info_str : ∃ i, Try.prog.info? 9 = some i ∧ i.zero = some (.string ⟨#[]⟩) ∧ i.size = 1 ∧ i.bytes = 16 := by
  refine ⟨_, rfl, ?_, ?_, ?_⟩ <;> rfl
theorem three_nwD (w : World) (a b c : Value) {t : TypeId} : (w.alloc (.cells #[a, b, c] t)).cell? ⟨w.heap.size, 0, none⟩ = some a ∧ (w.alloc (.cells #[a, b, c] t)).cell? ⟨w.heap.size, 1, none⟩ = some b ∧ (w.alloc (.cells #[a, b, c] t)).cell? ⟨w.heap.size, 2, none⟩ = some c := by
  refine ⟨?_, ?_, ?_⟩
  · exact (World.cell?_alloc_mark w #[a, b, c] t (0, 0) 0).trans rfl
  · exact (World.cell?_alloc_mark w #[a, b, c] t (0, 0) 1).trans rfl
  · exact (World.cell?_alloc_mark w #[a, b, c] t (0, 0) 2).trans rfl
/-- one more operation -/
theorem push_op (W : World) (B n : Nat) (v : Value) (xs : List Value) (a b : Int) (s : ByteArray) (ty : TypeId) (h : W.ownsRow B 34 3 v n xs) (hn : n ≤ 1099511627776) (hB : B ≤ W.heap.size) :
    ∃ g k W', (Builtin.append_ #[24, 24] ty #[v, .slice (some ⟨W.heap.size, 0, none⟩) 1 1]).run Try.prog (W.alloc (.cells #[.int .i64 a, .int .i64 b, .string s] 34)) = .ok (.slice (some ⟨g, 0, none⟩) (n + 1) k) W' ∧
      W'.ownsRow B 34 3 (.slice (some ⟨g, 0, none⟩) (n + 1) k) (n + 1) (xs ++ [.int .i64 a, .int .i64 b, .string s]) ∧ W.grownBy W' v.ownBlock ∧ Below B W W' := by
  obtain ⟨i, hi, hz, hs, hby⟩ := info_op
  have hr := World.ownsRow.alloc h (.cells #[.int .i64 a, .int .i64 b, .string s] 34)
  obtain ⟨c0, c1, c2⟩ := three_nwD W (.int .i64 a) (.int .i64 b) (.string s) (t := 34)
  obtain ⟨g, k, W', hrun, ho, hg, _, _⟩ := run_append_lies (P := Try.prog) (W.alloc (.cells #[.int .i64 a, .int .i64 b, .string s] 34)) 24 ty B 34 i (.agg #[.int .i64 0, .int .i64 0, .string ⟨#[]⟩]) 3 32 Try.underlying24 hi hz hs hby rfl (by decide)
    v n xs hr ⟨W.heap.size, 0, none⟩ 1 1 [.int .i64 a, .int .i64 b, .string s] rfl
    (fun j u hj => by
      match j with
      | 0 => simp at hj; subst hj; rw [Addr.add_lit]; exact c0
      | 1 => simp at hj; subst hj; rw [Addr.add_lit]; exact c1
      | 2 => simp at hj; subst hj; rw [Addr.add_lit]; exact c2
      | j + 3 => simp at hj)
    (fun u hu => by simp at hu; rcases hu with rfl | rfl | rfl <;> rfl) (by decide) (by unfold maxLen; omega) (by omega) (by simp; omega) _ rfl
  have ha := World.grownBy_alloc W (.cells #[.int .i64 a, .int .i64 b, .string s] 34) none
  refine ⟨g, k, W', hrun, ho, ⟨hg.os.trans ha.os, hg.tape.trans ha.tape, hg.output.trans ha.output, Nat.le_trans ha.size hg.size, fun k hk hne => ?_⟩, ((Below.refl B W).alloc hB _).grown hg (by simp; omega) (fun k hk => (hr.lt k hk).1)⟩
  exact (hg.block k (Nat.lt_of_lt_of_le hk ha.size) hne).trans (ha.block k hk (by simp))
/-- one more text -/
theorem push_str (W : World) (B n : Nat) (v : Value) (xs : List Value) (x : ByteArray) (ty : TypeId) (h : W.ownsRow B 9 1 v n xs) (hn : n ≤ 4398046511104) (hB : B ≤ W.heap.size) :
    ∃ g c W', (Builtin.append_ #[80, 80] ty #[v, .slice (some ⟨W.heap.size, 0, none⟩) 1 1]).run Try.prog (W.alloc (.cells #[.string x] 9)) = .ok (.slice (some ⟨g, 0, none⟩) (n + 1) c) W' ∧
      W'.ownsRow B 9 1 (.slice (some ⟨g, 0, none⟩) (n + 1) c) (n + 1) (xs ++ [.string x]) ∧ W.grownBy W' v.ownBlock ∧ Below B W W' := by
  obtain ⟨i, hi, hz, hs, hby⟩ := info_str
  have hr := World.ownsRow.alloc h (.cells #[.string x] 9)
  obtain ⟨g, c, W', hrun, ho, hg, _, _⟩ := run_append_lies (P := Try.prog) (W.alloc (.cells #[.string x] 9)) 80 ty B 9 i (.string ⟨#[]⟩) 1 16 Try.underlying80 hi hz hs hby rfl (by decide)
    v n xs hr ⟨W.heap.size, 0, none⟩ 1 1 [.string x] rfl
    (fun j u hj => by
      cases j with
      | zero => simp at hj; subst hj; rw [Addr.add_lit]; exact (World.cell?_alloc_mark W _ _ (0, 0) 0).trans rfl
      | succ j => simp at hj)
    (fun u hu => by simp at hu; subst hu; rfl) (by decide) (by unfold maxLen; omega) (by omega) (by simp; omega) _ rfl
  have ha := World.grownBy_alloc W (.cells #[.string x] 9) none
  refine ⟨g, c, W', hrun, ho, ⟨hg.os.trans ha.os, hg.tape.trans ha.tape, hg.output.trans ha.output, Nat.le_trans ha.size hg.size, fun k hk hne => ?_⟩, ((Below.refl B W).alloc hB _).grown hg (by simp; omega) (fun k hk => (hr.lt k hk).1)⟩
  exact (hg.block k (Nat.lt_of_lt_of_le hk ha.size) hne).trans (ha.block k hk (by simp))
/-- a row cut to nothing, whose room stays -/
theorem rowD_none {X : World} {B s n : Nat} {t : TypeId} {a : Option Addr} {c : Nat} {xs : List Value} (h : X.ownsRow B t s (.slice a n c) n xs) : X.ownsRow B t s (.slice a 0 c) 0 [] := by
  refine ⟨by simp, ?_⟩
  rcases h.2 with ⟨h1, h2⟩ | ⟨g, cap, cur, h1, h2, h3, h4, h5, h6, h7⟩
  · cases h1; exact Or.inl ⟨rfl, rfl⟩
  · cases h1; exact Or.inr ⟨g, c, cur, rfl, h2, h3, Nat.zero_le _, h5, h6, by simp⟩
theorem rowD_form {X : World} {B s n : Nat} {t : TypeId} {v : Value} {xs : List Value} (h : X.ownsRow B t s v n xs) : ∃ a c, v = .slice a n c ∧ n ≤ c := by
  rcases h.2 with ⟨rfl, h2⟩ | ⟨g, cap, cur, rfl, _, _, h4, _⟩
  · exact ⟨none, 0, by rw [h2], by omega⟩
  · exact ⟨_, _, rfl, h4⟩

end Go.Proofs.Ytjjdgfjlpkhgcaa
end

section
namespace Go.Proofs.Ytjjdgfjlpkhgcaa
open Go.ChangeShapes Go.WideShapes Go.ChangeAt Go.RowKit
attribute [local go_sem] Oper.semAt_some

def txsV (ts : List (List Int)) : List Value := ts.map fun t => .string (strOfNums t)
theorem txsV_snoc (ts : List (List Int)) (t : List Int) : txsV (ts ++ [t]) = txsV ts ++ [.string (strOfNums t)] := by simp [txsV]
/-- the block that holds the builder's four cells from o on, and others -/
def BdB (t : TypeId) : Prop := t = 82 ∨ t = 84
theorem bdb_op {t : TypeId} (h : BdB t) : t ≠ 34 := by rcases h with rfl | rfl <;> decide
theorem bdb_str {t : TypeId} (h : BdB t) : t ≠ 9 := by rcases h with rfl | rfl <;> decide
structure Bd4 (X : World) (g o : Nat) (r : Nat → Option Value) (vo vk vt vd : Value) : Prop where
  c : ∃ cs t, X.heap[g]? = some (.cells cs t (0, 0)) ∧ BdB t ∧ cs[o]? = some vo ∧ cs[o + 1]? = some vk ∧ cs[o + 2]? = some vt ∧ cs[o + 3]? = some vd ∧ ∀ j, j < o ∨ o + 4 ≤ j → cs[j]? = r j
theorem Bd4.cells {X : World} {g o : Nat} {r : Nat → Option Value} {vo vk vt vd : Value} (h : Bd4 X g o r vo vk vt vd) : X.cell? ⟨g, o, none⟩ = some vo ∧ X.cell? ⟨g, o + 1, none⟩ = some vk ∧ X.cell? ⟨g, o + 2, none⟩ = some vt ∧ X.cell? ⟨g, o + 3, none⟩ = some vd ∧ ∀ i, X.frozen? ⟨g, i, none⟩ = false := by
  obtain ⟨cs, t, h1, _, h2, h3, h4, h5, _⟩ := h.c
  exact ⟨by simp only [World.cell?, h1]; exact h2, by simp only [World.cell?, h1]; exact h3, by simp only [World.cell?, h1]; exact h4, by simp only [World.cell?, h1]; exact h5, fun i => by simp [World.frozen?, h1]⟩
theorem Bd4.lt {X : World} {g o : Nat} {r : Nat → Option Value} {vo vk vt vd : Value} (h : Bd4 X g o r vo vk vt vd) : g < X.heap.size := by
  obtain ⟨cs, t, h1, _⟩ := h.c
  exact (Array.getElem?_eq_some_iff.1 h1).1
theorem Bd4.same {X Y : World} {g o : Nat} {r : Nat → Option Value} {vo vk vt vd : Value} (h : Bd4 X g o r vo vk vt vd) (hs : Y.heap[g]? = X.heap[g]?) : Bd4 Y g o r vo vk vt vd := by
  obtain ⟨cs, t, h1, h2⟩ := h.c
  exact ⟨cs, t, hs.trans h1, h2⟩
theorem heap_set {X : World} {g i : Nat} {cs : Array Value} {t : TypeId} {m : Nat × Nat} (h : X.heap[g]? = some (.cells cs t m)) (v : Value) : (X.setCell ⟨g, i, none⟩ v).heap[g]? = some (.cells (cs.setIfInBounds i v) t m) := by
  have hl := (Array.getElem?_eq_some_iff.1 h).1
  show (X.heap.modify g _)[g]? = _
  rw [Array.getElem?_eq_getElem hl] at h
  rw [Array.getElem?_eq_getElem (by rw [Array.size_modify]; exact hl), Array.getElem_modify_self, Option.some.inj h]
  rfl
theorem Bd4.set {X : World} {g o : Nat} {r : Nat → Option Value} {vo vk vt vd : Value} (h : Bd4 X g o r vo vk vt vd) (u : Value) :
    Bd4 (X.setCell ⟨g, o, none⟩ u) g o r u vk vt vd ∧ Bd4 (X.setCell ⟨g, o + 1, none⟩ u) g o r vo u vt vd ∧ Bd4 (X.setCell ⟨g, o + 2, none⟩ u) g o r vo vk u vd ∧ Bd4 (X.setCell ⟨g, o + 3, none⟩ u) g o r vo vk vt u := by
  obtain ⟨cs, t, h1, h2, h3, h4, h5, h6, h7⟩ := h.c
  have z3 : o + 3 < cs.size := (Array.getElem?_eq_some_iff.1 h6).1
  have self : ∀ i, i < cs.size → (cs.setIfInBounds i u)[i]? = some u := fun i hi => by simp [hi]
  have other : ∀ i j, i ≠ j → (cs.setIfInBounds i u)[j]? = cs[j]? := fun i j hij => by simp [hij]
  refine ⟨⟨_, t, heap_set h1 u, h2, ?_, ?_, ?_, ?_, fun j hj => ?_⟩, ⟨_, t, heap_set h1 u, h2, ?_, ?_, ?_, ?_, fun j hj => ?_⟩, ⟨_, t, heap_set h1 u, h2, ?_, ?_, ?_, ?_, fun j hj => ?_⟩, ⟨_, t, heap_set h1 u, h2, ?_, ?_, ?_, ?_, fun j hj => ?_⟩⟩
  all_goals first | (rw [self _ (by omega)]) | (rw [other _ _ (by omega)]; assumption) | (rw [other _ _ (by omega)]; exact h7 j hj)
/-- what lies elsewhere and stays: a block of a change's type (told by r at the builder's own places, where Bd4 asks nothing of it) -/
def FrB (r : Nat → Option Value) (o : Nat) (X : World) : Prop := ∀ (cs : Array Value) (q : Nat), r o = some (.agg cs) → r (o + 1) = some (.int .i64 (q : Int)) → X.heap[q]? = some (.cells cs 56 (0, 0))
theorem bdb_ch {t : TypeId} (h : BdB t) : t ≠ 56 := by rcases h with rfl | rfl <;> decide
theorem FrB.on {r : Nat → Option Value} {o N : Nat} {X Y : World} (h : FrB r o X) (hb : Below N X Y) (hN : X.heap.size ≤ N) : FrB r o Y := fun cs q h1 h2 => by
  have h3 := h cs q h1 h2
  exact (hb.block q (Nat.lt_of_lt_of_le (Array.getElem?_eq_some_iff.1 h3).1 hN)).trans h3
theorem FrB.set {r : Nat → Option Value} {o g : Nat} {X : World} {ca : Array Value} {t : TypeId} {m : Nat × Nat} (h : FrB r o X) (hg : X.heap[g]? = some (.cells ca t m)) (ht : BdB t) (i : Nat) (u : Value) : FrB r o (X.setCell ⟨g, i, none⟩ u) := fun cs q h1 h2 => by
  have h3 := h cs q h1 h2
  exact (Below.heap_setCell X ⟨g, i, none⟩ u q (typeD_ne h3 hg (fun e => bdb_ch ht e.symm))).trans h3
theorem Bd4.fset {r r' : Nat → Option Value} {o g : Nat} {X : World} {vo vk vt vd : Value} (h : Bd4 X g o r vo vk vt vd) (hf : FrB r' o X) (i : Nat) (u : Value) : FrB r' o (X.setCell ⟨g, i, none⟩ u) := by
  obtain ⟨ca, t, h1, h2, _⟩ := h.c
  exact hf.set h1 h2 i u
theorem FrB.grown {r : Nat → Option Value} {o B s n : Nat} {X Y : World} {t : TypeId} {v : Value} {xs : List Value} (h : FrB r o X) (gr : X.grownBy Y v.ownBlock) (hr : X.ownsRow B t s v n xs) (ht : t ≠ 56) : FrB r o Y := fun cs q h1 h2 => by
  have h3 := h cs q h1 h2
  exact (gr.block q (Array.getElem?_eq_some_iff.1 h3).1 fun e => by
    obtain ⟨_, cur, hc⟩ := rowD_block hr e.symm
    exact typeD_ne h3 hc (fun e => ht e.symm) rfl).trans h3
/-- a builder: what it has written, and what waits -/
structure IsBd (X : World) (B g o : Nat) (r : Nat → Option Value) (b : Bld) (ts : List (List Int)) : Prop where
  c : ∃ vo vt, Bd4 X g o r vo (.int .i64 (b.kept : Int)) vt (.int .i64 (b.dr : Int)) ∧ X.ownsRow B 34 3 vo b.ops.length (opsV b.ops) ∧ X.ownsRow B 9 1 vt ts.length (txsV ts)
  t : ts.flatten = b.tx ∧ ∀ x ∈ ts, x ≠ []
  z : B ≤ g
  f : FrB r o X
theorem IsBd.on {X Y : World} {B N g o : Nat} {r : Nat → Option Value} {b : Bld} {ts : List (List Int)} (h : IsBd X B g o r b ts) (hb : Below N X Y) (hN : X.heap.size ≤ N) : IsBd Y B g o r b ts := by
  obtain ⟨vo, vt, h1, h2, h3⟩ := h.c
  exact ⟨⟨vo, vt, h1.same (hb.block g (Nat.lt_of_lt_of_le h1.lt hN)), rowD_below h2 hb hN, rowD_below h3 hb hN⟩, h.t, h.z, h.f.on hb hN⟩
/-- a cell of the builder's block is set: the rows stay -/
theorem bd_rows {X : World} {B g o s n : Nat} {r : Nat → Option Value} {vo vk vt vd v : Value} {e : TypeId} {xs : List Value} (h : Bd4 X g o r vo vk vt vd) (he : ∀ t, BdB t → t ≠ e) (hr : X.ownsRow B e s v n xs) (i : Nat) (u : Value) : (X.setCell ⟨g, i, none⟩ u).ownsRow B e s v n xs := rowD_on hr fun G hG => by
  obtain ⟨cs, t, h1, h2, _⟩ := h.c
  obtain ⟨_, cur, hc⟩ := rowD_block hr hG
  exact Below.heap_setCell X ⟨g, i, none⟩ u G (typeD_ne hc h1 (fun e => he t h2 e.symm))
theorem IsBd.kept {X : World} {B g o : Nat} {r : Nat → Option Value} {b : Bld} {ts : List (List Int)} (h : IsBd X B g o r b ts) (n : Nat) : IsBd (X.setCell ⟨g, o + 1, none⟩ (.int .i64 (n : Int))) B g o r ⟨b.ops, n, b.tx, b.dr⟩ ts := by
  obtain ⟨vo, vt, h1, h2, h3⟩ := h.c
  exact ⟨⟨vo, vt, (h1.set _).2.1, bd_rows h1 (fun _ => bdb_op) h2 _ _, bd_rows h1 (fun _ => bdb_str) h3 _ _⟩, h.t, h.z, h1.fset h.f _ _⟩
theorem IsBd.drop {X : World} {B g o : Nat} {r : Nat → Option Value} {b : Bld} {ts : List (List Int)} (h : IsBd X B g o r b ts) (n : Nat) : IsBd (X.setCell ⟨g, o + 3, none⟩ (.int .i64 (n : Int))) B g o r ⟨b.ops, b.kept, b.tx, n⟩ ts := by
  obtain ⟨vo, vt, h1, h2, h3⟩ := h.c
  exact ⟨⟨vo, vt, (h1.set _).2.2.2, bd_rows h1 (fun _ => bdb_op) h2 _ _, bd_rows h1 (fun _ => bdb_str) h3 _ _⟩, h.t, h.z, h1.fset h.f _ _⟩
/-- the row of operations has grown, and its cell is set -/
theorem IsBd.ops {X Y : World} {B g o : Nat} {r : Nat → Option Value} {b : Bld} {ts : List (List Int)} {vo vt v' : Value} (h1 : Bd4 X g o r vo (.int .i64 (b.kept : Int)) vt (.int .i64 (b.dr : Int))) (h2 : X.ownsRow B 34 3 vo b.ops.length (opsV b.ops)) (h3 : X.ownsRow B 9 1 vt ts.length (txsV ts))
    (ht : ts.flatten = b.tx ∧ ∀ x ∈ ts, x ≠ []) (hz : B ≤ g) (hf : FrB r o X) (gr : X.grownBy Y vo.ownBlock) {x : Dop} (ho : Y.ownsRow B 34 3 v' (b.ops.length + 1) (opsV b.ops ++ opL x)) :
    Bd4 Y g o r vo (.int .i64 (b.kept : Int)) vt (.int .i64 (b.dr : Int)) ∧ IsBd (Y.setCell ⟨g, o, none⟩ v') B g o r ⟨b.ops ++ [x], b.kept, b.tx, b.dr⟩ ts := by
  obtain ⟨cs, t, k1, k2, _⟩ := h1.c
  have hs : Y.heap[g]? = X.heap[g]? := gr.block g h1.lt fun e => by
    obtain ⟨_, cur, hc⟩ := rowD_block h2 e.symm
    exact typeD_ne k1 hc (bdb_op k2) rfl
  have h1' := h1.same hs
  have h3' : Y.ownsRow B 9 1 vt ts.length (txsV ts) := rowD_on h3 fun G hG => by
    obtain ⟨_, cur, hc⟩ := rowD_block h3 hG
    exact gr.block G (Array.getElem?_eq_some_iff.1 hc).1 fun e => by
      obtain ⟨_, cur', hc'⟩ := rowD_block h2 e.symm
      exact typeD_ne hc hc' (by decide) rfl
  refine ⟨h1', ⟨v', vt, (h1'.set _).1, ?_, bd_rows h1' (fun _ => bdb_str) h3' _ _⟩, ht, hz, h1'.fset (hf.grown gr h2 (by decide)) _ _⟩
  have := bd_rows h1' (fun _ => bdb_op) ho o v'
  simpa [opsV_app, opsV_one] using this
theorem IsBd.txs {X Y : World} {B g o : Nat} {r : Nat → Option Value} {b : Bld} {ts : List (List Int)} {vo vt v' : Value} (h1 : Bd4 X g o r vo (.int .i64 (b.kept : Int)) vt (.int .i64 (b.dr : Int))) (h2 : X.ownsRow B 34 3 vo b.ops.length (opsV b.ops)) (h3 : X.ownsRow B 9 1 vt ts.length (txsV ts))
    (ht : ts.flatten = b.tx ∧ ∀ x ∈ ts, x ≠ []) (hz : B ≤ g) (hf : FrB r o X) (gr : X.grownBy Y vt.ownBlock) {x : List Int} (hx : x ≠ []) (ho : Y.ownsRow B 9 1 v' (ts.length + 1) (txsV ts ++ [.string (strOfNums x)])) :
    Bd4 Y g o r vo (.int .i64 (b.kept : Int)) vt (.int .i64 (b.dr : Int)) ∧ IsBd (Y.setCell ⟨g, o + 2, none⟩ v') B g o r (b.put x) (ts ++ [x]) := by
  obtain ⟨cs, t, k1, k2, _⟩ := h1.c
  have hs : Y.heap[g]? = X.heap[g]? := gr.block g h1.lt fun e => by
    obtain ⟨_, cur, hc⟩ := rowD_block h3 e.symm
    exact typeD_ne k1 hc (bdb_str k2) rfl
  have h1' := h1.same hs
  have h2' : Y.ownsRow B 34 3 vo b.ops.length (opsV b.ops) := rowD_on h2 fun G hG => by
    obtain ⟨_, cur, hc⟩ := rowD_block h2 hG
    exact gr.block G (Array.getElem?_eq_some_iff.1 hc).1 fun e => by
      obtain ⟨_, cur', hc'⟩ := rowD_block h3 e.symm
      exact typeD_ne hc hc' (by decide) rfl
  refine ⟨h1', ⟨vo, v', (h1'.set _).2.2.1, bd_rows h1' (fun _ => bdb_op) h2' _ _, ?_⟩, ⟨by simp [Bld.put, ht.1], fun y hy => ?_⟩, hz, h1'.fset (hf.grown gr h3 (by decide)) _ _⟩
  · have := bd_rows h1' (fun _ => bdb_str) ho (o + 2) v'
    simpa [txsV] using this
  · rcases List.mem_append.1 hy with hy | hy
    · exact ht.2 y hy
    · obtain rfl := List.mem_singleton.1 hy; exact hx

set_option maxRecDepth 100000 in
set_option maxHeartbeats 1000000 in
theorem bdrop_at (B g o : Nat) (r : Nat → Option Value) (b : Bld) (ts : List (List Int)) (n : Nat) (X : World) (h : IsBd X B g o r b ts) (hn : b.dr + n ≤ 4611686018427387904) :
    Calls Try.prog 51 #[.pointer (some ⟨g, o, none⟩), .int .i64 (n : Int)] X fun y X' => y = .returned (.tuple #[]) ∧ IsBd X' B g o r (b.drop n) ts ∧ Below B X X' := by
  obtain ⟨vo, vt, h1, h2, h3⟩ := h.c
  obtain ⟨c0, c1, c2, c3, fz⟩ := h1.cells
  have f3 := fz (o + 3)
  have hw : wrap64 ((b.dr : Int) + (n : Int)) = ((b.dr + n : Nat) : Int) := by rw [wrapD _ (by omega) (by omega)]; omega
  have HR := hide (h.drop (b.dr + n))
  have HB := hide ((Below.refl B X).setCell (p := ⟨g, o + 3, none⟩) h.z (.int .i64 ((b.dr + n : Nat) : Int)))
  clear h h1 h2 h3 fz c0 c1 c2 hn
  go_enter Try.func51, Try.ntmps51
  go_wp2_with fail
  exact bodyPost_end (v := .tuple #[]) (results_none Try.results51 _ _ _) rfl ⟨rfl, unhide HR, unhide HB⟩
theorem str_empD (t : List Int) : (strOfNums t).toList.isEmpty = t.isEmpty := by
  rw [Lib.strOfNums_toList]
  cases t <;> rfl
set_option maxRecDepth 100000 in
set_option maxHeartbeats 1000000 in
theorem bput_at (B g o : Nat) (r : Nat → Option Value) (b : Bld) (ts : List (List Int)) (t : List Int) (X : World) (h : IsBd X B g o r b ts) (hn : ts.length ≤ 4398046511104) (hB : B ≤ X.heap.size) :
    Calls Try.prog 50 #[.pointer (some ⟨g, o, none⟩), .string (strOfNums t)] X fun y X' => y = .returned (.tuple #[]) ∧ IsBd X' B g o r (b.put t) (if t = [] then ts else ts ++ [t]) ∧ Below B X X' := by
  by_cases ht : t = []
  · subst ht
    rw [if_pos rfl]
    have hE := str_empD []
    rw [List.isEmpty_nil] at hE
    have HR : Hid (IsBd X B g o r (b.put []) ts) := hide (by
      have : b.put [] = b := by simp [Bld.put]
      rw [this]; exact h)
    clear h hn hB
    generalize strOfNums [] = st at *
    go_enter Try.func50, Try.ntmps50
    go_wp2_with fail
    exact bodyPost_end (v := .tuple #[]) (results_none Try.results50 _ _ _) rfl ⟨rfl, unhide HR, Below.refl _ _⟩
  · rw [if_neg ht]
    obtain ⟨vo, vt, h1, h2, h3⟩ := h.c
    obtain ⟨c0, c1, c2, c3, fz⟩ := h1.cells
    obtain ⟨g2, k2, W2, r2, o2, gr2, b2⟩ := push_str X B ts.length vt (txsV ts) (strOfNums t) 80 h3 hn hB
    obtain ⟨d1, HR'⟩ := IsBd.txs h1 h2 h3 h.t h.z h.f gr2 ht o2
    have HR := hide HR'
    have HB := hide (b2.setCell (p := ⟨g, o + 2, none⟩) h.z (.slice (some ⟨g2, 0, none⟩) (ts.length + 1) k2))
    obtain ⟨e0, e1, e2, e3, fz2⟩ := d1.cells
    have f2 := fz2 (o + 2)
    have R2 := hide r2
    have hne : (strOfNums t).toList.isEmpty = false := by rw [str_empD]; cases t with | nil => exact absurd rfl ht | cons a r => rfl
    clear h h1 h2 h3 fz c0 c1 c3 hn HR' d1 e0 e1 e3 fz2 o2 gr2 b2 r2 hB
    generalize strOfNums t = st at *
    generalize ts.length + 1 = m2 at *
    go_enter Try.func50, Try.ntmps50
    go_wp2_with (at_builtin; refine wpList_append_known rfl _ _ 80 80 rfl _ _ rfl rfl _ _ (unhide R2) ?_; clear R2)
    exact bodyPost_end (v := .tuple #[]) (results_none Try.results50 _ _ _) rfl ⟨rfl, unhide HR, unhide HB⟩

end Go.Proofs.Ytjjdgfjlpkhgcaa
end

section
namespace Go.Proofs.Ytjjdgfjlpkhgcaa
open Go.ChangeShapes Go.WideShapes Go.ChangeAt Go.RowKit
attribute [local go_sem] Oper.semAt_some

theorem all_take (d : List Dop) (p : Dop → Bool) {k : Nat} (hk : k < d.length) : (d.take (k + 1)).all p = ((d.take k).all p && p (d.getD k opZ)) := by
  rw [List.take_add_one, List.getElem?_eq_getElem hk, Option.toList_some, List.all_append]
  simp [List.getD_eq_getElem?_getD, List.getElem?_eq_getElem hk]
theorem all_no (d : List Dop) (p : Dop → Bool) {k : Nat} (hk : k < d.length) (h : p (d.getD k opZ) = false) : d.all p = false := by
  rw [List.all_eq_false]
  refine ⟨d[k], List.getElem_mem hk, ?_⟩
  rw [List.getD_eq_getElem?_getD, List.getElem?_eq_getElem hk] at h
  simpa using h
def thisN (k : Int) : Int := if k = 1 then 1 else if k = 2 then 2 else if k = 3 then 4 else 0
def nextN (k : Int) : Int := if k = 1 then 6 else if k = 2 then 5 else if k = 3 then 1 else 0
set_option maxRecDepth 100000 in
theorem turn_at (k : Int) (w : World) : Calls Try.prog 77 #[.int .i64 k] w fun y w' => y = .returned (.tuple #[.int .i64 (thisN k), .int .i64 (nextN k)]) ∧ Below w.heap.size w w' := by
  unfold thisN nextN
  by_cases h1 : k = 1
  · subst h1
    go_enter Try.func77, Try.ntmps77
    go_wp2_with fail
    refine bodyPost_ret (results_tmp2 rfl _ _ _) rfl ⟨rfl, Below.refl _ _⟩
  by_cases h2 : k = 2
  · subst h2
    go_enter Try.func77, Try.ntmps77
    go_wp2_with fail
    refine bodyPost_ret (results_tmp2 rfl _ _ _) rfl ⟨rfl, Below.refl _ _⟩
  by_cases h3 : k = 3
  · subst h3
    go_enter Try.func77, Try.ntmps77
    go_wp2_with fail
    refine bodyPost_ret (results_tmp2 rfl _ _ _) rfl ⟨rfl, Below.refl _ _⟩
  · rw [if_neg h1, if_neg h2, if_neg h3, if_neg h1, if_neg h2, if_neg h3]
    have t1 : (k == 1) = false := by simpa using h1
    have t2 : (k == 2) = false := by simpa using h2
    have t3 : (k == 3) = false := by simpa using h3
    clear h1 h2 h3
    go_enter Try.func77, Try.ntmps77
    go_wp2_with fail
    refine bodyPost_ret (results_tmp2 rfl _ _ _) rfl ⟨rfl, Below.refl _ _⟩
def knB (o : Dop) : Bool := (o.k == 1 || o.k == 2 || o.k == 3) && (o.k == 2 || decide (0 ≤ o.n))
theorem known_cases (o : Dop) : (knB o = true ∧ (thisN o.k == 0) = false ∧ ((o.k != 2) = false ∨ ((o.k != 2) = true ∧ decide (o.n < 0) = false))) ∨ (knB o = false ∧ ((thisN o.k == 0) = true ∨ ((thisN o.k == 0) = false ∧ (o.k != 2) = true ∧ decide (o.n < 0) = true))) := by
  obtain ⟨k, n, t⟩ := o
  unfold knB thisN
  dsimp only
  by_cases h1 : k = 1
  · subst h1; by_cases hn : n < 0 <;> simp [hn] <;> omega
  by_cases h2 : k = 2
  · subst h2; simp
  by_cases h3 : k = 3
  · subst h3; by_cases hn : n < 0 <;> simp [hn] <;> omega
  · simp [h1, h2, h3]
set_option maxRecDepth 100000 in
set_option maxHeartbeats 2000000 in
theorem known_at (a : Option Addr) (c : Nat) (d : List Dop) (w : World) (h : IsO w a d) (hl : d.length ≤ 4611686018427387904) :
    Calls Try.prog 47 #[.slice a d.length c] w fun y w' => y = .returned (.bool (d.all knB)) ∧ Below w.heap.size w w' := by
  have HO := hide fun (X : World) (hx : Below w.heap.size w X) => h.below hx (Nat.le_refl _)
  clear h
  go_enter Try.func47, Try.ntmps47
  go_wp2_with fail
  go_loopw [4, 5, 6, 9] (fun v4 v5 v6 v9 wx => (∃ z, v4 = z) ∧ (∃ z, v5 = z) ∧ (∃ z, v6 = z) ∧ (∃ k : Nat, v9 = .int .i64 (k : Int) ∧ k ≤ d.length ∧ Hid ((d.take k).all knB = true)) ∧ Hid (Below w.heap.size w wx)) (fun _ _ _ v9 _ => d.length - (intOf v9).toNat)
  case atStart => exact ⟨⟨_, rfl⟩, ⟨_, rfl⟩, ⟨_, rfl⟩, ⟨0, rfl, Nat.zero_le _, hide rfl⟩, hide (Below.refl _ _)⟩
  case round =>
    obtain ⟨⟨z1, rfl⟩, ⟨z2, rfl⟩, ⟨z3, rfl⟩, ⟨k, rfl, hk, HK⟩, HB⟩ := hrel
    by_cases hlt : k < d.length
    · have t1 : decide ((k : Int) < (d.length : Int)) = true := decide_eq_true (by omega)
      obtain ⟨g, off, rfl, hg, c0, c1, c2⟩ := (unhide HO wr (unhide HB)).three hlt
      have HAT := hide (all_take d knB hlt)
      have HAN := hide (all_no d knB hlt)
      have HKC := hide (known_cases (d.getD k opZ))
      generalize d.getD k opZ = x at *
      obtain ⟨xk, xn, xt⟩ := x
      dsimp only at c0 c1 c2 HKC
      obtain ⟨d0, d1, d2⟩ := three_nwD wr (.int .i64 xk) (.int .i64 xn) (.string (strOfNums xt)) (t := 34)
      have HA := hide ((unhide HB).trans (((Below.refl wr.heap.size wr).alloc (Nat.le_refl _) (.cells #[.int .i64 xk, .int .i64 xn, .string (strOfNums xt)] 34)).mono (unhide HB).size))
      generalize strOfNums xt = st at *
      clear HB
      go_wp2_with fail
      clear c0 c1 c2
      generalize wr.alloc (.cells #[.int .i64 xk, .int .i64 xn, .string st] 34) = v0 at *
      generalize wr.heap.size = gb at *
      have hb := Below.refl v0.heap.size v0
      refine (turn_at xk v0).mono ?_
      rintro y v1 ⟨rfl, x1⟩
      dsimp only
      have hgb : gb < v0.heap.size := by
        rcases Nat.lt_or_ge gb v0.heap.size with h' | h'
        · exact h'
        · simp [World.cell?, Array.getElem?_eq_none h'] at d0
      have e0 := (x1.cell (p := ⟨gb, 0, none⟩) hgb).trans d0
      have e1 := (x1.cell (p := ⟨gb, 1, none⟩) hgb).trans d1
      have HA1 := hide ((unhide HA).trans (x1.mono (unhide HA).size))
      clear d0 d1 d2 HA hb hgb x1
      generalize thisN xk = th at *
      generalize nextN xk = nx at *
      rcases unhide HKC with ⟨hb, s1, s2⟩ | ⟨hb, s2⟩
      · have HK2 : Hid ((d.take (k + 1)).all knB = true) := hide (by rw [unhide HAT, unhide HK, hb]; rfl)
        clear HK HKC HAT HAN hb
        rcases s2 with s2 | ⟨s2, s3⟩
        all_goals
          go_wp2_with fail
          go_roundw
          case rel => exact ⟨⟨_, rfl⟩, ⟨_, rfl⟩, ⟨_, rfl⟩, ⟨k + 1, by go_num, hlt, HK2⟩, HA1⟩
          case measure => simp [intOf]; omega
      · have HV : Hid (d.all knB = false) := hide (unhide HAN hb)
        clear HK HKC HAT HAN hb
        rcases s2 with s2 | ⟨s2, s3, s4⟩
        all_goals
          go_wp2_with fail
          rw [unhide HV]
          refine bodyPost_ret (results_tmp rfl _ _ _) rfl ⟨rfl, unhide HA1⟩
    · obtain rfl : k = d.length := by omega
      have t1 : decide ((d.length : Int) < (d.length : Int)) = false := decide_eq_false (by omega)
      have HV : Hid (d.all knB = true) := hide (by have := unhide HK; rwa [List.take_length] at this)
      clear HK hk
      go_wp2_with fail
      rw [unhide HV]
      refine bodyPost_ret (results_tmp rfl _ _ _) rfl ⟨rfl, unhide HB⟩

end Go.Proofs.Ytjjdgfjlpkhgcaa
end
