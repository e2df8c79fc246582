/- Layer 19: the document's answer: Common. · Layer 19: the document's Distance; DiffDistance: the walk. · Layer 19: where lines end, byte by byte (plain). · Layer 19: the document's Pieces. · Layer 13: the inverter, Invert. · Layer 13: Invert. · Layer 13, the document's Apply. · Layer 19, plain: what the document asks of the program's delta of steps: where its places are, what it costs, what it makes of the text, where it ends. · Layer 19: the document's Valid and Lens of layer 14 (out of Sgk, Sgl and Mkt), in a seat of diff. -/
import Derived.Test.YtkdnanlgkedjgabDoorDn46
import Derived.Test.YtkdnanlgkedjgabDoorDn42

section
namespace Go.Proofs.YtkdnanlgkedjgabDoor
open Go.ChangeShapes Go.WideShapes Go.ChangeAt Go.RowKit
attribute [local go_sem] Oper.semAt_some

section
set_option linter.unusedSectionVars false
variable {α : Type} [DecidableEq α]
theorem lcs_snoc (x y : List α) (a : α) : lcs (x ++ [a]) (y ++ [a]) = lcs x y + 1 := by rw [lcs_tail]; simp; omega
theorem lcs_snoc_ne {a b : α} (h : ¬ a = b) (x y : List α) : lcs (x ++ [a]) (y ++ [b]) = max (lcs x (y ++ [b])) (lcs (x ++ [a]) y) := by
  rw [← lcs_rev, List.reverse_append, List.reverse_append, List.reverse_singleton, List.reverse_singleton, List.singleton_append, List.singleton_append, lcs_ne h]
  rw [← lcs_rev x (y ++ [b]), ← lcs_rev (x ++ [a]) y]
  simp
theorem lcs_snoc_le (x y : List α) (a : α) : lcs (x ++ [a]) y ≤ lcs x y + 1 := by
  rw [← lcs_rev, List.reverse_append, List.reverse_singleton, List.singleton_append, ← lcs_rev x y]
  exact lcs_drop a _ _
theorem take_snoc (x : List α) {i : Nat} (h : i < x.length) : x.take (i + 1) = x.take i ++ [x[i]] := by rw [List.take_add_one, List.getElem?_eq_getElem h]; rfl
/-- one cell of the document's table -/
theorem tab_same {x y : List α} {i k : Nat} (hi : i < x.length) (hk : k < y.length) (e : x[i] = y[k]) :
    lcs (x.take (i + 1)) (y.take (k + 1)) = lcs (x.take i) (y.take k) + 1 ∧ lcs (x.take (i + 1)) (y.take k) ≤ lcs (x.take i) (y.take k) + 1 ∧ lcs (x.take i) (y.take (k + 1)) ≤ lcs (x.take i) (y.take k) + 1 := by
  rw [take_snoc x hi, take_snoc y hk, e]
  refine ⟨lcs_snoc _ _ _, lcs_snoc_le _ _ _, ?_⟩
  rw [lcs_comm, lcs_comm (x.take i) (y.take k)]
  exact lcs_snoc_le _ _ _
theorem tab_ne {x y : List α} {i k : Nat} (hi : i < x.length) (hk : k < y.length) (e : ¬ x[i] = y[k]) :
    lcs (x.take (i + 1)) (y.take (k + 1)) = max (lcs (x.take (i + 1)) (y.take k)) (lcs (x.take i) (y.take (k + 1))) := by
  rw [take_snoc x hi, take_snoc y hk, lcs_snoc_ne e, Nat.max_comm]
end
/-- a block of numbers -/
def TbI (X : World) (g M : Nat) (f : Nat → Nat) : Prop := ∃ cur : Array Value, X.heap[g]? = some (.cells cur 3 (0, 0)) ∧ cur.size = M ∧ ∀ k, k < M → cur[k]? = some (.int .i64 (f k : Int))
theorem TbI.cell {X : World} {g M : Nat} {f : Nat → Nat} (h : TbI X g M f) {k : Nat} (hk : k < M) : X.cell? ⟨g, k, none⟩ = some (.int .i64 (f k : Int)) := by
  obtain ⟨cur, h1, _, h3⟩ := h
  unfold World.cell?
  simp only [h1]
  exact h3 k hk
theorem TbI.lt {X : World} {g M : Nat} {f : Nat → Nat} (h : TbI X g M f) : g < X.heap.size := by
  obtain ⟨cur, h1, _⟩ := h
  exact (Array.getElem?_eq_some_iff.1 h1).1
theorem TbI.same {X Y : World} {g M : Nat} {f : Nat → Nat} (h : TbI X g M f) (hb : Y.heap[g]? = X.heap[g]?) : TbI Y g M f := by
  obtain ⟨cur, h1, h2⟩ := h
  exact ⟨cur, hb.trans h1, h2⟩
theorem TbI.frozen {X : World} {g M : Nat} {f : Nat → Nat} (h : TbI X g M f) (k : Nat) : X.frozen? ⟨g, k, none⟩ = false := by
  obtain ⟨cur, h1, h2, h3⟩ := h
  unfold World.frozen?
  simp only [h1]
  simp
theorem TbI.set {X : World} {g M : Nat} {f : Nat → Nat} (h : TbI X g M f) {k : Nat} (hk : k < M) (v : Nat) : TbI (X.setCell ⟨g, k, none⟩ (.int .i64 (v : Int))) g M (fun m => if m = k then v else f m) := by
  obtain ⟨cur, h1, h2, h3⟩ := h
  refine ⟨cur.setIfInBounds k (.int .i64 (v : Int)), ?_, by simp [h2], fun m hm => ?_⟩
  · show (X.heap.modify g _)[g]? = _
    rw [Array.getElem?_modify]
    simp [h1]
  · by_cases e : m = k
    · subst e; simp [h2, hk]
    · simp [e, h3 m hm, show ¬ k = m from fun g => e g.symm]
theorem make_row (w : World) (n : Nat) (hn : n ≤ 1048577) : ∃ C : Array Value, (Instr.makeSlice 60 (.int .i64 (n : Int)) (.int .i64 (n : Int))).run Tryd.prog w = .ok (.slice (some ⟨w.heap.size, 0, none⟩) n n) (w.alloc (.cells C 3)) ∧
    TbI (w.alloc (.cells C 3)) w.heap.size n (fun _ => 0) := by
  obtain ⟨i, hi, hz, hs, hb⟩ := info_intS
  have hr := run_make (P := Tryd.prog) w 60 3 i (.int .i64 0) Tryd.underlying60 hi hz .i64 .i64 n n (by omega) (Int.le_refl _) (by rw [hb]; omega) (by omega)
  simp only [Int.toNat_natCast] at hr
  refine ⟨_, hr, _, heap_alloc_new w _, by rw [size_madeCells, hs, Nat.mul_one], fun k hk => ?_⟩
  rw [hs]
  unfold madeCells
  simp [hk, Value.cells, Nat.mod_one]
/-- texts are bytes -/
theorem TbI.congr {X : World} {g M : Nat} {f f' : Nat → Nat} (h : TbI X g M f) (e : ∀ k, k < M → f k = f' k) : TbI X g M f' := by
  obtain ⟨cur, h1, h2, h3⟩ := h
  exact ⟨cur, h1, h2, fun k hk => by rw [← e k hk]; exact h3 k hk⟩
theorem IsTx.at {X : World} {a : Option Addr} {ps : List (List Int)} (h : IsTx X a ps) {k : Nat} (hk : k < ps.length) : ∃ g off, a = some ⟨g, off, none⟩ ∧ g < X.heap.size ∧ ∀ j, j < ps.length → X.cell? ⟨g, off + j, none⟩ = some (.string (strOfNums (ps.getD j []))) := by
  rcases h with h | h
  · subst h; simp at hk
  · exact h
/-- what the loops over both keep -/
structure CoL (w X : World) (x y : List (List Int)) (i g1 : Nat) : Prop where
  l : TbI X g1 (y.length + 1) (fun k => lcs (x.take i) (y.take k))
  b : Below w.heap.size w X
  n : w.heap.size ≤ g1
structure CoN (w X : World) (x y : List (List Int)) (i k g1 g2 : Nat) : Prop where
  o : CoL w X x y i g1
  t : ∃ f, TbI X g2 (y.length + 1) f ∧ ∀ j, j ≤ k → f j = lcs (x.take (i + 1)) (y.take j)
  n : w.heap.size ≤ g2 ∧ g1 ≠ g2
theorem CoN.set {w X : World} {x y : List (List Int)} {i k g1 g2 : Nat} (h : CoN w X x y i k g1 g2) (hk : k < y.length) (v : Nat) : CoN w (X.setCell ⟨g2, k + 1, none⟩ (.int .i64 (v : Int))) x y i k g1 g2 ∧ (v = lcs (x.take (i + 1)) (y.take (k + 1)) → CoN w (X.setCell ⟨g2, k + 1, none⟩ (.int .i64 (v : Int))) x y i (k + 1) g1 g2) := by
  obtain ⟨f, h1, h2⟩ := h.t
  have o : CoL w (X.setCell ⟨g2, k + 1, none⟩ (.int .i64 (v : Int))) x y i g1 := ⟨h.o.l.same (Below.heap_setCell X _ _ g1 h.n.2), h.o.b.setCell h.n.1 _, h.o.n⟩
  have t := h1.set (show k + 1 < y.length + 1 by omega) v
  refine ⟨⟨o, ⟨_, t, fun j hj => ?_⟩, h.n⟩, fun e => ⟨o, ⟨_, t, fun j hj => ?_⟩, h.n⟩⟩
  · simp only [show ¬ j = k + 1 by omega, if_false]; exact h2 j hj
  · by_cases g : j = k + 1
    · simp only [g, if_true]; exact e
    · simp only [g, if_false]; exact h2 j (by omega)
theorem CoN.dN {w X : World} {x y : List (List Int)} {i k g1 g2 : Nat} (h : CoN w X x y i k g1 g2) (n : Nat) : CoN w (X.drewN n) x y i k g1 g2 := by
  obtain ⟨f, h1, h2⟩ := h.t
  exact ⟨⟨h.o.l.same (by rw [drewN_heap]), bdrN h.o.b n, h.o.n⟩, ⟨f, h1.same (by rw [drewN_heap]), h2⟩, h.n⟩
end Go.Proofs.YtkdnanlgkedjgabDoor
end

section
namespace Go.Proofs.YtkdnanlgkedjgabDoor
open Go.ChangeShapes Go.WideShapes Go.ChangeAt Go.RowKit
attribute [local go_sem] Oper.semAt_some

theorem cut_byl {l : List Int} (hb : ByL l) : ∀ cs : List Nat, ∀ q ∈ cutP l cs, ByL q
  | [], q, h => by cases h
  | [_], q, h => by cases h
  | c :: d :: r, q, h => by
    rcases List.mem_cons.1 h with rfl | h
    · exact fun x hx => hb x (List.mem_of_mem_drop (List.mem_of_mem_take hx))
    · exact cut_byl hb (d :: r) q h
end Go.Proofs.YtkdnanlgkedjgabDoor
end

section
namespace Go.Proofs.YtkdnanlgkedjgabDoor
/-- does a line end behind byte i? -/
def endL (l : List Int) (i : Nat) : Bool := decide (l.getD i 0 = 10) || (decide (l.getD i 0 = 13) && (decide (i + 1 = l.length) || !decide (l.getD (i + 1) 0 = 10)))
def upC (l : List Int) (i : Nat) : List Nat := 0 :: ((List.range i).filter (endL l)).map (· + 1)
theorem upC_yes {l : List Int} {i : Nat} (h : endL l i = true) : upC l (i + 1) = upC l i ++ [i + 1] := by
  unfold upC; rw [List.range_succ, List.filter_append]; simp [h]
theorem upC_no {l : List Int} {i : Nat} (h : endL l i = false) : upC l (i + 1) = upC l i := by
  unfold upC; rw [List.range_succ, List.filter_append]; simp [h]
theorem endL_not {l : List Int} {i : Nat} (h : isNl (l.getD i 0) = false) : endL l i = false := by
  unfold isNl at h; unfold endL; simp at h ⊢; omega
theorem filter_none {s n : Nat} {p : Nat → Bool} (h : ∀ j, s ≤ j → j < s + n → p j = false) : (List.range' s n).filter p = [] := by
  rw [List.filter_eq_nil_iff]
  intro a ha
  rw [List.mem_range'_1] at ha
  rw [h a ha.1 ha.2]; simp
theorem sta_up {l : List Int} : ∀ (f k s : Nat), l.length - s ≤ f → s ≤ l.length → ((lnR l k s).map fun e => e.2.1) = s :: ((List.range' s (l.length - s)).filter (endL l)).map (· + 1) := by
  intro f
  induction f with
  | zero =>
    intro k s h hs
    have hn : ¬ ctn l s < l.length := by have := ctn_le l s; omega
    rw [lnR_last hn, show l.length - s = 0 by omega]
    rfl
  | succ f ih =>
    intro k s h hs
    by_cases hc : ctn l s < l.length
    · have h1 := ctn_le l s
      have h4 := nxt_len hc
      have hnl := ctn_nl hc
      have hno : ∀ j, s ≤ j → j < ctn l s → endL l j = false := fun j a b => endL_not (ctn_no a b hs)
      have e0 : (l.drop (ctn l s)).getD 0 0 = l.getD (ctn l s) 0 := by simp [List.getD]
      have e1 : (l.drop (ctn l s)).getD 1 0 = l.getD (ctn l s + 1) 0 := by simp [List.getD, List.getElem?_drop]
      rw [lnR_cons hc, List.map_cons, ih (k + 1) (nxt l (ctn l s)) (by have := nxt_gt l (ctn l s); omega) h4]
      have key : (List.range' s (nxt l (ctn l s) - s)).filter (endL l) = [nxt l (ctn l s) - 1] := by
        unfold nxt edw at h4 ⊢
        rw [e0, e1] at h4 ⊢
        split
        · rename_i g
          have hlt : ctn l s + 1 < l.length := by
            rw [if_pos g] at h4; omega
          rw [show ctn l s + 2 - s = (ctn l s + 1 - s) + 1 by omega, List.range'_concat, List.filter_append, filter_none (fun j a b => by
            by_cases e : j = ctn l s
            · subst e; unfold endL; rw [g.1, g.2]; simp; omega
            · exact hno j a (by omega))]
          have : endL l (ctn l s + 1) = true := by unfold endL; rw [g.2]; simp
          simp [show s + (ctn l s + 1 - s) = ctn l s + 1 by omega, this]
        · rename_i g
          rw [show ctn l s + 1 - s = (ctn l s - s) + 1 by omega, List.range'_concat, List.filter_append, filter_none (fun j a b => hno j a (by omega))]
          have : endL l (ctn l s) = true := by
            unfold isNl at hnl; unfold endL
            simp at hnl g ⊢
            rcases hnl with e | e
            · exact .inr ⟨e, .inr (g e)⟩
            · exact .inl e
          simp [show s + (ctn l s - s) = ctn l s by omega, this]
      have hg := nxt_gt l (ctn l s)
      generalize nxt l (ctn l s) = q at *
      show s :: q :: _ = _
      rw [show l.length - s = (q - s) + (l.length - q) by omega, ← List.range'_append_1, List.filter_append, key]
      simp [show s + (q - s) = q by omega, show q - 1 + 1 = q by omega]
    · rw [lnR_last hc]
      have : (List.range' s (l.length - s)).filter (endL l) = [] := filter_none fun j a b => endL_not (ctn_no a (by have := ctn_len hs; omega) hs)
      rw [this]; rfl
theorem staL_up (l : List Int) : staL l = upC l l.length := by
  have := sta_up (l := l) l.length 0 0 (by omega) (Nat.zero_le _)
  unfold upC
  rw [List.range_eq_range']
  exact this
/-- the pieces between cuts and one cut more -/
theorem cutP_snoc (l : List Int) : ∀ (cs : List Nat) (c d : Nat), cutP l ((cs ++ [c]) ++ [d]) = cutP l (cs ++ [c]) ++ [subL l c d]
  | [], c, d => rfl
  | [b], c, d => rfl
  | a :: b :: r, c, d => by
    have := cutP_snoc l (b :: r) c d
    show _ :: cutP l ((b :: r ++ [c]) ++ [d]) = _ :: (cutP l (b :: r ++ [c]) ++ _)
    rw [this]
def lastC (l : List Int) (i : Nat) : Nat := (upC l i).getLast (by simp [upC])
theorem up_snoc {l : List Int} {i : Nat} : ∃ cs, upC l i = cs ++ [lastC l i] := ⟨_, (List.dropLast_concat_getLast (l := upC l i) (by simp [upC])).symm⟩
theorem piece_yes {l : List Int} {i : Nat} (h : endL l i = true) : cutP l (upC l (i + 1)) = cutP l (upC l i) ++ [subL l (lastC l i) (i + 1)] ∧ lastC l (i + 1) = i + 1 := by
  have hu := upC_yes h
  refine ⟨?_, ?_⟩
  · rw [hu]
    obtain ⟨cs, hc⟩ := up_snoc (l := l) (i := i)
    rw [hc]; exact cutP_snoc l cs _ _
  · unfold lastC; simp [hu]
theorem piece_no {l : List Int} {i : Nat} (h : endL l i = false) : cutP l (upC l (i + 1)) = cutP l (upC l i) ∧ lastC l (i + 1) = lastC l i := by
  have hu := upC_no h
  exact ⟨by rw [hu], by unfold lastC; simp [hu]⟩
theorem last_le (l : List Int) (i : Nat) : lastC l i ≤ i := by
  have : lastC l i ∈ upC l i := List.getLast_mem _
  unfold upC at this
  simp at this
  rcases this with e | ⟨a, ⟨h, _⟩, e⟩ <;> omega
theorem cutN_last (l : List Int) : (staL l).getD ((staL l).length - 1) 0 = lastC l l.length := by
  rw [staL_up]
  unfold lastC
  have : (upC l l.length).length - 1 < (upC l l.length).length := by simp [upC]
  rw [List.getLast_eq_getElem (by simp [upC])]
  simp only [List.getD, List.getElem?_eq_getElem this, Option.getD_some]
theorem pieces_more {l : List Int} (h : lastC l l.length < l.length) : cutP l (cutN l) = cutP l (upC l l.length) ++ [subL l (lastC l l.length) l.length] := by
  unfold cutN
  rw [cutN_last, if_pos h, staL_up]
  obtain ⟨cs, hc⟩ := up_snoc (l := l) (i := l.length)
  rw [hc]; exact cutP_snoc l cs _ _
theorem pieces_all {l : List Int} (h : ¬ lastC l l.length < l.length) : cutP l (cutN l) = cutP l (upC l l.length) := by
  unfold cutN
  rw [cutN_last, if_neg h, staL_up]
end Go.Proofs.YtkdnanlgkedjgabDoor
end

section
namespace Go.Proofs.YtkdnanlgkedjgabDoor
open Go.ChangeShapes Go.WideShapes Go.ChangeAt Go.RowKit
attribute [local go_sem] Oper.semAt_some

theorem upC_len (l : List Int) (i : Nat) : (upC l i).length ≤ i + 1 := by
  unfold upC
  have := List.length_filter_le (endL l) (List.range i)
  simp at this ⊢; omega
end Go.Proofs.YtkdnanlgkedjgabDoor
end

section
namespace Go.Proofs.YtkdnanlgkedjgabDoor
open Go.ChangeShapes Go.WideShapes Go.ChangeAt Go.RowKit
attribute [local go_sem] Oper.semAt_some

/-- the cell ahead of the builder's -/
def rV (v : Value) : Nat → Option Value := fun j => if j = 0 then some v else none
theorem Bd4.at0 {X : World} {g : Nat} {v vo vk vt vd : Value} (h : Bd4 X g 1 (rV v) vo vk vt vd) : X.cell? ⟨g, 0, none⟩ = some v ∧ X.frozen? ⟨g, 0, none⟩ = false := by
  obtain ⟨cs, t, h1, _, _, _, _, _, h7⟩ := h.c
  refine ⟨?_, by simp [World.frozen?, h1]⟩
  simp only [World.cell?, h1]
  exact h7 0 (.inl (by decide))
theorem Bd4.set0 {X : World} {g : Nat} {v vo vk vt vd : Value} (h : Bd4 X g 1 (rV v) vo vk vt vd) (u : Value) : Bd4 (X.setCell ⟨g, 0, none⟩ u) g 1 (rV u) vo vk vt vd := by
  obtain ⟨cs, t, h1, h2, h3, h4, h5, h6, h7⟩ := h.c
  have z3 : 1 + 3 < cs.size := (Array.getElem?_eq_some_iff.1 h6).1
  have other : ∀ j, 0 ≠ j → (cs.setIfInBounds 0 u)[j]? = cs[j]? := fun j hij => by simp [hij]
  refine ⟨_, t, heap_set h1 u, h2, ?_, ?_, ?_, ?_, fun j hj => ?_⟩
  · rw [other _ (by omega)]; exact h3
  · rw [other _ (by omega)]; exact h4
  · rw [other _ (by omega)]; exact h5
  · rw [other _ (by omega)]; exact h6
  · by_cases hj0 : j = 0
    · subst hj0
      have : 0 < cs.size := by omega
      simp [rV, this]
    · rw [other _ (Ne.symm hj0), h7 j hj]; simp [rV, hj0]
theorem IsBd.set0 {X : World} {B g : Nat} {v : Value} {b : Bld} {ts : List (List Int)} (h : IsBd X B g 1 (rV v) b ts) (u : Value) : IsBd (X.setCell ⟨g, 0, none⟩ u) B g 1 (rV u) b ts := by
  obtain ⟨vo, vt, h1, h2, h3⟩ := h.c
  exact ⟨⟨vo, vt, h1.set0 u, bd_rows h1 (fun _ => bdb_op) h2 _ _, bd_rows h1 (fun _ => bdb_str) h3 _ _⟩, h.t, h.z, fun cs q e1 _ => by simp [rV] at e1⟩
theorem IsBd.at0 {X : World} {B g : Nat} {v : Value} {b : Bld} {ts : List (List Int)} (h : IsBd X B g 1 (rV v) b ts) : X.cell? ⟨g, 0, none⟩ = some v ∧ X.frozen? ⟨g, 0, none⟩ = false := by
  obtain ⟨vo, vt, h1, _⟩ := h.c
  exact h1.at0
/-- the inverter: the old bytes that wait, what is fed so far -/
structure IsV (w X : World) (g : Nat) (l : List Int) (e : List Dop) : Prop where
  c : ∃ a c ts, IsB w a c l ∧ IsBd X w.heap.size g 1 (rV (.slice a l.length c)) (feedA b0 (dA e)) ts
  d : Below w.heap.size w X
theorem IsV.on {w X Y : World} {g : Nat} {l : List Int} {e : List Dop} (h : IsV w X g l e) (hb : Below X.heap.size X Y) : IsV w Y g l e := by
  obtain ⟨a, c, ts, h1, h2⟩ := h.c
  exact ⟨⟨a, c, ts, h1, h2.on hb (Nat.le_refl _)⟩, h.d.trans (hb.mono h.d.size)⟩
theorem feed_snoc (e : List Dop) (x : Dop) : feedA b0 (dA (e ++ [x])) = (feedA b0 (dA e)).op x := by
  rw [dA_app, feedA_app, op_atoms]; simp [dA]
theorem rest_at {w X : World} {g : Nat} {l : List Int} {e : List Dop} {a : Option Addr} {c : Nat} {ts : List (List Int)} (h1 : IsB w a c l) (h2 : IsBd X w.heap.size g 1 (rV (.slice a l.length c)) (feedA b0 (dA e)) ts) (hd : Below w.heap.size w X) (n : Nat) :
    IsV w (X.setCell ⟨g, 0, none⟩ (.slice (if c = n then a else a.map (·.add n)) (l.length - n) (c - n))) g (l.drop n) e := by
  refine ⟨⟨_, c - n, ts, h1.loD, ?_⟩, hd.setCell (p := ⟨g, 0, none⟩) h2.z _⟩
  rw [List.length_drop]
  exact h2.set0 _
end Go.Proofs.YtkdnanlgkedjgabDoor
end

section
namespace Go.Proofs.YtkdnanlgkedjgabDoor
open Go.ChangeShapes Go.WideShapes Go.ChangeAt Go.RowKit
attribute [local go_sem] Oper.semAt_some

/-- what waits, and what is fed, behind one operation more -/
def stV (s : List Int × List Dop) (o : Dop) : List Int × List Dop := if o.k = 1 then (s.1.drop o.n.toNat, s.2 ++ [⟨1, o.n, []⟩]) else if o.k = 2 then (s.1, s.2 ++ [⟨3, (o.t.length : Int), []⟩]) else (s.1.drop o.n.toNat, s.2 ++ [⟨2, 0, s.1.take o.n.toNat⟩])
def runV (b : List Int) (d : List Dop) : List Int × List Dop := d.foldl stV (b, [])
def ivD (b : List Int) (d : List Dop) : List Dop := (runV b d).2
theorem runV_take (b : List Int) (d : List Dop) {k : Nat} (hk : k < d.length) : runV b (d.take (k + 1)) = stV (runV b (d.take k)) (d.getD k opZ) := by
  unfold runV
  rw [List.take_add_one, List.getElem?_eq_getElem hk, Option.toList_some, List.foldl_append]
  simp [List.getD_eq_getElem?_getD, List.getElem?_eq_getElem hk]
theorem dA_snoc (e : List Dop) (x : Dop) : dA (e ++ [x]) = dA e ++ opA x := by rw [dA_app]; simp [dA]
theorem runV_len {b : List Int} {d : List Dop} (hv : valB d = true) (hf : frD d = b.length) : ∀ k, k ≤ d.length → (runV b (d.take k)).1.length + frD (d.take k) = b.length ∧ (dA (runV b (d.take k)).2).length ≤ frD (d.take k) + toD (d.take k)
  | 0, _ => by simp [runV, frD, toD, dA]
  | k + 1, hk => by
    have ih := runV_len hv hf k (by omega)
    have hx := valB_op hv (getD_memD (d := d) (k := k) (by omega))
    have e1 := frD_take d (k := k) (by omega)
    have e2 := toD_take d (k := k) (by omega)
    have e3 := (frD_le d (k + 1)).1
    rw [runV_take b d (by omega)]
    generalize runV b (d.take k) = s at *
    generalize d.getD k opZ = x at *
    obtain ⟨xk, xn, xt⟩ := x
    dsimp only at hx
    rcases hx with ⟨rfl | rfl, hn, rfl⟩ | ⟨rfl, rfl, hn⟩
    · simp [stV, frN, toN, dA_snoc, opA] at e1 e2 ⊢; omega
    · simp [stV, frN, toN, dA_snoc, opA] at e1 e2 ⊢; omega
    · simp [stV, frN, toN, dA_snoc, opA] at e1 e2 ⊢; omega
def invD (b : List Int) (d : List Dop) : List Dop := if fitE d b.length = 0 then canA (dA (ivD b d)) else []
end Go.Proofs.YtkdnanlgkedjgabDoor
end

section
namespace Go.Proofs.YtkdnanlgkedjgabDoor
open Go.ChangeShapes Go.WideShapes Go.ChangeAt Go.RowKit
attribute [local go_sem] Oper.semAt_some

theorem runW_rest {d : List Dop} (b : List Int) (hv : valB d = true) : ∀ k, k ≤ d.length → (runW b (d.take k)).1 = b.drop (frD (d.take k))
  | 0, _ => by simp [runW, frD]
  | k + 1, hk => by
    have ih := runW_rest b hv k (by omega)
    have hx := valB_op hv (getD_memD (d := d) (k := k) (by omega))
    have e1 := frD_take d (k := k) (by omega)
    rw [runW_take b d (by omega), e1]
    generalize runW b (d.take k) = s at *
    generalize d.getD k opZ = x at *
    obtain ⟨xk, xn, xt⟩ := x
    dsimp only at hx
    rcases hx with ⟨rfl | rfl, hn, rfl⟩ | ⟨rfl, rfl, hn⟩ <;> simp [stW, frN, ih]
theorem runV_rest {d : List Dop} (b : List Int) (hv : valB d = true) : ∀ k, k ≤ d.length → (runV b (d.take k)).1 = b.drop (frD (d.take k))
  | 0, _ => by simp [runV, frD]
  | k + 1, hk => by
    have ih := runV_rest b hv k (by omega)
    have hx := valB_op hv (getD_memD (d := d) (k := k) (by omega))
    have e1 := frD_take d (k := k) (by omega)
    rw [runV_take b d (by omega), e1]
    generalize runV b (d.take k) = s at *
    generalize d.getD k opZ = x at *
    obtain ⟨xk, xn, xt⟩ := x
    dsimp only at hx
    rcases hx with ⟨rfl | rfl, hn, rfl⟩ | ⟨rfl, rfl, hn⟩ <;> simp [stV, frN, ih]
theorem run_moreV (w : World) (B : Nat) (v : Value) (l m : List Int) (a0 : Option Addr) (cap : Nat) (ty : TypeId) (h : Own w B v l) (hm : IsB w a0 cap m) (h0 : 0 < m.length) (hB : B ≤ w.heap.size) (hn : l.length + m.length ≤ 140737488355328) :
    ∃ v' w', (Builtin.append_ #[22, 22] ty #[v, .slice a0 m.length cap]).run Tryd.prog w = .ok v' w' ∧ Own w' B v' (l ++ m) ∧ Below B w w' := by
  obtain ⟨i, hi, hz, hs, hby⟩ := info_u8
  rcases hm.2.2.1 with h3 | ⟨g0, off, rfl, hL⟩
  · rw [h3] at h0; cases h0
  obtain ⟨g', c', w', hr, ho, hg, hat, hlt⟩ := run_append_lies (P := Tryd.prog) w 22 ty B 5 i (.int .u8 0) 1 1 Tryd.underlying22 hi hz hs hby rfl (by decide)
    v l.length (l.map (Value.int .u8)) h ⟨g0, off, none⟩ m.length cap (m.map (Value.int .u8)) (by simp) (src_cells hL) (src_some _ g0 off cap m hL).one h0 (by unfold maxLen; omega) (by omega) hB (w.heap.size) (by omega)
  refine ⟨_, w', hr, ?_, (Below.refl B w).grown hg hB (fun k e => (World.ownsRow.lt h k e).1)⟩
  unfold Own
  simpa using ho
theorem run_strV (w : World) (B : Nat) (v : Value) (l t : List Int) (ty : TypeId) (h : Own w B v l) (ht : ∀ x ∈ t, 0 ≤ x ∧ x ≤ 255) (hB : B ≤ w.heap.size) (hn : l.length + t.length ≤ 140737488355328) :
    ∃ v' w', (Builtin.append_ #[22, 9] ty #[v, .string (strOfNums t)]).run Tryd.prog w = .ok v' w' ∧ Own w' B v' (l ++ t) ∧ Below B w w' := by
  obtain ⟨i, hi, hz, hs, hby⟩ := info_u8
  have hsz := strOfNums_size t
  obtain ⟨v', w', hr, ho, hg, _⟩ := Lib.run_append_own_string (P := Tryd.prog) w B 22 9 ty 5 i Tryd.underlying22 Tryd.underlying9 hi hz hs hby _ l.length _ h (strOfNums t) (by unfold maxLen; omega) (by omega) hB
  rw [hsz, strCells_nums ht] at ho
  exact ⟨v', w', hr, by unfold Own; simpa using ho, (Below.refl B w).grown hg hB (fun k e => (World.ownsRow.lt h k e).1)⟩
/-- the state of the document's loop -/
structure ApI (b : List Int) (d : List Dop) (k f : Nat) (v : Value) (w X : World) : Prop where
  ef : f = frD (d.take k)
  z : f ≤ 268435456
  o : Own X w.heap.size v (runW b (d.take k)).2
  d : Below w.heap.size w X
end Go.Proofs.YtkdnanlgkedjgabDoor
end

section
namespace Go.Proofs.YtkdnanlgkedjgabDoor

-- out of Dlc
theorem ap_can : ∀ {d : List Dop} (m : Int), (∀ o ∈ d, Pln o) → Chn d → (∀ o, d.head? = some o → apB m (thisN o.k) = true) → apL m d = true
  | [], _, _, _, _ => rfl
  | o :: r, m, hp, hc, hh => by
    have h1 := apL_at (d := o :: r) (k := 0) (by simp) m
    simp only [List.drop_zero, List.getD_cons_zero, Nat.zero_add, List.drop_one, List.tail_cons] at h1
    rw [h1, hh o rfl, Bool.true_and]
    refine ap_can _ (fun q hq => hp q (by simp [hq])) (chn_tail hc) fun q hq => ?_
    cases r with
    | nil => simp at hq
    | cons q' r' =>
      simp only [List.head?_cons, Option.some.injEq] at hq
      subst hq
      have hn : okN o.k q'.k := hc.1
      have ho : o.k = 1 ∨ o.k = 2 ∨ o.k = 3 := by rcases hp o (by simp) with ⟨h | h, _⟩ | ⟨h, _⟩ <;> omega
      have hq : q'.k = 1 ∨ q'.k = 2 ∨ q'.k = 3 := by rcases hp q' (by simp) with ⟨h | h, _⟩ | ⟨h, _⟩ <;> omega
      unfold okN at hn
      rcases ho with h | h | h <;> rcases hq with h' | h' | h' <;> rw [h, h'] at hn ⊢ <;> first | rfl | decide | (exfalso; revert hn; decide)
theorem pl_all {d : List Dop} (h : ∀ o ∈ d, Pln o) : d.all plB = true := by
  rw [List.all_eq_true]
  intro o ho
  unfold plB
  rcases h o ho with ⟨h1, h2, h3⟩ | ⟨h1, h2, h3⟩
  · rw [if_neg (by omega), h3]; simp; omega
  · rw [if_pos h1, h2]
    cases ht : o.t with
    | nil => exact absurd ht h3
    | cons a r => rfl
theorem can_val {d : List Dop} (h : Can d) (hf : frD d ≤ 268435456) (ht : toD d ≤ 268435456) : valB d = true := by
  unfold valB
  have h2 : lonB d = false := decide_eq_false (by omega)
  rw [pl_all h.p, ap_can 7 h.p h.c (fun o ho => ?_), h2]
  · rfl
  · have hm := List.mem_of_mem_head? (l := d) (a := o) (by rw [ho]; rfl)
    rcases h.p o hm with ⟨h | h, _⟩ | ⟨h, _⟩ <;> rw [h] <;> decide
theorem can_kinds {d : List Dop} (h : Can d) : ∀ o ∈ d, o.k = 1 ∨ o.k = 2 ∨ o.k = 3 := fun o ho => by
  rcases h.p o ho with ⟨h | h, _⟩ | ⟨h, _⟩ <;> omega
theorem appA_k : ∀ (n : Nat) (xs : List Int) (u : List Atm), n ≤ xs.length → appA xs (List.replicate n .k ++ u) = xs.take n ++ appA (xs.drop n) u
  | 0, xs, u, _ => by simp
  | n + 1, [], u, h => by simp at h
  | n + 1, x :: xs, u, h => by
    have := appA_k n xs u (by simpa using h)
    rw [List.replicate_succ, List.cons_append]
    simp [appA, this]
theorem appA_d : ∀ (n : Nat) (xs : List Int) (u : List Atm), n ≤ xs.length → appA xs (List.replicate n .d ++ u) = appA (xs.drop n) u
  | 0, xs, u, _ => by simp
  | n + 1, [], u, h => by simp at h
  | n + 1, x :: xs, u, h => by
    have := appA_d n xs u (by simpa using h)
    rw [List.replicate_succ, List.cons_append]
    simp [appA, this]
theorem appA_p : ∀ (t : List Int) (xs : List Int) (u : List Atm), appA xs (t.map .p ++ u) = t ++ appA xs u
  | [], xs, u => by simp
  | x :: t, xs, u => by
    rw [List.map_cons, List.cons_append]
    simp [appA, appA_p t xs u]
/-- Apply does what the atoms do -/
theorem apD_app : ∀ (d : List Dop) (b out : List Int), (∀ o ∈ d, Pln o) → frD d = b.length → (d.foldl stW (b, out)).2 = out ++ appA b (dA d)
  | [], b, out, _, h => by
    have : b = [] := List.length_eq_zero_iff.1 (by simpa [frD] using h.symm)
    subst this
    simp [dA, appA]
  | o :: r, b, out, hp, h => by
    have e : frD (o :: r) = frN o + frD r := by simp [frD]
    rw [List.foldl_cons, dA_cons]
    rcases hp o (by simp) with ⟨h1 | h1, h2, h3⟩ | ⟨h1, h2, h3⟩
    · have ef : frN o = o.n.toNat := by simp [frN, h1]
      have eo : opA o = List.replicate o.n.toNat .k := by simp [opA, h1]
      rw [eo, appA_k _ _ _ (by omega), show stW (b, out) o = (b.drop o.n.toNat, out ++ b.take o.n.toNat) by simp [stW, h1], apD_app r _ _ (fun q hq => hp q (by simp [hq])) (by simp; omega), List.append_assoc]
    · have ef : frN o = o.n.toNat := by simp [frN, h1]
      have eo : opA o = List.replicate o.n.toNat .d := by simp [opA, h1]
      rw [eo, appA_d _ _ _ (by omega), show stW (b, out) o = (b.drop o.n.toNat, out) by simp [stW, h1], apD_app r _ _ (fun q hq => hp q (by simp [hq])) (by simp; omega)]
    · have ef : frN o = 0 := by simp [frN, h1]
      have eo : opA o = o.t.map .p := by simp [opA, h1]
      rw [eo, appA_p, show stW (b, out) o = (b, out ++ o.t) by simp [stW, h1], apD_app r _ _ (fun q hq => hp q (by simp [hq])) (by omega), List.append_assoc]
theorem apD_is {d : List Dop} {b : List Int} (hv : valB d = true) (hf : frD d = b.length) : apD b d = appA b (dA d) := by
  have hp : ∀ o ∈ d, Pln o := fun o ho => by
    rcases valB_op hv ho with ⟨h1, h2, h3⟩ | ⟨h1, h2, h3⟩
    · exact .inl ⟨h1, h2, h3⟩
    · exact .inr ⟨h1, h2, h3⟩
  have := apD_app d b [] hp hf
  simpa [apD, runW] using this

/-- the steps from the i-th place on -/
theorem spots_getD (l : List Int) : ∀ (n i p : Nat), l.length - p ≤ n → i < (spots l p).length → spots l ((spots l p).getD i 0) = (spots l p).drop i
  | n, 0, p, h, hi => by
    have hp : p < l.length := by
      rcases Nat.lt_or_ge p l.length with g | g
      · exact g
      · rw [spots_end (by omega)] at hi; simp at hi
    have e := spots_cons hp
    rw [List.drop_zero]
    conv => lhs; rw [e]
    rfl
  | 0, i + 1, p, h, hi => by rw [spots_end (by omega)] at hi; simp at hi
  | n + 1, i + 1, p, h, hi => by
    have hp : p < l.length := by
      rcases Nat.lt_or_ge p l.length with g | g
      · exact g
      · rw [spots_end (by omega)] at hi; simp at hi
    have hw := wid_pos hp
    have e := spots_cons hp
    rw [e, List.length_cons] at hi
    rw [e, List.getD_cons_succ, List.drop_succ_cons]
    exact spots_getD l n i _ (by omega) (by omega)
theorem cutS_len (l : List Int) : (cutS l).length = (spots l 0).length + 1 := by simp [cutS]
theorem cutS_getD (l : List Int) {i : Nat} (hi : i < (cutS l).length) : spots l ((cutS l).getD i 0) = (spots l 0).drop i := by
  rw [cutS_len] at hi
  rcases Nat.lt_or_ge i (spots l 0).length with g | g
  · have : (cutS l).getD i 0 = (spots l 0).getD i 0 := by
      unfold cutS; simp [List.getD, List.getElem?_append_left g]
    rw [this]
    exact spots_getD l l.length i 0 (by omega) g
  · have hi' : i = (spots l 0).length := by omega
    have : (cutS l).getD i 0 = l.length := by
      unfold cutS; rw [hi']; simp [List.getD]
    rw [this, spots_end (by omega), List.drop_eq_nil_of_le (by omega)]
theorem cutS_in (l : List Int) {i : Nat} (hi : i < (cutS l).length) : inside l ((cutS l).getD i 0) = false := by
  have h1 : (cutS l).getD i 0 ∈ cutS l := by
    rw [List.getD_eq_getElem?_getD, List.getElem?_eq_getElem hi]; exact List.getElem_mem hi
  have h2 : cutS l = edgesTo l (l.length + 1) := (edges_all l).symm
  generalize (cutS l).getD i 0 = z at *
  rw [h2] at h1
  unfold edgesTo at h1
  simpa using (List.mem_filter.1 h1).2
theorem cutS_edg (l : List Int) {i : Nat} (hi : i < (cutS l).length) : EdgP l ((cutS l).getD i 0) := by
  have h1 := cutS_in l hi
  have h2 := (cutS_ok l).at_le hi
  generalize (cutS l).getD i 0 = z at *
  unfold EdgP edgeB
  rw [Int.toNat_natCast, h1]
  simp; omega
/-- how many steps lie between two of the cuts -/
theorem stepN_sub {l : List Int} (hl : ByL l) {i j : Nat} (hij : i ≤ j) (hj : j < (cutS l).length) : stepN (subL l ((cutS l).getD i 0) ((cutS l).getD j 0)) = j - i := by
  have ha := (cutS_ok l).at_le (show i < (cutS l).length by omega)
  have hb := (cutS_ok l).at_le hj
  have hab := (cutS_ok l).le hij hj
  have e1 := cutS_getD l (show i < (cutS l).length by omega)
  have e2 := cutS_getD l hj
  have hn := cutS_len l
  generalize (cutS l).getD i 0 = a at *
  generalize (cutS l).getD j 0 = b at *
  have e3 : spots l a = ((spots l 0).drop i).take (j - i) ++ spots l b := by
    rw [e1, e2, show (spots l 0).drop j = ((spots l 0).drop i).drop (j - i) by rw [List.drop_drop]; congr 1; omega, List.take_append_drop]
  have e4 := (spots_take hl hb _ a ha e3).1
  have e5 := spots_drop (l.take b) a (l.take b).length 0 (by omega)
  have e6 : subL l a b = (l.take b).drop a := by unfold subL; rw [List.drop_take]
  unfold stepN
  have e7 := congrArg List.length e5
  rw [List.length_map, Nat.add_zero, e4, List.length_take, List.length_drop] at e7
  rw [e6, ← e7]
  omega
section
variable {E : Nat → Prop} {S : List Int → Nat} {l : List Int}
theorem frN_put {o : Dop} (h : o.k = 2) : frN o = 0 := by simp [frN, h]
theorem frN_els {o : Dop} (h : o.k = 1 ∨ o.k = 3) : frN o = o.n.toNat := by unfold frN; rw [if_pos h]
theorem okRf_app : ∀ (a b : List Dop) (m : Nat), (∀ o ∈ a, o.k = 1 ∨ o.k = 2 ∨ o.k = 3) → (okRf E m (a ++ b) ↔ okRf E m a ∧ okRf E (m + frD a) b)
  | [], b, m, _ => by simp [okRf, frD]
  | o :: r, b, m, h => by
    have hr : ∀ o ∈ r, o.k = 1 ∨ o.k = 2 ∨ o.k = 3 := fun x hx => h x (by simp [hx])
    rw [List.cons_append, frDc]
    simp only [okRf]
    by_cases g : o.k = 2
    · rw [if_pos g, if_pos g, frN_put g, Nat.zero_add]; exact okRf_app r b m hr
    · rw [if_neg g, if_neg g, frN_els (by have := h o (by simp); omega), okRf_app r b _ hr, Nat.add_assoc, and_assoc]
theorem sumRf_app : ∀ (a b : List Dop) (m : Nat), (∀ o ∈ a, o.k = 1 ∨ o.k = 2 ∨ o.k = 3) → sumRf S l m (a ++ b) = sumRf S l m a + sumRf S l (m + frD a) b
  | [], b, m, _ => by simp [sumRf, frD]
  | o :: r, b, m, h => by
    have hr : ∀ o ∈ r, o.k = 1 ∨ o.k = 2 ∨ o.k = 3 := fun x hx => h x (by simp [hx])
    rw [List.cons_append, frDc]
    simp only [sumRf]
    by_cases g : o.k = 2
    · rw [if_pos g, if_pos g, frN_put g, Nat.zero_add, sumRf_app r b m hr, Nat.add_assoc]
    · rw [if_neg g, if_neg g, frN_els (by have := h o (by simp); omega), sumRf_app r b _ hr, ← Nat.add_assoc, ← Nat.add_assoc]
theorem okRf_take {d : List Dop} (h : ∀ o ∈ d, o.k = 1 ∨ o.k = 2 ∨ o.k = 3) {k : Nat} (hk : k < d.length) : okRf E 0 (d.take (k + 1)) ↔ okRf E 0 (d.take k) ∧ ((d.getD k opZ).k = 2 ∨ E (frD (d.take (k + 1)))) := by
  have hm := getD_memD hk
  have hfr := frD_take d hk
  have e : d[k] = d.getD k opZ := by simp [List.getD, List.getElem?_eq_getElem hk]
  rw [hfr, List.take_add_one, okRf_app _ _ _ (fun o ho => h o (List.mem_of_mem_take ho)), List.getElem?_eq_getElem hk, Option.toList_some, Nat.zero_add, e]
  have hx := h _ hm
  generalize d.getD k opZ = x at *
  simp only [okRf]
  by_cases g : x.k = 2
  · simp [g]
  · rw [if_neg g, frN_els (by omega)]
    simp [g]
theorem sumRf_take {d : List Dop} (h : ∀ o ∈ d, o.k = 1 ∨ o.k = 2 ∨ o.k = 3) {k : Nat} (hk : k < d.length) : sumRf S l 0 (d.take (k + 1)) = sumRf S l 0 (d.take k) + (if (d.getD k opZ).k = 2 then S (d.getD k opZ).t else if (d.getD k opZ).k = 3 then S (subL l (frD (d.take k)) (frD (d.take (k + 1)))) else 0) := by
  have hm := getD_memD hk
  have hfr := frD_take d hk
  have e : d[k] = d.getD k opZ := by simp [List.getD, List.getElem?_eq_getElem hk]
  rw [hfr, List.take_add_one, sumRf_app _ _ _ (fun o ho => h o (List.mem_of_mem_take ho)), List.getElem?_eq_getElem hk, Option.toList_some, Nat.zero_add, e]
  have hx := h _ hm
  generalize d.getD k opZ = x at *
  simp only [sumRf]
  by_cases g : x.k = 2
  · rw [if_pos g, if_pos g]; rfl
  · rw [if_neg g, if_neg g, frN_els (by omega)]; rfl
theorem okRf_pre {d : List Dop} (h : ∀ o ∈ d, o.k = 1 ∨ o.k = 2 ∨ o.k = 3) (g : okRf E 0 d) (k : Nat) : okRf E 0 (d.take k) := by
  rw [← List.take_append_drop k d, okRf_app _ _ _ (fun o ho => h o (List.mem_of_mem_take ho))] at g
  exact g.1
instance okRf_dec [DecidablePred E] : ∀ (m : Nat) (d : List Dop), Decidable (okRf E m d)
  | _, [] => isTrue trivial
  | m, o :: r => by
    have := okRf_dec m r
    have := okRf_dec (m + o.n.toNat) r
    unfold okRf
    infer_instance
end
/-- what the document's Cost says -/
def costR (l : List Int) (d : List Dop) : Int × Int := if valB d then (if frD d = l.length then (if okRf (EdgP l) 0 d then ((sumRf stepN l 0 d : Int), 0) else (0, 4)) else (0, 131)) else (0, 130)
/-- does the delta, where it keeps or puts, begin and end at edges of the text behind it? -/
def clnB (b : List Int) : Nat → List Dop → Bool
  | at_, [] => decide (at_ = b.length)
  | at_, o :: r => !(inside b (at_ + toN o)) && clnB b (at_ + toN o) r
variable {l m : List Int}
theorem pcs_cost (hl : ByL l) (hm : ByL m) : ∀ (d : List Dop) (i j N : Nat), PcS l m (cutS l) (cutS m) i j N d → i < (cutS l).length → j < (cutS m).length →
    okRf (EdgP l) ((cutS l).getD i 0) d ∧ sumRf stepN l ((cutS l).getD i 0) d = N ∧ clnB m ((cutS m).getD j 0) d = true
  | [], i, j, N, h, hi, hj => by
    obtain ⟨_, h2, h3⟩ := h
    have a2 := (cutS_ok m).last
    rw [show (cutS m).length - 1 = j by omega] at a2
    refine ⟨trivial, by simp [sumRf, h3], ?_⟩
    unfold clnB; exact decide_eq_true a2
  | o :: r, i, j, N, h, hi, hj => by
    rcases h with ⟨k, t, n, h1, h2, h3, h4, h5, h6⟩ | ⟨k, z, n, M, h1, h2, h3, h4, h5⟩ | ⟨k, t, n, M, h1, h2, h3, h4, h5⟩
    · obtain ⟨i1, i2, i3⟩ := pcs_cost hl hm r _ _ _ h6 h2 h3
      have a1 := (cutS_ok l).le (show i ≤ i + n by omega) h2
      have a2 := (cutS_ok m).le (show j ≤ j + n by omega) h3
      have e1 := sub_len (cutS_ok l) (show i ≤ i + n by omega) h2
      have e2 := sub_len (cutS_ok m) (show j ≤ j + n by omega) h3
      rw [h5, e2] at e1
      have e3 : (cutS l).getD i 0 + o.n.toNat = (cutS l).getD (i + n) 0 := by rw [h4]; omega
      have e4 : (cutS m).getD j 0 + toN o = (cutS m).getD (j + n) 0 := by unfold toN; rw [if_pos k, h4]; omega
      refine ⟨?_, ?_, ?_⟩
      · simp only [okRf, if_neg (show ¬ o.k = 2 by omega), e3]
        exact ⟨cutS_edg l h2, i1⟩
      · simp only [sumRf, if_neg (show ¬ o.k = 2 by omega), if_neg (show ¬ o.k = 3 by omega), e3, i2]; omega
      · simp only [clnB, e4, cutS_in m h3, i3]; rfl
    · obtain ⟨i1, i2, i3⟩ := pcs_cost hl hm r _ _ _ h5 hi h2
      have a2 := (cutS_ok m).le (show j ≤ j + n by omega) h2
      have e2 := sub_len (cutS_ok m) (show j ≤ j + n by omega) h2
      have e3 := stepN_sub hm (show j ≤ j + n by omega) h2
      rw [← h3] at e2 e3
      have e4 : (cutS m).getD j 0 + toN o = (cutS m).getD (j + n) 0 := by unfold toN; rw [if_neg (by omega), if_pos k, e2]; omega
      refine ⟨?_, ?_, ?_⟩
      · simp only [okRf, if_pos k]; exact i1
      · simp only [sumRf, if_pos k, i2, e3]; omega
      · simp only [clnB, e4, cutS_in m h2, i3]; rfl
    · obtain ⟨i1, i2, i3⟩ := pcs_cost hl hm r _ _ _ h5 h2 hj
      have a1 := (cutS_ok l).le (show i ≤ i + n by omega) h2
      have e3 : (cutS l).getD i 0 + o.n.toNat = (cutS l).getD (i + n) 0 := by rw [h3]; omega
      have e4 : (cutS m).getD j 0 + toN o = (cutS m).getD j 0 := by unfold toN; rw [if_neg (by omega), if_neg (by omega)]; rfl
      have e5 := stepN_sub hl (show i ≤ i + n by omega) h2
      refine ⟨?_, ?_, ?_⟩
      · simp only [okRf, if_neg (show ¬ o.k = 2 by omega), e3]
        exact ⟨cutS_edg l h2, i1⟩
      · simp only [sumRf, if_neg (show ¬ o.k = 2 by omega), if_pos k, e3, i2, e5]; omega
      · simp only [clnB, e4, cutS_in m hj, i3]; rfl
/-- what it makes of the text -/
theorem pcs_app {xc yc : List Nat} (hx : OkCut l xc) (hy : OkCut m yc) : ∀ (d : List Dop) (i j N : Nat), PcS l m xc yc i j N d → i < xc.length → j < yc.length → appA (l.drop (xc.getD i 0)) (dA d) = m.drop (yc.getD j 0)
  | [], i, j, N, h, hi, hj => by
    obtain ⟨h1, h2, _⟩ := h
    have a1 := hx.last
    have a2 := hy.last
    rw [show xc.length - 1 = i by omega] at a1
    rw [show yc.length - 1 = j by omega] at a2
    rw [a1, a2]
    simp [dA, appA]
  | o :: r, i, j, N, h, hi, hj => by
    have sp : ∀ (z : List Int) (a b : Nat), a ≤ b → z.drop a = subL z a b ++ z.drop b := fun z a b h => by
      unfold subL
      rw [show z.drop b = (z.drop a).drop (b - a) by rw [List.drop_drop]; congr 1; omega, List.take_append_drop]
    rw [dA_cons]
    rcases h with ⟨k, t, n, h1, h2, h3, h4, h5, h6⟩ | ⟨k, z, n, M, h1, h2, h3, h4, h5⟩ | ⟨k, t, n, M, h1, h2, h3, h4, h5⟩
    · have ih := pcs_app hx hy r _ _ _ h6 h2 h3
      have a1 := hx.le (show i ≤ i + n by omega) h2
      have a2 := hy.le (show j ≤ j + n by omega) h3
      have b1 := hx.at_le h2
      rw [show opA o = List.replicate (xc.getD (i + n) 0 - xc.getD i 0) .k by simp [opA, k, h4], appA_k _ _ _ (by rw [List.length_drop]; omega), List.drop_drop, show xc.getD i 0 + (xc.getD (i + n) 0 - xc.getD i 0) = xc.getD (i + n) 0 by omega, ih, sp m _ _ a2, ← h5]
      rfl
    · have ih := pcs_app hx hy r _ _ _ h5 hi h2
      have a2 := hy.le (show j ≤ j + n by omega) h2
      rw [show opA o = o.t.map .p by simp [opA, k], appA_p, ih, h3, ← sp m _ _ a2]
    · have ih := pcs_app hx hy r _ _ _ h5 h2 hj
      have a1 := hx.le (show i ≤ i + n by omega) h2
      have b1 := hx.at_le h2
      rw [show opA o = List.replicate (xc.getD (i + n) 0 - xc.getD i 0) .d by simp [opA, k, h3], appA_d _ _ _ (by rw [List.length_drop]; omega), List.drop_drop, show xc.getD i 0 + (xc.getD (i + n) 0 - xc.getD i 0) = xc.getD (i + n) 0 by omega, ih]
/-- all that a law asks of a delta of whole pieces -/
theorem least_all {xc yc : List Nat} (hx : OkCut l xc) (hy : OkCut m yc) (zl : l.length ≤ 268435456) (zm : m.length ≤ 268435456) :
    valB (leastD l m xc yc) = true ∧ frD (leastD l m xc yc) = l.length ∧ toD (leastD l m xc yc) = m.length ∧ apD l (leastD l m xc yc) = m ∧ ∃ N, PcS l m xc yc 0 0 N (leastD l m xc yc) ∧ N + 2 * lcs (cutP l xc) (cutP m yc) + 2 = xc.length + yc.length := by
  obtain ⟨_, hc, _, N, hp, hN⟩ := least_is (m := m) hx hy
  have h1 := pcs_len hx hy _ 0 0 N hp hx.pos hy.pos
  have h2 := pcs_app hx hy _ 0 0 N hp hx.pos hy.pos
  rw [hx.zero, hy.zero] at h1 h2
  have hv := can_val hc (by omega) (by omega)
  exact ⟨hv, by omega, by omega, by rw [apD_is hv (by omega)]; simpa using h2, N, hp, hN⟩
theorem least_cost (hl : ByL l) (hm : ByL m) (zl : l.length ≤ 268435456) (zm : m.length ≤ 268435456) :
    costR l (leastD l m (cutS l) (cutS m)) = ((aloN cutS l m : Int), 0) ∧ clnB m 0 (leastD l m (cutS l) (cutS m)) = true := by
  obtain ⟨h1, h2, h3, h4, N, h5, h6⟩ := least_all (cutS_ok l) (cutS_ok m) zl zm
  obtain ⟨c1, c2, c3⟩ := pcs_cost hl hm _ 0 0 N h5 (cutS_ok l).pos (cutS_ok m).pos
  rw [(cutS_ok l).zero] at c1 c2
  rw [(cutS_ok m).zero] at c3
  refine ⟨?_, c3⟩
  have n1 := cutP_cnt (cutS_ok l)
  have n2 := cutP_cnt (cutS_ok m)
  unfold costR aloN
  rw [if_pos h1, if_pos h2, if_pos c1, c2]
  congr 2; omega
/-- its texts are bytes -/
theorem pcs_tb {xc yc : List Nat} (hm : ByL m) : ∀ (d : List Dop) (i j N : Nat), PcS l m xc yc i j N d → ∀ o ∈ d, TbD o
  | [], _, _, _, _, o, ho => by cases ho
  | o :: r, i, j, N, h, x, hx => by
    rcases h with ⟨k, t, n, h1, h2, h3, h4, h5, h6⟩ | ⟨k, z, n, M, h1, h2, h3, h4, h5⟩ | ⟨k, t, n, M, h1, h2, h3, h4, h5⟩
    · rcases List.mem_cons.1 hx with rfl | hx
      · unfold TbD; rw [t]; intro y hy; cases hy
      · exact pcs_tb hm r _ _ _ h6 x hx
    · rcases List.mem_cons.1 hx with rfl | hx
      · unfold TbD; rw [h3]; exact fun y hy => hm y (List.mem_of_mem_drop (List.mem_of_mem_take hy))
      · exact pcs_tb hm r _ _ _ h5 x hx
    · rcases List.mem_cons.1 hx with rfl | hx
      · unfold TbD; rw [t]; intro y hy; cases hy
      · exact pcs_tb hm r _ _ _ h5 x hx
theorem least_tb {xc yc : List Nat} (hx : OkCut l xc) (hy : OkCut m yc) (hm : ByL m) : ∀ o ∈ leastD l m xc yc, TbD o := by
  obtain ⟨_, _, _, N, hp, _⟩ := least_is (m := m) hx hy
  exact pcs_tb hm _ 0 0 N hp
theorem val_tl {d : List Dop} (hv : valB d = true) {o : Dop} (ho : o ∈ d) : o.t.length ≤ toD d := by
  have h1 : toN o ≤ toD d := by
    obtain ⟨a, b, e⟩ := List.append_of_mem ho
    rw [e]; simp [toD]; omega
  rcases valB_op hv ho with ⟨_, _, h⟩ | ⟨h, _, _⟩
  · rw [h]; simp
  · rw [show toN o = o.t.length by unfold toN; rw [if_neg (by omega), if_pos h]] at h1; exact h1
/-- the program's Cost and the document's are one -/
theorem cost_same {l : List Int} {d : List Dop} : costN l d = costR l d := by
  unfold costN costR
  by_cases hv : valB d = true
  · by_cases hf : frD d = l.length
    · have hE : EdgP l (frD d) := by
        rw [hf]
        have := cutS_edg l (i := (cutS l).length - 1) (by have := (cutS_ok l).pos; omega)
        rwa [(cutS_ok l).last] at this
      obtain ⟨c1, c2⟩ := cost_is (S := stepN) (l := l) stepN_nil (edgP_zero l) hv hE
      simp only [hv, hf, if_true, c2]
      by_cases h : okRf (EdgP l) 0 d
      · rw [if_pos h, if_pos (c1.1 h)]
      · rw [if_neg h, if_neg (fun g => h (c1.2 g))]
    · simp [hv, hf]
  · simp [hv]
end Go.Proofs.YtkdnanlgkedjgabDoor
end

section
namespace Go.Proofs.YtkdnanlgkedjgabDoor
open Go.ChangeShapes Go.WideShapes Go.ChangeAt Go.RowKit
attribute [local go_sem] Oper.semAt_some

/-- an operation that is well formed by itself -/
def PlO (o : Dop) : Prop := ((o.k = 1 ∨ o.k = 3) ∧ 1 ≤ o.n ∧ o.t = []) ∨ (o.k = 2 ∧ o.n = 0 ∧ o.t ≠ [])
theorem toD_le (d : List Dop) (k : Nat) : toD (d.take k) ≤ toD d := by
  unfold toD
  conv => rhs; rw [← List.take_append_drop k d]
  rw [List.map_append, List.sum_append]
  omega
theorem frD_le' (d : List Dop) (k : Nat) : frD (d.take k) ≤ frD d := by
  unfold frD
  conv => rhs; rw [← List.take_append_drop k d]
  rw [List.map_append, List.sum_append]
  omega
theorem ca_b {a b c : Nat} (h : c = a + b) (hc : c ≤ 1152921504606846976) : wrap64 ((a : Int) + (b : Int)) = (c : Int) ∧ wrap64 ((c : Int) + 0) = (c : Int) ∧ wrap64 (c : Int) = (c : Int) := by
  subst h
  exact ⟨by rw [wrapD _ (by omega) (by omega)]; omega, by rw [wrapD _ (by omega) (by omega)]; omega, wrapD _ (by omega) (by omega)⟩
structure LnI14 (d : List Dop) (k f t : Nat) : Prop where
  ef : f = frD (d.take k)
  et : t = toD (d.take k)
/-- how long the texts are that a delta puts -/
def txD (d : List Dop) : Nat := (d.map fun o => o.t.length).sum
theorem toD_tx (d : List Dop) : toD d ≤ frD d + txD d := by
  induction d with
  | nil => simp [toD, frD, txD]
  | cons o r ih =>
    have : toN o ≤ frN o + o.t.length := by
      unfold toN frN
      split
      · rename_i h; rw [if_pos (.inl h)]; omega
      · split <;> omega
    simp only [toD, frD, txD, List.map_cons, List.sum_cons] at ih ⊢
    omega
theorem txD_le {M : Nat} : ∀ {d : List Dop}, (∀ o ∈ d, o.t.length ≤ M) → txD d ≤ d.length * M
  | [], _ => by simp [txD]
  | o :: r, h => by
    have h1 := h o (by simp)
    have ih := txD_le (d := r) (fun x hx => h x (by simp [hx]))
    simp only [txD, List.map_cons, List.sum_cons, List.length_cons, Nat.add_mul, Nat.one_mul] at ih ⊢
    omega
theorem txD_val {d : List Dop} (hv : ∀ o ∈ d, PlO o) : txD d ≤ toD d := by
  induction d with
  | nil => simp [txD]
  | cons o r ih =>
    have ih := ih (fun x hx => hv x (by simp [hx]))
    have : o.t.length ≤ toN o := by
      rcases hv o (by simp) with ⟨_, _, h⟩ | ⟨h, _, _⟩
      · rw [h]; simp
      · unfold toN; rw [h]; simp
    simp only [toD, txD, List.map_cons, List.sum_cons] at ih ⊢
    omega
theorem pl_of {d : List Dop} (h1 : d.all plB = true) (h2 : apL 7 d = true) : ∀ o ∈ d, PlO o := fun o ho => by
  have hk := apL_kinds 7 d h2 o ho
  have hp := List.all_eq_true.1 h1 o ho
  unfold plB at hp
  rcases hk with h1 | h1 | h1
  · simp [h1] at hp; exact .inl ⟨.inl h1, hp.2, hp.1⟩
  · simp [h1] at hp; exact .inr ⟨h1, hp.2, hp.1⟩
  · simp [h1] at hp; exact .inl ⟨.inr h1, hp.2, hp.1⟩
def Va4 (d : List Dop) (k f : Nat) : Prop := f = frD (d.take k) ∧ f ≤ 268435456 ∧ (d.take k).all plB = true ∧ apL 7 d = apL (prM d k) (d.drop k) ∧ (k = 0 ∨ (d.getD (k - 1) opZ).k = 1 ∨ (d.getD (k - 1) opZ).k = 2 ∨ (d.getD (k - 1) opZ).k = 3)
theorem le_cases (m : Nat) : (268435456 < m ∧ decide ((m : Int) ≤ 268435456) = false) ∨ (m ≤ 268435456 ∧ decide ((m : Int) ≤ 268435456) = true) := by
  by_cases h : 268435456 < m
  · exact .inl ⟨h, decide_eq_false (by omega)⟩
  · exact .inr ⟨by omega, decide_eq_true (by omega)⟩
theorem val_PlO {d : List Dop} (hv : valB d = true) : ∀ o ∈ d, PlO o := fun _ ho => valB_op hv ho
theorem tx_val {d : List Dop} (hv : valB d = true) : txD d ≤ 268435456 := Nat.le_trans (txD_val (val_PlO hv)) (valB_nn hv).2.2
end Go.Proofs.YtkdnanlgkedjgabDoor
end
