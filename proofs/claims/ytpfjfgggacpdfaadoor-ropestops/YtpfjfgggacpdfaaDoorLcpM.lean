/- Layer 8: the document's Cut: slices of the bytes. · Layer 5: weld.Sum of the measures of pieces; a list of Welds of one's own (written by wip/tools/wsu.py). · Layer 8: for LeafCuts: pieces one by one; leaves and rows that stay while rows behind them grow (written by wip/tools/lct.py). -/
import Derived.Test.YtpfjfgggacpdfaaDoorLbp
import Derived.Test.YtpfjfgggacpdfaaDoorWmc
import Derived.Test.YtpfjfgggacpdfaaDoorWjs
import Derived.Deep.AppendLies
import Derived.Deep.AppendSrc

section
namespace Go.Proofs.YtpfjfgggacpdfaaDoor
open Go.ChangeShapes Go.WideShapes Go.ChangeAt Go.RowKit
attribute [local go_sem] Oper.semAt_some

set_option maxRecDepth 100000 in
theorem info_bs : ∃ i, Tryd.prog.info? 23 = some i ∧ i.zero = some (.slice none 0 0) ∧ i.size = 1 ∧ i.bytes = 24 := by
  refine ⟨_, rfl, ?_, ?_, ?_⟩ <;> rfl
/-- the borders of the leaves -/
def prA (l : List Int) (m : Nat) : Nat → Nat → List (Nat × Nat)
  | 0, _ => []
  | f + 1, b => if b < l.length then (b, bdr l b m) :: prA l m f (bdr l b m) else []
def prs (l : List Int) (m : Nat) : List (Nat × Nat) := prA l m l.length 0
def pcO (l : List Int) (p : Nat × Nat) : List Int := (l.take p.2).drop p.1
theorem prA_end {l : List Int} {m b : Nat} (h : ¬ b < l.length) : ∀ f, prA l m f b = []
  | 0 => rfl
  | f + 1 => by unfold prA; rw [if_neg h]
theorem prA_cons {l : List Int} {m b f : Nat} (h : b < l.length) (hf : l.length - b ≤ f) : ∃ g, f = g + 1 ∧ prA l m f b = (b, bdr l b m) :: prA l m g (bdr l b m) := by
  obtain ⟨g, rfl⟩ : ∃ g, f = g + 1 := ⟨f - 1, by omega⟩
  exact ⟨g, rfl, by show (if b < l.length then _ else _) = _; rw [if_pos h]⟩
theorem pcA_map (l : List Int) (m : Nat) : ∀ f b, pcA l m f b = (prA l m f b).map (pcO l)
  | 0, _ => rfl
  | f + 1, b => by
    unfold pcA prA
    split
    · rw [List.map_cons, pcA_map l m f]; rfl
    · rfl
theorem pcs_map (l : List Int) (m : Nat) : pcs l m = (prs l m).map (pcO l) := pcA_map l m _ _
theorem flr_isD {l : List Int} {p q : Nat} (h2 : q ≤ p) (h : inside l q = false) (h3 : ∀ j, q < j → j ≤ p → inside l j = true) : flr l p = q := by
  have h4 := flr_le l p
  have h5 := flr_edge l p
  rcases Nat.lt_trichotomy (flr l p) q with h6 | h6 | h6
  · cases h7 : inside l p with
    | false => rw [flr_eq h7] at h6; omega
    | true =>
      obtain ⟨h8, h9⟩ := flr_over h7
      have h10 := (inside_not l q).1 h (flr l p) h6
      omega
  · exact h6
  · have := h3 _ h6 h4
    rw [this] at h5; cases h5
def cutV (g off cap : Nat) (p : Nat × Nat) : Value := .slice (some ⟨g, off + p.1, none⟩) (p.2 - p.1) (cap - p.1)
structure CdI (w : World) (l : List Int) (m g off cap b : Nat) (v : Value) (X : World) : Prop where
  d : Below w.heap.size w X
  p : ∃ (pre : List (Nat × Nat)) (f : Nat), prs l m = pre ++ prA l m f b ∧ l.length - b ≤ f ∧ pre.length ≤ b ∧ X.ownsRow w.heap.size 23 1 v pre.length (pre.map (cutV g off cap))

end Go.Proofs.YtpfjfgggacpdfaaDoor
end

section
namespace Go.Proofs.YtpfjfgggacpdfaaDoor
open Go.ChangeShapes Go.WideShapes Go.ChangeAt Go.RowKit
attribute [local go_sem] Oper.semAt_some

/-- a measure's six cells -/
def weC (p : List Int) : List Value := [.int .i64 (szL p).b, .int .i64 (szL p).r, .int .i64 (szL p).u, .int .i64 (szL p).e, .string (strOfNums (p.take 3)), .string (strOfNums (tail3 p))]
def wsV (ps : List (List Int)) : List Value := ps.flatMap weC
theorem wsV_snoc (ps : List (List Int)) (p : List Int) : wsV (ps ++ [p]) = wsV ps ++ weC p := by simp [wsV]
theorem wsV_get : ∀ (ps : List (List Int)) (k j : Nat), k < ps.length → j < 6 → (wsV ps)[k * 6 + j]? = (weC (ps.getD k []))[j]?
  | [], k, _, hk, _ => absurd hk (by simp)
  | t :: ts, 0, j, _, hj => by
    rw [wsV, List.flatMap_cons, Nat.zero_mul, Nat.zero_add, List.getElem?_append_left (by simpa [weC] using hj)]; rfl
  | t :: ts, k + 1, j, hk, hj => by
    have ih := wsV_get ts k j (by simpa using hk) hj
    rw [wsV, List.flatMap_cons, List.getElem?_append_right (by simp [weC]; omega), show (k + 1) * 6 + j - (weC t).length = k * 6 + j by simp [weC]; omega]
    simpa [wsV] using ih
set_option maxRecDepth 100000 in
theorem info_we : ∃ i, Tryd.prog.info? 49 = some i ∧ i.zero = some (.agg #[.int .i64 0, .int .i64 0, .int .i64 0, .int .i64 0, .string ⟨#[]⟩, .string ⟨#[]⟩]) ∧ i.size = 6 ∧ i.bytes = 64 := by
  refine ⟨_, rfl, ?_, ?_, ?_⟩ <;> rfl
/-- a []Weld in memory -/
def WsAt (W : World) (a : Option Addr) (ps : List (List Int)) : Prop := ps = [] ∨ ∃ g, a = some ⟨g, 0, none⟩ ∧ g < W.heap.size ∧ ∀ k, k < ps.length → ∀ j, j < 6 → W.cell? ⟨g, k * 6 + j, none⟩ = (weC (ps.getD k []))[j]?
theorem WsAt.below {W W' : World} {B : Nat} {a : Option Addr} {ps : List (List Int)} (h : WsAt W a ps) (hb : Below B W W') (hB : W.heap.size ≤ B) : WsAt W' a ps := by
  rcases h with h | ⟨g, rfl, hg, hc⟩
  · exact Or.inl h
  · exact Or.inr ⟨g, rfl, Nat.lt_of_lt_of_le hg hb.size, fun k hk j hj => (hb.cell (p := ⟨g, k * 6 + j, none⟩) (by show g < B; omega)).trans (hc k hk j hj)⟩
theorem ws_row {X : World} {B n : Nat} {v : Value} {ps : List (List Int)} (h : X.ownsRow B 49 6 v n (wsV ps)) (hn : n = ps.length) : ∃ a c, v = .slice a ps.length c ∧ WsAt X a ps := by
  subst hn
  have hc := h
  rcases h.2 with ⟨rfl, h0⟩ | ⟨g, cap, cur, rfl, hB, hg, _⟩
  · exact ⟨none, 0, by rw [h0], Or.inl (List.length_eq_zero_iff.1 h0)⟩
  · refine ⟨_, cap, rfl, Or.inr ⟨g, rfl, (Array.getElem?_eq_some_iff.1 hg).1, fun k hk j hj => ?_⟩⟩
    have e := wsV_get ps k j hk hj
    have hlt : j < (weC (ps.getD k [])).length := by simpa [weC] using hj
    rw [List.getElem?_eq_getElem hlt] at e ⊢
    have := World.ownsRow.cells hc rfl (k * 6 + j) _ e
    rwa [Addr.add_lit, Nat.zero_add] at this
theorem WsAt.six {W : World} {a : Option Addr} {ps : List (List Int)} (h : WsAt W a ps) {k : Nat} (hk : k < ps.length) : ∃ g, a = some ⟨g, 0, none⟩ ∧ g < W.heap.size ∧
    W.cell? ⟨g, k * 6, none⟩ = some (.int .i64 (szL (ps.getD k [])).b) ∧ W.cell? ⟨g, k * 6 + 1, none⟩ = some (.int .i64 (szL (ps.getD k [])).r) ∧ W.cell? ⟨g, k * 6 + 2, none⟩ = some (.int .i64 (szL (ps.getD k [])).u) ∧
    W.cell? ⟨g, k * 6 + 3, none⟩ = some (.int .i64 (szL (ps.getD k [])).e) ∧ W.cell? ⟨g, k * 6 + 4, none⟩ = some (.string (strOfNums ((ps.getD k []).take 3))) ∧ W.cell? ⟨g, k * 6 + 5, none⟩ = some (.string (strOfNums (tail3 (ps.getD k [])))) := by
  rcases h with h | ⟨g, rfl, hg, hc⟩
  · rw [h] at hk; simp at hk
  · exact ⟨g, rfl, hg, hc k hk 0 (by decide), hc k hk 1 (by decide), hc k hk 2 (by decide), hc k hk 3 (by decide), hc k hk 4 (by decide), hc k hk 5 (by decide)⟩
/-- Sum's state behind k pieces -/
structure SuI (w : World) (gR gW : Nat) (ps : List (List Int)) (k : Nat) (X : World) : Prop where
  d : Below w.heap.size w X
  r : X.heap[gR]? = some (.cells #[.int .i64 0, .int .i64 0, .int .i64 0, .int .i64 0, .string ⟨#[]⟩, .string ⟨#[]⟩] 49 (0, 0))
  c : X.heap[gW]? = some (.cells (weC (ps.take k).flatten).toArray 49 (0, 0))
  z : gR < gW ∧ gW < X.heap.size
theorem fl_take {ps : List (List Int)} {k : Nat} (hk : k < ps.length) : (ps.take (k + 1)).flatten = (ps.take k).flatten ++ ps.getD k [] := by
  rw [List.take_add_one, List.getElem?_eq_getElem hk, Option.toList_some, List.flatten_append, List.getD_eq_getElem?_getD, List.getElem?_eq_getElem hk]
  simp
theorem fl_le (ps : List (List Int)) (k : Nat) : (ps.take k).flatten.length ≤ ps.flatten.length := by
  have : ps.flatten = (ps.take k).flatten ++ (ps.drop k).flatten := by rw [← List.flatten_append, List.take_append_drop]
  rw [this, List.length_append]
  omega
theorem set6_below {X : World} {g : Nat} (a b c d e f : Value) : Below g X ((((((X.setCell ⟨g, 0, none⟩ a).setCell ⟨g, 1, none⟩ b).setCell ⟨g, 2, none⟩ c).setCell ⟨g, 3, none⟩ d).setCell ⟨g, 4, none⟩ e).setCell ⟨g, 5, none⟩ f) :=
  ((((((Below.refl g X).setCell (p := ⟨g, 0, none⟩) (Nat.le_refl _) _).setCell (p := ⟨g, 1, none⟩) (Nat.le_refl _) _).setCell (p := ⟨g, 2, none⟩) (Nat.le_refl _) _).setCell (p := ⟨g, 3, none⟩) (Nat.le_refl _) _).setCell (p := ⟨g, 4, none⟩) (Nat.le_refl _) _).setCell (p := ⟨g, 5, none⟩) (Nat.le_refl _) _

end Go.Proofs.YtpfjfgggacpdfaaDoor
end

section
namespace Go.Proofs.YtpfjfgggacpdfaaDoor
open Go.ChangeShapes Go.WideShapes Go.ChangeAt Go.RowKit
attribute [local go_sem] Oper.semAt_some

/-- the pieces behind k of them -/
structure CtI (l : List Int) (m k b : Nat) : Prop where
  p : ∃ (pre : List (Nat × Nat)) (f : Nat), prs l m = pre ++ prA l m f b ∧ pre.length = k ∧ l.length - b ≤ f
  le : b ≤ l.length
theorem CtI.zero (l : List Int) (m : Nat) : CtI l m 0 0 := ⟨⟨[], l.length, rfl, rfl, by omega⟩, Nat.zero_le _⟩
theorem CtI.next {l : List Int} {m k b : Nat} (hm : 1 ≤ m) (h : CtI l m k b) (hk : k < (prs l m).length) : b < bdr l b m ∧ bdr l b m ≤ l.length ∧ (prs l m).getD k (0, 0) = (b, bdr l b m) ∧ CtI l m (k + 1) (bdr l b m) := by
  obtain ⟨pre, f, h1, h2, h3⟩ := h.p
  have hlt : b < l.length := by
    rcases Nat.lt_or_ge b l.length with h4 | h4
    · exact h4
    · rw [h1, prA_end (by omega)] at hk; simp at hk; omega
  obtain ⟨g, rfl, h5⟩ := prA_cons (m := m) hlt h3
  obtain ⟨e1, e2⟩ := bdr_in hlt hm
  rw [h5] at h1
  refine ⟨e1, e2, ?_, ⟨⟨pre ++ [(b, bdr l b m)], g, by rw [h1]; simp, by simp [h2], by omega⟩, e2⟩⟩
  rw [h1, ← h2]; simp
theorem CtI.end {l : List Int} {m b : Nat} (h : CtI l m (prs l m).length b) : b = l.length := by
  obtain ⟨pre, f, h1, h2, h3⟩ := h.p
  rcases Nat.lt_or_ge b l.length with h4 | h4
  · obtain ⟨g, rfl, h5⟩ := prA_cons (m := m) h4 h3
    rw [h5] at h1
    have := congrArg List.length h1
    simp at this
    omega
  · have := h.le; omega
theorem pcs_prs (l : List Int) (m : Nat) : (pcs l m).length = (prs l m).length := by rw [pcs_map]; simp
theorem pcs_at {l : List Int} {m k b : Nat} (hk : k < (prs l m).length) (h : (prs l m).getD k (0, 0) = (b, bdr l b m)) : (pcs l m).getD k [] = (l.take (bdr l b m)).drop b := by
  have h1 : (pcs l m).getD k [] = pcO l ((prs l m).getD k (0, 0)) := by rw [pcs_map]; simp [List.getD, List.getElem?_eq_getElem hk]
  rw [h1, h]; rfl
theorem pcA_flat {l : List Int} {m : Nat} (hm : 1 ≤ m) : ∀ f b, b ≤ l.length → l.length - b ≤ f → (pcA l m f b).flatten = l.drop b
  | 0, b, hb, hf => by rw [List.drop_of_length_le (by omega)]; rfl
  | f + 1, b, hb, hf => by
    rcases Nat.lt_or_ge b l.length with h4 | h4
    · have h5 : pcA l m (f + 1) b = (l.take (bdr l b m)).drop b :: pcA l m f (bdr l b m) := by show (if b < l.length then _ else _) = _; rw [if_pos h4]
      obtain ⟨e1, e2⟩ := bdr_in h4 hm
      rw [h5, List.flatten_cons, pcA_flat hm f (bdr l b m) e2 (by omega), List.drop_take]
      have : l.drop (bdr l b m) = (l.drop b).drop (bdr l b m - b) := by rw [List.drop_drop]; congr 1; omega
      rw [this, List.take_append_drop]
    · rw [pcA_end (by omega), List.drop_of_length_le (by omega)]; rfl
theorem pcs_flat {l : List Int} {m : Nat} (hm : 1 ≤ m) : (pcs l m).flatten = l := by
  unfold pcs
  rw [pcA_flat hm l.length 0 (Nat.zero_le _) (by omega)]; rfl
theorem pcs_in {l : List Int} {m : Nat} (hl : ∀ x ∈ l, 0 ≤ x ∧ x ≤ 255) : ∀ p ∈ pcs l m, ∀ x ∈ p, 0 ≤ x ∧ x ≤ 255 := fun p hp x hx => by
  rw [pcs_map] at hp
  obtain ⟨q, _, rfl⟩ := List.mem_map.1 hp
  exact hl x (List.mem_of_mem_take (List.mem_of_mem_drop hx))
/-- leaves, their list and the document's list: all below B -/
structure LoS (w : World) (B : Nat) (gs : List Nat) (ps : List (List Int)) (qs : List Value) (vC vW : Value) (X : World) : Prop where
  d : Below w.heap.size w X
  z : w.heap.size ≤ B ∧ B ≤ X.heap.size
  l : Lvs X w.heap.size gs ps
  ll : ∀ i, i < gs.length → gs.getD i 0 < B
  r : X.ownsRow w.heap.size 89 1 vC gs.length (ptrs gs)
  rl : ∀ g, vC.ownBlock = some g → g < B
  q : X.ownsRow w.heap.size 23 1 vW qs.length qs
  ql : ∀ g, vW.ownBlock = some g → g < B
theorem row_low {X Y : World} {B B0 s n : Nat} {t : TypeId} {v : Value} {xs : List Value} (h : X.ownsRow B0 t s v n xs) (hl : ∀ g, v.ownBlock = some g → g < B) (hb : Below B X Y) : Y.ownsRow B0 t s v n xs := by
  refine ⟨h.1, ?_⟩
  rcases h.2 with hn | ⟨g, cap, cur, e, h0, hg, rest⟩
  · exact .inl hn
  · exact .inr ⟨g, cap, cur, e, h0, (hb.block g (hl g (by rw [e]; rfl))).trans hg, rest⟩
theorem LoS.low {w : World} {B : Nat} {gs : List Nat} {ps : List (List Int)} {qs : List Value} {vC vW : Value} {X Y : World} (h : LoS w B gs ps qs vC vW X) (hb : Below B X Y) : LoS w B gs ps qs vC vW Y :=
  ⟨h.d.trans (hb.mono h.z.1), ⟨h.z.1, Nat.le_trans h.z.2 hb.size⟩, ⟨h.l.1, fun i hi => ⟨(h.l.2 i hi).1.below hb (h.ll i hi), (h.l.2 i hi).2⟩⟩, h.ll, row_low h.r h.rl hb, h.rl, row_low h.q h.ql hb, h.ql⟩
theorem LoS.on {w : World} {B : Nat} {gs : List Nat} {ps : List (List Int)} {qs : List Value} {vC vW : Value} {X Y : World} (h : LoS w B gs ps qs vC vW X) (hb : Below X.heap.size X Y) : LoS w B gs ps qs vC vW Y := h.low (hb.mono h.z.2)
/-- bytes are appended to a row of one's own: what else stays -/
theorem appG {W : World} {B : Nat} {v : Value} {l m : List Int} {a0 : Option Addr} {cap : Nat} (ty : TypeId) (h : Own W B v l) (hB : B ≤ W.heap.size) (hm : IsB W a0 cap m) (hb : l.length + m.length ≤ 268435456) :
    ∃ v' W', (Builtin.append_ #[23, 23] ty #[v, .slice a0 m.length cap]).run Tryd.prog W = .ok v' W' ∧ Own W' B v' (l ++ m) ∧ Below B W W' ∧ W.grownBy W' v.ownBlock ∧ (v'.ownBlock = v.ownBlock ∨ v'.ownBlock = some W.heap.size) := by
  obtain ⟨i, hi, hz, hs, hby⟩ := info_u8
  rcases Nat.eq_zero_or_pos m.length with h0 | h0
  · obtain rfl : m = [] := List.length_eq_zero_iff.1 h0
    have hsrc : Src Tryd.prog i.size 23 (.slice a0 0 cap) 0 [] W := by
      cases a0 with
      | none => exact Src.ofNil W Tryd.underlying23 cap
      | some x => exact Src.ofSlice W Tryd.underlying23 x 0 cap [] (by simp) (fun j u h => by simp at h) (fun u h => by cases h)
    refine ⟨v, W, ?_, by simpa using h, Below.refl _ _, ⟨rfl, rfl, rfl, Nat.le_refl _, fun _ _ _ => rfl⟩, Or.inl rfl⟩
    rcases h.2 with ⟨rfl, h0⟩ | ⟨g, c, cur, rfl, hB, hg, hle, hm, hsz, htk⟩
    · simp [Builtin.append_, run_underlying Tryd.underlying23, sizeOf, typeInfo, hi, hsrc.len, hsrc.cells]
    · have := run_append_room_src (P := Tryd.prog) W 23 23 ty 5 i Tryd.underlying23 hi g 0 l.length c (.slice a0 0 cap) 0 [] hsrc (by omega) (fun j hj => absurd hj (Nat.not_lt_zero _)) (fun j hj => absurd hj (Nat.not_lt_zero _))
      simpa [World.setCells] using this
  · rcases hm.2.2.1 with h' | ⟨g, off, rfl, hL⟩
    · rw [h'] at h0; cases h0
    · obtain ⟨g', k, W', hrun, ho, hg, hor, _⟩ := run_append_lies (P := Tryd.prog) W 23 ty B 5 i _ 1 1 Tryd.underlying23 hi hz hs hby rfl (by decide) v l.length (l.map (Value.int .u8)) h ⟨g, off, none⟩ m.length cap (m.map (Value.int .u8)) (by simp)
        (fun j u hj => by
          rw [Addr.add_lit]
          obtain ⟨x, hx, rfl⟩ : ∃ x, m[j]? = some x ∧ Value.int .u8 x = u := by simpa using hj
          have hjl : j < m.length := (List.getElem?_eq_some_iff.1 hx).1
          have := (hL j hjl).1
          simpa [List.getD, hx] using this) (fun u hu => by obtain ⟨x, _, rfl⟩ := List.mem_map.1 hu; rfl) h0 (by unfold maxLen; omega) (by omega) hB _ rfl
      refine ⟨_, W', hrun, by simpa [Own] using ho, (Below.refl B W).grown hg hB (fun k hk => (World.ownsRow.lt h k hk).1), hg, ?_⟩
      rcases hor with h1 | h1
      · exact Or.inl (by rw [h1]; rfl)
      · exact Or.inr (by rw [← h1]; rfl)
/-- what LeafCuts' loop makes: all bytes, all measures, in two rows -/
structure CtR (B : Nat) (L : List Int) (k : Nat) (ps : List (List Int)) (vA vM : Value) (X : World) : Prop where
  a : Own X B vA L
  m : X.ownsRow B 49 6 vM k (wsV ps)
  ne : ∀ g, vA.ownBlock = some g → vM.ownBlock ≠ some g
theorem row_on {X Y : World} {B s n : Nat} {t : TypeId} {v : Value} {xs : List Value} (h : X.ownsRow B t s v n xs) (hb : Below X.heap.size X Y) : Y.ownsRow B t s v n xs :=
  h.kept (row := none) ⟨hb.os, hb.tape, hb.output, hb.size, fun j hj _ => hb.block j hj⟩ (by cases hv : v.ownBlock <;> simp)
theorem CtR.on {B : Nat} {L : List Int} {k : Nat} {ps : List (List Int)} {vA vM : Value} {X Y : World} (h : CtR B L k ps vA vM X) (hb : Below X.heap.size X Y) : CtR B L k ps vA vM Y := ⟨row_on h.a hb, row_on h.m hb, h.ne⟩
theorem CtR.bytes {B : Nat} {L : List Int} {k : Nat} {ps : List (List Int)} {vA vM : Value} {X : World} (h : CtR B L k ps vA vM X) (hB : B ≤ X.heap.size) {p : List Int} {a0 : Option Addr} {cap : Nat} (hp : IsB X a0 cap p) (hn : L.length + p.length ≤ 268435456) :
    ∃ v' X', (Builtin.append_ #[23, 23] 23 #[vA, .slice a0 p.length cap]).run Tryd.prog X = .ok v' X' ∧ CtR B (L ++ p) k ps v' vM X' ∧ Below B X X' := by
  obtain ⟨v', X', h1, h2, h3, h4, h5⟩ := appG 23 h.a hB hp hn
  refine ⟨v', X', h1, ⟨h2, h.m.kept h4 ?_, fun g hg => ?_⟩, h3⟩
  · cases hv : vM.ownBlock with
    | none => exact Or.inl rfl
    | some g => exact Or.inr fun e => h.ne g e.symm hv
  · rcases h5 with h5 | h5
    · rw [h5] at hg; exact h.ne g hg
    · rw [h5] at hg
      cases hg
      intro hv
      have := (World.ownsRow.lt h.m _ hv).2
      omega
end Go.Proofs.YtpfjfgggacpdfaaDoor
end
