/- Layer 8: Cut's borders (plain), Cut's errors. · Layer 8: the document's Cut: slices of the bytes. · Layer 5: weld.Sum of the measures of pieces; a list of Welds of one's own (written by wip/tools/wsu.py). · Layer 8: for LeafCuts: pieces one by one; leaves and rows that stay while rows behind them grow (written by wip/tools/lct.py). -/
import Derived.Test.YteamaneompijkaaGreatDoorSl22
import Derived.Test.YteamaneompijkaaGreatDoorSl20
import Derived.Test.YteamaneompijkaaGreatDoorSl21
import Derived.Deep.AppendLies
import Derived.Deep.AppendSrc

section
namespace Go.Proofs.YteamaneompijkaaGreatDoor
open Go.ChangeShapes Go.WideShapes Go.ChangeAt Go.RowKit
attribute [local go_sem] Oper.semAt_some
theorem bdr_edge {l : List Int} {b m : Nat} (hm : 4 ≤ m) : inside l (bdr l b m) = false := by
  unfold bdr
  split
  · exact edge_len l
  · rw [if_neg (by omega)]; exact flr_edge l _
/-- Cut's leaves behind k of them -/
structure CbI (l : List Int) (m k b : Nat) : Prop where
  p : ∃ (pre : List (List Int)) (f : Nat), pcs l m = pre ++ pcA l m f b ∧ pre.length = k ∧ l.length - b ≤ f
  le : b ≤ l.length
  e : inside l b = false
theorem CbI.zero (l : List Int) (m : Nat) : CbI l m 0 0 := ⟨⟨[], l.length, rfl, rfl, by omega⟩, Nat.zero_le _, edge_zero l⟩
theorem CbI.next {l : List Int} {m k b : Nat} (hm : 4 ≤ m) (h : CbI l m k b) (hk : k < (pcs l m).length) : b < l.length ∧ (pcs l m).getD k [] = (l.take (bdr l b m)).drop b ∧ CbI l m (k + 1) (bdr l b m) ∧ (k + 1 < (pcs l m).length → bdr l b m < l.length) := by
  obtain ⟨pre, f, h1, h2, h3⟩ := h.p
  have hlt : b < l.length := by
    rcases Nat.lt_or_ge b l.length with h4 | h4
    · exact h4
    · rw [h1, pcA_end (by omega)] at hk; simp at hk; omega
  obtain ⟨g, rfl⟩ : ∃ g, f = g + 1 := ⟨f - 1, by omega⟩
  have h5 : pcA l m (g + 1) b = (l.take (bdr l b m)).drop b :: pcA l m g (bdr l b m) := by show (if b < l.length then _ else _) = _; rw [if_pos hlt]
  obtain ⟨e1, e2⟩ := bdr_in hlt (show 1 ≤ m by omega)
  rw [h5] at h1
  refine ⟨hlt, ?_, ⟨⟨pre ++ [(l.take (bdr l b m)).drop b], g, by rw [h1]; simp, by simp [h2], by omega⟩, e2, bdr_edge hm⟩, fun h6 => ?_⟩
  · rw [h1, ← h2]; simp
  · rcases Nat.lt_or_ge (bdr l b m) l.length with h4 | h4
    · exact h4
    · rw [h1, pcA_end (by omega)] at h6; simp at h6; omega
theorem CbI.end {l : List Int} {m b : Nat} (h : CbI l m (pcs l m).length b) : b = l.length := by
  obtain ⟨pre, f, h1, h2, h3⟩ := h.p
  rcases Nat.lt_or_ge b l.length with h4 | h4
  · obtain ⟨g, rfl⟩ : ∃ g, f = g + 1 := ⟨f - 1, by omega⟩
    have h5 : pcA l m (g + 1) b = (l.take (bdr l b m)).drop b :: pcA l m g (bdr l b m) := by show (if b < l.length then _ else _) = _; rw [if_pos h4]
    rw [h5] at h1
    have := congrArg List.length h1
    simp at this
    omega
  · have := h.le; omega
theorem pcs_len {l : List Int} {m : Nat} (hm : 1 ≤ m) : (pcs l m).length ≤ l.length := by
  have key : ∀ f b, b ≤ l.length → (pcA l m f b).length + b ≤ l.length := by
    intro f
    induction f with
    | zero => intro b hb; simpa [pcA] using hb
    | succ f ih =>
      intro b hb
      rcases Nat.lt_or_ge b l.length with h4 | h4
      · have h5 : pcA l m (f + 1) b = (l.take (bdr l b m)).drop b :: pcA l m f (bdr l b m) := by show (if b < l.length then _ else _) = _; rw [if_pos h4]
        obtain ⟨e1, e2⟩ := bdr_in h4 hm
        have := ih (bdr l b m) e2
        rw [h5, List.length_cons]
        omega
      · rw [pcA_end (by omega)]; simp; omega
  have := key l.length 0 (Nat.zero_le _)
  simpa [pcs] using this
end Go.Proofs.YteamaneompijkaaGreatDoor
end

section
section
namespace Go.Proofs.YteamaneompijkaaGreatDoor
open Go.ChangeShapes Go.WideShapes Go.ChangeAt Go.RowKit
attribute [local go_sem] Oper.semAt_some
/-- the borders of the leaves -/
def prA (l : List Int) (m : Nat) : Nat → Nat → List (Nat × Nat)
  | 0, _ => []
  | f + 1, b => if b < l.length then (b, bdr l b m) :: prA l m f (bdr l b m) else []
def prs (l : List Int) (m : Nat) : List (Nat × Nat) := prA l m l.length 0
def pcO (l : List Int) (p : Nat × Nat) : List Int := (l.take p.2).drop p.1
theorem prA_end {l : List Int} {m b : Nat} (h : ¬ b < l.length) : ∀ f, prA l m f b = []
  | 0 => rfl
  | f + 1 => by unfold prA; rw [if_neg h]
theorem prA_cons {l : List Int} {m b f : Nat} (h : b < l.length) (hf : l.length - b ≤ f) : ∃ g, f = g + 1 ∧ prA l m f b = (b, bdr l b m) :: prA l m g (bdr l b m) := by
  obtain ⟨g, rfl⟩ : ∃ g, f = g + 1 := ⟨f - 1, by omega⟩
  exact ⟨g, rfl, by show (if b < l.length then _ else _) = _; rw [if_pos h]⟩
theorem pcA_map (l : List Int) (m : Nat) : ∀ f b, pcA l m f b = (prA l m f b).map (pcO l)
  | 0, _ => rfl
  | f + 1, b => by
    unfold pcA prA
    split
    · rw [List.map_cons, pcA_map l m f]; rfl
    · rfl
theorem pcs_map (l : List Int) (m : Nat) : pcs l m = (prs l m).map (pcO l) := pcA_map l m _ _
end Go.Proofs.YteamaneompijkaaGreatDoor
end

section
namespace Go.Proofs.YteamaneompijkaaGreatDoor
open Go.ChangeShapes Go.WideShapes Go.ChangeAt Go.RowKit
attribute [local go_sem] Oper.semAt_some

/-- a measure's six cells -/
def weC (p : List Int) : List Value := [.int .i64 (szL p).b, .int .i64 (szL p).r, .int .i64 (szL p).u, .int .i64 (szL p).e, .string (strOfNums (p.take 3)), .string (strOfNums (tail3 p))]
def wsV (ps : List (List Int)) : List Value := ps.flatMap weC
/-- a []Weld in memory -/
def WsAt (W : World) (a : Option Addr) (ps : List (List Int)) : Prop := ps = [] ∨ ∃ g, a = some ⟨g, 0, none⟩ ∧ g < W.heap.size ∧ ∀ k, k < ps.length → ∀ j, j < 6 → W.cell? ⟨g, k * 6 + j, none⟩ = (weC (ps.getD k []))[j]?
theorem WsAt.below {W W' : World} {B : Nat} {a : Option Addr} {ps : List (List Int)} (h : WsAt W a ps) (hb : Below B W W') (hB : W.heap.size ≤ B) : WsAt W' a ps := by
  rcases h with h | ⟨g, rfl, hg, hc⟩
  · exact Or.inl h
  · exact Or.inr ⟨g, rfl, Nat.lt_of_lt_of_le hg hb.size, fun k hk j hj => (hb.cell (p := ⟨g, k * 6 + j, none⟩) (by show g < B; omega)).trans (hc k hk j hj)⟩
end Go.Proofs.YteamaneompijkaaGreatDoor
end

section
namespace Go.Proofs.YteamaneompijkaaGreatDoor
open Go.ChangeShapes Go.WideShapes Go.ChangeAt Go.RowKit
attribute [local go_sem] Oper.semAt_some

/-- the pieces behind k of them -/
structure CtI (l : List Int) (m k b : Nat) : Prop where
  p : ∃ (pre : List (Nat × Nat)) (f : Nat), prs l m = pre ++ prA l m f b ∧ pre.length = k ∧ l.length - b ≤ f
  le : b ≤ l.length
theorem CtI.zero (l : List Int) (m : Nat) : CtI l m 0 0 := ⟨⟨[], l.length, rfl, rfl, by omega⟩, Nat.zero_le _⟩
theorem CtI.next {l : List Int} {m k b : Nat} (hm : 1 ≤ m) (h : CtI l m k b) (hk : k < (prs l m).length) : b < bdr l b m ∧ bdr l b m ≤ l.length ∧ (prs l m).getD k (0, 0) = (b, bdr l b m) ∧ CtI l m (k + 1) (bdr l b m) := by
  obtain ⟨pre, f, h1, h2, h3⟩ := h.p
  have hlt : b < l.length := by
    rcases Nat.lt_or_ge b l.length with h4 | h4
    · exact h4
    · rw [h1, prA_end (by omega)] at hk; simp at hk; omega
  obtain ⟨g, rfl, h5⟩ := prA_cons (m := m) hlt h3
  obtain ⟨e1, e2⟩ := bdr_in hlt hm
  rw [h5] at h1
  refine ⟨e1, e2, ?_, ⟨⟨pre ++ [(b, bdr l b m)], g, by rw [h1]; simp, by simp [h2], by omega⟩, e2⟩⟩
  rw [h1, ← h2]; simp
theorem CtI.end {l : List Int} {m b : Nat} (h : CtI l m (prs l m).length b) : b = l.length := by
  obtain ⟨pre, f, h1, h2, h3⟩ := h.p
  rcases Nat.lt_or_ge b l.length with h4 | h4
  · obtain ⟨g, rfl, h5⟩ := prA_cons (m := m) h4 h3
    rw [h5] at h1
    have := congrArg List.length h1
    simp at this
    omega
  · have := h.le; omega
theorem pcA_flat {l : List Int} {m : Nat} (hm : 1 ≤ m) : ∀ f b, b ≤ l.length → l.length - b ≤ f → (pcA l m f b).flatten = l.drop b
  | 0, b, hb, hf => by rw [List.drop_of_length_le (by omega)]; rfl
  | f + 1, b, hb, hf => by
    rcases Nat.lt_or_ge b l.length with h4 | h4
    · have h5 : pcA l m (f + 1) b = (l.take (bdr l b m)).drop b :: pcA l m f (bdr l b m) := by show (if b < l.length then _ else _) = _; rw [if_pos h4]
      obtain ⟨e1, e2⟩ := bdr_in h4 hm
      rw [h5, List.flatten_cons, pcA_flat hm f (bdr l b m) e2 (by omega), List.drop_take]
      have : l.drop (bdr l b m) = (l.drop b).drop (bdr l b m - b) := by rw [List.drop_drop]; congr 1; omega
      rw [this, List.take_append_drop]
    · rw [pcA_end (by omega), List.drop_of_length_le (by omega)]; rfl
theorem pcs_flat {l : List Int} {m : Nat} (hm : 1 ≤ m) : (pcs l m).flatten = l := by
  unfold pcs
  rw [pcA_flat hm l.length 0 (Nat.zero_le _) (by omega)]; rfl
theorem pcs_in {l : List Int} {m : Nat} (hl : ∀ x ∈ l, 0 ≤ x ∧ x ≤ 255) : ∀ p ∈ pcs l m, ∀ x ∈ p, 0 ≤ x ∧ x ≤ 255 := fun p hp x hx => by
  rw [pcs_map] at hp
  obtain ⟨q, _, rfl⟩ := List.mem_map.1 hp
  exact hl x (List.mem_of_mem_take (List.mem_of_mem_drop hx))
/-- leaves, their list and the document's list: all below B -/
structure LoS (w : World) (B : Nat) (gs : List Nat) (ps : List (List Int)) (qs : List Value) (vC vW : Value) (X : World) : Prop where
  d : Below w.heap.size w X
  z : w.heap.size ≤ B ∧ B ≤ X.heap.size
  l : Lvs X w.heap.size gs ps
  ll : ∀ i, i < gs.length → gs.getD i 0 < B
  r : X.ownsRow w.heap.size 160 1 vC gs.length (ptrs gs)
  rl : ∀ g, vC.ownBlock = some g → g < B
  q : X.ownsRow w.heap.size 30 1 vW qs.length qs
  ql : ∀ g, vW.ownBlock = some g → g < B
theorem row_low {X Y : World} {B B0 s n : Nat} {t : TypeId} {v : Value} {xs : List Value} (h : X.ownsRow B0 t s v n xs) (hl : ∀ g, v.ownBlock = some g → g < B) (hb : Below B X Y) : Y.ownsRow B0 t s v n xs := by
  refine ⟨h.1, ?_⟩
  rcases h.2 with hn | ⟨g, cap, cur, e, h0, hg, rest⟩
  · exact .inl hn
  · exact .inr ⟨g, cap, cur, e, h0, (hb.block g (hl g (by rw [e]; rfl))).trans hg, rest⟩
theorem LoS.low {w : World} {B : Nat} {gs : List Nat} {ps : List (List Int)} {qs : List Value} {vC vW : Value} {X Y : World} (h : LoS w B gs ps qs vC vW X) (hb : Below B X Y) : LoS w B gs ps qs vC vW Y :=
  ⟨h.d.trans (hb.mono h.z.1), ⟨h.z.1, Nat.le_trans h.z.2 hb.size⟩, ⟨h.l.1, fun i hi => ⟨(h.l.2 i hi).1.below hb (h.ll i hi), (h.l.2 i hi).2⟩⟩, h.ll, row_low h.r h.rl hb, h.rl, row_low h.q h.ql hb, h.ql⟩
theorem LoS.on {w : World} {B : Nat} {gs : List Nat} {ps : List (List Int)} {qs : List Value} {vC vW : Value} {X Y : World} (h : LoS w B gs ps qs vC vW X) (hb : Below X.heap.size X Y) : LoS w B gs ps qs vC vW Y := h.low (hb.mono h.z.2)
/-- bytes are appended to a row of one's own: what else stays -/
theorem appG {W : World} {B : Nat} {v : Value} {l m : List Int} {a0 : Option Addr} {cap : Nat} (ty : TypeId) (h : Own W B v l) (hB : B ≤ W.heap.size) (hm : IsB W a0 cap m) (hb : l.length + m.length ≤ 268435456) :
    ∃ v' W', (Builtin.append_ #[30, 30] ty #[v, .slice a0 m.length cap]).run Tryz.prog W = .ok v' W' ∧ Own W' B v' (l ++ m) ∧ Below B W W' ∧ W.grownBy W' v.ownBlock ∧ (v'.ownBlock = v.ownBlock ∨ v'.ownBlock = some W.heap.size) := by
  obtain ⟨i, hi, hz, hs, hby⟩ := info_u8
  rcases Nat.eq_zero_or_pos m.length with h0 | h0
  · obtain rfl : m = [] := List.length_eq_zero_iff.1 h0
    have hsrc : Src Tryz.prog i.size 30 (.slice a0 0 cap) 0 [] W := by
      cases a0 with
      | none => exact Src.ofNil W Tryz.underlying30 cap
      | some x => exact Src.ofSlice W Tryz.underlying30 x 0 cap [] (by simp) (fun j u h => by simp at h) (fun u h => by cases h)
    refine ⟨v, W, ?_, by simpa using h, Below.refl _ _, ⟨rfl, rfl, rfl, Nat.le_refl _, fun _ _ _ => rfl⟩, Or.inl rfl⟩
    rcases h.2 with ⟨rfl, h0⟩ | ⟨g, c, cur, rfl, hB, hg, hle, hm, hsz, htk⟩
    · simp [Builtin.append_, run_underlying Tryz.underlying30, sizeOf, typeInfo, hi, hsrc.len, hsrc.cells]
    · have := run_append_room_src (P := Tryz.prog) W 30 30 ty 5 i Tryz.underlying30 hi g 0 l.length c (.slice a0 0 cap) 0 [] hsrc (by omega) (fun j hj => absurd hj (Nat.not_lt_zero _)) (fun j hj => absurd hj (Nat.not_lt_zero _))
      simpa [World.setCells] using this
  · rcases hm.2.2.1 with h' | ⟨g, off, rfl, hL⟩
    · rw [h'] at h0; cases h0
    · obtain ⟨g', k, W', hrun, ho, hg, hor, _⟩ := run_append_lies (P := Tryz.prog) W 30 ty B 5 i _ 1 1 Tryz.underlying30 hi hz hs hby rfl (by decide) v l.length (l.map (Value.int .u8)) h ⟨g, off, none⟩ m.length cap (m.map (Value.int .u8)) (by simp)
        (fun j u hj => by
          rw [Addr.add_lit]
          obtain ⟨x, hx, rfl⟩ : ∃ x, m[j]? = some x ∧ Value.int .u8 x = u := by simpa using hj
          have hjl : j < m.length := (List.getElem?_eq_some_iff.1 hx).1
          have := (hL j hjl).1
          simpa [List.getD, hx] using this) (fun u hu => by obtain ⟨x, _, rfl⟩ := List.mem_map.1 hu; rfl) h0 (by unfold maxLen; omega) (by omega) hB _ rfl
      refine ⟨_, W', hrun, by simpa [Own] using ho, (Below.refl B W).grown hg hB (fun k hk => (World.ownsRow.lt h k hk).1), hg, ?_⟩
      rcases hor with h1 | h1
      · exact Or.inl (by rw [h1]; rfl)
      · exact Or.inr (by rw [← h1]; rfl)
/-- what LeafCuts' loop makes: all bytes, all measures, in two rows -/
structure CtR (B : Nat) (L : List Int) (k : Nat) (ps : List (List Int)) (vA vM : Value) (X : World) : Prop where
  a : Own X B vA L
  m : X.ownsRow B 47 6 vM k (wsV ps)
  ne : ∀ g, vA.ownBlock = some g → vM.ownBlock ≠ some g
theorem row_on {X Y : World} {B s n : Nat} {t : TypeId} {v : Value} {xs : List Value} (h : X.ownsRow B t s v n xs) (hb : Below X.heap.size X Y) : Y.ownsRow B t s v n xs :=
  h.kept (row := none) ⟨hb.os, hb.tape, hb.output, hb.size, fun j hj _ => hb.block j hj⟩ (by cases hv : v.ownBlock <;> simp)
theorem CtR.on {B : Nat} {L : List Int} {k : Nat} {ps : List (List Int)} {vA vM : Value} {X Y : World} (h : CtR B L k ps vA vM X) (hb : Below X.heap.size X Y) : CtR B L k ps vA vM Y := ⟨row_on h.a hb, row_on h.m hb, h.ne⟩
theorem CtR.bytes {B : Nat} {L : List Int} {k : Nat} {ps : List (List Int)} {vA vM : Value} {X : World} (h : CtR B L k ps vA vM X) (hB : B ≤ X.heap.size) {p : List Int} {a0 : Option Addr} {cap : Nat} (hp : IsB X a0 cap p) (hn : L.length + p.length ≤ 268435456) :
    ∃ v' X', (Builtin.append_ #[30, 30] 30 #[vA, .slice a0 p.length cap]).run Tryz.prog X = .ok v' X' ∧ CtR B (L ++ p) k ps v' vM X' ∧ Below B X X' := by
  obtain ⟨v', X', h1, h2, h3, h4, h5⟩ := appG 30 h.a hB hp hn
  refine ⟨v', X', h1, ⟨h2, h.m.kept h4 ?_, fun g hg => ?_⟩, h3⟩
  · cases hv : vM.ownBlock with
    | none => exact Or.inl rfl
    | some g => exact Or.inr fun e => h.ne g e.symm hv
  · rcases h5 with h5 | h5
    · rw [h5] at hg; exact h.ne g hg
    · rw [h5] at hg
      cases hg
      intro hv
      have := (World.ownsRow.lt h.m _ hv).2
      omega
end Go.Proofs.YteamaneompijkaaGreatDoor
end
end
