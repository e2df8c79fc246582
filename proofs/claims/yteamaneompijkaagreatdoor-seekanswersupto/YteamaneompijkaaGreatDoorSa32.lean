/- Layer 8: Cut's borders (plain), Cut's errors. · Layer 8: the document's Cut: slices of the bytes. · Layer 5: weld.Sum of the measures of pieces; a list of Welds of one's own (written by wip/tools/wsu.py). · Layer 8: for LeafCuts: pieces one by one; leaves and rows that stay while rows behind them grow (written by wip/tools/lct.py). -/
import Derived.Test.YteamaneompijkaaGreatDoorSa31
import Derived.Test.YteamaneompijkaaGreatDoorSa30
import Derived.Deep.AppendLies
import Derived.Deep.AppendSrc
namespace Go.Proofs.YteamaneompijkaaGreatDoor
open Go.ChangeShapes Go.WideShapes Go.ChangeAt Go.RowKit
set_option maxRecDepth 100000
set_option maxHeartbeats 8000000
section
attribute [local go_sem] Oper.semAt_some
theorem pcs_len {l : List Int} {m : Nat} (hm : 1 ≤ m) : (pcs l m).length ≤ l.length := by
  have key : ∀ f b, b ≤ l.length → (pcA l m f b).length + b ≤ l.length := by
    intro f
    induction f with
    | zero => intro b hb; simpa [pcA] using hb
    | succ f ih =>
      intro b hb
      rcases Nat.lt_or_ge b l.length with h4 | h4
      · have h5 : pcA l m (f + 1) b = (l.take (bdr l b m)).drop b :: pcA l m f (bdr l b m) := by show (if b < l.length then _ else _) = _; rw [if_pos h4]
        obtain ⟨e1, e2⟩ := bdr_in h4 hm
        have := ih (bdr l b m) e2
        rw [h5, List.length_cons]
        omega
      · rw [pcA_end (by omega)]; simp; omega
  have := key l.length 0 (Nat.zero_le _)
  simpa [pcs] using this
end
section
section
attribute [local go_sem] Oper.semAt_some
def prA (l : List Int) (m : Nat) : Nat → Nat → List (Nat × Nat)
  | 0, _ => []
  | f + 1, b => if b < l.length then (b, bdr l b m) :: prA l m f (bdr l b m) else []
def prs (l : List Int) (m : Nat) : List (Nat × Nat) := prA l m l.length 0
def pcO (l : List Int) (p : Nat × Nat) : List Int := (l.take p.2).drop p.1
theorem pcA_map (l : List Int) (m : Nat) : ∀ f b, pcA l m f b = (prA l m f b).map (pcO l)
  | 0, _ => rfl
  | f + 1, b => by
    unfold pcA prA
    split
    · rw [List.map_cons, pcA_map l m f]; rfl
    · rfl
theorem pcs_map (l : List Int) (m : Nat) : pcs l m = (prs l m).map (pcO l) := pcA_map l m _ _
end
section
attribute [local go_sem] Oper.semAt_some
end
section
attribute [local go_sem] Oper.semAt_some
theorem pcA_flat {l : List Int} {m : Nat} (hm : 1 ≤ m) : ∀ f b, b ≤ l.length → l.length - b ≤ f → (pcA l m f b).flatten = l.drop b
  | 0, b, hb, hf => by rw [List.drop_of_length_le (by omega)]; rfl
  | f + 1, b, hb, hf => by
    rcases Nat.lt_or_ge b l.length with h4 | h4
    · have h5 : pcA l m (f + 1) b = (l.take (bdr l b m)).drop b :: pcA l m f (bdr l b m) := by show (if b < l.length then _ else _) = _; rw [if_pos h4]
      obtain ⟨e1, e2⟩ := bdr_in h4 hm
      rw [h5, List.flatten_cons, pcA_flat hm f (bdr l b m) e2 (by omega), List.drop_take]
      have : l.drop (bdr l b m) = (l.drop b).drop (bdr l b m - b) := by rw [List.drop_drop]; congr 1; omega
      rw [this, List.take_append_drop]
    · rw [pcA_end (by omega), List.drop_of_length_le (by omega)]; rfl
theorem pcs_flat {l : List Int} {m : Nat} (hm : 1 ≤ m) : (pcs l m).flatten = l := by
  unfold pcs
  rw [pcA_flat hm l.length 0 (Nat.zero_le _) (by omega)]; rfl
theorem pcs_in {l : List Int} {m : Nat} (hl : ∀ x ∈ l, 0 ≤ x ∧ x ≤ 255) : ∀ p ∈ pcs l m, ∀ x ∈ p, 0 ≤ x ∧ x ≤ 255 := fun p hp x hx => by
  rw [pcs_map] at hp
  obtain ⟨q, _, rfl⟩ := List.mem_map.1 hp
  exact hl x (List.mem_of_mem_take (List.mem_of_mem_drop hx))
theorem appG {W : World} {B : Nat} {v : Value} {l m : List Int} {a0 : Option Addr} {cap : Nat} (ty : TypeId) (h : Own W B v l) (hB : B ≤ W.heap.size) (hm : IsB W a0 cap m) (hb : l.length + m.length ≤ 268435456) :
    ∃ v' W', (Builtin.append_ #[30, 30] ty #[v, .slice a0 m.length cap]).run Tryz.prog W = .ok v' W' ∧ Own W' B v' (l ++ m) ∧ Below B W W' ∧ W.grownBy W' v.ownBlock ∧ (v'.ownBlock = v.ownBlock ∨ v'.ownBlock = some W.heap.size) := by
  obtain ⟨i, hi, hz, hs, hby⟩ := info_u8
  rcases Nat.eq_zero_or_pos m.length with h0 | h0
  · obtain rfl : m = [] := List.length_eq_zero_iff.1 h0
    have hsrc : Src Tryz.prog i.size 30 (.slice a0 0 cap) 0 [] W := by
      cases a0 with
      | none => exact Src.ofNil W Tryz.underlying30 cap
      | some x => exact Src.ofSlice W Tryz.underlying30 x 0 cap [] (by simp) (fun j u h => by simp at h) (fun u h => by cases h)
    refine ⟨v, W, ?_, by simpa using h, Below.refl _ _, ⟨rfl, rfl, rfl, Nat.le_refl _, fun _ _ _ => rfl⟩, Or.inl rfl⟩
    rcases h.2 with ⟨rfl, h0⟩ | ⟨g, c, cur, rfl, hB, hg, hle, hm, hsz, htk⟩
    · simp [Builtin.append_, run_underlying Tryz.underlying30, sizeOf, typeInfo, hi, hsrc.len, hsrc.cells]
    · have := run_append_room_src (P := Tryz.prog) W 30 30 ty 5 i Tryz.underlying30 hi g 0 l.length c (.slice a0 0 cap) 0 [] hsrc (by omega) (fun j hj => absurd hj (Nat.not_lt_zero _)) (fun j hj => absurd hj (Nat.not_lt_zero _))
      simpa [World.setCells] using this
  · rcases hm.2.2.1 with h' | ⟨g, off, rfl, hL⟩
    · rw [h'] at h0; cases h0
    · obtain ⟨g', k, W', hrun, ho, hg, hor, _⟩ := run_append_lies (P := Tryz.prog) W 30 ty B 5 i _ 1 1 Tryz.underlying30 hi hz hs hby rfl (by decide) v l.length (l.map (Value.int .u8)) h ⟨g, off, none⟩ m.length cap (m.map (Value.int .u8)) (by simp)
        (fun j u hj => by
          rw [Addr.add_lit]
          obtain ⟨x, hx, rfl⟩ : ∃ x, m[j]? = some x ∧ Value.int .u8 x = u := by simpa using hj
          have hjl : j < m.length := (List.getElem?_eq_some_iff.1 hx).1
          have := (hL j hjl).1
          simpa [List.getD, hx] using this) (fun u hu => by obtain ⟨x, _, rfl⟩ := List.mem_map.1 hu; rfl) h0 (by unfold maxLen; omega) (by omega) hB _ rfl
      refine ⟨_, W', hrun, by simpa [Own] using ho, (Below.refl B W).grown hg hB (fun k hk => (World.ownsRow.lt h k hk).1), hg, ?_⟩
      rcases hor with h1 | h1
      · exact Or.inl (by rw [h1]; rfl)
      · exact Or.inr (by rw [← h1]; rfl)
end
end
end Go.Proofs.YteamaneompijkaaGreatDoor
