/- Layer 5: bytes and measures in two rows of one's own. -/
import Derived.Test.YtlhobpjiclcpiaaDoorWsu
import Derived.Test.YtlhobpjiclcpiaaDoorOwnR
import Derived.Test.YtlhobpjiclcpiaaDoorRwx
import Derived.Deep.AppendLies
import Derived.Deep.AppendSrc
namespace Go.Proofs.YtlhobpjiclcpiaaDoor
open Go.ChangeShapes Go.WideShapes Go.ChangeAt Go.RowKit
attribute [local go_sem] Oper.semAt_some

/-- bytes are appended to a row of one's own: what else stays -/
theorem appG {W : World} {B : Nat} {v : Value} {l m : List Int} {a0 : Option Addr} {cap : Nat} (ty : TypeId) (h : Own W B v l) (hB : B ≤ W.heap.size) (hm : IsB W a0 cap m) (hb : l.length + m.length ≤ 268435456) :
    ∃ v' W', (Builtin.append_ #[22, 22] ty #[v, .slice a0 m.length cap]).run Tryd.prog W = .ok v' W' ∧ Own W' B v' (l ++ m) ∧ Below B W W' ∧ W.grownBy W' v.ownBlock ∧ (v'.ownBlock = v.ownBlock ∨ v'.ownBlock = some W.heap.size) := by
  obtain ⟨i, hi, hz, hs, hby⟩ := info_u8
  rcases Nat.eq_zero_or_pos m.length with h0 | h0
  · obtain rfl : m = [] := List.length_eq_zero_iff.1 h0
    have hsrc : Src Tryd.prog i.size 22 (.slice a0 0 cap) 0 [] W := by
      cases a0 with
      | none => exact Src.ofNil W Tryd.underlying22 cap
      | some x => exact Src.ofSlice W Tryd.underlying22 x 0 cap [] (by simp) (fun j u h => by simp at h) (fun u h => by cases h)
    refine ⟨v, W, ?_, by simpa using h, Below.refl _ _, ⟨rfl, rfl, rfl, Nat.le_refl _, fun _ _ _ => rfl⟩, Or.inl rfl⟩
    rcases h.2 with ⟨rfl, h0⟩ | ⟨g, c, cur, rfl, hB, hg, hle, hm, hsz, htk⟩
    · simp [Builtin.append_, run_underlying Tryd.underlying22, sizeOf, typeInfo, hi, hsrc.len, hsrc.cells]
    · have := run_append_room_src (P := Tryd.prog) W 22 22 ty 5 i Tryd.underlying22 hi g 0 l.length c (.slice a0 0 cap) 0 [] hsrc (by omega) (fun j hj => absurd hj (Nat.not_lt_zero _)) (fun j hj => absurd hj (Nat.not_lt_zero _))
      simpa [World.setCells] using this
  · rcases hm.2.2.1 with h' | ⟨g, off, rfl, hL⟩
    · rw [h'] at h0; cases h0
    · obtain ⟨g', k, W', hrun, ho, hg, hor, _⟩ := run_append_lies (P := Tryd.prog) W 22 ty B 5 i _ 1 1 Tryd.underlying22 hi hz hs hby rfl (by decide) v l.length (l.map (Value.int .u8)) h ⟨g, off, none⟩ m.length cap (m.map (Value.int .u8)) (by simp)
        (fun j u hj => by
          rw [Addr.add_lit]
          obtain ⟨x, hx, rfl⟩ : ∃ x, m[j]? = some x ∧ Value.int .u8 x = u := by simpa using hj
          have hjl : j < m.length := (List.getElem?_eq_some_iff.1 hx).1
          have := (hL j hjl).1
          simpa [List.getD, hx] using this) (fun u hu => by obtain ⟨x, _, rfl⟩ := List.mem_map.1 hu; rfl) h0 (by unfold maxLen; omega) (by omega) hB _ rfl
      refine ⟨_, W', hrun, by simpa [Own] using ho, (Below.refl B W).grown hg hB (fun k hk => (World.ownsRow.lt h k hk).1), hg, ?_⟩
      rcases hor with h1 | h1
      · exact Or.inl (by rw [h1]; rfl)
      · exact Or.inr (by rw [← h1]; rfl)
/-- what LeafCuts' loop makes: all bytes, all measures, in two rows -/
structure CtR (B : Nat) (L : List Int) (k : Nat) (ps : List (List Int)) (vA vM : Value) (X : World) : Prop where
  a : Own X B vA L
  m : X.ownsRow B 27 6 vM k (wsV ps)
  ne : ∀ g, vA.ownBlock = some g → vM.ownBlock ≠ some g
theorem row_on {X Y : World} {B s n : Nat} {t : TypeId} {v : Value} {xs : List Value} (h : X.ownsRow B t s v n xs) (hb : Below X.heap.size X Y) : Y.ownsRow B t s v n xs :=
  h.kept (row := none) ⟨hb.os, hb.tape, hb.output, hb.size, fun j hj _ => hb.block j hj⟩ (by cases hv : v.ownBlock <;> simp)
theorem CtR.on {B : Nat} {L : List Int} {k : Nat} {ps : List (List Int)} {vA vM : Value} {X Y : World} (h : CtR B L k ps vA vM X) (hb : Below X.heap.size X Y) : CtR B L k ps vA vM Y := ⟨row_on h.a hb, row_on h.m hb, h.ne⟩
theorem CtR.bytes {B : Nat} {L : List Int} {k : Nat} {ps : List (List Int)} {vA vM : Value} {X : World} (h : CtR B L k ps vA vM X) (hB : B ≤ X.heap.size) {p : List Int} {a0 : Option Addr} {cap : Nat} (hp : IsB X a0 cap p) (hn : L.length + p.length ≤ 268435456) :
    ∃ v' X', (Builtin.append_ #[22, 22] 22 #[vA, .slice a0 p.length cap]).run Tryd.prog X = .ok v' X' ∧ CtR B (L ++ p) k ps v' vM X' ∧ Below B X X' := by
  obtain ⟨v', X', h1, h2, h3, h4, h5⟩ := appG 22 h.a hB hp hn
  refine ⟨v', X', h1, ⟨h2, h.m.kept h4 ?_, fun g hg => ?_⟩, h3⟩
  · cases hv : vM.ownBlock with
    | none => exact Or.inl rfl
    | some g => exact Or.inr fun e => h.ne g e.symm hv
  · rcases h5 with h5 | h5
    · rw [h5] at hg; exact h.ne g hg
    · rw [h5] at hg
      cases hg
      intro hv
      have := (World.ownsRow.lt h.m _ hv).2
      omega
theorem CtR.weld {B : Nat} {L : List Int} {k : Nat} {ps : List (List Int)} {vA vM : Value} {X : World} (h : CtR B L k ps vA vM X) (hB : B ≤ X.heap.size) (p : List Int) (hk : k ≤ 1099511627776) :
    ∃ v' X', (Builtin.append_ #[42, 42] 42 #[vM, .slice (some ⟨X.heap.size, 0, none⟩) 1 1]).run Tryd.prog (X.alloc (.cells (weC p).toArray 27)) = .ok v' X' ∧ CtR B L (k + 1) (ps ++ [p]) vA v' X' ∧ Below B X X' := by
  obtain ⟨g, c, X', h1, h2, h3, h4, h5⟩ := push_we X B k vM (wsV ps) p 42 h.m hk hB
  have ha := (Below.refl X.heap.size X).alloc (Nat.le_refl _) (.cells (weC p).toArray 27)
  have hA := row_on h.a ha
  refine ⟨_, X', h1, ⟨hA.kept h3 ?_, by rw [wsV_snoc]; exact h2, fun g' hg' => ?_⟩, h5⟩
  · cases hv : vA.ownBlock with
    | none => exact Or.inl rfl
    | some g' => exact Or.inr fun e => h.ne g' hv e.symm
  · intro e
    have e2 : g = g' := by simpa [Value.ownBlock] using e
    subst e2
    rcases h4 with h4 | h4
    · exact h.ne g hg' h4
    · have := (World.ownsRow.lt h.a _ hg').2
      omega

end Go.Proofs.YtlhobpjiclcpiaaDoor
