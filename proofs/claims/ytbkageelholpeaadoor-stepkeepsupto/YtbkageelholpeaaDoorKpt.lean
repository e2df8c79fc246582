/- StepKeeps: what outlasts each write: the iterators, the lists of runes, rows whose spare room is written. -/
import Derived.Test.YtbkageelholpeaaDoorKps
import Derived.Test.YtbkageelholpeaaDoorWalksW
import Derived.Laws.EntriesVeiled
namespace Go.Proofs.YtbkageelholpeaaDoor
open Go.ChangeShapes Go.WideShapes Go.ChangeAt Go.RowKit

/-- the row of that name lies from lo on, ahead of hi -/
def Ivl (v : Value) (lo hi : Nat) : Prop := ∀ k, v.ownBlock = some k → lo ≤ k ∧ k < hi
theorem isB_row {w w' : World} {row : Option Nat} {a0 : Option Addr} {cap : Nat} {l : List Int} (h : IsB w a0 cap l) (hg : w.grownBy w' row) (hne : ∀ k, row = some k → (Value.slice a0 l.length cap).ownBlock ≠ some k) : IsB w' a0 cap l := by
  obtain ⟨h1, h2, h3, h4⟩ := h
  refine ⟨h1, h2, ?_, h4⟩
  rcases h3 with h3 | ⟨g, off, rfl, hL⟩
  · exact Or.inl h3
  · exact Or.inr ⟨g, off, rfl, hL.grown hg (fun e => hne g e.symm rfl)⟩
theorem own_isBv {w : World} {B : Nat} {v : Value} {l : List Int} (h : Own w B v l) (hl : ∀ x ∈ l, 0 ≤ x ∧ x ≤ 255) (hn : l.length ≤ 140737488351232) : ∃ a c, v = .slice a l.length c ∧ IsB w a c l := by
  have hh := h
  rcases h.2 with ⟨rfl, h0⟩ | ⟨g, cap, cur, rfl, _, hg, hle, _⟩
  · exact ⟨none, 0, by rw [h0], by omega, by omega, Or.inl (List.length_eq_zero_iff.1 h0), hl⟩
  · exact ⟨_, cap, rfl, hle, hn, Or.inr ⟨g, 0, rfl, hh.lies hl⟩, hl⟩

theorem Clone_new (a0 : Option Addr) (cap : Nat) (l : List Int) (w : World) (hB : IsB w a0 cap l) :
    Calls Tryd.prog 17 #[.slice a0 l.length cap] w fun e w' => ∃ a' c', e = .returned (.slice a' l.length c') ∧ IsB w' a' c' l ∧ Ivl (.slice a' l.length c') w.heap.size w'.heap.size ∧ Below w.heap.size w w' := by
  cases a0 with
  | none =>
    obtain rfl : l = [] := by
      rcases hB.2.2.1 with h | ⟨g, off, h, _⟩
      · exact h
      · cases h
    have hq := eqnil_none
    go_enter Tryd.func17, Tryd.ntmps17
    go_wp2
    go_ret
    exact ⟨none, 0, rfl, ⟨Nat.le_refl _, by simp, Or.inl rfl, hB.2.2.2⟩, fun k e => (by cases e), Below.refl _ _⟩
  | some a =>
    obtain ⟨v1, w1, r1, o1, z1⟩ := run_copy_own w (some a) cap l 22 hB
    have i1 : Ivl v1 w.heap.size w1.heap.size := World.ownsRow.lt o1
    obtain ⟨a1, c1, rfl, b1⟩ := own_isBv o1 hB.2.2.2 hB.2.1
    have R1 := hide r1
    clear r1 o1
    have hq := eqnil_some
    go_enter Tryd.func17, Tryd.ntmps17
    go_wp2_with (at_builtin; refine wpList_append_known rfl _ _ 22 22 rfl _ _ rfl rfl _ _ (unhide R1) ?_)
    go_ret
    exact ⟨a1, c1, rfl, b1, i1, z1⟩
theorem Back_new (a0 : Option Addr) (cap : Nat) (l : List Int) (w : World) (hB : IsB w a0 cap l) :
    Calls Tryd.prog 6 #[.slice a0 l.length cap] w fun e w' => ∃ g a' c', e = .returned (.func (.func 18) #[] #[.pointer (some ⟨g, 0, none⟩)]) ∧ (w.heap.size ≤ g ∧ g < w'.heap.size) ∧ w'.cell? ⟨g, 0, none⟩ = some (.slice a' l.length c') ∧ IsB w' a' c' l ∧ Ivl (.slice a' l.length c') w.heap.size w'.heap.size ∧ Below w.heap.size w w' := by
  go_enter Tryd.func6, Tryd.ntmps6
  go_wp2_with (go_at_call 17; refine (Clone_new a0 cap l w hB).mono ?_; rintro e w1 ⟨a1, c1, rfl, b1, i1, x1⟩)
  go_ret
  exact ⟨w1.heap.size, a1, c1, rfl, ⟨x1.size, by simp⟩, (World.cell?_alloc_mark w1 _ _ (0, 0) 0).trans rfl, b1.below ((Below.refl w1.heap.size w1).alloc (Nat.le_refl _) _) (Nat.le_refl _), fun k e => ⟨(i1 k e).1, by have := (i1 k e).2; simp; omega⟩, x1.alloc x1.size _⟩

theorem All_new (a0 : Option Addr) (cap : Nat) (l : List Int) (w : World) (hB : IsB w a0 cap l) :
    Calls Tryd.prog 5 #[.slice a0 l.length cap] w fun e w' => ∃ g, e = .returned (.func (.func 15) #[] #[.pointer (some ⟨g, 0, none⟩)]) ∧ (w.heap.size ≤ g ∧ g < w'.heap.size) ∧ w'.cell? ⟨g, 0, none⟩ = some (.string (strOfNums l)) ∧ Below w.heap.size w w' :=
  (All_at a0 cap l w hB).mono fun e w' h => by
    obtain ⟨rfl, rfl⟩ := h
    exact ⟨_, rfl, ⟨Nat.le_refl _, by simp⟩, (World.cell?_alloc_mark w _ _ (0, 0) 0).trans rfl, (Below.refl w.heap.size w).alloc (Nat.le_refl _) _⟩
/-- only the plain way out -/
def onlyG (Q : Exit → Act → World → Prop) : Exit → Act → World → Prop
  | .normal, a, w => Q .normal a w
  | _, _, _ => False
theorem wp_onlyG {P : Program} {c : Code} {Q : Exit → Act → World → Prop} {a : Act} {w : World} (h : c.wp P (onlyG Q) a w) : c.wp P Q a w :=
  wp_mono h (fun e a w h => by cases e <;> first | exact h | exact h.elim)

/-- what stays: the result's cell, the two iterators; their blocks lie from lo on, ahead of hi -/
structure KB (w : World) (l : List Int) (gA gS gK : Nat) (ak : Option Addr) (ck lo hi : Nat) (W : World) : Prop where
  cr : Boxed W w.heap.size 4 (.bool false)
  ca : W.cell? ⟨gA, 0, none⟩ = some (.func (.func 15) #[] #[.pointer (some ⟨gS, 0, none⟩)])
  cs : W.cell? ⟨gS, 0, none⟩ = some (.string (strOfNums l))
  ck' : W.cell? ⟨gK, 0, none⟩ = some (.slice ak l.length ck)
  bk : IsB W ak ck l
  ra : lo ≤ gA ∧ gA < hi
  rs : lo ≤ gS ∧ gS < hi
  rk : lo ≤ gK ∧ gK < hi
  rb : Ivl (.slice ak l.length ck) lo hi
  lo' : w.heap.size < lo
  hi' : hi ≤ W.heap.size
  below : Below w.heap.size w W
theorem KB.kept {w : World} {l : List Int} {gA gS gK : Nat} {ak : Option Addr} {ck lo hi : Nat} {W W' : World} {row : Option Nat} (h : KB w l gA gS gK ak ck lo hi W) (hg : W.grownBy W' row) (hr : ∀ k, row = some k → w.heap.size < k ∧ (k < lo ∨ hi ≤ k)) : KB w l gA gS gK ak ck lo hi W' := by
  have hne : ∀ g, lo ≤ g ∧ g < hi → some g ≠ row := fun g hl e => by
    have := hr g e.symm
    omega
  exact ⟨h.cr.kept hg (fun e => by have := hr _ e.symm; omega), hg.cell (a := ⟨gA, 0, none⟩) h.ca (hne _ h.ra), hg.cell (a := ⟨gS, 0, none⟩) h.cs (hne _ h.rs), hg.cell (a := ⟨gK, 0, none⟩) h.ck' (hne _ h.rk),
    isB_row h.bk hg (fun k e e' => hne k (h.rb k e') e.symm), h.ra, h.rs, h.rk, h.rb, h.lo', Nat.le_trans h.hi' hg.size, h.below.grown hg h.below.size (fun k e => by have := hr k e; omega)⟩
theorem KB.on {w : World} {l : List Int} {gA gS gK : Nat} {ak : Option Addr} {ck lo hi : Nat} {W W' : World} (h : KB w l gA gS gK ak ck lo hi W) (hb : Below W.heap.size W W') : KB w l gA gS gK ak ck lo hi W' := h.kept (grown_below none hb) (fun k e => by cases e)
theorem str_abc (l : List Int) : strOfNums (l ++ [91, 92, 93]) = strOfNums l ++ ⟨#[91, 92, 93]⟩ := by rw [← str_append]; rfl
theorem abc_in {l : List Int} (hl : ∀ x ∈ l, 0 ≤ x ∧ x ≤ 255) : ∀ x ∈ l ++ [91, 92, 93], 0 ≤ x ∧ x ≤ 255 := by
  intro x hx
  rcases List.mem_append.1 hx with h | h
  · exact hl x h
  · simp at h; omega
theorem room_isB {W : World} {B g c : Nat} {l : List Int} (h : Own W B (.slice (some ⟨g, 0, none⟩) (l.length + 3) c) (l ++ [91, 92, 93])) (hl : ∀ x ∈ l, 0 ≤ x ∧ x ≤ 255) (hn : l.length ≤ 1048576) : IsB W (some ⟨g, 0, none⟩) c l := by
  obtain ⟨g', c', e, _, _, hc⟩ := h.form (by simp)
  simp only [Value.slice.injEq, Option.some.injEq, Addr.mk.injEq] at e
  obtain ⟨⟨rfl, _⟩, _, rfl⟩ := e
  rw [List.length_append] at hc
  exact ⟨by omega, by omega, Or.inr ⟨g, 0, rfl, (h.lies (abc_in hl)).pre⟩, hl⟩

/-- the lists: a row of rows, all apart -/
structure LL (W : World) (B : Nat) (v : Value) (m : Nat) (gs : List (Nat × Nat)) : Prop where
  own : OwnL W B v m gs
  rr : RR W m gs
  ge : ∀ p ∈ gs, B ≤ p.1
  ne : ∀ p ∈ gs, v.ownBlock ≠ some p.1
theorem LL.nil (W : World) (B m : Nat) : LL W B (.slice none 0 0) m [] := ⟨World.ownsRow_nil _ _ _ _, ⟨fun p h => (by cases h), List.nodup_nil⟩, fun p h => (by cases h), fun p h => (by cases h)⟩
theorem LL.kept {W W' : World} {B : Nat} {v : Value} {m : Nat} {gs : List (Nat × Nat)} {row : Option Nat} (h : LL W B v m gs) (hg : W.grownBy W' row) (hr : ∀ k, row = some k → v.ownBlock ≠ some k ∧ ∀ p ∈ gs, p.1 ≠ k) : LL W' B v m gs := by
  refine ⟨World.ownsRow.kept h.own hg ?_, h.rr.kept hg (fun p hp e => (hr _ e).2 p hp rfl), h.ge, h.ne⟩
  cases e : v.ownBlock with
  | none => exact Or.inl rfl
  | some k => exact Or.inr (fun e' => (hr k e'.symm).1 e)
theorem LL.on {W W' : World} {B : Nat} {v : Value} {m : Nat} {gs : List (Nat × Nat)} (h : LL W B v m gs) (hb : Below W.heap.size W W') : LL W' B v m gs := h.kept (grown_below none hb) (fun k e => by cases e)
theorem LL.low {W W' : World} {B : Nat} {v : Value} {m : Nat} {gs : List (Nat × Nat)} {g : Nat} (h : LL W B v m gs) (hg : W.grownBy W' (some g)) (hr : g < B) : LL W' B v m gs :=
  h.kept hg (fun k e => by cases e; exact ⟨fun e => by have := (World.ownsRow.lt h.own _ e).1; omega, fun p hp => by have := h.ge p hp; omega⟩)
theorem LL.lt {W : World} {B : Nat} {v : Value} {m : Nat} {gs : List (Nat × Nat)} (h : LL W B v m gs) {p : Nat × Nat} (hp : p ∈ gs) : p.1 < W.heap.size := (h.rr.rows p hp).lt'

theorem push_listN (W : World) (B : Nat) (v : Value) (m : Nat) (gs : List (Nat × Nat)) (p : Nat × Nat) (ty : TypeId) (h : OwnL W B v m gs) (hn : gs.length ≤ 1000) (hB : B ≤ W.heap.size) :
    ∃ v' W', (Builtin.append_ #[27, 27] ty #[v, .slice (some ⟨W.heap.size, 0, none⟩) 1 1]).run Tryd.prog (W.alloc (.cells #[.slice (some ⟨p.1, 0, none⟩) m p.2] 28)) = .ok v' W' ∧
      OwnL W' B v' m (gs ++ [p]) ∧ Below B W W' ∧ (W.alloc (.cells #[.slice (some ⟨p.1, 0, none⟩) m p.2] 28)).grownBy W' v.ownBlock ∧ (v'.ownBlock = v.ownBlock ∨ v'.ownBlock = some (W.heap.size + 1)) := by
  obtain ⟨i, hi, hz, hs, hby⟩ := info_list
  have hr := World.ownsRow.alloc h (.cells #[.slice (some ⟨p.1, 0, none⟩) m p.2] 28)
  obtain ⟨g, c, W', hrun, ho, hg, hat, _⟩ := run_append_lies (P := Tryd.prog) (W.alloc (.cells #[.slice (some ⟨p.1, 0, none⟩) m p.2] 28)) 27 ty B 28 i (.slice none 0 0) 1 24 Tryd.underlying27 hi hz hs hby rfl (by decide)
    v gs.length (gs.map (sl m)) hr ⟨W.heap.size, 0, none⟩ 1 1 [.slice (some ⟨p.1, 0, none⟩) m p.2] rfl
    (fun j u hj => by
      cases j with
      | zero => simp at hj; subst hj; rw [Addr.add_lit]; exact (World.cell?_alloc_mark W _ _ (0, 0) 0).trans rfl
      | succ j => simp at hj)
    (fun u hu => by simp at hu; subst hu; rfl) (by decide) (by unfold maxLen; omega) (by omega) (by simp; omega) (W.heap.size + 1) (by simp)
  refine ⟨_, W', hrun, ?_, ((Below.refl B W).alloc hB _).grown hg (by simp; omega) (fun k hk => (hr.lt k hk).1), hg, ?_⟩
  · unfold OwnL
    rw [List.length_append, List.map_append]
    exact ho
  · rcases hat with h | h
    · exact Or.inl h.symm
    · exact Or.inr (by rw [h]; rfl)
/-- a new list is appended to the lists -/
theorem LL.push {W w1 : World} {B : Nat} {v : Value} {m c : Nat} {gs : List (Nat × Nat)} (ty : TypeId) (h : LL W B v m gs) (hb : Below W.heap.size W w1) (hr : RwX .i32 4194304 w1 (.slice (some ⟨W.heap.size, 0, none⟩) m c)) (hn : gs.length ≤ 1000) (hB : B ≤ W.heap.size) :
    ∃ v' W', (Builtin.append_ #[27, 27] ty #[v, .slice (some ⟨w1.heap.size, 0, none⟩) 1 1]).run Tryd.prog (w1.alloc (.cells #[.slice (some ⟨W.heap.size, 0, none⟩) m c] 28)) = .ok v' W' ∧ LL W' B v' m (gs ++ [(W.heap.size, c)]) ∧ Below B W W' := by
  have h1 := h.on hb
  have hs := hb.size
  have hlt := hr.lt'
  have hvl : ∀ k, v.ownBlock = some k → k < W.heap.size := fun k e => (World.ownsRow.lt h.own k e).2
  obtain ⟨v', W', r1, o1, b1, g1, at1⟩ := push_listN w1 B v m gs (W.heap.size, c) ty h1.own hn (by omega)
  have hG : ∀ p ∈ gs ++ [(W.heap.size, c)], p.1 ≤ W.heap.size ∧ B ≤ p.1 ∧ v.ownBlock ≠ some p.1 ∧ RwX .i32 4194304 w1 (sl m p) := fun p hp => by
    rcases List.mem_append.1 hp with hp | hp
    · exact ⟨by have := h.lt hp; omega, h.ge p hp, h.ne p hp, h1.rr.rows p hp⟩
    · rw [List.mem_singleton] at hp
      subst hp
      exact ⟨Nat.le_refl _, hB, fun e => by have := hvl _ e; omega, hr⟩
  have s1 := g1.size
  rw [World.size_alloc] at s1
  refine ⟨v', W', r1, ⟨o1, ⟨fun p hp => ?_, ?_⟩, fun p hp => (hG p hp).2.1, fun p hp e => ?_⟩, (hb.mono hB).trans b1⟩
  · obtain ⟨q1, q2, q3, q4⟩ := hG p hp
    have q5 := q4.keptK (World.grownBy_alloc w1 (.cells #[.slice (some ⟨W.heap.size, 0, none⟩) m c] 28) none) (Or.inr (by simp [sl, Value.ownBlock]))
    exact q5.keptK g1 (Or.inr (fun e => q3 e.symm))
  · rw [List.map_append, List.nodup_append]
    refine ⟨h.rr.apart, by simp, fun a ha b hb => ?_⟩
    obtain ⟨q, hq, rfl⟩ := List.mem_map.1 ha
    simp at hb
    subst hb
    have := h.lt hq
    omega
  · obtain ⟨q1, q2, q3, q4⟩ := hG p hp
    rcases at1 with h' | h'
    · rw [h'] at e; exact q3 e
    · rw [h', Option.some.injEq] at e; omega

end Go.Proofs.YtbkageelholpeaaDoor
