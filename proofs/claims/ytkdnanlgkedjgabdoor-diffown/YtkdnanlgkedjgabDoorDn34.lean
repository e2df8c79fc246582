/- Layer 19: rows of numbers and rows of runs that grow. -/
import Derived.Test.YtkdnanlgkedjgabDoorDn26
import Derived.Test.YtkdnanlgkedjgabDoorDn29
import Derived.Test.YtkdnanlgkedjgabDoorDn33

namespace Go.Proofs.YtkdnanlgkedjgabDoor
open Go.ChangeShapes Go.WideShapes Go.ChangeAt Go.RowKit
attribute [local go_sem] Oper.semAt_some

def runC (p : Nat × Nat × Nat) : List Value := [.int .i64 (p.1 : Int), .int .i64 (p.2.1 : Int), .int .i64 (p.2.2 : Int)]
def runsV (L : List (Nat × Nat × Nat)) : List Value := L.flatMap runC
theorem runsV_snoc (L : List (Nat × Nat × Nat)) (p : Nat × Nat × Nat) : runsV (L ++ [p]) = runsV L ++ runC p := by simp [runsV]
theorem runsV_len (L : List (Nat × Nat × Nat)) : (runsV L).length = L.length * 3 := by
  induction L with
  | nil => rfl
  | cons p L ih => simp only [runsV, List.flatMap_cons, List.length_append, List.length_cons] at ih ⊢; rw [ih]; simp [runC]; omega
theorem runsV_get : ∀ (L : List (Nat × Nat × Nat)) (k : Nat), k < L.length → (runsV L)[k * 3]? = some (.int .i64 ((L.getD k (0, 0, 0)).1 : Int)) ∧ (runsV L)[k * 3 + 1]? = some (.int .i64 ((L.getD k (0, 0, 0)).2.1 : Int)) ∧ (runsV L)[k * 3 + 2]? = some (.int .i64 ((L.getD k (0, 0, 0)).2.2 : Int))
  | [], _, h => by simp at h
  | p :: L, 0, _ => by simp [runsV, runC]
  | p :: L, k + 1, h => by
    have := runsV_get L k (by simpa using h)
    rw [show (k + 1) * 3 = k * 3 + 3 by omega, show k * 3 + 3 + 1 = k * 3 + 1 + 3 by omega, show k * 3 + 3 + 2 = k * 3 + 2 + 3 by omega]
    simpa [runsV, runC] using this
/-- runs that lie there -/
def IsRu (X : World) (a : Option Addr) (L : List (Nat × Nat × Nat)) : Prop := L = [] ∨ ∃ g off, a = some ⟨g, off, none⟩ ∧ g < X.heap.size ∧ ∀ k, k < L.length →
  X.cell? ⟨g, off + k * 3, none⟩ = some (.int .i64 ((L.getD k (0, 0, 0)).1 : Int)) ∧ X.cell? ⟨g, off + k * 3 + 1, none⟩ = some (.int .i64 ((L.getD k (0, 0, 0)).2.1 : Int)) ∧ X.cell? ⟨g, off + k * 3 + 2, none⟩ = some (.int .i64 ((L.getD k (0, 0, 0)).2.2 : Int))
theorem IsRu.below {X Y : World} {B : Nat} {a : Option Addr} {L : List (Nat × Nat × Nat)} (h : IsRu X a L) (hb : Below B X Y) (hB : X.heap.size ≤ B) : IsRu Y a L := by
  rcases h with h | ⟨g, off, h1, h2, h3⟩
  · exact .inl h
  · refine .inr ⟨g, off, h1, Nat.lt_of_lt_of_le h2 hb.size, fun k hk => ?_⟩
    obtain ⟨c0, c1, c2⟩ := h3 k hk
    have hlt := Nat.lt_of_lt_of_le h2 hB
    exact ⟨(hb.cell (p := ⟨g, off + k * 3, none⟩) hlt).trans c0, (hb.cell (p := ⟨g, off + k * 3 + 1, none⟩) hlt).trans c1, (hb.cell (p := ⟨g, off + k * 3 + 2, none⟩) hlt).trans c2⟩
theorem IsRu.at {X : World} {a : Option Addr} {L : List (Nat × Nat × Nat)} (h : IsRu X a L) {k : Nat} (hk : k < L.length) : ∃ g off, a = some ⟨g, off, none⟩ ∧ g < X.heap.size ∧ X.cell? ⟨g, off + k * 3, none⟩ = some (.int .i64 ((L.getD k (0, 0, 0)).1 : Int)) ∧
    X.cell? ⟨g, off + k * 3 + 1, none⟩ = some (.int .i64 ((L.getD k (0, 0, 0)).2.1 : Int)) ∧ X.cell? ⟨g, off + k * 3 + 2, none⟩ = some (.int .i64 ((L.getD k (0, 0, 0)).2.2 : Int)) := by
  rcases h with h | ⟨g, off, h1, h2, h3⟩
  · subst h; simp at hk
  · exact ⟨g, off, h1, h2, h3 k hk⟩
theorem ra_runs {X : World} {v : Value} {L : List (Nat × Nat × Nat)} {k : Option Nat} (h : RA X 3 v L.length (runsV L) k) : ∃ a c, v = .slice a L.length c ∧ IsRu X a L := by
  rcases h.val with ⟨rfl, h0, _⟩ | ⟨g, off, c, rfl, _, hg, _, _, hc⟩
  · exact ⟨none, 0, by rw [h0], .inl (List.length_eq_zero_iff.1 h0)⟩
  · refine ⟨_, c, rfl, .inr ⟨g, off, rfl, hg, fun j hj => ?_⟩⟩
    obtain ⟨e0, e1, e2⟩ := runsV_get L j hj
    rw [Nat.add_assoc, Nat.add_assoc, hc _ (by omega), hc _ (by omega), hc _ (by omega)]
    exact ⟨e0, e1, e2⟩
theorem ra_ints {X : World} {v : Value} {L : List Nat} {k : Option Nat} (h : RA X 1 v L.length (intsN L) k) : ∃ a c, v = .slice a L.length c ∧ IsI X a L ∧ L.length ≤ c := by
  rcases h.val with ⟨rfl, h0, _⟩ | ⟨g, off, c, rfl, _, hg, hlc, _, hc⟩
  · exact ⟨none, 0, by rw [h0], .inl (List.length_eq_zero_iff.1 h0), by omega⟩
  · refine ⟨_, c, rfl, .inr ⟨g, off, rfl, hg, fun j hj => ?_⟩, hlc⟩
    rw [hc _ (by omega)]
    simp [intsN, List.getD, List.getElem?_eq_getElem hj]
set_option maxRecDepth 100000 in
theorem push_run (W : World) (v : Value) (n : Nat) (xs : List Value) (k : Option Nat) (p q r : Int) (ty : TypeId) (h : RA W 3 v n xs k) (hn : n ≤ 1000000000) :
    ∃ v' Y k', (Builtin.append_ #[66, 66] ty #[v, .slice (some ⟨W.heap.size, 0, none⟩) 1 1]).run Tryd.prog (W.alloc (.cells #[.int .i64 p, .int .i64 q, .int .i64 r] 69)) = .ok v' Y ∧
      RA Y 3 v' (n + 1) (xs ++ [.int .i64 p, .int .i64 q, .int .i64 r]) k' ∧ KpF (fun b => k = some b) W Y ∧ ∀ G, k' = some G → (k = some G ∨ W.heap.size ≤ G) := by
  have h1 := h.allocd (.cells #[.int .i64 p, .int .i64 q, .int .i64 r] 69)
  obtain ⟨c0, c1, c2⟩ := three_nwD W (.int .i64 p) (.int .i64 q) (.int .i64 r) (t := 69)
  obtain ⟨v', Y, k', hr, h2, h3, h4⟩ := h1.push (P := Tryd.prog) 66 ty 69 _ _ 24 Tryd.underlying66 rfl rfl rfl rfl rfl ⟨W.heap.size, 0, none⟩ 1 [.int .i64 p, .int .i64 q, .int .i64 r] rfl (fun j u hj => by
      match j with
      | 0 => simp at hj; subst hj; rw [Addr.add_lit]; exact c0
      | 1 => simp at hj; subst hj; rw [Addr.add_lit]; exact c1
      | 2 => simp at hj; subst hj; rw [Addr.add_lit]; exact c2
      | j + 3 => simp at hj) (fun u hu => by simp at hu; rcases hu with rfl | rfl | rfl <;> rfl) hn (by omega)
  refine ⟨v', Y, k', hr, h2, (KpF.alloc (fun b => k = some b) W _).trans h3 (fun _ _ g => g), fun G hG => ?_⟩
  rcases h4 with ⟨e, _⟩ | e
  · exact .inl (e ▸ hG)
  · rw [e] at hG; cases hG; refine .inr ?_; simp
set_option maxRecDepth 100000 in
theorem push_num (W : World) (v : Value) (n : Nat) (xs : List Value) (k : Option Nat) (p : Int) (ty : TypeId) (h : RA W 1 v n xs k) (hn : n ≤ 1000000000) :
    ∃ v' Y k', (Builtin.append_ #[60, 60] ty #[v, .slice (some ⟨W.heap.size, 0, none⟩) 1 1]).run Tryd.prog (W.alloc (.cells #[.int .i64 p] 3)) = .ok v' Y ∧
      RA Y 1 v' (n + 1) (xs ++ [.int .i64 p]) k' ∧ KpF (fun b => k = some b) W Y ∧ ∀ G, k' = some G → (k = some G ∨ W.heap.size ≤ G) := by
  have h1 := h.allocd (.cells #[.int .i64 p] 3)
  obtain ⟨v', Y, k', hr, h2, h3, h4⟩ := h1.push (P := Tryd.prog) 60 ty 3 _ _ 8 Tryd.underlying60 rfl rfl rfl rfl rfl ⟨W.heap.size, 0, none⟩ 1 [.int .i64 p] rfl (fun j u hj => by
      cases j with
      | zero => simp at hj; subst hj; rw [Addr.add_lit]; exact (World.cell?_alloc_mark W _ _ (0, 0) 0).trans rfl
      | succ j => simp at hj) (fun u hu => by simp at hu; subst hu; rfl) hn (by omega)
  refine ⟨v', Y, k', hr, h2, (KpF.alloc (fun b => k = some b) W _).trans h3 (fun _ _ g => g), fun G hG => ?_⟩
  rcases h4 with ⟨e, _⟩ | e
  · exact .inl (e ▸ hG)
  · rw [e] at hG; cases hG; refine .inr ?_; simp
/-- a row made by a literal of one run -/
theorem RA.one (W : World) (p q r : Int) : RA (W.alloc (.cells #[.int .i64 p, .int .i64 q, .int .i64 r] 69)) 3 (.slice (some ⟨W.heap.size, 0, none⟩) 1 1) 1 [.int .i64 p, .int .i64 q, .int .i64 r] (some W.heap.size) := by
  have e := heap_alloc_new W (.cells #[.int .i64 p, .int .i64 q, .int .i64 r] 69)
  refine ⟨rfl, .inr ⟨W.heap.size, 0, 1, rfl, rfl, by simp, Nat.le_refl _, fun j hj => ⟨?_, ?_⟩, fun j hj => ?_⟩⟩
  · simp only [World.cell?, e, Nat.zero_add]
    rw [Array.getElem?_eq_getElem (by simpa using hj)]; rfl
  · simp only [World.frozen?, e]
    simp
  · simp only [World.cell?, e, Nat.zero_add]
    match j with
    | 0 => rfl
    | 1 => rfl
    | 2 => rfl
    | j + 3 => omega
/-- a list's end -/
theorem IsI.lo {w : World} {a : Option Addr} {x : List Nat} (h : IsI w a x) {c : Nat} (hc : x.length ≤ c) (n : Nat) : IsI w (if c = n then a else a.map (·.add n)) (x.drop n) := by
  split
  · exact .inl (List.drop_eq_nil_of_le (by omega))
  · exact h.drop n
theorem LnT.re {w w6 X : World} {gS gA g Q ac : Nat} {x y : List Nat} {I J : Nat} (h : LnT w6 X gS gA g Q ac x y I J) (hb : Below w.heap.size w X) (hs : w.heap.size ≤ w6.heap.size) : LnT w X gS gA g Q ac x y I J := by
  obtain ⟨n1, n2, n3, n4⟩ := h.n
  exact ⟨h.s, h.a, h.t, hb, by omega, by omega, by omega, n4⟩
/-- what the loop over two lists keeps -/
structure CmI (w X : World) (gS gA g Q ac : Nat) (x y : List Nat) (v : Value) (R : List (Nat × Nat × Nat)) : Prop where
  r : ∃ k, RA X 3 v R.length (runsV R) k ∧ ∀ G, k = some G → w.heap.size ≤ G ∧ G ≠ gS ∧ G ≠ gA ∧ G ≠ g
  l : LnT w X gS gA g Q ac x y 0 0
theorem CmI.dN {w X : World} {gS gA g Q ac : Nat} {x y : List Nat} {v : Value} {R : List (Nat × Nat × Nat)} (h : CmI w X gS gA g Q ac x y v R) (n : Nat) : CmI w (X.drewN n) gS gA g Q ac x y v R := by
  obtain ⟨k, h1, h2⟩ := h.r
  have e : ∀ m, (X.drewN m).heap = X.heap := fun m => by
    induction m with
    | zero => rfl
    | succ m ih => exact ih
  exact ⟨⟨k, h1.same (by rw [e]; exact Nat.le_refl _) (fun G _ _ => by rw [e]), h2⟩, h.l.dN n⟩
theorem CmI.push {w X : World} {gS gA g Q ac : Nat} {x y : List Nat} {v : Value} {R : List (Nat × Nat × Nat)} (h : CmI w X gS gA g Q ac x y v R) (p : Nat × Nat × Nat) (ty : TypeId) (hn : R.length ≤ 1000000) :
    ∃ v' Y, (Builtin.append_ #[66, 66] ty #[v, .slice (some ⟨X.heap.size, 0, none⟩) 1 1]).run Tryd.prog (X.alloc (.cells #[.int .i64 (p.1 : Int), .int .i64 (p.2.1 : Int), .int .i64 (p.2.2 : Int)] 69)) = .ok v' Y ∧ CmI w Y gS gA g Q ac x y v' (R ++ [p]) := by
  obtain ⟨k, h1, h2⟩ := h.r
  obtain ⟨v', Y, k', hr, h3, h4, h5⟩ := push_run X v R.length (runsV R) k p.1 p.2.1 p.2.2 ty h1 (by omega)
  obtain ⟨n1, n2, n3, n4, n5, n6, n7⟩ := h.l.n
  have hsz := h.l.b.size
  obtain ⟨f, t1, t2⟩ := h.l.t
  have bS := h4.block gS n6 (fun e => (h2 _ e).2.1 rfl)
  have bA := h4.block gA n7 (fun e => (h2 _ e).2.2.1 rfl)
  have bT := h4.block g t1.lt (fun e => (h2 _ e).2.2.2 rfl)
  refine ⟨v', Y, hr, ⟨k', ?_, fun G hG => ?_⟩, ?_⟩
  · rw [runsV_snoc, List.length_append, List.length_singleton]; exact h3
  · rcases h5 G hG with e | e
    · exact h2 G e
    · have := t1.lt; exact ⟨by omega, by omega, by omega, by omega⟩
  · refine ⟨?_, ?_, ⟨f, t1.same bT, t2⟩, h.l.b.trans (h4.below hsz fun b e => (h2 b e).1), n1, n2, n3, n4, n5, Nat.lt_of_lt_of_le n6 h4.size, Nat.lt_of_lt_of_le n7 h4.size⟩
    · rw [World.cell?_of_block (a := ⟨gS, 0, none⟩) bS]; exact h.l.s
    · rw [World.cell?_of_block (a := ⟨gA, 0, none⟩) bA]; exact h.l.a
end Go.Proofs.YtkdnanlgkedjgabDoor
