/- Layer 15: the program's marks beside the document's (written by wip/tools/mkv.py). -/
import Derived.Test.YtfllomlighlejaaMa48
import Derived.Test.YtfllomlighlejaaMa43
import Derived.Test.YtfllomlighlejaaMa26

namespace Go.Proofs.Ytfllomlighlejaa
open Go.ChangeShapes Go.WideShapes Go.ChangeAt Go.RowKit
attribute [local go_sem] Oper.semAt_some

theorem pl_bounds {d : List Dop} {p g : Int} (hv : valB d = true) (hp : 0 ≤ p ∧ p ≤ frD d) (hg : g = 1 ∨ g = 2) : 0 ≤ plV d p g ∧ plV d p g ≤ toD d := by
  obtain ⟨hG, hL, hT⟩ := to_ch hv
  rw [(pl_zero hv hp hg).2]
  have z := mv_zero _ hG
  have m1 := mv_mono 1 _ (-1) 0 p 0 hG (by omega) hp.1
  have m2 := mv_mono 2 _ (-1) p (frD d) 0 hG (by omega) hp.2
  have e := mv_end _ (-1) (frD d : Int) 0 hG hL
  have lr := mv_lr (runL d).2 p 0
  rcases hg with rfl | rfl <;> omega
/-- each mark lies in the text and has a gravity -/
def InP (n : Int) (D : List Mk) : Prop := ∀ m ∈ D, (0 ≤ m.p ∧ m.p ≤ n) ∧ (m.g = 1 ∨ m.g = 2)
theorem InP.nil (n : Int) : InP n [] := fun _ h => by simp at h
theorem InP.all {n : Int} {D : List Mk} (h : InP n D) : D.filter (inM 0 n) = D := List.filter_eq_self.2 fun m hm => by
  unfold inM
  have := h m hm
  simp only [Bool.and_eq_true, decide_eq_true_eq]
  exact this.1
theorem refM_ok {n : Int} {L : List Mk} {x : Mk} (h : refM n L x = 0) : (0 ≤ x.p ∧ x.p ≤ n) ∧ (x.g = 1 ∨ x.g = 2) ∧ ((getM x.n L).isSome = true ∨ L.length < 1024) := by
  unfold refM at h
  split at h
  · cases h
  · split at h
    · cases h
    · split at h
      · cases h
      · rename_i h2 h3
        refine ⟨by omega, by omega, ?_⟩
        cases hg : (getM x.n L).isSome with
        | true => exact .inl rfl
        | false => exact .inr (Nat.lt_of_not_le fun hc => h3 ⟨hg, hc⟩)
theorem InP.put {n : Int} {D : List Mk} (h : InP n D) {x : Mk} (hx : (0 ≤ x.p ∧ x.p ≤ n) ∧ (x.g = 1 ∨ x.g = 2)) : InP n (insM x (delM x.n D)) := fun m hm => by
  rcases List.mem_cons.1 ((ins_perm _ _).mem_iff.1 hm) with rfl | hm
  · exact hx
  · exact h m ((del_sub _ _).mem hm)
theorem InP.del {n : Int} {D : List Mk} (h : InP n D) (s : ByteArray) : InP n (delM s D) := fun m hm => h m ((del_sub _ _).mem hm)
theorem InP.mov {D : List Mk} {d : List Dop} (h : InP (frD d) D) (hv : valB d = true) : InP (toD d) (movM (mvM d) D) := fun m hm => by
  have hp : (movM (mvM d) D).Perm (D.map (mvM d)) := by simpa [movM] using mov_perm (mvM d) D []
  obtain ⟨x, hx, rfl⟩ := List.mem_map.1 (hp.mem_iff.1 hm)
  obtain ⟨h1, h2⟩ := h x hx
  exact ⟨pl_bounds hv h1 h2, h2⟩
theorem put_len (x : Mk) {D : List Mk} (h : (getM x.n D).isSome = true ∨ D.length < 1024) (hD : D.length ≤ 1024) : (insM x (delM x.n D)).length ≤ 1024 := by
  rw [insM_len]
  cases hg : getM x.n D with
  | none =>
    rw [del_no hg]
    rcases h with h | h
    · rw [hg] at h; cases h
    · omega
  | some y =>
    have := (del_perm hg).length_eq
    rw [List.length_cons] at this
    omega
theorem mov_len (f : Mk → Mk) (D : List Mk) : (movM f D).length = D.length := by
  have hp : (movM f D).Perm (D.map f) := by simpa [movM] using mov_perm f D []
  rw [hp.length_eq, List.length_map]
theorem toD_q {d : List Dop} (hv : valB d = true) : 0 ≤ (toD d : Int) ∧ (toD d : Int) ≤ 268435456 := by
  have := (valB_nn hv).2
  omega
/-- both states: the program's marks and the document's -/
structure StM (X : World) (g : Nat) (n : Int) (L : List Mk) (a : Option Addr) (D : List Mk) : Prop where
  m : IsMs X g n L
  k : IsK X a D
  r : Rel L D
  p : InP n D
  l : D.length ≤ 1024
  q : 0 ≤ n ∧ n ≤ 268435456
  t : D = [] ∨ ∃ b off cur mk, a = some ⟨b, off, none⟩ ∧ X.heap[b]? = some (.cells cur 42 mk)
theorem own_typ {W : World} {N : Nat} {a : Option Addr} {c : Nat} {D : List Mk} (h : W.ownsRow N 42 3 (.slice a D.length c) D.length (mksV D)) : D = [] ∨ ∃ b off cur mk, a = some ⟨b, off, none⟩ ∧ W.heap[b]? = some (.cells cur 42 mk) := by
  rcases h.2 with ⟨e, h0⟩ | ⟨b, c', cur, e, _, hb, _⟩
  · exact .inl (List.length_eq_zero_iff.1 h0)
  · cases e
    exact .inr ⟨b, 0, cur, _, rfl, hb⟩
theorem StM.below {X Y : World} {g : Nat} {n : Int} {L : List Mk} {a : Option Addr} {D : List Mk} (h : StM X g n L a D) (hb : Below X.heap.size X Y) : StM Y g n L a D :=
  ⟨h.m.below hb (Nat.le_refl _), h.k.below hb (Nat.le_refl _), h.r, h.p, h.l, h.q, by
    rcases h.t with h1 | ⟨b, off, cur, mk, e, hc⟩
    · exact .inl h1
    · exact .inr ⟨b, off, cur, mk, e, (hb.block b (Array.getElem?_eq_some_iff.1 hc).1).trans hc⟩⟩
theorem refM_perm {n : Int} {L D : List Mk} (h : Rel L D) (x : Mk) : refM n L x = refM n D x := by
  unfold refM; rw [h.get, h.len]
/-- what a store into another kind of block leaves -/
theorem IsMs.put2 {W : World} {g : Nat} {n : Int} {L : List Mk} (h : IsMs W g n L) {B : Nat} {a b : Value} (hb : Cls W B 29 #[a, b]) (u v : Value) : IsMs ((W.setCell ⟨B, 0, none⟩ u).setCell ⟨B, 1, none⟩ v) g n L := by
  obtain ⟨r, h1, h2⟩ := h.c
  have hg : g ≠ B := fun e => by
    unfold Cls at h1 hb
    rw [e, hb] at h1; cases h1
  have hr : r ≠ B := fun e => by
    obtain ⟨es, clock, h3, _⟩ := h2
    unfold Cls at hb
    rw [e, hb] at h3; cases h3
  exact ⟨r, (h1.other ⟨B, 0, none⟩ _ hg).other ⟨B, 1, none⟩ _ hg, (h2.same (Below.heap_setCell _ ⟨B, 0, none⟩ _ r hr)).same (Below.heap_setCell _ ⟨B, 1, none⟩ _ r hr)⟩
theorem row_put2 {W : World} {N : Nat} {vv : Value} {D : List Mk} (h : W.ownsRow N 42 3 vv D.length (mksV D)) {B : Nat} {a b : Value} (hb : Cls W B 29 #[a, b]) (u v : Value) : ((W.setCell ⟨B, 0, none⟩ u).setCell ⟨B, 1, none⟩ v).ownsRow N 42 3 vv D.length (mksV D) := rowD_on h fun G hG => by
  have hne : G ≠ B := fun e => by
    obtain ⟨_, cur, hc⟩ := rowD_block h hG
    unfold Cls at hb
    rw [e, hb] at hc
    cases hc
  rw [Below.heap_setCell _ ⟨B, 1, none⟩ _ G hne, Below.heap_setCell _ ⟨B, 0, none⟩ _ G hne]
/-- a store into a block of the document's marks leaves both states -/
theorem StM.put2 {X : World} {g : Nat} {n : Int} {L : List Mk} {a : Option Addr} {D : List Mk} (h : StM X g n L a D) {B : Nat} {p q : Value} (hb : Cls X B 29 #[p, q]) (u v : Value) : StM ((X.setCell ⟨B, 0, none⟩ u).setCell ⟨B, 1, none⟩ v) g n L a D := by
  have hne : ∀ b cur mk, X.heap[b]? = some (.cells cur 42 mk) → b ≠ B := fun b cur mk hc e => by
    unfold Cls at hb
    rw [e, hb] at hc; cases hc
  have hblk : ∀ b, b ≠ B → ((X.setCell ⟨B, 0, none⟩ u).setCell ⟨B, 1, none⟩ v).heap[b]? = X.heap[b]? := fun b hb' => by
    rw [Below.heap_setCell _ ⟨B, 1, none⟩ _ b hb', Below.heap_setCell _ ⟨B, 0, none⟩ _ b hb']
  refine ⟨h.m.put2 hb u v, ?_, h.r, h.p, h.l, h.q, ?_⟩
  · rcases h.t with h1 | ⟨b, off, cur, mk, e, hc⟩
    · exact .inl h1
    · rcases h.k with h1 | ⟨b', off', e', hlt, hk⟩
      · exact .inl h1
      · rw [e] at e'
        cases e'
        refine .inr ⟨b, off, e, by rw [setCell_size, setCell_size]; exact hlt, fun k hk' => ?_⟩
        have hx := hblk b (hne b cur mk hc)
        have f : ∀ o : Nat, ((X.setCell ⟨B, 0, none⟩ u).setCell ⟨B, 1, none⟩ v).cell? ⟨b, o, none⟩ = X.cell? ⟨b, o, none⟩ := fun o => World.cell?_of_block (a := ⟨b, o, none⟩) hx
        obtain ⟨c0, c1, c2⟩ := hk k hk'
        exact ⟨(f _).trans c0, (f _).trans c1, (f _).trans c2⟩
  · rcases h.t with h1 | ⟨b, off, cur, mk, e, hc⟩
    · exact .inl h1
    · exact .inr ⟨b, off, cur, mk, e, (hblk b (hne b cur mk hc)).trans hc⟩
theorem Cls.apart2 {W : World} {B C : Nat} {t' : TypeId} {cs : Array Value} (h : Cls W C t' cs) (hne : C ≠ B) (u v : Value) : Cls ((W.setCell ⟨B, 0, none⟩ u).setCell ⟨B, 1, none⟩ v) C t' cs := (h.other ⟨B, 0, none⟩ u hne).other ⟨B, 1, none⟩ v hne
/-- the value of an act -/
def acV (k : Int) (x : Mk) (a : Option Addr) (l c : Nat) : Value := .agg #[.int .i64 k, .string x.n, .int .i64 x.p, .int .i64 x.g, .slice a l c]
end Go.Proofs.Ytfllomlighlejaa
