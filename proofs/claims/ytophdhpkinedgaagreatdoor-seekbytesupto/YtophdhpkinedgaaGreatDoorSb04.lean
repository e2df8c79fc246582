/- The edges of bytes as a plain list: by bytes, by runes and by units; places between them. · Places between edges, as plain functions: the edge that a place is or goes to. · Contracts of step.All and of the iterator that it answers: the steps with their places, from the first on, for every loop body that keeps what lay below. · A loop over an iterator that keeps cells of its own (a captured variable): the loop's invariant speaks of what lay ahead of the loop alone, and the iterator may do whatever it likes behind that. -/
import Derived.Test.YtophdhpkinedgaaGreatDoorSb02
import Derived.Test.YtophdhpkinedgaaGreatDoorSb03
import Derived.RangeFuncNested
import Derived.RangeFuncBound
import Derived.RangeFuncCalls
import Derived.RangeFuncLeaves
import Derived.Shelf.Abstract
import Derived.Shelf.RegionOpen
import Derived.WalkKit
import Derived.OwnWalkIn
import Derived.TacticsInMore
import Derived.LoopNIn
import Derived.LoopIn

section
namespace Go.Proofs.YtophdhpkinedgaaGreatDoor

/-- an edge, by the three rulers -/
abbrev Ed : Type := Nat × Nat × Nat
def e0 : Ed := (0, 0, 0)
def nxE (l : List Int) (e : Ed) (p : Nat) : Ed := (e.1 + wid (l.drop p), e.2.1 + 1, e.2.2 + (ulen (first (l.drop p)).1).toNat)
def stE (l : List Int) (ps : List Nat) : Ed := ps.foldl (nxE l) e0
def edL (l : List Int) (ps : List Nat) : List Ed := (List.range (ps.length + 1)).map fun i => stE l (ps.take i)
def EE (l : List Int) : List Ed := edL l (spots l 0)
def byE (r : Int) (e : Ed) : Nat := if r = 1 then e.1 else if r = 2 then e.2.1 else e.2.2

theorem stE_snoc (l : List Int) (ps : List Nat) (p : Nat) : stE l (ps ++ [p]) = nxE l (stE l ps) p := by simp [stE]
theorem edL_nil (l : List Int) : edL l [] = [e0] := rfl
theorem edL_snoc (l : List Int) (ps : List Nat) (p : Nat) : edL l (ps ++ [p]) = edL l ps ++ [stE l (ps ++ [p])] := by
  unfold edL
  rw [List.length_append, List.length_singleton, List.range_succ, List.map_append, List.map_singleton]
  congr 1
  · refine List.map_congr_left fun i hi => ?_
    have := List.mem_range.1 hi
    rw [List.take_append_of_le_length (by omega)]
  · rw [List.take_of_length_le (by simp)]
theorem edL_pre {l : List Int} {ps qs : List Nat} (h : ps <+: qs) : edL l ps <+: edL l qs := by
  obtain ⟨t, rfl⟩ := h
  induction t generalizing ps with
  | nil => rw [List.append_nil]; exact List.prefix_refl _
  | cons x t ih =>
    have h1 : edL l ps <+: edL l (ps ++ [x]) := by rw [edL_snoc]; exact List.prefix_append _ _
    have h2 := ih (ps := ps ++ [x])
    rw [List.append_assoc] at h2
    exact h1.trans h2
theorem edL_len (l : List Int) (ps : List Nat) : (edL l ps).length = ps.length + 1 := by simp [edL]
theorem edL_get (l : List Int) (ps : List Nat) (i : Nat) (h : i ≤ ps.length) : (edL l ps)[i]? = some (stE l (ps.take i)) := by
  unfold edL
  rw [List.getElem?_map, List.getElem?_range (by omega)]
  rfl
theorem EE_len (l : List Int) : (EE l).length = (spots l 0).length + 1 := edL_len _ _
theorem edL_last (l : List Int) (ps : List Nat) : (edL l ps).getLast? = some (stE l ps) := by
  rw [List.getLast?_eq_getElem?, edL_len, Nat.add_sub_cancel, edL_get _ _ _ (Nat.le_refl _), List.take_length]

theorem value_rn {l : List Int} (h : whole l = true) (hl : ∀ x ∈ l, 0 ≤ x ∧ x ≤ 255) : isRune (value l) = true := by
  cases hr : isRune (value l) with
  | true => rfl
  | false =>
    have h1 := value_enc (value l)
    rw [enc_value h hl, hr] at h1
    rw [h1] at hr
    exact absurd hr (by simp; decide)
theorem first_rn {l : List Int} (hl : ∀ x ∈ l, 0 ≤ x ∧ x ≤ 255) (h0 : 0 < l.length) : isRune (first l).1 = true := by
  match l with
  | [] => cases h0
  | a :: r =>
    simp only [first]
    split
    · rename_i hw
      exact value_rn hw (fun x hx => hl x (List.mem_of_mem_take hx))
    · decide
theorem rn_step {l : List Int} (hl : ∀ x ∈ l, 0 ≤ x ∧ x ≤ 255) {p : Nat} (hp : p < l.length) : isRune (first (l.drop p)).1 = true :=
  first_rn (fun x hx => hl x (List.mem_of_mem_drop hx)) (by simp; omega)
theorem ulen_pos {r : Int} (h : isRune r = true) : 1 ≤ (ulen r).toNat ∧ (ulen r).toNat ≤ 2 := by
  unfold ulen
  rw [if_pos h]
  split <;> decide

/-- where a beginning of the steps leads to -/
theorem st_walk {l : List Int} (hl : ∀ x ∈ l, 0 ≤ x ∧ x ≤ 255) : ∀ (pre : List Nat) (p : Nat) (e : Ed), p ≤ l.length → pre <+: spots l p →
    ∃ q, p ≤ q ∧ q ≤ l.length ∧ spots l p = pre ++ spots l q ∧ (pre.foldl (nxE l) e).1 + p = e.1 + q ∧ (pre.foldl (nxE l) e).2.1 = e.2.1 + pre.length ∧
      e.2.2 + pre.length ≤ (pre.foldl (nxE l) e).2.2 ∧ (pre.foldl (nxE l) e).2.2 ≤ e.2.2 + 2 * pre.length ∧ p + pre.length ≤ q
  | [], p, e, hp, _ => ⟨p, Nat.le_refl _, hp, rfl, rfl, rfl, by simp, by simp, by simp⟩
  | x :: t, p, e, hp, h => by
    by_cases hlt : p < l.length
    · rw [spots_cons hlt] at h ⊢
      obtain ⟨rfl, ht⟩ := List.cons_prefix_cons.1 h
      have h1 := wid_pos hlt
      obtain ⟨q, a1, a2, a3, a4, a5, a6, a7, a8⟩ := st_walk hl t (x + wid (l.drop x)) (nxE l e x) (wid_len hlt) ht
      obtain ⟨u1, u2⟩ := ulen_pos (rn_step hl hlt)
      refine ⟨q, by omega, a2, by rw [a3]; rfl, ?_, ?_, ?_, ?_, ?_⟩
      · rw [List.foldl_cons]; simp only [nxE] at a4 ⊢; omega
      · rw [List.foldl_cons, a5]; simp only [nxE, List.length_cons]; omega
      · rw [List.foldl_cons]; simp only [nxE, List.length_cons] at a6 ⊢; omega
      · rw [List.foldl_cons]; simp only [nxE, List.length_cons] at a7 ⊢; omega
      · simp only [List.length_cons]; omega
    · rw [spots_end hlt] at h
      exact absurd (List.prefix_nil.1 h) (by simp)
theorem st_at {l : List Int} (hl : ∀ x ∈ l, 0 ≤ x ∧ x ≤ 255) {pre : List Nat} (h : pre <+: spots l 0) :
    (stE l pre).1 ≤ l.length ∧ spots l 0 = pre ++ spots l (stE l pre).1 ∧ (stE l pre).2.1 = pre.length ∧ (stE l pre).2.2 ≤ 2 * pre.length ∧ pre.length ≤ l.length := by
  obtain ⟨q, _, a2, a3, a4, a5, _, a7, a8⟩ := st_walk hl pre 0 e0 (Nat.zero_le _) h
  have : (stE l pre).1 = q := by simpa [stE, e0] using a4
  rw [this]
  exact ⟨a2, a3, by simpa [stE, e0] using a5, by simpa [stE, e0] using a7, by omega⟩
theorem st_next {l : List Int} (hl : ∀ x ∈ l, 0 ≤ x ∧ x ≤ 255) {pre : List Nat} {x : Nat} (h : pre ++ [x] <+: spots l 0) : x = (stE l pre).1 ∧ x < l.length := by
  have h1 : pre <+: spots l 0 := (List.prefix_append pre [x]).trans h
  obtain ⟨a1, a2, _⟩ := st_at hl h1
  by_cases hq : (stE l pre).1 < l.length
  · rw [a2, spots_cons hq] at h
    have := (List.prefix_append_right_inj pre).1 h
    obtain ⟨rfl, _⟩ := List.cons_prefix_cons.1 this
    exact ⟨rfl, hq⟩
  · rw [a2, spots_end hq, List.append_nil] at h
    have := h.length_le
    simp only [List.length_append, List.length_singleton] at this
    omega
theorem st_full {l : List Int} (hl : ∀ x ∈ l, 0 ≤ x ∧ x ≤ 255) : (stE l (spots l 0)).1 = l.length := by
  obtain ⟨a1, a2, _⟩ := st_at hl (List.prefix_refl (spots l 0))
  rcases Nat.lt_or_ge (stE l (spots l 0)).1 l.length with h | h
  · rw [spots_cons h] at a2
    have := congrArg List.length a2
    simp at this
  · omega
theorem by_next {l : List Int} (hl : ∀ x ∈ l, 0 ≤ x ∧ x ≤ 255) (r : Int) (e : Ed) {x : Nat} (h : x < l.length) : byE r e < byE r (nxE l e x) := by
  have := wid_pos h
  obtain ⟨u1, _⟩ := ulen_pos (rn_step hl h)
  unfold byE nxE
  split
  · simp; omega
  · split <;> simp <;> omega
theorem by_e0 (r : Int) : byE r e0 = 0 := by
  unfold byE e0
  split
  · rfl
  · split <;> rfl

end Go.Proofs.YtophdhpkinedgaaGreatDoor
end

section
namespace Go.Proofs.YtophdhpkinedgaaGreatDoor

def ixE (r place : Int) (E : List Ed) : Nat := E.findIdx (fun e => decide (place ≤ (byE r e : Int)))
def upE (r place : Int) (E : List Ed) : Ed := E.getD (ixE r place E) e0
def dnI (r place : Int) (E : List Ed) : Nat := if (byE r (upE r place E) : Int) = place then ixE r place E else ixE r place E - 1
def dnE (r place : Int) (E : List Ed) : Ed := E.getD (dnI r place E) e0
/-- is it a place of the ruler? -/
def isPl (r place : Int) (E : List Ed) : Bool := decide (0 ≤ place ∧ ixE r place E < E.length)
def selI (r place m : Int) (E : List Ed) : Nat := if m = 2 then ixE r place E else dnI r place E
/-- find's answer: the error -/
def fdR (r place m : Int) (E : List Ed) : Int := if isPl r place E then (if (byE r (upE r place E) : Int) = place ∨ m = 1 ∨ m = 2 then 0 else 4) else 2
def fdE (r place m : Int) (E : List Ed) : Ed := if fdR r place m E = 0 then E.getD (selI r place m E) e0 else e0

/-- edges rise -/
def Inc (r : Int) (E : List Ed) : Prop := E.getD 0 e0 = e0 ∧ 0 < E.length ∧ ∀ i j, i < j → j < E.length → byE r (E.getD i e0) < byE r (E.getD j e0)
theorem edL_getD (l : List Int) (ps : List Nat) (i : Nat) (h : i ≤ ps.length) : (edL l ps).getD i e0 = stE l (ps.take i) := by
  rw [List.getD, edL_get l ps i h]; rfl
theorem inc_EE {l : List Int} (hl : ∀ x ∈ l, 0 ≤ x ∧ x ≤ 255) (r : Int) : Inc r (EE l) := by
  refine ⟨by unfold EE; rw [edL_getD _ _ _ (Nat.zero_le _)]; rfl, by rw [EE_len]; omega, ?_⟩
  have one : ∀ i, i + 1 < (EE l).length → byE r ((EE l).getD i e0) < byE r ((EE l).getD (i + 1) e0) := by
    intro i hi
    rw [EE_len] at hi
    unfold EE
    rw [edL_getD _ _ _ (by omega), edL_getD _ _ _ (by omega)]
    have ht : (spots l 0).take (i + 1) = (spots l 0).take i ++ [(spots l 0).getD i 0] := by
      rw [List.take_add_one, List.getElem?_eq_getElem (by omega), List.getD, List.getElem?_eq_getElem (by omega)]; rfl
    have hp : (spots l 0).take i ++ [(spots l 0).getD i 0] <+: spots l 0 := by rw [← ht]; exact List.take_prefix _ _
    rw [ht, stE_snoc]
    exact by_next hl r _ (st_next hl hp).2
  intro i j hij
  induction j with
  | zero => omega
  | succ j ih =>
    intro hj
    rcases Nat.lt_or_ge i j with h | h
    · exact Nat.lt_trans (ih h (by omega)) (one j hj)
    · obtain rfl : i = j := by omega
      exact one i hj
theorem Inc.le {r : Int} {E : List Ed} (h : Inc r E) {i j : Nat} (hij : i ≤ j) (hj : j < E.length) : byE r (E.getD i e0) ≤ byE r (E.getD j e0) := by
  rcases Nat.lt_or_ge i j with h1 | h1
  · exact Nat.le_of_lt (h.2.2 i j h1 hj)
  · obtain rfl : i = j := by omega
    exact Nat.le_refl _
theorem Inc.inj {r : Int} {E : List Ed} (h : Inc r E) {i j : Nat} (hi : i < E.length) (hj : j < E.length) (he : byE r (E.getD i e0) = byE r (E.getD j e0)) : i = j := by
  rcases Nat.lt_trichotomy i j with h1 | h1 | h1
  · have := h.2.2 i j h1 hj; omega
  · exact h1
  · have := h.2.2 j i h1 hi; omega
theorem ix_lt {r place : Int} {E : List Ed} {j : Nat} (h : j < ixE r place E) : (byE r (E.getD j e0) : Int) < place := by
  have hl : j < E.length := Nat.lt_of_lt_of_le h List.findIdx_le_length
  have := List.not_of_lt_findIdx h
  rw [List.getD, List.getElem?_eq_getElem hl]
  simpa using this
theorem ix_ge {r place : Int} {E : List Ed} (h : ixE r place E < E.length) : place ≤ (byE r (upE r place E) : Int) := by
  have h2 := of_decide_eq_true (List.findIdx_getElem (xs := E) (p := fun e => decide (place ≤ (byE r e : Int))) (w := h))
  unfold upE
  rw [List.getD, List.getElem?_eq_getElem h]
  exact h2
/-- what the index is -/
theorem ix_is {r place : Int} {E : List Ed} {k : Nat} (hk : k ≤ E.length) (h1 : ∀ j, j < k → (byE r (E.getD j e0) : Int) < place) (h2 : k < E.length → place ≤ (byE r (E.getD k e0) : Int)) : ixE r place E = k := by
  rcases Nat.lt_trichotomy (ixE r place E) k with h | h | h
  · have a := ix_ge (r := r) (place := place) (E := E) (by omega)
    have b := h1 _ h
    unfold upE at a
    omega
  · exact h
  · have hl : k < E.length := Nat.lt_of_lt_of_le h List.findIdx_le_length
    have a := ix_lt h
    have b := h2 hl
    omega
theorem dn_lt {r place : Int} {E : List Ed} (hE : Inc r E) (hp : isPl r place E = true) : dnI r place E < E.length ∧ (byE r (dnE r place E) : Int) ≤ place ∧ (dnI r place E = ixE r place E ∨ dnI r place E + 1 = ixE r place E ∧ (byE r (dnE r place E) : Int) < place) := by
  obtain ⟨h0, hx⟩ := of_decide_eq_true hp
  have hge := ix_ge hx
  unfold dnE
  by_cases he : (byE r (upE r place E) : Int) = place
  · have : dnI r place E = ixE r place E := if_pos he
    rw [this]
    exact ⟨hx, by unfold upE at he; omega, Or.inl rfl⟩
  · have h1 : dnI r place E = ixE r place E - 1 := if_neg he
    have h2 : 0 < ixE r place E := by
      rcases Nat.eq_zero_or_pos (ixE r place E) with h | h
      · exfalso
        apply he
        unfold upE at hge ⊢
        rw [h, hE.1, by_e0] at hge ⊢
        omega
      · exact h
    have := ix_lt (r := r) (place := place) (E := E) (j := ixE r place E - 1) (by omega)
    rw [h1]
    exact ⟨by omega, by omega, Or.inr ⟨by omega, this⟩⟩
/-- down and up are one edge just where the place is an edge -/
theorem dn_up {r place : Int} {E : List Ed} (hE : Inc r E) (hp : isPl r place E = true) : dnE r place E = upE r place E ↔ (byE r (upE r place E) : Int) = place := by
  obtain ⟨h0, hx⟩ := of_decide_eq_true hp
  constructor
  · intro h
    have hd := dn_lt hE hp
    have hge := ix_ge hx
    rw [h] at hd
    omega
  · intro h
    unfold dnE upE dnI
    rw [if_pos h]
theorem isPl_iff {r place : Int} {E : List Ed} (hE : Inc r E) : isPl r place E = true ↔ 0 ≤ place ∧ place ≤ (byE r (E.getD (E.length - 1) e0) : Int) := by
  unfold isPl
  rw [decide_eq_true_iff]
  constructor
  · rintro ⟨h0, hx⟩
    have hge := ix_ge hx
    have := hE.le (i := ixE r place E) (j := E.length - 1) (by omega) (by omega)
    unfold upE at hge
    exact ⟨h0, by omega⟩
  · rintro ⟨h0, h1⟩
    refine ⟨h0, ?_⟩
    rcases Nat.lt_or_ge (ixE r place E) E.length with h | h
    · exact h
    · have hE2 := hE.2.1
      have := ix_lt (r := r) (place := place) (E := E) (j := E.length - 1) (by omega)
      omega
theorem selI_lt {r place m : Int} {E : List Ed} (hE : Inc r E) (hp : isPl r place E = true) : selI r place m E < E.length := by
  unfold selI
  split
  · exact (of_decide_eq_true hp).2
  · exact (dn_lt hE hp).1
theorem fdR_ok {r place m : Int} {E : List Ed} (h : fdR r place m E = 0) : isPl r place E = true ∧ ((byE r (upE r place E) : Int) = place ∨ m = 1 ∨ m = 2) := by
  unfold fdR at h
  split at h
  · rename_i hp
    split at h
    · rename_i hc; exact ⟨hp, hc⟩
    · omega
  · omega

end Go.Proofs.YtophdhpkinedgaaGreatDoor
end

section
namespace Go.Proofs.YtophdhpkinedgaaGreatDoor
open Go.ChangeShapes Go.WideShapes Go.ChangeAt Go.RowKit
attribute [local go_sem] Oper.semAt_some
/-- what is yielded at a place -/
def encS (l : List Int) (p : Nat) : Array Value := #[.int .i64 p, .agg #[.int .i32 (first (l.drop p)).1, .int .i64 (wid (l.drop p)), .bool (whl (l.drop p))]]

theorem All_at (a0 : Option Addr) (cap : Nat) (l : List Int) (w : World) (hB : IsB w a0 cap l) :
    Calls Tryz.prog 87 #[.slice a0 l.length cap] w fun e w' => e = .returned (.func (.func 118) #[] #[.pointer (some ⟨w.heap.size, 0, none⟩)]) ∧ w' = w.alloc (.cells #[.string (strOfNums l)] 9) := by
  have kb := str_bs w a0 cap l hB.2.2.1
  go_enter Tryz.func87, Tryz.ntmps87
  go_wp2
  go_ret
  exact ⟨rfl, rfl⟩

end Go.Proofs.YtophdhpkinedgaaGreatDoor
end

section
namespace Go.Proofs.YtophdhpkinedgaaGreatDoor
open Go.ChangeShapes Go.WideShapes Go.ChangeAt Go.RowKit

/-- the blocks of q stay, and whatever lies at or behind N -/
def KB (q : Nat → Prop) (N : Nat) (A B : World) : Prop := A.heap.size ≤ B.heap.size ∧ ∀ k, (q k ∨ N ≤ k) → k < A.heap.size → B.heap[k]? = A.heap[k]?
theorem KB.refl (q : Nat → Prop) (N : Nat) (A : World) : KB q N A A := ⟨Nat.le_refl _, fun _ _ _ => rfl⟩
theorem KB.trans {q : Nat → Prop} {N : Nat} {A B C : World} (h : KB q N A B) (k : KB q N B C) : KB q N A C :=
  ⟨Nat.le_trans h.1 k.1, fun i hi hl => (k.2 i hi (Nat.lt_of_lt_of_le hl h.1)).trans (h.2 i hi hl)⟩
theorem KB.weak {q q' : Nat → Prop} {N N' : Nat} {A B : World} (h : KB q N A B) (hq : ∀ k, q' k ∨ N' ≤ k → q k ∨ N ≤ k) : KB q' N' A B := ⟨h.1, fun k hk hl => h.2 k (hq k hk) hl⟩
theorem KB.all {q : Nat → Prop} {N : Nat} {A B : World} (h : Below A.heap.size A B) : KB q N A B := ⟨h.size, fun k _ hl => h.block k hl⟩
theorem KB.alloc (q : Nat → Prop) (N : Nat) (A : World) (o : Obj) : KB q N A (A.alloc o) := KB.all ((Below.refl _ A).alloc (Nat.le_refl _) o)
theorem KB.setCell {q : Nat → Prop} {N : Nat} (A : World) (p : Addr) (v : Value) (h : ¬ q p.block) (h' : p.block < N) : KB q N A (A.setCell p v) :=
  ⟨by show A.heap.size ≤ (A.heap.modify _ _).size; rw [Array.size_modify]; exact Nat.le_refl _, fun k hk _ => Below.heap_setCell A p v k (fun e => by subst e; rcases hk with hk | hk <;> first | exact h hk | omega)⟩
/-- what lay ahead of N alone matters -/
def Abd {α : Type} (N : Nat) (J : List α → World → Prop) : Prop := ∀ s A B, J s A → Below N A B → J s B
/-- the iterator's contract: it yields the list E in its order -/
def SeqB {α : Type} (P : Program) (g : Nat) (lb : Array Value) (encs : α → Array Value) (q : Nat → Prop) (E : List α) (w : World) : Prop :=
  ∀ (l : Nat) (J Jx : List α → World → Prop) (W : World), Below w.heap.size w W → Abd W.heap.size J → Abd W.heap.size Jx →
    (∀ pre x W1 m, pre ++ [x] <+: E → J pre W1 → W.heap.size ≤ W1.heap.size → YieldAt Fence.wide m P l (encs x) W1 fun e W' =>
      KB q W.heap.size W1 W' ∧ ((e = .returned (.bool true) ∧ J (pre ++ [x]) W') ∨ (e = .returned (.bool false) ∧ Jx (pre ++ [x]) W'))) →
    J [] W → ∀ m, CallsIn Fence.wide m P g (#[.func (.yield l) #[] #[]] ++ lb) W fun e W' => (∃ v, e = .returned v) ∧ (J E W' ∨ ∃ pre, pre <+: E ∧ Jx pre W')
theorem SeqB.later {α : Type} {P : Program} {g : Nat} {lb : Array Value} {encs : α → Array Value} {q : Nat → Prop} {E : List α} {w w' : World} (h : SeqB P g lb encs q E w) (hb : Below w.heap.size w w') : SeqB P g lb encs q E w' :=
  fun l J Jx W hW => h l J Jx W (hb.trans (hW.mono hb.size))

def postB {α : Type} (q : Nat → Prop) (N : Nat) (I : List α → World → Prop) (Ix : Code → List α → World → Prop) (xs : List α) (W : World) : Exit → Act → World → Prop
  | .normal, _, W' => KB q N W W' ∧ I xs W'
  | .ret, _, W' => KB q N W W' ∧ Ix .ret xs W'
  | .exit id, _, W' => KB q N W W' ∧ Ix (.exit id) xs W'
  | .goto t, _, W' => KB q N W W' ∧ Ix (.goto t) xs W'
  | .panic _, _, _ => False
  | .outgrown, _, _ => False

theorem round_any {m m' : Nat} {P : Program} {l : Nat} {f : FuncId} {tmps : Array Value} {assign body : Code} {w : World} {R : Ending → World → Prop} (h : RoundIn Fence.wide m P l f tmps assign body w R) : RoundIn Fence.wide m' P l f tmps assign body w R :=
  ⟨h.1, fun c cs _ => h.2 c cs (room_wide _)⟩
theorem below_putl {N : Nat} (W : World) (l : Nat) (o : Obj) (h : N ≤ l) : Below N W (W.putObj l o) :=
  ⟨rfl, rfl, rfl, by simp, fun k hk => World.putObj_heap_other (by omega)⟩
set_option maxHeartbeats 1000000 in
theorem range_below {P : Program} {n : Nat} {α : Type} {g : Operand} {ps : Array Tmp} {assign body : Code} {Q : Exit → Act → World → Prop} {a : Act} {w : World}
    {gf : Nat} {lb : Array Value} (hg : a.eval g = .func (.func gf) #[] lb) (eg : ∀ args w, (callFunc gf args).run P w = .ok (.enter gf args) w)
    {encs : α → Array Value} {q : Nat → Prop} {E : List α} {w0 : World} (hseq : SeqB P gf lb encs q E w0) (hb0 : Below w0.heap.size w0 w) (hq : ∀ k, q k → k < w.heap.size) (hps : ∀ x, (encs x).size = ps.size)
    (I : List α → World → Prop) (Ix : Code → List α → World → Prop) (hI : Abd w.heap.size I) (hIx : ∀ c, Abd w.heap.size (Ix c)) (h0 : I [] w) (hn : 1 ≤ n)
    (Ax : α → Act → World → Prop) (hAx : ∀ x a' X l o o', X.heap[l]? = some (.loop o) → Ax x a' X → Ax x a' (X.putObj l (.loop o')))
    (hassign : ∀ (l : Nat) (pre : List α) (x : α) (W : World) (K : Act → World → Prop), pre ++ [x] <+: E → I pre W → w.heap.size ≤ W.heap.size → (∀ a' W', Below W.heap.size W W' → Ax x a' W' → K a' W') →
      assign.wpIn (Fence.wide.inRound l) (n - 1 - 1) P (Exit.then K (fun _ _ _ => False)) { tmps := (ps.zip (encs x)).foldl (fun t (p, v) => t.setIfInBounds p v) a.tmps, defers := [] } W)
    (hbody : ∀ (l : Nat) (pre : List α) (x : α) (a' : Act) (W : World), w.heap.size ≤ l → (∃ r, W.heap[l]? = some (.loop r)) → pre ++ [x] <+: E → I pre W → Ax x a' W → w.heap.size ≤ W.heap.size → body.wpIn (Fence.wide.inRound l) (n - 1 - 1) P (postB q w.heap.size I Ix (pre ++ [x]) W) a' W)
    (hdone : ∀ (D : Nat) (W : World), w.heap.size ≤ D → I E W → W.heap[D]? = some (.deferred (some [])) → Q .normal { a with defers := { target := .collected D, args := #[] } :: a.defers } W)
    (hstop : ∀ (D : Nat) (c : Code) (pre : List α) (W : World), w.heap.size ≤ D → pre <+: E → Ix c pre W → W.heap[D]? = some (.deferred (some [])) → c.wpIn Fence.wide n P Q { a with defers := { target := .collected D, args := #[] } :: a.defers } W) :
    (Code.rangeFunc g ps assign body).wpIn Fence.wide n P Q a w := by
  refine wpIn_rangeFunc fun fn hfn => ?_
  have hro : Fence.wide.round = none := rfl
  rw [hro]
  let rec' : LoopState → Option Code → Loop := fun st pe => { state := st, pending := pe, fn, tmps := a.tmps, params := ps, assign, body, defers := w.heap.size }
  let V := (w.alloc (.deferred (some []))).alloc (.loop (rec' .ready none))
  have hs1 : V.heap.size = w.heap.size + 1 + 1 := by simp [V]
  have v1 : V.heap[w.heap.size + 1]? = some (.loop (rec' .ready none)) := by
    have := World.alloc_heap_new (w.alloc (.deferred (some []))) (.loop (rec' .ready none)); rwa [World.size_alloc] at this
  have v2 : V.heap[w.heap.size]? = some (.deferred (some [])) := (Below.heap_alloc _ _ _ (by simp)).trans (World.alloc_heap_new w _)
  have vb : Below w.heap.size w V := ((Below.refl _ w).alloc (Nat.le_refl _) _).alloc (by simp) _
  refine ⟨w.heap.size + 1, [{ target := .collected w.heap.size, args := #[] }], V, { target := .fn (.func gf) lb, args := #[.func (.yield (w.heap.size + 1)) #[] #[]] }, V, gf,
    #[.func (.yield (w.heap.size + 1)) #[] #[]] ++ lb, V, run_enterLoop_outer _ _ _ _ _, ?_, ?_, ?_, fun _ => hn, ?_⟩
  · simp only [resolve, hg]
    simp [go_sem]
  · intro f' _; trivial
  · simp [invoke, go_sem, eg]
  have mine : ∀ {A B : World}, Below V.heap.size A B → Below w.heap.size A B := fun h => h.mono (by omega)
  refine (hseq (w.heap.size + 1)
    (fun pre W => I pre W ∧ W.heap[w.heap.size + 1]? = some (.loop (rec' .ready none)) ∧ W.heap[w.heap.size]? = some (.deferred (some [])))
    (fun pre W => ∃ c, Ix c pre W ∧ W.heap[w.heap.size + 1]? = some (.loop (rec' .done (some c))) ∧ W.heap[w.heap.size]? = some (.deferred (some [])))
    V (hb0.trans (vb.mono hb0.size))
    (fun s A B h hb => ⟨hI s A B h.1 (mine hb), (hb.block _ (by omega)).trans h.2.1, (hb.block _ (by omega)).trans h.2.2⟩)
    (fun s A B h hb => by obtain ⟨c, h1, h2, h3⟩ := h; exact ⟨c, hIx c s A B h1 (mine hb), (hb.block _ (by omega)).trans h2, (hb.block _ (by omega)).trans h3⟩)
    ?_ ⟨hI _ _ _ h0 vb, v1, v2⟩ (n - 1)).mono ?_
  · rintro pre x W m hpre ⟨hi, hl, hk⟩ hsz
    have hy := run_yield (P := P) (args := encs x) hl (hps x)
    refine ⟨fn, _, assign, body, hy, round_any (m := n - 1 - 1) (roundIn_of_wpIn trivial (hassign _ pre x W _ hpre hi (by omega) ?_))⟩
    intro a' U hu hax
    have hU : w.heap.size + 1 < W.heap.size := by omega
    have ul := (hu.block _ hU).trans hl
    have uk := (hu.block w.heap.size (by omega)).trans hk
    have us := hu.size
    refine ⟨_, run_beginRound ul rfl, ?_⟩
    have bl : (U.putObj (w.heap.size + 1) (.loop { rec' .ready none with state := .busy })).heap[w.heap.size + 1]? = some (.loop { rec' .ready none with state := .busy }) := World.putObj_heap_same (by omega)
    have bk : (U.putObj (w.heap.size + 1) (.loop { rec' .ready none with state := .busy })).heap[w.heap.size]? = some (.deferred (some [])) := (World.putObj_heap_other (by omega)).trans uk
    refine wpIn_mono (hbody _ pre x a' _ (by omega) ⟨_, bl⟩ hpre (hI _ _ _ (hI _ _ _ hi (hu.mono (by omega))) (below_putl U _ _ (by omega))) (hAx x a' U _ _ _ ul hax) (by simp; omega)) ?_
    have fin : ∀ (jump : Option Code) (X : World), KB q w.heap.size (U.putObj (w.heap.size + 1) (.loop { rec' .ready none with state := .busy })) X →
        (Instr.endRound (w.heap.size + 1) jump).run P X = .ok (.bool jump.isNone) (X.putObj (w.heap.size + 1) (.loop (rec' (if jump.isNone then .ready else .done) jump))) ∧
        (X.putObj (w.heap.size + 1) (.loop (rec' (if jump.isNone then .ready else .done) jump))).heap[w.heap.size + 1]? = some (.loop (rec' (if jump.isNone then .ready else .done) jump)) ∧
        (X.putObj (w.heap.size + 1) (.loop (rec' (if jump.isNone then .ready else .done) jump))).heap[w.heap.size]? = some (.deferred (some [])) ∧
        KB q V.heap.size W (X.putObj (w.heap.size + 1) (.loop (rec' (if jump.isNone then .ready else .done) jump))) := fun jump X hX => by
      have xs := hX.1
      rw [World.putObj_size] at xs
      have xl := (hX.2 (w.heap.size + 1) (.inr (by omega)) (by simp; omega)).trans bl
      have xk := (hX.2 w.heap.size (.inr (Nat.le_refl _)) (by simp; omega)).trans bk
      refine ⟨run_endRound (P := P) jump xl, World.putObj_heap_same (by omega), (World.putObj_heap_other (by omega)).trans xk, by simp; omega, fun k hk2 hkl => ?_⟩
      by_cases e : k = w.heap.size + 1
      · exact absurd hk2 (by rintro (h | h) <;> first | omega | (have := hq k h; omega))
      · rw [World.putObj_heap_other e]
        refine (hX.2 k (hk2.imp id (fun h => by omega)) (by simp; omega)).trans ?_
        rw [World.putObj_heap_other e]
        exact hu.block k hkl
    rintro e a3 X hp
    cases e with
    | normal =>
      obtain ⟨hX, hi3⟩ := hp
      obtain ⟨hr, h1, h2, h3⟩ := fin none X hX
      exact ⟨_, _, hr, h3, .inl ⟨rfl, hI _ _ _ hi3 (below_putl _ _ _ (by omega)), h1, h2⟩⟩
    | ret =>
      obtain ⟨hX, hi3⟩ := hp
      obtain ⟨hr, h1, h2, h3⟩ := fin (some .ret) X hX
      exact ⟨_, _, hr, h3, .inr ⟨rfl, .ret, hIx _ _ _ _ hi3 (below_putl _ _ _ (by omega)), h1, h2⟩⟩
    | exit id =>
      obtain ⟨hX, hi3⟩ := hp
      obtain ⟨hr, h1, h2, h3⟩ := fin (some (.exit id)) X hX
      exact ⟨_, _, hr, h3, .inr ⟨rfl, .exit id, hIx _ _ _ _ hi3 (below_putl _ _ _ (by omega)), h1, h2⟩⟩
    | goto t =>
      obtain ⟨hX, hi3⟩ := hp
      obtain ⟨hr, h1, h2, h3⟩ := fin (some (.goto t)) X hX
      exact ⟨_, _, hr, h3, .inr ⟨rfl, .goto t, hIx _ _ _ _ hi3 (below_putl _ _ _ (by omega)), h1, h2⟩⟩
    | panic ch => exact hp.elim
    | outgrown => exact hp.elim
  · rintro e X ⟨⟨v, rfl⟩, (⟨hi, hl, hk⟩ | ⟨pre, hpre, c, hi, hl, hk⟩)⟩
    · exact ⟨none, _, run_endLoop (P := P) hl (by simp [rec']), hdone _ _ (Nat.le_refl _) (hI _ _ _ hi (below_putl _ _ _ (by omega))) ((World.putObj_heap_other (by omega)).trans hk)⟩
    · exact ⟨some c, _, run_endLoop (P := P) hl (by simp [rec']), hstop _ c pre _ (Nat.le_refl _) hpre (hIx c _ _ _ hi (below_putl _ _ _ (by omega))) ((World.putObj_heap_other (by omega)).trans hk)⟩

end Go.Proofs.YtophdhpkinedgaaGreatDoor
end
