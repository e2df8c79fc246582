/- Layer 15: a map of marks by name in memory: look-up, store, a new one, a copy. -/
import Derived.Test.YtfllomlighlejaaProg
import Derived.WalkKit
import Derived.Below
import Derived.Laws.IdiomRangeMap
import Derived.Laws.IdiomMaps
import Derived.Carry
import Derived.ChangeAt

namespace Go.Proofs.Ytfllomlighlejaa
open Go.ChangeShapes Go.WideShapes Go.ChangeAt Go.RowKit

/-- a mark: its name (any bytes), its place, its gravity -/
structure Mk where
  n : ByteArray
  p : Int
  g : Int
def mkV (m : Mk) : Value := .agg #[.string m.n, .int .i64 m.p, .int .i64 m.g]
/-- the marks that a map's entries hold, in the order in which they came -/
structure EntM (es : Array MapEntry) (clock : Nat) (L : List Mk) : Prop where
  v : es.toList.map (fun e => (e.key, e.val)) = L.map fun m => (Value.string m.n, mkV m)
  b : ∀ e ∈ es.toList, e.born < clock
  d : (es.toList.map (·.born)).Nodup
def IsMp (X : World) (r : Nat) (L : List Mk) : Prop := ∃ es clock, X.heap[r]? = some (.map es clock) ∧ EntM es clock L
theorem IsMp.lt {X : World} {r : Nat} {L : List Mk} (h : IsMp X r L) : r < X.heap.size := by
  obtain ⟨es, clock, h1, _⟩ := h
  exact (Array.getElem?_eq_some_iff.1 h1).1
theorem IsMp.same {X Y : World} {r : Nat} {L : List Mk} (h : IsMp X r L) (hb : Y.heap[r]? = X.heap[r]?) : IsMp Y r L := by
  obtain ⟨es, clock, h1, h2⟩ := h
  exact ⟨es, clock, hb.trans h1, h2⟩
theorem IsMp.below {X Y : World} {r N : Nat} {L : List Mk} (h : IsMp X r L) (hb : Below N X Y) (hN : X.heap.size ≤ N) : IsMp Y r L := h.same (hb.block r (Nat.lt_of_lt_of_le h.lt hN))
/-- the place of a name among the marks, and the mark -/
def atM (s : ByteArray) : List Mk → Nat → Option (Nat × Mk)
  | [], _ => none
  | m :: L, i => if s == m.n then some (i, m) else atM s L (i + 1)
def getM (s : ByteArray) (L : List Mk) : Option Mk := (atM s L 0).map (·.2)
theorem findNow_mk (s : ByteArray) : ∀ (es : List MapEntry) (L : List Mk) (i : Nat), es.map (fun e => (e.key, e.val)) = L.map (fun m => (Value.string m.n, mkV m)) →
    Instr.findNow .string (.string s) es i = some ((atM s L i).map fun x => (x.1, mkV x.2))
  | [], [], _, _ => rfl
  | [], _ :: _, _, h => by simp at h
  | _ :: _, [], _, h => by simp at h
  | e :: es, m :: L, i, h => by
    simp only [List.map_cons, List.cons.injEq, Prod.mk.injEq] at h
    obtain ⟨⟨h1, h2⟩, h3⟩ := h
    unfold Instr.findNow atM
    rw [h1]
    simp only [Instr.sameNow]
    cases hb : s == m.n with
    | true => simp [h2]
    | false => simp only [Bool.false_eq_true, if_false]; exact findNow_mk s es L (i + 1) h3
variable {P : Program}
theorem run_findKey_mk (X : World) {k : TypeId} (hk : P.underlying k = some .string) (s : ByteArray) {es : Array MapEntry} {clock : Nat} {L : List Mk} (h : EntM es clock L) :
    (Instr.findKey k (.string s) es.toList).run P X = .ok ((atM s L 0).map fun x => (x.1, mkV x.2)) X := by
  unfold Instr.findKey
  simp only [Sem.run_bind, run_underlying hk, Result.andThen, findNow_mk s es.toList L 0 h.v]
  rfl
theorem run_checkKey_mk (X : World) {k : TypeId} (hk : P.underlying k = some .string) (b : Bool) (s : ByteArray) : (Instr.checkKey b 10000 k (.string s)).run P X = .ok () X := by
  unfold Instr.checkKey
  simp only [Sem.run_bind, run_underlying hk, Result.andThen]
  rfl
/-- a look-up -/
theorem run_lookup_mk (X : World) {t k e : TypeId} (ht : P.underlying t = some (.map k e)) (hk : P.underlying k = some .string) {z : Value} (hz : (zeroValue e).run P X = .ok z X) {r : Nat} {L : List Mk} (h : IsMp X r L) (s : ByteArray) :
    (Instr.lookup t (.map (some r)) (.string s) true).run P X = .ok (.tuple #[((getM s L).map mkV).getD z, .bool (getM s L).isSome]) X := by
  obtain ⟨es, clock, h1, h2⟩ := h
  unfold Instr.lookup
  simp only [Sem.run_bind, run_underlying ht, Result.andThen, MapKept.run_getObj_map h1, Sem.run_pure, run_checkKey_mk X hk, run_findKey_mk X hk s h2]
  unfold getM
  cases atM s L 0 with
  | none => simp [hz, Result.andThen]
  | some x => simp
/-- a store -/
def putM (m : Mk) (L : List Mk) : List Mk := match atM m.n L 0 with
  | some (i, _) => L.set i m
  | none => L ++ [m]
theorem atM_lt (s : ByteArray) : ∀ (L : List Mk) (i j : Nat) (x : Mk), atM s L i = some (j, x) → i ≤ j ∧ j < i + L.length ∧ s = x.n ∧ L[j - i]? = some x
  | [], _, _, _, h => by simp [atM] at h
  | m :: L, i, j, x, h => by
    unfold atM at h
    split at h
    · rename_i hs
      cases h
      refine ⟨Nat.le_refl _, by simp, (MapKept.bytes_beq _ _).1 hs, by simp⟩
    · obtain ⟨h1, h2, h3, h4⟩ := atM_lt s L (i + 1) j x h
      refine ⟨by omega, by simp; omega, h3, ?_⟩
      rw [show j - i = (j - (i + 1)) + 1 by omega]
      simpa using h4
theorem sameBits_str (s : ByteArray) : Instr.sameBits 10000 (.string s) (.string s) = true := by
  show (s == s) = true
  exact (MapKept.bytes_beq s s).2 rfl
theorem ent_key {es : Array MapEntry} {clock : Nat} {L : List Mk} (h : EntM es clock L) {i : Nat} {x : Mk} (hx : L[i]? = some x) : ∃ e, es[i]? = some e ∧ e.key = .string x.n ∧ e.val = mkV x := by
  have h1 := congrArg (fun l => l[i]?) h.v
  simp only [List.getElem?_map, hx, Option.map_some] at h1
  cases he : es.toList[i]? with
  | none => rw [he] at h1; cases h1
  | some e =>
    rw [he] at h1
    simp only [Option.map_some, Option.some.injEq, Prod.mk.injEq] at h1
    exact ⟨e, by rw [← he]; simp, h1.1, h1.2⟩
theorem ent_set {es : Array MapEntry} {clock : Nat} {L : List Mk} (h : EntM es clock L) (i : Nat) (m : Mk) : EntM (es.modify i fun e => { e with key := .string m.n, val := mkV m }) clock (L.set i m) := by
  have hl : (es.modify i fun e => { e with key := .string m.n, val := mkV m }).toList = es.toList.modify i fun e => { e with key := .string m.n, val := mkV m } := by simp
  refine ⟨?_, ?_, ?_⟩
  · rw [hl]
    have := h.v
    apply List.ext_getElem?
    intro j
    have hj := congrArg (fun l => l[j]?) this
    simp only [List.getElem?_map, List.getElem?_modify, List.getElem?_set] at hj ⊢
    have hlen : es.toList.length = L.length := by have := congrArg List.length this; simpa using this
    by_cases e : i = j
    · subst e
      simp only [if_true, hlen.symm]
      rcases Nat.lt_or_ge i es.toList.length with hi | hi
      · rw [List.getElem?_eq_getElem hi, if_pos (by omega)]; rfl
      · rw [List.getElem?_eq_none hi, if_neg (by omega)]; rfl
    · simp only [e, if_false] at hj ⊢
      cases hq : es.toList[j]? with
      | none => rw [hq] at hj; simpa using hj
      | some q => rw [hq] at hj; simpa using hj
  · intro e he
    rw [hl] at he
    obtain ⟨j, hj⟩ := List.mem_iff_getElem?.1 he
    rw [List.getElem?_modify] at hj
    cases hq : es.toList[j]? with
    | none => rw [hq] at hj; simp at hj
    | some q =>
      rw [hq] at hj
      have := h.b q (List.mem_iff_getElem?.2 ⟨j, hq⟩)
      simp only [Option.map_eq_map, Option.map_some, Option.some.injEq] at hj
      rw [← hj]
      split <;> exact this
  · rw [hl]
    have : (es.toList.modify i fun e => { e with key := .string m.n, val := mkV m }).map (·.born) = es.toList.map (·.born) := by
      apply List.ext_getElem?
      intro j
      simp only [List.getElem?_map, List.getElem?_modify]
      cases es.toList[j]? with
      | none => rfl
      | some q => simp only [Option.map_some]; split <;> rfl
    rw [this]; exact h.d
theorem ent_push {es : Array MapEntry} {clock : Nat} {L : List Mk} (h : EntM es clock L) (m : Mk) : EntM (es.push { key := .string m.n, val := mkV m, born := clock }) (clock + 1) (L ++ [m]) := by
  refine ⟨by simp [h.v], fun e he => ?_, ?_⟩
  · simp only [Array.toList_push, List.mem_append, List.mem_singleton] at he
    rcases he with he | rfl
    · have := h.b e he; omega
    · exact Nat.lt_succ_self _
  · simp only [Array.toList_push, List.map_append, List.map_cons, List.map_nil]
    rw [List.nodup_append]
    refine ⟨h.d, by simp, fun a ha b hb => ?_⟩
    simp only [List.mem_singleton] at hb
    obtain ⟨e, he, rfl⟩ := List.mem_map.1 ha
    have := h.b e he
    omega
/-- a store into a map -/
theorem run_update_mk (X : World) {t k e : TypeId} (ht : P.underlying t = some (.map k e)) (hk : P.underlying k = some .string) {r : Nat} {L : List Mk} (h : IsMp X r L) (m : Mk) :
    ∃ o, (Instr.mapUpdate t (.map (some r)) (.string m.n) (mkV m)).run P X = .ok () { X with heap := X.heap.setIfInBounds r o } ∧ IsMp { X with heap := X.heap.setIfInBounds r o } r (putM m L) := by
  have hlt := h.lt
  obtain ⟨es, clock, h1, h2⟩ := h
  have hnew : ∀ o : Obj, ({ X with heap := X.heap.setIfInBounds r o } : World).heap[r]? = some o := fun o => by simp [hlt]
  unfold Instr.mapUpdate putM
  simp only [Sem.run_bind, run_underlying ht, Result.andThen, MapKept.run_getObj_map h1, run_checkKey_mk X hk, run_findKey_mk X hk m.n h2]
  cases ha : atM m.n L 0 with
  | none =>
    refine ⟨.map (es.push { key := .string m.n, val := mkV m, born := clock }) (clock + 1), ?_, _, _, hnew _, ent_push h2 m⟩
    simp only [Option.map_none]
    exact MapKept.run_setObj_map _ h1
  | some x =>
    obtain ⟨i, x⟩ := x
    obtain ⟨_, _, hn, hx⟩ := atM_lt m.n L 0 i x ha
    rw [Nat.sub_zero] at hx
    obtain ⟨e0, he, hke, _⟩ := ent_key h2 hx
    refine ⟨.map (es.modify i fun e => { e with key := .string m.n, val := mkV m }) clock, ?_, _, _, hnew _, ent_set h2 i m⟩
    simp only [Option.map_some, he, Option.getD_some, hke, Instr.keyThatStays, ← hn, sameBits_str, if_true, Sem.run_bind, Sem.run_pure, Result.andThen]
    exact MapKept.run_setObj_map _ h1
/-- without a name -/
def delM (s : ByteArray) (L : List Mk) : List Mk := match atM s L 0 with
  | some (i, _) => L.eraseIdx i
  | none => L
theorem map_erase {α β : Type} (f : α → β) : ∀ (l : List α) (i : Nat), (l.eraseIdx i).map f = (l.map f).eraseIdx i
  | [], _ => rfl
  | _ :: _, 0 => rfl
  | a :: l, i + 1 => by simp [map_erase f l i]
theorem ent_erase {es : Array MapEntry} {clock : Nat} {L : List Mk} (h : EntM es clock L) (i : Nat) : EntM (es.eraseIdxIfInBounds i) clock (L.eraseIdx i) := by
  have hl : (es.eraseIdxIfInBounds i).toList = es.toList.eraseIdx i := by
    unfold Array.eraseIdxIfInBounds
    split
    · simp
    · rename_i hi
      rw [List.eraseIdx_of_length_le (by simpa using hi)]
  refine ⟨?_, fun e he => ?_, ?_⟩
  · rw [hl, map_erase, map_erase, h.v]
  · rw [hl] at he; exact h.b e (List.mem_of_mem_eraseIdx he)
  · rw [hl, map_erase]; exact h.d.sublist (List.eraseIdx_sublist _ _)
/-- a name is taken out -/
theorem run_delete_mk (X : World) {t k e ty : TypeId} (ht : P.underlying t = some (.map k e)) (hk : P.underlying k = some .string) {r : Nat} {L : List Mk} (h : IsMp X r L) (s : ByteArray) :
    ∃ o, (Builtin.delete_ #[t, k] ty #[.map (some r), .string s]).run P X = .ok (.tuple #[]) { X with heap := X.heap.setIfInBounds r o } ∧ IsMp { X with heap := X.heap.setIfInBounds r o } r (delM s L) := by
  have hlt := h.lt
  obtain ⟨es, clock, h1, h2⟩ := h
  have hnew : ∀ o : Obj, ({ X with heap := X.heap.setIfInBounds r o } : World).heap[r]? = some o := fun o => by simp [hlt]
  unfold Builtin.delete_ delM
  simp only [List.getElem?_toArray, List.getElem?_cons_zero, List.getElem?_cons_succ, Sem.run_bind, run_underlying ht, Result.andThen, MapKept.run_getObj_map h1, run_checkKey_mk X hk, run_findKey_mk X hk s h2]
  cases ha : atM s L 0 with
  | none =>
    refine ⟨.map es clock, ?_, _, _, hnew _, h2⟩
    simp only [Option.map_none, Sem.run_bind, MapKept.run_setObj_map _ h1, Result.andThen, Sem.run_pure]
  | some x =>
    obtain ⟨i, x⟩ := x
    refine ⟨.map (es.eraseIdxIfInBounds i) clock, ?_, _, _, hnew _, ent_erase h2 i⟩
    simp only [Option.map_some, Sem.run_bind, MapKept.run_setObj_map _ h1, Result.andThen, Sem.run_pure]
theorem IsMp.new (X : World) : IsMp (X.alloc (.map #[] 0)) X.heap.size [] := ⟨#[], 0, heap_alloc_new X _, ⟨rfl, by simp, by simp⟩⟩
theorem IsMp.clone {X : World} {r : Nat} {L : List Mk} (h : IsMp X r L) : ∃ es clock, X.heap[r]? = some (.map es clock) ∧ IsMp (X.alloc (.map es clock)) X.heap.size L := by
  obtain ⟨es, clock, h1, h2⟩ := h
  exact ⟨es, clock, h1, es, clock, heap_alloc_new X _, h2⟩
theorem IsMp.len {X : World} {r : Nat} {L : List Mk} (h : IsMp X r L) : ∃ es clock, X.heap[r]? = some (.map es clock) ∧ es.size = L.length := by
  obtain ⟨es, clock, h1, h2⟩ := h
  refine ⟨es, clock, h1, ?_⟩
  have := congrArg List.length h2.v
  simpa using this
end Go.Proofs.Ytfllomlighlejaa
