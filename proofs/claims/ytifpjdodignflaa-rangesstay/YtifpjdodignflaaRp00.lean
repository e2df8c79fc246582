/- Layer 16: a map of ranges by name in memory: look-up, store, a new one, a copy (Mka's text, turned). -/
import Derived.Test.YtifpjdodignflaaProg
import Derived.WalkKit
import Derived.Below
import Derived.Laws.IdiomRangeMap
import Derived.Laws.IdiomMaps
import Derived.Carry
import Derived.ChangeAt

namespace Go.Proofs.Ytifpjdodignflaa
open Go.ChangeShapes Go.WideShapes Go.ChangeAt Go.RowKit

/-- a range: its name (any bytes), its ends, their gravities -/
structure Rg where
  n : ByteArray
  lo : Int
  hi : Int
  st : Int
  en : Int
def rgV (m : Rg) : Value := .agg #[.string m.n, .int .i64 m.lo, .int .i64 m.hi, .int .i64 m.st, .int .i64 m.en]
/-- the marks that a map's entries hold, in the order in which they came -/
structure EntR (es : Array MapEntry) (clock : Nat) (L : List Rg) : Prop where
  v : es.toList.map (fun e => (e.key, e.val)) = L.map fun m => (Value.string m.n, rgV m)
  b : ∀ e ∈ es.toList, e.born < clock
  d : (es.toList.map (·.born)).Nodup
def IsRp (X : World) (r : Nat) (L : List Rg) : Prop := ∃ es clock, X.heap[r]? = some (.map es clock) ∧ EntR es clock L
theorem IsRp.lt {X : World} {r : Nat} {L : List Rg} (h : IsRp X r L) : r < X.heap.size := by
  obtain ⟨es, clock, h1, _⟩ := h
  exact (Array.getElem?_eq_some_iff.1 h1).1
theorem IsRp.same {X Y : World} {r : Nat} {L : List Rg} (h : IsRp X r L) (hb : Y.heap[r]? = X.heap[r]?) : IsRp Y r L := by
  obtain ⟨es, clock, h1, h2⟩ := h
  exact ⟨es, clock, hb.trans h1, h2⟩
theorem IsRp.below {X Y : World} {r N : Nat} {L : List Rg} (h : IsRp X r L) (hb : Below N X Y) (hN : X.heap.size ≤ N) : IsRp Y r L := h.same (hb.block r (Nat.lt_of_lt_of_le h.lt hN))
/-- the place of a name among the marks, and the mark -/
def atG (s : ByteArray) : List Rg → Nat → Option (Nat × Rg)
  | [], _ => none
  | m :: L, i => if s == m.n then some (i, m) else atG s L (i + 1)
def getG (s : ByteArray) (L : List Rg) : Option Rg := (atG s L 0).map (·.2)
theorem findNow_rg (s : ByteArray) : ∀ (es : List MapEntry) (L : List Rg) (i : Nat), es.map (fun e => (e.key, e.val)) = L.map (fun m => (Value.string m.n, rgV m)) →
    Instr.findNow .string (.string s) es i = some ((atG s L i).map fun x => (x.1, rgV x.2))
  | [], [], _, _ => rfl
  | [], _ :: _, _, h => by simp at h
  | _ :: _, [], _, h => by simp at h
  | e :: es, m :: L, i, h => by
    simp only [List.map_cons, List.cons.injEq, Prod.mk.injEq] at h
    obtain ⟨⟨h1, h2⟩, h3⟩ := h
    unfold Instr.findNow atG
    rw [h1]
    simp only [Instr.sameNow]
    cases hb : s == m.n with
    | true => simp [h2]
    | false => simp only [Bool.false_eq_true, if_false]; exact findNow_rg s es L (i + 1) h3
variable {P : Program}
theorem run_findKey_rg (X : World) {k : TypeId} (hk : P.underlying k = some .string) (s : ByteArray) {es : Array MapEntry} {clock : Nat} {L : List Rg} (h : EntR es clock L) :
    (Instr.findKey k (.string s) es.toList).run P X = .ok ((atG s L 0).map fun x => (x.1, rgV x.2)) X := by
  unfold Instr.findKey
  simp only [Sem.run_bind, run_underlying hk, Result.andThen, findNow_rg s es.toList L 0 h.v]
  rfl
theorem run_checkKey_rg (X : World) {k : TypeId} (hk : P.underlying k = some .string) (b : Bool) (s : ByteArray) : (Instr.checkKey b 10000 k (.string s)).run P X = .ok () X := by
  unfold Instr.checkKey
  simp only [Sem.run_bind, run_underlying hk, Result.andThen]
  rfl
/-- a look-up -/
theorem run_lookup_rg (X : World) {t k e : TypeId} (ht : P.underlying t = some (.map k e)) (hk : P.underlying k = some .string) {z : Value} (hz : (zeroValue e).run P X = .ok z X) {r : Nat} {L : List Rg} (h : IsRp X r L) (s : ByteArray) :
    (Instr.lookup t (.map (some r)) (.string s) true).run P X = .ok (.tuple #[((getG s L).map rgV).getD z, .bool (getG s L).isSome]) X := by
  obtain ⟨es, clock, h1, h2⟩ := h
  unfold Instr.lookup
  simp only [Sem.run_bind, run_underlying ht, Result.andThen, MapKept.run_getObj_map h1, Sem.run_pure, run_checkKey_rg X hk, run_findKey_rg X hk s h2]
  unfold getG
  cases atG s L 0 with
  | none => simp [hz, Result.andThen]
  | some x => simp
/-- a store -/
def putG (m : Rg) (L : List Rg) : List Rg := match atG m.n L 0 with
  | some (i, _) => L.set i m
  | none => L ++ [m]
theorem atG_lt (s : ByteArray) : ∀ (L : List Rg) (i j : Nat) (x : Rg), atG s L i = some (j, x) → i ≤ j ∧ j < i + L.length ∧ s = x.n ∧ L[j - i]? = some x
  | [], _, _, _, h => by simp [atG] at h
  | m :: L, i, j, x, h => by
    unfold atG at h
    split at h
    · rename_i hs
      cases h
      refine ⟨Nat.le_refl _, by simp, (MapKept.bytes_beq _ _).1 hs, by simp⟩
    · obtain ⟨h1, h2, h3, h4⟩ := atG_lt s L (i + 1) j x h
      refine ⟨by omega, by simp; omega, h3, ?_⟩
      rw [show j - i = (j - (i + 1)) + 1 by omega]
      simpa using h4
theorem sameBitsR_str (s : ByteArray) : Instr.sameBits 10000 (.string s) (.string s) = true := by
  show (s == s) = true
  exact (MapKept.bytes_beq s s).2 rfl
theorem entR_key {es : Array MapEntry} {clock : Nat} {L : List Rg} (h : EntR es clock L) {i : Nat} {x : Rg} (hx : L[i]? = some x) : ∃ e, es[i]? = some e ∧ e.key = .string x.n ∧ e.val = rgV x := by
  have h1 := congrArg (fun l => l[i]?) h.v
  simp only [List.getElem?_map, hx, Option.map_some] at h1
  cases he : es.toList[i]? with
  | none => rw [he] at h1; cases h1
  | some e =>
    rw [he] at h1
    simp only [Option.map_some, Option.some.injEq, Prod.mk.injEq] at h1
    exact ⟨e, by rw [← he]; simp, h1.1, h1.2⟩
theorem entR_set {es : Array MapEntry} {clock : Nat} {L : List Rg} (h : EntR es clock L) (i : Nat) (m : Rg) : EntR (es.modify i fun e => { e with key := .string m.n, val := rgV m }) clock (L.set i m) := by
  have hl : (es.modify i fun e => { e with key := .string m.n, val := rgV m }).toList = es.toList.modify i fun e => { e with key := .string m.n, val := rgV m } := by simp
  refine ⟨?_, ?_, ?_⟩
  · rw [hl]
    have := h.v
    apply List.ext_getElem?
    intro j
    have hj := congrArg (fun l => l[j]?) this
    simp only [List.getElem?_map, List.getElem?_modify, List.getElem?_set] at hj ⊢
    have hlen : es.toList.length = L.length := by have := congrArg List.length this; simpa using this
    by_cases e : i = j
    · subst e
      simp only [if_true, hlen.symm]
      rcases Nat.lt_or_ge i es.toList.length with hi | hi
      · rw [List.getElem?_eq_getElem hi, if_pos (by omega)]; rfl
      · rw [List.getElem?_eq_none hi, if_neg (by omega)]; rfl
    · simp only [e, if_false] at hj ⊢
      cases hq : es.toList[j]? with
      | none => rw [hq] at hj; simpa using hj
      | some q => rw [hq] at hj; simpa using hj
  · intro e he
    rw [hl] at he
    obtain ⟨j, hj⟩ := List.mem_iff_getElem?.1 he
    rw [List.getElem?_modify] at hj
    cases hq : es.toList[j]? with
    | none => rw [hq] at hj; simp at hj
    | some q =>
      rw [hq] at hj
      have := h.b q (List.mem_iff_getElem?.2 ⟨j, hq⟩)
      simp only [Option.map_eq_map, Option.map_some, Option.some.injEq] at hj
      rw [← hj]
      split <;> exact this
  · rw [hl]
    have : (es.toList.modify i fun e => { e with key := .string m.n, val := rgV m }).map (·.born) = es.toList.map (·.born) := by
      apply List.ext_getElem?
      intro j
      simp only [List.getElem?_map, List.getElem?_modify]
      cases es.toList[j]? with
      | none => rfl
      | some q => simp only [Option.map_some]; split <;> rfl
    rw [this]; exact h.d
theorem entR_push {es : Array MapEntry} {clock : Nat} {L : List Rg} (h : EntR es clock L) (m : Rg) : EntR (es.push { key := .string m.n, val := rgV m, born := clock }) (clock + 1) (L ++ [m]) := by
  refine ⟨by simp [h.v], fun e he => ?_, ?_⟩
  · simp only [Array.toList_push, List.mem_append, List.mem_singleton] at he
    rcases he with he | rfl
    · have := h.b e he; omega
    · exact Nat.lt_succ_self _
  · simp only [Array.toList_push, List.map_append, List.map_cons, List.map_nil]
    rw [List.nodup_append]
    refine ⟨h.d, by simp, fun a ha b hb => ?_⟩
    simp only [List.mem_singleton] at hb
    obtain ⟨e, he, rfl⟩ := List.mem_map.1 ha
    have := h.b e he
    omega
/-- a store into a map -/
theorem run_update_rg (X : World) {t k e : TypeId} (ht : P.underlying t = some (.map k e)) (hk : P.underlying k = some .string) {r : Nat} {L : List Rg} (h : IsRp X r L) (m : Rg) :
    ∃ o, (Instr.mapUpdate t (.map (some r)) (.string m.n) (rgV m)).run P X = .ok () { X with heap := X.heap.setIfInBounds r o } ∧ IsRp { X with heap := X.heap.setIfInBounds r o } r (putG m L) := by
  have hlt := h.lt
  obtain ⟨es, clock, h1, h2⟩ := h
  have hnew : ∀ o : Obj, ({ X with heap := X.heap.setIfInBounds r o } : World).heap[r]? = some o := fun o => by simp [hlt]
  unfold Instr.mapUpdate putG
  simp only [Sem.run_bind, run_underlying ht, Result.andThen, MapKept.run_getObj_map h1, run_checkKey_rg X hk, run_findKey_rg X hk m.n h2]
  cases ha : atG m.n L 0 with
  | none =>
    refine ⟨.map (es.push { key := .string m.n, val := rgV m, born := clock }) (clock + 1), ?_, _, _, hnew _, entR_push h2 m⟩
    simp only [Option.map_none]
    exact MapKept.run_setObj_map _ h1
  | some x =>
    obtain ⟨i, x⟩ := x
    obtain ⟨_, _, hn, hx⟩ := atG_lt m.n L 0 i x ha
    rw [Nat.sub_zero] at hx
    obtain ⟨e0, he, hke, _⟩ := entR_key h2 hx
    refine ⟨.map (es.modify i fun e => { e with key := .string m.n, val := rgV m }) clock, ?_, _, _, hnew _, entR_set h2 i m⟩
    simp only [Option.map_some, he, Option.getD_some, hke, Instr.keyThatStays, ← hn, sameBitsR_str, if_true, Sem.run_bind, Sem.run_pure, Result.andThen]
    exact MapKept.run_setObj_map _ h1
/-- without a name -/
def delG (s : ByteArray) (L : List Rg) : List Rg := match atG s L 0 with
  | some (i, _) => L.eraseIdx i
  | none => L
theorem mapR_erase {α β : Type} (f : α → β) : ∀ (l : List α) (i : Nat), (l.eraseIdx i).map f = (l.map f).eraseIdx i
  | [], _ => rfl
  | _ :: _, 0 => rfl
  | a :: l, i + 1 => by simp [mapR_erase f l i]
theorem entR_erase {es : Array MapEntry} {clock : Nat} {L : List Rg} (h : EntR es clock L) (i : Nat) : EntR (es.eraseIdxIfInBounds i) clock (L.eraseIdx i) := by
  have hl : (es.eraseIdxIfInBounds i).toList = es.toList.eraseIdx i := by
    unfold Array.eraseIdxIfInBounds
    split
    · simp
    · rename_i hi
      rw [List.eraseIdx_of_length_le (by simpa using hi)]
  refine ⟨?_, fun e he => ?_, ?_⟩
  · rw [hl, mapR_erase, mapR_erase, h.v]
  · rw [hl] at he; exact h.b e (List.mem_of_mem_eraseIdx he)
  · rw [hl, mapR_erase]; exact h.d.sublist (List.eraseIdx_sublist _ _)
/-- a name is taken out -/
theorem run_delete_rg (X : World) {t k e ty : TypeId} (ht : P.underlying t = some (.map k e)) (hk : P.underlying k = some .string) {r : Nat} {L : List Rg} (h : IsRp X r L) (s : ByteArray) :
    ∃ o, (Builtin.delete_ #[t, k] ty #[.map (some r), .string s]).run P X = .ok (.tuple #[]) { X with heap := X.heap.setIfInBounds r o } ∧ IsRp { X with heap := X.heap.setIfInBounds r o } r (delG s L) := by
  have hlt := h.lt
  obtain ⟨es, clock, h1, h2⟩ := h
  have hnew : ∀ o : Obj, ({ X with heap := X.heap.setIfInBounds r o } : World).heap[r]? = some o := fun o => by simp [hlt]
  unfold Builtin.delete_ delG
  simp only [List.getElem?_toArray, List.getElem?_cons_zero, List.getElem?_cons_succ, Sem.run_bind, run_underlying ht, Result.andThen, MapKept.run_getObj_map h1, run_checkKey_rg X hk, run_findKey_rg X hk s h2]
  cases ha : atG s L 0 with
  | none =>
    refine ⟨.map es clock, ?_, _, _, hnew _, h2⟩
    simp only [Option.map_none, Sem.run_bind, MapKept.run_setObj_map _ h1, Result.andThen, Sem.run_pure]
  | some x =>
    obtain ⟨i, x⟩ := x
    refine ⟨.map (es.eraseIdxIfInBounds i) clock, ?_, _, _, hnew _, entR_erase h2 i⟩
    simp only [Option.map_some, Sem.run_bind, MapKept.run_setObj_map _ h1, Result.andThen, Sem.run_pure]
theorem IsRp.new (X : World) : IsRp (X.alloc (.map #[] 0)) X.heap.size [] := ⟨#[], 0, heap_alloc_new X _, ⟨rfl, by simp, by simp⟩⟩
theorem IsRp.clone {X : World} {r : Nat} {L : List Rg} (h : IsRp X r L) : ∃ es clock, X.heap[r]? = some (.map es clock) ∧ IsRp (X.alloc (.map es clock)) X.heap.size L := by
  obtain ⟨es, clock, h1, h2⟩ := h
  exact ⟨es, clock, h1, es, clock, heap_alloc_new X _, h2⟩
theorem IsRp.len {X : World} {r : Nat} {L : List Rg} (h : IsRp X r L) : ∃ es clock, X.heap[r]? = some (.map es clock) ∧ es.size = L.length := by
  obtain ⟨es, clock, h1, h2⟩ := h
  refine ⟨es, clock, h1, ?_⟩
  have := congrArg List.length h2.v
  simpa using this
end Go.Proofs.Ytifpjdodignflaa
