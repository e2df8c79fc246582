/- Layer 19: a map from texts to numbers in memory: look-up, a new one, a store; the map that knows pieces. -/
import Derived.Test.YtkdnanlgkedjgabDoorDn27
import Derived.Test.YtkdnanlgkedjgabDoorDn04
import Derived.Test.YtkdnanlgkedjgabDoorDn28
import Derived.WalkKit
import Derived.Below
import Derived.Laws.IdiomRangeMap
import Derived.Laws.IdiomMaps
import Derived.Carry
import Derived.ChangeAt

namespace Go.Proofs.YtkdnanlgkedjgabDoor
open Go.ChangeShapes Go.WideShapes Go.ChangeAt Go.RowKit

/-- the numbers that a map's entries hold, in the order in which they came -/
structure EntI (es : Array MapEntry) (clock : Nat) (L : List (ByteArray × Int)) : Prop where
  v : es.toList.map (fun e => (e.key, e.val)) = L.map fun m => (Value.string m.1, .int .i64 m.2)
  b : ∀ e ∈ es.toList, e.born < clock
  d : (es.toList.map (·.born)).Nodup
def IsMi (X : World) (r : Nat) (L : List (ByteArray × Int)) : Prop := ∃ es clock, X.heap[r]? = some (.map es clock) ∧ EntI es clock L
theorem IsMi.lt {X : World} {r : Nat} {L : List (ByteArray × Int)} (h : IsMi X r L) : r < X.heap.size := by
  obtain ⟨es, clock, h1, _⟩ := h
  exact (Array.getElem?_eq_some_iff.1 h1).1
theorem IsMi.same {X Y : World} {r : Nat} {L : List (ByteArray × Int)} (h : IsMi X r L) (hb : Y.heap[r]? = X.heap[r]?) : IsMi Y r L := by
  obtain ⟨es, clock, h1, h2⟩ := h
  exact ⟨es, clock, hb.trans h1, h2⟩
theorem IsMi.below {X Y : World} {r N : Nat} {L : List (ByteArray × Int)} (h : IsMi X r L) (hb : Below N X Y) (hN : X.heap.size ≤ N) : IsMi Y r L := h.same (hb.block r (Nat.lt_of_lt_of_le h.lt hN))
/-- the place of a name among the marks, and the mark -/
def atI (s : ByteArray) : List (ByteArray × Int) → Nat → Option (Nat × ByteArray × Int)
  | [], _ => none
  | m :: L, i => if s == m.1 then some (i, m) else atI s L (i + 1)
def getI (s : ByteArray) (L : List (ByteArray × Int)) : Option Int := (atI s L 0).map (·.2.2)
theorem findNow_mi (s : ByteArray) : ∀ (es : List MapEntry) (L : List (ByteArray × Int)) (i : Nat), es.map (fun e => (e.key, e.val)) = L.map (fun m => (Value.string m.1, .int .i64 m.2)) →
    Instr.findNow .string (.string s) es i = some ((atI s L i).map fun x => (x.1, .int .i64 x.2.2))
  | [], [], _, _ => rfl
  | [], _ :: _, _, h => by simp at h
  | _ :: _, [], _, h => by simp at h
  | e :: es, m :: L, i, h => by
    simp only [List.map_cons, List.cons.injEq, Prod.mk.injEq] at h
    obtain ⟨⟨h1, h2⟩, h3⟩ := h
    unfold Instr.findNow atI
    rw [h1]
    simp only [Instr.sameNow]
    cases hb : s == m.1 with
    | true => simp [h2]
    | false => simp only [Bool.false_eq_true, if_false]; exact findNow_mi s es L (i + 1) h3
section
variable {P : Program}
theorem run_findKey_mi (X : World) {k : TypeId} (hk : P.underlying k = some .string) (s : ByteArray) {es : Array MapEntry} {clock : Nat} {L : List (ByteArray × Int)} (h : EntI es clock L) :
    (Instr.findKey k (.string s) es.toList).run P X = .ok ((atI s L 0).map fun x => (x.1, .int .i64 x.2.2)) X := by
  unfold Instr.findKey
  simp only [Sem.run_bind, run_underlying hk, Result.andThen, findNow_mi s es.toList L 0 h.v]
  rfl
theorem run_checkKey_mi (X : World) {k : TypeId} (hk : P.underlying k = some .string) (b : Bool) (s : ByteArray) : (Instr.checkKey b 10000 k (.string s)).run P X = .ok () X := by
  unfold Instr.checkKey
  simp only [Sem.run_bind, run_underlying hk, Result.andThen]
  rfl
/-- a look-up -/
theorem run_lookup_mi (X : World) {t k e : TypeId} (ht : P.underlying t = some (.map k e)) (hk : P.underlying k = some .string) {z : Value} (hz : (zeroValue e).run P X = .ok z X) {r : Nat} {L : List (ByteArray × Int)} (h : IsMi X r L) (s : ByteArray) :
    (Instr.lookup t (.map (some r)) (.string s) true).run P X = .ok (.tuple #[((getI s L).map (Value.int .i64)).getD z, .bool (getI s L).isSome]) X := by
  obtain ⟨es, clock, h1, h2⟩ := h
  unfold Instr.lookup
  simp only [Sem.run_bind, run_underlying ht, Result.andThen, MapKept.run_getObj_map h1, Sem.run_pure, run_checkKey_mi X hk, run_findKey_mi X hk s h2]
  unfold getI
  cases atI s L 0 with
  | none => simp [hz, Result.andThen]
  | some x => simp
theorem atI_lt (s : ByteArray) : ∀ (L : List (ByteArray × Int)) (i j : Nat) (x : ByteArray × Int), atI s L i = some (j, x) → i ≤ j ∧ j < i + L.length ∧ s = x.1 ∧ L[j - i]? = some x
  | [], _, _, _, h => by simp [atI] at h
  | m :: L, i, j, x, h => by
    unfold atI at h
    split at h
    · rename_i hs
      cases h
      refine ⟨Nat.le_refl _, by simp, (MapKept.bytes_beq _ _).1 hs, by simp⟩
    · obtain ⟨h1, h2, h3, h4⟩ := atI_lt s L (i + 1) j x h
      refine ⟨by omega, by simp; omega, h3, ?_⟩
      rw [show j - i = (j - (i + 1)) + 1 by omega]
      simpa using h4
theorem enti_push {es : Array MapEntry} {clock : Nat} {L : List (ByteArray × Int)} (h : EntI es clock L) (m : ByteArray × Int) : EntI (es.push { key := .string m.1, val := .int .i64 m.2, born := clock }) (clock + 1) (L ++ [m]) := by
  refine ⟨by simp [h.v], fun e he => ?_, ?_⟩
  · simp only [Array.toList_push, List.mem_append, List.mem_singleton] at he
    rcases he with he | rfl
    · have := h.b e he; omega
    · exact Nat.lt_succ_self _
  · simp only [Array.toList_push, List.map_append, List.map_cons, List.map_nil]
    rw [List.nodup_append]
    refine ⟨h.d, by simp, fun a ha b hb => ?_⟩
    simp only [List.mem_singleton] at hb
    obtain ⟨e, he, rfl⟩ := List.mem_map.1 ha
    have := h.b e he
    omega
theorem IsMi.new (X : World) : IsMi (X.alloc (.map #[] 0)) X.heap.size [] := ⟨#[], 0, heap_alloc_new X _, ⟨rfl, by simp, by simp⟩⟩
theorem IsMi.len {X : World} {r : Nat} {L : List (ByteArray × Int)} (h : IsMi X r L) : ∃ es clock, X.heap[r]? = some (.map es clock) ∧ es.size = L.length := by
  obtain ⟨es, clock, h1, h2⟩ := h
  refine ⟨es, clock, h1, ?_⟩
  have := congrArg List.length h2.v
  simpa using this
/-- a new name -/
theorem run_store_mi (X : World) {t k e : TypeId} (ht : P.underlying t = some (.map k e)) (hk : P.underlying k = some .string) {r : Nat} {L : List (ByteArray × Int)} (h : IsMi X r L) (m : ByteArray × Int) (hm : atI m.1 L 0 = none) :
    ∃ o, (Instr.mapUpdate t (.map (some r)) (.string m.1) (.int .i64 m.2)).run P X = .ok () { X with heap := X.heap.setIfInBounds r o } ∧ IsMi { X with heap := X.heap.setIfInBounds r o } r (L ++ [m]) := by
  have hlt := h.lt
  obtain ⟨es, clock, h1, h2⟩ := h
  have hnew : ∀ o : Obj, ({ X with heap := X.heap.setIfInBounds r o } : World).heap[r]? = some o := fun o => by simp [hlt]
  unfold Instr.mapUpdate
  simp only [Sem.run_bind, run_underlying ht, Result.andThen, MapKept.run_getObj_map h1, run_checkKey_mi X hk, run_findKey_mi X hk m.1 h2, hm]
  refine ⟨.map (es.push { key := .string m.1, val := .int .i64 m.2, born := clock }) (clock + 1), ?_, _, _, hnew _, enti_push h2 m⟩
  simp only [Option.map_none]
  exact MapKept.run_setObj_map _ h1
end

/-- the names of pieces, numbered in their order -/
def kiL : Nat → List (List Int) → List (ByteArray × Int)
  | _, [] => []
  | i, p :: K => (strOfNums p, (i : Int)) :: kiL (i + 1) K
theorem kiL_snoc : ∀ (K : List (List Int)) (i : Nat) (p : List Int), kiL i (K ++ [p]) = kiL i K ++ [(strOfNums p, ((i + K.length : Nat) : Int))]
  | [], i, p => by simp [kiL]
  | q :: K, i, p => by
    rw [List.cons_append, kiL, kiL_snoc K (i + 1) p, kiL, List.length_cons, show i + 1 + K.length = i + (K.length + 1) by omega]
    rfl
theorem kiL_len : ∀ (K : List (List Int)) (i : Nat), (kiL i K).length = K.length
  | [], _ => rfl
  | _ :: K, i => by rw [kiL, List.length_cons, List.length_cons, kiL_len K (i + 1)]
def ByL (p : List Int) : Prop := ∀ x ∈ p, 0 ≤ x ∧ x ≤ 255
theorem str_is {p q : List Int} (hp : ByL p) (hq : ByL q) : (strOfNums p == strOfNums q) = decide (p = q) := by
  by_cases h : p = q
  · subst h; rw [(MapKept.bytes_beq _ _).2 rfl]; simp
  · have h1 := str_beq hp hq
    rw [decide_eq_false h] at h1
    rw [decide_eq_false h]
    refine Bool.eq_false_iff.2 fun e => ?_
    rw [(MapKept.bytes_beq _ _).1 e] at h1
    simp at h1
theorem at_ki {p : List Int} (hp : ByL p) : ∀ (K : List (List Int)) (i j : Nat), (∀ q ∈ K, ByL q) → atI (strOfNums p) (kiL i K) j = if p ∈ K then some (j + K.idxOf p, strOfNums p, ((i + K.idxOf p : Nat) : Int)) else none
  | [], _, _, _ => by simp [kiL, atI]
  | q :: K, i, j, h => by
    rw [kiL, atI, str_is hp (h q (by simp))]
    by_cases e : p = q
    · subst e; simp
    · have e' : ¬ q = p := fun g => e g.symm
      rw [decide_eq_false e, at_ki hp K (i + 1) (j + 1) fun q hq => h q (by simp [hq])]
      by_cases g : p ∈ K
      · simp only [Bool.false_eq_true, if_false, g, if_true, List.mem_cons, or_true, List.idxOf_cons, beq_eq_false_iff_ne.2 e', cond_false, Option.some.injEq, Prod.mk.injEq]
        refine ⟨by omega, trivial, by omega⟩
      · simp [g, e]
/-- the map that knows the pieces of K -/
def IsKn (X : World) (r : Nat) (K : List (List Int)) : Prop := IsMi X r (kiL 0 K) ∧ ∀ q ∈ K, ByL q
theorem IsKn.get {X : World} {r : Nat} {K : List (List Int)} (h : IsKn X r K) {p : List Int} (hp : ByL p) : getI (strOfNums p) (kiL 0 K) = if p ∈ K then some ((K.idxOf p : Nat) : Int) else none := by
  unfold getI
  rw [at_ki hp K 0 0 h.2]
  split <;> simp
theorem IsKn.same {X Y : World} {r : Nat} {K : List (List Int)} (h : IsKn X r K) (hb : Y.heap[r]? = X.heap[r]?) : IsKn Y r K := ⟨h.1.same hb, h.2⟩
theorem IsKn.len {X : World} {r : Nat} {K : List (List Int)} (h : IsKn X r K) : ∃ es clock, X.heap[r]? = some (.map es clock) ∧ es.size = K.length := by
  obtain ⟨es, clock, h1, h2⟩ := h.1.len
  exact ⟨es, clock, h1, by rw [h2, kiL_len]⟩
theorem IsKn.put {X : World} {r : Nat} {K : List (List Int)} (h : IsKn X r K) {P : Program} {t k e : TypeId} (ht : P.underlying t = some (.map k e)) (hk : P.underlying k = some .string) {p : List Int} (hp : ByL p) (hn : ¬ p ∈ K) :
    ∃ o, (Instr.mapUpdate t (.map (some r)) (.string (strOfNums p)) (.int .i64 (K.length : Int))).run P X = .ok () { X with heap := X.heap.setIfInBounds r o } ∧ IsKn { X with heap := X.heap.setIfInBounds r o } r (K ++ [p]) ∧ KpF (fun g => g = r) X { X with heap := X.heap.setIfInBounds r o } := by
  obtain ⟨o, h1, h2⟩ := run_store_mi X ht hk h.1 (strOfNums p, (K.length : Int)) (by rw [at_ki hp K 0 0 h.2, if_neg hn])
  refine ⟨o, h1, ⟨by rw [kiL_snoc, Nat.zero_add]; exact h2, fun q hq => ?_⟩, ⟨rfl, rfl, rfl, by simp, fun g _ hg => ?_⟩⟩
  · rcases List.mem_append.1 hq with hq | hq
    · exact h.2 q hq
    · simp at hq; subst hq; exact hp
  · simp only [Array.getElem?_setIfInBounds]
    rw [if_neg fun e => hg e.symm]
theorem IsKn.new (X : World) : IsKn (X.alloc (.map #[] 0)) X.heap.size [] := ⟨IsMi.new X, by simp⟩
end Go.Proofs.YtkdnanlgkedjgabDoor
