/- Layer 15: ranging over a map of marks: which entries came, and which are left. · Layer 13: the builder in memory. · Layer 13: what is looked at of each operation, and how each is handed on. -/
import Derived.Test.YtfllomlighlejaaMo00
import Derived.Maps.RangeRun
import Derived.Test.YtfllomlighlejaaMo14
import Derived.Lib.Bytes

section
namespace Go.Proofs.Ytfllomlighlejaa
open Go.ChangeShapes Go.WideShapes Go.ChangeAt Go.RowKit
open Go.ChangeMaps (setBlock)

def kvM (m : Mk) : Value × Value := (.string m.n, mkV m)
def deM : Value × Value → Mk
  | (_, .agg #[.string n, .int _ p, .int _ g]) => ⟨n, p, g⟩
  | _ => ⟨⟨#[]⟩, 0, 0⟩
theorem deM_kv (m : Mk) : deM (kvM m) = m := rfl
theorem perm_kvM {S L : List Mk} (h : (S.map kvM).Perm (L.map kvM)) : S.Perm L := by
  have := h.map deM
  simpa [List.map_map, Function.comp_def, deM_kv] using this
variable {P : Program}
/-- an iterator over a map whose entries are L: S came out, in this order -/
structure ItM (X : World) (ri bm : Nat) (L S : List Mk) : Prop where
  c : ∃ es clock since seen c0 se, X.heap[ri]? = some (.mapIter (some bm) since seen c0) ∧ X.heap[bm]? = some (.map es clock) ∧ EntM es clock L ∧ (∀ x ∈ es.toList, x.born < since) ∧ (since ≤ c0 ∧ since ≤ clock) ∧ (se ++ (leftOf es seen).toList).Perm es.toList ∧ se.map (fun e => (e.key, e.val)) = S.map kvM
def leftM (w : World) (bm ri : Nat) : Nat := match w.heap[ri]?, w.heap[bm]? with
  | some (.mapIter _ _ seen _), some (.map es _) => (leftOf es seen).size
  | _, _ => 0
theorem leftM_same {X Y : World} {bm ri : Nat} (h1 : Y.heap[ri]? = X.heap[ri]?) (h2 : Y.heap[bm]? = X.heap[bm]?) : leftM Y bm ri = leftM X bm ri := by
  unfold leftM; rw [h1, h2]
theorem ItM.start (X : World) {t k e : TypeId} (ht : P.underlying t = some (.map k e)) {bm : Nat} {L : List Mk} (h : IsMp X bm L) :
    ∃ o, (Instr.range t (.map (some bm))).run P X = .ok (.pointer (some ⟨X.heap.size, 0, none⟩)) (X.alloc o) ∧ ItM (X.alloc o) X.heap.size bm L [] := by
  have hlt := h.lt
  obtain ⟨es, clock, h1, h2⟩ := h
  refine ⟨_, run_range_map X t k e bm es clock ht h1, es, clock, clock, #[], clock, [], heap_alloc_new X _, ?_, h2, h2.b, ⟨Nat.le_refl _, Nat.le_refl _⟩, ?_, rfl⟩
  · rw [heap_alloc_old X _ hlt]; exact h1
  · unfold leftOf
    rw [Array.toList_filter, List.filter_eq_self.2 (by simp)]
    exact List.Perm.refl _
theorem left_permM (p : MapEntry → Bool) (e : MapEntry) : ∀ (es : List MapEntry), (es.map (·.born)).Nodup → e ∈ es.filter p → (es.filter p).Perm (e :: es.filter (fun x => p x && x.born != e.born))
  | [], _, h => by simp at h
  | x :: l, hn, he => by
    simp only [List.map_cons, List.nodup_cons] at hn
    by_cases hb : x.born = e.born
    · have hne : ∀ y ∈ l, y.born ≠ e.born := fun y hy h => hn.1 (by rw [hb, ← h]; exact List.mem_map.2 ⟨y, hy, rfl⟩)
      have hex : e = x := by
        rcases List.mem_cons.1 (List.mem_filter.1 he).1 with h | h
        · exact h
        · exact absurd rfl (hne e h)
      subst hex
      have hp := (List.mem_filter.1 he).2
      have hf : l.filter (fun y => p y && y.born != e.born) = l.filter p := List.filter_congr fun y hy => by
        have := hne y hy
        simp [this]
      rw [List.filter_cons_of_pos hp, List.filter_cons_of_neg (by simp), hf]
    · have hel : e ∈ l.filter p := by
        obtain ⟨h1, h2⟩ := List.mem_filter.1 he
        rcases List.mem_cons.1 h1 with h | h
        · exact absurd (by rw [h]) hb
        · exact List.mem_filter.2 ⟨h, h2⟩
      have ih := left_permM p e l hn.2 hel
      cases hp : p x with
      | true =>
        rw [List.filter_cons_of_pos hp, List.filter_cons_of_pos (by simp [hp, hb])]
        exact (ih.cons x).trans (List.Perm.swap e x _)
      | false =>
        rw [List.filter_cons_of_neg (by simp [hp]), List.filter_cons_of_neg (by simp [hp])]
        exact ih
theorem left_pushM {es : Array MapEntry} (hn : (es.toList.map (·.born)).Nodup) {seen : Array Nat} {e : MapEntry} (he : e ∈ (leftOf es seen).toList) : (leftOf es seen).toList.Perm (e :: (leftOf es (seen.push e.born)).toList) := by
  unfold leftOf at he ⊢
  rw [Array.toList_filter] at he ⊢
  rw [Array.toList_filter]
  have h := left_permM (fun x => !seen.contains x.born) e es.toList hn he
  have hf : es.toList.filter (fun x => !(seen.push e.born).contains x.born) = es.toList.filter (fun x => (!seen.contains x.born) && x.born != e.born) := List.filter_congr fun x _ => by
    rw [contains_push, Bool.not_or]; rfl
  rw [hf]; exact h
theorem ItM.same {X Y : World} {ri bm : Nat} {L S : List Mk} (h : ItM X ri bm L S) (h1 : Y.heap[ri]? = X.heap[ri]?) (h2 : Y.heap[bm]? = X.heap[bm]?) : ItM Y ri bm L S := by
  obtain ⟨es, clock, since, seen, c0, se, a, b, r⟩ := h.c
  exact ⟨es, clock, since, seen, c0, se, h1.trans a, h2.trans b, r⟩
theorem ItM.lt {X : World} {ri bm : Nat} {L S : List Mk} (h : ItM X ri bm L S) : ri < X.heap.size ∧ bm < X.heap.size := by
  obtain ⟨es, clock, since, seen, c0, se, a, b, _⟩ := h.c
  exact ⟨(Array.getElem?_eq_some_iff.1 a).1, (Array.getElem?_eq_some_iff.1 b).1⟩
theorem ItM.below {X Y : World} {ri bm N : Nat} {L S : List Mk} (h : ItM X ri bm L S) (hb : Below N X Y) (hN : X.heap.size ≤ N) : ItM Y ri bm L S := h.same (hb.block ri (Nat.lt_of_lt_of_le h.lt.1 hN)) (hb.block bm (Nat.lt_of_lt_of_le h.lt.2 hN))
/-- a step: nothing is left, or one more came -/
theorem ItM.next {X : World} {ri bm : Nat} {L S : List Mk} (h : ItM X ri bm L S) (ty : TypeId) :
    (S.Perm L ∧ (Instr.next (.pointer (some ⟨ri, 0, none⟩)) false ty).run P X = .ok (.tuple #[.bool false]) X) ∨
    ∃ m T X', (S ++ m :: T).Perm L ∧ (Instr.next (.pointer (some ⟨ri, 0, none⟩)) false ty).run P X = .ok (.tuple #[.bool true, .string m.n, mkV m]) X' ∧ (Instr.entry (.pointer (some ⟨ri, 0, none⟩))).run P X' = .ok (.tuple #[.string m.n, mkV m]) X' ∧ ItM X' ri bm L (S ++ [m]) ∧ X'.heap.size = X.heap.size ∧ (∀ k, k ≠ ri → X'.heap[k]? = X.heap[k]?) ∧ leftM X' bm ri < leftM X bm ri ∧ ∀ B, B ≤ ri → Below B X X' := by
  have hlt := h.lt
  obtain ⟨es, clock, since, seen, c0, se, h1, h2, h3, h4, h5, h6, h7⟩ := h.c
  have kv : es.toList.map (fun e => (e.key, e.val)) = L.map kvM := h3.v
  rcases run_next_at (P := P) X ty ri bm since c0 seen es clock h1 h2 h4 h5.1 with ⟨hz, hr⟩ | ⟨e, he, w1, hw, hr⟩
  · left
    refine ⟨perm_kvM ?_, hr⟩
    have : (leftOf es seen).toList = [] := by rw [Array.eq_empty_of_size_eq_zero hz]
    rw [this, List.append_nil] at h6
    have := h6.map (fun e => (e.key, e.val))
    rwa [h7, kv] at this
  · right
    have hes := (mem_left he).1
    obtain ⟨m, hm⟩ : ∃ m : Mk, (e.key, e.val) = kvM m := by
      have : (e.key, e.val) ∈ es.toList.map (fun e => (e.key, e.val)) := List.mem_map.2 ⟨e, hes, rfl⟩
      rw [kv] at this
      obtain ⟨m, _, hm⟩ := List.mem_map.1 this
      exact ⟨m, hm.symm⟩
    have hk : e.key = .string m.n := congrArg Prod.fst hm
    have hv : e.val = mkV m := congrArg Prod.snd hm
    have hp := left_pushM h3.d he
    have hperm : (se ++ e :: (leftOf es (seen.push e.born)).toList).Perm es.toList := (hp.symm.append_left se).trans h6
    have hheap : w1.heap = X.heap := by rcases hw with rfl | rfl <;> rfl
    have e1 : (setBlock w1 ri (.mapIter (some bm) since (seen.push e.born) clock)).heap[ri]? = some (.mapIter (some bm) since (seen.push e.born) clock) := by
      show (w1.heap.setIfInBounds ri _)[ri]? = _
      rw [hheap]; simp [hlt.1]
    have hne : ri ≠ bm := fun hq => by rw [hq, h2] at h1; cases h1
    have e2 : (setBlock w1 ri (.mapIter (some bm) since (seen.push e.born) clock)).heap[bm]? = some (.map es clock) := by
      show (w1.heap.setIfInBounds ri _)[bm]? = _
      rw [hheap, Array.getElem?_setIfInBounds_ne hne]; exact h2
    rw [hk, hv] at hr
    have hent := run_entry_at (P := P) _ ri bm since seen es clock e e1 e2 hes h3.d
    rw [hk, hv] at hent
    have hT : ∃ T : List Mk, (leftOf es (seen.push e.born)).toList.map (fun e => (e.key, e.val)) = T.map kvM := by
      have all : ∀ x ∈ (leftOf es (seen.push e.born)).toList, ∃ m : Mk, (x.key, x.val) = kvM m := fun x hx => by
        have : (x.key, x.val) ∈ es.toList.map (fun e => (e.key, e.val)) := List.mem_map.2 ⟨x, (mem_left hx).1, rfl⟩
        rw [kv] at this
        obtain ⟨m, _, hm⟩ := List.mem_map.1 this
        exact ⟨m, hm.symm⟩
      generalize (leftOf es (seen.push e.born)).toList = l at all
      clear hperm hp
      induction l with
      | nil => exact ⟨[], rfl⟩
      | cons x l ih =>
        obtain ⟨m, hm⟩ := all x (by simp)
        obtain ⟨T, hT⟩ := ih (fun y hy => all y (by simp [hy]))
        exact ⟨m :: T, by simp [hm, hT]⟩
    obtain ⟨T, hT⟩ := hT
    refine ⟨m, T, _, perm_kvM ?_, hr, hent, ⟨es, clock, since, seen.push e.born, clock, se ++ [e], e1, e2, h3, h4, ?_, ?_, ?_⟩, ?_, fun k hk => ?_, ?_, fun B hB => ?_⟩
    · have := hperm.map (fun e => (e.key, e.val))
      rw [kv] at this
      simpa [h7, hT, hm] using this
    · exact ⟨h5.2, h5.2⟩
    · simpa using hperm
    · simp [h7, hm]
    · show (w1.heap.setIfInBounds ri _).size = _
      rw [hheap]; simp
    · show (w1.heap.setIfInBounds ri _)[k]? = _
      rw [hheap, Array.getElem?_setIfInBounds_ne (Ne.symm hk)]
    · unfold leftM
      rw [e1, e2, h1, h2]
      exact left_shrinks es seen e he
    · rcases hw with rfl | rfl
      · refine ⟨rfl, rfl, rfl, by show _ ≤ (Array.setIfInBounds _ _ _).size; simp, fun k hk => ?_⟩
        show (Array.setIfInBounds _ ri _)[k]? = _
        rw [Array.getElem?_setIfInBounds_ne (by omega)]
      · refine ⟨rfl, rfl, rfl, by show _ ≤ (Array.setIfInBounds _ _ _).size; simp, fun k hk => ?_⟩
        show (Array.setIfInBounds _ ri _)[k]? = _
        rw [Array.getElem?_setIfInBounds_ne (by omega)]
        first | done | rfl
end Go.Proofs.Ytfllomlighlejaa
end

section
namespace Go.Proofs.Ytfllomlighlejaa
open Go.ChangeShapes Go.WideShapes Go.ChangeAt Go.RowKit
attribute [local go_sem] Oper.semAt_some

def txsV (ts : List (List Int)) : List Value := ts.map fun t => .string (strOfNums t)
theorem txsV_snoc (ts : List (List Int)) (t : List Int) : txsV (ts ++ [t]) = txsV ts ++ [.string (strOfNums t)] := by simp [txsV]
theorem heap_set {X : World} {g i : Nat} {cs : Array Value} {t : TypeId} {m : Nat × Nat} (h : X.heap[g]? = some (.cells cs t m)) (v : Value) : (X.setCell ⟨g, i, none⟩ v).heap[g]? = some (.cells (cs.setIfInBounds i v) t m) := by
  have hl := (Array.getElem?_eq_some_iff.1 h).1
  show (X.heap.modify g _)[g]? = _
  rw [Array.getElem?_eq_getElem hl] at h
  rw [Array.getElem?_eq_getElem (by rw [Array.size_modify]; exact hl), Array.getElem_modify_self, Option.some.inj h]
  rfl
theorem str_empD (t : List Int) : (strOfNums t).toList.isEmpty = t.isEmpty := by
  rw [Lib.strOfNums_toList]
  cases t <;> rfl
end Go.Proofs.Ytfllomlighlejaa
end

section
namespace Go.Proofs.Ytfllomlighlejaa
open Go.ChangeShapes Go.WideShapes Go.ChangeAt Go.RowKit
attribute [local go_sem] Oper.semAt_some

theorem all_take (d : List Dop) (p : Dop → Bool) {k : Nat} (hk : k < d.length) : (d.take (k + 1)).all p = ((d.take k).all p && p (d.getD k opZ)) := by
  rw [List.take_add_one, List.getElem?_eq_getElem hk, Option.toList_some, List.all_append]
  simp [List.getD_eq_getElem?_getD, List.getElem?_eq_getElem hk]
theorem all_no (d : List Dop) (p : Dop → Bool) {k : Nat} (hk : k < d.length) (h : p (d.getD k opZ) = false) : d.all p = false := by
  rw [List.all_eq_false]
  refine ⟨d[k], List.getElem_mem hk, ?_⟩
  rw [List.getD_eq_getElem?_getD, List.getElem?_eq_getElem hk] at h
  simpa using h
def thisN (k : Int) : Int := if k = 1 then 1 else if k = 2 then 2 else if k = 3 then 4 else 0
def nextN (k : Int) : Int := if k = 1 then 6 else if k = 2 then 5 else if k = 3 then 1 else 0
set_option maxRecDepth 100000 in
theorem turn_at (k : Int) (w : World) : Calls Try.prog 71 #[.int .i64 k] w fun y w' => y = .returned (.tuple #[.int .i64 (thisN k), .int .i64 (nextN k)]) ∧ Below w.heap.size w w' := by
  unfold thisN nextN
  by_cases h1 : k = 1
  · subst h1
    go_enter Try.func71, Try.ntmps71
    go_wp2_with fail
    refine bodyPost_ret (results_tmp2 rfl _ _ _) rfl ⟨rfl, Below.refl _ _⟩
  by_cases h2 : k = 2
  · subst h2
    go_enter Try.func71, Try.ntmps71
    go_wp2_with fail
    refine bodyPost_ret (results_tmp2 rfl _ _ _) rfl ⟨rfl, Below.refl _ _⟩
  by_cases h3 : k = 3
  · subst h3
    go_enter Try.func71, Try.ntmps71
    go_wp2_with fail
    refine bodyPost_ret (results_tmp2 rfl _ _ _) rfl ⟨rfl, Below.refl _ _⟩
  · rw [if_neg h1, if_neg h2, if_neg h3, if_neg h1, if_neg h2, if_neg h3]
    have t1 : (k == 1) = false := by simpa using h1
    have t2 : (k == 2) = false := by simpa using h2
    have t3 : (k == 3) = false := by simpa using h3
    clear h1 h2 h3
    go_enter Try.func71, Try.ntmps71
    go_wp2_with fail
    refine bodyPost_ret (results_tmp2 rfl _ _ _) rfl ⟨rfl, Below.refl _ _⟩
def knB (o : Dop) : Bool := (o.k == 1 || o.k == 2 || o.k == 3) && (o.k == 2 || decide (0 ≤ o.n))
theorem known_cases (o : Dop) : (knB o = true ∧ (thisN o.k == 0) = false ∧ ((o.k != 2) = false ∨ ((o.k != 2) = true ∧ decide (o.n < 0) = false))) ∨ (knB o = false ∧ ((thisN o.k == 0) = true ∨ ((thisN o.k == 0) = false ∧ (o.k != 2) = true ∧ decide (o.n < 0) = true))) := by
  obtain ⟨k, n, t⟩ := o
  unfold knB thisN
  dsimp only
  by_cases h1 : k = 1
  · subst h1; by_cases hn : n < 0 <;> simp [hn] <;> omega
  by_cases h2 : k = 2
  · subst h2; simp
  by_cases h3 : k = 3
  · subst h3; by_cases hn : n < 0 <;> simp [hn] <;> omega
  · simp [h1, h2, h3]
end Go.Proofs.Ytfllomlighlejaa
end
