/- Layer 16: ranging over a map of ranges: which entries came, and which are left. · Layer 16: Behind's loop in memory. -/
import Derived.Test.YtifpjdodignflaaRv00
import Derived.Maps.RangeRun
import Derived.Test.YtifpjdodignflaaRv33

section
namespace Go.Proofs.Ytifpjdodignflaa
open Go.ChangeShapes Go.WideShapes Go.ChangeAt Go.RowKit
open Go.ChangeMaps (setBlock)

def kvR (m : Rg) : Value × Value := (.string m.n, rgV m)
def deR : Value × Value → Rg
  | (_, .agg #[.string n, .int _ lo, .int _ hi, .int _ st, .int _ en]) => ⟨n, lo, hi, st, en⟩
  | _ => ⟨⟨#[]⟩, 0, 0, 0, 0⟩
theorem deR_kv (m : Rg) : deR (kvR m) = m := rfl
theorem perm_kvR {S L : List Rg} (h : (S.map kvR).Perm (L.map kvR)) : S.Perm L := by
  have := h.map deR
  simpa [List.map_map, Function.comp_def, deR_kv] using this
variable {P : Program}
/-- an iterator over a map whose entries are L: S came out, in this order -/
structure ItG (X : World) (ri bm : Nat) (L S : List Rg) : Prop where
  c : ∃ es clock since seen c0 se, X.heap[ri]? = some (.mapIter (some bm) since seen c0) ∧ X.heap[bm]? = some (.map es clock) ∧ EntR es clock L ∧ (∀ x ∈ es.toList, x.born < since) ∧ (since ≤ c0 ∧ since ≤ clock) ∧ (se ++ (leftOf es seen).toList).Perm es.toList ∧ se.map (fun e => (e.key, e.val)) = S.map kvR
def leftN (w : World) (bm ri : Nat) : Nat := match w.heap[ri]?, w.heap[bm]? with
  | some (.mapIter _ _ seen _), some (.map es _) => (leftOf es seen).size
  | _, _ => 0
theorem leftN_same {X Y : World} {bm ri : Nat} (h1 : Y.heap[ri]? = X.heap[ri]?) (h2 : Y.heap[bm]? = X.heap[bm]?) : leftN Y bm ri = leftN X bm ri := by
  unfold leftN; rw [h1, h2]
theorem ItG.start (X : World) {t k e : TypeId} (ht : P.underlying t = some (.map k e)) {bm : Nat} {L : List Rg} (h : IsRp X bm L) :
    ∃ o, (Instr.range t (.map (some bm))).run P X = .ok (.pointer (some ⟨X.heap.size, 0, none⟩)) (X.alloc o) ∧ ItG (X.alloc o) X.heap.size bm L [] := by
  have hlt := h.lt
  obtain ⟨es, clock, h1, h2⟩ := h
  refine ⟨_, run_range_map X t k e bm es clock ht h1, es, clock, clock, #[], clock, [], heap_alloc_new X _, ?_, h2, h2.b, ⟨Nat.le_refl _, Nat.le_refl _⟩, ?_, rfl⟩
  · rw [heap_alloc_old X _ hlt]; exact h1
  · unfold leftOf
    rw [Array.toList_filter, List.filter_eq_self.2 (by simp)]
    exact List.Perm.refl _
theorem left_perm (p : MapEntry → Bool) (e : MapEntry) : ∀ (es : List MapEntry), (es.map (·.born)).Nodup → e ∈ es.filter p → (es.filter p).Perm (e :: es.filter (fun x => p x && x.born != e.born))
  | [], _, h => by simp at h
  | x :: l, hn, he => by
    simp only [List.map_cons, List.nodup_cons] at hn
    by_cases hb : x.born = e.born
    · have hne : ∀ y ∈ l, y.born ≠ e.born := fun y hy h => hn.1 (by rw [hb, ← h]; exact List.mem_map.2 ⟨y, hy, rfl⟩)
      have hex : e = x := by
        rcases List.mem_cons.1 (List.mem_filter.1 he).1 with h | h
        · exact h
        · exact absurd rfl (hne e h)
      subst hex
      have hp := (List.mem_filter.1 he).2
      have hf : l.filter (fun y => p y && y.born != e.born) = l.filter p := List.filter_congr fun y hy => by
        have := hne y hy
        simp [this]
      rw [List.filter_cons_of_pos hp, List.filter_cons_of_neg (by simp), hf]
    · have hel : e ∈ l.filter p := by
        obtain ⟨h1, h2⟩ := List.mem_filter.1 he
        rcases List.mem_cons.1 h1 with h | h
        · exact absurd (by rw [h]) hb
        · exact List.mem_filter.2 ⟨h, h2⟩
      have ih := left_perm p e l hn.2 hel
      cases hp : p x with
      | true =>
        rw [List.filter_cons_of_pos hp, List.filter_cons_of_pos (by simp [hp, hb])]
        exact (ih.cons x).trans (List.Perm.swap e x _)
      | false =>
        rw [List.filter_cons_of_neg (by simp [hp]), List.filter_cons_of_neg (by simp [hp])]
        exact ih
theorem left_push {es : Array MapEntry} (hn : (es.toList.map (·.born)).Nodup) {seen : Array Nat} {e : MapEntry} (he : e ∈ (leftOf es seen).toList) : (leftOf es seen).toList.Perm (e :: (leftOf es (seen.push e.born)).toList) := by
  unfold leftOf at he ⊢
  rw [Array.toList_filter] at he ⊢
  rw [Array.toList_filter]
  have h := left_perm (fun x => !seen.contains x.born) e es.toList hn he
  have hf : es.toList.filter (fun x => !(seen.push e.born).contains x.born) = es.toList.filter (fun x => (!seen.contains x.born) && x.born != e.born) := List.filter_congr fun x _ => by
    rw [contains_push, Bool.not_or]; rfl
  rw [hf]; exact h
theorem ItG.same {X Y : World} {ri bm : Nat} {L S : List Rg} (h : ItG X ri bm L S) (h1 : Y.heap[ri]? = X.heap[ri]?) (h2 : Y.heap[bm]? = X.heap[bm]?) : ItG Y ri bm L S := by
  obtain ⟨es, clock, since, seen, c0, se, a, b, r⟩ := h.c
  exact ⟨es, clock, since, seen, c0, se, h1.trans a, h2.trans b, r⟩
theorem ItG.lt {X : World} {ri bm : Nat} {L S : List Rg} (h : ItG X ri bm L S) : ri < X.heap.size ∧ bm < X.heap.size := by
  obtain ⟨es, clock, since, seen, c0, se, a, b, _⟩ := h.c
  exact ⟨(Array.getElem?_eq_some_iff.1 a).1, (Array.getElem?_eq_some_iff.1 b).1⟩
theorem ItG.below {X Y : World} {ri bm N : Nat} {L S : List Rg} (h : ItG X ri bm L S) (hb : Below N X Y) (hN : X.heap.size ≤ N) : ItG Y ri bm L S := h.same (hb.block ri (Nat.lt_of_lt_of_le h.lt.1 hN)) (hb.block bm (Nat.lt_of_lt_of_le h.lt.2 hN))
/-- a step: nothing is left, or one more came -/
theorem ItG.next {X : World} {ri bm : Nat} {L S : List Rg} (h : ItG X ri bm L S) (ty : TypeId) :
    (S.Perm L ∧ (Instr.next (.pointer (some ⟨ri, 0, none⟩)) false ty).run P X = .ok (.tuple #[.bool false]) X) ∨
    ∃ m T X', (S ++ m :: T).Perm L ∧ (Instr.next (.pointer (some ⟨ri, 0, none⟩)) false ty).run P X = .ok (.tuple #[.bool true, .string m.n, rgV m]) X' ∧ (Instr.entry (.pointer (some ⟨ri, 0, none⟩))).run P X' = .ok (.tuple #[.string m.n, rgV m]) X' ∧ ItG X' ri bm L (S ++ [m]) ∧ X'.heap.size = X.heap.size ∧ (∀ k, k ≠ ri → X'.heap[k]? = X.heap[k]?) ∧ leftN X' bm ri < leftN X bm ri ∧ ∀ B, B ≤ ri → Below B X X' := by
  have hlt := h.lt
  obtain ⟨es, clock, since, seen, c0, se, h1, h2, h3, h4, h5, h6, h7⟩ := h.c
  have kv : es.toList.map (fun e => (e.key, e.val)) = L.map kvR := h3.v
  rcases run_next_at (P := P) X ty ri bm since c0 seen es clock h1 h2 h4 h5.1 with ⟨hz, hr⟩ | ⟨e, he, w1, hw, hr⟩
  · left
    refine ⟨perm_kvR ?_, hr⟩
    have : (leftOf es seen).toList = [] := by rw [Array.eq_empty_of_size_eq_zero hz]
    rw [this, List.append_nil] at h6
    have := h6.map (fun e => (e.key, e.val))
    rwa [h7, kv] at this
  · right
    have hes := (mem_left he).1
    obtain ⟨m, hm⟩ : ∃ m : Rg, (e.key, e.val) = kvR m := by
      have : (e.key, e.val) ∈ es.toList.map (fun e => (e.key, e.val)) := List.mem_map.2 ⟨e, hes, rfl⟩
      rw [kv] at this
      obtain ⟨m, _, hm⟩ := List.mem_map.1 this
      exact ⟨m, hm.symm⟩
    have hk : e.key = .string m.n := congrArg Prod.fst hm
    have hv : e.val = rgV m := congrArg Prod.snd hm
    have hp := left_push h3.d he
    have hperm : (se ++ e :: (leftOf es (seen.push e.born)).toList).Perm es.toList := (hp.symm.append_left se).trans h6
    have hheap : w1.heap = X.heap := by rcases hw with rfl | rfl <;> rfl
    have e1 : (setBlock w1 ri (.mapIter (some bm) since (seen.push e.born) clock)).heap[ri]? = some (.mapIter (some bm) since (seen.push e.born) clock) := by
      show (w1.heap.setIfInBounds ri _)[ri]? = _
      rw [hheap]; simp [hlt.1]
    have hne : ri ≠ bm := fun hq => by rw [hq, h2] at h1; cases h1
    have e2 : (setBlock w1 ri (.mapIter (some bm) since (seen.push e.born) clock)).heap[bm]? = some (.map es clock) := by
      show (w1.heap.setIfInBounds ri _)[bm]? = _
      rw [hheap, Array.getElem?_setIfInBounds_ne hne]; exact h2
    rw [hk, hv] at hr
    have hent := run_entry_at (P := P) _ ri bm since seen es clock e e1 e2 hes h3.d
    rw [hk, hv] at hent
    have hT : ∃ T : List Rg, (leftOf es (seen.push e.born)).toList.map (fun e => (e.key, e.val)) = T.map kvR := by
      have all : ∀ x ∈ (leftOf es (seen.push e.born)).toList, ∃ m : Rg, (x.key, x.val) = kvR m := fun x hx => by
        have : (x.key, x.val) ∈ es.toList.map (fun e => (e.key, e.val)) := List.mem_map.2 ⟨x, (mem_left hx).1, rfl⟩
        rw [kv] at this
        obtain ⟨m, _, hm⟩ := List.mem_map.1 this
        exact ⟨m, hm.symm⟩
      generalize (leftOf es (seen.push e.born)).toList = l at all
      clear hperm hp
      induction l with
      | nil => exact ⟨[], rfl⟩
      | cons x l ih =>
        obtain ⟨m, hm⟩ := all x (by simp)
        obtain ⟨T, hT⟩ := ih (fun y hy => all y (by simp [hy]))
        exact ⟨m :: T, by simp [hm, hT]⟩
    obtain ⟨T, hT⟩ := hT
    refine ⟨m, T, _, perm_kvR ?_, hr, hent, ⟨es, clock, since, seen.push e.born, clock, se ++ [e], e1, e2, h3, h4, ?_, ?_, ?_⟩, ?_, fun k hk => ?_, ?_, fun B hB => ?_⟩
    · have := hperm.map (fun e => (e.key, e.val))
      rw [kv] at this
      simpa [h7, hT, hm] using this
    · exact ⟨h5.2, h5.2⟩
    · simpa using hperm
    · simp [h7, hm]
    · show (w1.heap.setIfInBounds ri _).size = _
      rw [hheap]; simp
    · show (w1.heap.setIfInBounds ri _)[k]? = _
      rw [hheap, Array.getElem?_setIfInBounds_ne (Ne.symm hk)]
    · unfold leftN
      rw [e1, e2, h1, h2]
      exact left_shrinks es seen e he
    · rcases hw with rfl | rfl
      · refine ⟨rfl, rfl, rfl, by show _ ≤ (Array.setIfInBounds _ _ _).size; simp, fun k hk => ?_⟩
        show (Array.setIfInBounds _ ri _)[k]? = _
        rw [Array.getElem?_setIfInBounds_ne (by omega)]
      · refine ⟨rfl, rfl, rfl, by show _ ≤ (Array.setIfInBounds _ _ _).size; simp, fun k hk => ?_⟩
        show (Array.setIfInBounds _ ri _)[k]? = _
        rw [Array.getElem?_setIfInBounds_ne (by omega)]
        first | done | rfl
end Go.Proofs.Ytifpjdodignflaa
end

section
namespace Go.Proofs.Ytifpjdodignflaa
open Go.ChangeShapes Go.WideShapes Go.ChangeAt Go.RowKit
attribute [local go_sem] Oper.semAt_some

theorem run_makeMapN (w : World) (n : Nat) : (Instr.makeMap 65 (some (.int .i64 (n : Int)))).run Try.prog w = .ok (.map (some w.heap.size)) (w.alloc (.map #[] 0)) := by
  unfold Instr.makeMap
  simp only [Sem.run_bind, run_underlying Try.underlying65, Result.andThen]
  rfl
def kpG (d : List Dop) (S : List Rg) : List Rg := (S.map (mvG d)).filter (fun m => decide (m.lo < m.hi))
def goG (d : List Dop) (S : List Rg) : List ByteArray := ((S.map (mvG d)).filter (fun m => !decide (m.lo < m.hi))).map (·.n)
def strsV (l : List ByteArray) : List Value := l.map .string
theorem kp_snoc (d : List Dop) (S : List Rg) (m : Rg) : kpG d (S ++ [m]) = if (mvG d m).lo < (mvG d m).hi then kpG d S ++ [mvG d m] else kpG d S := by
  unfold kpG
  by_cases h : (mvG d m).lo < (mvG d m).hi <;> simp [List.filter_append, h]
theorem go_snoc (d : List Dop) (S : List Rg) (m : Rg) : goG d (S ++ [m]) = if (mvG d m).lo < (mvG d m).hi then goG d S else goG d S ++ [m.n] := by
  unfold goG
  rw [List.map_append, List.filter_append, List.map_append, List.map_singleton]
  have e : (mvG d m).n = m.n := rfl
  by_cases h : (mvG d m).lo < (mvG d m).hi
  · rw [if_pos h, List.filter_cons_of_neg (by simp [h])]; simp
  · rw [if_neg h, List.filter_cons_of_pos (by simp [h])]; simp [e]
/-- what Behind's loop keeps: the iterator (I came out), the new map and the names that went (for S) -/
structure GbJ (X wx : World) (ri r2 bm : Nat) (d : List Dop) (L I S : List Rg) (v11 : Value) : Prop where
  it : ItG wx ri bm L I
  mp : IsRp wx r2 (kpG d S)
  go : wx.ownsRow X.heap.size 9 1 v11 (goG d S).length (strsV (goG d S))
  dd : Below X.heap.size X wx
  nn : X.heap.size ≤ ri ∧ X.heap.size ≤ r2
theorem IsRp.ne_it {X : World} {r ri bm : Nat} {K L S : List Rg} (h : IsRp X r K) (hi : ItG X ri bm L S) : r ≠ ri := fun e => by
  obtain ⟨es, clock, h1, _⟩ := h
  obtain ⟨_, _, _, _, _, _, a, _⟩ := hi.c
  rw [e, a] at h1; cases h1
theorem GbJ.on {X wx wy : World} {ri r2 bm : Nat} {d : List Dop} {L I S : List Rg} {v11 : Value} (h : GbJ X wx ri r2 bm d L I S v11) (hb : Below wx.heap.size wx wy) : GbJ X wy ri r2 bm d L I S v11 :=
  ⟨h.it.below hb (Nat.le_refl _), h.mp.below hb (Nat.le_refl _), rowD_below h.go hb (Nat.le_refl _), h.dd.trans (hb.mono h.dd.size), h.nn⟩
theorem GbJ.next {X wx : World} {ri r2 bm : Nat} {d : List Dop} {L S : List Rg} {v11 : Value} (h : GbJ X wx ri r2 bm d L S S v11) (ty : TypeId) :
    (S.Perm L ∧ (Instr.next (.pointer (some ⟨ri, 0, none⟩)) false ty).run Try.prog wx = .ok (.tuple #[.bool false]) wx) ∨
    ∃ m T X', (S ++ m :: T).Perm L ∧ (Instr.next (.pointer (some ⟨ri, 0, none⟩)) false ty).run Try.prog wx = .ok (.tuple #[.bool true, .string m.n, rgV m]) X' ∧ (Instr.entry (.pointer (some ⟨ri, 0, none⟩))).run Try.prog X' = .ok (.tuple #[.string m.n, rgV m]) X' ∧ GbJ X X' ri r2 bm d L (S ++ [m]) S v11 ∧ leftN X' bm ri < leftN wx bm ri := by
  rcases h.it.next (P := Try.prog) ty with h1 | ⟨m, T, X', p, r, e, i, hs, hk, hl, hb⟩
  · exact .inl h1
  · refine .inr ⟨m, T, X', p, r, e, ⟨i, h.mp.same (hk _ (h.mp.ne_it h.it)), rowD_on h.go fun G hG => hk G fun eq => ?_, h.dd.trans (hb _ h.nn.1), h.nn⟩, hl⟩
    obtain ⟨_, c, hc⟩ := rowD_block h.go hG
    obtain ⟨_, _, _, _, _, _, a, _⟩ := h.it.c
    rw [eq, a] at hc; cases hc
theorem strsV_snoc (l : List ByteArray) (x : ByteArray) : strsV (l ++ [x]) = strsV l ++ [.string x] := by simp [strsV]
theorem atG_none {s : ByteArray} : ∀ {K : List Rg} {i : Nat}, (∀ m ∈ K, m.n ≠ s) → atG s K i = none
  | [], _, _ => rfl
  | m :: K, i, h => by
    unfold atG
    have h1 : (s == m.n) = false := by
      cases hc : s == m.n with
      | false => rfl
      | true => exact absurd ((MapKept.bytes_beq _ _).1 hc).symm (h m (by simp))
    rw [h1]
    simp only [Bool.false_eq_true, if_false]
    exact atG_none fun x hx => h x (by simp [hx])
theorem kp_names {d : List Dop} {S : List Rg} {x : Rg} (h : x ∈ kpG d S) : ∃ m ∈ S, m.n = x.n := by
  unfold kpG at h
  obtain ⟨m, hm, rfl⟩ := List.mem_map.1 (List.mem_filter.1 h).1
  exact ⟨m, hm, rfl⟩
theorem put_kp {d : List Dop} {L S T : List Rg} {m : Rg} (hp : (S ++ m :: T).Perm L) (hn : (L.map (·.n)).Nodup) : putG (mvG d m) (kpG d S) = kpG d S ++ [mvG d m] := by
  have h1 : ((S ++ m :: T).map (·.n)).Nodup := (hp.map (·.n)).nodup_iff.2 hn
  rw [List.map_append, List.map_cons, List.nodup_append] at h1
  have h2 : atG (mvG d m).n (kpG d S) 0 = none := atG_none fun x hx e => by
    obtain ⟨y, hy, he⟩ := kp_names hx
    exact h1.2.2 y.n (List.mem_map.2 ⟨y, hy, rfl⟩) m.n (by simp) (he.trans e)
  unfold putG
  rw [h2]
/-- one that stays -/
theorem GbJ.put {X wx : World} {ri r2 bm : Nat} {d : List Dop} {L S T : List Rg} {m : Rg} {v11 : Value} (h : GbJ X wx ri r2 bm d L (S ++ [m]) S v11) (hp : (S ++ m :: T).Perm L) (hn : (L.map (·.n)).Nodup) (hb : bm < X.heap.size) (hk : (mvG d m).lo < (mvG d m).hi) :
    ∃ o, (Instr.mapUpdate 65 (.map (some r2)) (.string m.n) (rgV (mvG d m))).run Try.prog wx = .ok () { wx with heap := wx.heap.setIfInBounds r2 o } ∧ GbJ X { wx with heap := wx.heap.setIfInBounds r2 o } ri r2 bm d L (S ++ [m]) (S ++ [m]) v11 ∧ leftN { wx with heap := wx.heap.setIfInBounds r2 o } bm ri = leftN wx bm ri := by
  obtain ⟨o, r, i⟩ := run_update_rg (P := Try.prog) wx Try.underlying65 Try.underlying9 h.mp (mvG d m)
  rw [put_kp hp hn] at i
  have hne := h.mp.ne_it h.it
  have e1 : ({ wx with heap := wx.heap.setIfInBounds r2 o } : World).heap[ri]? = wx.heap[ri]? := by simp [hne]
  have e2 : ({ wx with heap := wx.heap.setIfInBounds r2 o } : World).heap[bm]? = wx.heap[bm]? := by
    have : r2 ≠ bm := by have := h.nn.2; omega
    simp [this]
  refine ⟨o, r, ⟨h.it.same e1 e2, ?_, ?_, belowR_block h.dd o h.nn.2, h.nn⟩, leftN_same e1 e2⟩
  · rw [kp_snoc, if_pos hk]; exact i
  · rw [go_snoc, if_pos hk]
    refine rowD_on h.go fun G hG => ?_
    have : r2 ≠ G := fun e => by
      obtain ⟨_, c, hc⟩ := rowD_block h.go hG
      obtain ⟨es, cl, h1, _⟩ := h.mp
      rw [← e, h1] at hc; cases hc
    simp [this]
/-- one that goes -/
theorem GbJ.goes {X wx : World} {ri r2 bm : Nat} {d : List Dop} {L S : List Rg} {m : Rg} {v11 : Value} (h : GbJ X wx ri r2 bm d L (S ++ [m]) S v11) (hb : bm < X.heap.size) (hk : ¬ (mvG d m).lo < (mvG d m).hi) (hl : (goG d S).length ≤ 4398046511104) :
    ∃ v' W', (Builtin.append_ #[49, 49] 49 #[v11, .slice (some ⟨wx.heap.size, 0, none⟩) 1 1]).run Try.prog (wx.alloc (.cells #[.string m.n] 9)) = .ok v' W' ∧ GbJ X W' ri r2 bm d L (S ++ [m]) (S ++ [m]) v' ∧ leftN W' bm ri = leftN wx bm ri := by
  obtain ⟨g, c, W', r, ho, hg, bb⟩ := push_str wx X.heap.size (goG d S).length v11 (strsV (goG d S)) m.n 49 h.go hl h.dd.size
  have hri := h.it.lt
  have hne : ∀ k, k < wx.heap.size → (∀ cs t mk, wx.heap[k]? ≠ some (.cells cs t mk)) → W'.heap[k]? = wx.heap[k]? := fun k hk hc => hg.block k hk fun e => by
    obtain ⟨_, cur, hcur⟩ := rowD_block h.go e.symm
    exact hc _ _ _ hcur
  have e1 : W'.heap[ri]? = wx.heap[ri]? := hne ri hri.1 fun cs t mk hq => by
    obtain ⟨_, _, _, _, _, _, a, _⟩ := h.it.c
    rw [a] at hq; cases hq
  have e2 : W'.heap[bm]? = wx.heap[bm]? := bb.block bm hb
  have e3 : W'.heap[r2]? = wx.heap[r2]? := hne r2 h.mp.lt fun cs t mk hq => by
    obtain ⟨es, cl, h1, _⟩ := h.mp
    rw [h1] at hq; cases hq
  refine ⟨_, W', r, ⟨h.it.same e1 e2, ?_, ?_, h.dd.trans bb, h.nn⟩, leftN_same e1 e2⟩
  · rw [kp_snoc, if_neg hk]; exact h.mp.same e3
  · rw [go_snoc, if_neg hk, strsV_snoc, List.length_append, List.length_singleton]; exact ho
end Go.Proofs.Ytifpjdodignflaa
end
