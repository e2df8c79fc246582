/- Layer 16: moved. · Layer 16: ranging over a map of ranges: which entries came, and which are left. -/
import Derived.Test.YtifpjdodignflaaMg13
import Derived.Test.YtifpjdodignflaaMg42
import Derived.Test.YtifpjdodignflaaMg00
import Derived.Maps.RangeRun

section
namespace Go.Proofs.Ytifpjdodignflaa
open Go.ChangeShapes Go.WideShapes Go.ChangeAt Go.RowKit
attribute [local go_sem] Oper.semAt_some

def mvG (d : List Dop) (m : Rg) : Rg := ⟨m.n, plV d m.lo m.st, plV d m.hi m.en, m.st, m.en⟩
set_option maxRecDepth 100000 in
set_option maxHeartbeats 2000000 in
theorem GMov_at (a : Option Addr) (c : Nat) (d : List Dop) (m : Rg) (X : World) (h : IsO X a d) (hl : d.length ≤ 4611686018427387904) :
    Calls Try.prog 36 #[rgV m, .slice a d.length c] X fun y X' => y = .returned (rgV (mvG d m)) ∧ Below X.heap.size X X' := by
  obtain ⟨xn, xl, xh, xs, xe⟩ := m
  unfold mvG rgV
  dsimp only
  have b1 := (Below.refl X.heap.size X).alloc (Nat.le_refl _) (.cells #[.string xn, .int .i64 xl, .int .i64 xh, .int .i64 xs, .int .i64 xe] 37)
  have b2 := b1.alloc b1.size (.cells #[.string ⟨#[]⟩, .int .i64 0, .int .i64 0, .int .i64 0, .int .i64 0] 37)
  have k1 := (Cls.new X 37 #[.string xn, .int .i64 xl, .int .i64 xh, .int .i64 xs, .int .i64 xe]).alloc (.cells #[.string ⟨#[]⟩, .int .i64 0, .int .i64 0, .int .i64 0, .int .i64 0] 37)
  have k2 := Cls.new (X.alloc (.cells #[.string xn, .int .i64 xl, .int .i64 xh, .int .i64 xs, .int .i64 xe] 37)) 37 #[.string ⟨#[]⟩, .int .i64 0, .int .i64 0, .int .i64 0, .int .i64 0]
  rw [World.size_alloc] at k2
  have HP1 := hide fun (Y : World) (hY : Below X.heap.size X Y) => Place_at a c d xl xs Y (h.below hY (Nat.le_refl _)) hl
  have HP2 := hide fun (Y : World) (hY : Below X.heap.size X Y) => Place_at a c d xh xe Y (h.below hY (Nat.le_refl _)) hl
  generalize plV d xl xs = V1 at *
  generalize plV d xh xe = V2 at *
  generalize plE d xl xs = E1 at *
  generalize plE d xh xe = E2 at *
  have HB := hide b2
  have HK := hide (And.intro k1 k2)
  have d1 := k1.cell 1
  have d3 := k1.cell 3
  simp only [List.getElem?_toArray, List.getElem?_cons_zero, List.getElem?_cons_succ] at d1 d3
  have HC1 := hide (unhide HP1 _ b2)
  clear h hl b1 b2 k1 k2 HP1
  go_enter Try.func36, Try.ntmps36
  go_wp2_with fail
  refine (unhide HC1).mono ?_
  rintro y w1 ⟨rfl, x1⟩
  dsimp only
  have hb1 := (unhide HB).trans (x1.mono (unhide HB).size)
  have k1 := (unhide HK).1.below x1 (unhide HK).1.lt
  have k2 := (unhide HK).2.below x1 (unhide HK).2.lt
  have e1 := k1.cell 1
  have f1 := k1.frozen 1
  simp only [List.getElem?_toArray, List.getElem?_cons_zero, List.getElem?_cons_succ] at e1
  have k3 := k1.set 1 (.int .i64 V1)
  simp only [List.setIfInBounds_toArray, List.set_cons_zero, List.set_cons_succ] at k3
  have k4 := k2.other ⟨X.heap.size, 1, none⟩ (.int .i64 V1) (by simp)
  have HB3 := hide (hb1.setCell (p := ⟨X.heap.size, 1, none⟩) (Nat.le_refl _) (.int .i64 V1))
  have HK3 := hide (And.intro k3 k4)
  clear HC1 HB HK d1 d3 x1 hb1 k1 k2 k3 k4
  go_upto_region 2 with fail
  clear e1 f1
  generalize w1.setCell ⟨X.heap.size, 1, none⟩ (.int .i64 V1) = w2 at *
  have d2 := (unhide HK3).1.cell 2
  have d4 := (unhide HK3).1.cell 4
  simp only [List.getElem?_toArray, List.getElem?_cons_zero, List.getElem?_cons_succ] at d2 d4
  have HC2 := hide (unhide HP2 w2 (unhide HB3))
  clear HP2
  go_wp2_with fail
  refine (unhide HC2).mono ?_
  rintro y w3 ⟨rfl, x3⟩
  dsimp only
  have hb3 := (unhide HB3).trans (x3.mono (unhide HB3).size)
  have k1 := (unhide HK3).1.below x3 (unhide HK3).1.lt
  have k2 := (unhide HK3).2.below x3 (unhide HK3).2.lt
  have e2 := k1.cell 2
  have f2 := k1.frozen 2
  simp only [List.getElem?_toArray, List.getElem?_cons_zero, List.getElem?_cons_succ] at e2
  have k3 := k1.set 2 (.int .i64 V2)
  simp only [List.setIfInBounds_toArray, List.set_cons_zero, List.set_cons_succ] at k3
  have k4 := k2.other ⟨X.heap.size, 2, none⟩ (.int .i64 V2) (by simp)
  have HB4 := hide (hb3.setCell (p := ⟨X.heap.size, 2, none⟩) (Nat.le_refl _) (.int .i64 V2))
  have HK4 := hide (And.intro k3 k4)
  clear HC2 HB3 HK3 d2 d4 x3 hb3 k1 k2 k3 k4
  go_upto_region 3 with fail
  clear e2 f2
  generalize w3.setCell ⟨X.heap.size, 2, none⟩ (.int .i64 V2) = w4 at *
  obtain ⟨k1, k2⟩ := unhide HK4
  have c0 := k1.cell 0
  have c1 := k1.cell 1
  have c2 := k1.cell 2
  have c3 := k1.cell 3
  have c4 := k1.cell 4
  have g0 := k2.cell 0
  have g1 := k2.cell 1
  have g2 := k2.cell 2
  have g3 := k2.cell 3
  have g4 := k2.cell 4
  have z0 := k2.frozen 0
  have z1 := k2.frozen 1
  have z2 := k2.frozen 2
  have z3 := k2.frozen 3
  have z4 := k2.frozen 4
  have k9 := ((((k2.set 0 (.string xn)).set 1 (.int .i64 V1)).set 2 (.int .i64 V2)).set 3 (.int .i64 xs)).set 4 (.int .i64 xe)
  have r0 := k9.cell 0
  have r1 := k9.cell 1
  have r2 := k9.cell 2
  have r3 := k9.cell 3
  have r4 := k9.cell 4
  simp only [List.getElem?_toArray, List.getElem?_cons_zero, List.getElem?_cons_succ, List.setIfInBounds_toArray, List.set_cons_zero, List.set_cons_succ] at c0 c1 c2 c3 c4 g0 g1 g2 g3 g4 r0 r1 r2 r3 r4
  have hs : X.heap.size ≤ X.heap.size + 1 := by omega
  have HB9 := hide ((((((unhide HB4).setCell (p := ⟨X.heap.size + 1, 0, none⟩) hs (.string xn)).setCell (p := ⟨X.heap.size + 1, 1, none⟩) hs (.int .i64 V1)).setCell (p := ⟨X.heap.size + 1, 2, none⟩) hs (.int .i64 V2)).setCell (p := ⟨X.heap.size + 1, 3, none⟩) hs (.int .i64 xs)).setCell (p := ⟨X.heap.size + 1, 4, none⟩) hs (.int .i64 xe))
  clear k1 k2 k9 HK4 HB4 hs
  go_wp2_with fail
  refine bodyPost_ret (v := .agg #[.string xn, .int .i64 V1, .int .i64 V2, .int .i64 xs, .int .i64 xe]) (by simp [results, Try.results36, go_sem, r0, r1, r2, r3, r4]) rfl ⟨rfl, unhide HB9⟩
end Go.Proofs.Ytifpjdodignflaa
end

section
namespace Go.Proofs.Ytifpjdodignflaa
open Go.ChangeShapes Go.WideShapes Go.ChangeAt Go.RowKit
open Go.ChangeMaps (setBlock)

def kvR (m : Rg) : Value × Value := (.string m.n, rgV m)
def deR : Value × Value → Rg
  | (_, .agg #[.string n, .int _ lo, .int _ hi, .int _ st, .int _ en]) => ⟨n, lo, hi, st, en⟩
  | _ => ⟨⟨#[]⟩, 0, 0, 0, 0⟩
theorem deR_kv (m : Rg) : deR (kvR m) = m := rfl
theorem perm_kvR {S L : List Rg} (h : (S.map kvR).Perm (L.map kvR)) : S.Perm L := by
  have := h.map deR
  simpa [List.map_map, Function.comp_def, deR_kv] using this
variable {P : Program}
/-- an iterator over a map whose entries are L: S came out, in this order -/
structure ItG (X : World) (ri bm : Nat) (L S : List Rg) : Prop where
  c : ∃ es clock since seen c0 se, X.heap[ri]? = some (.mapIter (some bm) since seen c0) ∧ X.heap[bm]? = some (.map es clock) ∧ EntR es clock L ∧ (∀ x ∈ es.toList, x.born < since) ∧ (since ≤ c0 ∧ since ≤ clock) ∧ (se ++ (leftOf es seen).toList).Perm es.toList ∧ se.map (fun e => (e.key, e.val)) = S.map kvR
def leftN (w : World) (bm ri : Nat) : Nat := match w.heap[ri]?, w.heap[bm]? with
  | some (.mapIter _ _ seen _), some (.map es _) => (leftOf es seen).size
  | _, _ => 0
theorem leftN_same {X Y : World} {bm ri : Nat} (h1 : Y.heap[ri]? = X.heap[ri]?) (h2 : Y.heap[bm]? = X.heap[bm]?) : leftN Y bm ri = leftN X bm ri := by
  unfold leftN; rw [h1, h2]
theorem ItG.start (X : World) {t k e : TypeId} (ht : P.underlying t = some (.map k e)) {bm : Nat} {L : List Rg} (h : IsRp X bm L) :
    ∃ o, (Instr.range t (.map (some bm))).run P X = .ok (.pointer (some ⟨X.heap.size, 0, none⟩)) (X.alloc o) ∧ ItG (X.alloc o) X.heap.size bm L [] := by
  have hlt := h.lt
  obtain ⟨es, clock, h1, h2⟩ := h
  refine ⟨_, run_range_map X t k e bm es clock ht h1, es, clock, clock, #[], clock, [], heap_alloc_new X _, ?_, h2, h2.b, ⟨Nat.le_refl _, Nat.le_refl _⟩, ?_, rfl⟩
  · rw [heap_alloc_old X _ hlt]; exact h1
  · unfold leftOf
    rw [Array.toList_filter, List.filter_eq_self.2 (by simp)]
    exact List.Perm.refl _
theorem left_perm (p : MapEntry → Bool) (e : MapEntry) : ∀ (es : List MapEntry), (es.map (·.born)).Nodup → e ∈ es.filter p → (es.filter p).Perm (e :: es.filter (fun x => p x && x.born != e.born))
  | [], _, h => by simp at h
  | x :: l, hn, he => by
    simp only [List.map_cons, List.nodup_cons] at hn
    by_cases hb : x.born = e.born
    · have hne : ∀ y ∈ l, y.born ≠ e.born := fun y hy h => hn.1 (by rw [hb, ← h]; exact List.mem_map.2 ⟨y, hy, rfl⟩)
      have hex : e = x := by
        rcases List.mem_cons.1 (List.mem_filter.1 he).1 with h | h
        · exact h
        · exact absurd rfl (hne e h)
      subst hex
      have hp := (List.mem_filter.1 he).2
      have hf : l.filter (fun y => p y && y.born != e.born) = l.filter p := List.filter_congr fun y hy => by
        have := hne y hy
        simp [this]
      rw [List.filter_cons_of_pos hp, List.filter_cons_of_neg (by simp), hf]
    · have hel : e ∈ l.filter p := by
        obtain ⟨h1, h2⟩ := List.mem_filter.1 he
        rcases List.mem_cons.1 h1 with h | h
        · exact absurd (by rw [h]) hb
        · exact List.mem_filter.2 ⟨h, h2⟩
      have ih := left_perm p e l hn.2 hel
      cases hp : p x with
      | true =>
        rw [List.filter_cons_of_pos hp, List.filter_cons_of_pos (by simp [hp, hb])]
        exact (ih.cons x).trans (List.Perm.swap e x _)
      | false =>
        rw [List.filter_cons_of_neg (by simp [hp]), List.filter_cons_of_neg (by simp [hp])]
        exact ih
theorem left_push {es : Array MapEntry} (hn : (es.toList.map (·.born)).Nodup) {seen : Array Nat} {e : MapEntry} (he : e ∈ (leftOf es seen).toList) : (leftOf es seen).toList.Perm (e :: (leftOf es (seen.push e.born)).toList) := by
  unfold leftOf at he ⊢
  rw [Array.toList_filter] at he ⊢
  rw [Array.toList_filter]
  have h := left_perm (fun x => !seen.contains x.born) e es.toList hn he
  have hf : es.toList.filter (fun x => !(seen.push e.born).contains x.born) = es.toList.filter (fun x => (!seen.contains x.born) && x.born != e.born) := List.filter_congr fun x _ => by
    rw [contains_push, Bool.not_or]; rfl
  rw [hf]; exact h
theorem ItG.same {X Y : World} {ri bm : Nat} {L S : List Rg} (h : ItG X ri bm L S) (h1 : Y.heap[ri]? = X.heap[ri]?) (h2 : Y.heap[bm]? = X.heap[bm]?) : ItG Y ri bm L S := by
  obtain ⟨es, clock, since, seen, c0, se, a, b, r⟩ := h.c
  exact ⟨es, clock, since, seen, c0, se, h1.trans a, h2.trans b, r⟩
theorem ItG.lt {X : World} {ri bm : Nat} {L S : List Rg} (h : ItG X ri bm L S) : ri < X.heap.size ∧ bm < X.heap.size := by
  obtain ⟨es, clock, since, seen, c0, se, a, b, _⟩ := h.c
  exact ⟨(Array.getElem?_eq_some_iff.1 a).1, (Array.getElem?_eq_some_iff.1 b).1⟩
theorem ItG.below {X Y : World} {ri bm N : Nat} {L S : List Rg} (h : ItG X ri bm L S) (hb : Below N X Y) (hN : X.heap.size ≤ N) : ItG Y ri bm L S := h.same (hb.block ri (Nat.lt_of_lt_of_le h.lt.1 hN)) (hb.block bm (Nat.lt_of_lt_of_le h.lt.2 hN))
/-- a step: nothing is left, or one more came -/
theorem ItG.next {X : World} {ri bm : Nat} {L S : List Rg} (h : ItG X ri bm L S) (ty : TypeId) :
    (S.Perm L ∧ (Instr.next (.pointer (some ⟨ri, 0, none⟩)) false ty).run P X = .ok (.tuple #[.bool false]) X) ∨
    ∃ m T X', (S ++ m :: T).Perm L ∧ (Instr.next (.pointer (some ⟨ri, 0, none⟩)) false ty).run P X = .ok (.tuple #[.bool true, .string m.n, rgV m]) X' ∧ (Instr.entry (.pointer (some ⟨ri, 0, none⟩))).run P X' = .ok (.tuple #[.string m.n, rgV m]) X' ∧ ItG X' ri bm L (S ++ [m]) ∧ X'.heap.size = X.heap.size ∧ (∀ k, k ≠ ri → X'.heap[k]? = X.heap[k]?) ∧ leftN X' bm ri < leftN X bm ri ∧ ∀ B, B ≤ ri → Below B X X' := by
  have hlt := h.lt
  obtain ⟨es, clock, since, seen, c0, se, h1, h2, h3, h4, h5, h6, h7⟩ := h.c
  have kv : es.toList.map (fun e => (e.key, e.val)) = L.map kvR := h3.v
  rcases run_next_at (P := P) X ty ri bm since c0 seen es clock h1 h2 h4 h5.1 with ⟨hz, hr⟩ | ⟨e, he, w1, hw, hr⟩
  · left
    refine ⟨perm_kvR ?_, hr⟩
    have : (leftOf es seen).toList = [] := by rw [Array.eq_empty_of_size_eq_zero hz]
    rw [this, List.append_nil] at h6
    have := h6.map (fun e => (e.key, e.val))
    rwa [h7, kv] at this
  · right
    have hes := (mem_left he).1
    obtain ⟨m, hm⟩ : ∃ m : Rg, (e.key, e.val) = kvR m := by
      have : (e.key, e.val) ∈ es.toList.map (fun e => (e.key, e.val)) := List.mem_map.2 ⟨e, hes, rfl⟩
      rw [kv] at this
      obtain ⟨m, _, hm⟩ := List.mem_map.1 this
      exact ⟨m, hm.symm⟩
    have hk : e.key = .string m.n := congrArg Prod.fst hm
    have hv : e.val = rgV m := congrArg Prod.snd hm
    have hp := left_push h3.d he
    have hperm : (se ++ e :: (leftOf es (seen.push e.born)).toList).Perm es.toList := (hp.symm.append_left se).trans h6
    have hheap : w1.heap = X.heap := by rcases hw with rfl | rfl <;> rfl
    have e1 : (setBlock w1 ri (.mapIter (some bm) since (seen.push e.born) clock)).heap[ri]? = some (.mapIter (some bm) since (seen.push e.born) clock) := by
      show (w1.heap.setIfInBounds ri _)[ri]? = _
      rw [hheap]; simp [hlt.1]
    have hne : ri ≠ bm := fun hq => by rw [hq, h2] at h1; cases h1
    have e2 : (setBlock w1 ri (.mapIter (some bm) since (seen.push e.born) clock)).heap[bm]? = some (.map es clock) := by
      show (w1.heap.setIfInBounds ri _)[bm]? = _
      rw [hheap, Array.getElem?_setIfInBounds_ne hne]; exact h2
    rw [hk, hv] at hr
    have hent := run_entry_at (P := P) _ ri bm since seen es clock e e1 e2 hes h3.d
    rw [hk, hv] at hent
    have hT : ∃ T : List Rg, (leftOf es (seen.push e.born)).toList.map (fun e => (e.key, e.val)) = T.map kvR := by
      have all : ∀ x ∈ (leftOf es (seen.push e.born)).toList, ∃ m : Rg, (x.key, x.val) = kvR m := fun x hx => by
        have : (x.key, x.val) ∈ es.toList.map (fun e => (e.key, e.val)) := List.mem_map.2 ⟨x, (mem_left hx).1, rfl⟩
        rw [kv] at this
        obtain ⟨m, _, hm⟩ := List.mem_map.1 this
        exact ⟨m, hm.symm⟩
      generalize (leftOf es (seen.push e.born)).toList = l at all
      clear hperm hp
      induction l with
      | nil => exact ⟨[], rfl⟩
      | cons x l ih =>
        obtain ⟨m, hm⟩ := all x (by simp)
        obtain ⟨T, hT⟩ := ih (fun y hy => all y (by simp [hy]))
        exact ⟨m :: T, by simp [hm, hT]⟩
    obtain ⟨T, hT⟩ := hT
    refine ⟨m, T, _, perm_kvR ?_, hr, hent, ⟨es, clock, since, seen.push e.born, clock, se ++ [e], e1, e2, h3, h4, ?_, ?_, ?_⟩, ?_, fun k hk => ?_, ?_, fun B hB => ?_⟩
    · have := hperm.map (fun e => (e.key, e.val))
      rw [kv] at this
      simpa [h7, hT, hm] using this
    · exact ⟨h5.2, h5.2⟩
    · simpa using hperm
    · simp [h7, hm]
    · show (w1.heap.setIfInBounds ri _).size = _
      rw [hheap]; simp
    · show (w1.heap.setIfInBounds ri _)[k]? = _
      rw [hheap, Array.getElem?_setIfInBounds_ne (Ne.symm hk)]
    · unfold leftN
      rw [e1, e2, h1, h2]
      exact left_shrinks es seen e he
    · rcases hw with rfl | rfl
      · refine ⟨rfl, rfl, rfl, by show _ ≤ (Array.setIfInBounds _ _ _).size; simp, fun k hk => ?_⟩
        show (Array.setIfInBounds _ ri _)[k]? = _
        rw [Array.getElem?_setIfInBounds_ne (by omega)]
      · refine ⟨rfl, rfl, rfl, by show _ ≤ (Array.setIfInBounds _ _ _).size; simp, fun k hk => ?_⟩
        show (Array.setIfInBounds _ ri _)[k]? = _
        rw [Array.getElem?_setIfInBounds_ne (by omega)]
        first | done | rfl
end Go.Proofs.Ytifpjdodignflaa
end
