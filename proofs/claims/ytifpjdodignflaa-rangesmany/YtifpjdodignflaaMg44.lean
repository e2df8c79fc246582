/- Layer 16: Behind's loop in memory. -/
import Derived.Test.YtifpjdodignflaaMg43

namespace Go.Proofs.Ytifpjdodignflaa
open Go.ChangeShapes Go.WideShapes Go.ChangeAt Go.RowKit
attribute [local go_sem] Oper.semAt_some

theorem run_makeMapN (w : World) (n : Nat) : (Instr.makeMap 65 (some (.int .i64 (n : Int)))).run Try.prog w = .ok (.map (some w.heap.size)) (w.alloc (.map #[] 0)) := by
  unfold Instr.makeMap
  simp only [Sem.run_bind, run_underlying Try.underlying65, Result.andThen]
  rfl
def kpG (d : List Dop) (S : List Rg) : List Rg := (S.map (mvG d)).filter (fun m => decide (m.lo < m.hi))
def goG (d : List Dop) (S : List Rg) : List ByteArray := ((S.map (mvG d)).filter (fun m => !decide (m.lo < m.hi))).map (·.n)
def strsV (l : List ByteArray) : List Value := l.map .string
theorem kp_snoc (d : List Dop) (S : List Rg) (m : Rg) : kpG d (S ++ [m]) = if (mvG d m).lo < (mvG d m).hi then kpG d S ++ [mvG d m] else kpG d S := by
  unfold kpG
  by_cases h : (mvG d m).lo < (mvG d m).hi <;> simp [List.filter_append, h]
theorem go_snoc (d : List Dop) (S : List Rg) (m : Rg) : goG d (S ++ [m]) = if (mvG d m).lo < (mvG d m).hi then goG d S else goG d S ++ [m.n] := by
  unfold goG
  rw [List.map_append, List.filter_append, List.map_append, List.map_singleton]
  have e : (mvG d m).n = m.n := rfl
  by_cases h : (mvG d m).lo < (mvG d m).hi
  · rw [if_pos h, List.filter_cons_of_neg (by simp [h])]; simp
  · rw [if_neg h, List.filter_cons_of_pos (by simp [h])]; simp [e]
/-- what Behind's loop keeps: the iterator (I came out), the new map and the names that went (for S) -/
structure GbJ (X wx : World) (ri r2 bm : Nat) (d : List Dop) (L I S : List Rg) (v11 : Value) : Prop where
  it : ItG wx ri bm L I
  mp : IsRp wx r2 (kpG d S)
  go : wx.ownsRow X.heap.size 9 1 v11 (goG d S).length (strsV (goG d S))
  dd : Below X.heap.size X wx
  nn : X.heap.size ≤ ri ∧ X.heap.size ≤ r2
theorem IsRp.ne_it {X : World} {r ri bm : Nat} {K L S : List Rg} (h : IsRp X r K) (hi : ItG X ri bm L S) : r ≠ ri := fun e => by
  obtain ⟨es, clock, h1, _⟩ := h
  obtain ⟨_, _, _, _, _, _, a, _⟩ := hi.c
  rw [e, a] at h1; cases h1
theorem GbJ.on {X wx wy : World} {ri r2 bm : Nat} {d : List Dop} {L I S : List Rg} {v11 : Value} (h : GbJ X wx ri r2 bm d L I S v11) (hb : Below wx.heap.size wx wy) : GbJ X wy ri r2 bm d L I S v11 :=
  ⟨h.it.below hb (Nat.le_refl _), h.mp.below hb (Nat.le_refl _), rowD_below h.go hb (Nat.le_refl _), h.dd.trans (hb.mono h.dd.size), h.nn⟩
theorem GbJ.next {X wx : World} {ri r2 bm : Nat} {d : List Dop} {L S : List Rg} {v11 : Value} (h : GbJ X wx ri r2 bm d L S S v11) (ty : TypeId) :
    (S.Perm L ∧ (Instr.next (.pointer (some ⟨ri, 0, none⟩)) false ty).run Try.prog wx = .ok (.tuple #[.bool false]) wx) ∨
    ∃ m T X', (S ++ m :: T).Perm L ∧ (Instr.next (.pointer (some ⟨ri, 0, none⟩)) false ty).run Try.prog wx = .ok (.tuple #[.bool true, .string m.n, rgV m]) X' ∧ (Instr.entry (.pointer (some ⟨ri, 0, none⟩))).run Try.prog X' = .ok (.tuple #[.string m.n, rgV m]) X' ∧ GbJ X X' ri r2 bm d L (S ++ [m]) S v11 ∧ leftN X' bm ri < leftN wx bm ri := by
  rcases h.it.next (P := Try.prog) ty with h1 | ⟨m, T, X', p, r, e, i, hs, hk, hl, hb⟩
  · exact .inl h1
  · refine .inr ⟨m, T, X', p, r, e, ⟨i, h.mp.same (hk _ (h.mp.ne_it h.it)), rowD_on h.go fun G hG => hk G fun eq => ?_, h.dd.trans (hb _ h.nn.1), h.nn⟩, hl⟩
    obtain ⟨_, c, hc⟩ := rowD_block h.go hG
    obtain ⟨_, _, _, _, _, _, a, _⟩ := h.it.c
    rw [eq, a] at hc; cases hc
theorem strsV_snoc (l : List ByteArray) (x : ByteArray) : strsV (l ++ [x]) = strsV l ++ [.string x] := by simp [strsV]
theorem atG_none {s : ByteArray} : ∀ {K : List Rg} {i : Nat}, (∀ m ∈ K, m.n ≠ s) → atG s K i = none
  | [], _, _ => rfl
  | m :: K, i, h => by
    unfold atG
    have h1 : (s == m.n) = false := by
      cases hc : s == m.n with
      | false => rfl
      | true => exact absurd ((MapKept.bytes_beq _ _).1 hc).symm (h m (by simp))
    rw [h1]
    simp only [Bool.false_eq_true, if_false]
    exact atG_none fun x hx => h x (by simp [hx])
theorem kp_names {d : List Dop} {S : List Rg} {x : Rg} (h : x ∈ kpG d S) : ∃ m ∈ S, m.n = x.n := by
  unfold kpG at h
  obtain ⟨m, hm, rfl⟩ := List.mem_map.1 (List.mem_filter.1 h).1
  exact ⟨m, hm, rfl⟩
theorem put_kp {d : List Dop} {L S T : List Rg} {m : Rg} (hp : (S ++ m :: T).Perm L) (hn : (L.map (·.n)).Nodup) : putG (mvG d m) (kpG d S) = kpG d S ++ [mvG d m] := by
  have h1 : ((S ++ m :: T).map (·.n)).Nodup := (hp.map (·.n)).nodup_iff.2 hn
  rw [List.map_append, List.map_cons, List.nodup_append] at h1
  have h2 : atG (mvG d m).n (kpG d S) 0 = none := atG_none fun x hx e => by
    obtain ⟨y, hy, he⟩ := kp_names hx
    exact h1.2.2 y.n (List.mem_map.2 ⟨y, hy, rfl⟩) m.n (by simp) (he.trans e)
  unfold putG
  rw [h2]
/-- one that stays -/
theorem GbJ.put {X wx : World} {ri r2 bm : Nat} {d : List Dop} {L S T : List Rg} {m : Rg} {v11 : Value} (h : GbJ X wx ri r2 bm d L (S ++ [m]) S v11) (hp : (S ++ m :: T).Perm L) (hn : (L.map (·.n)).Nodup) (hb : bm < X.heap.size) (hk : (mvG d m).lo < (mvG d m).hi) :
    ∃ o, (Instr.mapUpdate 65 (.map (some r2)) (.string m.n) (rgV (mvG d m))).run Try.prog wx = .ok () { wx with heap := wx.heap.setIfInBounds r2 o } ∧ GbJ X { wx with heap := wx.heap.setIfInBounds r2 o } ri r2 bm d L (S ++ [m]) (S ++ [m]) v11 ∧ leftN { wx with heap := wx.heap.setIfInBounds r2 o } bm ri = leftN wx bm ri := by
  obtain ⟨o, r, i⟩ := run_update_rg (P := Try.prog) wx Try.underlying65 Try.underlying9 h.mp (mvG d m)
  rw [put_kp hp hn] at i
  have hne := h.mp.ne_it h.it
  have e1 : ({ wx with heap := wx.heap.setIfInBounds r2 o } : World).heap[ri]? = wx.heap[ri]? := by simp [hne]
  have e2 : ({ wx with heap := wx.heap.setIfInBounds r2 o } : World).heap[bm]? = wx.heap[bm]? := by
    have : r2 ≠ bm := by have := h.nn.2; omega
    simp [this]
  refine ⟨o, r, ⟨h.it.same e1 e2, ?_, ?_, belowR_block h.dd o h.nn.2, h.nn⟩, leftN_same e1 e2⟩
  · rw [kp_snoc, if_pos hk]; exact i
  · rw [go_snoc, if_pos hk]
    refine rowD_on h.go fun G hG => ?_
    have : r2 ≠ G := fun e => by
      obtain ⟨_, c, hc⟩ := rowD_block h.go hG
      obtain ⟨es, cl, h1, _⟩ := h.mp
      rw [← e, h1] at hc; cases hc
    simp [this]
/-- one that goes -/
theorem GbJ.goes {X wx : World} {ri r2 bm : Nat} {d : List Dop} {L S : List Rg} {m : Rg} {v11 : Value} (h : GbJ X wx ri r2 bm d L (S ++ [m]) S v11) (hb : bm < X.heap.size) (hk : ¬ (mvG d m).lo < (mvG d m).hi) (hl : (goG d S).length ≤ 4398046511104) :
    ∃ v' W', (Builtin.append_ #[49, 49] 49 #[v11, .slice (some ⟨wx.heap.size, 0, none⟩) 1 1]).run Try.prog (wx.alloc (.cells #[.string m.n] 9)) = .ok v' W' ∧ GbJ X W' ri r2 bm d L (S ++ [m]) (S ++ [m]) v' ∧ leftN W' bm ri = leftN wx bm ri := by
  obtain ⟨g, c, W', r, ho, hg, bb⟩ := push_str wx X.heap.size (goG d S).length v11 (strsV (goG d S)) m.n 49 h.go hl h.dd.size
  have hri := h.it.lt
  have hne : ∀ k, k < wx.heap.size → (∀ cs t mk, wx.heap[k]? ≠ some (.cells cs t mk)) → W'.heap[k]? = wx.heap[k]? := fun k hk hc => hg.block k hk fun e => by
    obtain ⟨_, cur, hcur⟩ := rowD_block h.go e.symm
    exact hc _ _ _ hcur
  have e1 : W'.heap[ri]? = wx.heap[ri]? := hne ri hri.1 fun cs t mk hq => by
    obtain ⟨_, _, _, _, _, _, a, _⟩ := h.it.c
    rw [a] at hq; cases hq
  have e2 : W'.heap[bm]? = wx.heap[bm]? := bb.block bm hb
  have e3 : W'.heap[r2]? = wx.heap[r2]? := hne r2 h.mp.lt fun cs t mk hq => by
    obtain ⟨es, cl, h1, _⟩ := h.mp
    rw [h1] at hq; cases hq
  refine ⟨_, W', r, ⟨h.it.same e1 e2, ?_, ?_, h.dd.trans bb, h.nn⟩, leftN_same e1 e2⟩
  · rw [kp_snoc, if_neg hk]; exact h.mp.same e3
  · rw [go_snoc, if_neg hk, strsV_snoc, List.length_append, List.length_singleton]; exact ho
end Go.Proofs.Ytifpjdodignflaa
