/- Layer 16: Cover: pieces, plain and in memory. -/
import Derived.Test.YtifpjdodignflaaMg52
import Derived.BigQuiet

namespace Go.Proofs.Ytifpjdodignflaa
open Go.ChangeShapes Go.WideShapes Go.ChangeAt Go.RowKit
attribute [local go_sem] Oper.semAt_some

/-- one more range, covered -/
def covS (q : List (Int × Int)) (x : Rg) : List (Int × Int) := match q.getLast? with
  | none => [(x.lo, x.hi)]
  | some p => if p.2 < x.lo then q ++ [(x.lo, x.hi)] else q.dropLast ++ [(p.1, max p.2 x.hi)]
def covL (E : List Rg) : List (Int × Int) := E.foldl covS []
theorem covS_nil (x : Rg) : covS [] x = [(x.lo, x.hi)] := rfl
theorem covS_snoc (q : List (Int × Int)) (u v : Int) (x : Rg) : covS (q ++ [(u, v)]) x = if v < x.lo then q ++ [(u, v)] ++ [(x.lo, x.hi)] else q ++ [(u, max v x.hi)] := by
  unfold covS
  simp
theorem covS_len (q : List (Int × Int)) (x : Rg) : (covS q x).length ≤ q.length + 1 := by
  by_cases h : q = []
  · subst h; simp [covS]
  · obtain ⟨e, ⟨u, v⟩, rfl⟩ : ∃ e p, q = e ++ [p] := ⟨q.dropLast, q.getLast h, (List.dropLast_concat_getLast h).symm⟩
    rw [covS_snoc]
    split <;> simp
theorem cov_take {E : List Rg} {i : Nat} (hi : i < E.length) : (E.take (i + 1)).foldl covS [] = covS ((E.take i).foldl covS []) (E.getD i rgZ) := by
  rw [List.take_add_one, List.foldl_append]
  simp [hi]
theorem cov_len : ∀ (E : List Rg) (q : List (Int × Int)), (E.foldl covS q).length ≤ q.length + E.length
  | [], q => by simp
  | x :: E, q => by
    have h1 := cov_len E (covS q x)
    have h2 := covS_len q x
    simp only [List.foldl_cons, List.length_cons]
    omega
/-- a piece's two cells -/
def htL (p : Int × Int) : List Value := [.int .i64 p.1, .int .i64 p.2]
def hitsV (l : List (Int × Int)) : List Value := l.flatMap htL
theorem hitsV_app (a b : List (Int × Int)) : hitsV (a ++ b) = hitsV a ++ hitsV b := by simp [hitsV]
theorem hitsV_one (x : Int × Int) : hitsV [x] = htL x := by simp [hitsV]
theorem hitsV_len (l : List (Int × Int)) : (hitsV l).length = l.length * 2 := flat_len htL 2 (fun _ => rfl) l
theorem hitsV_last (d : List (Int × Int)) (x : Int × Int) : (hitsV (d ++ [x]))[d.length * 2]? = some (.int .i64 x.1) ∧ (hitsV (d ++ [x]))[d.length * 2 + 1]? = some (.int .i64 x.2) := by
  have hl := hitsV_len d
  rw [hitsV_app, hitsV_one]
  refine ⟨?_, ?_⟩
  · rw [List.getElem?_append_right (by omega), hl, Nat.sub_self]; rfl
  · rw [List.getElem?_append_right (by omega), hl, show d.length * 2 + 1 - d.length * 2 = 1 by omega]; rfl
theorem hitsV_set (d : List (Int × Int)) (u v n : Int) : (hitsV (d ++ [(u, v)])).set (d.length * 2 + 1) (.int .i64 n) = hitsV (d ++ [(u, n)]) := by
  rw [hitsV_app, hitsV_app, hitsV_one, hitsV_one, List.set_append_right _ _ (by rw [hitsV_len]; omega), hitsV_len, show d.length * 2 + 1 - d.length * 2 = 1 by omega]
  rfl
theorem hitsV_get : ∀ (q : List (Int × Int)) (k j : Nat), k < q.length → j < 2 → (hitsV q)[k * 2 + j]? = (htL (q.getD k (0, 0)))[j]?
  | [], k, _, hk, _ => absurd hk (by simp)
  | t :: ts, 0, j, _, hj => by
    rw [hitsV, List.flatMap_cons, Nat.zero_mul, Nat.zero_add, List.getElem?_append_left (by simpa [htL] using hj)]; rfl
  | t :: ts, k + 1, j, hk, hj => by
    have ih := hitsV_get ts k j (by simpa using hk) hj
    rw [hitsV, List.flatMap_cons, List.getElem?_append_right (by simp [htL]; omega), show (k + 1) * 2 + j - (htL t).length = k * 2 + j by simp [htL]; omega]
    simpa [hitsV] using ih
set_option maxRecDepth 100000 in
theorem info_ht : ∃ i, Try.prog.info? 59 = some i ∧ i.zero = some (.agg #[.int .i64 0, .int .i64 0]) ∧ i.size = 2 ∧ i.bytes = 16 := by
  refine ⟨_, rfl, ?_, ?_, ?_⟩ <;> rfl
/-- one more piece -/
theorem push_ht (W : World) (B n : Nat) (v : Value) (xs : List Value) (a b : Int) (ty : TypeId) (h : W.ownsRow B 59 2 v n xs) (hn : n ≤ 1099511627776) (hB : B ≤ W.heap.size) :
    ∃ g k W', (Builtin.append_ #[56, 56] ty #[v, .slice (some ⟨W.heap.size, 0, none⟩) 1 1]).run Try.prog (W.alloc (.cells #[.int .i64 a, .int .i64 b] 59)) = .ok (.slice (some ⟨g, 0, none⟩) (n + 1) k) W' ∧
      W'.ownsRow B 59 2 (.slice (some ⟨g, 0, none⟩) (n + 1) k) (n + 1) (xs ++ [.int .i64 a, .int .i64 b]) ∧ W.grownBy W' v.ownBlock ∧ Below B W W' := by
  obtain ⟨i, hi, hz, hs, hby⟩ := info_ht
  have hr := World.ownsRow.alloc h (.cells #[.int .i64 a, .int .i64 b] 59)
  have k0 := Cls.new W 59 #[.int .i64 a, .int .i64 b]
  have c0 := k0.cell 0
  have c1 := k0.cell 1
  simp only [List.getElem?_toArray, List.getElem?_cons_zero, List.getElem?_cons_succ] at c0 c1
  obtain ⟨g, k, W', hrun, ho, hg, _, _⟩ := run_append_lies (P := Try.prog) (W.alloc (.cells #[.int .i64 a, .int .i64 b] 59)) 56 ty B 59 i (.agg #[.int .i64 0, .int .i64 0]) 2 16 Try.underlying56 hi hz hs hby rfl (by decide)
    v n xs hr ⟨W.heap.size, 0, none⟩ 1 1 [.int .i64 a, .int .i64 b] rfl
    (fun j u hj => by
      match j with
      | 0 => simp at hj; subst hj; rw [Addr.add_lit]; exact c0
      | 1 => simp at hj; subst hj; rw [Addr.add_lit]; exact c1
      | j + 2 => simp at hj)
    (fun u hu => by simp at hu; rcases hu with rfl | rfl <;> rfl) (by decide) (by unfold maxLen; omega) (by omega) (by simp; omega) _ rfl
  have ha := World.grownBy_alloc W (.cells #[.int .i64 a, .int .i64 b] 59) none
  refine ⟨g, k, W', hrun, ho, ⟨hg.os.trans ha.os, hg.tape.trans ha.tape, hg.output.trans ha.output, Nat.le_trans ha.size hg.size, fun k hk hne => ?_⟩, ((Below.refl B W).alloc hB _).grown hg (by simp; omega) (fun k hk => (hr.lt k hk).1)⟩
  exact (hg.block k (Nat.lt_of_lt_of_le hk ha.size) hne).trans (ha.block k hk (by simp))
theorem typ_apart {X : World} {B1 B2 s1 s2 n1 n2 g : Nat} {t1 t2 : TypeId} {v1 v2 : Value} {x1 x2 : List Value} (h1 : X.ownsRow B1 t1 s1 v1 n1 x1) (h2 : X.ownsRow B2 t2 s2 v2 n2 x2) (ht : t1 ≠ t2) (e1 : v1.ownBlock = some g) (e2 : v2.ownBlock = some g) : False := by
  obtain ⟨_, c1, k1⟩ := rowD_block h1 e1
  obtain ⟨_, c2, k2⟩ := rowD_block h2 e2
  rw [k1] at k2
  cases k2
  exact ht rfl
/-- what Cover's loop keeps: the list, and the pieces so far -/
structure CvJ (X wx : World) (a : Option Addr) (c : Nat) (E : List Rg) (q : List (Int × Int)) (v : Value) : Prop where
  e : wx.ownsRow X.heap.size 37 5 (.slice a E.length c) E.length (rgsV E)
  h : wx.ownsRow X.heap.size 59 2 v q.length (hitsV q)
  d : Below X.heap.size X wx
theorem CvJ.on {X wx wy : World} {a : Option Addr} {c : Nat} {E : List Rg} {q : List (Int × Int)} {v : Value} (h : CvJ X wx a c E q v) (hb : Below wx.heap.size wx wy) : CvJ X wy a c E q v :=
  ⟨rowD_below h.e hb (Nat.le_refl _), rowD_below h.h hb (Nat.le_refl _), h.d.trans (hb.mono h.d.size)⟩
theorem CvJ.push {X wx : World} {a : Option Addr} {c : Nat} {E : List Rg} {q : List (Int × Int)} {v : Value} (h : CvJ X wx a c E q v) (hq : q.length ≤ 1099511627776) (lo hi : Int) :
    ∃ v' W', (Builtin.append_ #[56, 56] 56 #[v, .slice (some ⟨wx.heap.size, 0, none⟩) 1 1]).run Try.prog (wx.alloc (.cells #[.int .i64 lo, .int .i64 hi] 59)) = .ok v' W' ∧ CvJ X W' a c E (q ++ [(lo, hi)]) v' := by
  obtain ⟨g, k, W', r, ho, hg, bb⟩ := push_ht wx X.heap.size q.length v (hitsV q) lo hi 56 h.h hq h.d.size
  refine ⟨_, W', r, rowD_on h.e fun G hG => hg.block G ?_ fun e => typ_apart h.e h.h (by decide) hG e.symm, ?_, h.d.trans bb⟩
  · obtain ⟨_, cur, hcur⟩ := rowD_block h.e hG
    exact (Array.getElem?_eq_some_iff.1 hcur).1
  · rw [List.length_append, List.length_singleton, hitsV_app, hitsV_one]; exact ho
theorem CvJ.cells {X wx : World} {a : Option Addr} {c : Nat} {E : List Rg} {q : List (Int × Int)} {x y : Int} {v : Value} (h : CvJ X wx a c E (q ++ [(x, y)]) v) :
    ∃ g k, v = .slice (some ⟨g, 0, none⟩) (q.length + 1) k ∧ wx.cell? ⟨g, q.length * 2 + 1, none⟩ = some (.int .i64 y) ∧ wx.frozen? ⟨g, q.length * 2 + 1, none⟩ = false ∧ ∀ n, CvJ X (wx.setCell ⟨g, q.length * 2 + 1, none⟩ (.int .i64 n)) a c E (q ++ [(x, n)]) v := by
  have hh := h.h
  rw [List.length_append, List.length_singleton] at hh
  obtain ⟨g, k, rfl, hg⟩ := rowD_some hh (by omega)
  obtain ⟨c1, f1⟩ := rowD_cell hh (hitsV_last q (x, y)).2
  refine ⟨g, k, rfl, c1, f1, fun n => ⟨rowD_on h.e fun G hG => Below.heap_setCell _ _ _ G fun e => typ_apart h.e hh (by decide) hG (by rw [e]; rfl), ?_, h.d.setCell (p := ⟨g, q.length * 2 + 1, none⟩) hg _⟩⟩
  have := rowD_set hh (q.length * 2 + 1) (.int .i64 n)
  rw [hitsV_set] at this
  rw [List.length_append, List.length_singleton]
  exact this
end Go.Proofs.Ytifpjdodignflaa
