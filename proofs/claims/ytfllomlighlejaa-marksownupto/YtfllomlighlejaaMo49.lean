/- Rows of one's own that are grown: what lay there stays, also under the old value. · Layer 15: rows that MarksOwn writes and grows (written by wip/tools/mlf.py). -/
import Derived.Test.YtfllomlighlejaaProg
import Derived.WalkKit
import Derived.Below
import Derived.Maps.AppendAt
import Derived.Carry
import Derived.ChangeAt
import Derived.Test.YtfllomlighlejaaMo48
import Derived.Test.YtfllomlighlejaaMo39

section
namespace Go.Proofs.Ytfllomlighlejaa
open Go.ChangeShapes Go.WideShapes Go.ChangeAt Go.RowKit

section
variable {P : Program}
theorem rwk_cut {W : World} {B s n m c : Nat} {e : TypeId} {a : Option Addr} {xs ys : List Value} (h : W.ownsRow B e s (.slice a (n + m) c) (n + m) (xs ++ ys)) (hx : xs.length = n * s) (ha : a ≠ none) : W.ownsRow B e s (.slice a n c) n xs := by
  rcases h.2 with ⟨e1, _⟩ | ⟨g, cap, cur, e1, hb, hg, hn, hm, hs, ht⟩
  · injection e1 with e1; exact absurd e1 ha
  · cases e1
    refine ⟨hx, .inr ⟨g, c, cur, rfl, hb, hg, by omega, hm, hs, ?_⟩⟩
    have h2 := congrArg (List.take (n * s)) ht
    rw [List.take_take, Nat.min_eq_left (Nat.mul_le_mul_right _ (by omega)), ← hx, List.take_left] at h2
    rw [← hx]; exact h2
theorem push_kept (w : World) (base : Nat) (t ty e : TypeId) (i : TypeInfo) (z : Value) (size bytes : Nat) (ht : P.underlying t = some (.slice e)) (hi : P.info? e = some i) (hz : i.zero = some z)
    (hsize : i.size = size) (hby : i.bytes = bytes) (hzs : z.cells.size = size) (hsz : 0 < size)
    (v : Value) (n : Nat) (xs : List Value) (hown : w.ownsRow base e size v n xs)
    (a : Addr) (m c : Nat) (news : List Value) (hl : news.length = m * size) (hnews : ∀ j u, news[j]? = some u → w.cell? (a.add j) = some u) (h1 : ∀ u ∈ news, u.oneCell' = true)
    (h63 : n + m ≤ maxLen) (hbytes : (n + m) * bytes ≤ 140737488355328) (hbase : base ≤ w.heap.size) :
    ∃ v' w', (Builtin.append_ #[t, t] ty #[v, .slice (some a) m c]).run P w = .ok v' w' ∧ w'.ownsRow base e size v' (n + m) (xs ++ news) ∧ w'.ownsRow base e size v n xs ∧ w.grownBy w' v.ownBlock ∧
      ((∃ g c, v = .slice (some ⟨g, 0, none⟩) n c ∧ v' = .slice (some ⟨g, 0, none⟩) (n + m) c) ∨ v' = .slice none 0 0 ∨ v'.ownBlock = some w.heap.size) := by
  obtain ⟨v', w', hr, h2, h3, _, h5⟩ := run_append_own_at (P := P) w base t ty e i z size bytes ht hi hz hsize hby hzs hsz v n xs hown a m c news hl hnews h1 h63 hbytes hbase
  refine ⟨v', w', hr, h2, ?_⟩
  subst hsize
  subst hby
  rcases hown.2 with ⟨rfl, rfl⟩ | ⟨g, cap, cur, rfl, hbg, hg, hnc, hcm, hcs, htake⟩
  · refine ⟨⟨hown.1, .inl ⟨rfl, rfl⟩⟩, h3, .inr ?_⟩
    rcases h5 with h5 | h5
    · left
      rcases h2.2 with ⟨e1, _⟩ | ⟨g, cap, cur, e1, _⟩
      · exact e1
      · subst e1; cases h5
    · exact .inr h5
  · by_cases hroom : n + m ≤ cap
    · have hr2 := run_append_room (P := P) w t ty e i ht hi g n cap cur hg a m c news hl hnews h1 hroom (by rw [hl, hcs, ← Nat.add_mul]; exact Nat.mul_le_mul_right _ hroom)
      rw [hr] at hr2
      injection hr2 with e1 e2
      subst e1
      exact ⟨rwk_cut h2 hown.1 (by simp), h3, .inl ⟨g, cap, rfl, rfl⟩⟩
    · have hr2 := run_append_grow (P := P) w t ty e i z ht hi hz ⟨g, 0, none⟩ n cap xs hown.1 (hown.cells (g := g) rfl) a m c news hl hnews (by omega) (by simp only [maxLen] at h63; omega) (growslice_fits (by omega) hbytes)
      rw [hr] at hr2
      injection hr2 with e1 e2
      subst e2
      refine ⟨⟨hown.1, .inr ⟨g, cap, cur, rfl, hbg, ?_, hnc, hcm, hcs, htake⟩⟩, h3, .inr (.inr (by rw [e1]; rfl))⟩
      rw [← hg]
      exact heap_alloc_old w.drew _ (Array.getElem?_eq_some_iff.1 hg).1
/-- one cell of a row is written -/
theorem rwk_set {W : World} {B s n cap g : Nat} {e : TypeId} {xs : List Value} (h : W.ownsRow B e s (.slice (some ⟨g, 0, none⟩) n cap) n xs) (j : Nat) (u : Value) : (W.setCell ⟨g, j, none⟩ u).ownsRow B e s (.slice (some ⟨g, 0, none⟩) n cap) n (xs.set j u) := by
  rcases h.2 with ⟨e1, _⟩ | ⟨g', cap', cur, e1, hb, hg, hn, hm, hs, ht⟩
  · cases e1
  · cases e1
    refine ⟨by rw [List.length_set]; exact h.1, .inr ⟨g, cap, cur.setIfInBounds j u, rfl, hb, ?_, hn, hm, by rw [Array.size_setIfInBounds]; exact hs, ?_⟩⟩
    · have hl := (Array.getElem?_eq_some_iff.1 hg).1
      show (W.heap.modify g _)[g]? = _
      rw [Array.getElem?_eq_getElem (by rw [Array.size_modify]; exact hl), Array.getElem_modify_self]
      rw [Array.getElem?_eq_getElem hl] at hg
      rw [Option.some.inj hg]
      rfl
    · rw [Array.toList_setIfInBounds, List.take_set, ht]
/-- and how it is read -/
theorem rwk_cell {W : World} {B s n cap g : Nat} {e : TypeId} {xs : List Value} (h : W.ownsRow B e s (.slice (some ⟨g, 0, none⟩) n cap) n xs) (j : Nat) (hj : j < n * s) : W.cell? ⟨g, j, none⟩ = xs[j]? ∧ W.frozen? ⟨g, j, none⟩ = false := by
  rcases h.2 with ⟨e1, _⟩ | ⟨g', cap', cur, e1, hb, hg, hn, hm, hs, ht⟩
  · cases e1
  · cases e1
    refine ⟨?_, by simp [World.frozen?, hg]⟩
    rw [← ht, List.getElem?_take_of_lt hj]
    simp [World.cell?, hg]
/-- two rows do not share a block -/
def NB (a b : Value) : Prop := ∀ g, a.ownBlock = some g → b.ownBlock ≠ some g
theorem NB.symm {a b : Value} (h : NB a b) : NB b a := fun g h1 h2 => h g h2 h1
theorem rwk_other {W : World} {B s n cap g j : Nat} {e : TypeId} {v u : Value} {xs : List Value} (h : W.ownsRow B e s v n xs) (hne : NB (.slice (some ⟨g, 0, none⟩) 0 cap) v) : (W.setCell ⟨g, j, none⟩ u).ownsRow B e s v n xs := by
  refine World.ownsRow.kept (row := some g) h ⟨rfl, rfl, rfl, by simp [World.setCell], fun k hk hk' => ?_⟩ ?_
  · exact Below.heap_setCell W ⟨g, j, none⟩ u k (fun e => hk' (by rw [e]))
  · right; exact hne g rfl
end
end Go.Proofs.Ytfllomlighlejaa
end

section
namespace Go.Proofs.Ytfllomlighlejaa
open Go.ChangeShapes Go.WideShapes Go.ChangeAt Go.RowKit
attribute [local go_sem] Oper.semAt_some

theorem row_steps3 {W : World} {B n c g i : Nat} {t : TypeId} {xs : List Value} (h : W.ownsRow B t 3 (.slice (some ⟨g, 0, none⟩) n c) n xs) (hi : i < n) (u0 u1 u2 : Value) :
    ((∃ o, W.cell? ⟨g, i * 3, none⟩ = some o) ∧ W.frozen? ⟨g, i * 3, none⟩ = false ∧ (∃ o, (W.setCell ⟨g, i * 3, none⟩ u0).cell? ⟨g, i * 3 + 1, none⟩ = some o) ∧ (W.setCell ⟨g, i * 3, none⟩ u0).frozen? ⟨g, i * 3 + 1, none⟩ = false ∧ (∃ o, ((W.setCell ⟨g, i * 3, none⟩ u0).setCell ⟨g, i * 3 + 1, none⟩ u1).cell? ⟨g, i * 3 + 2, none⟩ = some o) ∧ ((W.setCell ⟨g, i * 3, none⟩ u0).setCell ⟨g, i * 3 + 1, none⟩ u1).frozen? ⟨g, i * 3 + 2, none⟩ = false) ∧ (∃ ys, (((W.setCell ⟨g, i * 3, none⟩ u0).setCell ⟨g, i * 3 + 1, none⟩ u1).setCell ⟨g, i * 3 + 2, none⟩ u2).ownsRow B t 3 (.slice (some ⟨g, 0, none⟩) n c) n ys) := by
  have h1 := rwk_set h (i * 3) u0
  have h2 := rwk_set h1 (i * 3 + 1) u1
  have h3 := rwk_set h2 (i * 3 + 2) u2
  have f : ∀ {Y : World} {ys : List Value} (k : Nat), Y.ownsRow B t 3 (.slice (some ⟨g, 0, none⟩) n c) n ys → k < n * 3 → (∃ o, Y.cell? ⟨g, k, none⟩ = some o) ∧ Y.frozen? ⟨g, k, none⟩ = false := fun k hr hk => by
    obtain ⟨e1, e2⟩ := rwk_cell hr k hk
    exact ⟨⟨_, e1.trans (List.getElem?_eq_getElem (by rw [hr.1]; exact hk))⟩, e2⟩
  exact ⟨⟨(f (i * 3) h (by omega)).1, (f (i * 3) h (by omega)).2, (f (i * 3 + 1) h1 (by omega)).1, (f (i * 3 + 1) h1 (by omega)).2, (f (i * 3 + 2) h2 (by omega)).1, (f (i * 3 + 2) h2 (by omega)).2⟩, _, h3⟩
theorem row_apart3 {W : World} {B sz n g i : Nat} {t : TypeId} {v : Value} {xs : List Value} (h : W.ownsRow B t sz v n xs) (hn : v.ownBlock ≠ some g) (u0 u1 u2 : Value) : (((W.setCell ⟨g, i * 3, none⟩ u0).setCell ⟨g, i * 3 + 1, none⟩ u1).setCell ⟨g, i * 3 + 2, none⟩ u2).ownsRow B t sz v n xs := by
  have hx : ∀ {Y : World} (k : Nat) (u : Value), Y.ownsRow B t sz v n xs → (Y.setCell ⟨g, k, none⟩ u).ownsRow B t sz v n xs := fun k u hY => rowD_on hY fun G hG => Below.heap_setCell _ _ _ G fun e => hn (by rw [hG, e])
  exact hx _ _ (hx _ _ (hx _ _ (h)))
theorem below_put3 {N : Nat} {X W : World} {g i : Nat} (h : Below N X W) (hg : N ≤ g) (u0 u1 u2 : Value) : Below N X (((W.setCell ⟨g, i * 3, none⟩ u0).setCell ⟨g, i * 3 + 1, none⟩ u1).setCell ⟨g, i * 3 + 2, none⟩ u2) := ((h.setCell (p := ⟨g, i * 3, none⟩) hg u0).setCell (p := ⟨g, i * 3 + 1, none⟩) hg u1).setCell (p := ⟨g, i * 3 + 2, none⟩) hg u2
theorem typM_apart {X : World} {B1 B2 s1 s2 n1 n2 g : Nat} {t1 t2 : TypeId} {v1 v2 : Value} {x1 x2 : List Value} (h1 : X.ownsRow B1 t1 s1 v1 n1 x1) (h2 : X.ownsRow B2 t2 s2 v2 n2 x2) (ht : t1 ≠ t2) (e1 : v1.ownBlock = some g) (e2 : v2.ownBlock = some g) : False := by
  obtain ⟨_, c1, k1⟩ := rowD_block h1 e1
  obtain ⟨_, c2, k2⟩ := rowD_block h2 e2
  rw [k1] at k2
  cases k2
  exact ht rfl
theorem nb_typ {W : World} {B1 B2 s1 s2 n1 n2 : Nat} {t1 t2 : TypeId} {v1 v2 : Value} {x1 x2 : List Value} (h1 : W.ownsRow B1 t1 s1 v1 n1 x1) (h2 : W.ownsRow B2 t2 s2 v2 n2 x2) (ht : t1 ≠ t2) : NB v1 v2 := fun _ e1 e2 => typM_apart h1 h2 ht e1 e2
theorem nb_age {W : World} {B1 B2 s1 s2 n1 n2 N : Nat} {t1 t2 : TypeId} {v1 v2 : Value} {x1 x2 : List Value} (h1 : W.ownsRow B1 t1 s1 v1 n1 x1) (hN : W.heap.size ≤ N) {Y : World} (h2 : Y.ownsRow B2 t2 s2 v2 n2 x2) (hB : N ≤ B2) : NB v1 v2 := fun g e1 e2 => by
  have := (h1.lt g e1).2
  have := (h2.lt g e2).1
  omega
theorem row_gr {W W' : World} {B1 s1 n1 : Nat} {t1 : TypeId} {v1 v2 : Value} {x1 : List Value} (h1 : W.ownsRow B1 t1 s1 v1 n1 x1) (hn : NB v1 v2) (hg : W.grownBy W' v2.ownBlock) : W'.ownsRow B1 t1 s1 v1 n1 x1 := rowD_on h1 fun G hG => hg.block G (h1.lt G hG).2 fun e => hn G hG e.symm
theorem nb_push {W : World} {B1 s1 n1 g : Nat} {t1 : TypeId} {v1 v2 v' : Value} {x1 : List Value} (h1 : W.ownsRow B1 t1 s1 v1 n1 x1) (hn : NB v1 v2) (hv : v'.ownBlock = some g) (hg : v2.ownBlock = some g ∨ W.heap.size ≤ g) : NB v1 v' := fun k e1 e2 => by
  rw [hv] at e2
  cases e2
  rcases hg with hg | hg
  · exact hn g e1 hg
  · have := (h1.lt g e1).2
    omega
theorem opsV_lenM (d : List Dop) : (opsV d).length = d.length * 3 := flat_len opL 3 (fun _ => rfl) d
theorem rowM_base {X : World} {B B' sz n : Nat} {t : TypeId} {v : Value} {xs : List Value} (h : X.ownsRow B t sz v n xs) (hB : B' ≤ B) : X.ownsRow B' t sz v n xs := rowD_base h hB
theorem push3 (W : World) (B n : Nat) (v : Value) (xs : List Value) (u0 u1 u2 : Value) (ty : TypeId) (h : W.ownsRow B 42 3 v n xs) (h0 : u0.oneCell' = true) (h1 : u1.oneCell' = true) (h2 : u2.oneCell' = true) (hn : n ≤ 1099511627776) (hB : B ≤ W.heap.size) :
    ∃ v' W' g, (Builtin.append_ #[27, 27] ty #[v, .slice (some ⟨W.heap.size, 0, none⟩) 1 1]).run Try.prog (W.alloc (.cells #[u0, u1, u2] 42)) = .ok v' W' ∧ v'.ownBlock = some g ∧
      W'.ownsRow B 42 3 v' (n + 1) (xs ++ [u0, u1, u2]) ∧ W.grownBy W' v.ownBlock ∧ Below B W W' ∧ (v.ownBlock = some g ∨ W.heap.size ≤ g) := by
  obtain ⟨i, hi, hz, hs, hby⟩ := info_mk
  have hr := World.ownsRow.alloc h (.cells #[u0, u1, u2] 42)
  have k0 := Cls.new W 42 #[u0, u1, u2]
  have c0 := k0.cell 0
  have c1 := k0.cell 1
  have c2 := k0.cell 2
  simp only [List.getElem?_toArray, List.getElem?_cons_zero, List.getElem?_cons_succ] at c0 c1 c2
  obtain ⟨g, k, W', hrun, ho, hg, hor, _⟩ := run_append_lies (P := Try.prog) (W.alloc (.cells #[u0, u1, u2] 42)) 27 ty B 42 i (.agg #[.string ⟨#[]⟩, .int .i64 0, .int .i64 0]) 3 32 Try.underlying27 hi hz hs hby rfl (by decide)
    v n xs hr ⟨W.heap.size, 0, none⟩ 1 1 [u0, u1, u2] rfl
    (fun j u hj => by
      match j with
      | 0 => simp at hj; subst hj; rw [Addr.add_lit]; exact c0
      | 1 => simp at hj; subst hj; rw [Addr.add_lit]; exact c1
      | 2 => simp at hj; subst hj; rw [Addr.add_lit]; exact c2
      | j + 3 => simp at hj)
    (fun u hu => by simp at hu; rcases hu with rfl | rfl | rfl <;> assumption) (by decide) (by unfold maxLen; omega) (by omega) (by simp; omega) _ rfl
  have ha := World.grownBy_alloc W (.cells #[u0, u1, u2] 42) none
  refine ⟨_, W', g, hrun, rfl, ho, ⟨hg.os.trans ha.os, hg.tape.trans ha.tape, hg.output.trans ha.output, Nat.le_trans ha.size hg.size, fun k hk hne => ?_⟩, ((Below.refl B W).alloc hB _).grown hg (by simp; omega) (fun k hk => (hr.lt k hk).1), ?_⟩
  · exact (hg.block k (Nat.lt_of_lt_of_le hk ha.size) hne).trans (ha.block k hk (by simp))
  · rcases hor with h' | h'
    · exact .inl h'
    · exact .inr (by rw [h', World.size_alloc]; omega)
/-- marks of the program stay where other rows are written -/
theorem IsMs.blk {X Y : World} {g : Nat} {n : Int} {L : List Mk} (h : IsMs X g n L) (hk : ∀ k, k < X.heap.size → (∀ (cs : Array Value) (mk : Nat × Nat), X.heap[k]? ≠ some (Obj.cells cs 42 mk)) → (∀ (cs : Array Value) (mk : Nat × Nat), X.heap[k]? ≠ some (Obj.cells cs 50 mk)) → Y.heap[k]? = X.heap[k]?) : IsMs Y g n L := by
  obtain ⟨r, h1, h2⟩ := h.c
  have h2' := h2
  obtain ⟨es, clock, h3, _⟩ := h2'
  have e1 : Y.heap[g]? = X.heap[g]? := hk g h1.lt (fun cs m e => by unfold Cls at h1; rw [h1] at e; cases e) (fun cs m e => by unfold Cls at h1; rw [h1] at e; cases e)
  have e2 : Y.heap[r]? = X.heap[r]? := hk r h2.lt (fun cs m e => by rw [h3] at e; cases e) (fun cs m e => by rw [h3] at e; cases e)
  exact ⟨r, h1.same e1, h2.same e2⟩
theorem IsMs.grownR {X Y : World} {g : Nat} {n : Int} {L : List Mk} (h : IsMs X g n L) {B s k : Nat} {t : TypeId} {v : Value} {xs : List Value} (hr : X.ownsRow B t s v k xs) (ht : t = 42 ∨ t = 50) (hg : X.grownBy Y v.ownBlock) : IsMs Y g n L :=
  h.blk fun q hq n1 n2 => hg.block q hq fun e => by
    obtain ⟨_, cur, hc⟩ := rowD_block hr e.symm
    rcases ht with rfl | rfl
    · exact n1 _ _ hc
    · exact n2 _ _ hc
theorem IsMs.setR {W : World} {g' : Nat} {n' : Int} {L : List Mk} (h : IsMs W g' n' L) {B s k c g i : Nat} {t : TypeId} {xs : List Value} (hr : W.ownsRow B t s (.slice (some ⟨g, 0, none⟩) k c) k xs) (ht : t = 42 ∨ t = 50) (u0 u1 u2 : Value) : IsMs (((W.setCell ⟨g, i * 3, none⟩ u0).setCell ⟨g, i * 3 + 1, none⟩ u1).setCell ⟨g, i * 3 + 2, none⟩ u2) g' n' L :=
  h.blk fun q hq n1 n2 => by
    have hne : q ≠ g := fun e => by
      obtain ⟨_, cur, hc⟩ := rowD_block hr (G := g) rfl
      subst e
      rcases ht with rfl | rfl
      · exact n1 _ _ hc
      · exact n2 _ _ hc
    rw [Below.heap_setCell _ _ _ q hne, Below.heap_setCell _ _ _ q hne, Below.heap_setCell _ _ _ q hne]
/-- the rows of MarksOwn: a, b, between, full; and marks that were made since -/
structure OwM (W3 W : World) (va vb vm vf : Value) (na nm nf : Nat) (D : List Mk) (ex : List (Nat × Int × List Mk)) : Prop where
  a : ∃ xs, W.ownsRow W3.heap.size 42 3 va na xs
  b : W.ownsRow W3.heap.size 42 3 vb D.length (mksV D)
  m : ∃ xs, W.ownsRow W3.heap.size 42 3 vm nm xs
  f : ∃ xs, W.ownsRow W3.heap.size 50 3 vf nf xs
  ab : NB va vb
  am : NB va vm
  bm : NB vb vm
  o : Below W3.heap.size W3 W
  e : ∀ z ∈ ex, IsMs W z.1 z.2.1 z.2.2
theorem OwM.on {W3 W Y : World} {va vb vm vf : Value} {na nm nf : Nat} {D : List Mk} {ex : List (Nat × Int × List Mk)} (h : OwM W3 W va vb vm vf na nm nf D ex) (hb : Below W.heap.size W Y) : OwM W3 Y va vb vm vf na nm nf D ex := by
  obtain ⟨xs, hx⟩ := h.a
  obtain ⟨ms, hm⟩ := h.m
  obtain ⟨fs, hf⟩ := h.f
  exact ⟨⟨_, rowD_below hx hb (Nat.le_refl _)⟩, rowD_below h.b hb (Nat.le_refl _), ⟨_, rowD_below hm hb (Nat.le_refl _)⟩, ⟨_, rowD_below hf hb (Nat.le_refl _)⟩, h.ab, h.am, h.bm, h.o.trans (hb.mono h.o.size), fun z hz => (h.e z hz).below hb (Nat.le_refl _)⟩
theorem OwM.seta {W3 W : World} {vb vm vf : Value} {g c na nm nf i : Nat} {D : List Mk} {ex : List (Nat × Int × List Mk)} (h : OwM W3 W (.slice (some ⟨g, 0, none⟩) na c) vb vm vf na nm nf D ex) (u0 u1 u2 : Value) : OwM W3 (((W.setCell ⟨g, i * 3, none⟩ u0).setCell ⟨g, i * 3 + 1, none⟩ u1).setCell ⟨g, i * 3 + 2, none⟩ u2) (.slice (some ⟨g, 0, none⟩) na c) vb vm vf na nm nf D ex := by
  obtain ⟨xs, hx⟩ := h.a
  obtain ⟨ms, hm⟩ := h.m
  obtain ⟨fs, hf⟩ := h.f
  exact ⟨⟨_, rwk_set (rwk_set (rwk_set hx _ _) _ _) _ _⟩, row_apart3 h.b (fun e => h.ab g rfl e) _ _ _, ⟨_, row_apart3 hm (fun e => h.am g rfl e) _ _ _⟩, ⟨_, row_apart3 hf (fun e => nb_typ hx hf (by decide) g rfl e) _ _ _⟩, h.ab, h.am, h.bm, below_put3 h.o (hx.lt g rfl).1 _ _ _, fun z hz => (h.e z hz).setR hx (.inl rfl) _ _ _⟩
theorem OwM.setm {W3 W : World} {va vb vf : Value} {g c na nm nf i : Nat} {D : List Mk} {ex : List (Nat × Int × List Mk)} (h : OwM W3 W va vb (.slice (some ⟨g, 0, none⟩) nm c) vf na nm nf D ex) (u0 u1 u2 : Value) : OwM W3 (((W.setCell ⟨g, i * 3, none⟩ u0).setCell ⟨g, i * 3 + 1, none⟩ u1).setCell ⟨g, i * 3 + 2, none⟩ u2) va vb (.slice (some ⟨g, 0, none⟩) nm c) vf na nm nf D ex := by
  obtain ⟨xs, hx⟩ := h.a
  obtain ⟨ms, hm⟩ := h.m
  obtain ⟨fs, hf⟩ := h.f
  exact ⟨⟨_, row_apart3 hx (fun e => h.am g e rfl) _ _ _⟩, row_apart3 h.b (fun e => h.bm g e rfl) _ _ _, ⟨_, rwk_set (rwk_set (rwk_set hm _ _) _ _) _ _⟩, ⟨_, row_apart3 hf (fun e => nb_typ hm hf (by decide) g rfl e) _ _ _⟩, h.ab, h.am, h.bm, below_put3 h.o (hm.lt g rfl).1 _ _ _, fun z hz => (h.e z hz).setR hm (.inl rfl) _ _ _⟩
theorem OwM.setf {W3 W : World} {va vb vm : Value} {g c na nm nf i : Nat} {D : List Mk} {ex : List (Nat × Int × List Mk)} (h : OwM W3 W va vb vm (.slice (some ⟨g, 0, none⟩) nf c) na nm nf D ex) (u0 u1 u2 : Value) : OwM W3 (((W.setCell ⟨g, i * 3, none⟩ u0).setCell ⟨g, i * 3 + 1, none⟩ u1).setCell ⟨g, i * 3 + 2, none⟩ u2) va vb vm (.slice (some ⟨g, 0, none⟩) nf c) na nm nf D ex := by
  obtain ⟨xs, hx⟩ := h.a
  obtain ⟨ms, hm⟩ := h.m
  obtain ⟨fs, hf⟩ := h.f
  exact ⟨⟨_, row_apart3 hx (fun e => nb_typ hx hf (by decide) g e rfl) _ _ _⟩, row_apart3 h.b (fun e => nb_typ h.b hf (by decide) g e rfl) _ _ _, ⟨_, row_apart3 hm (fun e => nb_typ hm hf (by decide) g e rfl) _ _ _⟩, ⟨_, rwk_set (rwk_set (rwk_set hf _ _) _ _) _ _⟩, h.ab, h.am, h.bm, below_put3 h.o (hf.lt g rfl).1 _ _ _, fun z hz => (h.e z hz).setR hf (.inr rfl) _ _ _⟩
theorem OwM.pusha {W3 W : World} {va vb vm vf : Value} {na nm nf : Nat} {D : List Mk} {ex : List (Nat × Int × List Mk)} (h : OwM W3 W va vb vm vf na nm nf D ex) (s : ByteArray) (hn : na ≤ 1099511627776) :
    ∃ v' W', (Builtin.append_ #[27, 27] 27 #[va, .slice (some ⟨W.heap.size, 0, none⟩) 1 1]).run Try.prog (W.alloc (.cells #[.string s, .int .i64 0, .int .i64 0] 42)) = .ok v' W' ∧ OwM W3 W' v' vb vm vf (na + 1) nm nf D ex := by
  obtain ⟨xs, hx⟩ := h.a
  obtain ⟨ms, hm⟩ := h.m
  obtain ⟨fs, hf⟩ := h.f
  obtain ⟨v', W', g, r, hv, o, hg, hb, hor⟩ := push3 W W3.heap.size na va xs (.string s) (.int .i64 0) (.int .i64 0) 27 hx rfl rfl rfl hn h.o.size
  exact ⟨v', W', r, ⟨_, o⟩, row_gr h.b h.ab.symm hg, ⟨_, row_gr hm h.am.symm hg⟩, ⟨_, row_gr hf (nb_typ hf hx (by decide)) hg⟩, (nb_push h.b h.ab.symm hv hor).symm, (nb_push hm h.am.symm hv hor).symm, h.bm, h.o.trans (hb.mono (Nat.le_refl _)), fun z hz => (h.e z hz).grownR hx (.inl rfl) hg⟩
theorem MSet_any (g : Nat) (n : Int) (L : List Mk) (x : Mk) (X : World) (h : IsMs X g n L) :
    Calls Try.prog 16 #[.pointer (some ⟨g, 0, none⟩), mkV x] X fun y X' => (∃ v, y = .returned v) ∧ Below X.heap.size X X' := by
  by_cases hr : refM n L x = 0
  · exact (MSet_at g n L x X h hr).mono fun y w ⟨_, e, _, b⟩ => ⟨⟨_, e⟩, b⟩
  · exact (MSetE_at g n L x X h hr).mono fun y w ⟨e, b⟩ => ⟨⟨_, e⟩, b⟩
theorem MDrop_any (g : Nat) (n : Int) (L : List Mk) (s : ByteArray) (X : World) (h : IsMs X g n L) :
    Calls Try.prog 17 #[.pointer (some ⟨g, 0, none⟩), .string s] X fun y X' => (∃ v, y = .returned v) ∧ Below X.heap.size X X' := by
  cases hg : getM s L with
  | none => exact (MDropE_at g n L s X h hg).mono fun y w ⟨e, b⟩ => ⟨⟨_, e⟩, b⟩
  | some m => exact (MDrop_at g n L s X h m hg).mono fun y w ⟨_, e, _, b⟩ => ⟨⟨_, e⟩, b⟩
end Go.Proofs.Ytfllomlighlejaa
end
