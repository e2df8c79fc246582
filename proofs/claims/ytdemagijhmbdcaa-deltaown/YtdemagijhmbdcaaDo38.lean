/- Layer 13: rows that DeltaOwn writes and grows (written by wip/tools/dox.py). -/
import Derived.Test.YtdemagijhmbdcaaDo35
import Derived.Test.YtdemagijhmbdcaaDo37
import Derived.Test.YtdemagijhmbdcaaDo32

namespace Go.Proofs.Ytdemagijhmbdcaa
open Go.ChangeShapes Go.WideShapes Go.ChangeAt Go.RowKit
attribute [local go_sem] Oper.semAt_some

theorem row_steps3 {W : World} {B n c g i : Nat} {t : TypeId} {xs : List Value} (h : W.ownsRow B t 3 (.slice (some ⟨g, 0, none⟩) n c) n xs) (hi : i < n) (u0 u1 u2 : Value) :
    ((∃ o, W.cell? ⟨g, i * 3, none⟩ = some o) ∧ W.frozen? ⟨g, i * 3, none⟩ = false ∧ (∃ o, (W.setCell ⟨g, i * 3, none⟩ u0).cell? ⟨g, i * 3 + 1, none⟩ = some o) ∧ (W.setCell ⟨g, i * 3, none⟩ u0).frozen? ⟨g, i * 3 + 1, none⟩ = false ∧ (∃ o, ((W.setCell ⟨g, i * 3, none⟩ u0).setCell ⟨g, i * 3 + 1, none⟩ u1).cell? ⟨g, i * 3 + 2, none⟩ = some o) ∧ ((W.setCell ⟨g, i * 3, none⟩ u0).setCell ⟨g, i * 3 + 1, none⟩ u1).frozen? ⟨g, i * 3 + 2, none⟩ = false) ∧ (∃ ys, (((W.setCell ⟨g, i * 3, none⟩ u0).setCell ⟨g, i * 3 + 1, none⟩ u1).setCell ⟨g, i * 3 + 2, none⟩ u2).ownsRow B t 3 (.slice (some ⟨g, 0, none⟩) n c) n ys) := by
  have h1 := rwk_set h (i * 3) u0
  have h2 := rwk_set h1 (i * 3 + 1) u1
  have h3 := rwk_set h2 (i * 3 + 2) u2
  have f : ∀ {Y : World} {ys : List Value} (k : Nat), Y.ownsRow B t 3 (.slice (some ⟨g, 0, none⟩) n c) n ys → k < n * 3 → (∃ o, Y.cell? ⟨g, k, none⟩ = some o) ∧ Y.frozen? ⟨g, k, none⟩ = false := fun k hr hk => by
    obtain ⟨e1, e2⟩ := rwk_cell hr k hk
    exact ⟨⟨_, e1.trans (List.getElem?_eq_getElem (by rw [hr.1]; exact hk))⟩, e2⟩
  exact ⟨⟨(f (i * 3) h (by omega)).1, (f (i * 3) h (by omega)).2, (f (i * 3 + 1) h1 (by omega)).1, (f (i * 3 + 1) h1 (by omega)).2, (f (i * 3 + 2) h2 (by omega)).1, (f (i * 3 + 2) h2 (by omega)).2⟩, _, h3⟩
theorem row_apart3 {W : World} {B sz n g i : Nat} {t : TypeId} {v : Value} {xs : List Value} (h : W.ownsRow B t sz v n xs) (hn : v.ownBlock ≠ some g) (u0 u1 u2 : Value) : (((W.setCell ⟨g, i * 3, none⟩ u0).setCell ⟨g, i * 3 + 1, none⟩ u1).setCell ⟨g, i * 3 + 2, none⟩ u2).ownsRow B t sz v n xs := by
  have hx : ∀ {Y : World} (k : Nat) (u : Value), Y.ownsRow B t sz v n xs → (Y.setCell ⟨g, k, none⟩ u).ownsRow B t sz v n xs := fun k u hY => rowD_on hY fun G hG => Below.heap_setCell _ _ _ G fun e => hn (by rw [hG, e])
  exact hx _ _ (hx _ _ (hx _ _ (h)))
theorem below_put3 {N : Nat} {X W : World} {g i : Nat} (h : Below N X W) (hg : N ≤ g) (u0 u1 u2 : Value) : Below N X (((W.setCell ⟨g, i * 3, none⟩ u0).setCell ⟨g, i * 3 + 1, none⟩ u1).setCell ⟨g, i * 3 + 2, none⟩ u2) := ((h.setCell (p := ⟨g, i * 3, none⟩) hg u0).setCell (p := ⟨g, i * 3 + 1, none⟩) hg u1).setCell (p := ⟨g, i * 3 + 2, none⟩) hg u2
theorem typO_apart {X : World} {B1 B2 s1 s2 n1 n2 g : Nat} {t1 t2 : TypeId} {v1 v2 : Value} {x1 x2 : List Value} (h1 : X.ownsRow B1 t1 s1 v1 n1 x1) (h2 : X.ownsRow B2 t2 s2 v2 n2 x2) (ht : t1 ≠ t2) (e1 : v1.ownBlock = some g) (e2 : v2.ownBlock = some g) : False := by
  obtain ⟨_, c1, k1⟩ := rowD_block h1 e1
  obtain ⟨_, c2, k2⟩ := rowD_block h2 e2
  rw [k1] at k2
  cases k2
  exact ht rfl
theorem nbO_typ {W : World} {B1 B2 s1 s2 n1 n2 : Nat} {t1 t2 : TypeId} {v1 v2 : Value} {x1 x2 : List Value} (h1 : W.ownsRow B1 t1 s1 v1 n1 x1) (h2 : W.ownsRow B2 t2 s2 v2 n2 x2) (ht : t1 ≠ t2) : NB v1 v2 := fun _ e1 e2 => typO_apart h1 h2 ht e1 e2
theorem nbO_age {W : World} {B1 B2 s1 s2 n1 n2 N : Nat} {t1 t2 : TypeId} {v1 v2 : Value} {x1 x2 : List Value} (h1 : W.ownsRow B1 t1 s1 v1 n1 x1) (hN : W.heap.size ≤ N) {Y : World} (h2 : Y.ownsRow B2 t2 s2 v2 n2 x2) (hB : N ≤ B2) : NB v1 v2 := fun g e1 e2 => by
  have := (h1.lt g e1).2
  have := (h2.lt g e2).1
  omega
theorem row_gr {W W' : World} {B1 s1 n1 : Nat} {t1 : TypeId} {v1 v2 : Value} {x1 : List Value} (h1 : W.ownsRow B1 t1 s1 v1 n1 x1) (hn : NB v1 v2) (hg : W.grownBy W' v2.ownBlock) : W'.ownsRow B1 t1 s1 v1 n1 x1 := rowD_on h1 fun G hG => hg.block G (h1.lt G hG).2 fun e => hn G hG e.symm
theorem opsV_lenO : ∀ d : List Dop, (opsV d).length = d.length * 3
  | [] => rfl
  | o :: d => by
    have ih := opsV_lenO d
    simp only [opsV, List.flatMap_cons, List.length_append, List.length_cons] at ih ⊢
    rw [ih]
    simp only [opL, List.length_cons, List.length_nil]
    omega
theorem rowO_base {X : World} {B B' sz n : Nat} {t : TypeId} {v : Value} {xs : List Value} (h : X.ownsRow B t sz v n xs) (hB : B' ≤ B) : X.ownsRow B' t sz v n xs := World.ownsRow.mono h hB
def LkO (u v : Value) : Prop := (∃ g c m n, u = .slice (some ⟨g, 0, none⟩) m c ∧ v = .slice (some ⟨g, 0, none⟩) n c ∧ m ≤ n) ∨ NB u v
theorem LkO.self {W : World} {B s m : Nat} {e : TypeId} {u : Value} {us : List Value} (h : W.ownsRow B e s u m us) : LkO u u := by
  rcases h.2 with ⟨rfl, _⟩ | ⟨g, c, _, rfl, _⟩
  · exact .inr fun g e1 _ => by cases e1
  · exact .inl ⟨g, c, m, m, rfl, rfl, Nat.le_refl _⟩
theorem rowO_lk {W W' : World} {B s m n : Nat} {e : TypeId} {u v : Value} {us xs : List Value} (h : W.ownsRow B e s u m us) (hv : W.ownsRow B e s v n xs) (hl : LkO u v) (hv' : W'.ownsRow B e s v n xs) (hg : W.grownBy W' v.ownBlock) : W'.ownsRow B e s u m us := by
  rcases hl with ⟨g, c, m', n', rfl, rfl, hmn⟩ | hl
  · rcases h.2 with ⟨e1, _⟩ | ⟨_, _, cur, e1, hb, hg1, hn1, hm1, hs1, ht1⟩
    · cases e1
    · cases e1
      rcases hv.2 with ⟨e2, _⟩ | ⟨_, _, cur2, e2, _, hg2, _, _, _, ht2⟩
      · cases e2
      · cases e2
        rw [hg1] at hg2
        cases hg2
        rcases hv'.2 with ⟨e3, _⟩ | ⟨_, _, cur3, e3, _, hg3, _, _, hs3, ht3⟩
        · cases e3
        · cases e3
          refine ⟨h.1, .inr ⟨g, c, cur3, rfl, hb, hg3, hn1, hm1, hs3, ?_⟩⟩
          have k := Nat.mul_le_mul_right s hmn
          have a1 := congrArg (List.take (m * s)) ht2
          have a2 := congrArg (List.take (m * s)) ht3
          rw [List.take_take, Nat.min_eq_left k] at a1 a2
          rw [a2, ← a1]; exact ht1
  · exact row_gr h hl hg
theorem push1 (W : World) (B n : Nat) (v : Value) (xs : List Value) (u0 : Value) (ty : TypeId) (h : W.ownsRow B 5 1 v n xs) (h0 : u0.oneCell' = true) (hn : n ≤ 1099511627776) (hB : B ≤ W.heap.size) :
    ∃ v' W' g, (Builtin.append_ #[22, 22] ty #[v, .slice (some ⟨W.heap.size, 0, none⟩) 1 1]).run Try.prog (W.alloc (.cells #[u0] 5)) = .ok v' W' ∧ v'.ownBlock = some g ∧
      W'.ownsRow B 5 1 v' (n + 1) (xs ++ [u0]) ∧ W.grownBy W' v.ownBlock ∧ Below B W W' ∧ (v.ownBlock = some g ∨ W.heap.size ≤ g) := by
  obtain ⟨i, hi, hz, hs, hby⟩ := info_u8
  have hr := World.ownsRow.alloc h (.cells #[u0] 5)
  have k0 := Cls.new W 5 #[u0]
  have c0 := k0.cell 0
  simp only [List.getElem?_toArray, List.getElem?_cons_zero] at c0
  obtain ⟨g, k, W', hrun, ho, hg, hor, _⟩ := run_append_lies (P := Try.prog) (W.alloc (.cells #[u0] 5)) 22 ty B 5 i (.int .u8 0) 1 1 Try.underlying22 hi hz hs hby rfl (by decide)
    v n xs hr ⟨W.heap.size, 0, none⟩ 1 1 [u0] rfl
    (fun j u hj => by
      match j with
      | 0 => simp at hj; subst hj; rw [Addr.add_lit]; exact c0
      | j + 1 => simp at hj)
    (fun u hu => by simp at hu; rcases hu with rfl <;> assumption) (by decide) (by unfold maxLen; omega) (by omega) (by simp; omega) _ rfl
  have ha := World.grownBy_alloc W (.cells #[u0] 5) none
  refine ⟨_, W', g, hrun, rfl, ho, ⟨hg.os.trans ha.os, hg.tape.trans ha.tape, hg.output.trans ha.output, Nat.le_trans ha.size hg.size, fun k hk hne => ?_⟩, ((Below.refl B W).alloc hB _).grown hg (by simp; omega) (fun k hk => (hr.lt k hk).1), ?_⟩
  · exact (hg.block k (Nat.lt_of_lt_of_le hk ha.size) hne).trans (ha.block k hk (by simp))
  · rcases hor with h' | h'
    · exact .inl h'
    · exact .inr (by rw [h', World.size_alloc]; omega)
/-- full, in and the changes, which are written over; what else lay there stays -/
structure WoJ (B : Nat) (V W : World) (vf vr vc : Value) (nf nr nc : Nat) : Prop where
  f : ∃ xs, W.ownsRow B 5 1 vf nf xs
  r : ∃ xs, W.ownsRow B 34 3 vr nr xs
  c : ∃ xs, W.ownsRow B 56 3 vc nc xs
  k : ∀ q, vf.ownBlock ≠ some q → vr.ownBlock ≠ some q → vc.ownBlock ≠ some q → W.heap[q]? = V.heap[q]?
  z : W.heap.size = V.heap.size
  d : Below B V W
theorem WoJ.setf {B : Nat} {V W : World} {vr vc : Value} {nf nr nc g c i : Nat} (h : WoJ B V W (.slice (some ⟨g, 0, none⟩) nf c) vr vc nf nr nc) (u : Value) : WoJ B V (W.setCell ⟨g, i, none⟩ u) (.slice (some ⟨g, 0, none⟩) nf c) vr vc nf nr nc := by
  obtain ⟨xs, hf⟩ := h.f
  obtain ⟨ys, hr⟩ := h.r
  obtain ⟨zs, hc⟩ := h.c
  have ho : ∀ {t : TypeId} {s m : Nat} {v : Value} {us : List Value}, W.ownsRow B t s v m us → t ≠ 5 → (W.setCell ⟨g, i, none⟩ u).ownsRow B t s v m us := fun hv ht => rowD_on hv fun G hG => Below.heap_setCell _ _ _ G fun e => by
    subst e
    exact typO_apart hv hf ht hG rfl
  exact ⟨⟨_, rwk_set hf _ _⟩, ⟨_, ho hr (by decide)⟩, ⟨_, ho hc (by decide)⟩, fun q h1 h2 h3 => by
    rw [Below.heap_setCell _ _ _ q (fun e => h1 (by rw [e]; rfl))]; exact h.k q h1 h2 h3, by rw [setCell_size]; exact h.z, h.d.setCell (p := ⟨g, i, none⟩) (hf.lt g rfl).1 u⟩
theorem set3_blk {W : World} {g i q : Nat} (u0 u1 u2 : Value) (hq : q ≠ g) : ((((W.setCell ⟨g, i * 3, none⟩ u0).setCell ⟨g, i * 3 + 1, none⟩ u1).setCell ⟨g, i * 3 + 2, none⟩ u2)).heap[q]? = W.heap[q]? := by
  rw [Below.heap_setCell _ _ _ q hq, Below.heap_setCell _ _ _ q hq, Below.heap_setCell _ _ _ q hq]
theorem WoJ.setr {B : Nat} {V W : World} {vf vc : Value} {nf nr nc g c i : Nat} (h : WoJ B V W vf (.slice (some ⟨g, 0, none⟩) nr c) vc nf nr nc) (u0 u1 u2 : Value) : WoJ B V (((W.setCell ⟨g, i * 3, none⟩ u0).setCell ⟨g, i * 3 + 1, none⟩ u1).setCell ⟨g, i * 3 + 2, none⟩ u2) vf (.slice (some ⟨g, 0, none⟩) nr c) vc nf nr nc := by
  obtain ⟨xs, hf⟩ := h.f
  obtain ⟨ys, hr⟩ := h.r
  obtain ⟨zs, hc⟩ := h.c
  exact ⟨⟨_, row_apart3 hf (fun e => typO_apart hf hr (by decide) e rfl) _ _ _⟩, ⟨_, rwk_set (rwk_set (rwk_set hr _ _) _ _) _ _⟩, ⟨_, row_apart3 hc (fun e => typO_apart hc hr (by decide) e rfl) _ _ _⟩, fun q h1 h2 h3 => (set3_blk _ _ _ (fun e => h2 (by rw [e]; rfl))).trans (h.k q h1 h2 h3), by rw [setCell_size, setCell_size, setCell_size]; exact h.z, below_put3 h.d (hr.lt g rfl).1 _ _ _⟩
theorem WoJ.setc {B : Nat} {V W : World} {vf vr : Value} {nf nr nc g c i : Nat} (h : WoJ B V W vf vr (.slice (some ⟨g, 0, none⟩) nc c) nf nr nc) (u0 u1 u2 : Value) : WoJ B V (((W.setCell ⟨g, i * 3, none⟩ u0).setCell ⟨g, i * 3 + 1, none⟩ u1).setCell ⟨g, i * 3 + 2, none⟩ u2) vf vr (.slice (some ⟨g, 0, none⟩) nc c) nf nr nc := by
  obtain ⟨xs, hf⟩ := h.f
  obtain ⟨ys, hr⟩ := h.r
  obtain ⟨zs, hc⟩ := h.c
  exact ⟨⟨_, row_apart3 hf (fun e => typO_apart hf hc (by decide) e rfl) _ _ _⟩, ⟨_, row_apart3 hr (fun e => typO_apart hr hc (by decide) e rfl) _ _ _⟩, ⟨_, rwk_set (rwk_set (rwk_set hc _ _) _ _) _ _⟩, fun q h1 h2 h3 => (set3_blk _ _ _ (fun e => h3 (by rw [e]; rfl))).trans (h.k q h1 h2 h3), by rw [setCell_size, setCell_size, setCell_size]; exact h.z, below_put3 h.d (hc.lt g rfl).1 _ _ _⟩
/-- rows apart from the three stay -/
theorem WoJ.row {B : Nat} {V W : World} {vf vr vc : Value} {nf nr nc : Nat} (h : WoJ B V W vf vr vc nf nr nc) {B' s m : Nat} {t : TypeId} {v : Value} {us : List Value} (hv : V.ownsRow B' t s v m us) (n1 : NB v vf) (n2 : NB v vr) (n3 : NB v vc) : W.ownsRow B' t s v m us := rowD_on hv fun G hG => h.k G (fun e => n1 G hG e) (fun e => n2 G hG e) (fun e => n3 G hG e)
/-- operations that were made later than the three stay -/
theorem WoJ.isF {B N : Nat} {V W : World} {vf vr vc : Value} {nf nr nc : Nat} (h : WoJ B V W vf vr vc nf nr nc) {a : Option Addr} {d : List Dop} (hf : IsF N V a d) (h1 : ∀ q, vf.ownBlock = some q → q < N) (h2 : ∀ q, vr.ownBlock = some q → q < N) (h3 : ∀ q, vc.ownBlock = some q → q < N) : IsO W a d := by
  rcases hf.1 with h0 | ⟨g, off, rfl, hlt, hk⟩
  · exact .inl h0
  · have hN := hf.2 g off rfl
    have hb : W.heap[g]? = V.heap[g]? := h.k g (fun e => by have := h1 g e; omega) (fun e => by have := h2 g e; omega) (fun e => by have := h3 g e; omega)
    refine .inr ⟨g, off, rfl, by rw [h.z]; exact hlt, fun k hkk => ?_⟩
    have f : ∀ o : Nat, W.cell? ⟨g, o, none⟩ = V.cell? ⟨g, o, none⟩ := fun o => World.cell?_of_block (a := ⟨g, o, none⟩) hb
    obtain ⟨c0, c1, c2⟩ := hk k hkk
    exact ⟨(f _).trans c0, (f _).trans c1, (f _).trans c2⟩
/-- four lists in a row of slices; M: which operations are marked -/
structure LsJ (B : Nat) (W0 W : World) (gl : Nat) (vs : List Value) (ns : List Nat) (M : Nat → Nat → Prop) : Prop where
  o : W.ownsRow B 24 1 (.slice (some ⟨gl, 0, none⟩) 4 4) 4 vs
  n : ns.length = 4
  r : ∀ j, j < 4 → ∃ xs, W.ownsRow B 34 3 (vs.getD j undef) (ns.getD j 0) xs ∧ ∀ i, i < ns.getD j 0 → M j i → xs[i * 3 + 1]? = some (.int .i64 (-1 - (j : Int)))
  p : vs.Pairwise NB
  d : Below B W0 W
theorem LsJ.len {B : Nat} {W0 W : World} {gl : Nat} {vs : List Value} {ns : List Nat} {M : Nat → Nat → Prop} (h : LsJ B W0 W gl vs ns M) : vs.length = 4 := by have := h.o.1; simpa using this
theorem pw_get {vs : List Value} (h : vs.Pairwise NB) {i j : Nat} (hi : i < vs.length) (hj : j < vs.length) (hne : i ≠ j) : NB (vs.getD i undef) (vs.getD j undef) := by
  have e : ∀ k, k < vs.length → vs.getD k undef = vs[k]! := fun k hk => by simp [List.getD, getElem!_pos, hk]
  rcases Nat.lt_or_gt_of_ne hne with hl | hl
  · have := List.pairwise_iff_getElem.1 h i j hi hj hl
    simpa [List.getD, List.getElem?_eq_getElem hi, List.getElem?_eq_getElem hj] using this
  · have := (List.pairwise_iff_getElem.1 h j i hj hi hl).symm
    simpa [List.getD, List.getElem?_eq_getElem hi, List.getElem?_eq_getElem hj] using this
theorem LsJ.cell {B : Nat} {W0 W : World} {gl : Nat} {vs : List Value} {ns : List Nat} {M : Nat → Nat → Prop} (h : LsJ B W0 W gl vs ns M) {j : Nat} (hj : j < 4) : ∃ a c, vs.getD j undef = .slice a (ns.getD j 0) c ∧ W.cell? ⟨gl, j, none⟩ = some (.slice a (ns.getD j 0) c) ∧ (0 < ns.getD j 0 → ∃ g, a = some ⟨g, 0, none⟩) := by
  obtain ⟨xs, hx, _⟩ := h.r j hj
  obtain ⟨a, c, e, _⟩ := rowD_form hx
  refine ⟨a, c, e, ?_, fun h0 => ?_⟩
  · rw [(rwk_cell h.o j (by omega)).1, ← e]
    simp [List.getD, List.getElem?_eq_getElem (show j < vs.length by rw [h.len]; exact hj)]
  · rcases hx.2 with ⟨e0, hz⟩ | ⟨g, c', _, e', _⟩
    · omega
    · rw [e] at e'
      injection e' with e1 _ _
      exact ⟨g, e1⟩
theorem LsJ.set {B : Nat} {W0 W : World} {gl : Nat} {vs : List Value} {ns : List Nat} {M : Nat → Nat → Prop} (h : LsJ B W0 W gl vs ns M) {k i g c : Nat} (hk : k < 4) (hv : vs.getD k undef = .slice (some ⟨g, 0, none⟩) (ns.getD k 0) c) (hi : i < ns.getD k 0) (M' : Nat → Nat → Prop) (hM : ∀ j q, M' j q → M j q ∨ (j = k ∧ q = i)) (u0 u2 : Value) : LsJ B W0 ((((W.setCell ⟨g, i * 3, none⟩ u0).setCell ⟨g, i * 3 + 1, none⟩ (.int .i64 (-1 - (k : Int)))).setCell ⟨g, i * 3 + 2, none⟩ u2)) gl vs ns M' := by
  obtain ⟨xs, hx, hm⟩ := h.r k hk
  rw [hv] at hx
  have hxl := hx.1
  refine ⟨row_apart3 h.o (fun e => typO_apart h.o hx (by decide) e rfl) _ _ _, h.n, fun j hj => ?_, h.p, below_put3 h.d (hx.lt g rfl).1 _ _ _⟩
  by_cases hjk : j = k
  · subst hjk
    rw [hv]
    refine ⟨_, rwk_set (rwk_set (rwk_set hx _ _) _ _) _ _, fun q hq hMq => ?_⟩
    by_cases hqi : q = i
    · subst hqi
      rw [List.getElem?_set_ne (by omega), List.getElem?_set_self (by rw [List.length_set]; omega)]
    · rcases hM j q hMq with h1 | ⟨_, h1⟩
      · rw [List.getElem?_set_ne (by omega), List.getElem?_set_ne (by omega), List.getElem?_set_ne (by omega)]
        exact hm q hq h1
      · exact absurd h1 hqi
  · obtain ⟨ys, hy, hmy⟩ := h.r j hj
    refine ⟨ys, row_apart3 hy (fun e => ?_) _ _ _, fun q hq hMq => ?_⟩
    · have hn := pw_get h.p (i := j) (j := k) (by rw [h.len]; exact hj) (by rw [h.len]; exact hk) hjk
      rw [hv] at hn
      exact hn g e rfl
    · rcases hM j q hMq with h1 | ⟨h1, _⟩
      · exact hmy q hq h1
      · exact absurd h1 hjk
theorem LsJ.push {B : Nat} {W0 W : World} {gl : Nat} {vs : List Value} {ns : List Nat} {M : Nat → Nat → Prop} {v25 : Value} {n : Nat} {ys : List Value} (h : LsJ B W0 W gl vs ns M) (hl : ∀ u ∈ vs, LkO u v25) (ho : W.ownsRow B 34 3 v25 n ys) (hn : n ≤ 1099511627776) (hB : B ≤ W.heap.size) (a b : Int) (s : ByteArray) :
    ∃ v' W', (Builtin.append_ #[24, 24] 24 #[v25, .slice (some ⟨W.heap.size, 0, none⟩) 1 1]).run Try.prog (W.alloc (.cells #[.int .i64 a, .int .i64 b, .string s] 34)) = .ok v' W' ∧
      LsJ B W0 W' gl vs ns M ∧ (∀ u ∈ vs, LkO u v') ∧ (∃ ys', W'.ownsRow B 34 3 v' (n + 1) ys') ∧ B ≤ W'.heap.size := by
  obtain ⟨i, hi, hz, hs, hby⟩ := info_op
  have b1 := (Below.refl W.heap.size W).alloc (Nat.le_refl _) (.cells #[.int .i64 a, .int .i64 b, .string s] 34)
  have ho1 := rowD_below ho b1 (Nat.le_refl _)
  obtain ⟨c0, c1, c2⟩ := three_nwD W (.int .i64 a) (.int .i64 b) (.string s) (t := 34)
  obtain ⟨v', W', hrun, hw, hk, hg, hb⟩ := push_kept (P := Try.prog) (W.alloc (.cells #[.int .i64 a, .int .i64 b, .string s] 34)) B 24 24 34 i (.agg #[.int .i64 0, .int .i64 0, .string ⟨#[]⟩]) 3 32 Try.underlying24 hi hz hs hby rfl (by decide)
    v25 n ys ho1 ⟨W.heap.size, 0, none⟩ 1 1 [.int .i64 a, .int .i64 b, .string s] rfl
    (fun j u hj => by
      match j with
      | 0 => simp at hj; subst hj; rw [Addr.add_lit]; exact c0
      | 1 => simp at hj; subst hj; rw [Addr.add_lit]; exact c1
      | 2 => simp at hj; subst hj; rw [Addr.add_lit]; exact c2
      | j + 3 => simp at hj)
    (fun u hu => by simp at hu; rcases hu with rfl | rfl | rfl <;> rfl) (by unfold maxLen; omega) (by omega) (by simp; omega)
  refine ⟨v', W', hrun, ⟨row_gr (rowD_below h.o b1 (Nat.le_refl _)) (nbO_typ (rowD_below h.o b1 (Nat.le_refl _)) ho1 (by decide)) hg, h.n, fun j hj => ?_, h.p, (h.d.trans (b1.mono hB)).grown hg (by simp; omega) (fun k hk => (ho1.lt k hk).1)⟩, fun u hu => ?_, ⟨_, hw⟩, ?_⟩
  · obtain ⟨xs, hx, hm⟩ := h.r j hj
    refine ⟨xs, rowO_lk (rowD_below hx b1 (Nat.le_refl _)) ho1 (hl _ ?_) hk hg, hm⟩
    have hjl : j < vs.length := by rw [h.len]; exact hj
    rw [show vs.getD j undef = vs[j] by simp [List.getD, List.getElem?_eq_getElem hjl]]
    exact List.getElem_mem hjl
  · rcases hb with ⟨g, c, e1, e2⟩ | e1 | e1
    · rcases hl u hu with ⟨g', c', m', n', f1, f2, hmn⟩ | hl
      · rw [e1] at f2
        cases f2
        exact .inl ⟨g, c, m', n + 1, f1, e2, by omega⟩
      · refine .inr fun G hG hG' => hl G hG ?_
        rw [e2] at hG'
        rw [e1]; exact hG'
    · rw [e1] at hw
      rcases hw.2 with ⟨_, e3⟩ | ⟨_, _, _, e3, _⟩
      · omega
      · cases e3
    · refine .inr fun G hG hG' => ?_
      rw [e1] at hG'
      cases hG'
      obtain ⟨j, hj, e⟩ := List.getElem_of_mem hu
      obtain ⟨xs, hx, _⟩ := h.r j (by rw [← h.len]; exact hj)
      rw [show vs.getD j undef = u by rw [← e]; simp [List.getD, List.getElem?_eq_getElem hj]] at hx
      have := (hx.lt _ hG).2
      simp at this
      omega
  · have := b1.size
    have := hg.size
    omega
end Go.Proofs.Ytdemagijhmbdcaa
