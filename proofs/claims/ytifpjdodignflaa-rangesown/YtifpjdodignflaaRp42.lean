/- Layer 16: three lists of one's own, written and grown (written by wip/tools/rgs.py). · Layer 16: the law's play: Set (written by wip/tools/rgs.py). -/
import Derived.Test.YtifpjdodignflaaRp41
import Derived.Deep.DeepAppendWide

section
namespace Go.Proofs.Ytifpjdodignflaa
open Go.ChangeShapes Go.WideShapes Go.ChangeAt Go.RowKit
attribute [local go_sem] Oper.semAt_some

theorem row_steps5 {W : World} {B n c g i : Nat} {t : TypeId} {xs : List Value} (h : W.ownsRow B t 5 (.slice (some ⟨g, 0, none⟩) n c) n xs) (hi : i < n) (u0 u1 u2 u3 u4 : Value) :
    ((∃ o, W.cell? ⟨g, i * 5, none⟩ = some o) ∧ W.frozen? ⟨g, i * 5, none⟩ = false ∧ (∃ o, (W.setCell ⟨g, i * 5, none⟩ u0).cell? ⟨g, i * 5 + 1, none⟩ = some o) ∧ (W.setCell ⟨g, i * 5, none⟩ u0).frozen? ⟨g, i * 5 + 1, none⟩ = false ∧ (∃ o, ((W.setCell ⟨g, i * 5, none⟩ u0).setCell ⟨g, i * 5 + 1, none⟩ u1).cell? ⟨g, i * 5 + 2, none⟩ = some o) ∧ ((W.setCell ⟨g, i * 5, none⟩ u0).setCell ⟨g, i * 5 + 1, none⟩ u1).frozen? ⟨g, i * 5 + 2, none⟩ = false ∧ (∃ o, (((W.setCell ⟨g, i * 5, none⟩ u0).setCell ⟨g, i * 5 + 1, none⟩ u1).setCell ⟨g, i * 5 + 2, none⟩ u2).cell? ⟨g, i * 5 + 3, none⟩ = some o) ∧ (((W.setCell ⟨g, i * 5, none⟩ u0).setCell ⟨g, i * 5 + 1, none⟩ u1).setCell ⟨g, i * 5 + 2, none⟩ u2).frozen? ⟨g, i * 5 + 3, none⟩ = false ∧ (∃ o, ((((W.setCell ⟨g, i * 5, none⟩ u0).setCell ⟨g, i * 5 + 1, none⟩ u1).setCell ⟨g, i * 5 + 2, none⟩ u2).setCell ⟨g, i * 5 + 3, none⟩ u3).cell? ⟨g, i * 5 + 4, none⟩ = some o) ∧ ((((W.setCell ⟨g, i * 5, none⟩ u0).setCell ⟨g, i * 5 + 1, none⟩ u1).setCell ⟨g, i * 5 + 2, none⟩ u2).setCell ⟨g, i * 5 + 3, none⟩ u3).frozen? ⟨g, i * 5 + 4, none⟩ = false) ∧ (∃ ys, (((((W.setCell ⟨g, i * 5, none⟩ u0).setCell ⟨g, i * 5 + 1, none⟩ u1).setCell ⟨g, i * 5 + 2, none⟩ u2).setCell ⟨g, i * 5 + 3, none⟩ u3).setCell ⟨g, i * 5 + 4, none⟩ u4).ownsRow B t 5 (.slice (some ⟨g, 0, none⟩) n c) n ys) := by
  have h1 := rwk_set h (i * 5) u0
  have h2 := rwk_set h1 (i * 5 + 1) u1
  have h3 := rwk_set h2 (i * 5 + 2) u2
  have h4 := rwk_set h3 (i * 5 + 3) u3
  have h5 := rwk_set h4 (i * 5 + 4) u4
  have f : ∀ {Y : World} {ys : List Value} (k : Nat), Y.ownsRow B t 5 (.slice (some ⟨g, 0, none⟩) n c) n ys → k < n * 5 → (∃ o, Y.cell? ⟨g, k, none⟩ = some o) ∧ Y.frozen? ⟨g, k, none⟩ = false := fun k hr hk => by
    obtain ⟨e1, e2⟩ := rwk_cell hr k hk
    exact ⟨⟨_, e1.trans (List.getElem?_eq_getElem (by rw [hr.1]; exact hk))⟩, e2⟩
  exact ⟨⟨(f (i * 5) h (by omega)).1, (f (i * 5) h (by omega)).2, (f (i * 5 + 1) h1 (by omega)).1, (f (i * 5 + 1) h1 (by omega)).2, (f (i * 5 + 2) h2 (by omega)).1, (f (i * 5 + 2) h2 (by omega)).2, (f (i * 5 + 3) h3 (by omega)).1, (f (i * 5 + 3) h3 (by omega)).2, (f (i * 5 + 4) h4 (by omega)).1, (f (i * 5 + 4) h4 (by omega)).2⟩, _, h5⟩
theorem row_apart5 {W : World} {B sz n g i : Nat} {t : TypeId} {v : Value} {xs : List Value} (h : W.ownsRow B t sz v n xs) (hn : v.ownBlock ≠ some g) (u0 u1 u2 u3 u4 : Value) : (((((W.setCell ⟨g, i * 5, none⟩ u0).setCell ⟨g, i * 5 + 1, none⟩ u1).setCell ⟨g, i * 5 + 2, none⟩ u2).setCell ⟨g, i * 5 + 3, none⟩ u3).setCell ⟨g, i * 5 + 4, none⟩ u4).ownsRow B t sz v n xs := by
  have hx : ∀ {Y : World} (k : Nat) (u : Value), Y.ownsRow B t sz v n xs → (Y.setCell ⟨g, k, none⟩ u).ownsRow B t sz v n xs := fun k u hY => rowD_on hY fun G hG => Below.heap_setCell _ _ _ G fun e => hn (by rw [hG, e])
  exact hx _ _ (hx _ _ (hx _ _ (hx _ _ (hx _ _ (h)))))
theorem below_put5 {N : Nat} {X W : World} {g i : Nat} (h : Below N X W) (hg : N ≤ g) (u0 u1 u2 u3 u4 : Value) : Below N X (((((W.setCell ⟨g, i * 5, none⟩ u0).setCell ⟨g, i * 5 + 1, none⟩ u1).setCell ⟨g, i * 5 + 2, none⟩ u2).setCell ⟨g, i * 5 + 3, none⟩ u3).setCell ⟨g, i * 5 + 4, none⟩ u4) := ((((h.setCell (p := ⟨g, i * 5, none⟩) hg u0).setCell (p := ⟨g, i * 5 + 1, none⟩) hg u1).setCell (p := ⟨g, i * 5 + 2, none⟩) hg u2).setCell (p := ⟨g, i * 5 + 3, none⟩) hg u3).setCell (p := ⟨g, i * 5 + 4, none⟩) hg u4
theorem row_steps2 {W : World} {B n c g i : Nat} {t : TypeId} {xs : List Value} (h : W.ownsRow B t 2 (.slice (some ⟨g, 0, none⟩) n c) n xs) (hi : i < n) (u0 u1 : Value) :
    ((∃ o, W.cell? ⟨g, i * 2, none⟩ = some o) ∧ W.frozen? ⟨g, i * 2, none⟩ = false ∧ (∃ o, (W.setCell ⟨g, i * 2, none⟩ u0).cell? ⟨g, i * 2 + 1, none⟩ = some o) ∧ (W.setCell ⟨g, i * 2, none⟩ u0).frozen? ⟨g, i * 2 + 1, none⟩ = false) ∧ (∃ ys, ((W.setCell ⟨g, i * 2, none⟩ u0).setCell ⟨g, i * 2 + 1, none⟩ u1).ownsRow B t 2 (.slice (some ⟨g, 0, none⟩) n c) n ys) := by
  have h1 := rwk_set h (i * 2) u0
  have h2 := rwk_set h1 (i * 2 + 1) u1
  have f : ∀ {Y : World} {ys : List Value} (k : Nat), Y.ownsRow B t 2 (.slice (some ⟨g, 0, none⟩) n c) n ys → k < n * 2 → (∃ o, Y.cell? ⟨g, k, none⟩ = some o) ∧ Y.frozen? ⟨g, k, none⟩ = false := fun k hr hk => by
    obtain ⟨e1, e2⟩ := rwk_cell hr k hk
    exact ⟨⟨_, e1.trans (List.getElem?_eq_getElem (by rw [hr.1]; exact hk))⟩, e2⟩
  exact ⟨⟨(f (i * 2) h (by omega)).1, (f (i * 2) h (by omega)).2, (f (i * 2 + 1) h1 (by omega)).1, (f (i * 2 + 1) h1 (by omega)).2⟩, _, h2⟩
theorem row_apart2 {W : World} {B sz n g i : Nat} {t : TypeId} {v : Value} {xs : List Value} (h : W.ownsRow B t sz v n xs) (hn : v.ownBlock ≠ some g) (u0 u1 : Value) : ((W.setCell ⟨g, i * 2, none⟩ u0).setCell ⟨g, i * 2 + 1, none⟩ u1).ownsRow B t sz v n xs := by
  have hx : ∀ {Y : World} (k : Nat) (u : Value), Y.ownsRow B t sz v n xs → (Y.setCell ⟨g, k, none⟩ u).ownsRow B t sz v n xs := fun k u hY => rowD_on hY fun G hG => Below.heap_setCell _ _ _ G fun e => hn (by rw [hG, e])
  exact hx _ _ (hx _ _ (h))
theorem below_put2 {N : Nat} {X W : World} {g i : Nat} (h : Below N X W) (hg : N ≤ g) (u0 u1 : Value) : Below N X ((W.setCell ⟨g, i * 2, none⟩ u0).setCell ⟨g, i * 2 + 1, none⟩ u1) := (h.setCell (p := ⟨g, i * 2, none⟩) hg u0).setCell (p := ⟨g, i * 2 + 1, none⟩) hg u1
theorem push_opw (W : World) (B n : Nat) (v : Value) (xs : List Value) (ty : TypeId) (h : W.ownsRow B 54 3 v n xs) (hn : n * 32 ≤ 140737488355328) (hB : B ≤ W.heap.size) :
    ∃ g k W', (Builtin.append_ #[39, 39] ty #[v, .slice (some ⟨W.heap.size, 0, none⟩) 1 1]).run Try.prog (W.alloc (.cells #[.int .i64 9, .int .i64 0, .string ⟨#[]⟩] 54)) = .ok (.slice (some ⟨g, 0, none⟩) (n + 1) k) W' ∧
      W'.ownsRow B 54 3 (.slice (some ⟨g, 0, none⟩) (n + 1) k) (n + 1) (xs ++ [.int .i64 9, .int .i64 0, .string ⟨#[]⟩]) ∧ Below B W W' ∧ n + 1 ≤ k := by
  obtain ⟨i, hi, hz, hs, hby⟩ := info_op
  have hr := World.ownsRow.alloc h (.cells #[.int .i64 9, .int .i64 0, .string ⟨#[]⟩] 54)
  have k0 := Cls.new W 54 #[.int .i64 9, .int .i64 0, .string ⟨#[]⟩]
  have c0 := k0.cell 0
  have c1 := k0.cell 1
  have c2 := k0.cell 2
  simp only [List.getElem?_toArray, List.getElem?_cons_zero, List.getElem?_cons_succ] at c0 c1 c2
  obtain ⟨v', W', hrun, ho, hg, _⟩ := run_append_own_wide (P := Try.prog) (w := W.alloc (.cells #[.int .i64 9, .int .i64 0, .string ⟨#[]⟩] 54)) B 39 ty 54 i (.agg #[.int .i64 0, .int .i64 0, .string ⟨#[]⟩]) 3 32 Try.underlying39 hi hz hs hby rfl (by decide)
    v n xs hr ⟨W.heap.size, 0, none⟩ 1 1 [.int .i64 9, .int .i64 0, .string ⟨#[]⟩] rfl
    (fun j u hj => by
      match j with
      | 0 => simp at hj; subst hj; rw [Addr.add_lit]; exact c0
      | 1 => simp at hj; subst hj; rw [Addr.add_lit]; exact c1
      | 2 => simp at hj; subst hj; rw [Addr.add_lit]; exact c2
      | j + 3 => simp at hj)
    (fun u hu => by simp at hu; rcases hu with rfl | rfl | rfl <;> rfl) (by unfold maxLen; omega) (by omega) (by simp; omega)
  obtain ⟨g, k, rfl, _⟩ := ho.form (by omega)
  have hk : n + 1 ≤ k := by
    rcases ho.2 with ⟨e, _⟩ | ⟨_, _, _, e, _, _, hk, _⟩
    · cases e
    · cases e; exact hk
  exact ⟨g, k, W', hrun, ho, ((Below.refl B W).alloc hB _).grown hg (by simp; omega) (fun k hk => (hr.lt k hk).1), hk⟩
theorem opsV_lenR (d : List Dop) : (opsV d).length = d.length * 3 := flat_len opL 3 (fun _ => rfl) d
theorem rowR_put2' {W : World} {B s k b : Nat} {t : TypeId} {v : Value} {xs : List Value} (h : W.ownsRow B t s v k xs) (hb : b < B) (u z : Value) : ((W.setCell ⟨b, 0, none⟩ u).setCell ⟨b, 1, none⟩ z).ownsRow B t s v k xs := rowD_on h fun G hG => by
  have hne : G ≠ b := by
    have := (rowD_block h hG).1
    omega
  rw [Below.heap_setCell _ ⟨b, 1, none⟩ _ G hne, Below.heap_setCell _ ⟨b, 0, none⟩ _ G hne]
theorem own_isORv {W : World} {B g c : Nat} {d : List Dop} (h : W.ownsRow B 54 3 (.slice (some ⟨g, 0, none⟩) d.length c) d.length (opsV d)) : IsO W (some ⟨g, 0, none⟩) d := by
  obtain ⟨_, _, e, hi, _⟩ := own_isOR h
  cases e
  exact hi
/-- three lists of one's own: ranges, hits, ranges -/
structure TrJ (Wb W : World) (vx vy vz : Value) (nx ny nz : Nat) : Prop where
  x : ∃ xs, W.ownsRow Wb.heap.size 37 5 vx nx xs
  y : ∃ ys, W.ownsRow Wb.heap.size 59 2 vy ny ys
  z : ∃ zs, W.ownsRow Wb.heap.size 37 5 vz nz zs
  nb : NB vx vz
  b : Below Wb.heap.size Wb W
theorem nb_typ {W : World} {B1 B2 s1 s2 n1 n2 : Nat} {t1 t2 : TypeId} {v1 v2 : Value} {x1 x2 : List Value} (h1 : W.ownsRow B1 t1 s1 v1 n1 x1) (h2 : W.ownsRow B2 t2 s2 v2 n2 x2) (ht : t1 ≠ t2) : NB v1 v2 := fun _ e1 e2 => typ_apart h1 h2 ht e1 e2
theorem nb_age {W : World} {B1 B2 s1 s2 n1 n2 N : Nat} {t1 t2 : TypeId} {v1 v2 : Value} {x1 x2 : List Value} (h1 : W.ownsRow B1 t1 s1 v1 n1 x1) (hN : W.heap.size ≤ N) {Y : World} (h2 : Y.ownsRow B2 t2 s2 v2 n2 x2) (hB : N ≤ B2) : NB v1 v2 := fun g e1 e2 => by
  have := (h1.lt g e1).2
  have := (h2.lt g e2).1
  omega
theorem row_gr {W W' : World} {B1 s1 n1 : Nat} {t1 : TypeId} {v1 v2 : Value} {x1 : List Value} (h1 : W.ownsRow B1 t1 s1 v1 n1 x1) (hn : NB v1 v2) (hg : W.grownBy W' v2.ownBlock) : W'.ownsRow B1 t1 s1 v1 n1 x1 := rowD_on h1 fun G hG => hg.block G (h1.lt G hG).2 fun e => hn G hG e.symm
theorem TrJ.setx {Wb W : World} {vy vz : Value} {n ny nz g c i : Nat} (h : TrJ Wb W (.slice (some ⟨g, 0, none⟩) n c) vy vz n ny nz) (s : ByteArray) : TrJ Wb (((((W.setCell ⟨g, i * 5, none⟩ (.string s)).setCell ⟨g, i * 5 + 1, none⟩ (.int .i64 0)).setCell ⟨g, i * 5 + 2, none⟩ (.int .i64 0)).setCell ⟨g, i * 5 + 3, none⟩ (.int .i64 0)).setCell ⟨g, i * 5 + 4, none⟩ (.int .i64 0)) (.slice (some ⟨g, 0, none⟩) n c) vy vz n ny nz := by
  obtain ⟨xs, hx⟩ := h.x
  obtain ⟨ys, hy⟩ := h.y
  obtain ⟨zs, hz⟩ := h.z
  refine ⟨⟨_, rwk_set (rwk_set (rwk_set (rwk_set (rwk_set hx _ _) _ _) _ _) _ _) _ _⟩, ⟨ys, row_apart5 hy (fun e => nb_typ hx hy (by decide) g rfl e) _ _ _ _ _⟩, ⟨zs, row_apart5 hz (fun e => h.nb g rfl e) _ _ _ _ _⟩, h.nb, below_put5 h.b (hx.lt g rfl).1 _ _ _ _ _⟩
theorem TrJ.setz {Wb W : World} {vx vy : Value} {n nx ny g c i : Nat} (h : TrJ Wb W vx vy (.slice (some ⟨g, 0, none⟩) n c) nx ny n) (s : ByteArray) : TrJ Wb (((((W.setCell ⟨g, i * 5, none⟩ (.string s)).setCell ⟨g, i * 5 + 1, none⟩ (.int .i64 0)).setCell ⟨g, i * 5 + 2, none⟩ (.int .i64 0)).setCell ⟨g, i * 5 + 3, none⟩ (.int .i64 0)).setCell ⟨g, i * 5 + 4, none⟩ (.int .i64 0)) vx vy (.slice (some ⟨g, 0, none⟩) n c) nx ny n := by
  obtain ⟨xs, hx⟩ := h.x
  obtain ⟨ys, hy⟩ := h.y
  obtain ⟨zs, hz⟩ := h.z
  refine ⟨⟨xs, row_apart5 hx (fun e => h.nb g e rfl) _ _ _ _ _⟩, ⟨ys, row_apart5 hy (fun e => nb_typ hz hy (by decide) g rfl e) _ _ _ _ _⟩, ⟨_, rwk_set (rwk_set (rwk_set (rwk_set (rwk_set hz _ _) _ _) _ _) _ _) _ _⟩, h.nb, below_put5 h.b (hz.lt g rfl).1 _ _ _ _ _⟩
theorem TrJ.sety {Wb W : World} {vx vz : Value} {n nx nz g c i : Nat} (h : TrJ Wb W vx (.slice (some ⟨g, 0, none⟩) n c) vz nx n nz) (a b : Int) : TrJ Wb ((W.setCell ⟨g, i * 2, none⟩ (.int .i64 a)).setCell ⟨g, i * 2 + 1, none⟩ (.int .i64 b)) vx (.slice (some ⟨g, 0, none⟩) n c) vz nx n nz := by
  obtain ⟨xs, hx⟩ := h.x
  obtain ⟨ys, hy⟩ := h.y
  obtain ⟨zs, hz⟩ := h.z
  refine ⟨⟨xs, row_apart2 hx (fun e => nb_typ hx hy (by decide) g e rfl) _ _⟩, ⟨_, rwk_set (rwk_set hy _ _) _ _⟩, ⟨zs, row_apart2 hz (fun e => nb_typ hz hy (by decide) g e rfl) _ _⟩, h.nb, below_put2 h.b (hy.lt g rfl).1 _ _⟩
theorem push5 (W : World) (B n : Nat) (v : Value) (xs : List Value) (u0 u1 u2 u3 u4 : Value) (ty : TypeId) (h : W.ownsRow B 37 5 v n xs) (h0 : u0.oneCell' = true) (h1 : u1.oneCell' = true) (h2 : u2.oneCell' = true) (h3 : u3.oneCell' = true) (h4 : u4.oneCell' = true) (hn : n ≤ 1099511627776) (hB : B ≤ W.heap.size) :
    ∃ v' W' g, (Builtin.append_ #[28, 28] ty #[v, .slice (some ⟨W.heap.size, 0, none⟩) 1 1]).run Try.prog (W.alloc (.cells #[u0, u1, u2, u3, u4] 37)) = .ok v' W' ∧ v'.ownBlock = some g ∧
      W'.ownsRow B 37 5 v' (n + 1) (xs ++ [u0, u1, u2, u3, u4]) ∧ W.grownBy W' v.ownBlock ∧ Below B W W' ∧ (v.ownBlock = some g ∨ W.heap.size ≤ g) := by
  obtain ⟨i, hi, hz, hs, hby⟩ := info_rg
  have hr := World.ownsRow.alloc h (.cells #[u0, u1, u2, u3, u4] 37)
  have k0 := Cls.new W 37 #[u0, u1, u2, u3, u4]
  have c0 := k0.cell 0
  have c1 := k0.cell 1
  have c2 := k0.cell 2
  have c3 := k0.cell 3
  have c4 := k0.cell 4
  simp only [List.getElem?_toArray, List.getElem?_cons_zero, List.getElem?_cons_succ] at c0 c1 c2 c3 c4
  obtain ⟨g, k, W', hrun, ho, hg, hor, _⟩ := run_append_lies (P := Try.prog) (W.alloc (.cells #[u0, u1, u2, u3, u4] 37)) 28 ty B 37 i (.agg #[.string ⟨#[]⟩, .int .i64 0, .int .i64 0, .int .i64 0, .int .i64 0]) 5 48 Try.underlying28 hi hz hs hby rfl (by decide)
    v n xs hr ⟨W.heap.size, 0, none⟩ 1 1 [u0, u1, u2, u3, u4] rfl
    (fun j u hj => by
      match j with
      | 0 => simp at hj; subst hj; rw [Addr.add_lit]; exact c0
      | 1 => simp at hj; subst hj; rw [Addr.add_lit]; exact c1
      | 2 => simp at hj; subst hj; rw [Addr.add_lit]; exact c2
      | 3 => simp at hj; subst hj; rw [Addr.add_lit]; exact c3
      | 4 => simp at hj; subst hj; rw [Addr.add_lit]; exact c4
      | j + 5 => simp at hj)
    (fun u hu => by simp at hu; rcases hu with rfl | rfl | rfl | rfl | rfl <;> assumption) (by decide) (by unfold maxLen; omega) (by omega) (by simp; omega) _ rfl
  have ha := World.grownBy_alloc W (.cells #[u0, u1, u2, u3, u4] 37) none
  refine ⟨_, W', g, hrun, rfl, ho, ⟨hg.os.trans ha.os, hg.tape.trans ha.tape, hg.output.trans ha.output, Nat.le_trans ha.size hg.size, fun k hk hne => ?_⟩, ((Below.refl B W).alloc hB _).grown hg (by simp; omega) (fun k hk => (hr.lt k hk).1), ?_⟩
  · exact (hg.block k (Nat.lt_of_lt_of_le hk ha.size) hne).trans (ha.block k hk (by simp))
  · rcases hor with h' | h'
    · exact .inl h'
    · exact .inr (by rw [h', World.size_alloc]; omega)
theorem push2 (W : World) (B n : Nat) (v : Value) (xs : List Value) (u0 u1 : Value) (ty : TypeId) (h : W.ownsRow B 59 2 v n xs) (h0 : u0.oneCell' = true) (h1 : u1.oneCell' = true) (hn : n ≤ 1099511627776) (hB : B ≤ W.heap.size) :
    ∃ v' W' g, (Builtin.append_ #[56, 56] ty #[v, .slice (some ⟨W.heap.size, 0, none⟩) 1 1]).run Try.prog (W.alloc (.cells #[u0, u1] 59)) = .ok v' W' ∧ v'.ownBlock = some g ∧
      W'.ownsRow B 59 2 v' (n + 1) (xs ++ [u0, u1]) ∧ W.grownBy W' v.ownBlock ∧ Below B W W' ∧ (v.ownBlock = some g ∨ W.heap.size ≤ g) := by
  obtain ⟨i, hi, hz, hs, hby⟩ := info_ht
  have hr := World.ownsRow.alloc h (.cells #[u0, u1] 59)
  have k0 := Cls.new W 59 #[u0, u1]
  have c0 := k0.cell 0
  have c1 := k0.cell 1
  simp only [List.getElem?_toArray, List.getElem?_cons_zero, List.getElem?_cons_succ] at c0 c1
  obtain ⟨g, k, W', hrun, ho, hg, hor, _⟩ := run_append_lies (P := Try.prog) (W.alloc (.cells #[u0, u1] 59)) 56 ty B 59 i (.agg #[.int .i64 0, .int .i64 0]) 2 16 Try.underlying56 hi hz hs hby rfl (by decide)
    v n xs hr ⟨W.heap.size, 0, none⟩ 1 1 [u0, u1] rfl
    (fun j u hj => by
      match j with
      | 0 => simp at hj; subst hj; rw [Addr.add_lit]; exact c0
      | 1 => simp at hj; subst hj; rw [Addr.add_lit]; exact c1
      | j + 2 => simp at hj)
    (fun u hu => by simp at hu; rcases hu with rfl | rfl <;> assumption) (by decide) (by unfold maxLen; omega) (by omega) (by simp; omega) _ rfl
  have ha := World.grownBy_alloc W (.cells #[u0, u1] 59) none
  refine ⟨_, W', g, hrun, rfl, ho, ⟨hg.os.trans ha.os, hg.tape.trans ha.tape, hg.output.trans ha.output, Nat.le_trans ha.size hg.size, fun k hk hne => ?_⟩, ((Below.refl B W).alloc hB _).grown hg (by simp; omega) (fun k hk => (hr.lt k hk).1), ?_⟩
  · exact (hg.block k (Nat.lt_of_lt_of_le hk ha.size) hne).trans (ha.block k hk (by simp))
  · rcases hor with h' | h'
    · exact .inl h'
    · exact .inr (by rw [h', World.size_alloc]; omega)
theorem nb_push {W : World} {B1 s1 n1 g : Nat} {t1 : TypeId} {v1 v2 v' : Value} {x1 : List Value} (h1 : W.ownsRow B1 t1 s1 v1 n1 x1) (hn : NB v1 v2) (hv : v'.ownBlock = some g) (hg : v2.ownBlock = some g ∨ W.heap.size ≤ g) : NB v1 v' := fun k e1 e2 => by
  rw [hv] at e2
  cases e2
  rcases hg with hg | hg
  · exact hn g e1 hg
  · have := (h1.lt g e1).2
    omega
theorem TrJ.pushx {Wb W : World} {vx vy vz : Value} {nx ny nz : Nat} (h : TrJ Wb W vx vy vz nx ny nz) (hn : nx ≤ 1099511627776) :
    ∃ v' W', (Builtin.append_ #[28, 28] 28 #[vx, .slice (some ⟨W.heap.size, 0, none⟩) 1 1]).run Try.prog (W.alloc (.cells #[.string ⟨#[]⟩, .int .i64 0, .int .i64 0, .int .i64 0, .int .i64 0] 37)) = .ok v' W' ∧ TrJ Wb W' v' vy vz (nx + 1) ny nz := by
  obtain ⟨xs, hx⟩ := h.x
  obtain ⟨ys, hy⟩ := h.y
  obtain ⟨zs, hz⟩ := h.z
  obtain ⟨v', W', g, r, hv, o, hg, hb, hor⟩ := push5 W Wb.heap.size nx vx xs (.string ⟨#[]⟩) (.int .i64 0) (.int .i64 0) (.int .i64 0) (.int .i64 0) 28 hx rfl rfl rfl rfl rfl hn h.b.size
  exact ⟨v', W', r, ⟨_, o⟩, ⟨ys, row_gr hy (nb_typ hy hx (by decide)) hg⟩, ⟨zs, row_gr hz h.nb.symm hg⟩, (nb_push hz h.nb.symm hv hor).symm, h.b.trans (hb.mono (Nat.le_refl _))⟩
theorem TrJ.pushz {Wb W : World} {vx vy vz : Value} {nx ny nz : Nat} (h : TrJ Wb W vx vy vz nx ny nz) (hn : nz ≤ 1099511627776) :
    ∃ v' W', (Builtin.append_ #[28, 28] 28 #[vz, .slice (some ⟨W.heap.size, 0, none⟩) 1 1]).run Try.prog (W.alloc (.cells #[.string ⟨#[]⟩, .int .i64 0, .int .i64 0, .int .i64 0, .int .i64 0] 37)) = .ok v' W' ∧ TrJ Wb W' vx vy v' nx ny (nz + 1) := by
  obtain ⟨xs, hx⟩ := h.x
  obtain ⟨ys, hy⟩ := h.y
  obtain ⟨zs, hz⟩ := h.z
  obtain ⟨v', W', g, r, hv, o, hg, hb, hor⟩ := push5 W Wb.heap.size nz vz zs (.string ⟨#[]⟩) (.int .i64 0) (.int .i64 0) (.int .i64 0) (.int .i64 0) 28 hz rfl rfl rfl rfl rfl hn h.b.size
  exact ⟨v', W', r, ⟨xs, row_gr hx h.nb hg⟩, ⟨ys, row_gr hy (nb_typ hy hz (by decide)) hg⟩, ⟨_, o⟩, nb_push hx h.nb hv hor, h.b.trans (hb.mono (Nat.le_refl _))⟩
theorem TrJ.pushy {Wb W : World} {vx vy vz : Value} {nx ny nz : Nat} (h : TrJ Wb W vx vy vz nx ny nz) (hn : ny ≤ 1099511627776) :
    ∃ v' W', (Builtin.append_ #[56, 56] 56 #[vy, .slice (some ⟨W.heap.size, 0, none⟩) 1 1]).run Try.prog (W.alloc (.cells #[.int .i64 0, .int .i64 0] 59)) = .ok v' W' ∧ TrJ Wb W' vx v' vz nx (ny + 1) nz := by
  obtain ⟨xs, hx⟩ := h.x
  obtain ⟨ys, hy⟩ := h.y
  obtain ⟨zs, hz⟩ := h.z
  obtain ⟨v', W', g, r, hv, o, hg, hb, hor⟩ := push2 W Wb.heap.size ny vy ys (.int .i64 0) (.int .i64 0) 56 hy rfl rfl hn h.b.size
  exact ⟨v', W', r, ⟨xs, row_gr hx (nb_typ hx hy (by decide)) hg⟩, ⟨_, o⟩, ⟨zs, row_gr hz (nb_typ hz hy (by decide)) hg⟩, h.nb, h.b.trans (hb.mono (Nat.le_refl _))⟩
end Go.Proofs.Ytifpjdodignflaa
end

section
namespace Go.Proofs.Ytifpjdodignflaa
open Go.ChangeShapes Go.WideShapes Go.ChangeAt Go.RowKit
attribute [local go_sem] Oper.semAt_some

set_option maxRecDepth 100000 in
set_option maxHeartbeats 8000000 in
theorem playSE_at (g : Nat) (n : Int) (L : List Rg) (a : Option Addr) (c : Nat) (D : List Rg) (x : Rg) (ad : Option Addr) (cd : Nat) (d : List Dop) (X : World) (h : StR X g n L a D) (ho : IsO X ad d) (hr : refG n L x ≠ 0) :
    Calls Try.prog 11 #[.pointer (some ⟨g, 0, none⟩), rsV n a D.length c, ocA 0 x ad d.length cd] X (PlQ X) := by
  have HP := hide (PlJ.start X g n L a c D 0 x ad cd d h ho)
  have HO := hide ho
  obtain ⟨xn, xl, xh, xs, xe⟩ := x
  unfold rsV ocA
  dsimp only at HP ⊢
  clear h ho
  obtain ⟨ER, HER⟩ : ∃ ER, Hid (ER = refG n L ⟨xn, xl, xh, xs, xe⟩) := ⟨_, hide rfl⟩
  have e3 : ¬ ER = 0 := by rw [unhide HER]; exact hr
  have e1 : (ER != 0) = true := by simpa using e3
  have e2 : (ER == 0) = false := by simpa using e3
  have HG0 := hide hr
  clear hr
  go_enter Try.func11, Try.ntmps11
  go_upto_region 5 with fail
  generalize (((X.alloc (.cells #[.int .i64 n, .slice a D.length c] 30)).alloc (.cells #[.int .i64 0, .string xn, .int .i64 xl, .int .i64 xh, .int .i64 xs, .int .i64 xe, .slice ad d.length cd] 41)).alloc (.cells #[.int .i64 0, .slice none 0 0] 30)).alloc (.cells #[.int .i64 0, .slice none 0 0] 30) = w0 at *
  generalize X.heap.size + 1 = B1 at *
  generalize B1 + 1 = B2 at *
  generalize B2 + 1 = B3 at *
  obtain ⟨c0, c1, a0, a1, a2, a3, a4, a5, a6⟩ := (unhide HP).cells
  dsimp only at a0 a1 a2 a3 a4 a5 a6
  have HC1 := hide (GSetE_at g n L ⟨xn, xl, xh, xs, xe⟩ w0 (unhide HP).s.m (unhide HG0))
  rw [← unhide HER] at HC1
  unfold rgV at HC1
  dsimp only at HC1
  go_wp2_with fail
  refine (unhide HC1).mono ?_
  rintro y w1 ⟨rfl, x1⟩
  dsimp only
  have HP1 := hide ((unhide HP).on x1)
  clear HC1 HP x1 c0 c1 a0 a1 a2 a3 a4 a5 a6
  obtain ⟨c0, c1, a0, a1, a2, a3, a4, a5, a6⟩ := (unhide HP1).cells
  dsimp only at a0 a1 a2 a3 a4 a5 a6
  obtain ⟨y0, y1, f0, f1⟩ := (unhide HP1).next
  have HC2 := hide (RSetR_all n a c D ⟨xn, xl, xh, xs, xe⟩ w1 (unhide HP1).s.k (unhide HP1).s.len3 ((unhide HP1).s.r.u))
  rw [refG_perm (unhide HP1).s.r, ← unhide HER] at HC2
  unfold rsV rgV at HC2
  dsimp only at HC2
  go_wp2_with fail
  refine (unhide HC2).mono ?_
  rintro y w2 h2
  rcases h2 with ⟨_, rfl, x2⟩ | ⟨h0, _⟩
  rotate_left
  · exact absurd h0 e3
  dsimp only
  have HP2 := hide ((unhide HP1).on x2)
  clear HC2 HP1 x2 c0 c1 a0 a1 a2 a3 a4 a5 a6 y0 y1 f0 f1
  obtain ⟨c0, c1, a0, a1, a2, a3, a4, a5, a6⟩ := (unhide HP2).cells
  dsimp only at a0 a1 a2 a3 a4 a5 a6
  obtain ⟨y0, y1, f0, f1⟩ := (unhide HP2).next
  have HP := hide ((unhide HP2).put3 (unhide HO) (.int .i64 n) (.slice a D.length c))
  obtain ⟨j0, j1, _, _⟩ := (unhide HP).next
  clear HP2
  go_upto_region 24 with fail
  clear j0 j1 y0 y1 f0 f1 c0 c1 a0 a1 a2 a3 a4 a5 a6
  generalize (w2.setCell ⟨B3, 0, none⟩ (.int .i64 n)).setCell ⟨B3, 1, none⟩ (.slice a D.length c) = wz at *
  have HPD := hide ((unhide HP).on (Below.refl wz.heap.size wz).drew)
  have HT := hide (tells_at g n L a c D wz.drew (unhide HPD).s)
  unfold rsV at HT
  clear HP
  refine regionL (S := fun z => z.cell? ⟨X.heap.size, 0, none⟩ = some (.int .i64 n) ∧ z.cell? ⟨X.heap.size, 1, none⟩ = some (.slice a D.length c)) (fun _ => false) (by kernel_rfl) ?_
  generalize wz.drew = zz at *
  refine anyL_take (i := 0) (v := ?ven014) rfl (by kernel_rfl) (by kernel_rfl) (by kernel_rfl) (by kernel_rfl) (fun _ _ _ h => h) (Or.inl ⟨by rfl, ?hen014⟩) (clsR_two (unhide HPD).k0) ?_
  case hen014 => (intro w hSw; (try dsimp only at hSw); go_simp) <;> with_reducible rfl
  simp only [Act.put, List.getElem_toArray, List.getElem_cons_zero, List.setIfInBounds_toArray, List.set_cons_zero, List.set_cons_succ]
  refine anyL_take (i := 1) (v := ?ven015) rfl (by kernel_rfl) (by kernel_rfl) (by kernel_rfl) (by kernel_rfl) (fun _ _ _ h => h) (Or.inl ⟨by rfl, ?hen015⟩) (clsR_two (unhide HPD).k0) ?_
  case hen015 => (intro w hSw; (try dsimp only at hSw); go_simp) <;> with_reducible rfl
  simp only [Act.put, List.getElem_toArray, List.getElem_cons_zero, List.getElem_cons_succ, List.setIfInBounds_toArray, List.set_cons_zero, List.set_cons_succ]
  refine anyL_take (i := 2) (v := ?ven016) rfl (by kernel_rfl) (by kernel_rfl) (by kernel_rfl) (by kernel_rfl) (fun _ _ _ h => h) (Or.inl ⟨by rfl, ?hen016⟩) (clsR_two (unhide HPD).k0) ?_
  case hen016 => (intro w hSw; (try dsimp only at hSw); go_simp) <;> with_reducible rfl
  simp only [Act.put, List.getElem_toArray, List.getElem_cons_zero, List.getElem_cons_succ, List.setIfInBounds_toArray, List.set_cons_zero, List.set_cons_succ]
  refine anyL_take (i := 3) (v := ?ven017) rfl (by kernel_rfl) (by kernel_rfl) (by kernel_rfl) (by kernel_rfl) (fun _ _ _ h => h) (Or.inl ⟨by rfl, ?hen017⟩) (clsR_two (unhide HPD).k0) ?_
  case hen017 => (intro w hSw; (try dsimp only at hSw); go_simp) <;> with_reducible rfl
  simp only [Act.put, List.getElem_toArray, List.getElem_cons_zero, List.getElem_cons_succ, List.setIfInBounds_toArray, List.set_cons_zero, List.set_cons_succ]
  refine anyL_take (i := 4) (v := ?ven018) rfl (by kernel_rfl) (by kernel_rfl) (by kernel_rfl) (by kernel_rfl) (fun _ _ _ h => h) (Or.inl ⟨by rfl, ?hen018⟩) (clsR_two (unhide HPD).k0) ?_
  case hen018 => (intro w hSw; (try dsimp only at hSw); go_simp) <;> with_reducible rfl
  simp only [Act.put, List.getElem_toArray, List.getElem_cons_zero, List.getElem_cons_succ, List.setIfInBounds_toArray, List.set_cons_zero, List.set_cons_succ]
  refine anyL_take (i := 5) (v := ?ven019) rfl (by kernel_rfl) (by kernel_rfl) (by kernel_rfl) (by kernel_rfl) (fun _ _ _ h => h) (Or.inl ⟨by rfl, ?hen019⟩) (clsR_two (unhide HPD).k0) ?_
  case hen019 => (intro w hSw; (try dsimp only at hSw); go_simp) <;> with_reducible rfl
  simp only [Act.put, List.getElem_toArray, List.getElem_cons_zero, List.getElem_cons_succ, List.setIfInBounds_toArray, List.set_cons_zero, List.set_cons_succ]
  refine anyL_take (i := 6) (v := ?ven020) rfl (by kernel_rfl) (by kernel_rfl) (by kernel_rfl) (by kernel_rfl) (fun _ _ _ h => h) (Or.inl ⟨by rfl, ?hen020⟩) (clsR_two (unhide HPD).k0) ?_
  case hen020 => (intro w hSw; (try dsimp only at hSw); go_simp) <;> with_reducible rfl
  simp only [Act.put, List.getElem_toArray, List.getElem_cons_zero, List.getElem_cons_succ, List.setIfInBounds_toArray, List.set_cons_zero, List.set_cons_succ]
  refine anyL_ready (rs := [7]) (by kernel_rfl) (by simp) ?_
  refine AllL.cons rfl (fun K hK => ?_) AllL.nil
  go_simp
  refine (unhide HT).mono ?_
  rintro y v1 ⟨rfl, x1⟩
  have HP1 := hide ((unhide HPD).on x1)
  refine unhide hK _ _ (fun _ => clsR_two (unhide HP1).k0) ?_
  clear hK K HT x1 HPD
  refine anyL_take (i := 8) (v := ?ven021) rfl (by kernel_rfl) (by kernel_rfl) (by kernel_rfl) (by kernel_rfl) (fun _ _ _ h => h) (Or.inl ⟨by rfl, ?hen021⟩) (clsR_two (unhide HP1).k0) ?_
  case hen021 => (intro w hSw; (try dsimp only at hSw); go_simp) <;> with_reducible rfl
  simp only [Act.put, List.getElem_toArray, List.getElem_cons_zero, List.getElem_cons_succ, List.setIfInBounds_toArray, List.set_cons_zero, List.set_cons_succ]
  refine anyL_take (i := 9) (v := ?ven022) rfl (by kernel_rfl) (by kernel_rfl) (by kernel_rfl) (by kernel_rfl) (fun _ _ _ h => h) (Or.inl ⟨by rfl, ?hen022⟩) (clsR_two (unhide HP1).k0) ?_
  case hen022 => (intro w hSw; (try dsimp only at hSw); go_simp) <;> with_reducible rfl
  simp only [Act.put, List.getElem_toArray, List.getElem_cons_zero, List.getElem_cons_succ, List.setIfInBounds_toArray, List.set_cons_zero, List.set_cons_succ]
  refine anyL_ready (rs := [10]) (by kernel_rfl) (by simp) ?_
  refine AllL.cons rfl (fun K hK => ?_) AllL.nil
  have q2 := (unhide HP1).put2 (.int .i64 n) (.slice a D.length c)
  obtain ⟨y0, y1, f0, f1⟩ := (unhide HP1).res
  obtain ⟨r0, r1⟩ := clsR_two q2.1.1
  have HB9 := hide q2.1.2
  have HS9 := hide q2.2.2.2
  have HSy := hide (clsR_two q2.2.1)
  clear q2
  go_simp
  refine unhide hK _ _ (fun _ => unhide HSy) ?_
  clear hK K y0 y1 f0 f1
  refine anyL_take (i := 11) (v := ?ven023) rfl (by kernel_rfl) (by kernel_rfl) (by kernel_rfl) (by kernel_rfl) (fun _ _ _ h => h) (Or.inl ⟨by rfl, ?hen023⟩) (unhide HSy) ?_
  case hen023 => (intro w hSw; (try dsimp only at hSw); go_simp) <;> with_reducible rfl
  simp only [Act.put, List.getElem_toArray, List.getElem_cons_zero, List.getElem_cons_succ, List.setIfInBounds_toArray, List.set_cons_zero, List.set_cons_succ]
  refine anyL_done (by kernel_rfl) ?_ _
  go_wp2_with fail
  refine bodyPost_ret (v := .tuple #[.pointer (some ⟨g, 0, none⟩), .agg #[.int .i64 n, .slice a D.length c], .bool true]) (by simp [results, Try.results11, go_sem, r0, r1]) rfl ?_
  exact ⟨g, n, L, a, c, D, rfl, unhide HS9, unhide HB9⟩
set_option maxRecDepth 100000 in
set_option maxHeartbeats 8000000 in
theorem playSO_at (g : Nat) (n : Int) (L : List Rg) (a : Option Addr) (c : Nat) (D : List Rg) (x : Rg) (ad : Option Addr) (cd : Nat) (d : List Dop) (X : World) (h : StR X g n L a D) (ho : IsO X ad d) (hr : refG n L x = 0) :
    Calls Try.prog 11 #[.pointer (some ⟨g, 0, none⟩), rsV n a D.length c, ocA 0 x ad d.length cd] X (PlQ X) := by
  have HP := hide (PlJ.start X g n L a c D 0 x ad cd d h ho)
  have HO := hide ho
  obtain ⟨xn, xl, xh, xs, xe⟩ := x
  unfold rsV ocA
  dsimp only at HP ⊢
  clear h ho
  have HG0 := hide hr
  clear hr
  go_enter Try.func11, Try.ntmps11
  go_upto_region 5 with fail
  generalize (((X.alloc (.cells #[.int .i64 n, .slice a D.length c] 30)).alloc (.cells #[.int .i64 0, .string xn, .int .i64 xl, .int .i64 xh, .int .i64 xs, .int .i64 xe, .slice ad d.length cd] 41)).alloc (.cells #[.int .i64 0, .slice none 0 0] 30)).alloc (.cells #[.int .i64 0, .slice none 0 0] 30) = w0 at *
  generalize X.heap.size + 1 = B1 at *
  generalize B1 + 1 = B2 at *
  generalize B2 + 1 = B3 at *
  obtain ⟨c0, c1, a0, a1, a2, a3, a4, a5, a6⟩ := (unhide HP).cells
  dsimp only at a0 a1 a2 a3 a4 a5 a6
  have HC1 := hide (GSet_at g n L ⟨xn, xl, xh, xs, xe⟩ w0 (unhide HP).s.m (unhide HG0))
  unfold rgV at HC1
  dsimp only at HC1
  go_wp2_with fail
  refine (unhide HC1).mono ?_
  rintro y w1 ⟨g', rfl, m1, x1⟩
  dsimp only
  have HP1 := hide ((unhide HP).on x1)
  have HM1 := hide m1
  clear HC1 HP x1 m1 c0 c1 a0 a1 a2 a3 a4 a5 a6
  obtain ⟨c0, c1, a0, a1, a2, a3, a4, a5, a6⟩ := (unhide HP1).cells
  dsimp only at a0 a1 a2 a3 a4 a5 a6
  obtain ⟨y0, y1, f0, f1⟩ := (unhide HP1).next
  have HC2 := hide (RSetR_all n a c D ⟨xn, xl, xh, xs, xe⟩ w1 (unhide HP1).s.k (unhide HP1).s.len3 ((unhide HP1).s.r.u))
  rw [refG_perm (unhide HP1).s.r, unhide HG0] at HC2
  unfold rsV rgV at HC2
  dsimp only at HC2
  go_wp2_with fail
  refine (unhide HC2).mono ?_
  rintro y w2 h2
  rcases h2 with ⟨h0, _⟩ | ⟨_, v2, rfl, o2, x2⟩
  · exact absurd rfl h0
  dsimp only
  obtain ⟨av, cv, hvv, _⟩ := rowD_form o2
  subst hvv
  have hrel := (unhide HP1).s.put_l (unhide HG0)
  have hHN : StR w2 g' n (putG ⟨xn, xl, xh, xs, xe⟩ L) av (insG ⟨xn, xl, xh, xs, xe⟩ (delG xn D)) := by
    obtain ⟨_, _, e9, i9, _⟩ := own_isRl o2
    injection e9 with e91 e92 e93
    subst e91
    exact ⟨(unhide HM1).below x2 (Nat.le_refl _), i9, hrel.1, hrel.2.1, hrel.2.2, (unhide HP1).s.q, ownR_typ o2⟩
  have HP2 := hide ((unhide HP1).on x2)
  have HN2 := hide hHN
  clear HC2 HP1 x2 o2 hHN hrel HM1 c0 c1 a0 a1 a2 a3 a4 a5 a6 y0 y1 f0 f1
  generalize (insG ⟨xn, xl, xh, xs, xe⟩ (delG xn D)) = D2 at *
  generalize (putG ⟨xn, xl, xh, xs, xe⟩ L) = L2 at *
  have HN := hide ((unhide HN2).put2 (unhide HP2).k3 (.int .i64 n) (.slice av D2.length cv))
  have HP := hide ((unhide HP2).put3 (unhide HO) (.int .i64 n) (.slice av D2.length cv))
  obtain ⟨c0, c1, a0, a1, a2, a3, a4, a5, a6⟩ := (unhide HP2).cells
  dsimp only at a0 a1 a2 a3 a4 a5 a6
  obtain ⟨y0, y1, f0, f1⟩ := (unhide HP2).next
  obtain ⟨j0, j1, _, _⟩ := (unhide HP).next
  clear HP2 HN2
  go_upto_region 25 with fail
  clear j0 j1 y0 y1 f0 f1 c0 c1 a0 a1 a2 a3 a4 a5 a6
  generalize (w2.setCell ⟨B3, 0, none⟩ (.int .i64 n)).setCell ⟨B3, 1, none⟩ (.slice av D2.length cv) = wz at *
  have HPD := hide ((unhide HP).on (Below.refl wz.heap.size wz).drew)
  have HND := hide ((unhide HN).below (Below.refl wz.heap.size wz).drew (Nat.le_refl _))
  have HT := hide (tells_at g' n L2 av cv D2 wz.drew (unhide HND))
  unfold rsV at HT
  clear HP HN
  refine regionL (S := fun z => z.cell? ⟨B3, 0, none⟩ = some (.int .i64 n) ∧ z.cell? ⟨B3, 1, none⟩ = some (.slice av D2.length cv)) (fun _ => false) (by kernel_rfl) ?_
  generalize wz.drew = zz at *
  refine anyL_take (i := 0) (v := ?ven124) rfl (by kernel_rfl) (by kernel_rfl) (by kernel_rfl) (by kernel_rfl) (fun _ _ _ h => h) (Or.inl ⟨by rfl, ?hen124⟩) (clsR_two (unhide HPD).k3) ?_
  case hen124 => (intro w hSw; (try dsimp only at hSw); go_simp) <;> with_reducible rfl
  simp only [Act.put, List.getElem_toArray, List.getElem_cons_zero, List.setIfInBounds_toArray, List.set_cons_zero, List.set_cons_succ]
  refine anyL_take (i := 1) (v := ?ven125) rfl (by kernel_rfl) (by kernel_rfl) (by kernel_rfl) (by kernel_rfl) (fun _ _ _ h => h) (Or.inl ⟨by rfl, ?hen125⟩) (clsR_two (unhide HPD).k3) ?_
  case hen125 => (intro w hSw; (try dsimp only at hSw); go_simp) <;> with_reducible rfl
  simp only [Act.put, List.getElem_toArray, List.getElem_cons_zero, List.getElem_cons_succ, List.setIfInBounds_toArray, List.set_cons_zero, List.set_cons_succ]
  refine anyL_take (i := 2) (v := ?ven126) rfl (by kernel_rfl) (by kernel_rfl) (by kernel_rfl) (by kernel_rfl) (fun _ _ _ h => h) (Or.inl ⟨by rfl, ?hen126⟩) (clsR_two (unhide HPD).k3) ?_
  case hen126 => (intro w hSw; (try dsimp only at hSw); go_simp) <;> with_reducible rfl
  simp only [Act.put, List.getElem_toArray, List.getElem_cons_zero, List.getElem_cons_succ, List.setIfInBounds_toArray, List.set_cons_zero, List.set_cons_succ]
  refine anyL_take (i := 3) (v := ?ven127) rfl (by kernel_rfl) (by kernel_rfl) (by kernel_rfl) (by kernel_rfl) (fun _ _ _ h => h) (Or.inl ⟨by rfl, ?hen127⟩) (clsR_two (unhide HPD).k3) ?_
  case hen127 => (intro w hSw; (try dsimp only at hSw); go_simp) <;> with_reducible rfl
  simp only [Act.put, List.getElem_toArray, List.getElem_cons_zero, List.getElem_cons_succ, List.setIfInBounds_toArray, List.set_cons_zero, List.set_cons_succ]
  refine anyL_take (i := 4) (v := ?ven128) rfl (by kernel_rfl) (by kernel_rfl) (by kernel_rfl) (by kernel_rfl) (fun _ _ _ h => h) (Or.inl ⟨by rfl, ?hen128⟩) (clsR_two (unhide HPD).k3) ?_
  case hen128 => (intro w hSw; (try dsimp only at hSw); go_simp) <;> with_reducible rfl
  simp only [Act.put, List.getElem_toArray, List.getElem_cons_zero, List.getElem_cons_succ, List.setIfInBounds_toArray, List.set_cons_zero, List.set_cons_succ]
  refine anyL_take (i := 5) (v := ?ven129) rfl (by kernel_rfl) (by kernel_rfl) (by kernel_rfl) (by kernel_rfl) (fun _ _ _ h => h) (Or.inl ⟨by rfl, ?hen129⟩) (clsR_two (unhide HPD).k3) ?_
  case hen129 => (intro w hSw; (try dsimp only at hSw); go_simp) <;> with_reducible rfl
  simp only [Act.put, List.getElem_toArray, List.getElem_cons_zero, List.getElem_cons_succ, List.setIfInBounds_toArray, List.set_cons_zero, List.set_cons_succ]
  refine anyL_take (i := 6) (v := ?ven130) rfl (by kernel_rfl) (by kernel_rfl) (by kernel_rfl) (by kernel_rfl) (fun _ _ _ h => h) (Or.inl ⟨by rfl, ?hen130⟩) (clsR_two (unhide HPD).k3) ?_
  case hen130 => (intro w hSw; (try dsimp only at hSw); go_simp) <;> with_reducible rfl
  simp only [Act.put, List.getElem_toArray, List.getElem_cons_zero, List.getElem_cons_succ, List.setIfInBounds_toArray, List.set_cons_zero, List.set_cons_succ]
  refine anyL_ready (rs := [7]) (by kernel_rfl) (by simp) ?_
  refine AllL.cons rfl (fun K hK => ?_) AllL.nil
  go_simp
  refine (unhide HT).mono ?_
  rintro y v1 ⟨rfl, x1⟩
  have HP1 := hide ((unhide HPD).on x1)
  have HN1 := hide ((unhide HND).below x1 (Nat.le_refl _))
  refine unhide hK _ _ (fun _ => clsR_two (unhide HP1).k3) ?_
  clear hK K HT x1 HPD HND
  refine anyL_take (i := 8) (v := ?ven131) rfl (by kernel_rfl) (by kernel_rfl) (by kernel_rfl) (by kernel_rfl) (fun _ _ _ h => h) (Or.inl ⟨by rfl, ?hen131⟩) (clsR_two (unhide HP1).k3) ?_
  case hen131 => (intro w hSw; (try dsimp only at hSw); go_simp) <;> with_reducible rfl
  simp only [Act.put, List.getElem_toArray, List.getElem_cons_zero, List.getElem_cons_succ, List.setIfInBounds_toArray, List.set_cons_zero, List.set_cons_succ]
  refine anyL_take (i := 9) (v := ?ven132) rfl (by kernel_rfl) (by kernel_rfl) (by kernel_rfl) (by kernel_rfl) (fun _ _ _ h => h) (Or.inl ⟨by rfl, ?hen132⟩) (clsR_two (unhide HP1).k3) ?_
  case hen132 => (intro w hSw; (try dsimp only at hSw); go_simp) <;> with_reducible rfl
  simp only [Act.put, List.getElem_toArray, List.getElem_cons_zero, List.getElem_cons_succ, List.setIfInBounds_toArray, List.set_cons_zero, List.set_cons_succ]
  refine anyL_ready (rs := [10]) (by kernel_rfl) (by simp) ?_
  refine AllL.cons rfl (fun K hK => ?_) AllL.nil
  have q2 := (unhide HP1).put2 (.int .i64 n) (.slice av D2.length cv)
  obtain ⟨y0, y1, f0, f1⟩ := (unhide HP1).res
  obtain ⟨r0, r1⟩ := clsR_two q2.1.1
  have HB9 := hide q2.1.2
  have HS9 := hide ((unhide HN1).put2 (unhide HP1).k2 (.int .i64 n) (.slice av D2.length cv))
  have HSy := hide (clsR_two q2.2.2.1)
  clear q2
  go_simp
  refine unhide hK _ _ (fun _ => unhide HSy) ?_
  clear hK K y0 y1 f0 f1
  refine anyL_take (i := 11) (v := ?ven133) rfl (by kernel_rfl) (by kernel_rfl) (by kernel_rfl) (by kernel_rfl) (fun _ _ _ h => h) (Or.inl ⟨by rfl, ?hen133⟩) (unhide HSy) ?_
  case hen133 => (intro w hSw; (try dsimp only at hSw); go_simp) <;> with_reducible rfl
  simp only [Act.put, List.getElem_toArray, List.getElem_cons_zero, List.getElem_cons_succ, List.setIfInBounds_toArray, List.set_cons_zero, List.set_cons_succ]
  refine anyL_done (by kernel_rfl) ?_ _
  go_wp2_with fail
  refine bodyPost_ret (v := .tuple #[.pointer (some ⟨g', 0, none⟩), .agg #[.int .i64 n, .slice av D2.length cv], .bool true]) (by simp [results, Try.results11, go_sem, r0, r1]) rfl ?_
  exact ⟨g', n, L2, av, cv, D2, rfl, unhide HS9, unhide HB9⟩
end Go.Proofs.Ytifpjdodignflaa
end
