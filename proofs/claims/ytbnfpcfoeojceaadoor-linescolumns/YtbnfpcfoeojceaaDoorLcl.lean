/- Layer 7, plain: Where's numbers; how they go on from place to place (LinesColumns). -/
import Derived.Test.YtbnfpcfoeojceaaDoorLwL
namespace Go.Proofs.YtbnfpcfoeojceaaDoor
open Go.ChangeShapes Go.WideShapes Go.ChangeAt Go.RowKit

def wR (l : List Int) (p : Nat) : Nat := szE 2 (l.take (flr l p))
def wU (l : List Int) (p : Nat) : Nat := szE 3 (l.take (flr l p))
def wL (l : List Int) (p : Nat) : Nat := (lnOf l (flr l p)).1
def wB (l : List Int) (p : Nat) : Nat := flr l p - (lnOf l (flr l p)).2.1
def wCR (l : List Int) (p : Nat) : Nat := szE 2 (cutL l (lnOf l (flr l p)).2.1 (flr l p))
def wCU (l : List Int) (p : Nat) : Nat := szE 3 (cutL l (lnOf l (flr l p)).2.1 (flr l p))
def whA (q r u k b cr cu : Nat) : Value := .tuple #[.agg #[.int .i64 (q : Int), .int .i64 (r : Int), .int .i64 (u : Int), .int .i64 (k : Int), .int .i64 (b : Int), .int .i64 (cr : Int), .int .i64 (cu : Int)], .int .i64 0]
theorem whV_in {l : List Int} {p : Nat} (hp : p ≤ l.length) : whV l (p : Int) = whA (flr l p) (wR l p) (wU l p) (wL l p) (wB l p) (wCR l p) (wCU l p) := by
  unfold whV
  rw [if_neg (by omega), Int.toNat_natCast]
  rfl
theorem flr_lastL {l : List Int} {p q : Nat} (h1 : flr l p ≤ q) (h2 : q ≤ p) (h : inside l q = false) : q = flr l p := by
  cases hi : inside l p with
  | false => rw [flr_eq hi] at h1 ⊢; omega
  | true =>
    obtain ⟨a, b⟩ := flr_over hi
    rcases Nat.eq_or_lt_of_le h1 with e | e
    · exact e.symm
    · have := (inside_iff l q).2 ⟨flr l p, e, by omega⟩
      rw [h] at this; cases this
theorem flr_is {l : List Int} {p q : Nat} (h2 : q ≤ p) (h : inside l q = false) (h3 : ∀ j, q < j → j ≤ p → inside l j = true) : flr l p = q := by
  have h1 := flr_edge l p
  have h4 := flr_le l p
  rcases Nat.lt_trichotomy (flr l p) q with e | e | e
  · exact (flr_lastL (Nat.le_of_lt e) h2 h).symm
  · exact e
  · have := h3 _ e h4
    rw [h1] at this; cases this
theorem flr_succ (l : List Int) (p : Nat) : (inside l (p + 1) = true ∧ flr l (p + 1) = flr l p) ∨ (inside l (p + 1) = false ∧ flr l (p + 1) = p + 1) := by
  cases hi : inside l (p + 1) with
  | false => exact Or.inr ⟨rfl, flr_eq hi⟩
  | true =>
    refine Or.inl ⟨rfl, ?_⟩
    have h1 := flr_edge l (p + 1)
    have h2 := flr_le l (p + 1)
    have h3 : flr l (p + 1) ≠ p + 1 := fun h => by rw [h, hi] at h1; cases h1
    have h4 := flr_edge l p
    have h5 := flr_le l p
    rcases Nat.lt_trichotomy (flr l (p + 1)) (flr l p) with e | e | e
    · exact absurd (flr_lastL (Nat.le_of_lt e) (by omega) h4).symm (by omega)
    · exact e
    · exact flr_lastL (Nat.le_of_lt e) (by omega) h1
/-- the line of an edge, and its beginning -/
theorem col_at {l : List Int} (hl : ∀ x ∈ l, 0 ≤ x ∧ x ≤ 255) {p : Nat} (hp : p ≤ l.length) : ∃ st rs us : Nat, flr l p ≤ p ∧ wL l p < (LN l).length ∧ ((LN l).getD (wL l p) z4).2.1 = st ∧ st ≤ l.length ∧
    whV l (st : Int) = whA st rs us (wL l p) 0 0 0 ∧ flr l p = st + wB l p ∧ wR l p = rs + wCR l p ∧ wU l p = us + wCU l p := by
  have hq := flr_le l p
  have he := flr_edge l p
  obtain ⟨i, hi⟩ := ho_of (l := l) (p := flr l p) (by omega)
  obtain ⟨k1, _, k3⟩ := LN_at l hi.lt
  have hlo := hi.lo
  have hk : wL l p = i := by unfold wL; rw [hi.eq, k1]
  have hst : (lnOf l (flr l p)).2.1 = ((LN l).getD i z4).2.1 := by rw [hi.eq]
  have hs := k3.es
  have hsl : ((LN l).getD i z4).2.1 ≤ l.length := by omega
  obtain ⟨e1, e2, e3, _⟩ := lst_edge hi.lt
  have hof := (lnOf_is hi.lt (Nat.le_refl _) e2)
  have hfs := flr_eq hs
  have c1 := sz_cut hl ru2 hs he (by omega) (by omega)
  have c2 := sz_cut hl ru3 hs he (by omega) (by omega)
  refine ⟨((LN l).getD i z4).2.1, szE 2 (l.take ((LN l).getD i z4).2.1), szE 3 (l.take ((LN l).getD i z4).2.1), hq, by rw [hk]; exact hi.lt, by rw [hk], hsl, ?_, ?_, ?_, ?_⟩
  · rw [whV_in hsl]
    have z : cutL l ((LN l).getD i z4).2.1 ((LN l).getD i z4).2.1 = [] := by unfold cutL; exact List.drop_eq_nil_of_le (by rw [List.length_take]; omega)
    unfold wR wU wB wCR wCU
    rw [hk]
    unfold wL
    rw [hfs, hof.2, hof.1, z, sz_nil, sz_nil, Nat.sub_self]
  · unfold wB; rw [hst]; omega
  · unfold wR wCR cutL; rw [hst, c1]
  · unfold wU wCU cutL; rw [hst, c2]
theorem ln_mono {l : List Int} {p q : Nat} (h : p ≤ q) (hq : q ≤ l.length) : (lnOf l p).1 ≤ (lnOf l q).1 := by
  obtain ⟨i, hi⟩ := ho_of (l := l) (p := p) (by omega)
  obtain ⟨j, hj⟩ := ho_of hq
  rw [hi.eq, hj.eq, (LN_at l hi.lt).1, (LN_at l hj.lt).1]
  rcases Nat.lt_or_ge j i with h1 | h1
  · exfalso
    have a := hj.up (by have := hi.lt; omega)
    have b := lst_mono (l := l) (i := j + 1) (j := i) (by omega) hi.lt
    have c := hi.lo
    rw [hi.eq] at c
    omega
  · exact h1
theorem ee_runes {l : List Int} (hl : ∀ x ∈ l, 0 ≤ x ∧ x ≤ 255) {i : Nat} (h : i < (EE l).length) : byE 2 ((EE l).getD i e0) = i := by
  rw [EE_len] at h
  unfold EE
  rw [edL_getD _ _ _ (by omega)]
  have := (st_at hl (List.take_prefix i (spots l 0))).2.2.1
  rw [List.length_take, Nat.min_eq_left (by omega)] at this
  exact this
theorem sizes_next {l : List Int} (hl : ∀ x ∈ l, 0 ≤ x ∧ x ≤ 255) {p : Nat} (hp : p + 1 ≤ l.length) (he : inside l (p + 1) = false) : szE 2 (l.take (p + 1)) = szE 2 (l.take (flr l p)) + 1 ∧ szE 3 (l.take (flr l p)) < szE 3 (l.take (p + 1)) := by
  have hq := flr_le l p
  obtain ⟨i, hi, hie⟩ := edge_ix hl (p := flr l p) (by omega) (flr_edge l p)
  obtain ⟨j, hj, hje⟩ := edge_ix hl hp he
  have h1 := inc_EE hl 1
  have h3 := inc_EE hl 3
  have b1 : ∀ e : Ed, byE 1 e = e.1 := fun e => rfl
  have hij : i < j := by
    rcases Nat.lt_or_ge i j with q | q
    · exact q
    · have := h1.le q hi; rw [b1, b1] at this; omega
  have hj1 : j = i + 1 := by
    rcases Nat.lt_or_ge (i + 1) j with q | q
    · exfalso
      have g1 := h1.2.2 i (i + 1) (by omega) (by omega)
      have g2 := h1.2.2 (i + 1) j q hj
      rw [b1, b1] at g1 g2
      have := flr_lastL (l := l) (p := p) (q := ((EE l).getD (i + 1) e0).1) (by omega) (by omega) (EE_inside hl (by omega))
      omega
    · omega
  subst hj1
  have a2 := sz_take hl ru2 hi
  have a3 := sz_take hl ru3 hi
  have c2 := sz_take hl ru2 hj
  have c3 := sz_take hl ru3 hj
  rw [hie] at a2 a3
  rw [hje] at c2 c3
  rw [a2, c2, a3, c3, ee_runes hl hi, ee_runes hl hj]
  exact ⟨rfl, h3.2.2 i (i + 1) (by omega) hj⟩
theorem col_next {l : List Int} (hl : ∀ x ∈ l, 0 ≤ x ∧ x ≤ 255) {p : Nat} (hp : p + 1 ≤ l.length) : (flr l (p + 1) = flr l p ∧ wR l (p + 1) = wR l p ∧ wU l (p + 1) = wU l p ∧ wL l (p + 1) = wL l p) ∨
    (flr l p < flr l (p + 1) ∧ wR l (p + 1) = wR l p + 1 ∧ wU l p < wU l (p + 1) ∧ wL l p ≤ wL l (p + 1) ∧ (wL l (p + 1) = wL l p → wCR l (p + 1) = wCR l p + 1 ∧ wCU l p < wCU l (p + 1))) := by
  have hq := flr_le l p
  rcases flr_succ l p with ⟨_, h⟩ | ⟨h1, h⟩
  · refine Or.inl ⟨h, ?_, ?_, ?_⟩
    · unfold wR; rw [h]
    · unfold wU; rw [h]
    · unfold wL; rw [h]
  · obtain ⟨n1, n2⟩ := sizes_next hl hp h1
    have r1 : wR l (p + 1) = wR l p + 1 := by unfold wR; rw [h]; exact n1
    have r2 : wU l p < wU l (p + 1) := by unfold wU; rw [h]; exact n2
    refine Or.inr ⟨by omega, r1, r2, by unfold wL; exact ln_mono (by omega) (by omega), fun hk => ?_⟩
    obtain ⟨st, rs, us, a1, a2, a3, a4, a5, a6, a7, a8⟩ := col_at hl (p := p) (by omega)
    obtain ⟨st', rs', us', b1, b2, b3, b4, b5, b6, b7, b8⟩ := col_at hl hp
    have hst : st' = st := by rw [← b3, ← a3, hk]
    subst hst
    rw [a5, hk] at b5
    unfold whA at b5
    simp only [Value.tuple.injEq, Array.mk.injEq, List.cons.injEq, Value.agg.injEq, Value.int.injEq, true_and, and_true] at b5
    omega
theorem col_last (l : List Int) : flr l l.length = l.length ∧ wL l l.length + 1 = (LN l).length := by
  have h := flr_eq (edge_len l)
  refine ⟨h, ?_⟩
  obtain ⟨i, hi⟩ := ho_of (l := l) (p := l.length) (Nat.le_refl _)
  unfold wL
  rw [h, hi.eq, (LN_at l hi.lt).1]
  have hl := hi.lt
  rcases Nat.lt_or_ge (i + 1) (LN l).length with q | q
  · have a := hi.up q
    obtain ⟨_, _, k⟩ := LN_at l q
    have := k.sc
    have := k.cn
    have := k.nl
    omega
  · omega

/-- where the lines begin -/
def sts (l : List Int) : List Nat := (LN l).map fun e => e.2.1
theorem sts_len (l : List Int) : (sts l).length = (LN l).length := by simp [sts]
theorem sts_vals (l : List Int) : stsV (LN l) = (sts l).map fun (n : Nat) => Value.int .i64 (n : Int) := by simp [sts, stsV]
theorem sts_get {l : List Int} {k : Nat} (h : k < (LN l).length) : (sts l).getD k 0 = ((LN l).getD k z4).2.1 := by
  unfold sts
  rw [List.getD_eq_getElem?_getD, List.getElem?_map, List.getD_eq_getElem?_getD, List.getElem?_eq_getElem h]
  rfl
structure LcS (w : World) (a0 : Option Addr) (cap : Nat) (l : List Int) (gT : Nat) (ks : List (Nat × TypeId × Array Value)) (X : World) : Prop where
  L : Lw w a0 cap l ks X
  t : LiesI X gT (sts l)
  z : gT < X.heap.size
theorem LcS.on {w : World} {a0 : Option Addr} {cap : Nat} {l : List Int} {gT : Nat} {ks : List (Nat × TypeId × Array Value)} {X Y : World} (h : LcS w a0 cap l gT ks X) (hb : Below X.heap.size X Y) : LcS w a0 cap l gT ks Y :=
  ⟨h.L.on hb, h.t.below hb h.z, Nat.lt_of_lt_of_le h.z hb.size⟩
theorem LcS.new {w : World} {a0 : Option Addr} {cap : Nat} {l : List Int} {gT : Nat} {ks : List (Nat × TypeId × Array Value)} {X : World} (h : LcS w a0 cap l gT ks X) (t : TypeId) (cs : Array Value) : LcS w a0 cap l gT ((X.heap.size, t, cs) :: ks) (X.alloc (.cells cs t)) :=
  have hb := (Below.refl X.heap.size X).alloc (Nat.le_refl _) (.cells cs t)
  ⟨h.L.new t cs, h.t.below hb h.z, Nat.lt_of_lt_of_le h.z hb.size⟩
def w7 (q r u k b cr cu : Nat) : Array Value := #[.int .i64 (q : Int), .int .i64 (r : Int), .int .i64 (u : Int), .int .i64 (k : Int), .int .i64 (b : Int), .int .i64 (cr : Int), .int .i64 (cu : Int)]
theorem cells7w {Y : World} {N : Nat} {t : TypeId} {x0 x1 x2 x3 x4 x5 x6 : Value} (h : Cls Y N t #[x0, x1, x2, x3, x4, x5, x6]) :
    Y.cell? ⟨N, 0, none⟩ = some x0 ∧ Y.cell? ⟨N, 1, none⟩ = some x1 ∧ Y.cell? ⟨N, 2, none⟩ = some x2 ∧ Y.cell? ⟨N, 3, none⟩ = some x3 ∧ Y.cell? ⟨N, 4, none⟩ = some x4 ∧ Y.cell? ⟨N, 5, none⟩ = some x5 ∧ Y.cell? ⟨N, 6, none⟩ = some x6 :=
  ⟨(h.cell 0).trans rfl, (h.cell 1).trans rfl, (h.cell 2).trans rfl, (h.cell 3).trans rfl, (h.cell 4).trans rfl, (h.cell 5).trans rfl, (h.cell 6).trans rfl⟩
theorem sets7w {N : Nat} (Y : World) (t : TypeId) (x0 x1 x2 x3 x4 x5 x6 : Value) {y0 y1 y2 y3 y4 y5 y6 : Value} (h : Cls Y N t #[y0, y1, y2, y3, y4, y5, y6]) :
    Cls (((((((Y.setCell ⟨N, 0, none⟩ x0).setCell ⟨N, 1, none⟩ x1).setCell ⟨N, 2, none⟩ x2).setCell ⟨N, 3, none⟩ x3).setCell ⟨N, 4, none⟩ x4).setCell ⟨N, 5, none⟩ x5).setCell ⟨N, 6, none⟩ x6) N t #[x0, x1, x2, x3, x4, x5, x6] ∧
    Below N Y (((((((Y.setCell ⟨N, 0, none⟩ x0).setCell ⟨N, 1, none⟩ x1).setCell ⟨N, 2, none⟩ x2).setCell ⟨N, 3, none⟩ x3).setCell ⟨N, 4, none⟩ x4).setCell ⟨N, 5, none⟩ x5).setCell ⟨N, 6, none⟩ x6) := by
  have h1 := ((((((h.set 0 x0).set 1 x1).set 2 x2).set 3 x3).set 4 x4).set 5 x5).set 6 x6
  simp only [List.setIfInBounds_toArray, List.set_cons_zero, List.set_cons_succ] at h1
  refine ⟨h1, ?_⟩
  exact ((((((setCell_below (N := N) Y ⟨N, 0, none⟩ x0 (Nat.le_refl _)).trans (setCell_below (N := N) _ ⟨N, 1, none⟩ x1 (Nat.le_refl _))).trans (setCell_below (N := N) _ ⟨N, 2, none⟩ x2 (Nat.le_refl _))).trans (setCell_below (N := N) _ ⟨N, 3, none⟩ x3 (Nat.le_refl _))).trans (setCell_below (N := N) _ ⟨N, 4, none⟩ x4 (Nat.le_refl _))).trans (setCell_below (N := N) _ ⟨N, 5, none⟩ x5 (Nat.le_refl _))).trans (setCell_below (N := N) _ ⟨N, 6, none⟩ x6 (Nat.le_refl _))
/-- the loop's state -/
structure LcI (w : World) (a0 : Option Addr) (cap : Nat) (l : List Int) (gT gL p q r u k b cr cu : Nat) (X : World) : Prop where
  s : LcS w a0 cap l gT [(gL, 39, w7 q r u k b cr cu)] X
  z : w.heap.size ≤ gL
  g : gT < gL
  v : p = 0 ∨ (q = flr l (p - 1) ∧ r = wR l (p - 1) ∧ u = wU l (p - 1) ∧ k = wL l (p - 1) ∧ cr = wCR l (p - 1) ∧ cu = wCU l (p - 1))
theorem lc_set {w : World} {a0 : Option Addr} {cap : Nat} {l : List Int} {gT gL : Nat} {ks : List (Nat × TypeId × Array Value)} {X Z : World} {t : TypeId} {cs : Array Value} (hB : IsB w a0 cap l) (hT : Tab w) (h : LcS w a0 cap l gT ks X) (n1 : Cls Z gL t cs) (n2 : Below gL X Z) (zL : w.heap.size ≤ gL) (g : gT < gL) :
    LcS w a0 cap l gT [(gL, t, cs)] Z := by
  have hd := h.L.d.trans (n2.mono zL)
  refine ⟨⟨hB.below hd (Nat.le_refl _), hT.below hd hT.size, hd, fun y hy => ?_⟩, h.t.below n2 g, Nat.lt_trans g n1.lt⟩
  obtain rfl := List.mem_singleton.1 hy
  exact n1
theorem sz_le {l : List Int} (hl : ∀ x ∈ l, 0 ≤ x ∧ x ≤ 255) : szE 2 l ≤ l.length ∧ szE 3 l ≤ 2 * l.length := by
  obtain ⟨_, _, a3, a4, a5⟩ := st_at hl (List.prefix_refl (spots l 0))
  unfold szE
  rw [if_pos ru2, if_pos ru3]
  have b2 : byE 2 (stE l (spots l 0)) = (stE l (spots l 0)).2.1 := rfl
  have b3 : byE 3 (stE l (spots l 0)) = (stE l (spots l 0)).2.2 := rfl
  omega
theorem col_le {l : List Int} (hl : ∀ x ∈ l, 0 ≤ x ∧ x ≤ 255) {p : Nat} (_hp : p ≤ l.length) : wR l p ≤ 2 * l.length ∧ wU l p ≤ 2 * l.length ∧ wCR l p ≤ 2 * l.length ∧ wCU l p ≤ 2 * l.length := by
  have h1 := sz_le (l := l.take (flr l p)) (fun x hx => hl x (List.mem_of_mem_take hx))
  have h2 := sz_le (l := cutL l (lnOf l (flr l p)).2.1 (flr l p)) (fun x hx => hl x (List.mem_of_mem_take (List.mem_of_mem_drop hx)))
  have e2 : (cutL l (lnOf l (flr l p)).2.1 (flr l p)).length ≤ l.length := by unfold cutL; rw [List.length_drop, List.length_take]; omega
  rw [List.length_take] at h1
  unfold wR wU wCR wCU
  omega

end Go.Proofs.YtbnfpcfoeojceaaDoor
