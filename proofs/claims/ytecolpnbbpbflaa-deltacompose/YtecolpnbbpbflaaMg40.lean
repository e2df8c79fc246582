/- Layer 13: the document's Compose. -/
import Derived.Test.YtecolpnbbpbflaaMg39
import Derived.Test.YtecolpnbbpbflaaMg32

namespace Go.Proofs.Ytecolpnbbpbflaa
open Go.ChangeShapes Go.WideShapes Go.ChangeAt Go.RowKit
attribute [local go_sem] Oper.semAt_some

theorem RAddG_at (a : Option Addr) (c : Nat) (d : List Dop) (k n : Int) (t : List Int) (w : World) (h : IsO w a d) (hc : d.length ≤ c) (ok : AdOk d n t) (hno : ¬ noD k n t) :
    Calls Try.prog 44 #[.slice a d.length c, .int .i64 k, .int .i64 n, .string (strOfNums t)] w fun y w' => ∃ v, y = .returned v ∧ w'.ownsRow w.heap.size 64 3 v (addD d k n t).length (opsV (addD d k n t)) ∧ Below w.heap.size w w' := by
  have hl := ok.l
  have hs : ∀ (e : List Dop) (m : Int), (∀ x ∈ e, x ∈ d) → (m = n ∨ m = 0) → ∀ x, e.getLast? = some x → (-4611686018427387904 ≤ x.n + m ∧ x.n + m ≤ 4611686018427387904) ∧ x.t.length + t.length ≤ 4611686018427387904 := fun e m hsub hm x hx => by
    have hmem := hsub x (List.mem_of_getLast? hx)
    have h1 := ok.xn x hmem
    have h2 := ok.xt x hmem
    have h3 := pln_n (ok.c.p x hmem)
    have h4 := ok.nn
    have h5 := ok.tt
    rcases hm with rfl | rfl <;> omega
  by_cases hdr : ∃ x, d.getLast? = some x ∧ k = 2 ∧ x.k = 3
  · obtain ⟨x, hx, rfl, hx3⟩ := hdr
    obtain ⟨e, x', rfl⟩ := list_snoc (d := d) (fun e => by rw [e] at hx; simp at hx)
    obtain rfl : x' = x := by simpa using hx
    have ht : t ≠ [] := fun e => hno (.inl ⟨rfl, e⟩)
    have hlen := add1_len e 2 0 t
    rw [addD_put ht hx3]
    rw [List.length_append, List.length_singleton] at hl hc ⊢
    refine (RAdd4_at a c e x' n t w h hx3 ht hc (fun X a1 c1 hX => ?_) (by omega) (by omega))
    refine RAdd1_at a1 c1 e 2 0 t X hX (fun hh => by rcases hh with ⟨_, hh⟩ | ⟨hh, _⟩; exact ht hh; exact hh rfl) (fun z hz hh => ?_) (by omega) (hs e 0 (fun z hz => by simp [hz]) (.inr rfl))
    exact (chn_mid (d := e) (x := z) (o := x') (r := []) ok.c.c hz).1 (by rw [hh.2, hx3])
  · have hx : ∀ x, d.getLast? = some x → ¬ (k = 2 ∧ x.k = 3) := fun x hx hh => hdr ⟨x, hx, hh⟩
    rw [addD_one hno hx]
    exact (RAdd1_at a c d k n t w h hno hx (by omega) (hs d n (fun z hz => hz) (.inl rfl)))


theorem cmp_puts_nf : ∀ (t : List Int) (u s : List Atm), nfA (cmpA u (t.map .p ++ s)) = nfA (t.map .p ++ cmpA u s)
  | [], _, _ => by simp
  | x :: t, u, s => by
    rw [List.map_cons, List.cons_append, List.cons_append, cmp_put, cmp_puts_nf t u s]
    rfl
/-- what is left of the first operation -/
def cutO (o : Dop) (s : Nat) : Dop := if o.k = 1 then ⟨1, o.n - s, []⟩ else ⟨2, 0, o.t.drop s⟩
def cutR (o : Dop) (r : List Dop) (s : Nat) : List Dop := if s = szO o then r else cutO o s :: r
theorem cut_ok {o : Dop} {r : List Dop} {s : Nat} (hp : ∀ q ∈ o :: r, Pln q ∧ szO q ≤ 536870912) (hk : o.k = 1 ∨ o.k = 2) (hs : 1 ≤ s ∧ s ≤ szO o) : dA (o :: r) = runR o.k (o.t.take s) s ++ dA (cutR o r s) ∧ (∀ q ∈ cutR o r s, Pln q ∧ szO q ≤ 536870912) ∧ (o.k = 2 → (o.t.take s).length = s) := by
  have hP := (hp o (by simp)).1
  have hr : ∀ q ∈ r, Pln q ∧ szO q ≤ 536870912 := fun q hq => hp q (by simp [hq])
  rcases hk with hk | hk
  · obtain ⟨h1, h2, h3⟩ := szO_k hP (by omega)
    have eo : opA o = List.replicate o.n.toNat .k := by simp [opA, hk]
    refine ⟨?_, ?_, fun h => by omega⟩
    · rw [dA_cons, eo]
      simp only [runR, hk, if_true]
      unfold cutR
      split
      · rename_i h; rw [h, h1]
      · rw [dA_cons, show opA (cutO o s) = List.replicate (o.n.toNat - s) .k by simp only [cutO, hk, if_true, opA]; congr 1; omega, ← List.append_assoc, List.replicate_append_replicate]
        congr 2; omega
    · unfold cutR
      split
      · exact hr
      · intro q hq
        rcases List.mem_cons.1 hq with rfl | hq
        · have : Pln (cutO o s) := by simp only [cutO, hk, if_true]; exact .inl ⟨.inl rfl, by dsimp only; omega, rfl⟩
          refine ⟨this, ?_⟩
          have e := (szO_k this (by simp [cutO, hk])).1
          have := (hp o (by simp)).2
          simp only [cutO, hk, if_true] at e ⊢
          omega
        · exact hr q hq
  · obtain ⟨h1, h2, h3⟩ := szO_p hP hk
    have eo : opA o = o.t.map .p := by simp [opA, hk]
    refine ⟨?_, ?_, fun _ => by simp; omega⟩
    · rw [dA_cons, eo]
      simp only [runR, hk, show ¬ ((2 : Int) = 1) by decide, if_false, if_true]
      unfold cutR
      split
      · rename_i h; rw [List.take_of_length_le (by omega)]
      · rw [dA_cons, show opA (cutO o s) = (o.t.drop s).map .p by simp [cutO, hk, opA], ← List.append_assoc, ← List.map_append, List.take_append_drop]
    · unfold cutR
      split
      · exact hr
      · intro q hq
        rcases List.mem_cons.1 hq with rfl | hq
        · have : Pln (cutO o s) := by
            simp only [cutO, hk, show ¬ ((2 : Int) = 1) by decide, if_false]
            exact .inr ⟨rfl, rfl, fun e => by have := congrArg List.length e; simp at this; omega⟩
          refine ⟨this, ?_⟩
          have e := (szO_p this (by simp [cutO, hk])).1
          have := (hp o (by simp)).2
          simp only [cutO, hk, show ¬ ((2 : Int) = 1) by decide, if_false] at e ⊢
          simp at e
          omega
        · exact hr q hq
/-- in the midst of it: what is left of a, the atoms that are left of b, what is written -/
structure CoK (C : List Atm) (r : List Dop) (sb acc : List Atm) : Prop where
  e : nfA (acc ++ cmpA (dA r) sb) = nfA C
  q : toA (dA r) = frA sb
  p : ∀ o ∈ r, Pln o ∧ szO o ≤ 536870912
theorem CoK.len {C : List Atm} {r : List Dop} {sb acc : List Atm} (h : CoK C r sb acc) : acc.length ≤ C.length := by
  have := congrArg List.length h.e
  rw [nf_len, nf_len, List.length_append] at this
  omega
theorem CoK.put {C : List Atm} {r : List Dop} {sb acc : List Atm} {t : List Int} (h : CoK C r (t.map .p ++ sb) acc) : CoK C r sb (acc ++ t.map .p) := by
  refine ⟨?_, ?_, h.p⟩
  · rw [← h.e, List.append_assoc]
    exact (nf_app_left acc (cmp_puts_nf t _ _)).symm
  · have := h.q
    rw [fr_app, (fr_map_p t).1, Nat.zero_add] at this
    exact this
theorem CoK.drop {C : List Atm} {o : Dop} {r : List Dop} {sb acc : List Atm} (h : CoK C (o :: r) sb acc) (hk : o.k = 3) : CoK C r sb (acc ++ List.replicate o.n.toNat .d) := by
  have eo : opA o = List.replicate o.n.toNat .d := by simp [opA, hk]
  have he := h.e
  have hq := h.q
  rw [dA_cons, eo] at he hq
  rw [cmp_drops, ← List.append_assoc] at he
  rw [to_app, (fr_rep_d _).2, Nat.zero_add] at hq
  exact ⟨he, hq, fun q hq => h.p q (by simp [hq])⟩
/-- what a run of both writes -/
theorem CoK.both {C : List Atm} {o : Dop} {r : List Dop} {sb acc : List Atm} {kt : Int} {n s : Nat} (h : CoK C (o :: r) (runR kt [] n ++ sb) acc) (kf : o.k = 1 ∨ o.k = 2) (hkt : kt = 1 ∨ kt = 3) (hs : s = min (szO o) n) (hn : 1 ≤ n) : CoK C (cutR o r s) (runR kt [] (n - s) ++ sb) (acc ++ outT o.k kt (o.t.take s) s) := by
  have h1 := (szO_i (h.p o (by simp)).1).2
  obtain ⟨c1, c2, c3⟩ := cut_ok (r := r) h.p kf (s := s) (by omega)
  have e1 : runR kt [] n = runR kt [] s ++ runR kt [] (n - s) := by
    rcases hkt with rfl | rfl
    · show List.replicate n _ = List.replicate s _ ++ List.replicate (n - s) _
      rw [List.replicate_append_replicate]; congr 1; omega
    · show List.replicate n _ = List.replicate s _ ++ List.replicate (n - s) _
      rw [List.replicate_append_replicate]; congr 1; omega
  have he := h.e
  have hq := h.q
  rw [c1, e1, List.append_assoc] at he hq
  have s1 := run_sizes o.k (o.t.take s) s c3
  have s2 := run_sizes kt [] s (fun h => by omega)
  rw [to_app, fr_app] at hq
  refine ⟨?_, ?_, c2⟩
  · rw [← he, List.append_assoc]
    congr 2
    rcases kf with kf | kf <;> rcases hkt with rfl | rfl <;> rw [kf]
    · exact (cmp_kk s _ _).symm
    · exact (cmp_kd s _ _).symm
    · have := cmp_pk (o.t.take s) (dA (cutR o r s)) (runR 1 [] (n - s) ++ sb)
      rw [c3 kf] at this
      exact this.symm
    · have := cmp_pd (o.t.take s) (dA (cutR o r s)) (runR 3 [] (n - s) ++ sb)
      rw [c3 kf] at this
      exact this.symm
  · rcases kf with kf | kf <;> rcases hkt with rfl | rfl
    · rw [(s1.1 kf).2, (s2.1 rfl).1] at hq; omega
    · rw [(s1.1 kf).2, (s2.2.2 rfl).1] at hq; omega
    · rw [(s1.2.1 kf).2, (s2.1 rfl).1] at hq; omega
    · rw [(s1.2.1 kf).2, (s2.2.2 rfl).1] at hq; omega
/-- the rest of a in a row of the call's own, from a place on -/
structure IsRs (B : Nat) (X : World) (g off : Nat) (r : List Dop) : Prop where
  c : ∃ cs, X.heap[g]? = some (.cells cs 64 (0, 0)) ∧ ∀ j, j < r.length * 3 → cs[off + j]? = (opsV r)[j]?
  b : B ≤ g
theorem IsRs.same {B : Nat} {X Y : World} {g off : Nat} {r : List Dop} (h : IsRs B X g off r) (hs : Y.heap[g]? = X.heap[g]?) : IsRs B Y g off r := by
  obtain ⟨cs, h1, h2⟩ := h.c
  exact ⟨⟨cs, hs.trans h1, h2⟩, h.b⟩
theorem IsRs.lt {B : Nat} {X : World} {g off : Nat} {r : List Dop} (h : IsRs B X g off r) : g < X.heap.size := by obtain ⟨cs, h1, _⟩ := h.c; exact (Array.getElem?_eq_some_iff.1 h1).1
theorem IsRs.hd {B : Nat} {X : World} {g off : Nat} {o : Dop} {r : List Dop} (h : IsRs B X g off (o :: r)) : (X.cell? ⟨g, off, none⟩ = some (.int .i64 o.k) ∧ X.cell? ⟨g, off + 1, none⟩ = some (.int .i64 o.n) ∧ X.cell? ⟨g, off + 2, none⟩ = some (.string (strOfNums o.t))) ∧ ∀ j, X.frozen? ⟨g, j, none⟩ = false := by
  obtain ⟨cs, h1, h2⟩ := h.c
  have e : ∀ j, j < 3 → X.cell? ⟨g, off + j, none⟩ = (opsV (o :: r))[j]? := fun j hj => by
    simp only [World.cell?, h1]
    exact h2 j (by simp; omega)
  exact ⟨⟨e 0 (by decide), e 1 (by decide), e 2 (by decide)⟩, fun j => by simp [World.frozen?, h1]⟩
theorem IsRs.tl {B : Nat} {X : World} {g off : Nat} {o : Dop} {r : List Dop} (h : IsRs B X g off (o :: r)) : IsRs B X g (off + 3) r := by
  obtain ⟨cs, h1, h2⟩ := h.c
  refine ⟨⟨cs, h1, fun j hj => ?_⟩, h.b⟩
  have := h2 (j + 3) (by simp; omega)
  rw [show off + 3 + j = off + (j + 3) by omega, this]
  simp [opsV, opL]
theorem IsRs.set {B : Nat} {X : World} {g off : Nat} {o o' : Dop} {r : List Dop} (h : IsRs B X g off (o :: r)) (j : Nat) (u : Value) (hj : j < 3) (he : (opL o).set j u = opL o') : IsRs B (X.setCell ⟨g, off + j, none⟩ u) g off (o' :: r) := by
  obtain ⟨cs, h1, h2⟩ := h.c
  refine ⟨⟨_, heap_set h1 u, fun i hi => ?_⟩, h.b⟩
  have hi' : i < (o :: r).length * 3 := hi
  have e0 := h2 i hi'
  have hl : off + j < cs.size := by
    have := h2 j (by simp; omega)
    have hv : ((opsV (o :: r))[j]?).isSome := by simp [opsV, opL]; omega
    rw [← this] at hv
    simpa using hv
  have e1 : opsV (o' :: r) = (opsV (o :: r)).set j u := by
    simp only [opsV, List.flatMap_cons]
    rw [← he, List.set_append_left _ _ (by simpa [opL] using hj)]
  rw [e1]
  by_cases hij : i = j
  · subst hij
    rw [List.getElem?_set_self (by rw [opsV_len]; exact hi')]
    simp [hl]
  · rw [List.getElem?_set_ne (by omega)]
    simp only [Array.getElem?_setIfInBounds]
    rw [if_neg (by omega)]
    exact e0

end Go.Proofs.Ytecolpnbbpbflaa
