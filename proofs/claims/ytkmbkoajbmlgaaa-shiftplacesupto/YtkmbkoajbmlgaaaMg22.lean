/- Layer 13: eachChange of the sizes and of a builder; what changes that are checked come to. -/
import Derived.Test.YtkmbkoajbmlgaaaMg21
import Derived.Test.YtkmbkoajbmlgaaaMg18

namespace Go.Proofs.Ytkmbkoajbmlgaaa
open Go.ChangeShapes Go.WideShapes Go.ChangeAt Go.RowKit
attribute [local go_sem] Oper.semAt_some

/-- changes in order, within n bytes -/
def okL : Int → List Dop → Int → Prop
  | p, [], n => p ≤ n
  | p, c :: r, n => p ≤ c.k ∧ c.k ≤ c.n ∧ c.n ≤ n ∧ okL c.n r n
theorem okL_of : ∀ (cs : List Dop) (p n : Int), p ≤ n → (∀ c, cs.head? = some c → p ≤ c.k) → (∀ k, k < cs.length → (cs.getD k opZ).k ≤ (cs.getD k opZ).n ∧ (cs.getD k opZ).n ≤ n) → (∀ k, k + 1 < cs.length → ¬ (cs.getD (k + 1) opZ).k < (cs.getD k opZ).n) → okL p cs n
  | [], _, _, h, _, _, _ => h
  | c :: r, p, n, h, h1, h2, h3 => by
    have e := h2 0 (by simp)
    simp only [List.getD, List.getElem?_cons_zero, Option.getD_some] at e
    refine ⟨h1 c rfl, e.1, e.2, okL_of r c.n n e.2 (fun d hd => ?_) (fun k hk => ?_) (fun k hk => ?_)⟩
    · cases r with
      | nil => simp at hd
      | cons d' r' =>
        simp only [List.head?_cons, Option.some.injEq] at hd
        subst hd
        have := h3 0 (by simp)
        simp at this
        omega
    · have := h2 (k + 1) (by simpa using hk)
      simpa using this
    · have := h3 (k + 1) (by simpa using hk)
      simpa using this
theorem okL_at : ∀ (cs : List Dop) (p n : Int), okL p cs n → ∀ k, k < cs.length → p ≤ lstC p (cs.take k) ∧ lstC p (cs.take k) ≤ (cs.getD k opZ).k ∧ (cs.getD k opZ).k ≤ (cs.getD k opZ).n ∧ (cs.getD k opZ).n ≤ n
  | [], _, _, _, k, hk => absurd hk (by simp)
  | c :: r, p, n, ⟨h1, h2, h3, _⟩, 0, _ => by simp [lstC]; omega
  | c :: r, p, n, ⟨h1, h2, h3, h4⟩, k + 1, hk => by
    have := okL_at r c.n n h4 k (by simpa using hk)
    simp [lstC] at this ⊢
    omega
theorem okL_end : ∀ (cs : List Dop) (p n : Int), okL p cs n → p ≤ lstC p cs ∧ lstC p cs ≤ n
  | [], _, _, h => ⟨Int.le_refl _, h⟩
  | c :: r, p, n, ⟨h1, h2, h3, h4⟩ => by
    have := okL_end r c.n n h4
    simp only [lstC]
    omega
theorem okC_of {cs : List Dop} {n : Int} (hn : 0 ≤ n ∧ n ≤ 268435456) (h : okL 0 cs n) : OkC n cs :=
  ⟨hn, fun k hk => okL_at cs 0 n h k hk, okL_end cs 0 n h⟩
/-- by how much longer the text gets -/
def dlC : List Dop → Int
  | [] => 0
  | c :: r => ((c.t.length : Int) - (c.n - c.k)) + dlC r
theorem dlC_take : ∀ (cs : List Dop) (k : Nat), k < cs.length → dlC (cs.take (k + 1)) = dlC (cs.take k) + (((cs.getD k opZ).t.length : Int) - ((cs.getD k opZ).n - (cs.getD k opZ).k))
  | [], k, hk => absurd hk (by simp)
  | c :: r, 0, _ => by simp [dlC]
  | c :: r, k + 1, hk => by
    have := dlC_take r k (by simpa using hk)
    simp only [List.take_succ_cons, dlC, this]
    simp
    omega
theorem frD_cons (o : Dop) (d : List Dop) : frD (o :: d) = frN o + frD d := by simp [frD]
theorem toD_cons (o : Dop) (d : List Dop) : toD (o :: d) = toN o + toD d := by simp [toD]
theorem frD_app (d e : List Dop) : frD (d ++ e) = frD d + frD e := by simp [frD]
theorem toD_app (d e : List Dop) : toD (d ++ e) = toD d + toD e := by simp [toD]
theorem opC_sizes : ∀ (cs : List Dop) (p n : Int), okL p cs n → (frD (opC p cs) : Int) = lstC p cs - p ∧ (toD (opC p cs) : Int) = lstC p cs - p + dlC cs
  | [], p, _, _ => by simp [opC, lstC, dlC, frD, toD]
  | c :: r, p, n, ⟨h1, h2, h3, h4⟩ => by
    obtain ⟨i1, i2⟩ := opC_sizes r c.n n h4
    simp only [opC, frD_cons, toD_cons, lstC, dlC]
    simp [frN, toN]
    omega
theorem opsC_sizes {cs : List Dop} {n : Int} (h : okL 0 cs n) : (frD (opsC n cs) : Int) = n ∧ (toD (opsC n cs) : Int) = n + dlC cs := by
  obtain ⟨i1, i2⟩ := opC_sizes cs 0 n h
  have := okL_end cs 0 n h
  simp only [opsC, frD_app, toD_app]
  have e1 : frD [(⟨1, n - lstC 0 cs, []⟩ : Dop)] = (n - lstC 0 cs).toNat := by simp [frD, frN]
  have e2 : toD [(⟨1, n - lstC 0 cs, []⟩ : Dop)] = (n - lstC 0 cs).toNat := by simp [toD, toN]
  rw [e1, e2]
  omega
theorem opC_ok : ∀ (cs : List Dop) (p n : Int), okL p cs n → ∀ o ∈ opC p cs, (o.k = 1 ∨ o.k = 2 ∨ o.k = 3) ∧ 0 ≤ o.n
  | [], _, _, _, o, ho => by simp [opC] at ho
  | c :: r, p, n, ⟨h1, h2, h3, h4⟩, o, ho => by
    simp only [opC, List.mem_cons] at ho
    rcases ho with rfl | rfl | rfl | ho
    · exact ⟨.inl rfl, by dsimp only; omega⟩
    · exact ⟨.inr (.inl rfl), by dsimp only; omega⟩
    · exact ⟨.inr (.inr rfl), by dsimp only; omega⟩
    · exact opC_ok r c.n n h4 o ho
theorem opsC_ok {cs : List Dop} {n : Int} (h : okL 0 cs n) : ∀ o ∈ opsC n cs, (o.k = 1 ∨ o.k = 2 ∨ o.k = 3) ∧ 0 ≤ o.n := by
  intro o ho
  rcases List.mem_append.1 ho with ho | ho
  · exact opC_ok cs 0 n h o ho
  · simp at ho; subst ho; have := okL_end cs 0 n h; exact ⟨.inl rfl, by dsimp only; omega⟩
/-- the sizes of changes -/
theorem eachC_z (a : Option Addr) (c B g : Nat) (n : Int) (cs : List Dop) (X : World) (hd : ∀ Y, Below B X Y → IsO Y a cs) (hX : IsZ X g 0 0) (hB : B ≤ g) (hB2 : B ≤ X.heap.size) (hl : cs.length ≤ 4398046511104) (hn : 0 ≤ n ∧ n ≤ 268435456) (hok : okL 0 cs n) :
    Calls Try.prog 64 #[.int .i64 n, .slice a cs.length c, .func (.func 65) #[.pointer (some ⟨g, 0, none⟩)] #[], .func (.func 66) #[.pointer (some ⟨g, 0, none⟩)] #[], .func (.func 67) #[.pointer (some ⟨g, 0, none⟩)] #[]] X
      fun y X' => y = .returned (.tuple #[]) ∧ IsZ X' g (satD (frD (opsC n cs))) (satD (toD (opsC n cs))) ∧ Below B X X' := by
  have hO := opsC_ok hok
  have hlen := opsC_len n cs
  generalize hd0 : opsC n cs = d at *
  have stepK : ∀ k Y, k < d.length → (d.getD k opZ).k = 1 → (IsZ Y g (satD (frD (d.take k))) (satD (toD (d.take k))) ∧ Below B X Y) → Calls Try.prog 65 #[.pointer (some ⟨g, 0, none⟩), .int .i64 (d.getD k opZ).n] Y fun y Z => y = .returned (.tuple #[]) ∧ (IsZ Z g (satD (frD (d.take (k + 1)))) (satD (toD (d.take (k + 1)))) ∧ Below B X Z) ∧ ∀ i, i ≠ g → Z.heap[i]? = Y.heap[i]? := fun k Y hk h1 hY => by
    obtain ⟨m, hm⟩ : ∃ m : Nat, (d.getD k opZ).n = (m : Int) := ⟨(d.getD k opZ).n.toNat, by have := (hO _ (getD_memD hk)).2; omega⟩
    rw [hm]
    refine (zkeepF_at g _ _ m Y hY.1 (satD_le _) (satD_le _)).mono fun y Z ⟨e, hz, hb, hi⟩ => ⟨e, ⟨?_, hY.2.trans (hb.mono hB)⟩, hi⟩
    rw [satD_add, satD_add] at hz
    rw [frD_take d hk, toD_take d hk, show frN (d.getD k opZ) = m by unfold frN; rw [if_pos (.inl h1), hm]; simp, show toN (d.getD k opZ) = m by unfold toN; rw [if_pos h1, hm]; simp]
    exact hz
  have ne : ∀ (Y : World) (q : Nat) (t : Array Value) (f s : Nat), IsZ Y g f s → Cls Y q 56 t → q ≠ g := fun Y q t f s h1 h2 => typeD_ne h2 h1 (by decide)
  have := eachC_at a c B n cs X 65 66 67 (.pointer (some ⟨g, 0, none⟩))
    (fun k Y => IsZ Y g (satD (frD (d.take k))) (satD (toD (d.take k))) ∧ Below B X Y)
    (fun k q t Y => (IsZ Y g (satD (frD (d.take k))) (satD (toD (d.take k))) ∧ Below B X Y) ∧ Cls Y q 56 t)
    (enters_of Try.func65 (by kernel_rfl) rfl) (enters_of Try.func66 (by kernel_rfl) rfl) (enters_of Try.func67 (by kernel_rfl) rfl)
    hd (fun k Y hY => hY.2) (fun k Y q hY => ⟨⟨Cls.alloc hY.1 _, hY.2.alloc (Nat.le_trans hB2 hY.2.size) _⟩, Cls.new _ _ _⟩) (fun k g q Y hY => ⟨hY.2, hY.1⟩) ⟨hX, Below.refl _ _⟩ hl (okC_of hn hok)
    (fun k q t Y hk h1 hY => by
      rw [hd0] at hk h1 ⊢
      exact (stepK k Y hk h1 hY.1).mono fun y Z ⟨e, hz, hi⟩ => ⟨e, hz, hY.2.same (hi q (ne Y q t _ _ hY.1.1 hY.2))⟩)
    (fun k q t Y hk h1 hY => by
      rw [hd0] at hk h1 ⊢
      refine (zputF_at g _ _ (d.getD k opZ).t.length (strOfNums (d.getD k opZ).t) Y hY.1.1 (satD_le _) (strOfNums_size _)).mono fun y Z ⟨e, hz, hb, hi⟩ => ⟨e, ⟨?_, hY.1.2.trans (hb.mono hB)⟩, hY.2.same (hi q (ne Y q t _ _ hY.1.1 hY.2))⟩
      rw [satD_add] at hz
      rw [frD_take d hk, toD_take d hk, show frN (d.getD k opZ) = 0 by unfold frN; rw [h1]; rfl, show toN (d.getD k opZ) = (d.getD k opZ).t.length by unfold toN; rw [h1]; rfl]
      exact hz)
    (fun k q t Y hk h1 hY => by
      rw [hd0] at hk h1 ⊢
      obtain ⟨m, hm⟩ : ∃ m : Nat, (d.getD k opZ).n = (m : Int) := ⟨(d.getD k opZ).n.toNat, by have := (hO _ (getD_memD hk)).2; omega⟩
      rw [hm]
      refine (zdropF_at g _ _ m Y hY.1.1 (satD_le _)).mono fun y Z ⟨e, hz, hb, hi⟩ => ⟨e, ⟨?_, hY.1.2.trans (hb.mono hB)⟩, hY.2.same (hi q (ne Y q t _ _ hY.1.1 hY.2))⟩
      rw [satD_add] at hz
      rw [frD_take d hk, toD_take d hk, show frN (d.getD k opZ) = m by unfold frN; rw [if_pos (.inr h1), hm]; simp, show toN (d.getD k opZ) = 0 by unfold toN; rw [h1]; rfl]
      exact hz)
    (fun k Y hk h1 hY => by
      rw [hd0] at hk h1 ⊢
      exact (stepK k Y hk h1 hY).mono fun y Z ⟨e, hz, _⟩ => ⟨e, hz⟩)
  rw [← hlen, List.take_length] at this
  exact this
/-- what lies elsewhere, told to a builder -/
def rQ (q : Nat) (t : Array Value) : Nat → Option Value := fun j => if j = 0 then some (.agg t) else if j = 1 then some (.int .i64 (q : Int)) else none
theorem rQ_far (q : Nat) (t : Array Value) {j : Nat} (h : 4 ≤ j) : rQ q t j = none := by unfold rQ; rw [if_neg (by omega), if_neg (by omega)]
theorem IsBd.re {X : World} {B g : Nat} {r r' : Nat → Option Value} {b : Bld} {ts : List (List Int)} (h : IsBd X B g 0 r b ts) (hf : FrB r' 0 X) (hr : ∀ j, 4 ≤ j → r' j = r j) : IsBd X B g 0 r' b ts := by
  obtain ⟨vo, vt, ⟨ca, t, k1, k2, k3, k4, k5, k6, k7⟩, h2, h3⟩ := h.c
  exact ⟨⟨vo, vt, ⟨ca, t, k1, k2, k3, k4, k5, k6, fun j hj => by rw [k7 j hj, hr j (by omega)]⟩, h2, h3⟩, h.t, h.z, hf⟩
theorem fr_rQ {q : Nat} {t : Array Value} {X : World} (h : Cls X q 56 t) : FrB (rQ q t) 0 X := fun cs k e1 e2 => by
  simp [rQ] at e1 e2
  subst e1
  obtain rfl : q = k := by omega
  exact h
/-- a builder of changes -/
theorem eachC_b (a : Option Addr) (c B g : Nat) (n : Int) (cs : List Dop) (X : World) (hd : ∀ Y, Below B X Y → IsO Y a cs) (hX : IsBd X B g 0 (fun _ => none) b0 []) (hB : B ≤ X.heap.size) (hl : cs.length ≤ 4398046511104) (hn : 0 ≤ n ∧ n ≤ 268435456) (hok : okL 0 cs n) (hz : frD (opsC n cs) + toD (opsC n cs) ≤ 1073741824) :
    Calls Try.prog 64 #[.int .i64 n, .slice a cs.length c, .func (.func 57) #[.pointer (some ⟨g, 0, none⟩)] #[], .func (.func 58) #[.pointer (some ⟨g, 0, none⟩)] #[], .func (.func 59) #[.pointer (some ⟨g, 0, none⟩)] #[]] X
      fun y X' => y = .returned (.tuple #[]) ∧ (∃ ts, IsBd X' B g 0 (fun _ => none) (feedA b0 (dA (opsC n cs))) ts) ∧ Below B X X' := by
  have hO := opsC_ok hok
  have hlen := opsC_len n cs
  generalize hd0 : opsC n cs = d at *
  have hb : ∀ k, (dA (d.take k)).length ≤ 1073741824 := fun k => by have := dA_take d k; have := dA_len (fun o ho => (hO o ho).1); omega
  have fr : ∀ k, k < d.length → (d.getD k opZ).k ≠ 2 → (d.getD k opZ).n.toNat ≤ 1073741824 := fun k hk h1 => by
    have e1 := frD_take d hk
    have e2 : frN (d.getD k opZ) = (d.getD k opZ).n.toNat := by
      have := (hO _ (getD_memD hk)).1
      unfold frN; rw [if_pos (by omega)]
    have e3 := (frD_le d (k + 1)).1
    omega
  have stepK : ∀ (r : Nat → Option Value) k Y, k < d.length → (d.getD k opZ).k = 1 → ((∃ ts, IsBd Y B g 0 r (feedA b0 (dA (d.take k))) ts) ∧ Below B X Y) → Calls Try.prog 57 #[.pointer (some ⟨g, 0, none⟩), .int .i64 (d.getD k opZ).n] Y fun y Z => y = .returned (.tuple #[]) ∧ (∃ ts, IsBd Z B g 0 r (feedA b0 (dA (d.take (k + 1)))) ts) ∧ Below B X Z := fun r k Y hk h1 ⟨⟨ts, hY⟩, hb2⟩ => by
    obtain ⟨m, hm⟩ : ∃ m : Nat, (d.getD k opZ).n = (m : Int) := ⟨(d.getD k opZ).n.toNat, by have := (hO _ (getD_memD hk)).2; omega⟩
    have hf := fr k hk (by omega)
    have e : feedA b0 (dA (d.take (k + 1))) = (feedA b0 (dA (d.take k))).keep m := by rw [← feedD_A, ← feedD_A, feedD_take d hk, op_keep h1, hm]; simp
    rw [hm, e]
    exact (bkeep_at B g 0 r _ ts m Y hY (bd_ok hY (hb k)) (by omega) (Nat.le_trans hB hb2.size)).mono fun y Z ⟨q, ⟨ts', h3, _⟩, h4⟩ => ⟨q, ⟨ts', h3⟩, hb2.trans h4⟩
  have := eachC_at a c B n cs X 57 58 59 (.pointer (some ⟨g, 0, none⟩))
    (fun k Y => (∃ ts, IsBd Y B g 0 (fun _ => none) (feedA b0 (dA (d.take k))) ts) ∧ Below B X Y)
    (fun k q t Y => (∃ ts, IsBd Y B g 0 (rQ q t) (feedA b0 (dA (d.take k))) ts) ∧ Below B X Y)
    (enters_of Try.func57 (by kernel_rfl) rfl) (enters_of Try.func58 (by kernel_rfl) rfl) (enters_of Try.func59 (by kernel_rfl) rfl)
    hd (fun k Y hY => hY.2)
    (fun k Y q ⟨⟨ts, h1⟩, h2⟩ => ⟨⟨ts, (h1.on ((Below.refl Y.heap.size Y).alloc (Nat.le_refl _) _) (Nat.le_refl _)).re (fr_rQ (Cls.new _ _ _)) (fun j hj => rQ_far _ _ hj)⟩, h2.alloc (Nat.le_trans hB h2.size) _⟩)
    (fun k q t Y ⟨⟨ts, h1⟩, h2⟩ => ⟨h1.f t q rfl rfl, ⟨ts, h1.re (fun cs k e1 _ => by cases e1) (fun j hj => (rQ_far _ _ hj).symm)⟩, h2⟩)
    ⟨⟨[], hX⟩, Below.refl _ _⟩ hl (okC_of hn hok)
    (fun k q t Y hk h1 hY => by
      rw [hd0] at hk h1 ⊢
      exact stepK (rQ q t) k Y hk h1 hY)
    (fun k q t Y hk h1 ⟨⟨ts, hY⟩, hb2⟩ => by
      rw [hd0] at hk h1 ⊢
      have e : feedA b0 (dA (d.take (k + 1))) = (feedA b0 (dA (d.take k))).put (d.getD k opZ).t := by rw [← feedD_A, ← feedD_A, feedD_take d hk, op_put h1]
      rw [e]
      exact (bput_at B g 0 (rQ q t) _ ts _ Y hY (bd_ok hY (hb k)).t (Nat.le_trans hB hb2.size)).mono fun y Z ⟨q, h3, h4⟩ => ⟨q, ⟨_, h3⟩, hb2.trans h4⟩)
    (fun k q t Y hk h1 ⟨⟨ts, hY⟩, hb2⟩ => by
      rw [hd0] at hk h1 ⊢
      obtain ⟨m, hm⟩ : ∃ m : Nat, (d.getD k opZ).n = (m : Int) := ⟨(d.getD k opZ).n.toNat, by have := (hO _ (getD_memD hk)).2; omega⟩
      have hf := fr k hk (by omega)
      have e : feedA b0 (dA (d.take (k + 1))) = (feedA b0 (dA (d.take k))).drop m := by rw [← feedD_A, ← feedD_A, feedD_take d hk, op_drop h1, hm]; simp
      rw [hm, e]
      exact (bdrop_at B g 0 (rQ q t) _ ts m Y hY (by have := (bd_ok hY (hb k)).d; omega)).mono fun y Z ⟨q, h3, h4⟩ => ⟨q, ⟨ts, h3⟩, hb2.trans h4⟩)
    (fun k Y hk h1 hY => by
      rw [hd0] at hk h1 ⊢
      exact stepK (fun _ => none) k Y hk h1 hY)
  rw [← hlen, List.take_length] at this
  exact this

end Go.Proofs.Ytkmbkoajbmlgaaa
