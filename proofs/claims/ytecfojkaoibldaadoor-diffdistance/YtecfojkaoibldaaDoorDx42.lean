/- Layer 13: eachChange of the sizes and of a builder; what changes that are checked come to. · Layer 19, plain: what the program's runs are: the same pieces of both, rising, to both ends; what stands between them are the changes. · Layer 19: common: the runs of a longest list that stands in both. · Layer 13: fits; the writer. · Layer 13, the document's Valid. · Layer 13, the document's Lens. · Layer 13: Apply. -/
import Derived.Test.YtecfojkaoibldaaDoorDx41
import Derived.Test.YtecfojkaoibldaaDoorDx27
import Derived.Test.YtecfojkaoibldaaDoorDx34
import Derived.Lib.AppendStr
import Derived.Test.YtecfojkaoibldaaDoorDx37
import Derived.Deep.QuietTactic
import Derived.BigQuiet
import Derived.WalkSmall

section
namespace Go.Proofs.YtecfojkaoibldaaDoor
open Go.ChangeShapes Go.WideShapes Go.ChangeAt Go.RowKit
attribute [local go_sem] Oper.semAt_some

/-- changes in order, within n bytes -/
def okL : Int → List Dop → Int → Prop
  | p, [], n => p ≤ n
  | p, c :: r, n => p ≤ c.k ∧ c.k ≤ c.n ∧ c.n ≤ n ∧ okL c.n r n
theorem okL_of : ∀ (cs : List Dop) (p n : Int), p ≤ n → (∀ c, cs.head? = some c → p ≤ c.k) → (∀ k, k < cs.length → (cs.getD k opZ).k ≤ (cs.getD k opZ).n ∧ (cs.getD k opZ).n ≤ n) → (∀ k, k + 1 < cs.length → ¬ (cs.getD (k + 1) opZ).k < (cs.getD k opZ).n) → okL p cs n
  | [], _, _, h, _, _, _ => h
  | c :: r, p, n, h, h1, h2, h3 => by
    have e := h2 0 (by simp)
    simp only [List.getD, List.getElem?_cons_zero, Option.getD_some] at e
    refine ⟨h1 c rfl, e.1, e.2, okL_of r c.n n e.2 (fun d hd => ?_) (fun k hk => ?_) (fun k hk => ?_)⟩
    · cases r with
      | nil => simp at hd
      | cons d' r' =>
        simp only [List.head?_cons, Option.some.injEq] at hd
        subst hd
        have := h3 0 (by simp)
        simp at this
        omega
    · have := h2 (k + 1) (by simpa using hk)
      simpa using this
    · have := h3 (k + 1) (by simpa using hk)
      simpa using this
theorem okL_at : ∀ (cs : List Dop) (p n : Int), okL p cs n → ∀ k, k < cs.length → p ≤ lstC p (cs.take k) ∧ lstC p (cs.take k) ≤ (cs.getD k opZ).k ∧ (cs.getD k opZ).k ≤ (cs.getD k opZ).n ∧ (cs.getD k opZ).n ≤ n
  | [], _, _, _, k, hk => absurd hk (by simp)
  | c :: r, p, n, ⟨h1, h2, h3, _⟩, 0, _ => by simp [lstC]; omega
  | c :: r, p, n, ⟨h1, h2, h3, h4⟩, k + 1, hk => by
    have := okL_at r c.n n h4 k (by simpa using hk)
    simp [lstC] at this ⊢
    omega
theorem okL_end : ∀ (cs : List Dop) (p n : Int), okL p cs n → p ≤ lstC p cs ∧ lstC p cs ≤ n
  | [], _, _, h => ⟨Int.le_refl _, h⟩
  | c :: r, p, n, ⟨h1, h2, h3, h4⟩ => by
    have := okL_end r c.n n h4
    simp only [lstC]
    omega
theorem okC_of {cs : List Dop} {n : Int} (hn : 0 ≤ n ∧ n ≤ 268435456) (h : okL 0 cs n) : OkC n cs :=
  ⟨hn, fun k hk => okL_at cs 0 n h k hk, okL_end cs 0 n h⟩
/-- by how much longer the text gets -/
def dlC : List Dop → Int
  | [] => 0
  | c :: r => ((c.t.length : Int) - (c.n - c.k)) + dlC r
theorem dlC_take : ∀ (cs : List Dop) (k : Nat), k < cs.length → dlC (cs.take (k + 1)) = dlC (cs.take k) + (((cs.getD k opZ).t.length : Int) - ((cs.getD k opZ).n - (cs.getD k opZ).k))
  | [], k, hk => absurd hk (by simp)
  | c :: r, 0, _ => by simp [dlC]
  | c :: r, k + 1, hk => by
    have := dlC_take r k (by simpa using hk)
    simp only [List.take_succ_cons, dlC, this]
    simp
    omega
theorem frD_cons (o : Dop) (d : List Dop) : frD (o :: d) = frN o + frD d := by simp [frD]
theorem toD_cons (o : Dop) (d : List Dop) : toD (o :: d) = toN o + toD d := by simp [toD]
theorem frD_app (d e : List Dop) : frD (d ++ e) = frD d + frD e := by simp [frD]
theorem toD_app (d e : List Dop) : toD (d ++ e) = toD d + toD e := by simp [toD]
theorem opC_sizes : ∀ (cs : List Dop) (p n : Int), okL p cs n → (frD (opC p cs) : Int) = lstC p cs - p ∧ (toD (opC p cs) : Int) = lstC p cs - p + dlC cs
  | [], p, _, _ => by simp [opC, lstC, dlC, frD, toD]
  | c :: r, p, n, ⟨h1, h2, h3, h4⟩ => by
    obtain ⟨i1, i2⟩ := opC_sizes r c.n n h4
    simp only [opC, frD_cons, toD_cons, lstC, dlC]
    simp [frN, toN]
    omega
theorem opsC_sizes {cs : List Dop} {n : Int} (h : okL 0 cs n) : (frD (opsC n cs) : Int) = n ∧ (toD (opsC n cs) : Int) = n + dlC cs := by
  obtain ⟨i1, i2⟩ := opC_sizes cs 0 n h
  have := okL_end cs 0 n h
  simp only [opsC, frD_app, toD_app]
  have e1 : frD [(⟨1, n - lstC 0 cs, []⟩ : Dop)] = (n - lstC 0 cs).toNat := by simp [frD, frN]
  have e2 : toD [(⟨1, n - lstC 0 cs, []⟩ : Dop)] = (n - lstC 0 cs).toNat := by simp [toD, toN]
  rw [e1, e2]
  omega
theorem opC_ok : ∀ (cs : List Dop) (p n : Int), okL p cs n → ∀ o ∈ opC p cs, (o.k = 1 ∨ o.k = 2 ∨ o.k = 3) ∧ 0 ≤ o.n
  | [], _, _, _, o, ho => by simp [opC] at ho
  | c :: r, p, n, ⟨h1, h2, h3, h4⟩, o, ho => by
    simp only [opC, List.mem_cons] at ho
    rcases ho with rfl | rfl | rfl | ho
    · exact ⟨.inl rfl, by dsimp only; omega⟩
    · exact ⟨.inr (.inl rfl), by dsimp only; omega⟩
    · exact ⟨.inr (.inr rfl), by dsimp only; omega⟩
    · exact opC_ok r c.n n h4 o ho
theorem opsC_ok {cs : List Dop} {n : Int} (h : okL 0 cs n) : ∀ o ∈ opsC n cs, (o.k = 1 ∨ o.k = 2 ∨ o.k = 3) ∧ 0 ≤ o.n := by
  intro o ho
  rcases List.mem_append.1 ho with ho | ho
  · exact opC_ok cs 0 n h o ho
  · simp at ho; subst ho; have := okL_end cs 0 n h; exact ⟨.inl rfl, by dsimp only; omega⟩
/-- the sizes of changes -/
theorem eachC_z (a : Option Addr) (c B g : Nat) (n : Int) (cs : List Dop) (X : World) (hd : ∀ Y, Below B X Y → IsO Y a cs) (hX : IsZ X g 0 0) (hB : B ≤ g) (hB2 : B ≤ X.heap.size) (hl : cs.length ≤ 4398046511104) (hn : 0 ≤ n ∧ n ≤ 268435456) (hok : okL 0 cs n) :
    Calls Tryd.prog 63 #[.int .i64 n, .slice a cs.length c, .func (.func 64) #[.pointer (some ⟨g, 0, none⟩)] #[], .func (.func 65) #[.pointer (some ⟨g, 0, none⟩)] #[], .func (.func 66) #[.pointer (some ⟨g, 0, none⟩)] #[]] X
      fun y X' => y = .returned (.tuple #[]) ∧ IsZ X' g (satD (frD (opsC n cs))) (satD (toD (opsC n cs))) ∧ Below B X X' := by
  have hO := opsC_ok hok
  have hlen := opsC_len n cs
  generalize hd0 : opsC n cs = d at *
  have stepK : ∀ k Y, k < d.length → (d.getD k opZ).k = 1 → (IsZ Y g (satD (frD (d.take k))) (satD (toD (d.take k))) ∧ Below B X Y) → Calls Tryd.prog 64 #[.pointer (some ⟨g, 0, none⟩), .int .i64 (d.getD k opZ).n] Y fun y Z => y = .returned (.tuple #[]) ∧ (IsZ Z g (satD (frD (d.take (k + 1)))) (satD (toD (d.take (k + 1)))) ∧ Below B X Z) ∧ ∀ i, i ≠ g → Z.heap[i]? = Y.heap[i]? := fun k Y hk h1 hY => by
    obtain ⟨m, hm⟩ : ∃ m : Nat, (d.getD k opZ).n = (m : Int) := ⟨(d.getD k opZ).n.toNat, by have := (hO _ (getD_memD hk)).2; omega⟩
    rw [hm]
    refine (zkeepF_at g _ _ m Y hY.1 (satD_le _) (satD_le _)).mono fun y Z ⟨e, hz, hb, hi⟩ => ⟨e, ⟨?_, hY.2.trans (hb.mono hB)⟩, hi⟩
    rw [satD_add, satD_add] at hz
    rw [frD_take d hk, toD_take d hk, show frN (d.getD k opZ) = m by unfold frN; rw [if_pos (.inl h1), hm]; simp, show toN (d.getD k opZ) = m by unfold toN; rw [if_pos h1, hm]; simp]
    exact hz
  have ne : ∀ (Y : World) (q : Nat) (t : Array Value) (f s : Nat), IsZ Y g f s → Cls Y q 71 t → q ≠ g := fun Y q t f s h1 h2 => typeD_ne h2 h1 (by decide)
  have := eachC_at a c B n cs X 64 65 66 (.pointer (some ⟨g, 0, none⟩))
    (fun k Y => IsZ Y g (satD (frD (d.take k))) (satD (toD (d.take k))) ∧ Below B X Y)
    (fun k q t Y => (IsZ Y g (satD (frD (d.take k))) (satD (toD (d.take k))) ∧ Below B X Y) ∧ Cls Y q 71 t)
    (enters_of Tryd.func64 (by kernel_rfl) rfl) (enters_of Tryd.func65 (by kernel_rfl) rfl) (enters_of Tryd.func66 (by kernel_rfl) rfl)
    hd (fun k Y hY => hY.2) (fun k Y q hY => ⟨⟨Cls.alloc hY.1 _, hY.2.alloc (Nat.le_trans hB2 hY.2.size) _⟩, Cls.new _ _ _⟩) (fun k g q Y hY => ⟨hY.2, hY.1⟩) ⟨hX, Below.refl _ _⟩ hl (okC_of hn hok)
    (fun k q t Y hk h1 hY => by
      rw [hd0] at hk h1 ⊢
      exact (stepK k Y hk h1 hY.1).mono fun y Z ⟨e, hz, hi⟩ => ⟨e, hz, hY.2.same (hi q (ne Y q t _ _ hY.1.1 hY.2))⟩)
    (fun k q t Y hk h1 hY => by
      rw [hd0] at hk h1 ⊢
      refine (zputF_at g _ _ (d.getD k opZ).t.length (strOfNums (d.getD k opZ).t) Y hY.1.1 (satD_le _) (strOfNums_size _)).mono fun y Z ⟨e, hz, hb, hi⟩ => ⟨e, ⟨?_, hY.1.2.trans (hb.mono hB)⟩, hY.2.same (hi q (ne Y q t _ _ hY.1.1 hY.2))⟩
      rw [satD_add] at hz
      rw [frD_take d hk, toD_take d hk, show frN (d.getD k opZ) = 0 by unfold frN; rw [h1]; rfl, show toN (d.getD k opZ) = (d.getD k opZ).t.length by unfold toN; rw [h1]; rfl]
      exact hz)
    (fun k q t Y hk h1 hY => by
      rw [hd0] at hk h1 ⊢
      obtain ⟨m, hm⟩ : ∃ m : Nat, (d.getD k opZ).n = (m : Int) := ⟨(d.getD k opZ).n.toNat, by have := (hO _ (getD_memD hk)).2; omega⟩
      rw [hm]
      refine (zdropF_at g _ _ m Y hY.1.1 (satD_le _)).mono fun y Z ⟨e, hz, hb, hi⟩ => ⟨e, ⟨?_, hY.1.2.trans (hb.mono hB)⟩, hY.2.same (hi q (ne Y q t _ _ hY.1.1 hY.2))⟩
      rw [satD_add] at hz
      rw [frD_take d hk, toD_take d hk, show frN (d.getD k opZ) = m by unfold frN; rw [if_pos (.inr h1), hm]; simp, show toN (d.getD k opZ) = 0 by unfold toN; rw [h1]; rfl]
      exact hz)
    (fun k Y hk h1 hY => by
      rw [hd0] at hk h1 ⊢
      exact (stepK k Y hk h1 hY).mono fun y Z ⟨e, hz, _⟩ => ⟨e, hz⟩)
  rw [← hlen, List.take_length] at this
  exact this
/-- what lies elsewhere, told to a builder -/
def rQ (q : Nat) (t : Array Value) : Nat → Option Value := fun j => if j = 0 then some (.agg t) else if j = 1 then some (.int .i64 (q : Int)) else none
theorem rQ_far (q : Nat) (t : Array Value) {j : Nat} (h : 4 ≤ j) : rQ q t j = none := by unfold rQ; rw [if_neg (by omega), if_neg (by omega)]
theorem IsBd.re {X : World} {B g : Nat} {r r' : Nat → Option Value} {b : Bld} {ts : List (List Int)} (h : IsBd X B g 0 r b ts) (hf : FrB r' 0 X) (hr : ∀ j, 4 ≤ j → r' j = r j) : IsBd X B g 0 r' b ts := by
  obtain ⟨vo, vt, ⟨ca, t, k1, k2, k3, k4, k5, k6, k7⟩, h2, h3⟩ := h.c
  exact ⟨⟨vo, vt, ⟨ca, t, k1, k2, k3, k4, k5, k6, fun j hj => by rw [k7 j hj, hr j (by omega)]⟩, h2, h3⟩, h.t, h.z, hf⟩
theorem fr_rQ {q : Nat} {t : Array Value} {X : World} (h : Cls X q 71 t) : FrB (rQ q t) 0 X := fun cs k e1 e2 => by
  simp [rQ] at e1 e2
  subst e1
  obtain rfl : q = k := by omega
  exact h
/-- a builder of changes -/
theorem eachC_b (a : Option Addr) (c B g : Nat) (n : Int) (cs : List Dop) (X : World) (hd : ∀ Y, Below B X Y → IsO Y a cs) (hX : IsBd X B g 0 (fun _ => none) b0 []) (hB : B ≤ X.heap.size) (hl : cs.length ≤ 4398046511104) (hn : 0 ≤ n ∧ n ≤ 268435456) (hok : okL 0 cs n) (hz : frD (opsC n cs) + toD (opsC n cs) ≤ 1073741824) :
    Calls Tryd.prog 63 #[.int .i64 n, .slice a cs.length c, .func (.func 68) #[.pointer (some ⟨g, 0, none⟩)] #[], .func (.func 69) #[.pointer (some ⟨g, 0, none⟩)] #[], .func (.func 70) #[.pointer (some ⟨g, 0, none⟩)] #[]] X
      fun y X' => y = .returned (.tuple #[]) ∧ (∃ ts, IsBd X' B g 0 (fun _ => none) (feedA b0 (dA (opsC n cs))) ts) ∧ Below B X X' := by
  have hO := opsC_ok hok
  have hlen := opsC_len n cs
  generalize hd0 : opsC n cs = d at *
  have hb : ∀ k, (dA (d.take k)).length ≤ 1073741824 := fun k => by have := dA_take d k; have := dA_len (fun o ho => (hO o ho).1); omega
  have fr : ∀ k, k < d.length → (d.getD k opZ).k ≠ 2 → (d.getD k opZ).n.toNat ≤ 1073741824 := fun k hk h1 => by
    have e1 := frD_take d hk
    have e2 : frN (d.getD k opZ) = (d.getD k opZ).n.toNat := by
      have := (hO _ (getD_memD hk)).1
      unfold frN; rw [if_pos (by omega)]
    have e3 := (frD_le d (k + 1)).1
    omega
  have stepK : ∀ (r : Nat → Option Value) k Y, k < d.length → (d.getD k opZ).k = 1 → ((∃ ts, IsBd Y B g 0 r (feedA b0 (dA (d.take k))) ts) ∧ Below B X Y) → Calls Tryd.prog 68 #[.pointer (some ⟨g, 0, none⟩), .int .i64 (d.getD k opZ).n] Y fun y Z => y = .returned (.tuple #[]) ∧ (∃ ts, IsBd Z B g 0 r (feedA b0 (dA (d.take (k + 1)))) ts) ∧ Below B X Z := fun r k Y hk h1 ⟨⟨ts, hY⟩, hb2⟩ => by
    obtain ⟨m, hm⟩ : ∃ m : Nat, (d.getD k opZ).n = (m : Int) := ⟨(d.getD k opZ).n.toNat, by have := (hO _ (getD_memD hk)).2; omega⟩
    have hf := fr k hk (by omega)
    have e : feedA b0 (dA (d.take (k + 1))) = (feedA b0 (dA (d.take k))).keep m := by rw [← feedD_A, ← feedD_A, feedD_take d hk, op_keep h1, hm]; simp
    rw [hm, e]
    exact (bkeep_at B g 0 r _ ts m Y hY (bd_ok hY (hb k)) (by omega) (Nat.le_trans hB hb2.size)).mono fun y Z ⟨q, ⟨ts', h3, _⟩, h4⟩ => ⟨q, ⟨ts', h3⟩, hb2.trans h4⟩
  have := eachC_at a c B n cs X 68 69 70 (.pointer (some ⟨g, 0, none⟩))
    (fun k Y => (∃ ts, IsBd Y B g 0 (fun _ => none) (feedA b0 (dA (d.take k))) ts) ∧ Below B X Y)
    (fun k q t Y => (∃ ts, IsBd Y B g 0 (rQ q t) (feedA b0 (dA (d.take k))) ts) ∧ Below B X Y)
    (enters_of Tryd.func68 (by kernel_rfl) rfl) (enters_of Tryd.func69 (by kernel_rfl) rfl) (enters_of Tryd.func70 (by kernel_rfl) rfl)
    hd (fun k Y hY => hY.2)
    (fun k Y q ⟨⟨ts, h1⟩, h2⟩ => ⟨⟨ts, (h1.on ((Below.refl Y.heap.size Y).alloc (Nat.le_refl _) _) (Nat.le_refl _)).re (fr_rQ (Cls.new _ _ _)) (fun j hj => rQ_far _ _ hj)⟩, h2.alloc (Nat.le_trans hB h2.size) _⟩)
    (fun k q t Y ⟨⟨ts, h1⟩, h2⟩ => ⟨h1.f t q rfl rfl, ⟨ts, h1.re (fun cs k e1 _ => by cases e1) (fun j hj => (rQ_far _ _ hj).symm)⟩, h2⟩)
    ⟨⟨[], hX⟩, Below.refl _ _⟩ hl (okC_of hn hok)
    (fun k q t Y hk h1 hY => by
      rw [hd0] at hk h1 ⊢
      exact stepK (rQ q t) k Y hk h1 hY)
    (fun k q t Y hk h1 ⟨⟨ts, hY⟩, hb2⟩ => by
      rw [hd0] at hk h1 ⊢
      have e : feedA b0 (dA (d.take (k + 1))) = (feedA b0 (dA (d.take k))).put (d.getD k opZ).t := by rw [← feedD_A, ← feedD_A, feedD_take d hk, op_put h1]
      rw [e]
      exact (bput_at B g 0 (rQ q t) _ ts _ Y hY (bd_ok hY (hb k)).t (Nat.le_trans hB hb2.size)).mono fun y Z ⟨q, h3, h4⟩ => ⟨q, ⟨_, h3⟩, hb2.trans h4⟩)
    (fun k q t Y hk h1 ⟨⟨ts, hY⟩, hb2⟩ => by
      rw [hd0] at hk h1 ⊢
      obtain ⟨m, hm⟩ : ∃ m : Nat, (d.getD k opZ).n = (m : Int) := ⟨(d.getD k opZ).n.toNat, by have := (hO _ (getD_memD hk)).2; omega⟩
      have hf := fr k hk (by omega)
      have e : feedA b0 (dA (d.take (k + 1))) = (feedA b0 (dA (d.take k))).drop m := by rw [← feedD_A, ← feedD_A, feedD_take d hk, op_drop h1, hm]; simp
      rw [hm, e]
      exact (bdrop_at B g 0 (rQ q t) _ ts m Y hY (by have := (bd_ok hY (hb k)).d; omega)).mono fun y Z ⟨q, h3, h4⟩ => ⟨q, ⟨ts, h3⟩, hb2.trans h4⟩)
    (fun k Y hk h1 hY => by
      rw [hd0] at hk h1 ⊢
      exact stepK (fun _ => none) k Y hk h1 hY)
  rw [← hlen, List.take_length] at this
  exact this

end Go.Proofs.YtecfojkaoibldaaDoor
end

section
namespace Go.Proofs.YtecfojkaoibldaaDoor

section
set_option linter.unusedSectionVars false
variable {α : Type} [DecidableEq α]
def RunOk (x y : List α) : Nat → Nat → List (Nat × Nat × Nat) → Prop
  | i, j, [] => i = x.length ∧ j = y.length
  | i, j, (p, q, n) :: r => i ≤ p ∧ j ≤ q ∧ p + n ≤ x.length ∧ q + n ≤ y.length ∧ (x.drop p).take n = (y.drop q).take n ∧ RunOk x y (p + n) (q + n) r
omit [DecidableEq α] in
theorem drop_two (a b t : List α) : (a ++ b ++ t).drop (a.length + b.length) = t := by rw [← List.length_append, List.drop_left]
theorem run_mids : ∀ (n : Nat) (x y px py t : List α) (i0 j0 : Nat), x.length + y.length ≤ n → i0 ≤ px.length → j0 ≤ py.length →
    RunOk (px ++ x ++ t) (py ++ y ++ t) i0 j0 ((mids x y px.length py.length).map (fun p => (p.1, p.2, 1)) ++ [(px.length + x.length, py.length + y.length, t.length)])
  | n, [], y, px, py, t, i0, j0, h, h1, h2 => by
    rw [mids]
    refine ⟨by simpa using h1, by omega, by simp, by simp; omega, ?_, ?_⟩
    · rw [drop_two, drop_two]
    · exact ⟨by simp, by simp; omega⟩
  | n, a :: x, [], px, py, t, i0, j0, h, h1, h2 => by
    rw [mids]
    refine ⟨by omega, by simpa using h2, by simp; omega, by simp, ?_, ?_⟩
    · rw [drop_two, drop_two]
    · exact ⟨by simp; omega, by simp⟩
  | 0, _ :: _, _ :: _, _, _, _, _, _, h, _, _ => by simp at h
  | n + 1, a :: x, b :: y, px, py, t, i0, j0, h, h1, h2 => by
    simp only [List.length_cons] at h
    by_cases e : a = b
    · subst e
      rw [mids_same]
      have ih := run_mids n x y (px ++ [a]) (py ++ [a]) t (px.length + 1) (py.length + 1) (by omega) (by simp) (by simp)
      simp only [List.length_append, List.length_cons, List.length_nil, Nat.zero_add, List.append_assoc, List.cons_append, List.nil_append] at ih
      refine ⟨h1, h2, by simp, by simp, by simp, ?_⟩
      simp only [List.append_assoc, List.cons_append, List.length_cons]
      rw [show px.length + (x.length + 1) = px.length + 1 + x.length by omega, show py.length + (y.length + 1) = py.length + 1 + y.length by omega]
      exact ih
    · by_cases g : lcs (a :: x) y ≤ lcs x (b :: y)
      · rw [mids_up e g]
        have ih := run_mids n x (b :: y) (px ++ [a]) py t i0 j0 (by simp; omega) (by simp; omega) h2
        simp only [List.length_append, List.length_cons, List.length_nil, Nat.zero_add, List.append_assoc, List.cons_append, List.nil_append] at ih
        simp only [List.append_assoc, List.cons_append, List.length_cons]
        rw [show px.length + (x.length + 1) = px.length + 1 + x.length by omega]
        exact ih
      · rw [mids_on e g]
        have ih := run_mids n (a :: x) y px (py ++ [b]) t i0 j0 (by simp; omega) h1 (by simp; omega)
        simp only [List.length_append, List.length_cons, List.length_nil, Nat.zero_add, List.append_assoc, List.cons_append, List.nil_append] at ih
        simp only [List.append_assoc, List.cons_append, List.length_cons]
        rw [show py.length + (y.length + 1) = py.length + 1 + y.length by omega]
        exact ih
theorem runs_ok (x y : List α) : RunOk x y 0 0 (runsL x y) := by
  obtain ⟨h, x', y', t, h1, h2, _, _, h3⟩ := parts3 x y
  rw [h3]
  have := run_mids _ x' y' h h t h.length h.length (Nat.le_refl _) (Nat.le_refl _) (Nat.le_refl _)
  rw [← h1, ← h2] at this
  refine ⟨Nat.le_refl _, Nat.le_refl _, by rw [h1]; simp, by rw [h2]; simp, ?_, by simpa using this⟩
  rw [h1, h2]; simp
/-- runs that have something, all but the last -/
theorem runs_some (x y : List α) : ∃ h m l, runsL x y = (0, 0, h) :: (m ++ [l]) ∧ ∀ p ∈ m, p.2.2 = 1 := by
  obtain ⟨h, x', y', t, _, _, _, _, h3⟩ := parts3 x y
  refine ⟨h.length, _, _, by rw [h3]; rfl, fun p hp => ?_⟩
  obtain ⟨q, _, rfl⟩ := List.mem_map.1 hp
  rfl
theorem runs_len (x y : List α) : (runsL x y).length ≤ x.length + 2 := by
  obtain ⟨h, x', y', t, h1, _, _, _, h3⟩ := parts3 x y
  rw [h3]
  have := (lcs_len x' y').1
  simp only [List.length_append, List.length_cons, List.length_nil, List.length_map, mids_lcs]
  have : x'.length ≤ x.length := by rw [h1]; simp; omega
  omega
theorem run_at {x y : List α} : ∀ (L : List (Nat × Nat × Nat)) (i j k : Nat), RunOk x y i j L → k < L.length → (L.getD k (0, 0, 0)).1 + (L.getD k (0, 0, 0)).2.2 ≤ x.length ∧ (L.getD k (0, 0, 0)).2.1 + (L.getD k (0, 0, 0)).2.2 ≤ y.length
  | [], _, _, _, _, h => by simp at h
  | (p, q, n) :: r, i, j, 0, h, _ => ⟨h.2.2.1, h.2.2.2.1⟩
  | (p, q, n) :: r, i, j, k + 1, h, hk => by
    have := run_at r _ _ k h.2.2.2.2.2 (by simpa using hk)
    simpa using this
end

/-- what the program's loop over the runs makes: where it stands in both, and the changes -/
def chR (xc yc : List Nat) (b : List Int) (s : Nat × Nat × List Dop) (r : Nat × Nat × Nat) : Nat × Nat × List Dop :=
  (r.1 + r.2.2, r.2.1 + r.2.2, s.2.2 ++ if s.1 < r.1 ∨ s.2.1 < r.2.1 then [⟨(xc.getD s.1 0 : Int), (xc.getD r.1 0 : Int), (b.drop (yc.getD s.2.1 0)).take (yc.getD r.2.1 0 - yc.getD s.2.1 0)⟩] else [])
def chsR (xc yc : List Nat) (b : List Int) (L : List (Nat × Nat × Nat)) : Nat × Nat × List Dop := L.foldl (chR xc yc b) (0, 0, [])
theorem chsR_take (xc yc : List Nat) (b : List Int) (L : List (Nat × Nat × Nat)) {k : Nat} (hk : k < L.length) : chsR xc yc b (L.take (k + 1)) = chR xc yc b (chsR xc yc b (L.take k)) (L.getD k (0, 0, 0)) := by
  unfold chsR
  rw [List.take_add_one, List.foldl_append, List.getElem?_eq_getElem hk]
  simp [List.getD, List.getElem?_eq_getElem hk]
theorem chsR_len (xc yc : List Nat) (b : List Int) (L : List (Nat × Nat × Nat)) : ∀ k, k ≤ L.length → (chsR xc yc b (L.take k)).2.2.length ≤ k
  | 0, _ => by simp [chsR]
  | k + 1, h => by
    rw [chsR_take _ _ _ _ (by omega)]
    have := chsR_len xc yc b L k (by omega)
    unfold chR
    simp only [List.length_append]
    split <;> simp <;> omega
/-- where the loop stands behind k runs -/
theorem chsR_at {α : Type} [DecidableEq α] {x y : List α} (xc yc : List Nat) (b : List Int) : ∀ (L : List (Nat × Nat × Nat)) (i j : Nat) (A : List Dop), RunOk x y i j L → ∀ k, k ≤ L.length →
    RunOk x y ((L.take k).foldl (chR xc yc b) (i, j, A)).1 ((L.take k).foldl (chR xc yc b) (i, j, A)).2.1 (L.drop k)
  | L, i, j, A, h, 0, _ => by simpa using h
  | [], i, j, A, h, k + 1, hk => by simp at hk
  | (p, q, n) :: r, i, j, A, h, k + 1, hk => by
    have := chsR_at (x := x) (y := y) xc yc b r (p + n) (q + n) (chR xc yc b (i, j, A) (p, q, n)).2.2 h.2.2.2.2.2 k (by simpa using hk)
    simpa [chR] using this
end Go.Proofs.YtecfojkaoibldaaDoor
end

section
namespace Go.Proofs.YtecfojkaoibldaaDoor
open Go.ChangeShapes Go.WideShapes Go.ChangeAt Go.RowKit
attribute [local go_sem] Oper.semAt_some

def oneR (p : Nat × Nat) : Nat × Nat × Nat := (p.1, p.2, 1)
/-- what is still to come of the walk over both -/
def Ahd (x y : List Nat) (h i j : Nat) (R D : List (Nat × Nat × Nat)) : Prop := R ++ (mids (x.drop i) (y.drop j) (h + i) (h + j)).map oneR = D
theorem ahd_len {x y : List Nat} {h i j : Nat} {R D : List (Nat × Nat × Nat)} (a : Ahd x y h i j R D) : R.length ≤ D.length := by
  rw [← a]; simp
theorem ahd_same {x y : List Nat} {h i j : Nat} {R D : List (Nat × Nat × Nat)} (a : Ahd x y h i j R D) (hi : i < x.length) (hj : j < y.length) (e : x.getD i 0 = y.getD j 0) : Ahd x y h (i + 1) (j + 1) (R ++ [(h + i, h + j, 1)]) D := by
  unfold Ahd at a ⊢
  rw [drop_at x hi, drop_at y hj, e, mids_same] at a
  rw [← a]
  simp [oneR, Nat.add_assoc]
theorem ahd_up {x y : List Nat} {h i j : Nat} {R D : List (Nat × Nat × Nat)} (a : Ahd x y h i j R D) (hi : i < x.length) (hj : j < y.length) (e : ¬ x.getD i 0 = y.getD j 0) (g : lcs (x.drop i) (y.drop (j + 1)) ≤ lcs (x.drop (i + 1)) (y.drop j)) : Ahd x y h (i + 1) j R D := by
  unfold Ahd at a ⊢
  rw [drop_at x hi, drop_at y hj] at a g
  rw [mids_up e g, ← drop_at y hj] at a
  rw [← a, Nat.add_assoc]
theorem ahd_on {x y : List Nat} {h i j : Nat} {R D : List (Nat × Nat × Nat)} (a : Ahd x y h i j R D) (hi : i < x.length) (hj : j < y.length) (e : ¬ x.getD i 0 = y.getD j 0) (g : ¬ lcs (x.drop i) (y.drop (j + 1)) ≤ lcs (x.drop (i + 1)) (y.drop j)) : Ahd x y h i (j + 1) R D := by
  unfold Ahd at a ⊢
  rw [drop_at x hi, drop_at y hj] at a g
  rw [mids_on e g, ← drop_at x hi] at a
  rw [← a, Nat.add_assoc]
theorem le_dec {p q : Nat} (h : q ≤ p) : decide ((p : Int) ≥ (q : Int)) = true ∧ decide ((q : Int) ≤ (p : Int)) = true ∧ (q : Int) ≤ (p : Int) := ⟨decide_eq_true (by omega), decide_eq_true (by omega), by omega⟩
theorem nle_dec {p q : Nat} (h : ¬ q ≤ p) : decide ((p : Int) ≥ (q : Int)) = false ∧ decide ((q : Int) ≤ (p : Int)) = false ∧ ¬ (q : Int) ≤ (p : Int) := ⟨decide_eq_false (by omega), decide_eq_false (by omega), by omega⟩
theorem ahd_end {x y : List Nat} {h i j : Nat} {R D : List (Nat × Nat × Nat)} (a : Ahd x y h i j R D) (g : ¬ i < x.length ∨ ¬ j < y.length) : R = D := by
  unfold Ahd at a
  rcases g with g | g
  · rw [List.drop_eq_nil_of_le (by omega)] at a; simpa [mids] using a
  · rw [show y.drop j = [] from List.drop_eq_nil_of_le (by omega), mids_nil] at a; simpa using a
set_option maxRecDepth 100000 in
set_option maxHeartbeats 8000000 in
theorem common_at (a : Option Addr) (c : Nat) (x0 : List Nat) (a' : Option Addr) (c' : Nat) (y0 : List Nat) (w : World) (h : IsI w a x0) (h' : IsI w a' y0) (hc : x0.length ≤ c) (hc' : y0.length ≤ c') (hx : x0.length ≤ 2048) (hy : y0.length ≤ 2048) :
    Calls Tryd.prog 28 #[.slice a x0.length c, .slice a' y0.length c'] w fun e w' => ∃ v k, e = .returned v ∧ RA w' 3 v (runsL x0 y0).length (runsV (runsL x0 y0)) k ∧ Below w.heap.size w w' := by
  have ek : ∀ (args : Array Value) (X : World), (callFunc 61 args).run Tryd.prog X = .ok (.enter 61 args) X := enters_of Tryd.func61 (by kernel_rfl) rfl
  have HX := hide fun (X : World) (hx : Below w.heap.size w X) => h.below hx (Nat.le_refl _)
  have HY := hide fun (X : World) (hx : Below w.heap.size w X) => h'.below hx (Nat.le_refl _)
  have HC1 := hide (sameHead_at a c x0 a' c' y0 w h h' (by omega) (by omega))
  clear h h'
  have hsl := sameH_le x0 y0
  have HD : Hid (∀ (x y : List Nat) (t : Nat), sameH (x0.drop (sameH x0 y0)).reverse (y0.drop (sameH x0 y0)).reverse = t → x = (x0.drop (sameH x0 y0)).take ((x0.drop (sameH x0 y0)).length - t) → y = (y0.drop (sameH x0 y0)).take ((y0.drop (sameH x0 y0)).length - t) →
      runsL x0 y0 = [(0, 0, sameH x0 y0)] ++ (mids x y (sameH x0 y0) (sameH x0 y0)).map oneR ++ [(sameH x0 y0 + x.length, sameH x0 y0 + y.length, t)]) := hide fun x y t h1 h2 h3 => by
    unfold runsL oneR
    simp only [h1, ← h2, ← h3]
  generalize sameH x0 y0 = hd at *
  go_enter Tryd.func28, Tryd.ntmps28
  go_wp2_with fail
  refine (unhide HC1).mono ?_
  rintro e1 w1 ⟨rfl, hb1⟩
  dsimp only
  clear HC1
  have HB1 := hide hb1
  clear hb1
  have f1 : (hd : Int) ≤ (x0.length : Int) := by omega
  have f2 : (hd : Int) ≤ (y0.length : Int) := by omega
  obtain ⟨A1, hA1⟩ : ∃ A, (if c = hd then a else a.map (·.add hd)) = A := ⟨_, rfl⟩
  obtain ⟨A2, hA2⟩ : ∃ A, (if c' = hd then a' else a'.map (·.add hd)) = A := ⟨_, rfl⟩
  obtain ⟨x1, hx1⟩ : ∃ x1, x1 = x0.drop hd := ⟨_, rfl⟩
  obtain ⟨y1, hy1⟩ : ∃ y1, y1 = y0.drop hd := ⟨_, rfl⟩
  have l1 : x0.length - hd = x1.length := by rw [hx1, List.length_drop]
  have l2 : y0.length - hd = y1.length := by rw [hy1, List.length_drop]
  have HX1 : Hid (∀ X, Below w.heap.size w X → IsI X A1 x1) := hide fun X hX => by rw [← hA1, hx1]; exact (unhide HX X hX).lo hc hd
  have HY1 : Hid (∀ X, Below w.heap.size w X → IsI X A2 y1) := hide fun X hX => by rw [← hA2, hy1]; exact (unhide HY X hX).lo hc' hd
  have HL := hide (And.intro l1 l2)
  clear HX HY l1 l2
  go_wp2_with fail
  go_quiet (fail)
  clear hA1 hA2
  rw [(unhide HL).1, (unhide HL).2]
  have HB2 := hide (bdrN (unhide HB1) nq)
  have HC2 := hide (sameTail_at A1 (c - hd) x1 A2 (c' - hd) y1 (w1.drewN nq) (unhide HX1 _ (unhide HB2)) (unhide HY1 _ (unhide HB2)) (by have := (unhide HL).1; omega) (by have := (unhide HL).2; omega))
  have hst := sameH_le x1.reverse y1.reverse
  rw [List.length_reverse, List.length_reverse] at hst
  have HD1 : Hid (∀ x y : List Nat, x = x1.take (x1.length - sameH x1.reverse y1.reverse) → y = y1.take (y1.length - sameH x1.reverse y1.reverse) →
      runsL x0 y0 = [(0, 0, hd)] ++ (mids x y hd hd).map oneR ++ [(hd + x.length, hd + y.length, sameH x1.reverse y1.reverse)]) := hide fun x y h1 h2 => by
    subst hx1 hy1
    exact unhide HD x y _ rfl h1 h2
  have HCP : Hid (x1.length ≤ c - hd ∧ y1.length ≤ c' - hd ∧ x1.length ≤ 2048 ∧ y1.length ≤ 2048 ∧ hd ≤ 2048) := hide (by have := unhide HL; omega)
  clear HB1 HD hx1 hy1 hx hy hc hc' f1 f2 hsl
  generalize sameH x1.reverse y1.reverse = t at *
  generalize w1.drewN nq = w2 at *
  generalize c - hd = cx at *
  generalize c' - hd = cy at *
  go_wp2_with fail
  refine (unhide HC2).mono ?_
  rintro e2 w3 ⟨rfl, hb3⟩
  dsimp only
  have HB3 := hide ((unhide HB2).trans (hb3.mono (unhide HB2).size))
  clear HC2 hb3 HB2
  obtain ⟨n1, n2, n3, n4, n5⟩ := unhide HCP
  obtain ⟨m1, hm1⟩ : ∃ m1, m1 = x1.length - t := ⟨_, rfl⟩
  obtain ⟨m2, hm2⟩ : ∃ m2, m2 = y1.length - t := ⟨_, rfl⟩
  have e1 : IntKind.i64.wrap ((x1.length : Int) - (t : Int)) = (m1 : Int) := by rw [IntKind.wrap_i64]; omega
  have e2 : IntKind.i64.wrap ((y1.length : Int) - (t : Int)) = (m2 : Int) := by rw [IntKind.wrap_i64]; omega
  have g1 : (m1 : Int) ≤ (cx : Int) := by clear e1 e2; omega
  have g2 : (m2 : Int) ≤ (cy : Int) := by clear e1 e2; omega
  have g3 : m1 ≤ cx := by clear e1 e2; omega
  have g4 : m2 ≤ cy := by clear e1 e2; omega
  have HM := hide (And.intro hm1 hm2)
  have HT := hide hst
  clear hm1 hm2 hst
  go_wp2_with fail
  go_quiet (fail)
  clear e1 e2 g1 g2 n1 n2 n3 n4 n5
  obtain ⟨x2, hx2⟩ : ∃ x2, x2 = x1.take m1 := ⟨_, rfl⟩
  obtain ⟨y2, hy2⟩ : ∃ y2, y2 = y1.take m2 := ⟨_, rfl⟩
  have l1 : m1 = x2.length := by rw [hx2, List.length_take]; have := (unhide HM).1; omega
  have l2 : m2 = y2.length := by rw [hy2, List.length_take]; have := (unhide HM).2; omega
  have HX2 : Hid (∀ X, Below w.heap.size w X → IsI X A1 x2) := hide fun X hX => by rw [hx2]; exact (unhide HX1 X hX).take m1
  have HY2 : Hid (∀ X, Below w.heap.size w X → IsI X A2 y2) := hide fun X hX => by rw [hy2]; exact (unhide HY1 X hX).take m2
  have HD2 := hide (unhide HD1 x2 y2 (by rw [hx2, (unhide HM).1]) (by rw [hy2, (unhide HM).2]))
  have b1 : x2.length ≤ 2048 ∧ y2.length ≤ 2048 ∧ hd ≤ 2048 ∧ t ≤ 2048 := by
    have := (unhide HCP); have := unhide HT; have := (unhide HM).1; have := (unhide HM).2; omega
  subst l1 l2
  have HB4 := hide (bdrN (unhide HB3) nq)
  have HLEN := hide fun (X : World) (hX : Below w.heap.size w X) => lengths_at A1 cx x2 A2 cy y2 X (unhide HX2 X hX) (unhide HY2 X hX) b1.1 b1.2.1
  clear HX1 HY1 HD1 HM HT HCP HB3 HL g3 g4 hx2 hy2
  generalize w3.drewN nq = w4 at *
  have HB5 := hide ((unhide HB4).alloc (unhide HB4).size (.cells #[.int .i64 0, .int .i64 0, .int .i64 (hd : Int)] 60))
  have HR0 := hide (RA.one w4 0 0 hd)
  have HL5 := hide (unhide HLEN _ (unhide HB5))
  go_wp2_with fail
  refine (unhide HL5).mono ?_
  rintro e3 w6 ⟨v8, rfl, hv8, hb6⟩
  dsimp only
  obtain ⟨gS, gA, g, Q, ac, rfl, hac, hQ, hl6⟩ := hv8
  have HB6 := hide ((unhide HB5).trans (hb6.mono (unhide HB5).size))
  have K0 : CmI w w6 gS gA g Q ac x2 y2 (.slice (some ⟨w4.heap.size, 0, none⟩) 1 1) [(0, 0, hd)] := by
    refine ⟨⟨some w4.heap.size, ?_, fun G hG => ?_⟩, hl6.re (unhide HB6) (by have := (unhide HB5).size; exact this)⟩
    · refine (unhide HR0).same hb6.size fun G e hlt => hb6.block G hlt
    · cases hG
      have := hl6.n
      rw [World.size_alloc] at this
      have := (unhide HB4).size
      omega
  have H0 := hide K0
  have HQ := hide (And.intro hac hQ)
  clear K0 hac hQ hl6 hb6 HB6 HB5 HR0 HL5 HLEN HB4
  go_wp2_with fail
  clear ek
  have ek : ∀ (args : Array Value) (X : World), (callFunc 61 args).run Tryd.prog X = .ok (.enter 61 args) X := enters_of Tryd.func61 (by kernel_rfl) rfl
  generalize w4.heap.size = g0 at *
  obtain ⟨D0, hD0⟩ : ∃ D0, D0 = [(0, 0, hd)] ++ (mids x2 y2 hd hd).map oneR := ⟨_, rfl⟩
  have HA0 : Hid (Ahd x2 y2 hd 0 0 [(0, 0, hd)] D0) := hide (by rw [hD0]; simp [Ahd])
  rw [← hD0] at HD2
  clear hD0
  go_loopw [7, 9, 10, 53, 77] (fun v7 v9 v10 v53 v77 wx => (∃ z, v53 = z) ∧ (∃ z, v77 = z) ∧ ∃ (i j : Nat) (R : List (Nat × Nat × Nat)), v9 = .int .i64 (i : Int) ∧ v10 = .int .i64 (j : Int) ∧ i ≤ x2.length ∧ j ≤ y2.length ∧ Hid (CmI w wx gS gA g Q ac x2 y2 v7 R ∧ Ahd x2 y2 hd i j R D0 ∧ R.length ≤ i + 1))
    (fun _ v9 v10 _ _ _ => (x2.length - (intOf v9).toNat) + (y2.length - (intOf v10).toNat))
  case atStart => exact ⟨⟨_, rfl⟩, ⟨_, rfl⟩, 0, 0, _, rfl, rfl, Nat.zero_le _, Nat.zero_le _, hide ⟨unhide H0, unhide HA0, by simp⟩⟩
  case round =>
    clear H0 HA0
    obtain ⟨⟨z1, rfl⟩, ⟨z2, rfl⟩, i, j, R, rfl, rfl, hi, hj, HI⟩ := hrel
    have HE0 : Hid ((¬ i < x2.length ∨ ¬ j < y2.length) → ∃ v' Y, (Builtin.append_ #[57, 57] 57 #[u7, .slice (some ⟨wr.heap.size, 0, none⟩) 1 1]).run Tryd.prog (wr.alloc (.cells #[.int .i64 ((hd : Int) + (x2.length : Int)), .int .i64 ((hd : Int) + (y2.length : Int)), .int .i64 (t : Int)] 60)) = .ok v' Y ∧ CmI w Y gS gA g Q ac x2 y2 v' (D0 ++ [(hd + x2.length, hd + y2.length, t)])) := hide fun g1 => by
      obtain ⟨v', Y, hr, hc⟩ := (unhide HI).1.push (hd + x2.length, hd + y2.length, t) 57 (by have := (unhide HI).2.2; omega)
      rw [ahd_end (unhide HI).2.1 g1] at hc
      exact ⟨v', Y, by rw [← Int.natCast_add, ← Int.natCast_add]; exact hr, hc⟩
    by_cases h1 : i < x2.length
    · have t1 : decide ((i : Int) < (x2.length : Int)) = true := decide_eq_true (by omega)
      by_cases h2 : j < y2.length
      · have t2 : decide ((j : Int) < (y2.length : Int)) = true := decide_eq_true (by omega)
        clear HE0 HD2
        obtain ⟨hac, hQ⟩ := unhide HQ
        have hbw := (unhide HI).1.l.b
        obtain ⟨gx, off, rfl, hgx, cx'⟩ := (unhide HX2 wr hbw).at h1
        obtain ⟨gy, off', rfl, hgy, cy'⟩ := (unhide HY2 wr hbw).at h2
        have c1 := cx' i h1
        have c2 := cy' j h2
        have f1 : (i : Int) < (x2.length : Int) := by omega
        have f2 : (j : Int) < (y2.length : Int) := by omega
        have f3 : (0 : Int) ≤ (i : Int) := by omega
        have f4 : (0 : Int) ≤ (j : Int) := by omega
        have HPU := hide fun n => ((unhide HI).1.dN n).push (hd + i, hd + j, 1) 57 (by have := (unhide HI).2.2; omega)
        have HDN := hide fun n => (unhide HI).1.dN n
        have HLN := hide fun (n : Nat) => ((unhide HI).1.dN n).l.ask hac hQ b1.1 b1.2.1 (i := i + 1) (j := j) h1 (by omega) (.inl (Nat.zero_le _))
        have HLM := hide fun (n : Nat) => ((unhide HI).1.dN n).l.ask hac hQ b1.1 b1.2.1 (i := i) (j := j + 1) (by omega) h2 (.inl (Nat.zero_le _))
        have HRL := hide (unhide HI).2.2
        have HS := hide fun e => ahd_same (unhide HI).2.1 h1 h2 e
        have HU := hide fun e g => ahd_up (unhide HI).2.1 h1 h2 e g
        have HO := hide fun e g => ahd_on (unhide HI).2.1 h1 h2 e g
        clear cx' cy' hbw hac hQ HI
        generalize lcs (x2.drop (i + 1)) (y2.drop j) = p at *
        generalize lcs (x2.drop i) (y2.drop (j + 1)) = q at *
        generalize x2.getD i 0 = X1 at *
        generalize y2.getD j 0 = Y1 at *
        by_cases e : X1 = Y1
        · have t3 : ((X1 : Int) == (Y1 : Int)) = true := by simp [e]
          have HS2 := hide (unhide HS e)
          clear HS HU HO HLN HLM HDN
          go_wp2_with fail
          go_quiet (fail)
          obtain ⟨v', Y, hr, hc⟩ := unhide HPU nq
          rw [Int.natCast_add, Int.natCast_add] at hr
          have RE := hide hr
          have HE := hide hc
          clear hr hc HPU c1 c2 hgx hgy
          go_wp2_with (at_builtin; refine wpList_append_known rfl _ _ 57 57 rfl _ _ rfl rfl _ _ (unhide RE) ?_; clear RE)
          go_roundw
          case rel => exact ⟨⟨_, rfl⟩, ⟨_, rfl⟩, i + 1, j + 1, _, by go_num, by go_num, h1, h2, hide ⟨unhide HE, unhide HS2, by have := unhide HRL; simp; omega⟩⟩
          case measure => simp [intOf]; omega
        · have t3 : ((X1 : Int) == (Y1 : Int)) = false := by simp; omega
          clear HPU HS
          go_wp2_with fail
          go_quiet (fail)
          have C1 : Calls Tryd.prog 61 #[.int .i64 ((i : Int) + 1), .int .i64 (j : Int), .pointer (some ⟨gS, 0, none⟩), .pointer (some ⟨gA, 0, none⟩)] (wr.drewN nq) _ := unhide HLN nq
          have C2 : Calls Tryd.prog 61 #[.int .i64 (i : Int), .int .i64 ((j : Int) + 1), .pointer (some ⟨gS, 0, none⟩), .pointer (some ⟨gA, 0, none⟩)] (wr.drewN nq) _ := unhide HLM nq
          have HC1 := hide C1
          have HC2 := hide C2
          have HE := hide (unhide HDN nq)
          clear HLN HLM HDN C1 C2 c1 c2 hgx hgy
          generalize wr.drewN nq = w7 at *
          by_cases g : q ≤ p
          · have t4 := le_dec g
            have HU2 := hide (unhide HU e g)
            clear HU HO
            go_wp2_with fail
            refine (unhide HC1).mono ?_
            rintro e4 v4 ⟨rfl, rfl⟩
            dsimp only
            go_wp2_with fail
            refine (unhide HC2).mono ?_
            rintro e5 v5 ⟨rfl, rfl⟩
            dsimp only
            clear HC1 HC2
            go_wp2_with fail
            go_roundw
            case rel => exact ⟨⟨_, rfl⟩, ⟨_, rfl⟩, i + 1, j, _, by go_num, rfl, h1, by omega, hide ⟨unhide HE, unhide HU2, by have := unhide HRL; omega⟩⟩
            case measure => simp [intOf]; omega
          · have t4 := nle_dec g
            have HU2 := hide (unhide HO e g)
            clear HU HO
            go_wp2_with fail
            refine (unhide HC1).mono ?_
            rintro e4 v4 ⟨rfl, rfl⟩
            dsimp only
            go_wp2_with fail
            refine (unhide HC2).mono ?_
            rintro e5 v5 ⟨rfl, rfl⟩
            dsimp only
            clear HC1 HC2
            go_wp2_with fail
            go_roundw
            case rel => exact ⟨⟨_, rfl⟩, ⟨_, rfl⟩, i, j + 1, _, rfl, by go_num, by omega, h2, hide ⟨unhide HE, unhide HU2, by have := unhide HRL; omega⟩⟩
            case measure => simp [intOf]; omega
      · have t2 : decide ((j : Int) < (y2.length : Int)) = false := decide_eq_false (by omega)
        obtain ⟨v', Y, hr, hc⟩ := unhide HE0 (.inr h2)
        have RE := hide hr
        have HE := hide hc
        clear HE0 HI hr hc
        clear HX2 HY2
        go_wp2_with (at_builtin; refine wpList_append_known rfl _ _ 57 57 rfl _ _ rfl rfl _ _ (unhide RE) ?_)
        obtain ⟨k, k1, k2⟩ := (unhide HE).r
        refine bodyPost_ret (results_tmp rfl _ _ _) rfl ⟨_, k, rfl, ?_, (unhide HE).l.b⟩
        rw [unhide HD2]
        exact k1
    · have t1 : decide ((i : Int) < (x2.length : Int)) = false := decide_eq_false (by omega)
      obtain ⟨v', Y, hr, hc⟩ := unhide HE0 (.inl h1)
      have RE := hide hr
      have HE := hide hc
      clear HE0 HI hr hc
      clear HX2 HY2
      go_wp2_with (at_builtin; refine wpList_append_known rfl _ _ 57 57 rfl _ _ rfl rfl _ _ (unhide RE) ?_)
      obtain ⟨k, k1, k2⟩ := (unhide HE).r
      refine bodyPost_ret (results_tmp rfl _ _ _) rfl ⟨_, k, rfl, ?_, (unhide HE).l.b⟩
      rw [unhide HD2]
      exact k1
end Go.Proofs.YtecfojkaoibldaaDoor
end

section
namespace Go.Proofs.YtecfojkaoibldaaDoor
open Go.ChangeShapes Go.WideShapes Go.ChangeAt Go.RowKit
attribute [local go_sem] Oper.semAt_some

/-- what fits says -/
def fitE (d : List Dop) (n : Nat) : Int := if valB d then (if frD d = n then 0 else 131) else 130
theorem fit_cases (d : List Dop) (n : Nat) : (valB d = false ∧ fitE d n = 130) ∨ (valB d = true ∧ frD d ≠ n ∧ fitE d n = 131 ∧ ((frD d : Int) != (n : Int)) = true ∧ (frD d == n) = false) ∨ (valB d = true ∧ frD d = n ∧ fitE d n = 0) := by
  unfold fitE
  cases valB d with
  | false => exact .inl ⟨rfl, by simp⟩
  | true =>
    by_cases h : frD d = n
    · exact .inr (.inr ⟨rfl, h, by simp [h]⟩)
    · exact .inr (.inl ⟨rfl, h, by simp [h], by simp; omega, by simpa using h⟩)
theorem IsB.takeD {w : World} {a0 : Option Addr} {cap : Nat} {l : List Int} {n : Nat} (h : IsB w a0 cap l) : IsB w a0 cap (l.take n) := by
  obtain ⟨h1, h2, h3, h4⟩ := h
  refine ⟨by simp; omega, by simp; omega, ?_, fun x hx => h4 x (List.mem_of_mem_take hx)⟩
  rcases h3 with h3 | ⟨g', off', rfl, hL⟩
  · exact Or.inl (by rw [h3]; simp)
  · exact Or.inr ⟨g', off', rfl, hL.take n⟩
theorem IsB.loD {w : World} {a : Option Addr} {cap : Nat} {l : List Int} {n : Nat} (h : IsB w a cap l) : IsB w (if cap = n then a else a.map (·.add n)) (cap - n) (l.drop n) := by
  obtain ⟨h1, h2, h3, h4⟩ := h
  refine ⟨by simp; omega, by simp; omega, ?_, fun x hx => h4 x (List.mem_of_mem_drop hx)⟩
  rcases Nat.lt_or_ge n l.length with hlt | hge
  · rcases h3 with h3 | ⟨g', off', rfl, hL⟩
    · rw [h3] at hlt; simp at hlt
    · rw [if_neg (by omega)]
      exact Or.inr ⟨g', off' + n, by simp [Addr.add_lit], hL.drop n⟩
  · exact Or.inl (by simp; omega)
theorem strCells_nums {t : List Int} (ht : ∀ x ∈ t, 0 ≤ x ∧ x ≤ 255) : Lib.strCells (strOfNums t) = t.map (Value.int .u8) := by
  unfold Lib.strCells strOfNums
  simp only [List.map_map]
  refine List.map_congr_left fun x hx => ?_
  have := ht x hx
  simp
  omega
/-- append(v, s...) where v is the call's own -/
theorem run_more_str (w : World) (B g c : Nat) (l t : List Int) (ty : TypeId) (h : Own w B (.slice (some ⟨g, 0, none⟩) l.length c) l) (ht : ∀ x ∈ t, 0 ≤ x ∧ x ≤ 255) (hB : B ≤ w.heap.size) (hn : l.length + t.length ≤ 140737488355328) :
    ∃ g' c' w', (Builtin.append_ #[22, 9] ty #[.slice (some ⟨g, 0, none⟩) l.length c, .string (strOfNums t)]).run Tryd.prog w = .ok (.slice (some ⟨g', 0, none⟩) (l ++ t).length c') w' ∧
      Own w' B (.slice (some ⟨g', 0, none⟩) (l ++ t).length c') (l ++ t) ∧ w.grownBy w' (some g) ∧ Below B w w' := by
  obtain ⟨i, hi, hz, hs, hby⟩ := info_u8
  have hsz := strOfNums_size t
  obtain ⟨v', w', hr, ho, hg, hiff⟩ := Lib.run_append_own_string (P := Tryd.prog) w B 22 9 ty 5 i Tryd.underlying22 Tryd.underlying9 hi hz hs hby _ l.length _ h (strOfNums t) (by unfold maxLen; omega) (by omega) hB
  rw [hsz, strCells_nums ht] at ho
  have hown : Own w' B v' (l ++ t) := by unfold Own; simpa using ho
  rcases hown.2 with ⟨hv, _⟩ | ⟨g', c', cur, rfl, _⟩
  · have := hiff.1 hv
    cases this.1
  · exact ⟨g', c', w', hr, hown, hg, (Below.refl B w).grown hg hB (fun k e => by cases e; exact (World.ownsRow.lt h g rfl).1)⟩
/-- append(v, b...) where v is the call's own, and what stays -/
theorem run_moreG (w : World) (B g c : Nat) (l m : List Int) (a0 : Option Addr) (cap : Nat) (ty : TypeId) (h : Own w B (.slice (some ⟨g, 0, none⟩) l.length c) l) (hm : IsB w a0 cap m) (hB : B ≤ w.heap.size) (hn : l.length + m.length ≤ 140737488355328) :
    ∃ g' c' w', (Builtin.append_ #[22, 22] ty #[.slice (some ⟨g, 0, none⟩) l.length c, .slice a0 m.length cap]).run Tryd.prog w = .ok (.slice (some ⟨g', 0, none⟩) (l ++ m).length c') w' ∧
      Own w' B (.slice (some ⟨g', 0, none⟩) (l ++ m).length c') (l ++ m) ∧ w.grownBy w' (some g) ∧ Below B w w' := by
  obtain ⟨i, hi, hz, hs, hby⟩ := info_u8
  have hgB : B ≤ g ∧ g < w.heap.size := World.ownsRow.lt h g rfl
  rcases Nat.eq_zero_or_pos m.length with h0 | h0
  · obtain rfl : m = [] := List.length_eq_zero_iff.1 h0
    have hlc : l.length ≤ c := by
      rcases h.2 with ⟨hv, _⟩ | ⟨g1, cap1, cur, hv, _, _, hc, _⟩
      · cases hv
      · cases hv; exact hc
    rw [List.append_nil]
    refine ⟨g, c, w, ?_, h, grown_refl _ _, Below.refl _ _⟩
    exact run_append_room_src (P := Tryd.prog) w 22 22 ty 5 i Tryd.underlying22 hi g 0 l.length c (.slice a0 0 cap) 0 [] (by rw [hs]; exact src_none _ a0 cap) (by omega) (fun j hj => absurd hj (Nat.not_lt_zero _)) (fun j hj => absurd hj (Nat.not_lt_zero _))
  · rcases hm.2.2.1 with h3 | ⟨g0, off, rfl, hL⟩
    · rw [h3] at h0; cases h0
    obtain ⟨g', c', w', hr, ho, hg, hat, hlt⟩ := run_append_lies (P := Tryd.prog) w 22 ty B 5 i (.int .u8 0) 1 1 Tryd.underlying22 hi hz hs hby rfl (by decide)
      _ l.length (l.map (Value.int .u8)) h ⟨g0, off, none⟩ m.length cap (m.map (Value.int .u8)) (by simp) (src_cells hL) (src_some _ g0 off cap m hL).one h0 (by unfold maxLen; omega) (by omega) hB (w.heap.size) (by omega)
    have hown : Own w' B (.slice (some ⟨g', 0, none⟩) (l.length + m.length) c') (l ++ m) := by
      unfold Own
      simpa using ho
    rw [← List.length_append] at hr hown
    exact ⟨g', c', w', hr, hown, hg, (Below.refl B w).grown hg hB (fun k e => by cases e; exact hgB.1)⟩
end Go.Proofs.YtecfojkaoibldaaDoor
end

section
namespace Go.Proofs.YtecfojkaoibldaaDoor
open Go.ChangeShapes Go.WideShapes Go.ChangeAt Go.RowKit
attribute [local go_sem] Oper.semAt_some

theorem val_pl {d : List Dop} (h : d.all plB = false) : valB d = false := by unfold valB; rw [h]; rfl
theorem val_ap {d : List Dop} (h : apL 7 d = false) : valB d = false := by unfold valB; rw [h]; cases d.all plB <;> rfl
theorem val_lo {d : List Dop} (h : 268435456 < frD d ∨ 268435456 < toD d) : valB d = false := by
  unfold valB; rw [show lonB d = true from decide_eq_true h]; cases d.all plB <;> cases apL 7 d <;> rfl
/-- the tests of one operation that keeps or drops -/
theorem kd_cases (n : Int) (t : List Int) : (n < 1 ∧ decide (n < 1) = true) ∨ (¬ n < 1 ∧ 268435456 < n ∧ decide (n < 1) = false ∧ decide (n > 268435456) = true ∧ decide (268435456 < n) = true) ∨
    (¬ n < 1 ∧ t.isEmpty = false ∧ decide (n < 1) = false ∧ decide (n > 268435456) = false ∧ decide (268435456 < n) = false) ∨
    (¬ n < 1 ∧ n ≤ 268435456 ∧ t.isEmpty = true ∧ decide (n < 1) = false ∧ decide (n > 268435456) = false ∧ decide (268435456 < n) = false) := by
  by_cases h1 : n < 1
  · exact .inl ⟨h1, decide_eq_true h1⟩
  by_cases h2 : 268435456 < n
  · exact .inr (.inl ⟨h1, h2, decide_eq_false h1, decide_eq_true h2, decide_eq_true h2⟩)
  cases h3 : t.isEmpty with
  | false => exact .inr (.inr (.inl ⟨h1, rfl, decide_eq_false h1, decide_eq_false h2, decide_eq_false h2⟩))
  | true => exact .inr (.inr (.inr ⟨h1, by omega, rfl, decide_eq_false h1, decide_eq_false h2, decide_eq_false h2⟩))
theorem put_cases (n : Int) (t : List Int) : (¬ n = 0 ∧ (n != 0) = true) ∨ (n = 0 ∧ (n != 0) = false ∧ t.isEmpty = true) ∨ (n = 0 ∧ (n != 0) = false ∧ t.isEmpty = false) := by
  by_cases h1 : n = 0
  · cases h3 : t.isEmpty with
    | true => exact .inr (.inl ⟨h1, by simp [h1], rfl⟩)
    | false => exact .inr (.inr ⟨h1, by simp [h1], rfl⟩)
  · exact .inl ⟨h1, by simpa using h1⟩
theorem kind_cases (k : Int) : k = 1 ∨ k = 2 ∨ k = 3 ∨ (¬ k = 1 ∧ ¬ k = 2 ∧ ¬ k = 3 ∧ (k == 1) = false ∧ (k == 2) = false ∧ (k == 3) = false ∧ thisN k = 0) := by
  by_cases h1 : k = 1
  · exact .inl h1
  by_cases h2 : k = 2
  · exact .inr (.inl h2)
  by_cases h3 : k = 3
  · exact .inr (.inr (.inl h3))
  refine .inr (.inr (.inr ⟨h1, h2, h3, by simpa using h1, by simpa using h2, by simpa using h3, ?_⟩))
  unfold thisN; simp [h1, h2, h3]
def prM (d : List Dop) (k : Nat) : Int := if k = 0 then 7 else nextN (d.getD (k - 1) opZ).k
theorem prM_s (d : List Dop) (k : Nat) : prM d (k + 1) = nextN (d.getD k opZ).k := by simp [prM]
theorem k_pos {k j n : Nat} (h : k = j + 1) (hl : k < 4611686018427387904) (hn : k < n) : (0 < k ∧ decide (0 < k) = true ∧ decide ((0 : Int) < (k : Int)) = true ∧ decide ((k : Int) > 0) = true ∧ (0 : Int) < (k : Int)) ∧ (j : Int) < (n : Int) ∧ (k : Int) < (n : Int) ∧ (0 : Int) ≤ (j : Int) ∧ wrap64 ((k : Int) - 1) = (j : Int) ∧ (k : Int) - 1 = (j : Int) ∧ wrap64 (j : Int) = (j : Int) :=
  ⟨⟨by omega, decide_eq_true (by omega), decide_eq_true (by omega), decide_eq_true (by omega), by omega⟩, by omega, by omega, by omega, by rw [wrapD _ (by omega) (by omega)]; omega, by omega, wrapD _ (by omega) (by omega)⟩
def VaI (d : List Dop) (k f t : Nat) : Prop := f = frD (d.take k) ∧ t = toD (d.take k) ∧ f ≤ 268435456 ∧ t ≤ 268435456 ∧ (d.take k).all plB = true ∧ apL 7 d = apL (prM d k) (d.drop k) ∧ (k = 0 ∨ (d.getD (k - 1) opZ).k = 1 ∨ (d.getD (k - 1) opZ).k = 2 ∨ (d.getD (k - 1) opZ).k = 3)
end Go.Proofs.YtecfojkaoibldaaDoor
end

section
namespace Go.Proofs.YtecfojkaoibldaaDoor
open Go.ChangeShapes Go.WideShapes Go.ChangeAt Go.RowKit
attribute [local go_sem] Oper.semAt_some

theorem apL_kinds : ∀ (m : Int) (d : List Dop), apL m d = true → ∀ o ∈ d, o.k = 1 ∨ o.k = 2 ∨ o.k = 3
  | _, [], _, o, ho => by cases ho
  | m, x :: r, h, o, ho => by
    simp only [apL, Bool.and_eq_true] at h
    rcases List.mem_cons.1 ho with rfl | ho
    · rcases kind_cases o.k with h1 | h1 | h1 | ⟨_, _, _, _, _, _, h1⟩
      · exact .inl h1
      · exact .inr (.inl h1)
      · exact .inr (.inr h1)
      · rw [h1] at h; simp [apB] at h
    · exact apL_kinds _ r h.2 o ho
theorem valB_k {d : List Dop} (h : valB d = true) : ∀ o ∈ d, o.k = 1 ∨ o.k = 2 ∨ o.k = 3 := by
  unfold valB at h
  simp only [Bool.and_eq_true] at h
  exact apL_kinds 7 d h.2.1
/-- what a valid delta's operations are -/
theorem valB_op {d : List Dop} (h : valB d = true) {o : Dop} (ho : o ∈ d) : ((o.k = 1 ∨ o.k = 3) ∧ 1 ≤ o.n ∧ o.t = []) ∨ (o.k = 2 ∧ o.n = 0 ∧ o.t ≠ []) := by
  have hk := valB_k h o ho
  unfold valB at h
  simp only [Bool.and_eq_true] at h
  have hp := List.all_eq_true.1 h.1 o ho
  unfold plB at hp
  rcases hk with h1 | h1 | h1
  · simp [h1] at hp; exact .inl ⟨.inl h1, hp.2, hp.1⟩
  · simp [h1] at hp; exact .inr ⟨h1, hp.2, hp.1⟩
  · simp [h1] at hp; exact .inl ⟨.inr h1, hp.2, hp.1⟩
structure LeI (d : List Dop) (k f t : Nat) : Prop where
  ef : f = frD (d.take k)
  et : t = toD (d.take k)
  z : f ≤ 268435456 ∧ t ≤ 268435456
end Go.Proofs.YtecfojkaoibldaaDoor
end

section
namespace Go.Proofs.YtecfojkaoibldaaDoor
open Go.ChangeShapes Go.WideShapes Go.ChangeAt Go.RowKit
attribute [local go_sem] Oper.semAt_some

theorem make_u8D (w : World) (c : Nat) (hc : c ≤ 70368744177664) : ∃ w', (Instr.makeSlice 22 (.int .i64 0) (.int .i64 (c : Int))).run Tryd.prog w = .ok (.slice (some ⟨w.heap.size, 0, none⟩) 0 c) w' ∧ Own w' w.heap.size (.slice (some ⟨w.heap.size, 0, none⟩) 0 c) [] ∧ Below w.heap.size w w' := by
  obtain ⟨i, hi, hz, hs, hby⟩ := info_u8
  obtain ⟨w', h1, h2, h3⟩ := run_make_own (P := Tryd.prog) w w.heap.size 22 5 i (.int .u8 0) 1 Tryd.underlying22 hi hz hs .i64 .i64 c (by rw [hby]; omega) (by unfold maxLen; omega) (Nat.le_refl _)
  exact ⟨w', h1, h2, (Below.refl _ w).grown h3 (Nat.le_refl _) (fun k e => by cases e)⟩
set_option maxRecDepth 100000 in
theorem fldZ (a b : Value) (w : World) : (Instr.field 90 (.agg #[a, b]) 1).run Tryd.prog w = .ok b w := by kernel_rfl
attribute [local go_sem] fldZ
/-- what waits, and what is written, behind one operation more -/
def stW (s : List Int × List Int) (o : Dop) : List Int × List Int := if o.k = 1 then (s.1.drop o.n.toNat, s.2 ++ s.1.take o.n.toNat) else if o.k = 2 then (s.1, s.2 ++ o.t) else (s.1.drop o.n.toNat, s.2)
def runW (b : List Int) (d : List Dop) : List Int × List Int := d.foldl stW (b, [])
def apD (b : List Int) (d : List Dop) : List Int := (runW b d).2
theorem runW_take (b : List Int) (d : List Dop) {k : Nat} (hk : k < d.length) : runW b (d.take (k + 1)) = stW (runW b (d.take k)) (d.getD k opZ) := by
  unfold runW
  rw [List.take_add_one, List.getElem?_eq_getElem hk, Option.toList_some, List.foldl_append]
  simp [List.getD_eq_getElem?_getD, List.getElem?_eq_getElem hk]
/-- lengths, while the delta fits -/
theorem runW_len {b : List Int} {d : List Dop} (hv : valB d = true) (hf : frD d = b.length) : ∀ k, k ≤ d.length → (runW b (d.take k)).1.length + frD (d.take k) = b.length ∧ (runW b (d.take k)).2.length = toD (d.take k)
  | 0, _ => by simp [runW, frD, toD]
  | k + 1, hk => by
    have ih := runW_len hv hf k (by omega)
    have hx := valB_op hv (getD_memD (d := d) (k := k) (by omega))
    have e1 := frD_take d (k := k) (by omega)
    have e2 := toD_take d (k := k) (by omega)
    have e3 := (frD_le d (k + 1)).1
    rw [runW_take b d (by omega)]
    generalize runW b (d.take k) = s at *
    generalize d.getD k opZ = x at *
    obtain ⟨xk, xn, xt⟩ := x
    dsimp only at hx
    rcases hx with ⟨rfl | rfl, hn, rfl⟩ | ⟨rfl, rfl, hn⟩
    · simp [stW, frN, toN] at e1 e2 ⊢; omega
    · simp [stW, frN, toN] at e1 e2 ⊢; omega
    · simp [stW, frN, toN] at e1 e2 ⊢; omega
theorem ap_len {b : List Int} {d : List Dop} (hv : valB d = true) (hf : frD d = b.length) : (apD b d).length = toD d := by
  have := (runW_len hv hf d.length (Nat.le_refl _)).2
  rwa [List.take_length] at this
end Go.Proofs.YtecfojkaoibldaaDoor
end
