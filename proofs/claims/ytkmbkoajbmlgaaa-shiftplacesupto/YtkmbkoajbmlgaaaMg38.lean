/- Layer 14, plain: one delta's atoms over another's: both orders meet. · Layer 14, plain: passing, operation by operation. -/
import Derived.Test.YtkmbkoajbmlgaaaMg37

section
namespace Go.Proofs.Ytkmbkoajbmlgaaa

/-- puts go first -/
def passP (g : List Atm → List Atm) : List Atm → List Atm
  | .p y :: b => .p y :: passP g b
  | b => g b
def byK (g : List Atm → List Atm) : List Atm → List Atm
  | .k :: b => .k :: g b
  | .d :: b => .d :: g b
  | b => g b
def byD (g : List Atm → List Atm) : List Atm → List Atm
  | .k :: b => g b
  | .d :: b => g b
  | b => g b
/-- the second over the first -/
def ovA (f : Bool) : List Atm → List Atm → List Atm
  | [] => putsA
  | .p _ :: a => if f then passP (fun b => .k :: ovA f a b) else fun b => .k :: ovA f a b
  | .k :: a => passP (byK (ovA f a))
  | .d :: a => passP (byD (ovA f a))
theorem ov_put (f : Bool) : ∀ (a : List Atm) (y : Int) (b : List Atm), (f = true ∨ ∀ x r, a ≠ .p x :: r) → ovA f a (.p y :: b) = .p y :: ovA f a b
  | [], _, _, _ => rfl
  | .k :: _, _, _, _ => rfl
  | .d :: _, _, _, _ => rfl
  | .p x :: a, y, b, h => by
    rcases h with rfl | h
    · rfl
    · exact absurd rfl (h x a)
theorem ov_puts (f : Bool) : ∀ (t : List Int) (a b : List Atm), (f = true ∨ ∀ x r, a ≠ .p x :: r) → ovA f a (t.map .p ++ b) = t.map .p ++ ovA f a b
  | [], _, _, _ => rfl
  | y :: t, a, b, h => by
    rw [List.map_cons, List.cons_append, ov_put f a y _ h, ov_puts f t a b h]; rfl
theorem ov_keep (f : Bool) (x : Int) (a b : List Atm) (h : f = false ∨ ∀ y r, b ≠ .p y :: r) : ovA f (.p x :: a) b = .k :: ovA f a b := by
  cases f with
  | false => rfl
  | true =>
    rcases h with h | h
    · cases h
    · cases b with
      | nil => rfl
      | cons z b => cases z with
        | p y => exact absurd rfl (h y b)
        | k => rfl
        | d => rfl
theorem ov_keeps (f : Bool) : ∀ (t : List Int) (a b : List Atm), (f = false ∨ ∀ y r, b ≠ .p y :: r) → ovA f (t.map .p ++ a) b = List.replicate t.length .k ++ ovA f a b
  | [], _, _, _ => rfl
  | x :: t, a, b, h => by
    rw [List.map_cons, List.cons_append, ov_keep f x _ b h, ov_keeps f t a b h, List.length_cons, List.replicate_succ]; rfl
theorem ov_kk (f : Bool) : ∀ (n : Nat) (a b : List Atm), ovA f (List.replicate n .k ++ a) (List.replicate n .k ++ b) = List.replicate n .k ++ ovA f a b
  | 0, _, _ => rfl
  | n + 1, a, b => by rw [List.replicate_succ, List.cons_append, List.cons_append, List.cons_append, ← ov_kk f n a b]; rfl
theorem ov_kd (f : Bool) : ∀ (n : Nat) (a b : List Atm), ovA f (List.replicate n .k ++ a) (List.replicate n .d ++ b) = List.replicate n .d ++ ovA f a b
  | 0, _, _ => rfl
  | n + 1, a, b => by rw [List.replicate_succ, List.replicate_succ, List.cons_append, List.cons_append, List.cons_append, ← ov_kd f n a b]; rfl
theorem ov_dk (f : Bool) : ∀ (n : Nat) (a b : List Atm), ovA f (List.replicate n .d ++ a) (List.replicate n .k ++ b) = ovA f a b
  | 0, _, _ => rfl
  | n + 1, a, b => by rw [List.replicate_succ, List.replicate_succ, List.cons_append, List.cons_append, ← ov_dk f n a b]; rfl
theorem ov_dd (f : Bool) : ∀ (n : Nat) (a b : List Atm), ovA f (List.replicate n .d ++ a) (List.replicate n .d ++ b) = ovA f a b
  | 0, _, _ => rfl
  | n + 1, a, b => by rw [List.replicate_succ, List.cons_append, List.cons_append, ← ov_dd f n a b]; rfl
/-- both orders meet -/
theorem ov_meet : ∀ (n : Nat) (a b : List Atm), a.length + b.length ≤ n → frA a = frA b → nfA (cmpA a (ovA false a b)) = nfA (cmpA b (ovA true b a))
  | _, [], [], _, _ => rfl
  | 0, _ :: _, _, h, _ => by simp at h
  | 0, [], _ :: _, h, _ => by simp at h
  | n + 1, [], .p y :: b, h, hf => by
    have ih := ov_meet n [] b (by simp at h ⊢; omega) (by simpa [frA] using hf)
    show Atm.p y :: nfA (cmpA [] (ovA false [] b)) = .p y :: nfA (cmpA b (ovA true b []))
    rw [ih]
  | n + 1, [], .k :: b, h, hf => by simp [frA] at hf
  | n + 1, [], .d :: b, h, hf => by simp [frA] at hf
  | n + 1, .p x :: a, b, h, hf => by
    have ih := ov_meet n a b (by simp at h ⊢; omega) (by simpa [frA] using hf)
    rw [ov_put true b x a (.inl rfl), cmp_put]
    show Atm.p x :: nfA (cmpA a (ovA false a b)) = _
    rw [ih]
  | n + 1, .k :: a, [], h, hf => by simp [frA] at hf
  | n + 1, .k :: a, .p y :: b, h, hf => by
    have ih := ov_meet n (.k :: a) b (by simp at h ⊢; omega) (by simpa [frA] using hf)
    rw [ov_put false (.k :: a) y b (.inr fun _ _ e => by cases e), cmp_put, ih]
    rfl
  | n + 1, .k :: a, .k :: b, h, hf => by
    have ih := ov_meet n a b (by simp at h ⊢; omega) (by simpa [frA] using hf)
    show Atm.k :: nfA (cmpA a (ovA false a b)) = .k :: nfA (cmpA b (ovA true b a))
    rw [ih]
  | n + 1, .k :: a, .d :: b, h, hf => by
    have ih := ov_meet n a b (by simp at h ⊢; omega) (by simpa [frA] using hf)
    show insD (nfA (cmpA a (ovA false a b))) = insD (nfA (cmpA b (ovA true b a)))
    rw [ih]
  | n + 1, .d :: a, [], h, hf => by simp [frA] at hf
  | n + 1, .d :: a, .p y :: b, h, hf => by
    have ih := ov_meet n (.d :: a) b (by simp at h ⊢; omega) (by simpa [frA] using hf)
    rw [ov_put false (.d :: a) y b (.inr fun _ _ e => by cases e), cmp_put, ih]
    rfl
  | n + 1, .d :: a, .k :: b, h, hf => by
    have ih := ov_meet n a b (by simp at h ⊢; omega) (by simpa [frA] using hf)
    show insD (nfA (cmpA a (ovA false a b))) = insD (nfA (cmpA b (ovA true b a)))
    rw [ih]
  | n + 1, .d :: a, .d :: b, h, hf => by
    have ih := ov_meet n a b (by simp at h ⊢; omega) (by simpa [frA] using hf)
    show insD (nfA (cmpA a (ovA false a b))) = insD (nfA (cmpA b (ovA true b a)))
    rw [ih]
/-- its sizes -/
theorem puts_fr : ∀ b : List Atm, frA b = 0 → frA (putsA b) = 0 ∧ toA (putsA b) = toA b
  | [], _ => ⟨rfl, rfl⟩
  | .p y :: b, h => by
    have := puts_fr b (by simpa [frA] using h)
    simp only [putsA, frA, toA]
    exact ⟨this.1, by rw [this.2]⟩
  | .k :: b, h => by simp [frA] at h
  | .d :: b, h => by simp [frA] at h
theorem ov_fr (f : Bool) : ∀ (n : Nat) (a b : List Atm), a.length + b.length ≤ n → frA a = frA b → frA (ovA f a b) = toA a
  | _, [], b, _, hf => (puts_fr b hf.symm).1
  | 0, _ :: _, _, h, _ => by simp at h
  | n + 1, .p x :: a, b, h, hf => by
    cases f with
    | false =>
      have ih := ov_fr false n a b (by simp at h ⊢; omega) (by simpa [frA] using hf)
      show frA (.k :: ovA false a b) = _
      simp only [frA, toA, ih]
    | true =>
      cases b with
      | nil =>
        have ih := ov_fr true n a [] (by simp at h ⊢; omega) (by simpa [frA] using hf)
        show frA (.k :: ovA true a []) = _
        simp only [frA, toA, ih]
      | cons z b => cases z with
        | p y =>
          have ih := ov_fr true n (.p x :: a) b (by simp at h ⊢; omega) (by simpa [frA] using hf)
          rw [ov_put true _ y b (.inl rfl)]
          exact ih
        | k =>
          have ih := ov_fr true n a (.k :: b) (by simp at h ⊢; omega) (by simpa [frA] using hf)
          show frA (.k :: ovA true a (.k :: b)) = _
          simp only [frA, toA, ih]
        | d =>
          have ih := ov_fr true n a (.d :: b) (by simp at h ⊢; omega) (by simpa [frA] using hf)
          show frA (.k :: ovA true a (.d :: b)) = _
          simp only [frA, toA, ih]
  | n + 1, .k :: a, [], h, hf => by simp [frA] at hf
  | n + 1, .k :: a, .p y :: b, h, hf => by
    have ih := ov_fr f n (.k :: a) b (by simp at h ⊢; omega) (by simpa [frA] using hf)
    rw [ov_put f _ y b (.inr fun _ _ e => by cases e)]
    exact ih
  | n + 1, .k :: a, .k :: b, h, hf => by
    have ih := ov_fr f n a b (by simp at h ⊢; omega) (by simpa [frA] using hf)
    show frA (.k :: ovA f a b) = _
    simp only [frA, toA, ih]
  | n + 1, .k :: a, .d :: b, h, hf => by
    have ih := ov_fr f n a b (by simp at h ⊢; omega) (by simpa [frA] using hf)
    show frA (.d :: ovA f a b) = _
    simp only [frA, toA, ih]
  | n + 1, .d :: a, [], h, hf => by simp [frA] at hf
  | n + 1, .d :: a, .p y :: b, h, hf => by
    have ih := ov_fr f n (.d :: a) b (by simp at h ⊢; omega) (by simpa [frA] using hf)
    rw [ov_put f _ y b (.inr fun _ _ e => by cases e)]
    exact ih
  | n + 1, .d :: a, .k :: b, h, hf => by
    have ih := ov_fr f n a b (by simp at h ⊢; omega) (by simpa [frA] using hf)
    show frA (ovA f a b) = _
    simp only [toA, ih]
  | n + 1, .d :: a, .d :: b, h, hf => by
    have ih := ov_fr f n a b (by simp at h ⊢; omega) (by simpa [frA] using hf)
    show frA (ovA f a b) = _
    simp only [toA, ih]
/-- what keeps all -/
theorem ov_id (f : Bool) : ∀ (b : List Atm), ovA f (List.replicate (frA b) .k) b = b
  | [] => rfl
  | .p y :: b => by
    rw [show frA (.p y :: b) = frA b from rfl, ov_put f _ y b (.inr fun x r e => by cases h : frA b with | zero => rw [h] at e; cases e | succ m => rw [h, List.replicate_succ] at e; cases e), ov_id f b]
  | .k :: b => by
    rw [show frA (.k :: b) = frA b + 1 by simp [frA]; try omega, List.replicate_succ]
    show Atm.k :: ovA f (List.replicate (frA b) .k) b = _
    rw [ov_id f b]
  | .d :: b => by
    rw [show frA (.d :: b) = frA b + 1 by simp [frA]; try omega, List.replicate_succ]
    show Atm.d :: ovA f (List.replicate (frA b) .k) b = _
    rw [ov_id f b]
theorem ov_all (f : Bool) : ∀ (a : List Atm), ovA f a (List.replicate (frA a) .k) = List.replicate (toA a) .k
  | [] => rfl
  | .p x :: a => by
    rw [ov_keep f x a _ (.inr fun y r e => by cases h : frA a with | zero => rw [show frA (.p x :: a) = frA a from rfl, h] at e; cases e | succ m => rw [show frA (.p x :: a) = frA a from rfl, h, List.replicate_succ] at e; cases e)]
    rw [show frA (.p x :: a) = frA a from rfl, ov_all f a, show toA (.p x :: a) = toA a + 1 by simp [toA]; try omega, List.replicate_succ]
  | .k :: a => by
    rw [show frA (.k :: a) = frA a + 1 by simp [frA]; try omega, List.replicate_succ, show toA (.k :: a) = toA a + 1 by simp [toA]; try omega, List.replicate_succ]
    show Atm.k :: ovA f a (List.replicate (frA a) .k) = _
    rw [ov_all f a]
  | .d :: a => by
    rw [show frA (.d :: a) = frA a + 1 by simp [frA]; try omega, List.replicate_succ]
    show ovA f a (List.replicate (frA a) .k) = _
    rw [ov_all f a]; rfl

end Go.Proofs.Ytkmbkoajbmlgaaa
end

section
namespace Go.Proofs.Ytkmbkoajbmlgaaa

/-- the first operation of a list; of none one that does nothing -/
def hdO (r : List Dop) : Dop := r.headD opZ
/-- what is left of an operation that keeps or drops -/
def cutL (o : Dop) (r : List Dop) (s : Nat) : List Dop := if s = o.n.toNat then r else ⟨o.k, o.n - s, []⟩ :: r
def OkO (l : List Dop) : Prop := ∀ o ∈ l, Pln o ∧ szO o ≤ 536870912
/-- in the midst of it -/
structure PsK (f : Bool) (C : List Atm) (la lb out : List Dop) : Prop where
  e : dA out ++ ovA f (dA la) (dA lb) = C
  q : frA (dA la) = frA (dA lb)
  a : OkO la
  b : OkO lb
  k : ∀ o ∈ out, (o.k = 1 ∨ o.k = 2 ∨ o.k = 3) ∧ 0 ≤ o.n
theorem noP {l : List Dop} (h : OkO l) (hk : (hdO l).k ≠ 2) : ∀ x r, dA l ≠ .p x :: r := fun x r e => by
  cases l with
  | nil => cases e
  | cons o l =>
    rw [dA_cons] at e
    exact hk (opA_put (h o (by simp)).1 (dA l) e)
theorem OkO.tail {o : Dop} {l : List Dop} (h : OkO (o :: l)) : OkO l := fun q hq => h q (by simp [hq])
theorem out_k {out : List Dop} (h : ∀ o ∈ out, (o.k = 1 ∨ o.k = 2 ∨ o.k = 3) ∧ 0 ≤ o.n) {y : Dop} (hy : (y.k = 1 ∨ y.k = 2 ∨ y.k = 3) ∧ 0 ≤ y.n) : ∀ o ∈ out ++ [y], (o.k = 1 ∨ o.k = 2 ∨ o.k = 3) ∧ 0 ≤ o.n := fun o ho => by
  rcases List.mem_append.1 ho with ho | ho
  · exact h o ho
  · obtain rfl : o = y := by simpa using ho
    exact hy
theorem PsK.putB {f : Bool} {C : List Atm} {la rb out : List Dop} {y : Dop} (h : PsK f C la (y :: rb) out) (hy : y.k = 2) (hc : f = true ∨ (hdO la).k ≠ 2) : PsK f C la rb (out ++ [y]) := by
  obtain ⟨p1, p2, p3⟩ := szO_p (h.b y (by simp)).1 hy
  have eo : opA y = y.t.map .p := by simp [opA, hy]
  have he := h.e
  have hq := h.q
  rw [dA_cons, eo] at he hq
  rw [ov_puts f y.t _ _ (hc.imp id fun hc => noP h.a hc), ← List.append_assoc] at he
  rw [fr_app, (fr_map_p _).1, Nat.zero_add] at hq
  refine ⟨by rw [dA_app, dA_one, eo]; exact he, hq, h.a, h.b.tail, out_k h.k ⟨.inr (.inl hy), by omega⟩⟩
theorem PsK.keepA {f : Bool} {C : List Atm} {ra lb out : List Dop} {x : Dop} (h : PsK f C (x :: ra) lb out) (hx : x.k = 2) (hc : f = false ∨ (hdO lb).k ≠ 2) : PsK f C ra lb (out ++ [⟨1, (x.t.length : Int), []⟩]) := by
  have eo : opA x = x.t.map .p := by simp [opA, hx]
  have he := h.e
  have hq := h.q
  rw [dA_cons, eo] at he hq
  rw [ov_keeps f x.t _ _ (hc.imp id fun hc => noP h.b hc), ← List.append_assoc] at he
  rw [fr_app, (fr_map_p _).1, Nat.zero_add] at hq
  refine ⟨?_, hq, h.a.tail, h.b, out_k h.k ⟨.inl rfl, by dsimp only; omega⟩⟩
  rw [dA_app, dA_one, show opA (⟨1, (x.t.length : Int), []⟩ : Dop) = List.replicate x.t.length .k by simp [opA]]
  exact he
theorem hd_kinds {l : List Dop} (h : OkO l) (h2 : (hdO l).k ≠ 2) : l = [] ∨ ∃ o r, l = o :: r ∧ (o.k = 1 ∨ o.k = 3) ∧ 1 ≤ o.n ∧ o.t = [] ∧ o.n ≤ 536870912 := by
  cases l with
  | nil => exact .inl rfl
  | cons o r =>
    have ho := h o (by simp)
    have h2 : o.k ≠ 2 := h2
    obtain ⟨s1, s2, s3⟩ := szO_k ho.1 h2
    refine .inr ⟨o, r, rfl, ?_, s3, s2, by have := ho.2; omega⟩
    rcases ho.1 with ⟨h1, _⟩ | ⟨h1, _⟩
    · exact h1
    · exact absurd h1 h2
theorem fr_posS {o : Dop} {r : List Dop} (hk : o.k = 1 ∨ o.k = 3) (hn : 1 ≤ o.n) : 1 ≤ frA (dA (o :: r)) := by
  rw [dA_cons, fr_app]
  rcases hk with hk | hk
  · rw [show opA o = List.replicate o.n.toNat .k by simp [opA, hk], (fr_rep_k _).1]; omega
  · rw [show opA o = List.replicate o.n.toNat .d by simp [opA, hk], (fr_rep_d _).1]; omega
theorem PsK.fin {f : Bool} {C : List Atm} {lb out : List Dop} (h : PsK f C [] lb out) (hb : (hdO lb).k ≠ 2) : lb = [] ∧ dA out = C := by
  have hq := h.q
  rcases hd_kinds h.b hb with rfl | ⟨o, r, rfl, hk, hn, _⟩
  · refine ⟨rfl, ?_⟩
    have := h.e
    rwa [show ovA f (dA []) (dA []) = [] from rfl, List.append_nil] at this
  · have := fr_posS (r := r) hk hn
    rw [show frA (dA ([] : List Dop)) = 0 from rfl] at hq
    omega
theorem cut_at {o : Dop} {r : List Dop} {s : Nat} (h : OkO (o :: r)) (hk : o.k = 1 ∨ o.k = 3) (hs : 1 ≤ s ∧ (s : Int) ≤ o.n) : dA (o :: r) = opA (⟨o.k, (s : Int), []⟩ : Dop) ++ dA (cutL o r s) ∧ OkO (cutL o r s) := by
  have ho := h o (by simp)
  have h2 : o.k ≠ 2 := by omega
  obtain ⟨s1, s2, s3⟩ := szO_k ho.1 h2
  have hb := ho.2
  unfold cutL
  split
  · rename_i hc
    refine ⟨?_, h.tail⟩
    rw [dA_cons]
    congr 1
    rcases hk with hk | hk <;> simp [opA, hk, hc] <;> omega
  · rename_i hc
    refine ⟨?_, fun q hq => ?_⟩
    · rw [dA_cons, dA_cons, ← List.append_assoc]
      congr 1
      rcases hk with hk | hk
      · simp only [opA, hk, if_true]; rw [List.replicate_append_replicate]; congr 1; omega
      · simp only [opA, hk, show ¬ ((3 : Int) = 1) by decide, show ¬ ((3 : Int) = 2) by decide, if_false]; rw [List.replicate_append_replicate]; congr 1; omega
    · rcases List.mem_cons.1 hq with rfl | hq
      · have hp : Pln (⟨o.k, o.n - (s : Int), []⟩ : Dop) := .inl ⟨hk, by dsimp only; omega, rfl⟩
        refine ⟨hp, ?_⟩
        have := (szO_k hp h2).1
        dsimp only at this
        omega
      · exact h.tail q hq
theorem PsK.both {f : Bool} {C : List Atm} {x y : Dop} {ra rb out : List Dop} {s : Nat} (h : PsK f C (x :: ra) (y :: rb) out) (hx : x.k = 1 ∨ x.k = 3) (hy : y.k = 1 ∨ y.k = 3) (hs : 1 ≤ s ∧ (s : Int) ≤ x.n ∧ (s : Int) ≤ y.n) :
    PsK f C (cutL x ra s) (cutL y rb s) (if x.k = 1 then out ++ [⟨y.k, (s : Int), []⟩] else out) := by
  obtain ⟨a1, a2⟩ := cut_at (s := s) h.a hx ⟨hs.1, hs.2.1⟩
  obtain ⟨b1, b2⟩ := cut_at (s := s) h.b hy ⟨hs.1, hs.2.2⟩
  have he := h.e
  have hq := h.q
  rw [a1, b1] at he hq
  have ka : opA (⟨1, (s : Int), []⟩ : Dop) = List.replicate s .k := by simp [opA]
  have kd : opA (⟨3, (s : Int), []⟩ : Dop) = List.replicate s .d := by simp [opA]
  rw [fr_app, fr_app] at hq
  rcases hx with hx | hx <;> rcases hy with hy | hy <;> rw [hx, hy] at he hq <;> simp only [ka, kd, (fr_rep_k _).1, (fr_rep_d _).1] at he hq
  · rw [ov_kk, ← List.append_assoc] at he
    rw [if_pos hx, hy]
    exact ⟨by rw [dA_app, dA_one, ka]; exact he, by omega, a2, b2, out_k h.k ⟨.inl rfl, by dsimp only; omega⟩⟩
  · rw [ov_kd, ← List.append_assoc] at he
    rw [if_pos hx, hy]
    exact ⟨by rw [dA_app, dA_one, kd]; exact he, by omega, a2, b2, out_k h.k ⟨.inr (.inr rfl), by dsimp only; omega⟩⟩
  · rw [ov_dk] at he
    rw [if_neg (by omega)]
    exact ⟨he, by omega, a2, b2, h.k⟩
  · rw [ov_dd] at he
    rw [if_neg (by omega)]
    exact ⟨he, by omega, a2, b2, h.k⟩
theorem cut_len {o : Dop} {r : List Dop} {s : Nat} (h : OkO (o :: r)) (hk : o.k = 1 ∨ o.k = 3) (hs : 1 ≤ s ∧ (s : Int) ≤ o.n) : (dA (cutL o r s)).length < (dA (o :: r)).length := by
  rw [(cut_at h hk hs).1, List.length_append]
  have : (opA (⟨o.k, (s : Int), []⟩ : Dop)).length = s := by rcases hk with hk | hk <;> simp [opA, hk]
  omega
theorem op_len1 {o : Dop} {r : List Dop} (h : OkO (o :: r)) : (dA r).length < (dA (o :: r)).length := by
  rw [dA_cons, List.length_append]
  have : 1 ≤ (opA o).length := by
    have := (szO_i (h o (by simp)).1).2
    unfold szO at this
    exact this
  omega

end Go.Proofs.Ytkmbkoajbmlgaaa
end
