/- Layer 14, plain: one delta's atoms over another's: both orders meet. · Layer 14, plain: passing, operation by operation. · Layer 14: shift's next. · Layer 14: passed: what lies there. -/
import Derived.Test.YtjjdgfjlpkhgcaaMg23
import Derived.Scope
import Derived.Test.YtjjdgfjlpkhgcaaMg22

section
namespace Go.Proofs.Ytjjdgfjlpkhgcaa

/-- puts go first -/
def passP (g : List Atm → List Atm) : List Atm → List Atm
  | .p y :: b => .p y :: passP g b
  | b => g b
def byK (g : List Atm → List Atm) : List Atm → List Atm
  | .k :: b => .k :: g b
  | .d :: b => .d :: g b
  | b => g b
def byD (g : List Atm → List Atm) : List Atm → List Atm
  | .k :: b => g b
  | .d :: b => g b
  | b => g b
/-- the second over the first -/
def ovA (f : Bool) : List Atm → List Atm → List Atm
  | [] => putsA
  | .p _ :: a => if f then passP (fun b => .k :: ovA f a b) else fun b => .k :: ovA f a b
  | .k :: a => passP (byK (ovA f a))
  | .d :: a => passP (byD (ovA f a))
theorem ov_put (f : Bool) : ∀ (a : List Atm) (y : Int) (b : List Atm), (f = true ∨ ∀ x r, a ≠ .p x :: r) → ovA f a (.p y :: b) = .p y :: ovA f a b
  | [], _, _, _ => rfl
  | .k :: _, _, _, _ => rfl
  | .d :: _, _, _, _ => rfl
  | .p x :: a, y, b, h => by
    rcases h with rfl | h
    · rfl
    · exact absurd rfl (h x a)
theorem ov_puts (f : Bool) : ∀ (t : List Int) (a b : List Atm), (f = true ∨ ∀ x r, a ≠ .p x :: r) → ovA f a (t.map .p ++ b) = t.map .p ++ ovA f a b
  | [], _, _, _ => rfl
  | y :: t, a, b, h => by
    rw [List.map_cons, List.cons_append, ov_put f a y _ h, ov_puts f t a b h]; rfl
theorem ov_keep (f : Bool) (x : Int) (a b : List Atm) (h : f = false ∨ ∀ y r, b ≠ .p y :: r) : ovA f (.p x :: a) b = .k :: ovA f a b := by
  cases f with
  | false => rfl
  | true =>
    rcases h with h | h
    · cases h
    · cases b with
      | nil => rfl
      | cons z b => cases z with
        | p y => exact absurd rfl (h y b)
        | k => rfl
        | d => rfl
theorem ov_keeps (f : Bool) : ∀ (t : List Int) (a b : List Atm), (f = false ∨ ∀ y r, b ≠ .p y :: r) → ovA f (t.map .p ++ a) b = List.replicate t.length .k ++ ovA f a b
  | [], _, _, _ => rfl
  | x :: t, a, b, h => by
    rw [List.map_cons, List.cons_append, ov_keep f x _ b h, ov_keeps f t a b h, List.length_cons, List.replicate_succ]; rfl
theorem ov_kk (f : Bool) : ∀ (n : Nat) (a b : List Atm), ovA f (List.replicate n .k ++ a) (List.replicate n .k ++ b) = List.replicate n .k ++ ovA f a b
  | 0, _, _ => rfl
  | n + 1, a, b => by rw [List.replicate_succ, List.cons_append, List.cons_append, List.cons_append, ← ov_kk f n a b]; rfl
theorem ov_kd (f : Bool) : ∀ (n : Nat) (a b : List Atm), ovA f (List.replicate n .k ++ a) (List.replicate n .d ++ b) = List.replicate n .d ++ ovA f a b
  | 0, _, _ => rfl
  | n + 1, a, b => by rw [List.replicate_succ, List.replicate_succ, List.cons_append, List.cons_append, List.cons_append, ← ov_kd f n a b]; rfl
theorem ov_dk (f : Bool) : ∀ (n : Nat) (a b : List Atm), ovA f (List.replicate n .d ++ a) (List.replicate n .k ++ b) = ovA f a b
  | 0, _, _ => rfl
  | n + 1, a, b => by rw [List.replicate_succ, List.replicate_succ, List.cons_append, List.cons_append, ← ov_dk f n a b]; rfl
theorem ov_dd (f : Bool) : ∀ (n : Nat) (a b : List Atm), ovA f (List.replicate n .d ++ a) (List.replicate n .d ++ b) = ovA f a b
  | 0, _, _ => rfl
  | n + 1, a, b => by rw [List.replicate_succ, List.cons_append, List.cons_append, ← ov_dd f n a b]; rfl
/-- both orders meet -/
theorem ov_meet : ∀ (n : Nat) (a b : List Atm), a.length + b.length ≤ n → frA a = frA b → nfA (cmpA a (ovA false a b)) = nfA (cmpA b (ovA true b a))
  | _, [], [], _, _ => rfl
  | 0, _ :: _, _, h, _ => by simp at h
  | 0, [], _ :: _, h, _ => by simp at h
  | n + 1, [], .p y :: b, h, hf => by
    have ih := ov_meet n [] b (by simp at h ⊢; omega) (by simpa [frA] using hf)
    show Atm.p y :: nfA (cmpA [] (ovA false [] b)) = .p y :: nfA (cmpA b (ovA true b []))
    rw [ih]
  | n + 1, [], .k :: b, h, hf => by simp [frA] at hf
  | n + 1, [], .d :: b, h, hf => by simp [frA] at hf
  | n + 1, .p x :: a, b, h, hf => by
    have ih := ov_meet n a b (by simp at h ⊢; omega) (by simpa [frA] using hf)
    rw [ov_put true b x a (.inl rfl), cmp_put]
    show Atm.p x :: nfA (cmpA a (ovA false a b)) = _
    rw [ih]
  | n + 1, .k :: a, [], h, hf => by simp [frA] at hf
  | n + 1, .k :: a, .p y :: b, h, hf => by
    have ih := ov_meet n (.k :: a) b (by simp at h ⊢; omega) (by simpa [frA] using hf)
    rw [ov_put false (.k :: a) y b (.inr fun _ _ e => by cases e), cmp_put, ih]
    rfl
  | n + 1, .k :: a, .k :: b, h, hf => by
    have ih := ov_meet n a b (by simp at h ⊢; omega) (by simpa [frA] using hf)
    show Atm.k :: nfA (cmpA a (ovA false a b)) = .k :: nfA (cmpA b (ovA true b a))
    rw [ih]
  | n + 1, .k :: a, .d :: b, h, hf => by
    have ih := ov_meet n a b (by simp at h ⊢; omega) (by simpa [frA] using hf)
    show insD (nfA (cmpA a (ovA false a b))) = insD (nfA (cmpA b (ovA true b a)))
    rw [ih]
  | n + 1, .d :: a, [], h, hf => by simp [frA] at hf
  | n + 1, .d :: a, .p y :: b, h, hf => by
    have ih := ov_meet n (.d :: a) b (by simp at h ⊢; omega) (by simpa [frA] using hf)
    rw [ov_put false (.d :: a) y b (.inr fun _ _ e => by cases e), cmp_put, ih]
    rfl
  | n + 1, .d :: a, .k :: b, h, hf => by
    have ih := ov_meet n a b (by simp at h ⊢; omega) (by simpa [frA] using hf)
    show insD (nfA (cmpA a (ovA false a b))) = insD (nfA (cmpA b (ovA true b a)))
    rw [ih]
  | n + 1, .d :: a, .d :: b, h, hf => by
    have ih := ov_meet n a b (by simp at h ⊢; omega) (by simpa [frA] using hf)
    show insD (nfA (cmpA a (ovA false a b))) = insD (nfA (cmpA b (ovA true b a)))
    rw [ih]
/-- its sizes -/
theorem puts_fr : ∀ b : List Atm, frA b = 0 → frA (putsA b) = 0 ∧ toA (putsA b) = toA b
  | [], _ => ⟨rfl, rfl⟩
  | .p y :: b, h => by
    have := puts_fr b (by simpa [frA] using h)
    simp only [putsA, frA, toA]
    exact ⟨this.1, by rw [this.2]⟩
  | .k :: b, h => by simp [frA] at h
  | .d :: b, h => by simp [frA] at h
theorem ov_fr (f : Bool) : ∀ (n : Nat) (a b : List Atm), a.length + b.length ≤ n → frA a = frA b → frA (ovA f a b) = toA a
  | _, [], b, _, hf => (puts_fr b hf.symm).1
  | 0, _ :: _, _, h, _ => by simp at h
  | n + 1, .p x :: a, b, h, hf => by
    cases f with
    | false =>
      have ih := ov_fr false n a b (by simp at h ⊢; omega) (by simpa [frA] using hf)
      show frA (.k :: ovA false a b) = _
      simp only [frA, toA, ih]
    | true =>
      cases b with
      | nil =>
        have ih := ov_fr true n a [] (by simp at h ⊢; omega) (by simpa [frA] using hf)
        show frA (.k :: ovA true a []) = _
        simp only [frA, toA, ih]
      | cons z b => cases z with
        | p y =>
          have ih := ov_fr true n (.p x :: a) b (by simp at h ⊢; omega) (by simpa [frA] using hf)
          rw [ov_put true _ y b (.inl rfl)]
          exact ih
        | k =>
          have ih := ov_fr true n a (.k :: b) (by simp at h ⊢; omega) (by simpa [frA] using hf)
          show frA (.k :: ovA true a (.k :: b)) = _
          simp only [frA, toA, ih]
        | d =>
          have ih := ov_fr true n a (.d :: b) (by simp at h ⊢; omega) (by simpa [frA] using hf)
          show frA (.k :: ovA true a (.d :: b)) = _
          simp only [frA, toA, ih]
  | n + 1, .k :: a, [], h, hf => by simp [frA] at hf
  | n + 1, .k :: a, .p y :: b, h, hf => by
    have ih := ov_fr f n (.k :: a) b (by simp at h ⊢; omega) (by simpa [frA] using hf)
    rw [ov_put f _ y b (.inr fun _ _ e => by cases e)]
    exact ih
  | n + 1, .k :: a, .k :: b, h, hf => by
    have ih := ov_fr f n a b (by simp at h ⊢; omega) (by simpa [frA] using hf)
    show frA (.k :: ovA f a b) = _
    simp only [frA, toA, ih]
  | n + 1, .k :: a, .d :: b, h, hf => by
    have ih := ov_fr f n a b (by simp at h ⊢; omega) (by simpa [frA] using hf)
    show frA (.d :: ovA f a b) = _
    simp only [frA, toA, ih]
  | n + 1, .d :: a, [], h, hf => by simp [frA] at hf
  | n + 1, .d :: a, .p y :: b, h, hf => by
    have ih := ov_fr f n (.d :: a) b (by simp at h ⊢; omega) (by simpa [frA] using hf)
    rw [ov_put f _ y b (.inr fun _ _ e => by cases e)]
    exact ih
  | n + 1, .d :: a, .k :: b, h, hf => by
    have ih := ov_fr f n a b (by simp at h ⊢; omega) (by simpa [frA] using hf)
    show frA (ovA f a b) = _
    simp only [toA, ih]
  | n + 1, .d :: a, .d :: b, h, hf => by
    have ih := ov_fr f n a b (by simp at h ⊢; omega) (by simpa [frA] using hf)
    show frA (ovA f a b) = _
    simp only [toA, ih]
/-- what keeps all -/
theorem ov_id (f : Bool) : ∀ (b : List Atm), ovA f (List.replicate (frA b) .k) b = b
  | [] => rfl
  | .p y :: b => by
    rw [show frA (.p y :: b) = frA b from rfl, ov_put f _ y b (.inr fun x r e => by cases h : frA b with | zero => rw [h] at e; cases e | succ m => rw [h, List.replicate_succ] at e; cases e), ov_id f b]
  | .k :: b => by
    rw [show frA (.k :: b) = frA b + 1 by simp [frA]; try omega, List.replicate_succ]
    show Atm.k :: ovA f (List.replicate (frA b) .k) b = _
    rw [ov_id f b]
  | .d :: b => by
    rw [show frA (.d :: b) = frA b + 1 by simp [frA]; try omega, List.replicate_succ]
    show Atm.d :: ovA f (List.replicate (frA b) .k) b = _
    rw [ov_id f b]
theorem ov_all (f : Bool) : ∀ (a : List Atm), ovA f a (List.replicate (frA a) .k) = List.replicate (toA a) .k
  | [] => rfl
  | .p x :: a => by
    rw [ov_keep f x a _ (.inr fun y r e => by cases h : frA a with | zero => rw [show frA (.p x :: a) = frA a from rfl, h] at e; cases e | succ m => rw [show frA (.p x :: a) = frA a from rfl, h, List.replicate_succ] at e; cases e)]
    rw [show frA (.p x :: a) = frA a from rfl, ov_all f a, show toA (.p x :: a) = toA a + 1 by simp [toA]; try omega, List.replicate_succ]
  | .k :: a => by
    rw [show frA (.k :: a) = frA a + 1 by simp [frA]; try omega, List.replicate_succ, show toA (.k :: a) = toA a + 1 by simp [toA]; try omega, List.replicate_succ]
    show Atm.k :: ovA f a (List.replicate (frA a) .k) = _
    rw [ov_all f a]
  | .d :: a => by
    rw [show frA (.d :: a) = frA a + 1 by simp [frA]; try omega, List.replicate_succ]
    show ovA f a (List.replicate (frA a) .k) = _
    rw [ov_all f a]; rfl

end Go.Proofs.Ytjjdgfjlpkhgcaa
end

section
namespace Go.Proofs.Ytjjdgfjlpkhgcaa

/-- the first operation of a list; of none one that does nothing -/
def hdO (r : List Dop) : Dop := r.headD opZ
/-- what is left of an operation that keeps or drops -/
def cutL (o : Dop) (r : List Dop) (s : Nat) : List Dop := if s = o.n.toNat then r else ⟨o.k, o.n - s, []⟩ :: r
def OkO (l : List Dop) : Prop := ∀ o ∈ l, Pln o ∧ szO o ≤ 536870912
/-- in the midst of it -/
structure PsK (f : Bool) (C : List Atm) (la lb out : List Dop) : Prop where
  e : dA out ++ ovA f (dA la) (dA lb) = C
  q : frA (dA la) = frA (dA lb)
  a : OkO la
  b : OkO lb
  k : ∀ o ∈ out, (o.k = 1 ∨ o.k = 2 ∨ o.k = 3) ∧ 0 ≤ o.n
theorem noP {l : List Dop} (h : OkO l) (hk : (hdO l).k ≠ 2) : ∀ x r, dA l ≠ .p x :: r := fun x r e => by
  cases l with
  | nil => cases e
  | cons o l =>
    rw [dA_cons] at e
    exact hk (opA_put (h o (by simp)).1 (dA l) e)
theorem OkO.tail {o : Dop} {l : List Dop} (h : OkO (o :: l)) : OkO l := fun q hq => h q (by simp [hq])
theorem out_k {out : List Dop} (h : ∀ o ∈ out, (o.k = 1 ∨ o.k = 2 ∨ o.k = 3) ∧ 0 ≤ o.n) {y : Dop} (hy : (y.k = 1 ∨ y.k = 2 ∨ y.k = 3) ∧ 0 ≤ y.n) : ∀ o ∈ out ++ [y], (o.k = 1 ∨ o.k = 2 ∨ o.k = 3) ∧ 0 ≤ o.n := fun o ho => by
  rcases List.mem_append.1 ho with ho | ho
  · exact h o ho
  · obtain rfl : o = y := by simpa using ho
    exact hy
theorem PsK.putB {f : Bool} {C : List Atm} {la rb out : List Dop} {y : Dop} (h : PsK f C la (y :: rb) out) (hy : y.k = 2) (hc : f = true ∨ (hdO la).k ≠ 2) : PsK f C la rb (out ++ [y]) := by
  obtain ⟨p1, p2, p3⟩ := szO_p (h.b y (by simp)).1 hy
  have eo : opA y = y.t.map .p := by simp [opA, hy]
  have he := h.e
  have hq := h.q
  rw [dA_cons, eo] at he hq
  rw [ov_puts f y.t _ _ (hc.imp id fun hc => noP h.a hc), ← List.append_assoc] at he
  rw [fr_app, (fr_map_p _).1, Nat.zero_add] at hq
  refine ⟨by rw [dA_app, dA_one, eo]; exact he, hq, h.a, h.b.tail, out_k h.k ⟨.inr (.inl hy), by omega⟩⟩
theorem PsK.keepA {f : Bool} {C : List Atm} {ra lb out : List Dop} {x : Dop} (h : PsK f C (x :: ra) lb out) (hx : x.k = 2) (hc : f = false ∨ (hdO lb).k ≠ 2) : PsK f C ra lb (out ++ [⟨1, (x.t.length : Int), []⟩]) := by
  have eo : opA x = x.t.map .p := by simp [opA, hx]
  have he := h.e
  have hq := h.q
  rw [dA_cons, eo] at he hq
  rw [ov_keeps f x.t _ _ (hc.imp id fun hc => noP h.b hc), ← List.append_assoc] at he
  rw [fr_app, (fr_map_p _).1, Nat.zero_add] at hq
  refine ⟨?_, hq, h.a.tail, h.b, out_k h.k ⟨.inl rfl, by dsimp only; omega⟩⟩
  rw [dA_app, dA_one, show opA (⟨1, (x.t.length : Int), []⟩ : Dop) = List.replicate x.t.length .k by simp [opA]]
  exact he
theorem hd_kinds {l : List Dop} (h : OkO l) (h2 : (hdO l).k ≠ 2) : l = [] ∨ ∃ o r, l = o :: r ∧ (o.k = 1 ∨ o.k = 3) ∧ 1 ≤ o.n ∧ o.t = [] ∧ o.n ≤ 536870912 := by
  cases l with
  | nil => exact .inl rfl
  | cons o r =>
    have ho := h o (by simp)
    have h2 : o.k ≠ 2 := h2
    obtain ⟨s1, s2, s3⟩ := szO_k ho.1 h2
    refine .inr ⟨o, r, rfl, ?_, s3, s2, by have := ho.2; omega⟩
    rcases ho.1 with ⟨h1, _⟩ | ⟨h1, _⟩
    · exact h1
    · exact absurd h1 h2
theorem fr_posS {o : Dop} {r : List Dop} (hk : o.k = 1 ∨ o.k = 3) (hn : 1 ≤ o.n) : 1 ≤ frA (dA (o :: r)) := by
  rw [dA_cons, fr_app]
  rcases hk with hk | hk
  · rw [show opA o = List.replicate o.n.toNat .k by simp [opA, hk], (fr_rep_k _).1]; omega
  · rw [show opA o = List.replicate o.n.toNat .d by simp [opA, hk], (fr_rep_d _).1]; omega
theorem PsK.fin {f : Bool} {C : List Atm} {lb out : List Dop} (h : PsK f C [] lb out) (hb : (hdO lb).k ≠ 2) : lb = [] ∧ dA out = C := by
  have hq := h.q
  rcases hd_kinds h.b hb with rfl | ⟨o, r, rfl, hk, hn, _⟩
  · refine ⟨rfl, ?_⟩
    have := h.e
    rwa [show ovA f (dA []) (dA []) = [] from rfl, List.append_nil] at this
  · have := fr_posS (r := r) hk hn
    rw [show frA (dA ([] : List Dop)) = 0 from rfl] at hq
    omega
theorem cut_at {o : Dop} {r : List Dop} {s : Nat} (h : OkO (o :: r)) (hk : o.k = 1 ∨ o.k = 3) (hs : 1 ≤ s ∧ (s : Int) ≤ o.n) : dA (o :: r) = opA (⟨o.k, (s : Int), []⟩ : Dop) ++ dA (cutL o r s) ∧ OkO (cutL o r s) := by
  have ho := h o (by simp)
  have h2 : o.k ≠ 2 := by omega
  obtain ⟨s1, s2, s3⟩ := szO_k ho.1 h2
  have hb := ho.2
  unfold cutL
  split
  · rename_i hc
    refine ⟨?_, h.tail⟩
    rw [dA_cons]
    congr 1
    rcases hk with hk | hk <;> simp [opA, hk, hc] <;> omega
  · rename_i hc
    refine ⟨?_, fun q hq => ?_⟩
    · rw [dA_cons, dA_cons, ← List.append_assoc]
      congr 1
      rcases hk with hk | hk
      · simp only [opA, hk, if_true]; rw [List.replicate_append_replicate]; congr 1; omega
      · simp only [opA, hk, show ¬ ((3 : Int) = 1) by decide, show ¬ ((3 : Int) = 2) by decide, if_false]; rw [List.replicate_append_replicate]; congr 1; omega
    · rcases List.mem_cons.1 hq with rfl | hq
      · have hp : Pln (⟨o.k, o.n - (s : Int), []⟩ : Dop) := .inl ⟨hk, by dsimp only; omega, rfl⟩
        refine ⟨hp, ?_⟩
        have := (szO_k hp h2).1
        dsimp only at this
        omega
      · exact h.tail q hq
theorem PsK.both {f : Bool} {C : List Atm} {x y : Dop} {ra rb out : List Dop} {s : Nat} (h : PsK f C (x :: ra) (y :: rb) out) (hx : x.k = 1 ∨ x.k = 3) (hy : y.k = 1 ∨ y.k = 3) (hs : 1 ≤ s ∧ (s : Int) ≤ x.n ∧ (s : Int) ≤ y.n) :
    PsK f C (cutL x ra s) (cutL y rb s) (if x.k = 1 then out ++ [⟨y.k, (s : Int), []⟩] else out) := by
  obtain ⟨a1, a2⟩ := cut_at (s := s) h.a hx ⟨hs.1, hs.2.1⟩
  obtain ⟨b1, b2⟩ := cut_at (s := s) h.b hy ⟨hs.1, hs.2.2⟩
  have he := h.e
  have hq := h.q
  rw [a1, b1] at he hq
  have ka : opA (⟨1, (s : Int), []⟩ : Dop) = List.replicate s .k := by simp [opA]
  have kd : opA (⟨3, (s : Int), []⟩ : Dop) = List.replicate s .d := by simp [opA]
  rw [fr_app, fr_app] at hq
  rcases hx with hx | hx <;> rcases hy with hy | hy <;> rw [hx, hy] at he hq <;> simp only [ka, kd, (fr_rep_k _).1, (fr_rep_d _).1] at he hq
  · rw [ov_kk, ← List.append_assoc] at he
    rw [if_pos hx, hy]
    exact ⟨by rw [dA_app, dA_one, ka]; exact he, by omega, a2, b2, out_k h.k ⟨.inl rfl, by dsimp only; omega⟩⟩
  · rw [ov_kd, ← List.append_assoc] at he
    rw [if_pos hx, hy]
    exact ⟨by rw [dA_app, dA_one, kd]; exact he, by omega, a2, b2, out_k h.k ⟨.inr (.inr rfl), by dsimp only; omega⟩⟩
  · rw [ov_dk] at he
    rw [if_neg (by omega)]
    exact ⟨he, by omega, a2, b2, h.k⟩
  · rw [ov_dd] at he
    rw [if_neg (by omega)]
    exact ⟨he, by omega, a2, b2, h.k⟩
theorem cut_len {o : Dop} {r : List Dop} {s : Nat} (h : OkO (o :: r)) (hk : o.k = 1 ∨ o.k = 3) (hs : 1 ≤ s ∧ (s : Int) ≤ o.n) : (dA (cutL o r s)).length < (dA (o :: r)).length := by
  rw [(cut_at h hk hs).1, List.length_append]
  have : (opA (⟨o.k, (s : Int), []⟩ : Dop)).length = s := by rcases hk with hk | hk <;> simp [opA, hk]
  omega
theorem op_len1 {o : Dop} {r : List Dop} (h : OkO (o :: r)) : (dA r).length < (dA (o :: r)).length := by
  rw [dA_cons, List.length_append]
  have : 1 ≤ (opA o).length := by
    have := (szO_i (h o (by simp)).1).2
    unfold szO at this
    exact this
  omega

end Go.Proofs.Ytjjdgfjlpkhgcaa
end

section
namespace Go.Proofs.Ytjjdgfjlpkhgcaa
open Go.ChangeShapes Go.WideShapes Go.ChangeAt Go.RowKit
attribute [local go_sem] Oper.semAt_some



def opG (o : Dop) : Value := .agg #[.int .i64 o.k, .int .i64 o.n, .string (strOfNums o.t)]
/-- a variable that holds a list which lies there -/
structure IsLs (w X : World) (g : Nat) (r : List Dop) : Prop where
  c : ∃ a c, Cls X g 24 #[.slice a r.length c] ∧ IsO w a r ∧ r.length ≤ c
  z : w.heap.size ≤ g
set_option maxRecDepth 100000 in
set_option maxHeartbeats 2000000 in
theorem next_at (w X : World) (g : Nat) (r : List Dop) (h : IsLs w X g r) (hd : Below w.heap.size w X) :
    Calls Try.prog 81 #[.pointer (some ⟨g, 0, none⟩)] X fun y X' => y = .returned (opG (hdO r)) ∧ IsLs w X' g r.tail ∧ X.grownBy X' (some g) := by
  obtain ⟨a, c, h1, h2, h3⟩ := h.c
  have hz := h.z
  have c0 : X.cell? ⟨g, 0, none⟩ = some (.slice a r.length c) := h1.cell 0
  cases r with
  | nil =>
    have b0 := (Cls.alloc h1 (.cells #[.int .i64 0, .int .i64 0, .string ⟨#[]⟩] 34))
    have c1 : (X.alloc (.cells #[.int .i64 0, .int .i64 0, .string ⟨#[]⟩] 34)).cell? ⟨g, 0, none⟩ = some (.slice a 0 c) := b0.cell 0
    have HR : Hid (IsLs w (X.alloc (.cells #[.int .i64 0, .int .i64 0, .string ⟨#[]⟩] 34)) g []) := hide ⟨⟨a, c, b0, h2, h3⟩, hz⟩
    have hG := World.grownBy_alloc X (.cells #[.int .i64 0, .int .i64 0, .string ⟨#[]⟩] 34) (some g)
    have HG := hide hG
    obtain ⟨q0, q1, q2⟩ := three_nwD X (.int .i64 0) (.int .i64 0) (.string ⟨#[]⟩) (t := 34)
    clear h h1 h2 h3 hz hd c0 b0 hG
    go_enter Try.func81, Try.ntmps81
    go_wp2_with fail
    exact bodyPost_ret (v := opG (hdO [])) (by simp [results, Try.results81, go_sem, q0, q1, q2, opG, hdO, opZ]; rfl) rfl ⟨rfl, unhide HR, unhide HG⟩
  | cons o r =>
    obtain ⟨ga, off, hga, hg, e0, e1, e2⟩ := (h2.below hd (Nat.le_refl _)).three (k := 0) (by simp)
    subst hga
    have hT := h2.tail h3
    rw [Option.map_some, Addr.add_lit] at hT
    simp only [List.getD_cons_zero, Nat.zero_mul, Nat.add_zero] at e0 e1 e2
    have hgl : ga < w.heap.size := by
      rcases h2 with h2 | ⟨g', off', e, hh, _⟩
      · cases h2
      · cases e; exact hh
    have k1 : Cls (X.alloc (.cells #[.int .i64 0, .int .i64 0, .string ⟨#[]⟩] 34)) g 24 #[.slice (some ⟨ga, off, none⟩) (o :: r).length c] := Cls.alloc h1 _
    have kR : Cls (X.alloc (.cells #[.int .i64 0, .int .i64 0, .string ⟨#[]⟩] 34)) X.heap.size 34 #[.int .i64 0, .int .i64 0, .string ⟨#[]⟩] := Cls.new X _ _
    have bX : Below X.heap.size X (X.alloc (.cells #[.int .i64 0, .int .i64 0, .string ⟨#[]⟩] 34)) := (Below.refl _ _).alloc (Nat.le_refl _) _
    have f0 : (X.alloc (.cells #[.int .i64 0, .int .i64 0, .string ⟨#[]⟩] 34)).cell? ⟨ga, off, none⟩ = some (.int .i64 o.k) := by rw [bX.cell (p := ⟨ga, off, none⟩) hg]; exact e0
    have f1 : (X.alloc (.cells #[.int .i64 0, .int .i64 0, .string ⟨#[]⟩] 34)).cell? ⟨ga, off + 1, none⟩ = some (.int .i64 o.n) := by rw [bX.cell (p := ⟨ga, off + 1, none⟩) hg]; exact e1
    have f2 : (X.alloc (.cells #[.int .i64 0, .int .i64 0, .string ⟨#[]⟩] 34)).cell? ⟨ga, off + 2, none⟩ = some (.string (strOfNums o.t)) := by rw [bX.cell (p := ⟨ga, off + 2, none⟩) hg]; exact e2
    have hG := World.grownBy_alloc X (.cells #[.int .i64 0, .int .i64 0, .string ⟨#[]⟩] 34) (some g)
    have hgX : g < X.heap.size := h1.lt
    clear h h1 c0 e0 e1 e2 bX
    have hl1 : 0 < (o :: r).length := by simp
    obtain ⟨ok, on, ot⟩ := o
    dsimp only at f0 f1 f2
    have HG := hide hG
    have HKR := hide kR
    have HK1 := hide k1
    have HT := hide hT
    have c1 : (X.alloc (.cells #[.int .i64 0, .int .i64 0, .string ⟨#[]⟩] 34)).cell? ⟨g, 0, none⟩ = some (.slice (some ⟨ga, off, none⟩) (Dop.mk ok on ot :: r).length c) := k1.cell 0
    have HZ := hide (And.intro hz hgX)
    clear hG kR k1 hT hz hd h2 hgl hgX
    go_enter Try.func81, Try.ntmps81
    go_upto_region 1 with fail
    generalize X.alloc (.cells #[.int .i64 0, .int .i64 0, .string ⟨#[]⟩] 34) = W1 at *
    have hlen : (Dop.mk ok on ot :: r).length = r.length + 1 := rfl
    have t0 : (((r.length : Int) + 1) == 0) = false := by simp; omega
    have t0' : ((((Dop.mk ok on ot :: r).length : Nat) : Int) == 0) = false := by simp; omega
    go_upto_region 4 with fail
    have k2 := Cls.alloc (unhide HK1) (.cells #[.int .i64 ok, .int .i64 on, .string (strOfNums ot)] 34)
    have kr2 := Cls.alloc (unhide HKR) (.cells #[.int .i64 ok, .int .i64 on, .string (strOfNums ot)] 34)
    have kn2 := Cls.new W1 34 #[.int .i64 ok, .int .i64 on, .string (strOfNums ot)]
    have hg2 := grown_trans (unhide HG) (World.grownBy_alloc W1 (.cells #[.int .i64 ok, .int .i64 on, .string (strOfNums ot)] 34) none) (fun k e => by cases e)
    have hne1 : X.heap.size ≠ W1.heap.size := by have := (unhide HKR).lt; omega
    have hne2 : g ≠ W1.heap.size := by have := (unhide HK1).lt; omega
    have hne3 : g ≠ X.heap.size := by have := (unhide HZ).2; omega
    clear f0 f1 f2 c1 HK1 HKR HG
    generalize W1.alloc (.cells #[.int .i64 ok, .int .i64 on, .string (strOfNums ot)] 34) = W2 at *
    generalize W1.heap.size = g2 at *
    have HXG := hide (Nat.le_refl X.heap.size)
    have c2 : W2.cell? ⟨g, 0, none⟩ = some (.slice (some ⟨ga, off, none⟩) (Dop.mk ok on ot :: r).length c) := k2.cell 0
    have fz : W2.frozen? ⟨g, 0, none⟩ = false := by
      have : W2.heap[g]? = _ := k2
      simp [World.frozen?, this]
    have HK2 := hide k2
    have HKR2 := hide kr2
    have HKN2 := hide kn2
    have HG2 := hide hg2
    clear k2 kr2 kn2 hg2
    go_upto_region 5 with fail
    have k3 : Cls (W2.setCell ⟨g, 0, none⟩ (.slice (if c = 1 then some ⟨ga, off, none⟩ else some ⟨ga, off + 3, none⟩) r.length (c - 1))) g 24 #[.slice (if c = 1 then some ⟨ga, off, none⟩ else some ⟨ga, off + 3, none⟩) r.length (c - 1)] := (unhide HK2).set 0 (.slice (if c = 1 then some ⟨ga, off, none⟩ else some ⟨ga, off + 3, none⟩) r.length (c - 1))
    have kr3 := (unhide HKR2).other ⟨g, 0, none⟩ (.slice (if c = 1 then some ⟨ga, off, none⟩ else some ⟨ga, off + 3, none⟩) r.length (c - 1)) (fun e => hne3 e.symm)
    have kn3 := (unhide HKN2).other ⟨g, 0, none⟩ (.slice (if c = 1 then some ⟨ga, off, none⟩ else some ⟨ga, off + 3, none⟩) r.length (c - 1)) (fun e => hne2 e.symm)
    have hg3 := grown_trans (unhide HG2) (grown_set W2 g 0 (.slice (if c = 1 then some ⟨ga, off, none⟩ else some ⟨ga, off + 3, none⟩) r.length (c - 1))) (fun k e => .inl (by cases e; rfl))
    clear c2 fz HK2 HKR2 HKN2 HG2
    have HR3 : Hid (IsLs w (W2.setCell ⟨g, 0, none⟩ (.slice (if c = 1 then some ⟨ga, off, none⟩ else some ⟨ga, off + 3, none⟩) r.length (c - 1))) g r) := hide ⟨⟨_, c - 1, k3, unhide HT, by simp only [List.length_cons] at h3; omega⟩, (unhide HZ).1⟩
    have HK3 := hide k3
    clear k3 HR3
    generalize W2.setCell ⟨g, 0, none⟩ (.slice (if c = 1 then some ⟨ga, off, none⟩ else some ⟨ga, off + 3, none⟩) r.length (c - 1)) = W3 at *
    have HCT := hide (And.intro (unhide HT) (show r.length ≤ c - 1 by simp only [List.length_cons] at h3; omega))
    clear HT h3
    generalize (if c = 1 then some (⟨ga, off, none⟩ : Addr) else some ⟨ga, off + 3, none⟩) = aq at *
    generalize c - 1 = cq at *
    have m0 : W3.cell? ⟨g2, 0, none⟩ = some (.int .i64 ok) := kn3.cell 0
    have m1 : W3.cell? ⟨g2, 1, none⟩ = some (.int .i64 on) := kn3.cell 1
    have m2 : W3.cell? ⟨g2, 2, none⟩ = some (.string (strOfNums ot)) := kn3.cell 2
    have r0 : W3.cell? ⟨X.heap.size, 0, none⟩ = some (.int .i64 0) := kr3.cell 0
    have r1 : W3.cell? ⟨X.heap.size, 1, none⟩ = some (.int .i64 0) := kr3.cell 1
    have r2 : W3.cell? ⟨X.heap.size, 2, none⟩ = some (.string ⟨#[]⟩) := kr3.cell 2
    have zf : ∀ j, W3.frozen? ⟨X.heap.size, j, none⟩ = false := fun j => by
      have : W3.heap[X.heap.size]? = _ := kr3
      simp [World.frozen?, this]
    have z0 := zf 0
    have z1 := zf 1
    have z2 := zf 2
    have HKR3 := hide kr3
    have HG3 := hide hg3
    clear kr3 kn3 hg3 zf
    clear t0 t0'
    go_wp2_with fail
    have k4 := (((unhide HKR3).set 0 (.int .i64 ok)).set 1 (.int .i64 on)).set 2 (.string (strOfNums ot))
    have b4 := (((unhide HK3).other ⟨X.heap.size, 0, none⟩ (.int .i64 ok) hne3).other ⟨X.heap.size, 1, none⟩ (.int .i64 on) hne3).other ⟨X.heap.size, 2, none⟩ (.string (strOfNums ot)) hne3
    have g4 := grown_trans (grown_trans (grown_trans (unhide HG3) (grown_set W3 (X.heap.size) 0 (.int .i64 ok)) (fun k e => by cases e; exact .inr (unhide HXG))) (grown_set _ (X.heap.size) 1 (.int .i64 on)) (fun k e => by cases e; exact .inr (unhide HXG))) (grown_set _ (X.heap.size) 2 (.string (strOfNums ot))) (fun k e => by cases e; exact .inr (unhide HXG))
    generalize ((W3.setCell ⟨X.heap.size, 0, none⟩ (.int .i64 ok)).setCell ⟨X.heap.size, 1, none⟩ (.int .i64 on)).setCell ⟨X.heap.size, 2, none⟩ (.string (strOfNums ot)) = W4 at *
    have q0 : W4.cell? ⟨X.heap.size, 0, none⟩ = some (.int .i64 ok) := k4.cell 0
    have q1 : W4.cell? ⟨X.heap.size, 1, none⟩ = some (.int .i64 on) := k4.cell 1
    have q2 : W4.cell? ⟨X.heap.size, 2, none⟩ = some (.string (strOfNums ot)) := k4.cell 2
    exact bodyPost_ret (v := opG (Dop.mk ok on ot)) (by simp [results, Try.results81, go_sem, q0, q1, q2, opG]) rfl ⟨rfl, ⟨⟨aq, cq, b4, (unhide HCT).1, (unhide HCT).2⟩, (unhide HZ).1⟩, g4⟩

end Go.Proofs.Ytjjdgfjlpkhgcaa
end

section
namespace Go.Proofs.Ytjjdgfjlpkhgcaa
open Go.ChangeShapes Go.WideShapes Go.ChangeAt Go.RowKit
attribute [local go_sem] Oper.semAt_some

def opC3 (o : Dop) : Array Value := #[.int .i64 o.k, .int .i64 o.n, .string (strOfNums o.t)]
def put3 (X : World) (g : Nat) (o : Dop) : World := ((X.setCell ⟨g, 0, none⟩ (.int .i64 o.k)).setCell ⟨g, 1, none⟩ (.int .i64 o.n)).setCell ⟨g, 2, none⟩ (.string (strOfNums o.t))
theorem put3_heap (X : World) (g : Nat) (o : Dop) (i : Nat) (h : i ≠ g) : (put3 X g o).heap[i]? = X.heap[i]? := by
  unfold put3
  rw [Below.heap_setCell _ ⟨g, 2, none⟩ _ i h, Below.heap_setCell _ ⟨g, 1, none⟩ _ i h, Below.heap_setCell _ ⟨g, 0, none⟩ _ i h]
theorem put3_cls {X : World} {g : Nat} {p o : Dop} (h : Cls X g 34 (opC3 p)) : Cls (put3 X g o) g 34 (opC3 o) := ((h.set 0 (.int .i64 o.k)).set 1 (.int .i64 o.n)).set 2 (.string (strOfNums o.t))
theorem put3_below {B : Nat} {w X : World} {g : Nat} (h : Below B w X) (hg : B ≤ g) (o : Dop) : Below B w (put3 X g o) :=
  ((h.setCell (p := ⟨g, 0, none⟩) hg _).setCell (p := ⟨g, 1, none⟩) hg _).setCell (p := ⟨g, 2, none⟩) hg _
theorem put3_size (X : World) (g : Nat) (o : Dop) : (put3 X g o).heap.size = X.heap.size := by unfold put3; simp
structure PsM (w : World) (g3 g4 g8 g9 BR : Nat) (X : World) (v7 : Value) (la lb out : List Dop) : Prop where
  a : IsLs w X g3 la.tail
  b : IsLs w X g4 lb.tail
  x : Cls X g8 34 (opC3 (hdO la))
  y : Cls X g9 34 (opC3 (hdO lb))
  o : X.ownsRow BR 34 3 v7 out.length (opsV out)
  l : BR ≤ X.heap.size
  d : Below w.heap.size w X
  n : (g3 ≠ g4 ∧ g3 ≠ g8 ∧ g3 ≠ g9) ∧ (g4 ≠ g8 ∧ g4 ≠ g9 ∧ g8 ≠ g9) ∧ (g3 < BR ∧ g4 < BR ∧ g8 < BR ∧ g9 < BR) ∧ w.heap.size ≤ g8 ∧ w.heap.size ≤ g9
theorem IsLs.same {w X Y : World} {g : Nat} {r : List Dop} (h : IsLs w X g r) (hs : Y.heap[g]? = X.heap[g]?) : IsLs w Y g r := by
  obtain ⟨a, c, h1, h2, h3⟩ := h.c
  exact ⟨⟨a, c, h1.same hs, h2, h3⟩, h.z⟩
theorem IsLs.lt {w X : World} {g : Nat} {r : List Dop} (h : IsLs w X g r) : g < X.heap.size := by obtain ⟨a, c, h1, _⟩ := h.c; exact h1.lt
theorem row_grown {X Y : World} {B g : Nat} {v : Value} {n : Nat} {xs : List Value} (h : X.ownsRow B 34 3 v n xs) (hg : X.grownBy Y (some g)) (hlt : g < B) : Y.ownsRow B 34 3 v n xs :=
  World.ownsRow.kept h hg (by
    by_cases hv : v.ownBlock = none
    · exact .inl hv
    · refine .inr fun e => ?_
      have := (h.lt g e).1
      omega)
theorem row_other {X : World} {B g : Nat} {v : Value} {n : Nat} {xs : List Value} (h : X.ownsRow B 34 3 v n xs) (o : Dop) (hlt : g < B) : (put3 X g o).ownsRow B 34 3 v n xs :=
  rowD_on h fun G hG => put3_heap X g o G (fun e => by have := (h.lt G hG).1; omega)
theorem PsM.nextA {w : World} {g3 g4 g8 g9 BR : Nat} {X X' : World} {v7 : Value} {la lb out : List Dop} (h : PsM w g3 g4 g8 g9 BR X v7 la lb out) (hX : X.grownBy X' (some g3)) (hl : IsLs w X' g3 la.tail.tail) : PsM w g3 g4 g8 g9 BR (put3 X' g8 (hdO la.tail)) v7 la.tail lb out := by
  obtain ⟨⟨n1, n2, n3⟩, ⟨n4, n5, n6⟩, ⟨n7, n8, n9, n10⟩, n11, n12⟩ := h.n
  have hb4 := hX.block g4 h.b.lt (fun e => n1 (by cases e; rfl))
  have hb8 := hX.block g8 h.x.lt (fun e => n2 (by cases e; rfl))
  have hb9 := hX.block g9 h.y.lt (fun e => n3 (by cases e; rfl))
  have hd : Below w.heap.size w X' := h.d.grown hX h.d.size (fun k e => by cases e; exact h.a.z)
  refine ⟨hl.same (put3_heap _ _ _ _ n2), (h.b.same hb4).same (put3_heap _ _ _ _ n4), put3_cls (h.x.same hb8), (h.y.same hb9).same (put3_heap _ _ _ _ (fun e => n6 e.symm)), row_other (row_grown h.o hX n7) _ n9, ?_, put3_below hd n11 _, h.n⟩
  rw [put3_size]
  exact Nat.le_trans h.l hX.size
theorem PsM.nextB {w : World} {g3 g4 g8 g9 BR : Nat} {X X' : World} {v7 : Value} {la lb out : List Dop} (h : PsM w g3 g4 g8 g9 BR X v7 la lb out) (hX : X.grownBy X' (some g4)) (hl : IsLs w X' g4 lb.tail.tail) : PsM w g3 g4 g8 g9 BR (put3 X' g9 (hdO lb.tail)) v7 la lb.tail out := by
  obtain ⟨⟨n1, n2, n3⟩, ⟨n4, n5, n6⟩, ⟨n7, n8, n9, n10⟩, n11, n12⟩ := h.n
  have hb3 := hX.block g3 h.a.lt (fun e => n1 (by cases e; rfl))
  have hb8 := hX.block g8 h.x.lt (fun e => n4 (by cases e; rfl))
  have hb9 := hX.block g9 h.y.lt (fun e => n5 (by cases e; rfl))
  have hd : Below w.heap.size w X' := h.d.grown hX h.d.size (fun k e => by cases e; exact h.b.z)
  refine ⟨(h.a.same hb3).same (put3_heap _ _ _ _ n3), hl.same (put3_heap _ _ _ _ n5), (h.x.same hb8).same (put3_heap _ _ _ _ n6), put3_cls (h.y.same hb9), row_other (row_grown h.o hX n8) _ n10, ?_, put3_below hd n12 _, h.n⟩
  rw [put3_size]
  exact Nat.le_trans h.l hX.size
theorem PsM.setA {w : World} {g3 g4 g8 g9 BR : Nat} {X : World} {v7 : Value} {x : Dop} {ra lb out : List Dop} (h : PsM w g3 g4 g8 g9 BR X v7 (x :: ra) lb out) (m : Int) : PsM w g3 g4 g8 g9 BR (X.setCell ⟨g8, 1, none⟩ (.int .i64 m)) v7 (⟨x.k, m, x.t⟩ :: ra) lb out := by
  obtain ⟨⟨n1, n2, n3⟩, ⟨n4, n5, n6⟩, ⟨n7, n8, n9, n10⟩, n11, n12⟩ := h.n
  have hh : ∀ i, i ≠ g8 → (X.setCell ⟨g8, 1, none⟩ (.int .i64 m)).heap[i]? = X.heap[i]? := fun i hi => Below.heap_setCell X ⟨g8, 1, none⟩ _ i hi
  refine ⟨h.a.same (hh _ n2), h.b.same (hh _ n4), h.x.set 1 (.int .i64 m), h.y.same (hh _ (fun e => n6 e.symm)), rowD_on h.o fun G hG => hh G (fun e => by have := (h.o.lt G hG).1; omega), by rw [setCell_size]; exact h.l, h.d.setCell (p := ⟨g8, 1, none⟩) n11 _, h.n⟩
theorem PsM.setB {w : World} {g3 g4 g8 g9 BR : Nat} {X : World} {v7 : Value} {y : Dop} {la rb out : List Dop} (h : PsM w g3 g4 g8 g9 BR X v7 la (y :: rb) out) (m : Int) : PsM w g3 g4 g8 g9 BR (X.setCell ⟨g9, 1, none⟩ (.int .i64 m)) v7 la (⟨y.k, m, y.t⟩ :: rb) out := by
  obtain ⟨⟨n1, n2, n3⟩, ⟨n4, n5, n6⟩, ⟨n7, n8, n9, n10⟩, n11, n12⟩ := h.n
  have hh : ∀ i, i ≠ g9 → (X.setCell ⟨g9, 1, none⟩ (.int .i64 m)).heap[i]? = X.heap[i]? := fun i hi => Below.heap_setCell X ⟨g9, 1, none⟩ _ i hi
  refine ⟨h.a.same (hh _ n3), h.b.same (hh _ n5), h.x.same (hh _ n6), h.y.set 1 (.int .i64 m), rowD_on h.o fun G hG => hh G (fun e => by have := (h.o.lt G hG).1; omega), by rw [setCell_size]; exact h.l, h.d.setCell (p := ⟨g9, 1, none⟩) n12 _, h.n⟩
theorem PsM.push {w : World} {g3 g4 g8 g9 BR : Nat} {X : World} {v7 : Value} {la lb out : List Dop} (h : PsM w g3 g4 g8 g9 BR X v7 la lb out) (hl : out.length ≤ 1099511627776) (k n : Int) (s : ByteArray) (z : Dop) (hz : opL z = [.int .i64 k, .int .i64 n, .string s]) :
    ∃ v' W', (Builtin.append_ #[24, 24] 24 #[v7, .slice (some ⟨X.heap.size, 0, none⟩) 1 1]).run Try.prog (X.alloc (.cells #[.int .i64 k, .int .i64 n, .string s] 34)) = .ok v' W' ∧ PsM w g3 g4 g8 g9 BR W' v' la lb (out ++ [z]) := by
  obtain ⟨g, c, W', r, o, gr, b⟩ := push_op X BR out.length v7 (opsV out) k n s 24 h.o hl h.l
  rw [← hz, ← opsV_one, ← opsV_app] at o
  obtain ⟨⟨n1, n2, n3⟩, ⟨n4, n5, n6⟩, ⟨n7, n8, n9, n10⟩, n11, n12⟩ := h.n
  have hw : w.heap.size ≤ BR := by have := h.a.z; omega
  refine ⟨_, W', r, h.a.same (b.block g3 n7), h.b.same (b.block g4 n8), h.x.same (b.block g8 n9), h.y.same (b.block g9 n10), ?_, Nat.le_trans h.l b.size, h.d.trans (b.mono hw), h.n⟩
  rw [show (out ++ [z]).length = out.length + 1 by simp]
  exact o
theorem PsM.cells {w : World} {g3 g4 g8 g9 BR : Nat} {X : World} {v7 : Value} {la lb out : List Dop} (h : PsM w g3 g4 g8 g9 BR X v7 la lb out) : (X.cell? ⟨g8, 0, none⟩ = some (.int .i64 (hdO la).k) ∧ X.cell? ⟨g8, 1, none⟩ = some (.int .i64 (hdO la).n) ∧ X.cell? ⟨g8, 2, none⟩ = some (.string (strOfNums (hdO la).t))) ∧ (X.cell? ⟨g9, 0, none⟩ = some (.int .i64 (hdO lb).k) ∧ X.cell? ⟨g9, 1, none⟩ = some (.int .i64 (hdO lb).n) ∧ X.cell? ⟨g9, 2, none⟩ = some (.string (strOfNums (hdO lb).t))) ∧ (∀ j, X.frozen? ⟨g8, j, none⟩ = false) ∧ (∀ j, X.frozen? ⟨g9, j, none⟩ = false) := by
  refine ⟨⟨h.x.cell 0, h.x.cell 1, h.x.cell 2⟩, ⟨h.y.cell 0, h.y.cell 1, h.y.cell 2⟩, fun j => ?_, fun j => ?_⟩
  · have : X.heap[g8]? = _ := h.x
    simp [World.frozen?, this]
  · have : X.heap[g9]? = _ := h.y
    simp [World.frozen?, this]

end Go.Proofs.Ytjjdgfjlpkhgcaa
end
