/- Layer 14, plain: one delta's atoms over another's: both orders meet. -/
import Derived.Test.YtifpjdodignflaaMg39

namespace Go.Proofs.Ytifpjdodignflaa

/-- puts go first -/
def passP (g : List Atm → List Atm) : List Atm → List Atm
  | .p y :: b => .p y :: passP g b
  | b => g b
def byK (g : List Atm → List Atm) : List Atm → List Atm
  | .k :: b => .k :: g b
  | .d :: b => .d :: g b
  | b => g b
def byD (g : List Atm → List Atm) : List Atm → List Atm
  | .k :: b => g b
  | .d :: b => g b
  | b => g b
/-- the second over the first -/
def ovA (f : Bool) : List Atm → List Atm → List Atm
  | [] => putsA
  | .p _ :: a => if f then passP (fun b => .k :: ovA f a b) else fun b => .k :: ovA f a b
  | .k :: a => passP (byK (ovA f a))
  | .d :: a => passP (byD (ovA f a))
theorem ov_put (f : Bool) : ∀ (a : List Atm) (y : Int) (b : List Atm), (f = true ∨ ∀ x r, a ≠ .p x :: r) → ovA f a (.p y :: b) = .p y :: ovA f a b
  | [], _, _, _ => rfl
  | .k :: _, _, _, _ => rfl
  | .d :: _, _, _, _ => rfl
  | .p x :: a, y, b, h => by
    rcases h with rfl | h
    · rfl
    · exact absurd rfl (h x a)
theorem ov_puts (f : Bool) : ∀ (t : List Int) (a b : List Atm), (f = true ∨ ∀ x r, a ≠ .p x :: r) → ovA f a (t.map .p ++ b) = t.map .p ++ ovA f a b
  | [], _, _, _ => rfl
  | y :: t, a, b, h => by
    rw [List.map_cons, List.cons_append, ov_put f a y _ h, ov_puts f t a b h]; rfl
theorem ov_keep (f : Bool) (x : Int) (a b : List Atm) (h : f = false ∨ ∀ y r, b ≠ .p y :: r) : ovA f (.p x :: a) b = .k :: ovA f a b := by
  cases f with
  | false => rfl
  | true =>
    rcases h with h | h
    · cases h
    · cases b with
      | nil => rfl
      | cons z b => cases z with
        | p y => exact absurd rfl (h y b)
        | k => rfl
        | d => rfl
theorem ov_keeps (f : Bool) : ∀ (t : List Int) (a b : List Atm), (f = false ∨ ∀ y r, b ≠ .p y :: r) → ovA f (t.map .p ++ a) b = List.replicate t.length .k ++ ovA f a b
  | [], _, _, _ => rfl
  | x :: t, a, b, h => by
    rw [List.map_cons, List.cons_append, ov_keep f x _ b h, ov_keeps f t a b h, List.length_cons, List.replicate_succ]; rfl
theorem ov_kk (f : Bool) : ∀ (n : Nat) (a b : List Atm), ovA f (List.replicate n .k ++ a) (List.replicate n .k ++ b) = List.replicate n .k ++ ovA f a b
  | 0, _, _ => rfl
  | n + 1, a, b => by rw [List.replicate_succ, List.cons_append, List.cons_append, List.cons_append, ← ov_kk f n a b]; rfl
theorem ov_kd (f : Bool) : ∀ (n : Nat) (a b : List Atm), ovA f (List.replicate n .k ++ a) (List.replicate n .d ++ b) = List.replicate n .d ++ ovA f a b
  | 0, _, _ => rfl
  | n + 1, a, b => by rw [List.replicate_succ, List.replicate_succ, List.cons_append, List.cons_append, List.cons_append, ← ov_kd f n a b]; rfl
theorem ov_dk (f : Bool) : ∀ (n : Nat) (a b : List Atm), ovA f (List.replicate n .d ++ a) (List.replicate n .k ++ b) = ovA f a b
  | 0, _, _ => rfl
  | n + 1, a, b => by rw [List.replicate_succ, List.replicate_succ, List.cons_append, List.cons_append, ← ov_dk f n a b]; rfl
theorem ov_dd (f : Bool) : ∀ (n : Nat) (a b : List Atm), ovA f (List.replicate n .d ++ a) (List.replicate n .d ++ b) = ovA f a b
  | 0, _, _ => rfl
  | n + 1, a, b => by rw [List.replicate_succ, List.cons_append, List.cons_append, ← ov_dd f n a b]; rfl
/-- both orders meet -/
theorem ov_meet : ∀ (n : Nat) (a b : List Atm), a.length + b.length ≤ n → frA a = frA b → nfA (cmpA a (ovA false a b)) = nfA (cmpA b (ovA true b a))
  | _, [], [], _, _ => rfl
  | 0, _ :: _, _, h, _ => by simp at h
  | 0, [], _ :: _, h, _ => by simp at h
  | n + 1, [], .p y :: b, h, hf => by
    have ih := ov_meet n [] b (by simp at h ⊢; omega) (by simpa [frA] using hf)
    show Atm.p y :: nfA (cmpA [] (ovA false [] b)) = .p y :: nfA (cmpA b (ovA true b []))
    rw [ih]
  | n + 1, [], .k :: b, h, hf => by simp [frA] at hf
  | n + 1, [], .d :: b, h, hf => by simp [frA] at hf
  | n + 1, .p x :: a, b, h, hf => by
    have ih := ov_meet n a b (by simp at h ⊢; omega) (by simpa [frA] using hf)
    rw [ov_put true b x a (.inl rfl), cmp_put]
    show Atm.p x :: nfA (cmpA a (ovA false a b)) = _
    rw [ih]
  | n + 1, .k :: a, [], h, hf => by simp [frA] at hf
  | n + 1, .k :: a, .p y :: b, h, hf => by
    have ih := ov_meet n (.k :: a) b (by simp at h ⊢; omega) (by simpa [frA] using hf)
    rw [ov_put false (.k :: a) y b (.inr fun _ _ e => by cases e), cmp_put, ih]
    rfl
  | n + 1, .k :: a, .k :: b, h, hf => by
    have ih := ov_meet n a b (by simp at h ⊢; omega) (by simpa [frA] using hf)
    show Atm.k :: nfA (cmpA a (ovA false a b)) = .k :: nfA (cmpA b (ovA true b a))
    rw [ih]
  | n + 1, .k :: a, .d :: b, h, hf => by
    have ih := ov_meet n a b (by simp at h ⊢; omega) (by simpa [frA] using hf)
    show insD (nfA (cmpA a (ovA false a b))) = insD (nfA (cmpA b (ovA true b a)))
    rw [ih]
  | n + 1, .d :: a, [], h, hf => by simp [frA] at hf
  | n + 1, .d :: a, .p y :: b, h, hf => by
    have ih := ov_meet n (.d :: a) b (by simp at h ⊢; omega) (by simpa [frA] using hf)
    rw [ov_put false (.d :: a) y b (.inr fun _ _ e => by cases e), cmp_put, ih]
    rfl
  | n + 1, .d :: a, .k :: b, h, hf => by
    have ih := ov_meet n a b (by simp at h ⊢; omega) (by simpa [frA] using hf)
    show insD (nfA (cmpA a (ovA false a b))) = insD (nfA (cmpA b (ovA true b a)))
    rw [ih]
  | n + 1, .d :: a, .d :: b, h, hf => by
    have ih := ov_meet n a b (by simp at h ⊢; omega) (by simpa [frA] using hf)
    show insD (nfA (cmpA a (ovA false a b))) = insD (nfA (cmpA b (ovA true b a)))
    rw [ih]
/-- its sizes -/
theorem puts_fr : ∀ b : List Atm, frA b = 0 → frA (putsA b) = 0 ∧ toA (putsA b) = toA b
  | [], _ => ⟨rfl, rfl⟩
  | .p y :: b, h => by
    have := puts_fr b (by simpa [frA] using h)
    simp only [putsA, frA, toA]
    exact ⟨this.1, by rw [this.2]⟩
  | .k :: b, h => by simp [frA] at h
  | .d :: b, h => by simp [frA] at h
theorem ov_fr (f : Bool) : ∀ (n : Nat) (a b : List Atm), a.length + b.length ≤ n → frA a = frA b → frA (ovA f a b) = toA a
  | _, [], b, _, hf => (puts_fr b hf.symm).1
  | 0, _ :: _, _, h, _ => by simp at h
  | n + 1, .p x :: a, b, h, hf => by
    cases f with
    | false =>
      have ih := ov_fr false n a b (by simp at h ⊢; omega) (by simpa [frA] using hf)
      show frA (.k :: ovA false a b) = _
      simp only [frA, toA, ih]
    | true =>
      cases b with
      | nil =>
        have ih := ov_fr true n a [] (by simp at h ⊢; omega) (by simpa [frA] using hf)
        show frA (.k :: ovA true a []) = _
        simp only [frA, toA, ih]
      | cons z b => cases z with
        | p y =>
          have ih := ov_fr true n (.p x :: a) b (by simp at h ⊢; omega) (by simpa [frA] using hf)
          rw [ov_put true _ y b (.inl rfl)]
          exact ih
        | k =>
          have ih := ov_fr true n a (.k :: b) (by simp at h ⊢; omega) (by simpa [frA] using hf)
          show frA (.k :: ovA true a (.k :: b)) = _
          simp only [frA, toA, ih]
        | d =>
          have ih := ov_fr true n a (.d :: b) (by simp at h ⊢; omega) (by simpa [frA] using hf)
          show frA (.k :: ovA true a (.d :: b)) = _
          simp only [frA, toA, ih]
  | n + 1, .k :: a, [], h, hf => by simp [frA] at hf
  | n + 1, .k :: a, .p y :: b, h, hf => by
    have ih := ov_fr f n (.k :: a) b (by simp at h ⊢; omega) (by simpa [frA] using hf)
    rw [ov_put f _ y b (.inr fun _ _ e => by cases e)]
    exact ih
  | n + 1, .k :: a, .k :: b, h, hf => by
    have ih := ov_fr f n a b (by simp at h ⊢; omega) (by simpa [frA] using hf)
    show frA (.k :: ovA f a b) = _
    simp only [frA, toA, ih]
  | n + 1, .k :: a, .d :: b, h, hf => by
    have ih := ov_fr f n a b (by simp at h ⊢; omega) (by simpa [frA] using hf)
    show frA (.d :: ovA f a b) = _
    simp only [frA, toA, ih]
  | n + 1, .d :: a, [], h, hf => by simp [frA] at hf
  | n + 1, .d :: a, .p y :: b, h, hf => by
    have ih := ov_fr f n (.d :: a) b (by simp at h ⊢; omega) (by simpa [frA] using hf)
    rw [ov_put f _ y b (.inr fun _ _ e => by cases e)]
    exact ih
  | n + 1, .d :: a, .k :: b, h, hf => by
    have ih := ov_fr f n a b (by simp at h ⊢; omega) (by simpa [frA] using hf)
    show frA (ovA f a b) = _
    simp only [toA, ih]
  | n + 1, .d :: a, .d :: b, h, hf => by
    have ih := ov_fr f n a b (by simp at h ⊢; omega) (by simpa [frA] using hf)
    show frA (ovA f a b) = _
    simp only [toA, ih]
/-- what keeps all -/
theorem ov_id (f : Bool) : ∀ (b : List Atm), ovA f (List.replicate (frA b) .k) b = b
  | [] => rfl
  | .p y :: b => by
    rw [show frA (.p y :: b) = frA b from rfl, ov_put f _ y b (.inr fun x r e => by cases h : frA b with | zero => rw [h] at e; cases e | succ m => rw [h, List.replicate_succ] at e; cases e), ov_id f b]
  | .k :: b => by
    rw [show frA (.k :: b) = frA b + 1 by simp [frA]; try omega, List.replicate_succ]
    show Atm.k :: ovA f (List.replicate (frA b) .k) b = _
    rw [ov_id f b]
  | .d :: b => by
    rw [show frA (.d :: b) = frA b + 1 by simp [frA]; try omega, List.replicate_succ]
    show Atm.d :: ovA f (List.replicate (frA b) .k) b = _
    rw [ov_id f b]
theorem ov_all (f : Bool) : ∀ (a : List Atm), ovA f a (List.replicate (frA a) .k) = List.replicate (toA a) .k
  | [] => rfl
  | .p x :: a => by
    rw [ov_keep f x a _ (.inr fun y r e => by cases h : frA a with | zero => rw [show frA (.p x :: a) = frA a from rfl, h] at e; cases e | succ m => rw [show frA (.p x :: a) = frA a from rfl, h, List.replicate_succ] at e; cases e)]
    rw [show frA (.p x :: a) = frA a from rfl, ov_all f a, show toA (.p x :: a) = toA a + 1 by simp [toA]; try omega, List.replicate_succ]
  | .k :: a => by
    rw [show frA (.k :: a) = frA a + 1 by simp [frA]; try omega, List.replicate_succ, show toA (.k :: a) = toA a + 1 by simp [toA]; try omega, List.replicate_succ]
    show Atm.k :: ovA f a (List.replicate (frA a) .k) = _
    rw [ov_all f a]
  | .d :: a => by
    rw [show frA (.d :: a) = frA a + 1 by simp [frA]; try omega, List.replicate_succ]
    show ovA f a (List.replicate (frA a) .k) = _
    rw [ov_all f a]; rfl

end Go.Proofs.Ytifpjdodignflaa
