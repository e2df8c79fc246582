/- Layer 14, plain: places through one delta and another, by atoms. -/
import Derived.Test.YtokcglacdphobaaMg47

namespace Go.Proofs.Ytokcglacdphobaa

/-- is one of the first x old bytes kept? -/
def hasK : List Atm → Nat → Bool
  | [], _ => false
  | .k :: _, 0 => false
  | .k :: _, _ + 1 => true
  | .d :: _, 0 => false
  | .d :: u, x + 1 => hasK u x
  | .p _ :: u, x => hasK u x
/-- behind the last kept byte ahead of a place -/
def lftA : List Atm → Nat → Nat
  | [], _ => 0
  | .k :: _, 0 => 0
  | .k :: u, x + 1 => 1 + lftA u x
  | .d :: _, 0 => 0
  | .d :: u, x + 1 => lftA u x
  | .p _ :: u, x => if hasK u x then 1 + lftA u x else 0
/-- ahead of the first kept byte behind a place -/
def rgtA : List Atm → Nat → Nat
  | [], _ => 0
  | .k :: _, 0 => 0
  | .k :: u, x + 1 => 1 + rgtA u x
  | .d :: u, 0 => rgtA u 0
  | .d :: u, x + 1 => rgtA u x
  | .p _ :: u, x => 1 + rgtA u x
theorem hasK0 : ∀ u : List Atm, hasK u 0 = false
  | [] => rfl
  | .k :: _ => rfl
  | .d :: _ => rfl
  | .p _ :: u => hasK0 u
theorem lft_no : ∀ (u : List Atm) (x : Nat), hasK u x = false → lftA u x = 0
  | [], _, _ => rfl
  | .k :: _, 0, _ => rfl
  | .k :: _, _ + 1, h => by simp [hasK] at h
  | .d :: _, 0, _ => rfl
  | .d :: u, x + 1, h => lft_no u x h
  | .p _ :: u, x, h => by
    have h : hasK u x = false := h
    simp only [lftA, h]; rfl
theorem lft0 (u : List Atm) : lftA u 0 = 0 := lft_no u 0 (hasK0 u)
theorem rgt0 : ∀ (u : List Atm) (y : Nat), rgtA u 0 ≤ rgtA u y
  | [], _ => Nat.le_refl _
  | .k :: _, _ => Nat.zero_le _
  | .d :: _, 0 => Nat.le_refl _
  | .d :: u, y + 1 => rgt0 u y
  | .p _ :: u, y => by have := rgt0 u y; simp only [rgtA]; omega
theorem hasK_puts : ∀ (c : List Atm) (x : Nat), hasK (putsA c) x = false
  | [], _ => rfl
  | .k :: c, x => hasK_puts c x
  | .d :: c, x => hasK_puts c x
  | .p _ :: c, x => hasK_puts c x
theorem hasK_cmp : ∀ (n : Nat) (a c : List Atm) (x : Nat), a.length + c.length ≤ n → hasK (cmpA a c) x = true → hasK a x = true
  | _, [], c, x, _, h => by have := hasK_puts c x; rw [show cmpA [] c = putsA c from rfl, this] at h; cases h
  | 0, _ :: _, _, _, hn, _ => by simp at hn
  | n + 1, .d :: a, c, 0, _, h => by cases h
  | n + 1, .d :: a, c, x + 1, hn, h => hasK_cmp n a c x (by simp at hn ⊢; omega) h
  | n + 1, .p y :: a, [], x, hn, h => hasK_cmp n a [] x (by simp at hn ⊢; omega) h
  | n + 1, .p y :: a, .p z :: c, x, hn, h => hasK_cmp n (.p y :: a) c x (by simp at hn ⊢; omega) h
  | n + 1, .p y :: a, .k :: c, x, hn, h => hasK_cmp n a c x (by simp at hn ⊢; omega) h
  | n + 1, .p y :: a, .d :: c, x, hn, h => hasK_cmp n a c x (by simp at hn ⊢; omega) h
  | n + 1, .k :: a, c, 0, _, h => by rw [hasK0] at h; cases h
  | n + 1, .k :: a, c, x + 1, _, _ => rfl
theorem hasK_thr : ∀ (n : Nat) (a c : List Atm) (x : Nat), a.length + c.length ≤ n → toA a = frA c → hasK (cmpA a c) x = true → hasK c (lftA a x) = true
  | _, [], c, x, _, _, h => by have := hasK_puts c x; rw [show cmpA [] c = putsA c from rfl, this] at h; cases h
  | 0, _ :: _, _, _, hn, _, _ => by simp at hn
  | n + 1, .d :: a, c, 0, _, _, h => by cases h
  | n + 1, .d :: a, c, x + 1, hn, hf, h => hasK_thr n a c x (by simp at hn ⊢; omega) hf h
  | n + 1, .p y :: a, [], x, _, hf, _ => by simp [toA, frA] at hf
  | n + 1, .p y :: a, .p z :: c, x, hn, hf, h => hasK_thr n (.p y :: a) c x (by simp at hn ⊢; omega) hf h
  | n + 1, .p y :: a, .k :: c, x, hn, _, h => by
    have h1 := hasK_cmp _ a c x (Nat.le_refl _) h
    simp only [lftA, h1, if_true]
    rw [Nat.add_comm]; rfl
  | n + 1, .p y :: a, .d :: c, x, hn, hf, h => by
    have h1 := hasK_cmp _ a c x (Nat.le_refl _) h
    have ih := hasK_thr n a c x (by simp at hn ⊢; omega) (by simp [toA, frA] at hf; omega) h
    simp only [lftA, h1, if_true]
    rw [Nat.add_comm]; exact ih
  | n + 1, .k :: a, c, 0, _, _, h => by rw [hasK0] at h; cases h
  | n + 1, .k :: a, [], x + 1, _, hf, _ => by simp [toA, frA] at hf
  | n + 1, .k :: a, .p z :: c, x + 1, hn, hf, h => hasK_thr n (.k :: a) c (x + 1) (by simp at hn ⊢; omega) hf h
  | n + 1, .k :: a, .k :: c, x + 1, _, _, _ => by
    simp only [lftA]; rw [Nat.add_comm]; rfl
  | n + 1, .k :: a, .d :: c, x + 1, hn, hf, h => by
    have ih := hasK_thr n a c x (by simp at hn ⊢; omega) (by simp [toA, frA] at hf; omega) h
    simp only [lftA]; rw [Nat.add_comm]; exact ih
theorem lft_thr : ∀ (n : Nat) (a c : List Atm) (x : Nat), a.length + c.length ≤ n → toA a = frA c → lftA (cmpA a c) x ≤ lftA c (lftA a x)
  | _, [], c, x, _, _ => by rw [show cmpA [] c = putsA c from rfl, lft_no _ x (hasK_puts c x)]; exact Nat.zero_le _
  | 0, _ :: _, _, _, hn, _ => by simp at hn
  | n + 1, .d :: a, c, 0, _, _ => by rw [lft0]; exact Nat.zero_le _
  | n + 1, .d :: a, c, x + 1, hn, hf => lft_thr n a c x (by simp at hn ⊢; omega) hf
  | n + 1, .p y :: a, [], x, _, hf => by simp [toA, frA] at hf
  | n + 1, .p y :: a, .p z :: c, x, hn, hf => by
    have ih := lft_thr n (.p y :: a) c x (by simp at hn ⊢; omega) hf
    have h2 := hasK_thr _ (.p y :: a) c x (Nat.le_refl _) hf
    show (if hasK (cmpA (.p y :: a) c) x then 1 + lftA (cmpA (.p y :: a) c) x else 0) ≤ (if hasK c (lftA (.p y :: a) x) then 1 + lftA c (lftA (.p y :: a) x) else 0)
    cases hk : hasK (cmpA (.p y :: a) c) x with
    | false => simp
    | true => rw [h2 hk]; simp; omega
  | n + 1, .p y :: a, .k :: c, x, hn, hf => by
    have ih := lft_thr n a c x (by simp at hn ⊢; omega) (by simp [toA, frA] at hf; omega)
    have h1 := hasK_cmp _ a c x (Nat.le_refl _)
    show (if hasK (cmpA a c) x then 1 + lftA (cmpA a c) x else 0) ≤ lftA (.k :: c) (if hasK a x then 1 + lftA a x else 0)
    cases hk : hasK (cmpA a c) x with
    | false => simp
    | true => rw [h1 hk]; simp only [if_true]; rw [Nat.add_comm 1 (lftA a x)]; simp only [lftA]; omega
  | n + 1, .p y :: a, .d :: c, x, hn, hf => by
    have ih := lft_thr n a c x (by simp at hn ⊢; omega) (by simp [toA, frA] at hf; omega)
    have h1 := hasK_cmp _ a c x (Nat.le_refl _)
    show lftA (cmpA a c) x ≤ lftA (.d :: c) (if hasK a x then 1 + lftA a x else 0)
    cases hk : hasK (cmpA a c) x with
    | false => rw [lft_no _ _ hk]; exact Nat.zero_le _
    | true => rw [h1 hk]; simp only [if_true]; rw [Nat.add_comm 1 (lftA a x)]; exact ih
  | n + 1, .k :: a, c, 0, _, _ => by rw [lft0]; exact Nat.zero_le _
  | n + 1, .k :: a, [], x + 1, _, hf => by simp [toA, frA] at hf
  | n + 1, .k :: a, .p z :: c, x + 1, hn, hf => by
    have ih := lft_thr n (.k :: a) c (x + 1) (by simp at hn ⊢; omega) hf
    have h2 := hasK_thr _ (.k :: a) c (x + 1) (Nat.le_refl _) hf
    show (if hasK (cmpA (.k :: a) c) (x + 1) then 1 + lftA (cmpA (.k :: a) c) (x + 1) else 0) ≤ (if hasK c (lftA (.k :: a) (x + 1)) then 1 + lftA c (lftA (.k :: a) (x + 1)) else 0)
    cases hk : hasK (cmpA (.k :: a) c) (x + 1) with
    | false => simp
    | true => rw [h2 hk]; simp; omega
  | n + 1, .k :: a, .k :: c, x + 1, hn, hf => by
    have ih := lft_thr n a c x (by simp at hn ⊢; omega) (by simp [toA, frA] at hf; omega)
    show 1 + lftA (cmpA a c) x ≤ lftA (.k :: c) (1 + lftA a x)
    rw [Nat.add_comm 1 (lftA a x)]; simp only [lftA]; omega
  | n + 1, .k :: a, .d :: c, x + 1, hn, hf => by
    have ih := lft_thr n a c x (by simp at hn ⊢; omega) (by simp [toA, frA] at hf; omega)
    show lftA (cmpA a c) x ≤ lftA (.d :: c) (1 + lftA a x)
    rw [Nat.add_comm 1 (lftA a x)]; exact ih
theorem rgt_puts : ∀ c : List Atm, frA c = 0 → putsA c = c
  | [], _ => rfl
  | .k :: _, h => by simp [frA] at h
  | .d :: _, h => by simp [frA] at h
  | .p y :: c, h => by simp only [putsA]; rw [rgt_puts c (by simpa [frA] using h)]
theorem rgt_thr : ∀ (n : Nat) (a c : List Atm) (x : Nat), a.length + c.length ≤ n → toA a = frA c → x ≤ frA a → rgtA c (rgtA a x) ≤ rgtA (cmpA a c) x
  | _, [], c, x, _, hf, hx => by
    have : x = 0 := by simpa [frA] using hx
    subst this
    rw [show cmpA [] c = putsA c from rfl, rgt_puts c hf.symm]
    exact Nat.le_refl _
  | 0, _ :: _, _, _, hn, _, _ => by simp at hn
  | n + 1, .d :: a, c, 0, hn, hf, _ => rgt_thr n a c 0 (by simp at hn ⊢; omega) hf (Nat.zero_le _)
  | n + 1, .d :: a, c, x + 1, hn, hf, hx => rgt_thr n a c x (by simp at hn ⊢; omega) hf (by simp [frA] at hx; omega)
  | n + 1, .p y :: a, [], x, _, hf, _ => by simp [toA, frA] at hf
  | n + 1, .p y :: a, .p z :: c, x, hn, hf, hx => by
    have ih := rgt_thr n (.p y :: a) c x (by simp at hn ⊢; omega) hf hx
    show 1 + rgtA c (rgtA (.p y :: a) x) ≤ 1 + rgtA (cmpA (.p y :: a) c) x
    omega
  | n + 1, .p y :: a, .k :: c, x, hn, hf, hx => by
    have ih := rgt_thr n a c x (by simp at hn ⊢; omega) (by simp [toA, frA] at hf; omega) hx
    show rgtA (.k :: c) (1 + rgtA a x) ≤ 1 + rgtA (cmpA a c) x
    rw [Nat.add_comm 1 (rgtA a x)]; simp only [rgtA]; omega
  | n + 1, .p y :: a, .d :: c, x, hn, hf, hx => by
    have ih := rgt_thr n a c x (by simp at hn ⊢; omega) (by simp [toA, frA] at hf; omega) hx
    show rgtA (.d :: c) (1 + rgtA a x) ≤ rgtA (cmpA a c) x
    rw [Nat.add_comm 1 (rgtA a x)]; exact ih
  | n + 1, .k :: a, [], x, _, hf, _ => by simp [toA, frA] at hf
  | n + 1, .k :: a, .p z :: c, x, hn, hf, hx => by
    have ih := rgt_thr n (.k :: a) c x (by simp at hn ⊢; omega) hf hx
    show 1 + rgtA c (rgtA (.k :: a) x) ≤ 1 + rgtA (cmpA (.k :: a) c) x
    omega
  | n + 1, .k :: a, .k :: c, 0, _, _, _ => Nat.zero_le _
  | n + 1, .k :: a, .d :: c, 0, hn, hf, _ => by
    have ih := rgt_thr n a c 0 (by simp at hn ⊢; omega) (by simp [toA, frA] at hf; omega) (Nat.zero_le _)
    have h0 := rgt0 c (rgtA a 0)
    show rgtA c 0 ≤ rgtA (cmpA a c) 0
    omega
  | n + 1, .k :: a, .k :: c, x + 1, hn, hf, hx => by
    have ih := rgt_thr n a c x (by simp at hn ⊢; omega) (by simp [toA, frA] at hf; omega) (by simp [frA] at hx; omega)
    show rgtA (.k :: c) (1 + rgtA a x) ≤ 1 + rgtA (cmpA a c) x
    rw [Nat.add_comm 1 (rgtA a x)]; simp only [rgtA]; omega
  | n + 1, .k :: a, .d :: c, x + 1, hn, hf, hx => by
    have ih := rgt_thr n a c x (by simp at hn ⊢; omega) (by simp [toA, frA] at hf; omega) (by simp [frA] at hx; omega)
    show rgtA (.d :: c) (1 + rgtA a x) ≤ rgtA (cmpA a c) x
    rw [Nat.add_comm 1 (rgtA a x)]; exact ih
/-- puts ahead of drops change nothing -/
theorem hasK_ins : ∀ (s : List Atm) (x : Nat), hasK (insD s) x = hasK (.d :: s) x
  | [], _ => rfl
  | .k :: _, _ => rfl
  | .d :: _, _ => rfl
  | .p y :: s, x => by
    show hasK (insD s) x = _
    rw [hasK_ins s x]
    cases x <;> rfl
theorem lft_ins : ∀ (s : List Atm) (x : Nat), lftA (insD s) x = lftA (.d :: s) x
  | [], _ => rfl
  | .k :: _, _ => rfl
  | .d :: _, _ => rfl
  | .p y :: s, x => by
    show (if hasK (insD s) x then 1 + lftA (insD s) x else 0) = _
    rw [hasK_ins s x, lft_ins s x]
    cases x with
    | zero => rfl
    | succ x => rfl
theorem rgt_ins : ∀ (s : List Atm) (x : Nat), rgtA (insD s) x = rgtA (.d :: s) x
  | [], _ => rfl
  | .k :: _, _ => rfl
  | .d :: _, _ => rfl
  | .p y :: s, x => by
    show 1 + rgtA (insD s) x = _
    rw [rgt_ins s x]
    cases x <;> rfl
theorem hasK_nf : ∀ (u : List Atm) (x : Nat), hasK (nfA u) x = hasK u x
  | [], _ => rfl
  | .k :: _, 0 => rfl
  | .k :: _, _ + 1 => rfl
  | .p _ :: u, x => hasK_nf u x
  | .d :: u, x => by
    show hasK (insD (nfA u)) x = _
    rw [hasK_ins]
    cases x with
    | zero => rfl
    | succ x => exact hasK_nf u x
theorem lft_nf : ∀ (u : List Atm) (x : Nat), lftA (nfA u) x = lftA u x
  | [], _ => rfl
  | .k :: _, 0 => rfl
  | .k :: u, x + 1 => by show 1 + lftA (nfA u) x = 1 + lftA u x; rw [lft_nf u x]
  | .p _ :: u, x => by
    show (if hasK (nfA u) x then 1 + lftA (nfA u) x else 0) = _
    rw [hasK_nf, lft_nf u x]; rfl
  | .d :: u, x => by
    show lftA (insD (nfA u)) x = _
    rw [lft_ins]
    cases x with
    | zero => rfl
    | succ x => exact lft_nf u x
theorem rgt_nf : ∀ (u : List Atm) (x : Nat), rgtA (nfA u) x = rgtA u x
  | [], _ => rfl
  | .k :: _, 0 => rfl
  | .k :: u, x + 1 => by show 1 + rgtA (nfA u) x = 1 + rgtA u x; rw [rgt_nf u x]
  | .p _ :: u, x => by show 1 + rgtA (nfA u) x = 1 + rgtA u x; rw [rgt_nf u x]
  | .d :: u, x => by
    show rgtA (insD (nfA u)) x = _
    rw [rgt_ins]
    cases x with
    | zero => exact rgt_nf u 0
    | succ x => exact rgt_nf u x

end Go.Proofs.Ytokcglacdphobaa
