/- Layer 14, plain: places through one delta and another, by atoms. · Layer 14, plain: a place behind changes is a place between atoms; through one delta and another. -/
import Derived.Test.YtfllomlighlejaaMo40
import Derived.Test.YtfllomlighlejaaMo31

section
namespace Go.Proofs.Ytfllomlighlejaa

/-- is one of the first x old bytes kept? -/
def hasK : List Atm → Nat → Bool
  | [], _ => false
  | .k :: _, 0 => false
  | .k :: _, _ + 1 => true
  | .d :: _, 0 => false
  | .d :: u, x + 1 => hasK u x
  | .p _ :: u, x => hasK u x
/-- behind the last kept byte ahead of a place -/
def lftA : List Atm → Nat → Nat
  | [], _ => 0
  | .k :: _, 0 => 0
  | .k :: u, x + 1 => 1 + lftA u x
  | .d :: _, 0 => 0
  | .d :: u, x + 1 => lftA u x
  | .p _ :: u, x => if hasK u x then 1 + lftA u x else 0
/-- ahead of the first kept byte behind a place -/
def rgtA : List Atm → Nat → Nat
  | [], _ => 0
  | .k :: _, 0 => 0
  | .k :: u, x + 1 => 1 + rgtA u x
  | .d :: u, 0 => rgtA u 0
  | .d :: u, x + 1 => rgtA u x
  | .p _ :: u, x => 1 + rgtA u x
theorem hasK0 : ∀ u : List Atm, hasK u 0 = false
  | [] => rfl
  | .k :: _ => rfl
  | .d :: _ => rfl
  | .p _ :: u => hasK0 u
theorem lft_no : ∀ (u : List Atm) (x : Nat), hasK u x = false → lftA u x = 0
  | [], _, _ => rfl
  | .k :: _, 0, _ => rfl
  | .k :: _, _ + 1, h => by simp [hasK] at h
  | .d :: _, 0, _ => rfl
  | .d :: u, x + 1, h => lft_no u x h
  | .p _ :: u, x, h => by
    have h : hasK u x = false := h
    simp only [lftA, h]; rfl
theorem lft0 (u : List Atm) : lftA u 0 = 0 := lft_no u 0 (hasK0 u)
theorem rgt0 : ∀ (u : List Atm) (y : Nat), rgtA u 0 ≤ rgtA u y
  | [], _ => Nat.le_refl _
  | .k :: _, _ => Nat.zero_le _
  | .d :: _, 0 => Nat.le_refl _
  | .d :: u, y + 1 => rgt0 u y
  | .p _ :: u, y => by have := rgt0 u y; simp only [rgtA]; omega
theorem hasK_puts : ∀ (c : List Atm) (x : Nat), hasK (putsA c) x = false
  | [], _ => rfl
  | .k :: c, x => hasK_puts c x
  | .d :: c, x => hasK_puts c x
  | .p _ :: c, x => hasK_puts c x
theorem hasK_cmp : ∀ (n : Nat) (a c : List Atm) (x : Nat), a.length + c.length ≤ n → hasK (cmpA a c) x = true → hasK a x = true
  | _, [], c, x, _, h => by have := hasK_puts c x; rw [show cmpA [] c = putsA c from rfl, this] at h; cases h
  | 0, _ :: _, _, _, hn, _ => by simp at hn
  | n + 1, .d :: a, c, 0, _, h => by cases h
  | n + 1, .d :: a, c, x + 1, hn, h => hasK_cmp n a c x (by simp at hn ⊢; omega) h
  | n + 1, .p y :: a, [], x, hn, h => hasK_cmp n a [] x (by simp at hn ⊢; omega) h
  | n + 1, .p y :: a, .p z :: c, x, hn, h => hasK_cmp n (.p y :: a) c x (by simp at hn ⊢; omega) h
  | n + 1, .p y :: a, .k :: c, x, hn, h => hasK_cmp n a c x (by simp at hn ⊢; omega) h
  | n + 1, .p y :: a, .d :: c, x, hn, h => hasK_cmp n a c x (by simp at hn ⊢; omega) h
  | n + 1, .k :: a, c, 0, _, h => by rw [hasK0] at h; cases h
  | n + 1, .k :: a, c, x + 1, _, _ => rfl
theorem hasK_thr : ∀ (n : Nat) (a c : List Atm) (x : Nat), a.length + c.length ≤ n → toA a = frA c → hasK (cmpA a c) x = true → hasK c (lftA a x) = true
  | _, [], c, x, _, _, h => by have := hasK_puts c x; rw [show cmpA [] c = putsA c from rfl, this] at h; cases h
  | 0, _ :: _, _, _, hn, _, _ => by simp at hn
  | n + 1, .d :: a, c, 0, _, _, h => by cases h
  | n + 1, .d :: a, c, x + 1, hn, hf, h => hasK_thr n a c x (by simp at hn ⊢; omega) hf h
  | n + 1, .p y :: a, [], x, _, hf, _ => by simp [toA, frA] at hf
  | n + 1, .p y :: a, .p z :: c, x, hn, hf, h => hasK_thr n (.p y :: a) c x (by simp at hn ⊢; omega) hf h
  | n + 1, .p y :: a, .k :: c, x, hn, _, h => by
    have h1 := hasK_cmp _ a c x (Nat.le_refl _) h
    simp only [lftA, h1, if_true]
    rw [Nat.add_comm]; rfl
  | n + 1, .p y :: a, .d :: c, x, hn, hf, h => by
    have h1 := hasK_cmp _ a c x (Nat.le_refl _) h
    have ih := hasK_thr n a c x (by simp at hn ⊢; omega) (by simp [toA, frA] at hf; omega) h
    simp only [lftA, h1, if_true]
    rw [Nat.add_comm]; exact ih
  | n + 1, .k :: a, c, 0, _, _, h => by rw [hasK0] at h; cases h
  | n + 1, .k :: a, [], x + 1, _, hf, _ => by simp [toA, frA] at hf
  | n + 1, .k :: a, .p z :: c, x + 1, hn, hf, h => hasK_thr n (.k :: a) c (x + 1) (by simp at hn ⊢; omega) hf h
  | n + 1, .k :: a, .k :: c, x + 1, _, _, _ => by
    simp only [lftA]; rw [Nat.add_comm]; rfl
  | n + 1, .k :: a, .d :: c, x + 1, hn, hf, h => by
    have ih := hasK_thr n a c x (by simp at hn ⊢; omega) (by simp [toA, frA] at hf; omega) h
    simp only [lftA]; rw [Nat.add_comm]; exact ih
theorem lft_thr : ∀ (n : Nat) (a c : List Atm) (x : Nat), a.length + c.length ≤ n → toA a = frA c → lftA (cmpA a c) x ≤ lftA c (lftA a x)
  | _, [], c, x, _, _ => by rw [show cmpA [] c = putsA c from rfl, lft_no _ x (hasK_puts c x)]; exact Nat.zero_le _
  | 0, _ :: _, _, _, hn, _ => by simp at hn
  | n + 1, .d :: a, c, 0, _, _ => by rw [lft0]; exact Nat.zero_le _
  | n + 1, .d :: a, c, x + 1, hn, hf => lft_thr n a c x (by simp at hn ⊢; omega) hf
  | n + 1, .p y :: a, [], x, _, hf => by simp [toA, frA] at hf
  | n + 1, .p y :: a, .p z :: c, x, hn, hf => by
    have ih := lft_thr n (.p y :: a) c x (by simp at hn ⊢; omega) hf
    have h2 := hasK_thr _ (.p y :: a) c x (Nat.le_refl _) hf
    show (if hasK (cmpA (.p y :: a) c) x then 1 + lftA (cmpA (.p y :: a) c) x else 0) ≤ (if hasK c (lftA (.p y :: a) x) then 1 + lftA c (lftA (.p y :: a) x) else 0)
    cases hk : hasK (cmpA (.p y :: a) c) x with
    | false => simp
    | true => rw [h2 hk]; simp; omega
  | n + 1, .p y :: a, .k :: c, x, hn, hf => by
    have ih := lft_thr n a c x (by simp at hn ⊢; omega) (by simp [toA, frA] at hf; omega)
    have h1 := hasK_cmp _ a c x (Nat.le_refl _)
    show (if hasK (cmpA a c) x then 1 + lftA (cmpA a c) x else 0) ≤ lftA (.k :: c) (if hasK a x then 1 + lftA a x else 0)
    cases hk : hasK (cmpA a c) x with
    | false => simp
    | true => rw [h1 hk]; simp only [if_true]; rw [Nat.add_comm 1 (lftA a x)]; simp only [lftA]; omega
  | n + 1, .p y :: a, .d :: c, x, hn, hf => by
    have ih := lft_thr n a c x (by simp at hn ⊢; omega) (by simp [toA, frA] at hf; omega)
    have h1 := hasK_cmp _ a c x (Nat.le_refl _)
    show lftA (cmpA a c) x ≤ lftA (.d :: c) (if hasK a x then 1 + lftA a x else 0)
    cases hk : hasK (cmpA a c) x with
    | false => rw [lft_no _ _ hk]; exact Nat.zero_le _
    | true => rw [h1 hk]; simp only [if_true]; rw [Nat.add_comm 1 (lftA a x)]; exact ih
  | n + 1, .k :: a, c, 0, _, _ => by rw [lft0]; exact Nat.zero_le _
  | n + 1, .k :: a, [], x + 1, _, hf => by simp [toA, frA] at hf
  | n + 1, .k :: a, .p z :: c, x + 1, hn, hf => by
    have ih := lft_thr n (.k :: a) c (x + 1) (by simp at hn ⊢; omega) hf
    have h2 := hasK_thr _ (.k :: a) c (x + 1) (Nat.le_refl _) hf
    show (if hasK (cmpA (.k :: a) c) (x + 1) then 1 + lftA (cmpA (.k :: a) c) (x + 1) else 0) ≤ (if hasK c (lftA (.k :: a) (x + 1)) then 1 + lftA c (lftA (.k :: a) (x + 1)) else 0)
    cases hk : hasK (cmpA (.k :: a) c) (x + 1) with
    | false => simp
    | true => rw [h2 hk]; simp; omega
  | n + 1, .k :: a, .k :: c, x + 1, hn, hf => by
    have ih := lft_thr n a c x (by simp at hn ⊢; omega) (by simp [toA, frA] at hf; omega)
    show 1 + lftA (cmpA a c) x ≤ lftA (.k :: c) (1 + lftA a x)
    rw [Nat.add_comm 1 (lftA a x)]; simp only [lftA]; omega
  | n + 1, .k :: a, .d :: c, x + 1, hn, hf => by
    have ih := lft_thr n a c x (by simp at hn ⊢; omega) (by simp [toA, frA] at hf; omega)
    show lftA (cmpA a c) x ≤ lftA (.d :: c) (1 + lftA a x)
    rw [Nat.add_comm 1 (lftA a x)]; exact ih
theorem rgt_puts : ∀ c : List Atm, frA c = 0 → putsA c = c
  | [], _ => rfl
  | .k :: _, h => by simp [frA] at h
  | .d :: _, h => by simp [frA] at h
  | .p y :: c, h => by simp only [putsA]; rw [rgt_puts c (by simpa [frA] using h)]
theorem rgt_thr : ∀ (n : Nat) (a c : List Atm) (x : Nat), a.length + c.length ≤ n → toA a = frA c → x ≤ frA a → rgtA c (rgtA a x) ≤ rgtA (cmpA a c) x
  | _, [], c, x, _, hf, hx => by
    have : x = 0 := by simpa [frA] using hx
    subst this
    rw [show cmpA [] c = putsA c from rfl, rgt_puts c hf.symm]
    exact Nat.le_refl _
  | 0, _ :: _, _, _, hn, _, _ => by simp at hn
  | n + 1, .d :: a, c, 0, hn, hf, _ => rgt_thr n a c 0 (by simp at hn ⊢; omega) hf (Nat.zero_le _)
  | n + 1, .d :: a, c, x + 1, hn, hf, hx => rgt_thr n a c x (by simp at hn ⊢; omega) hf (by simp [frA] at hx; omega)
  | n + 1, .p y :: a, [], x, _, hf, _ => by simp [toA, frA] at hf
  | n + 1, .p y :: a, .p z :: c, x, hn, hf, hx => by
    have ih := rgt_thr n (.p y :: a) c x (by simp at hn ⊢; omega) hf hx
    show 1 + rgtA c (rgtA (.p y :: a) x) ≤ 1 + rgtA (cmpA (.p y :: a) c) x
    omega
  | n + 1, .p y :: a, .k :: c, x, hn, hf, hx => by
    have ih := rgt_thr n a c x (by simp at hn ⊢; omega) (by simp [toA, frA] at hf; omega) hx
    show rgtA (.k :: c) (1 + rgtA a x) ≤ 1 + rgtA (cmpA a c) x
    rw [Nat.add_comm 1 (rgtA a x)]; simp only [rgtA]; omega
  | n + 1, .p y :: a, .d :: c, x, hn, hf, hx => by
    have ih := rgt_thr n a c x (by simp at hn ⊢; omega) (by simp [toA, frA] at hf; omega) hx
    show rgtA (.d :: c) (1 + rgtA a x) ≤ rgtA (cmpA a c) x
    rw [Nat.add_comm 1 (rgtA a x)]; exact ih
  | n + 1, .k :: a, [], x, _, hf, _ => by simp [toA, frA] at hf
  | n + 1, .k :: a, .p z :: c, x, hn, hf, hx => by
    have ih := rgt_thr n (.k :: a) c x (by simp at hn ⊢; omega) hf hx
    show 1 + rgtA c (rgtA (.k :: a) x) ≤ 1 + rgtA (cmpA (.k :: a) c) x
    omega
  | n + 1, .k :: a, .k :: c, 0, _, _, _ => Nat.zero_le _
  | n + 1, .k :: a, .d :: c, 0, hn, hf, _ => by
    have ih := rgt_thr n a c 0 (by simp at hn ⊢; omega) (by simp [toA, frA] at hf; omega) (Nat.zero_le _)
    have h0 := rgt0 c (rgtA a 0)
    show rgtA c 0 ≤ rgtA (cmpA a c) 0
    omega
  | n + 1, .k :: a, .k :: c, x + 1, hn, hf, hx => by
    have ih := rgt_thr n a c x (by simp at hn ⊢; omega) (by simp [toA, frA] at hf; omega) (by simp [frA] at hx; omega)
    show rgtA (.k :: c) (1 + rgtA a x) ≤ 1 + rgtA (cmpA a c) x
    rw [Nat.add_comm 1 (rgtA a x)]; simp only [rgtA]; omega
  | n + 1, .k :: a, .d :: c, x + 1, hn, hf, hx => by
    have ih := rgt_thr n a c x (by simp at hn ⊢; omega) (by simp [toA, frA] at hf; omega) (by simp [frA] at hx; omega)
    show rgtA (.d :: c) (1 + rgtA a x) ≤ rgtA (cmpA a c) x
    rw [Nat.add_comm 1 (rgtA a x)]; exact ih
/-- puts ahead of drops change nothing -/
theorem hasK_ins : ∀ (s : List Atm) (x : Nat), hasK (insD s) x = hasK (.d :: s) x
  | [], _ => rfl
  | .k :: _, _ => rfl
  | .d :: _, _ => rfl
  | .p y :: s, x => by
    show hasK (insD s) x = _
    rw [hasK_ins s x]
    cases x <;> rfl
theorem lft_ins : ∀ (s : List Atm) (x : Nat), lftA (insD s) x = lftA (.d :: s) x
  | [], _ => rfl
  | .k :: _, _ => rfl
  | .d :: _, _ => rfl
  | .p y :: s, x => by
    show (if hasK (insD s) x then 1 + lftA (insD s) x else 0) = _
    rw [hasK_ins s x, lft_ins s x]
    cases x with
    | zero => rfl
    | succ x => rfl
theorem rgt_ins : ∀ (s : List Atm) (x : Nat), rgtA (insD s) x = rgtA (.d :: s) x
  | [], _ => rfl
  | .k :: _, _ => rfl
  | .d :: _, _ => rfl
  | .p y :: s, x => by
    show 1 + rgtA (insD s) x = _
    rw [rgt_ins s x]
    cases x <;> rfl
theorem hasK_nf : ∀ (u : List Atm) (x : Nat), hasK (nfA u) x = hasK u x
  | [], _ => rfl
  | .k :: _, 0 => rfl
  | .k :: _, _ + 1 => rfl
  | .p _ :: u, x => hasK_nf u x
  | .d :: u, x => by
    show hasK (insD (nfA u)) x = _
    rw [hasK_ins]
    cases x with
    | zero => rfl
    | succ x => exact hasK_nf u x
theorem lft_nf : ∀ (u : List Atm) (x : Nat), lftA (nfA u) x = lftA u x
  | [], _ => rfl
  | .k :: _, 0 => rfl
  | .k :: u, x + 1 => by show 1 + lftA (nfA u) x = 1 + lftA u x; rw [lft_nf u x]
  | .p _ :: u, x => by
    show (if hasK (nfA u) x then 1 + lftA (nfA u) x else 0) = _
    rw [hasK_nf, lft_nf u x]; rfl
  | .d :: u, x => by
    show lftA (insD (nfA u)) x = _
    rw [lft_ins]
    cases x with
    | zero => rfl
    | succ x => exact lft_nf u x
theorem rgt_nf : ∀ (u : List Atm) (x : Nat), rgtA (nfA u) x = rgtA u x
  | [], _ => rfl
  | .k :: _, 0 => rfl
  | .k :: u, x + 1 => by show 1 + rgtA (nfA u) x = 1 + rgtA u x; rw [rgt_nf u x]
  | .p _ :: u, x => by show 1 + rgtA (nfA u) x = 1 + rgtA u x; rw [rgt_nf u x]
  | .d :: u, x => by
    show rgtA (insD (nfA u)) x = _
    rw [rgt_ins]
    cases x with
    | zero => exact rgt_nf u 0
    | succ x => exact rgt_nf u x

end Go.Proofs.Ytfllomlighlejaa
end

section
namespace Go.Proofs.Ytfllomlighlejaa

theorem lft_k : ∀ (m : Nat) (u : List Atm) (y : Nat), lftA (List.replicate m .k ++ u) y = if y ≤ m then y else m + lftA u (y - m)
  | 0, u, y => by
    cases y with
    | zero => simp [lft0]
    | succ y => simp
  | m + 1, u, 0 => by simp [List.replicate_succ, lftA]
  | m + 1, u, y + 1 => by
    rw [List.replicate_succ, List.cons_append]
    show 1 + lftA (List.replicate m .k ++ u) y = _
    rw [lft_k m u y]
    by_cases h : y ≤ m
    · rw [if_pos h, if_pos (by omega)]; omega
    · rw [if_neg h, if_neg (by omega), show y + 1 - (m + 1) = y - m by omega]; omega
theorem rgt_k : ∀ (m : Nat) (u : List Atm) (y : Nat), rgtA (List.replicate m .k ++ u) y = if y < m then y else m + rgtA u (y - m)
  | 0, u, y => by simp
  | m + 1, u, 0 => by simp [List.replicate_succ, rgtA]
  | m + 1, u, y + 1 => by
    rw [List.replicate_succ, List.cons_append]
    show 1 + rgtA (List.replicate m .k ++ u) y = _
    rw [rgt_k m u y]
    by_cases h : y < m
    · rw [if_pos h, if_pos (by omega)]; omega
    · rw [if_neg h, if_neg (by omega), show y + 1 - (m + 1) = y - m by omega]; omega
theorem hasK_d : ∀ (e : Nat) (u : List Atm) (y : Nat), hasK (List.replicate e .d ++ u) y = hasK u (y - e)
  | 0, u, y => by simp
  | e + 1, u, 0 => by simp [List.replicate_succ, hasK0]
  | e + 1, u, y + 1 => by
    rw [List.replicate_succ, List.cons_append]
    show hasK (List.replicate e .d ++ u) y = _
    rw [hasK_d e u y, show y + 1 - (e + 1) = y - e by omega]
theorem lft_d : ∀ (e : Nat) (u : List Atm) (y : Nat), lftA (List.replicate e .d ++ u) y = lftA u (y - e)
  | 0, u, y => by simp
  | e + 1, u, 0 => by simp [List.replicate_succ, lft0]
  | e + 1, u, y + 1 => by
    rw [List.replicate_succ, List.cons_append]
    show lftA (List.replicate e .d ++ u) y = _
    rw [lft_d e u y, show y + 1 - (e + 1) = y - e by omega]
theorem rgt_d : ∀ (e : Nat) (u : List Atm) (y : Nat), rgtA (List.replicate e .d ++ u) y = rgtA u (y - e)
  | 0, u, y => by simp
  | e + 1, u, 0 => by
    rw [List.replicate_succ, List.cons_append]
    show rgtA (List.replicate e .d ++ u) 0 = _
    rw [rgt_d e u 0]; simp
  | e + 1, u, y + 1 => by
    rw [List.replicate_succ, List.cons_append]
    show rgtA (List.replicate e .d ++ u) y = _
    rw [rgt_d e u y, show y + 1 - (e + 1) = y - e by omega]
theorem hasK_p : ∀ (t : List Int) (u : List Atm) (y : Nat), hasK (t.map .p ++ u) y = hasK u y
  | [], _, _ => rfl
  | _ :: t, u, y => hasK_p t u y
theorem lft_p : ∀ (t : List Int) (u : List Atm) (y : Nat), lftA (t.map .p ++ u) y = if hasK u y then t.length + lftA u y else 0
  | [], u, y => by
    cases h : hasK u y with
    | false => simp [lft_no u y h]
    | true => simp
  | _ :: t, u, y => by
    show (if hasK (t.map .p ++ u) y then 1 + lftA (t.map .p ++ u) y else 0) = _
    rw [hasK_p, lft_p t u y]
    cases hasK u y <;> simp; omega
theorem rgt_p : ∀ (t : List Int) (u : List Atm) (y : Nat), rgtA (t.map .p ++ u) y = t.length + rgtA u y
  | [], _, _ => by simp
  | _ :: t, u, y => by
    show 1 + rgtA (t.map .p ++ u) y = _
    rw [rgt_p t u y]; simp; omega
theorem gap_weak : ∀ {h h' : Int} {cs : List Dop}, GapC h cs → h' ≤ h → GapC h' cs
  | _, _, [], _, _ => trivial
  | _, _, _ :: _, hg, hh => ⟨by have := hg.1; omega, hg.2⟩
theorem opC_A (p : Int) (c : Dop) (r : List Dop) : dA (opC p (c :: r)) = List.replicate (c.k - p).toNat .k ++ (c.t.map .p ++ (List.replicate (c.n - c.k).toNat .d ++ dA (opC c.n r))) := by
  simp only [opC, dA_cons]
  simp [opA]
/-- what stands behind a change begins with a kept byte -/
theorem rest_k (h N : Int) (r : List Dop) (hg : GapC h r) (hl : lstC h r ≤ N) : rgtA (dA (opC h r) ++ List.replicate (N - lstC h r).toNat .k) 0 = 0 ∧ (h < N → ∀ y, hasK (dA (opC h r) ++ List.replicate (N - lstC h r).toNat .k) (y + 1) = true) := by
  cases r with
  | nil =>
    simp only [opC, lstC] at hl ⊢
    rw [show dA ([] : List Dop) = [] from rfl, List.nil_append]
    refine ⟨?_, fun hN y => ?_⟩
    · cases (N - h).toNat <;> rfl
    · obtain ⟨m, hm⟩ : ∃ m, (N - h).toNat = m + 1 := ⟨(N - h).toNat - 1, by omega⟩
      rw [hm, List.replicate_succ]; rfl
  | cons c r =>
    have h1 := hg.1
    obtain ⟨m, hm⟩ : ∃ m, (c.k - h).toNat = m + 1 := ⟨(c.k - h).toNat - 1, by omega⟩
    rw [opC_A, hm, List.replicate_succ]
    exact ⟨rfl, fun _ _ => rfl⟩
theorem mv_atoms : ∀ (cs : List Dop) (p x N s : Int), GapC (p - 1) cs → 0 ≤ p → p ≤ x → x ≤ N → lstC p cs ≤ N →
    mvC x 1 s cs = p + s + (lftA (dA (opC p cs) ++ List.replicate (N - lstC p cs).toNat .k) (x - p).toNat : Nat) ∧ mvC x 2 s cs = p + s + (rgtA (dA (opC p cs) ++ List.replicate (N - lstC p cs).toNat .k) (x - p).toNat : Nat)
  | [], p, x, N, s, _, h0, hx, hN, _ => by
    simp only [mvC, opC, lstC]
    rw [show dA ([] : List Dop) = [] from rfl, List.nil_append]
    have e1 := lft_k (N - p).toNat [] (x - p).toNat
    have e2 := rgt_k (N - p).toNat [] (x - p).toNat
    rw [List.append_nil] at e1 e2
    rw [e1, e2, if_pos (by omega)]
    refine ⟨by omega, ?_⟩
    split
    · omega
    · simp only [rgtA]; omega
  | c :: r, p, x, N, s, hg, h0, hx, hN, hl => by
    have h1 := hg.1
    have h2 := hg.2.1
    have h3 := (gap_le hg.2.2).1
    simp only [lstC] at hl
    obtain ⟨r1, r2⟩ := rest_k c.n N r hg.2.2 hl
    rw [opC_A]
    simp only [lstC, List.append_assoc]
    generalize hR : dA (opC c.n r) ++ List.replicate (N - lstC c.n r).toNat Atm.k = R at *
    rw [lft_k, rgt_k]
    simp only [mvC]
    by_cases q1 : x < c.k
    · rw [if_pos q1, if_pos q1, if_pos (by omega), if_pos (by omega)]
      exact ⟨by omega, by omega⟩
    · rw [if_neg q1, if_neg q1]
      rw [if_neg (show ¬ (x - p).toNat < (c.k - p).toNat by omega)]
      rw [lft_p, rgt_p, hasK_d, lft_d, rgt_d]
      by_cases q2 : x ≤ c.n
      · rw [if_pos q2, if_pos q2]
        have hz : (x - p).toNat - (c.k - p).toNat - (c.n - c.k).toNat = 0 := by omega
        rw [hz, hasK0, r1]
        refine ⟨?_, ?_⟩
        · simp only [if_true, Bool.false_eq_true, if_false]
          split <;> omega
        · simp only [show ¬ ((2 : Int) = 1) by decide, if_false]; omega
      · rw [if_neg q2, if_neg q2]
        obtain ⟨i1, i2⟩ := mv_atoms r c.n x N (s + ((c.t.length : Int) - (c.n - c.k))) (gap_weak hg.2.2 (by omega)) (by omega) (by omega) hN hl
        rw [hR] at i1 i2
        rw [if_neg (by omega)]
        have hz : (x - p).toNat - (c.k - p).toNat - (c.n - c.k).toNat = (x - c.n).toNat := by omega
        obtain ⟨y, hy⟩ : ∃ y, (x - c.n).toNat = y + 1 := ⟨(x - c.n).toNat - 1, by omega⟩
        have hk := r2 (by omega) y
        rw [hz, i1, i2, hy, hk]
        simp only [if_true]
        exact ⟨by omega, by omega⟩
/-- a place behind a valid delta, by its atoms -/
theorem pl_atoms {d : List Dop} {x : Nat} (hv : valB d = true) (hx : x ≤ frD d) : mvC (x : Int) 1 0 (runL d).2 = (lftA (dA d) x : Nat) ∧ mvC (x : Int) 2 0 (runL d).2 = (rgtA (dA d) x : Nat) := by
  have hs := chs_run (val_Can hv)
  have hm := hs.f
  have hl := hs.l
  have ha := hs.a
  have := mv_atoms (runL d).2 0 x (frD d) 0 (gap_weak hs.g (by omega)) (Int.le_refl _) (by omega) (by omega) (by omega)
  rw [show ((frD d : Int) - lstC 0 (runL d).2).toNat = (runL d).1 - (lstC 0 (runL d).2).toNat by omega, ha] at this
  simpa using this
/-- through one and another is between Left and Right through both -/
theorem pl_through {d e : List Dop} {x : Nat} (hv : valB d = true) (hv' : valB e = true) (hf : toD d = frD e) (hx : x ≤ frD d) :
    ∃ A B A2 B2 lo hi : Nat, mvC (x : Int) 1 0 (runL d).2 = A ∧ mvC (x : Int) 2 0 (runL d).2 = B ∧ A ≤ frD e ∧ B ≤ frD e ∧ mvC (A : Int) 1 0 (runL e).2 = A2 ∧ mvC (B : Int) 2 0 (runL e).2 = B2 ∧ mvC (x : Int) 1 0 (runL (cmD d e)).2 = lo ∧ mvC (x : Int) 2 0 (runL (cmD d e)).2 = hi ∧ lo ≤ A2 ∧ A2 ≤ B2 ∧ B2 ≤ hi := by
  have two := two_ok hv hv' hf
  obtain ⟨l1, r1⟩ := pl_atoms hv hx
  obtain ⟨l3, r3⟩ := pl_atoms two.v (x := x) (by rw [two.f]; exact hx)
  rw [two.a, lft_nf] at l3
  rw [two.a, rgt_nf] at r3
  obtain ⟨g1, g2, g3⟩ := to_ch hv
  have m1 := mv_mono 2 _ (-1) x (frD d) 0 g1 (by omega) (by omega)
  rw [mv_end _ (-1) _ 0 g1 g2, Int.add_zero, ← g3] at m1
  have m2 := mv_lr (runL d).2 x 0
  have b2 : rgtA (dA d) x ≤ frD e := by omega
  have b1 : lftA (dA d) x ≤ frD e := by omega
  obtain ⟨l4, _⟩ := pl_atoms hv' b1
  obtain ⟨_, r5⟩ := pl_atoms hv' b2
  have q : toA (dA d) = frA (dA e) := two.q
  have t1 := lft_thr _ (dA d) (dA e) x (Nat.le_refl _) q
  have t2 := rgt_thr _ (dA d) (dA e) x (Nat.le_refl _) q (by rw [(frA_dA (valB_k hv)).1]; exact hx)
  obtain ⟨k1, k2, k3⟩ := to_ch hv'
  have m3 := mv_lr (runL e).2 ((lftA (dA d) x : Nat) : Int) 0
  have m4 := mv_mono 2 _ (-1) ((lftA (dA d) x : Nat) : Int) ((rgtA (dA d) x : Nat) : Int) 0 k1 (by omega) (by omega)
  exact ⟨_, _, _, _, _, _, l1, r1, b1, b2, l4, r5, l3, r3, t1, by omega, t2⟩

end Go.Proofs.Ytfllomlighlejaa
end
