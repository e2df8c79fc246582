/- Layer 14, plain: places behind changes. · Layer 14, plain: places through one delta and another, by atoms. -/
import Derived.Test.YtnnnilodknkadaaMg29

section
namespace Go.Proofs.Ytnnnilodknkadaa

theorem mv_lb (g : Int) : ∀ (cs : List Dop) (h q s : Int), GapC h cs → h ≤ q → h + s ≤ mvC q g s cs
  | [], h, q, s, _, hq => by simp only [mvC]; omega
  | c :: r, h, q, s, hg, hq => by
    have h1 := hg.1
    have h2 := hg.2.1
    simp only [mvC]
    split
    · omega
    · split
      · split <;> omega
      · have ih := mv_lb g r c.n q (s + ((c.t.length : Int) - (c.n - c.k))) hg.2.2 (by omega)
        omega
theorem mv_mono (g : Int) : ∀ (cs : List Dop) (h p q s : Int), GapC h cs → h ≤ p → p ≤ q → mvC p g s cs ≤ mvC q g s cs
  | [], _, p, q, s, _, _, hq => by simp only [mvC]; omega
  | c :: r, h, p, q, s, hg, hp, hq => by
    have h1 := hg.1
    have h2 := hg.2.1
    have lb : c.n < q → c.n + (s + ((c.t.length : Int) - (c.n - c.k))) ≤ mvC q g (s + ((c.t.length : Int) - (c.n - c.k))) r := fun h => mv_lb g r c.n q _ hg.2.2 (by omega)
    simp only [mvC]
    by_cases p1 : p < c.k
    · rw [if_pos p1]
      by_cases q1 : q < c.k
      · rw [if_pos q1]; omega
      · rw [if_neg q1]
        by_cases q2 : q ≤ c.n
        · rw [if_pos q2]; split <;> omega
        · rw [if_neg q2]
          have := lb (by omega)
          omega
    · rw [if_neg p1, if_neg (show ¬ q < c.k by omega)]
      by_cases p2 : p ≤ c.n
      · rw [if_pos p2]
        by_cases q2 : q ≤ c.n
        · rw [if_pos q2]; exact Int.le_refl _
        · rw [if_neg q2]
          have := lb (by omega)
          split <;> omega
      · rw [if_neg p2, if_neg (show ¬ q ≤ c.n by omega)]
        exact mv_mono g r c.n p q _ hg.2.2 (by omega) hq
theorem mv_lr : ∀ (cs : List Dop) (p s : Int), mvC p 1 s cs ≤ mvC p 2 s cs
  | [], _, _ => Int.le_refl _
  | c :: r, p, s => by
    simp only [mvC]
    split
    · exact Int.le_refl _
    · split
      · simp; omega
      · exact mv_lr r p _
theorem mv_end : ∀ (cs : List Dop) (h n s : Int), GapC h cs → lstC h cs ≤ n → mvC n 2 s cs = n + s + dlC cs
  | [], _, _, _, _, _ => by simp [mvC, dlC]
  | c :: r, h, n, s, hg, hl => by
    have h1 := hg.1
    have h2 := hg.2.1
    have h3 := gap_le hg.2.2
    simp only [lstC] at hl
    simp only [mvC, dlC]
    rw [if_neg (by omega)]
    by_cases q2 : n ≤ c.n
    · rw [if_pos q2, if_neg (by decide)]
      cases r with
      | nil => simp only [dlC]; omega
      | cons c2 r2 =>
        have := hg.2.2.1
        have := hg.2.2.2.1
        have := h3.2 c2 (by simp)
        omega
    · rw [if_neg q2, mv_end r c.n n _ hg.2.2 hl]
      omega
theorem mv_zero : ∀ (cs : List Dop), GapC (-1) cs → mvC 0 1 0 cs = 0
  | [], _ => rfl
  | c :: r, hg => by
    have h1 := hg.1
    have h2 := hg.2.1
    simp only [mvC]
    by_cases q : (0 : Int) < c.k
    · rw [if_pos q]; rfl
    · rw [if_neg q, if_pos (by omega)]; simp; omega
/-- the lengths by the changes -/
theorem to_ch {d : List Dop} (hv : valB d = true) : GapC (-1) (runL d).2 ∧ lstC (-1) (runL d).2 ≤ frD d ∧ (toD d : Int) = frD d + dlC (runL d).2 := by
  have hs := chs_run (val_Can hv)
  have hm := hs.f
  generalize (runL d).2 = cs at *
  generalize (runL d).1 = m at *
  have hl := hs.l
  have hg := hs.g
  have hlm : lstC (-1) cs ≤ m := by
    by_cases hc : cs = []
    · rw [hc]; simp only [lstC]; omega
    · have := lstC_two 0 (-1) hc
      omega
  have t5 := opC_sizes cs 0 m (gap_okL hg hlm (by omega) (by omega))
  have h1 := congrArg toA hs.a
  rw [to_app, (frA_dA (opC_k 0 cs)).2, (frA_dA (valB_k hv)).2, (fr_rep_k _).2] at h1
  exact ⟨hg, by omega, by omega⟩
theorem pl_zero {d : List Dop} {p g : Int} (hv : valB d = true) (hp : 0 ≤ p ∧ p ≤ frD d) (hg : g = 1 ∨ g = 2) : plE d p g = 0 ∧ plV d p g = mvC p g 0 (runL d).2 := by
  have h : plE d p g = 0 := by unfold plE; rw [hv, if_pos rfl, if_pos ⟨hp, hg⟩]
  exact ⟨h, by unfold plV; rw [if_pos h]⟩

end Go.Proofs.Ytnnnilodknkadaa
end

section
namespace Go.Proofs.Ytnnnilodknkadaa

/-- is one of the first x old bytes kept? -/
def hasK : List Atm → Nat → Bool
  | [], _ => false
  | .k :: _, 0 => false
  | .k :: _, _ + 1 => true
  | .d :: _, 0 => false
  | .d :: u, x + 1 => hasK u x
  | .p _ :: u, x => hasK u x
/-- behind the last kept byte ahead of a place -/
def lftA : List Atm → Nat → Nat
  | [], _ => 0
  | .k :: _, 0 => 0
  | .k :: u, x + 1 => 1 + lftA u x
  | .d :: _, 0 => 0
  | .d :: u, x + 1 => lftA u x
  | .p _ :: u, x => if hasK u x then 1 + lftA u x else 0
/-- ahead of the first kept byte behind a place -/
def rgtA : List Atm → Nat → Nat
  | [], _ => 0
  | .k :: _, 0 => 0
  | .k :: u, x + 1 => 1 + rgtA u x
  | .d :: u, 0 => rgtA u 0
  | .d :: u, x + 1 => rgtA u x
  | .p _ :: u, x => 1 + rgtA u x
theorem hasK0 : ∀ u : List Atm, hasK u 0 = false
  | [] => rfl
  | .k :: _ => rfl
  | .d :: _ => rfl
  | .p _ :: u => hasK0 u
theorem lft_no : ∀ (u : List Atm) (x : Nat), hasK u x = false → lftA u x = 0
  | [], _, _ => rfl
  | .k :: _, 0, _ => rfl
  | .k :: _, _ + 1, h => by simp [hasK] at h
  | .d :: _, 0, _ => rfl
  | .d :: u, x + 1, h => lft_no u x h
  | .p _ :: u, x, h => by
    have h : hasK u x = false := h
    simp only [lftA, h]; rfl
theorem lft0 (u : List Atm) : lftA u 0 = 0 := lft_no u 0 (hasK0 u)
theorem rgt0 : ∀ (u : List Atm) (y : Nat), rgtA u 0 ≤ rgtA u y
  | [], _ => Nat.le_refl _
  | .k :: _, _ => Nat.zero_le _
  | .d :: _, 0 => Nat.le_refl _
  | .d :: u, y + 1 => rgt0 u y
  | .p _ :: u, y => by have := rgt0 u y; simp only [rgtA]; omega
theorem hasK_puts : ∀ (c : List Atm) (x : Nat), hasK (putsA c) x = false
  | [], _ => rfl
  | .k :: c, x => hasK_puts c x
  | .d :: c, x => hasK_puts c x
  | .p _ :: c, x => hasK_puts c x
theorem hasK_cmp : ∀ (n : Nat) (a c : List Atm) (x : Nat), a.length + c.length ≤ n → hasK (cmpA a c) x = true → hasK a x = true
  | _, [], c, x, _, h => by have := hasK_puts c x; rw [show cmpA [] c = putsA c from rfl, this] at h; cases h
  | 0, _ :: _, _, _, hn, _ => by simp at hn
  | n + 1, .d :: a, c, 0, _, h => by cases h
  | n + 1, .d :: a, c, x + 1, hn, h => hasK_cmp n a c x (by simp at hn ⊢; omega) h
  | n + 1, .p y :: a, [], x, hn, h => hasK_cmp n a [] x (by simp at hn ⊢; omega) h
  | n + 1, .p y :: a, .p z :: c, x, hn, h => hasK_cmp n (.p y :: a) c x (by simp at hn ⊢; omega) h
  | n + 1, .p y :: a, .k :: c, x, hn, h => hasK_cmp n a c x (by simp at hn ⊢; omega) h
  | n + 1, .p y :: a, .d :: c, x, hn, h => hasK_cmp n a c x (by simp at hn ⊢; omega) h
  | n + 1, .k :: a, c, 0, _, h => by rw [hasK0] at h; cases h
  | n + 1, .k :: a, c, x + 1, _, _ => rfl
theorem hasK_thr : ∀ (n : Nat) (a c : List Atm) (x : Nat), a.length + c.length ≤ n → toA a = frA c → hasK (cmpA a c) x = true → hasK c (lftA a x) = true
  | _, [], c, x, _, _, h => by have := hasK_puts c x; rw [show cmpA [] c = putsA c from rfl, this] at h; cases h
  | 0, _ :: _, _, _, hn, _, _ => by simp at hn
  | n + 1, .d :: a, c, 0, _, _, h => by cases h
  | n + 1, .d :: a, c, x + 1, hn, hf, h => hasK_thr n a c x (by simp at hn ⊢; omega) hf h
  | n + 1, .p y :: a, [], x, _, hf, _ => by simp [toA, frA] at hf
  | n + 1, .p y :: a, .p z :: c, x, hn, hf, h => hasK_thr n (.p y :: a) c x (by simp at hn ⊢; omega) hf h
  | n + 1, .p y :: a, .k :: c, x, hn, _, h => by
    have h1 := hasK_cmp _ a c x (Nat.le_refl _) h
    simp only [lftA, h1, if_true]
    rw [Nat.add_comm]; rfl
  | n + 1, .p y :: a, .d :: c, x, hn, hf, h => by
    have h1 := hasK_cmp _ a c x (Nat.le_refl _) h
    have ih := hasK_thr n a c x (by simp at hn ⊢; omega) (by simp [toA, frA] at hf; omega) h
    simp only [lftA, h1, if_true]
    rw [Nat.add_comm]; exact ih
  | n + 1, .k :: a, c, 0, _, _, h => by rw [hasK0] at h; cases h
  | n + 1, .k :: a, [], x + 1, _, hf, _ => by simp [toA, frA] at hf
  | n + 1, .k :: a, .p z :: c, x + 1, hn, hf, h => hasK_thr n (.k :: a) c (x + 1) (by simp at hn ⊢; omega) hf h
  | n + 1, .k :: a, .k :: c, x + 1, _, _, _ => by
    simp only [lftA]; rw [Nat.add_comm]; rfl
  | n + 1, .k :: a, .d :: c, x + 1, hn, hf, h => by
    have ih := hasK_thr n a c x (by simp at hn ⊢; omega) (by simp [toA, frA] at hf; omega) h
    simp only [lftA]; rw [Nat.add_comm]; exact ih
theorem lft_thr : ∀ (n : Nat) (a c : List Atm) (x : Nat), a.length + c.length ≤ n → toA a = frA c → lftA (cmpA a c) x ≤ lftA c (lftA a x)
  | _, [], c, x, _, _ => by rw [show cmpA [] c = putsA c from rfl, lft_no _ x (hasK_puts c x)]; exact Nat.zero_le _
  | 0, _ :: _, _, _, hn, _ => by simp at hn
  | n + 1, .d :: a, c, 0, _, _ => by rw [lft0]; exact Nat.zero_le _
  | n + 1, .d :: a, c, x + 1, hn, hf => lft_thr n a c x (by simp at hn ⊢; omega) hf
  | n + 1, .p y :: a, [], x, _, hf => by simp [toA, frA] at hf
  | n + 1, .p y :: a, .p z :: c, x, hn, hf => by
    have ih := lft_thr n (.p y :: a) c x (by simp at hn ⊢; omega) hf
    have h2 := hasK_thr _ (.p y :: a) c x (Nat.le_refl _) hf
    show (if hasK (cmpA (.p y :: a) c) x then 1 + lftA (cmpA (.p y :: a) c) x else 0) ≤ (if hasK c (lftA (.p y :: a) x) then 1 + lftA c (lftA (.p y :: a) x) else 0)
    cases hk : hasK (cmpA (.p y :: a) c) x with
    | false => simp
    | true => rw [h2 hk]; simp; omega
  | n + 1, .p y :: a, .k :: c, x, hn, hf => by
    have ih := lft_thr n a c x (by simp at hn ⊢; omega) (by simp [toA, frA] at hf; omega)
    have h1 := hasK_cmp _ a c x (Nat.le_refl _)
    show (if hasK (cmpA a c) x then 1 + lftA (cmpA a c) x else 0) ≤ lftA (.k :: c) (if hasK a x then 1 + lftA a x else 0)
    cases hk : hasK (cmpA a c) x with
    | false => simp
    | true => rw [h1 hk]; simp only [if_true]; rw [Nat.add_comm 1 (lftA a x)]; simp only [lftA]; omega
  | n + 1, .p y :: a, .d :: c, x, hn, hf => by
    have ih := lft_thr n a c x (by simp at hn ⊢; omega) (by simp [toA, frA] at hf; omega)
    have h1 := hasK_cmp _ a c x (Nat.le_refl _)
    show lftA (cmpA a c) x ≤ lftA (.d :: c) (if hasK a x then 1 + lftA a x else 0)
    cases hk : hasK (cmpA a c) x with
    | false => rw [lft_no _ _ hk]; exact Nat.zero_le _
    | true => rw [h1 hk]; simp only [if_true]; rw [Nat.add_comm 1 (lftA a x)]; exact ih
  | n + 1, .k :: a, c, 0, _, _ => by rw [lft0]; exact Nat.zero_le _
  | n + 1, .k :: a, [], x + 1, _, hf => by simp [toA, frA] at hf
  | n + 1, .k :: a, .p z :: c, x + 1, hn, hf => by
    have ih := lft_thr n (.k :: a) c (x + 1) (by simp at hn ⊢; omega) hf
    have h2 := hasK_thr _ (.k :: a) c (x + 1) (Nat.le_refl _) hf
    show (if hasK (cmpA (.k :: a) c) (x + 1) then 1 + lftA (cmpA (.k :: a) c) (x + 1) else 0) ≤ (if hasK c (lftA (.k :: a) (x + 1)) then 1 + lftA c (lftA (.k :: a) (x + 1)) else 0)
    cases hk : hasK (cmpA (.k :: a) c) (x + 1) with
    | false => simp
    | true => rw [h2 hk]; simp; omega
  | n + 1, .k :: a, .k :: c, x + 1, hn, hf => by
    have ih := lft_thr n a c x (by simp at hn ⊢; omega) (by simp [toA, frA] at hf; omega)
    show 1 + lftA (cmpA a c) x ≤ lftA (.k :: c) (1 + lftA a x)
    rw [Nat.add_comm 1 (lftA a x)]; simp only [lftA]; omega
  | n + 1, .k :: a, .d :: c, x + 1, hn, hf => by
    have ih := lft_thr n a c x (by simp at hn ⊢; omega) (by simp [toA, frA] at hf; omega)
    show lftA (cmpA a c) x ≤ lftA (.d :: c) (1 + lftA a x)
    rw [Nat.add_comm 1 (lftA a x)]; exact ih
theorem rgt_puts : ∀ c : List Atm, frA c = 0 → putsA c = c
  | [], _ => rfl
  | .k :: _, h => by simp [frA] at h
  | .d :: _, h => by simp [frA] at h
  | .p y :: c, h => by simp only [putsA]; rw [rgt_puts c (by simpa [frA] using h)]
theorem rgt_thr : ∀ (n : Nat) (a c : List Atm) (x : Nat), a.length + c.length ≤ n → toA a = frA c → x ≤ frA a → rgtA c (rgtA a x) ≤ rgtA (cmpA a c) x
  | _, [], c, x, _, hf, hx => by
    have : x = 0 := by simpa [frA] using hx
    subst this
    rw [show cmpA [] c = putsA c from rfl, rgt_puts c hf.symm]
    exact Nat.le_refl _
  | 0, _ :: _, _, _, hn, _, _ => by simp at hn
  | n + 1, .d :: a, c, 0, hn, hf, _ => rgt_thr n a c 0 (by simp at hn ⊢; omega) hf (Nat.zero_le _)
  | n + 1, .d :: a, c, x + 1, hn, hf, hx => rgt_thr n a c x (by simp at hn ⊢; omega) hf (by simp [frA] at hx; omega)
  | n + 1, .p y :: a, [], x, _, hf, _ => by simp [toA, frA] at hf
  | n + 1, .p y :: a, .p z :: c, x, hn, hf, hx => by
    have ih := rgt_thr n (.p y :: a) c x (by simp at hn ⊢; omega) hf hx
    show 1 + rgtA c (rgtA (.p y :: a) x) ≤ 1 + rgtA (cmpA (.p y :: a) c) x
    omega
  | n + 1, .p y :: a, .k :: c, x, hn, hf, hx => by
    have ih := rgt_thr n a c x (by simp at hn ⊢; omega) (by simp [toA, frA] at hf; omega) hx
    show rgtA (.k :: c) (1 + rgtA a x) ≤ 1 + rgtA (cmpA a c) x
    rw [Nat.add_comm 1 (rgtA a x)]; simp only [rgtA]; omega
  | n + 1, .p y :: a, .d :: c, x, hn, hf, hx => by
    have ih := rgt_thr n a c x (by simp at hn ⊢; omega) (by simp [toA, frA] at hf; omega) hx
    show rgtA (.d :: c) (1 + rgtA a x) ≤ rgtA (cmpA a c) x
    rw [Nat.add_comm 1 (rgtA a x)]; exact ih
  | n + 1, .k :: a, [], x, _, hf, _ => by simp [toA, frA] at hf
  | n + 1, .k :: a, .p z :: c, x, hn, hf, hx => by
    have ih := rgt_thr n (.k :: a) c x (by simp at hn ⊢; omega) hf hx
    show 1 + rgtA c (rgtA (.k :: a) x) ≤ 1 + rgtA (cmpA (.k :: a) c) x
    omega
  | n + 1, .k :: a, .k :: c, 0, _, _, _ => Nat.zero_le _
  | n + 1, .k :: a, .d :: c, 0, hn, hf, _ => by
    have ih := rgt_thr n a c 0 (by simp at hn ⊢; omega) (by simp [toA, frA] at hf; omega) (Nat.zero_le _)
    have h0 := rgt0 c (rgtA a 0)
    show rgtA c 0 ≤ rgtA (cmpA a c) 0
    omega
  | n + 1, .k :: a, .k :: c, x + 1, hn, hf, hx => by
    have ih := rgt_thr n a c x (by simp at hn ⊢; omega) (by simp [toA, frA] at hf; omega) (by simp [frA] at hx; omega)
    show rgtA (.k :: c) (1 + rgtA a x) ≤ 1 + rgtA (cmpA a c) x
    rw [Nat.add_comm 1 (rgtA a x)]; simp only [rgtA]; omega
  | n + 1, .k :: a, .d :: c, x + 1, hn, hf, hx => by
    have ih := rgt_thr n a c x (by simp at hn ⊢; omega) (by simp [toA, frA] at hf; omega) (by simp [frA] at hx; omega)
    show rgtA (.d :: c) (1 + rgtA a x) ≤ rgtA (cmpA a c) x
    rw [Nat.add_comm 1 (rgtA a x)]; exact ih
/-- puts ahead of drops change nothing -/
theorem hasK_ins : ∀ (s : List Atm) (x : Nat), hasK (insD s) x = hasK (.d :: s) x
  | [], _ => rfl
  | .k :: _, _ => rfl
  | .d :: _, _ => rfl
  | .p y :: s, x => by
    show hasK (insD s) x = _
    rw [hasK_ins s x]
    cases x <;> rfl
theorem lft_ins : ∀ (s : List Atm) (x : Nat), lftA (insD s) x = lftA (.d :: s) x
  | [], _ => rfl
  | .k :: _, _ => rfl
  | .d :: _, _ => rfl
  | .p y :: s, x => by
    show (if hasK (insD s) x then 1 + lftA (insD s) x else 0) = _
    rw [hasK_ins s x, lft_ins s x]
    cases x with
    | zero => rfl
    | succ x => rfl
theorem rgt_ins : ∀ (s : List Atm) (x : Nat), rgtA (insD s) x = rgtA (.d :: s) x
  | [], _ => rfl
  | .k :: _, _ => rfl
  | .d :: _, _ => rfl
  | .p y :: s, x => by
    show 1 + rgtA (insD s) x = _
    rw [rgt_ins s x]
    cases x <;> rfl
theorem hasK_nf : ∀ (u : List Atm) (x : Nat), hasK (nfA u) x = hasK u x
  | [], _ => rfl
  | .k :: _, 0 => rfl
  | .k :: _, _ + 1 => rfl
  | .p _ :: u, x => hasK_nf u x
  | .d :: u, x => by
    show hasK (insD (nfA u)) x = _
    rw [hasK_ins]
    cases x with
    | zero => rfl
    | succ x => exact hasK_nf u x
theorem lft_nf : ∀ (u : List Atm) (x : Nat), lftA (nfA u) x = lftA u x
  | [], _ => rfl
  | .k :: _, 0 => rfl
  | .k :: u, x + 1 => by show 1 + lftA (nfA u) x = 1 + lftA u x; rw [lft_nf u x]
  | .p _ :: u, x => by
    show (if hasK (nfA u) x then 1 + lftA (nfA u) x else 0) = _
    rw [hasK_nf, lft_nf u x]; rfl
  | .d :: u, x => by
    show lftA (insD (nfA u)) x = _
    rw [lft_ins]
    cases x with
    | zero => rfl
    | succ x => exact lft_nf u x
theorem rgt_nf : ∀ (u : List Atm) (x : Nat), rgtA (nfA u) x = rgtA u x
  | [], _ => rfl
  | .k :: _, 0 => rfl
  | .k :: u, x + 1 => by show 1 + rgtA (nfA u) x = 1 + rgtA u x; rw [rgt_nf u x]
  | .p _ :: u, x => by show 1 + rgtA (nfA u) x = 1 + rgtA u x; rw [rgt_nf u x]
  | .d :: u, x => by
    show rgtA (insD (nfA u)) x = _
    rw [rgt_ins]
    cases x with
    | zero => exact rgt_nf u 0
    | succ x => exact rgt_nf u x

end Go.Proofs.Ytnnnilodknkadaa
end
