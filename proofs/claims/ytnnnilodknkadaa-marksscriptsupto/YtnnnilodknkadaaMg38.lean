/- Layer 14, plain: a place behind changes is a place between atoms; through one delta and another. · Layer 14, plain: where a place is, as the document goes by keeps and by what stands between two of them. -/
import Derived.Test.YtnnnilodknkadaaMg37
import Derived.Test.YtnnnilodknkadaaMg26

section
namespace Go.Proofs.Ytnnnilodknkadaa

theorem lft_k : ∀ (m : Nat) (u : List Atm) (y : Nat), lftA (List.replicate m .k ++ u) y = if y ≤ m then y else m + lftA u (y - m)
  | 0, u, y => by
    cases y with
    | zero => simp [lft0]
    | succ y => simp
  | m + 1, u, 0 => by simp [List.replicate_succ, lftA]
  | m + 1, u, y + 1 => by
    rw [List.replicate_succ, List.cons_append]
    show 1 + lftA (List.replicate m .k ++ u) y = _
    rw [lft_k m u y]
    by_cases h : y ≤ m
    · rw [if_pos h, if_pos (by omega)]; omega
    · rw [if_neg h, if_neg (by omega), show y + 1 - (m + 1) = y - m by omega]; omega
theorem rgt_k : ∀ (m : Nat) (u : List Atm) (y : Nat), rgtA (List.replicate m .k ++ u) y = if y < m then y else m + rgtA u (y - m)
  | 0, u, y => by simp
  | m + 1, u, 0 => by simp [List.replicate_succ, rgtA]
  | m + 1, u, y + 1 => by
    rw [List.replicate_succ, List.cons_append]
    show 1 + rgtA (List.replicate m .k ++ u) y = _
    rw [rgt_k m u y]
    by_cases h : y < m
    · rw [if_pos h, if_pos (by omega)]; omega
    · rw [if_neg h, if_neg (by omega), show y + 1 - (m + 1) = y - m by omega]; omega
theorem hasK_d : ∀ (e : Nat) (u : List Atm) (y : Nat), hasK (List.replicate e .d ++ u) y = hasK u (y - e)
  | 0, u, y => by simp
  | e + 1, u, 0 => by simp [List.replicate_succ, hasK0]
  | e + 1, u, y + 1 => by
    rw [List.replicate_succ, List.cons_append]
    show hasK (List.replicate e .d ++ u) y = _
    rw [hasK_d e u y, show y + 1 - (e + 1) = y - e by omega]
theorem lft_d : ∀ (e : Nat) (u : List Atm) (y : Nat), lftA (List.replicate e .d ++ u) y = lftA u (y - e)
  | 0, u, y => by simp
  | e + 1, u, 0 => by simp [List.replicate_succ, lft0]
  | e + 1, u, y + 1 => by
    rw [List.replicate_succ, List.cons_append]
    show lftA (List.replicate e .d ++ u) y = _
    rw [lft_d e u y, show y + 1 - (e + 1) = y - e by omega]
theorem rgt_d : ∀ (e : Nat) (u : List Atm) (y : Nat), rgtA (List.replicate e .d ++ u) y = rgtA u (y - e)
  | 0, u, y => by simp
  | e + 1, u, 0 => by
    rw [List.replicate_succ, List.cons_append]
    show rgtA (List.replicate e .d ++ u) 0 = _
    rw [rgt_d e u 0]; simp
  | e + 1, u, y + 1 => by
    rw [List.replicate_succ, List.cons_append]
    show rgtA (List.replicate e .d ++ u) y = _
    rw [rgt_d e u y, show y + 1 - (e + 1) = y - e by omega]
theorem hasK_p : ∀ (t : List Int) (u : List Atm) (y : Nat), hasK (t.map .p ++ u) y = hasK u y
  | [], _, _ => rfl
  | _ :: t, u, y => hasK_p t u y
theorem lft_p : ∀ (t : List Int) (u : List Atm) (y : Nat), lftA (t.map .p ++ u) y = if hasK u y then t.length + lftA u y else 0
  | [], u, y => by
    cases h : hasK u y with
    | false => simp [lft_no u y h]
    | true => simp
  | _ :: t, u, y => by
    show (if hasK (t.map .p ++ u) y then 1 + lftA (t.map .p ++ u) y else 0) = _
    rw [hasK_p, lft_p t u y]
    cases hasK u y <;> simp; omega
theorem rgt_p : ∀ (t : List Int) (u : List Atm) (y : Nat), rgtA (t.map .p ++ u) y = t.length + rgtA u y
  | [], _, _ => by simp
  | _ :: t, u, y => by
    show 1 + rgtA (t.map .p ++ u) y = _
    rw [rgt_p t u y]; simp; omega
theorem gap_weak : ∀ {h h' : Int} {cs : List Dop}, GapC h cs → h' ≤ h → GapC h' cs
  | _, _, [], _, _ => trivial
  | _, _, _ :: _, hg, hh => ⟨by have := hg.1; omega, hg.2⟩
theorem opC_A (p : Int) (c : Dop) (r : List Dop) : dA (opC p (c :: r)) = List.replicate (c.k - p).toNat .k ++ (c.t.map .p ++ (List.replicate (c.n - c.k).toNat .d ++ dA (opC c.n r))) := by
  simp only [opC, dA_cons]
  simp [opA]
/-- what stands behind a change begins with a kept byte -/
theorem rest_k (h N : Int) (r : List Dop) (hg : GapC h r) (hl : lstC h r ≤ N) : rgtA (dA (opC h r) ++ List.replicate (N - lstC h r).toNat .k) 0 = 0 ∧ (h < N → ∀ y, hasK (dA (opC h r) ++ List.replicate (N - lstC h r).toNat .k) (y + 1) = true) := by
  cases r with
  | nil =>
    simp only [opC, lstC] at hl ⊢
    rw [show dA ([] : List Dop) = [] from rfl, List.nil_append]
    refine ⟨?_, fun hN y => ?_⟩
    · cases (N - h).toNat <;> rfl
    · obtain ⟨m, hm⟩ : ∃ m, (N - h).toNat = m + 1 := ⟨(N - h).toNat - 1, by omega⟩
      rw [hm, List.replicate_succ]; rfl
  | cons c r =>
    have h1 := hg.1
    obtain ⟨m, hm⟩ : ∃ m, (c.k - h).toNat = m + 1 := ⟨(c.k - h).toNat - 1, by omega⟩
    rw [opC_A, hm, List.replicate_succ]
    exact ⟨rfl, fun _ _ => rfl⟩
theorem mv_atoms : ∀ (cs : List Dop) (p x N s : Int), GapC (p - 1) cs → 0 ≤ p → p ≤ x → x ≤ N → lstC p cs ≤ N →
    mvC x 1 s cs = p + s + (lftA (dA (opC p cs) ++ List.replicate (N - lstC p cs).toNat .k) (x - p).toNat : Nat) ∧ mvC x 2 s cs = p + s + (rgtA (dA (opC p cs) ++ List.replicate (N - lstC p cs).toNat .k) (x - p).toNat : Nat)
  | [], p, x, N, s, _, h0, hx, hN, _ => by
    simp only [mvC, opC, lstC]
    rw [show dA ([] : List Dop) = [] from rfl, List.nil_append]
    have e1 := lft_k (N - p).toNat [] (x - p).toNat
    have e2 := rgt_k (N - p).toNat [] (x - p).toNat
    rw [List.append_nil] at e1 e2
    rw [e1, e2, if_pos (by omega)]
    refine ⟨by omega, ?_⟩
    split
    · omega
    · simp only [rgtA]; omega
  | c :: r, p, x, N, s, hg, h0, hx, hN, hl => by
    have h1 := hg.1
    have h2 := hg.2.1
    have h3 := (gap_le hg.2.2).1
    simp only [lstC] at hl
    obtain ⟨r1, r2⟩ := rest_k c.n N r hg.2.2 hl
    rw [opC_A]
    simp only [lstC, List.append_assoc]
    generalize hR : dA (opC c.n r) ++ List.replicate (N - lstC c.n r).toNat Atm.k = R at *
    rw [lft_k, rgt_k]
    simp only [mvC]
    by_cases q1 : x < c.k
    · rw [if_pos q1, if_pos q1, if_pos (by omega), if_pos (by omega)]
      exact ⟨by omega, by omega⟩
    · rw [if_neg q1, if_neg q1]
      rw [if_neg (show ¬ (x - p).toNat < (c.k - p).toNat by omega)]
      rw [lft_p, rgt_p, hasK_d, lft_d, rgt_d]
      by_cases q2 : x ≤ c.n
      · rw [if_pos q2, if_pos q2]
        have hz : (x - p).toNat - (c.k - p).toNat - (c.n - c.k).toNat = 0 := by omega
        rw [hz, hasK0, r1]
        refine ⟨?_, ?_⟩
        · simp only [if_true, Bool.false_eq_true, if_false]
          split <;> omega
        · simp only [show ¬ ((2 : Int) = 1) by decide, if_false]; omega
      · rw [if_neg q2, if_neg q2]
        obtain ⟨i1, i2⟩ := mv_atoms r c.n x N (s + ((c.t.length : Int) - (c.n - c.k))) (gap_weak hg.2.2 (by omega)) (by omega) (by omega) hN hl
        rw [hR] at i1 i2
        rw [if_neg (by omega)]
        have hz : (x - p).toNat - (c.k - p).toNat - (c.n - c.k).toNat = (x - c.n).toNat := by omega
        obtain ⟨y, hy⟩ : ∃ y, (x - c.n).toNat = y + 1 := ⟨(x - c.n).toNat - 1, by omega⟩
        have hk := r2 (by omega) y
        rw [hz, i1, i2, hy, hk]
        simp only [if_true]
        exact ⟨by omega, by omega⟩
/-- a place behind a valid delta, by its atoms -/
theorem pl_atoms {d : List Dop} {x : Nat} (hv : valB d = true) (hx : x ≤ frD d) : mvC (x : Int) 1 0 (runL d).2 = (lftA (dA d) x : Nat) ∧ mvC (x : Int) 2 0 (runL d).2 = (rgtA (dA d) x : Nat) := by
  have hs := chs_run (val_Can hv)
  have hm := hs.f
  have hl := hs.l
  have ha := hs.a
  have := mv_atoms (runL d).2 0 x (frD d) 0 (gap_weak hs.g (by omega)) (Int.le_refl _) (by omega) (by omega) (by omega)
  rw [show ((frD d : Int) - lstC 0 (runL d).2).toNat = (runL d).1 - (lstC 0 (runL d).2).toNat by omega, ha] at this
  simpa using this
/-- through one and another is between Left and Right through both -/
theorem pl_through {d e : List Dop} {x : Nat} (hv : valB d = true) (hv' : valB e = true) (hf : toD d = frD e) (hx : x ≤ frD d) :
    ∃ A B A2 B2 lo hi : Nat, mvC (x : Int) 1 0 (runL d).2 = A ∧ mvC (x : Int) 2 0 (runL d).2 = B ∧ A ≤ frD e ∧ B ≤ frD e ∧ mvC (A : Int) 1 0 (runL e).2 = A2 ∧ mvC (B : Int) 2 0 (runL e).2 = B2 ∧ mvC (x : Int) 1 0 (runL (cmD d e)).2 = lo ∧ mvC (x : Int) 2 0 (runL (cmD d e)).2 = hi ∧ lo ≤ A2 ∧ A2 ≤ B2 ∧ B2 ≤ hi := by
  have two := two_ok hv hv' hf
  obtain ⟨l1, r1⟩ := pl_atoms hv hx
  obtain ⟨l3, r3⟩ := pl_atoms two.v (x := x) (by rw [two.f]; exact hx)
  rw [two.a, lft_nf] at l3
  rw [two.a, rgt_nf] at r3
  obtain ⟨g1, g2, g3⟩ := to_ch hv
  have m1 := mv_mono 2 _ (-1) x (frD d) 0 g1 (by omega) (by omega)
  rw [mv_end _ (-1) _ 0 g1 g2, Int.add_zero, ← g3] at m1
  have m2 := mv_lr (runL d).2 x 0
  have b2 : rgtA (dA d) x ≤ frD e := by omega
  have b1 : lftA (dA d) x ≤ frD e := by omega
  obtain ⟨l4, _⟩ := pl_atoms hv' b1
  obtain ⟨_, r5⟩ := pl_atoms hv' b2
  have q : toA (dA d) = frA (dA e) := two.q
  have t1 := lft_thr _ (dA d) (dA e) x (Nat.le_refl _) q
  have t2 := rgt_thr _ (dA d) (dA e) x (Nat.le_refl _) q (by rw [(frA_dA (valB_k hv)).1]; exact hx)
  obtain ⟨k1, k2, k3⟩ := to_ch hv'
  have m3 := mv_lr (runL e).2 ((lftA (dA d) x : Nat) : Int) 0
  have m4 := mv_mono 2 _ (-1) ((lftA (dA d) x : Nat) : Int) ((rgtA (dA d) x : Nat) : Int) 0 k1 (by omega) (by omega)
  exact ⟨_, _, _, _, _, _, l1, r1, b1, b2, l4, r5, l3, r3, t1, by omega, t2⟩

end Go.Proofs.Ytnnnilodknkadaa
end

section
namespace Go.Proofs.Ytnnnilodknkadaa

theorem hasK_in : ∀ (u v : List Atm) (x : Nat), frA u < x → hasK (u ++ .k :: v) x = true
  | [], _, x + 1, _ => rfl
  | [], _, 0, h => by simp at h
  | .k :: _, _, x + 1, _ => rfl
  | .k :: _, _, 0, h => by simp at h
  | .d :: u, v, x + 1, h => hasK_in u v x (by simp only [frA] at h; omega)
  | .d :: _, _, 0, h => by simp at h
  | .p _ :: u, v, x, h => hasK_in u v x (by simpa only [frA] using h)
theorem hasK_end : ∀ (u v : List Atm) (x : Nat), frA u ≤ x → u.getLast? = some .k → hasK (u ++ v) x = true
  | [], _, _, _, h => by simp at h
  | .k :: _, _, x + 1, _, _ => rfl
  | .k :: _, _, 0, h, _ => by simp only [frA] at h; omega
  | .d :: u, v, x, h, hl => by
    cases u with
    | nil => simp at hl
    | cons a u =>
      rw [List.getLast?_cons_cons] at hl
      cases x with
      | zero => simp only [frA] at h; omega
      | succ x => exact hasK_end (a :: u) v x (by simp only [frA] at h ⊢; omega) hl
  | .p _ :: u, v, x, h, hl => by
    cases u with
    | nil => simp at hl
    | cons a u =>
      rw [List.getLast?_cons_cons] at hl
      exact hasK_end (a :: u) v x (by simpa only [frA] using h) hl
theorem lft_in : ∀ (u v : List Atm) (x : Nat), frA u < x → lftA (u ++ .k :: v) x = toA u + lftA (.k :: v) (x - frA u)
  | [], _, x, _ => by simp [frA, toA]
  | .k :: u, v, x + 1, h => by
    have ih := lft_in u v x (by simp only [frA] at h; omega)
    show 1 + lftA (u ++ .k :: v) x = _
    rw [ih, show x + 1 - frA (.k :: u) = x - frA u by simp only [frA]; omega]
    simp only [toA]; omega
  | .k :: _, _, 0, h => by simp at h
  | .d :: u, v, x + 1, h => by
    have ih := lft_in u v x (by simp only [frA] at h; omega)
    show lftA (u ++ .k :: v) x = _
    rw [ih, show x + 1 - frA (.d :: u) = x - frA u by simp only [frA]; omega]
    simp only [toA]
  | .d :: _, _, 0, h => by simp at h
  | .p y :: u, v, x, h => by
    have h' : frA u < x := by simpa only [frA] using h
    have ih := lft_in u v x h'
    show (if hasK (u ++ .k :: v) x then 1 + lftA (u ++ .k :: v) x else 0) = _
    rw [hasK_in u v x h', if_pos rfl, ih]
    simp only [toA, frA]; omega
theorem lft_end : ∀ (u v : List Atm) (x : Nat), frA u ≤ x → (u = [] ∨ u.getLast? = some .k) → lftA (u ++ v) x = toA u + lftA v (x - frA u)
  | [], _, x, _, _ => by simp [frA, toA]
  | .k :: u, v, x + 1, h, hl => by
    have hl' : u = [] ∨ u.getLast? = some .k := by
      cases u with
      | nil => exact .inl rfl
      | cons a u => rcases hl with hl | hl; cases hl; rw [List.getLast?_cons_cons] at hl; exact .inr hl
    have ih := lft_end u v x (by simp only [frA] at h; omega) hl'
    show 1 + lftA (u ++ v) x = _
    rw [ih, show x + 1 - frA (.k :: u) = x - frA u by simp only [frA]; omega]
    simp only [toA]; omega
  | .k :: _, _, 0, h, _ => by simp only [frA] at h; omega
  | .d :: u, v, x, h, hl => by
    cases u with
    | nil => simp at hl
    | cons a u =>
      have hl' : (a :: u).getLast? = some .k := by rcases hl with hl | hl; cases hl; rw [List.getLast?_cons_cons] at hl; exact hl
      cases x with
      | zero => simp only [frA] at h; omega
      | succ x =>
        have ih := lft_end (a :: u) v x (by rw [show frA (.d :: a :: u) = frA (a :: u) + 1 from by simp [frA]; try omega] at h; omega) (.inr hl')
        show lftA (a :: u ++ v) x = _
        rw [ih, show frA (.d :: a :: u) = frA (a :: u) + 1 from by simp [frA]; try omega, show x + 1 - (frA (a :: u) + 1) = x - frA (a :: u) by omega]
        rfl
  | .p y :: u, v, x, h, hl => by
    cases u with
    | nil => simp at hl
    | cons a u =>
      have hl' : (a :: u).getLast? = some .k := by rcases hl with hl | hl; cases hl; rw [List.getLast?_cons_cons] at hl; exact hl
      have h' : frA (a :: u) ≤ x := h
      have ih := lft_end (a :: u) v x h' (.inr hl')
      show (if hasK (a :: u ++ v) x then 1 + lftA (a :: u ++ v) x else 0) = _
      rw [hasK_end (a :: u) v x h' hl', if_pos rfl, ih, show toA (.p y :: a :: u) = toA (a :: u) + 1 from by simp [toA]; try omega, show frA (.p y :: a :: u) = frA (a :: u) from rfl]
      omega
theorem rgt_app : ∀ (u v : List Atm) (x : Nat), frA u ≤ x → rgtA (u ++ v) x = toA u + rgtA v (x - frA u)
  | [], _, x, _ => by simp [frA, toA]
  | .k :: u, v, x + 1, h => by
    have ih := rgt_app u v x (by simp only [frA] at h; omega)
    show 1 + rgtA (u ++ v) x = _
    rw [ih, show x + 1 - frA (.k :: u) = x - frA u by simp only [frA]; omega]
    simp only [toA]; omega
  | .k :: _, _, 0, h => by simp only [frA] at h; omega
  | .d :: u, v, x + 1, h => by
    have ih := rgt_app u v x (by simp only [frA] at h; omega)
    show rgtA (u ++ v) x = _
    rw [ih, show x + 1 - frA (.d :: u) = x - frA u by simp only [frA]; omega]
    simp only [toA]
  | .d :: _, _, 0, h => by simp only [frA] at h; omega
  | .p y :: u, v, x, h => by
    have ih := rgt_app u v x (by simpa only [frA] using h)
    show 1 + rgtA (u ++ v) x = _
    rw [ih]
    simp only [toA, frA]; omega
def NoK (m : List Atm) : Prop := ∀ a ∈ m, a ≠ .k
theorem hasK_grp : ∀ (m v : List Atm) (y : Nat), NoK m → y ≤ frA m → hasK (m ++ v) y = false
  | [], v, y, _, h => by (obtain rfl : y = 0 := by simp only [frA] at h; omega); exact hasK0 v
  | .k :: _, _, _, hn, _ => absurd rfl (hn .k (by simp))
  | .d :: _, _, 0, _, _ => rfl
  | .d :: m, v, y + 1, hn, h => hasK_grp m v y (fun a ha => hn a (by simp [ha])) (by simp only [frA] at h; omega)
  | .p _ :: m, v, y, hn, h => hasK_grp m v y (fun a ha => hn a (by simp [ha])) (by simpa only [frA] using h)
theorem lft_grp (m v : List Atm) (y : Nat) (hn : NoK m) (h : y ≤ frA m) : lftA (m ++ v) y = 0 := lft_no _ _ (hasK_grp m v y hn h)
theorem rgt_grp : ∀ (m v : List Atm) (y : Nat), NoK m → y ≤ frA m → rgtA v 0 = 0 → rgtA (m ++ v) y = toA m
  | [], v, y, _, h, h0 => by (obtain rfl : y = 0 := by simp only [frA] at h; omega); exact h0
  | .k :: _, _, _, hn, _, _ => absurd rfl (hn .k (by simp))
  | .d :: m, v, 0, hn, _, h0 => by
    have ih := rgt_grp m v 0 (fun a ha => hn a (by simp [ha])) (Nat.zero_le _) h0
    show rgtA (m ++ v) 0 = _
    rw [ih]; simp only [toA]
  | .d :: m, v, y + 1, hn, h, h0 => by
    have ih := rgt_grp m v y (fun a ha => hn a (by simp [ha])) (by simp only [frA] at h; omega) h0
    show rgtA (m ++ v) y = _
    rw [ih]; simp only [toA]
  | .p _ :: m, v, y, hn, h, h0 => by
    have ih := rgt_grp m v y (fun a ha => hn a (by simp [ha])) (by simpa only [frA] using h) h0
    show 1 + rgtA (m ++ v) y = _
    rw [ih]; simp only [toA]; omega
theorem fr_takeD {d : List Dop} (hv : valB d = true) (i : Nat) : frA (dA (d.take i)) = frD (d.take i) ∧ toA (dA (d.take i)) = toD (d.take i) :=
  frA_dA fun o ho => valB_k hv o (List.mem_of_mem_take ho)
theorem dA_split (d : List Dop) {i : Nat} (hi : i < d.length) : dA d = dA (d.take i) ++ (opA (d.getD i opZ) ++ dA (d.drop (i + 1))) := by
  rw [← dA_cons, ← drop_getD hi, ← dA_app, List.take_append_drop]
theorem opA_keep {o : Dop} (h : o.k = 1) : opA o = List.replicate o.n.toNat .k := by unfold opA; rw [if_pos h]
theorem keep_pos {d : List Dop} (hv : valB d = true) {i : Nat} (hi : i < d.length) (hk : (d.getD i opZ).k = 1) : 1 ≤ (d.getD i opZ).n := by
  rcases valB_op hv (getD_memD hi) with ⟨_, h, _⟩ | ⟨h, _⟩
  · exact h
  · rw [hk] at h; cases h
/-- a place within what is kept -/
theorem pl_keep {d : List Dop} (hv : valB d = true) {i x : Nat} (hi : i < d.length) (hk : (d.getD i opZ).k = 1) (h1 : frD (d.take i) ≤ x) (h2 : (x : Int) < frD (d.take i) + (d.getD i opZ).n) (h3 : i = 0 ∨ frD (d.take i) < x ∨ (d.getD (i - 1) opZ).k = 1) (hx : x ≤ frD d) (hc : i = 0 ∨ (d.getD (i - 1) opZ).k ≠ 1) :
    mvC (x : Int) 1 0 (runL d).2 = (toD (d.take i) : Int) + x - frD (d.take i) ∧ mvC (x : Int) 2 0 (runL d).2 = (toD (d.take i) : Int) + x - frD (d.take i) := by
  obtain ⟨e1, e2⟩ := pl_atoms hv hx
  obtain ⟨f1, f2⟩ := fr_takeD hv i
  have hp := keep_pos hv hi hk
  obtain ⟨n, hn⟩ : ∃ n : Nat, (d.getD i opZ).n.toNat = n + 1 := ⟨(d.getD i opZ).n.toNat - 1, by omega⟩
  have hs := dA_split d hi
  rw [opA_keep hk] at hs
  have hl : lftA (dA d) x = toD (d.take i) + (x - frD (d.take i)) := by
    have key : lftA (List.replicate (d.getD i opZ).n.toNat .k ++ dA (d.drop (i + 1))) (x - frD (d.take i)) = x - frD (d.take i) := by rw [lft_k, if_pos (by omega)]
    rcases Nat.eq_zero_or_pos i with h0 | h0
    · subst h0
      rw [hs]
      simp only [List.take_zero] at key ⊢
      rw [show dA ([] : List Dop) = [] from rfl, List.nil_append]
      simp only [frD, toD, List.map_nil, List.sum_nil, Nat.sub_zero, Nat.zero_add] at key ⊢
      exact key
    · have h3' : frD (d.take i) < x := by
        rcases h3 with h3 | h3 | h3
        · omega
        · exact h3
        · rcases hc with hc | hc
          · omega
          · exact absurd h3 hc
      rw [hs, hn, List.replicate_succ, List.cons_append, lft_in _ _ _ (by rw [f1]; exact h3'), f1, f2]
      rw [hn, List.replicate_succ, List.cons_append] at key
      rw [key]
  have hr : rgtA (dA d) x = toD (d.take i) + (x - frD (d.take i)) := by
    rw [hs, rgt_app _ _ _ (by rw [f1]; exact h1), f1, f2, rgt_k, if_pos (by omega)]
  rw [e1, e2, hl, hr]
  constructor <;> omega
theorem nok_mid {d : List Dop} (hv : valB d = true) : ∀ (m : List Dop), (∀ o ∈ m, o ∈ d ∧ o.k ≠ 1) → NoK (dA m)
  | [], _, a, ha => by simp [dA] at ha
  | o :: r, h, a, ha => by
    rw [dA_cons] at ha
    rcases List.mem_append.1 ha with ha | ha
    · obtain ⟨h1, h2⟩ := h o (by simp)
      unfold opA at ha
      rw [if_neg h2] at ha
      split at ha
      · obtain ⟨y, _, rfl⟩ := List.mem_map.1 ha
        simp
      · rw [List.mem_replicate] at ha
        rw [ha.2]; simp
    · exact nok_mid hv r (fun x hx => h x (by simp [hx])) a ha
theorem last_keep {d : List Dop} (hv : valB d = true) {i : Nat} (hi : i ≤ d.length) (h : i = 0 ∨ (d.getD (i - 1) opZ).k = 1) : dA (d.take i) = [] ∨ (dA (d.take i)).getLast? = some .k := by
  rcases Nat.eq_zero_or_pos i with h0 | h0
  · subst h0; exact .inl rfl
  · rcases h with h | h
    · omega
    · right
      obtain ⟨j, rfl⟩ : ∃ j, i = j + 1 := ⟨i - 1, by omega⟩
      simp only [Nat.add_sub_cancel] at h
      have hp := keep_pos hv (by omega) h
      obtain ⟨n, hn⟩ : ∃ n : Nat, (d.getD j opZ).n.toNat = n + 1 := ⟨(d.getD j opZ).n.toNat - 1, by omega⟩
      have e : d.take (j + 1) = d.take j ++ [d.getD j opZ] := by
        rw [List.take_add_one, List.getElem?_eq_getElem (by omega : j < d.length)]
        simp [List.getD, List.getElem?_eq_getElem (by omega : j < d.length)]
      rw [e, dA_app, show dA [d.getD j opZ] = opA (d.getD j opZ) by simp [dA], opA_keep h, hn, List.replicate_succ', ← List.append_assoc]
      simp
theorem mem_mid {d : List Dop} {i j : Nat} {o : Dop} (hj : j ≤ d.length) (h : o ∈ (d.drop i).take (j - i)) : ∃ m, i ≤ m ∧ m < j ∧ d.getD m opZ = o := by
  obtain ⟨k, hk, rfl⟩ := List.getElem_of_mem h
  simp only [List.length_take, List.length_drop] at hk
  refine ⟨i + k, by omega, by omega, ?_⟩
  rw [List.getElem_take, List.getElem_drop]
  simp [List.getD, List.getElem?_eq_getElem (by omega : i + k < d.length)]
theorem frD_appS (x y : List Dop) : frD (x ++ y) = frD x + frD y := by simp [frD]
/-- a place at what stands between two keeps -/
theorem pl_grp {d : List Dop} (hv : valB d = true) {i j x : Nat} (hij : i ≤ j) (hj : j ≤ d.length) (hn : ∀ m, i ≤ m → m < j → (d.getD m opZ).k ≠ 1) (hb : i = 0 ∨ (d.getD (i - 1) opZ).k = 1) (he : j = d.length ∨ (d.getD j opZ).k = 1)
    (h1 : frD (d.take i) ≤ x) (h2 : x ≤ frD (d.take j)) (hx : x ≤ frD d) : mvC (x : Int) 1 0 (runL d).2 = (toD (d.take i) : Int) ∧ mvC (x : Int) 2 0 (runL d).2 = (toD (d.take j) : Int) := by
  obtain ⟨e1, e2⟩ := pl_atoms hv hx
  obtain ⟨f1, f2⟩ := fr_takeD hv i
  have hmem : ∀ o ∈ (d.drop i).take (j - i), o ∈ d ∧ o.k ≠ 1 := fun o ho => by
    obtain ⟨m, m1, m2, rfl⟩ := mem_mid hj ho
    exact ⟨getD_memD (by omega), hn m m1 m2⟩
  have hm := frA_dA (d := (d.drop i).take (j - i)) fun o ho => valB_k hv o (hmem o ho).1
  have ej : d.take j = d.take i ++ (d.drop i).take (j - i) := by rw [show j = i + (j - i) by omega, List.take_add, show i + (j - i) - i = j - i by omega]
  have hs : dA d = dA (d.take i) ++ (dA ((d.drop i).take (j - i)) ++ dA (d.drop j)) := by
    conv => lhs; rw [← List.take_append_drop j d, ej]
    rw [dA_app, dA_app, List.append_assoc]
  have hfj : frD (d.take j) = frD (d.take i) + frD ((d.drop i).take (j - i)) := by rw [ej, frD_appS]
  have htj : toD (d.take j) = toD (d.take i) + toD ((d.drop i).take (j - i)) := by rw [ej, toD_appS]
  have hno := nok_mid hv _ hmem
  have h0 : rgtA (dA (d.drop j)) 0 = 0 := by
    rcases Nat.lt_or_ge j d.length with hl | hl
    · have hk : (d.getD j opZ).k = 1 := by rcases he with he | he; omega; exact he
      have hp := keep_pos hv hl hk
      obtain ⟨n, hn⟩ : ∃ n : Nat, (d.getD j opZ).n.toNat = n + 1 := ⟨(d.getD j opZ).n.toNat - 1, by omega⟩
      rw [drop_getD hl, dA_cons, opA_keep hk, hn, List.replicate_succ]
      rfl
    · rw [List.drop_eq_nil_of_le hl]; rfl
  rw [e1, e2, hs, lft_end _ _ _ (by rw [f1]; exact h1) (last_keep hv (by omega) hb), rgt_app _ _ _ (by rw [f1]; exact h1), f1, f2, lft_grp _ _ _ hno (by rw [hm.1]; omega), rgt_grp _ _ _ hno (by rw [hm.1]; omega) h0, hm.2, htj]
  constructor <;> omega
/-- a place at the end, behind what is kept -/
theorem pl_last {d : List Dop} (hv : valB d = true) (hb : d.length = 0 ∨ (d.getD (d.length - 1) opZ).k = 1) : mvC (frD d : Int) 1 0 (runL d).2 = (toD d : Int) ∧ mvC (frD d : Int) 2 0 (runL d).2 = (toD d : Int) := by
  have := pl_grp hv (i := d.length) (j := d.length) (x := frD d) (Nat.le_refl _) (Nat.le_refl _) (fun m h1 h2 => by omega) hb (.inl rfl) (by rw [List.take_length]; exact Nat.le_refl _) (by rw [List.take_length]; exact Nat.le_refl _) (Nat.le_refl _)
  rw [List.take_length] at this
  exact this

end Go.Proofs.Ytnnnilodknkadaa
end
