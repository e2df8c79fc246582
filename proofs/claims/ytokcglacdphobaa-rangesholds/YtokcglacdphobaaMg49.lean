/- Layer 14, plain: a place behind changes is a place between atoms; through one delta and another. · Layer 16, plain: how many bytes of a piece are kept, and where its ends come to stand. -/
import Derived.Test.YtokcglacdphobaaMg48
import Derived.Test.YtokcglacdphobaaMg36

section
namespace Go.Proofs.Ytokcglacdphobaa

theorem lft_k : ∀ (m : Nat) (u : List Atm) (y : Nat), lftA (List.replicate m .k ++ u) y = if y ≤ m then y else m + lftA u (y - m)
  | 0, u, y => by
    cases y with
    | zero => simp [lft0]
    | succ y => simp
  | m + 1, u, 0 => by simp [List.replicate_succ, lftA]
  | m + 1, u, y + 1 => by
    rw [List.replicate_succ, List.cons_append]
    show 1 + lftA (List.replicate m .k ++ u) y = _
    rw [lft_k m u y]
    by_cases h : y ≤ m
    · rw [if_pos h, if_pos (by omega)]; omega
    · rw [if_neg h, if_neg (by omega), show y + 1 - (m + 1) = y - m by omega]; omega
theorem rgt_k : ∀ (m : Nat) (u : List Atm) (y : Nat), rgtA (List.replicate m .k ++ u) y = if y < m then y else m + rgtA u (y - m)
  | 0, u, y => by simp
  | m + 1, u, 0 => by simp [List.replicate_succ, rgtA]
  | m + 1, u, y + 1 => by
    rw [List.replicate_succ, List.cons_append]
    show 1 + rgtA (List.replicate m .k ++ u) y = _
    rw [rgt_k m u y]
    by_cases h : y < m
    · rw [if_pos h, if_pos (by omega)]; omega
    · rw [if_neg h, if_neg (by omega), show y + 1 - (m + 1) = y - m by omega]; omega
theorem hasK_d : ∀ (e : Nat) (u : List Atm) (y : Nat), hasK (List.replicate e .d ++ u) y = hasK u (y - e)
  | 0, u, y => by simp
  | e + 1, u, 0 => by simp [List.replicate_succ, hasK0]
  | e + 1, u, y + 1 => by
    rw [List.replicate_succ, List.cons_append]
    show hasK (List.replicate e .d ++ u) y = _
    rw [hasK_d e u y, show y + 1 - (e + 1) = y - e by omega]
theorem lft_d : ∀ (e : Nat) (u : List Atm) (y : Nat), lftA (List.replicate e .d ++ u) y = lftA u (y - e)
  | 0, u, y => by simp
  | e + 1, u, 0 => by simp [List.replicate_succ, lft0]
  | e + 1, u, y + 1 => by
    rw [List.replicate_succ, List.cons_append]
    show lftA (List.replicate e .d ++ u) y = _
    rw [lft_d e u y, show y + 1 - (e + 1) = y - e by omega]
theorem rgt_d : ∀ (e : Nat) (u : List Atm) (y : Nat), rgtA (List.replicate e .d ++ u) y = rgtA u (y - e)
  | 0, u, y => by simp
  | e + 1, u, 0 => by
    rw [List.replicate_succ, List.cons_append]
    show rgtA (List.replicate e .d ++ u) 0 = _
    rw [rgt_d e u 0]; simp
  | e + 1, u, y + 1 => by
    rw [List.replicate_succ, List.cons_append]
    show rgtA (List.replicate e .d ++ u) y = _
    rw [rgt_d e u y, show y + 1 - (e + 1) = y - e by omega]
theorem hasK_p : ∀ (t : List Int) (u : List Atm) (y : Nat), hasK (t.map .p ++ u) y = hasK u y
  | [], _, _ => rfl
  | _ :: t, u, y => hasK_p t u y
theorem lft_p : ∀ (t : List Int) (u : List Atm) (y : Nat), lftA (t.map .p ++ u) y = if hasK u y then t.length + lftA u y else 0
  | [], u, y => by
    cases h : hasK u y with
    | false => simp [lft_no u y h]
    | true => simp
  | _ :: t, u, y => by
    show (if hasK (t.map .p ++ u) y then 1 + lftA (t.map .p ++ u) y else 0) = _
    rw [hasK_p, lft_p t u y]
    cases hasK u y <;> simp; omega
theorem rgt_p : ∀ (t : List Int) (u : List Atm) (y : Nat), rgtA (t.map .p ++ u) y = t.length + rgtA u y
  | [], _, _ => by simp
  | _ :: t, u, y => by
    show 1 + rgtA (t.map .p ++ u) y = _
    rw [rgt_p t u y]; simp; omega
theorem gap_weak : ∀ {h h' : Int} {cs : List Dop}, GapC h cs → h' ≤ h → GapC h' cs
  | _, _, [], _, _ => trivial
  | _, _, _ :: _, hg, hh => ⟨by have := hg.1; omega, hg.2⟩
theorem opC_A (p : Int) (c : Dop) (r : List Dop) : dA (opC p (c :: r)) = List.replicate (c.k - p).toNat .k ++ (c.t.map .p ++ (List.replicate (c.n - c.k).toNat .d ++ dA (opC c.n r))) := by
  simp only [opC, dA_cons]
  simp [opA]
/-- what stands behind a change begins with a kept byte -/
theorem rest_k (h N : Int) (r : List Dop) (hg : GapC h r) (hl : lstC h r ≤ N) : rgtA (dA (opC h r) ++ List.replicate (N - lstC h r).toNat .k) 0 = 0 ∧ (h < N → ∀ y, hasK (dA (opC h r) ++ List.replicate (N - lstC h r).toNat .k) (y + 1) = true) := by
  cases r with
  | nil =>
    simp only [opC, lstC] at hl ⊢
    rw [show dA ([] : List Dop) = [] from rfl, List.nil_append]
    refine ⟨?_, fun hN y => ?_⟩
    · cases (N - h).toNat <;> rfl
    · obtain ⟨m, hm⟩ : ∃ m, (N - h).toNat = m + 1 := ⟨(N - h).toNat - 1, by omega⟩
      rw [hm, List.replicate_succ]; rfl
  | cons c r =>
    have h1 := hg.1
    obtain ⟨m, hm⟩ : ∃ m, (c.k - h).toNat = m + 1 := ⟨(c.k - h).toNat - 1, by omega⟩
    rw [opC_A, hm, List.replicate_succ]
    exact ⟨rfl, fun _ _ => rfl⟩
theorem mv_atoms : ∀ (cs : List Dop) (p x N s : Int), GapC (p - 1) cs → 0 ≤ p → p ≤ x → x ≤ N → lstC p cs ≤ N →
    mvC x 1 s cs = p + s + (lftA (dA (opC p cs) ++ List.replicate (N - lstC p cs).toNat .k) (x - p).toNat : Nat) ∧ mvC x 2 s cs = p + s + (rgtA (dA (opC p cs) ++ List.replicate (N - lstC p cs).toNat .k) (x - p).toNat : Nat)
  | [], p, x, N, s, _, h0, hx, hN, _ => by
    simp only [mvC, opC, lstC]
    rw [show dA ([] : List Dop) = [] from rfl, List.nil_append]
    have e1 := lft_k (N - p).toNat [] (x - p).toNat
    have e2 := rgt_k (N - p).toNat [] (x - p).toNat
    rw [List.append_nil] at e1 e2
    rw [e1, e2, if_pos (by omega)]
    refine ⟨by omega, ?_⟩
    split
    · omega
    · simp only [rgtA]; omega
  | c :: r, p, x, N, s, hg, h0, hx, hN, hl => by
    have h1 := hg.1
    have h2 := hg.2.1
    have h3 := (gap_le hg.2.2).1
    simp only [lstC] at hl
    obtain ⟨r1, r2⟩ := rest_k c.n N r hg.2.2 hl
    rw [opC_A]
    simp only [lstC, List.append_assoc]
    generalize hR : dA (opC c.n r) ++ List.replicate (N - lstC c.n r).toNat Atm.k = R at *
    rw [lft_k, rgt_k]
    simp only [mvC]
    by_cases q1 : x < c.k
    · rw [if_pos q1, if_pos q1, if_pos (by omega), if_pos (by omega)]
      exact ⟨by omega, by omega⟩
    · rw [if_neg q1, if_neg q1]
      rw [if_neg (show ¬ (x - p).toNat < (c.k - p).toNat by omega)]
      rw [lft_p, rgt_p, hasK_d, lft_d, rgt_d]
      by_cases q2 : x ≤ c.n
      · rw [if_pos q2, if_pos q2]
        have hz : (x - p).toNat - (c.k - p).toNat - (c.n - c.k).toNat = 0 := by omega
        rw [hz, hasK0, r1]
        refine ⟨?_, ?_⟩
        · simp only [if_true, Bool.false_eq_true, if_false]
          split <;> omega
        · simp only [show ¬ ((2 : Int) = 1) by decide, if_false]; omega
      · rw [if_neg q2, if_neg q2]
        obtain ⟨i1, i2⟩ := mv_atoms r c.n x N (s + ((c.t.length : Int) - (c.n - c.k))) (gap_weak hg.2.2 (by omega)) (by omega) (by omega) hN hl
        rw [hR] at i1 i2
        rw [if_neg (by omega)]
        have hz : (x - p).toNat - (c.k - p).toNat - (c.n - c.k).toNat = (x - c.n).toNat := by omega
        obtain ⟨y, hy⟩ : ∃ y, (x - c.n).toNat = y + 1 := ⟨(x - c.n).toNat - 1, by omega⟩
        have hk := r2 (by omega) y
        rw [hz, i1, i2, hy, hk]
        simp only [if_true]
        exact ⟨by omega, by omega⟩
/-- a place behind a valid delta, by its atoms -/
theorem pl_atoms {d : List Dop} {x : Nat} (hv : valB d = true) (hx : x ≤ frD d) : mvC (x : Int) 1 0 (runL d).2 = (lftA (dA d) x : Nat) ∧ mvC (x : Int) 2 0 (runL d).2 = (rgtA (dA d) x : Nat) := by
  have hs := chs_run (val_Can hv)
  have hm := hs.f
  have hl := hs.l
  have ha := hs.a
  have := mv_atoms (runL d).2 0 x (frD d) 0 (gap_weak hs.g (by omega)) (Int.le_refl _) (by omega) (by omega) (by omega)
  rw [show ((frD d : Int) - lstC 0 (runL d).2).toNat = (runL d).1 - (lstC 0 (runL d).2).toNat by omega, ha] at this
  simpa using this
/-- through one and another is between Left and Right through both -/
theorem pl_through {d e : List Dop} {x : Nat} (hv : valB d = true) (hv' : valB e = true) (hf : toD d = frD e) (hx : x ≤ frD d) :
    ∃ A B A2 B2 lo hi : Nat, mvC (x : Int) 1 0 (runL d).2 = A ∧ mvC (x : Int) 2 0 (runL d).2 = B ∧ A ≤ frD e ∧ B ≤ frD e ∧ mvC (A : Int) 1 0 (runL e).2 = A2 ∧ mvC (B : Int) 2 0 (runL e).2 = B2 ∧ mvC (x : Int) 1 0 (runL (cmD d e)).2 = lo ∧ mvC (x : Int) 2 0 (runL (cmD d e)).2 = hi ∧ lo ≤ A2 ∧ A2 ≤ B2 ∧ B2 ≤ hi := by
  have two := two_ok hv hv' hf
  obtain ⟨l1, r1⟩ := pl_atoms hv hx
  obtain ⟨l3, r3⟩ := pl_atoms two.v (x := x) (by rw [two.f]; exact hx)
  rw [two.a, lft_nf] at l3
  rw [two.a, rgt_nf] at r3
  obtain ⟨g1, g2, g3⟩ := to_ch hv
  have m1 := mv_mono 2 _ (-1) x (frD d) 0 g1 (by omega) (by omega)
  rw [mv_end _ (-1) _ 0 g1 g2, Int.add_zero, ← g3] at m1
  have m2 := mv_lr (runL d).2 x 0
  have b2 : rgtA (dA d) x ≤ frD e := by omega
  have b1 : lftA (dA d) x ≤ frD e := by omega
  obtain ⟨l4, _⟩ := pl_atoms hv' b1
  obtain ⟨_, r5⟩ := pl_atoms hv' b2
  have q : toA (dA d) = frA (dA e) := two.q
  have t1 := lft_thr _ (dA d) (dA e) x (Nat.le_refl _) q
  have t2 := rgt_thr _ (dA d) (dA e) x (Nat.le_refl _) q (by rw [(frA_dA (valB_k hv)).1]; exact hx)
  obtain ⟨k1, k2, k3⟩ := to_ch hv'
  have m3 := mv_lr (runL e).2 ((lftA (dA d) x : Nat) : Int) 0
  have m4 := mv_mono 2 _ (-1) ((lftA (dA d) x : Nat) : Int) ((rgtA (dA d) x : Nat) : Int) 0 k1 (by omega) (by omega)
  exact ⟨_, _, _, _, _, _, l1, r1, b1, b2, l4, r5, l3, r3, t1, by omega, t2⟩

end Go.Proofs.Ytokcglacdphobaa
end

section
namespace Go.Proofs.Ytokcglacdphobaa

/-- the kept ones among the old bytes from l to h -/
def kpA : List Atm → Nat → Nat → Nat
  | [], _, _ => 0
  | .p _ :: u, l, h => kpA u l h
  | .d :: u, l, h => kpA u (l - 1) (h - 1)
  | .k :: u, l, h => (if l = 0 ∧ 0 < h then 1 else 0) + kpA u (l - 1) (h - 1)
theorem kpA_zero : ∀ (u : List Atm) (l : Nat), kpA u l 0 = 0
  | [], _ => rfl
  | .p _ :: u, l => kpA_zero u l
  | .d :: u, l => by simp [kpA, kpA_zero u (l - 1)]
  | .k :: u, l => by simp [kpA, kpA_zero u (l - 1)]
theorem kpA_has : ∀ (u : List Atm) (l h : Nat), 0 < kpA u l h → hasK u h = true
  | [], _, _, h => by simp [kpA] at h
  | .p _ :: u, l, h, hp => kpA_has u l h hp
  | .d :: u, l, 0, hp => by rw [kpA_zero] at hp; omega
  | .d :: u, l, h + 1, hp => kpA_has u (l - 1) h hp
  | .k :: u, l, 0, hp => by rw [kpA_zero] at hp; omega
  | .k :: _, _, _ + 1, _ => rfl
theorem kp_ends : ∀ (u : List Atm) (l h : Nat), l ≤ h → (kpA u l h = 0 → lftA u h ≤ rgtA u l) ∧ (0 < kpA u l h → rgtA u l + kpA u l h ≤ lftA u h)
  | [], _, _, _ => ⟨fun _ => Nat.zero_le _, fun h => by simp [kpA] at h⟩
  | .p _ :: u, l, h, hl => by
    obtain ⟨i1, i2⟩ := kp_ends u l h hl
    refine ⟨fun h0 => ?_, fun h0 => ?_⟩
    · have := i1 h0
      simp only [lftA, rgtA]
      split <;> omega
    · have := i2 h0
      have hk := kpA_has u l h h0
      simp only [lftA, rgtA, kpA, hk, if_true]
      omega
  | .d :: u, l, 0, _ => ⟨fun _ => by simp [lftA], fun h0 => by rw [kpA_zero] at h0; omega⟩
  | .d :: u, 0, h + 1, _ => by
    have := kp_ends u 0 h (Nat.zero_le _)
    simpa [kpA, lftA, rgtA] using this
  | .d :: u, l + 1, h + 1, hl => by
    have := kp_ends u l h (by omega)
    simpa [kpA, lftA, rgtA] using this
  | .k :: u, l, 0, _ => ⟨fun _ => by simp [lftA], fun h0 => by rw [kpA_zero] at h0; omega⟩
  | .k :: u, 0, h + 1, _ => by
    obtain ⟨i1, i2⟩ := kp_ends u 0 h (Nat.zero_le _)
    have e : kpA (.k :: u) 0 (h + 1) = 1 + kpA u 0 h := by simp [kpA]
    rw [e]
    refine ⟨fun h0 => by omega, fun _ => ?_⟩
    simp only [lftA, rgtA]
    rcases Nat.eq_zero_or_pos (kpA u 0 h) with h0 | h0
    · omega
    · have := i2 h0; omega
  | .k :: u, l + 1, h + 1, hl => by
    obtain ⟨i1, i2⟩ := kp_ends u l h (by omega)
    have e : kpA (.k :: u) (l + 1) (h + 1) = kpA u l h := by simp [kpA]
    rw [e]
    simp only [lftA, rgtA]
    exact ⟨fun h0 => by have := i1 h0; omega, fun h0 => by have := i2 h0; omega⟩
theorem kpA_k : ∀ (n : Nat) (u : List Atm) (l h : Nat), l ≤ h → kpA (List.replicate n .k ++ u) l h = (min n h - min n l) + kpA u (l - n) (h - n)
  | 0, u, l, h, _ => by simp
  | n + 1, u, l, h, hl => by
    rw [List.replicate_succ, List.cons_append]
    simp only [kpA]
    rw [kpA_k n u (l - 1) (h - 1) (by omega), show l - 1 - n = l - (n + 1) by omega, show h - 1 - n = h - (n + 1) by omega]
    split <;> omega
theorem kpA_d : ∀ (n : Nat) (u : List Atm) (l h : Nat), kpA (List.replicate n .d ++ u) l h = kpA u (l - n) (h - n)
  | 0, u, l, h => by simp
  | n + 1, u, l, h => by
    rw [List.replicate_succ, List.cons_append]
    simp only [kpA]
    rw [kpA_d n u (l - 1) (h - 1), show l - 1 - n = l - (n + 1) by omega, show h - 1 - n = h - (n + 1) by omega]
theorem kpA_p : ∀ (t : List Int) (u : List Atm) (l h : Nat), kpA (t.map .p ++ u) l h = kpA u l h
  | [], _, _, _ => rfl
  | _ :: t, u, l, h => kpA_p t u l h
/-- a range that holds on to its bytes -/
theorem hold_ends {d : List Dop} {l h : Nat} (hv : valB d = true) (hh : h ≤ frD d) (hl : l < h) : (kpA (dA d) l h = 0 → plV d h 1 ≤ plV d l 2) ∧ (0 < kpA (dA d) l h → plV d l 2 + kpA (dA d) l h ≤ plV d h 1) := by
  have a := (pl_atoms hv hh).1
  have b := (pl_atoms (x := l) hv (by omega)).2
  have c := (pl_zero (p := (h : Int)) (g := 1) hv ⟨by omega, by omega⟩ (.inl rfl)).2
  have e := (pl_zero (p := (l : Int)) (g := 2) hv ⟨by omega, by omega⟩ (.inr rfl)).2
  rw [c, e, a, b]
  obtain ⟨i1, i2⟩ := kp_ends (dA d) l h (by omega)
  exact ⟨fun h0 => by have := i1 h0; omega, fun h0 => by have := i2 h0; omega⟩
end Go.Proofs.Ytokcglacdphobaa
end
