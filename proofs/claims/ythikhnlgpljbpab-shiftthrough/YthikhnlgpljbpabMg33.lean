/- Layer 14, plain: a place behind changes is a place between atoms; through one delta and another. · Layer 14: Both (written by wip/tools/sft.py). -/
import Derived.Test.YthikhnlgpljbpabMg32
import Derived.Test.YthikhnlgpljbpabMg24
import Derived.Test.YthikhnlgpljbpabMg31

section
namespace Go.Proofs.Ythikhnlgpljbpab

theorem lft_k : ∀ (m : Nat) (u : List Atm) (y : Nat), lftA (List.replicate m .k ++ u) y = if y ≤ m then y else m + lftA u (y - m)
  | 0, u, y => by
    cases y with
    | zero => simp [lft0]
    | succ y => simp
  | m + 1, u, 0 => by simp [List.replicate_succ, lftA]
  | m + 1, u, y + 1 => by
    rw [List.replicate_succ, List.cons_append]
    show 1 + lftA (List.replicate m .k ++ u) y = _
    rw [lft_k m u y]
    by_cases h : y ≤ m
    · rw [if_pos h, if_pos (by omega)]; omega
    · rw [if_neg h, if_neg (by omega), show y + 1 - (m + 1) = y - m by omega]; omega
theorem rgt_k : ∀ (m : Nat) (u : List Atm) (y : Nat), rgtA (List.replicate m .k ++ u) y = if y < m then y else m + rgtA u (y - m)
  | 0, u, y => by simp
  | m + 1, u, 0 => by simp [List.replicate_succ, rgtA]
  | m + 1, u, y + 1 => by
    rw [List.replicate_succ, List.cons_append]
    show 1 + rgtA (List.replicate m .k ++ u) y = _
    rw [rgt_k m u y]
    by_cases h : y < m
    · rw [if_pos h, if_pos (by omega)]; omega
    · rw [if_neg h, if_neg (by omega), show y + 1 - (m + 1) = y - m by omega]; omega
theorem hasK_d : ∀ (e : Nat) (u : List Atm) (y : Nat), hasK (List.replicate e .d ++ u) y = hasK u (y - e)
  | 0, u, y => by simp
  | e + 1, u, 0 => by simp [List.replicate_succ, hasK0]
  | e + 1, u, y + 1 => by
    rw [List.replicate_succ, List.cons_append]
    show hasK (List.replicate e .d ++ u) y = _
    rw [hasK_d e u y, show y + 1 - (e + 1) = y - e by omega]
theorem lft_d : ∀ (e : Nat) (u : List Atm) (y : Nat), lftA (List.replicate e .d ++ u) y = lftA u (y - e)
  | 0, u, y => by simp
  | e + 1, u, 0 => by simp [List.replicate_succ, lft0]
  | e + 1, u, y + 1 => by
    rw [List.replicate_succ, List.cons_append]
    show lftA (List.replicate e .d ++ u) y = _
    rw [lft_d e u y, show y + 1 - (e + 1) = y - e by omega]
theorem rgt_d : ∀ (e : Nat) (u : List Atm) (y : Nat), rgtA (List.replicate e .d ++ u) y = rgtA u (y - e)
  | 0, u, y => by simp
  | e + 1, u, 0 => by
    rw [List.replicate_succ, List.cons_append]
    show rgtA (List.replicate e .d ++ u) 0 = _
    rw [rgt_d e u 0]; simp
  | e + 1, u, y + 1 => by
    rw [List.replicate_succ, List.cons_append]
    show rgtA (List.replicate e .d ++ u) y = _
    rw [rgt_d e u y, show y + 1 - (e + 1) = y - e by omega]
theorem hasK_p : ∀ (t : List Int) (u : List Atm) (y : Nat), hasK (t.map .p ++ u) y = hasK u y
  | [], _, _ => rfl
  | _ :: t, u, y => hasK_p t u y
theorem lft_p : ∀ (t : List Int) (u : List Atm) (y : Nat), lftA (t.map .p ++ u) y = if hasK u y then t.length + lftA u y else 0
  | [], u, y => by
    cases h : hasK u y with
    | false => simp [lft_no u y h]
    | true => simp
  | _ :: t, u, y => by
    show (if hasK (t.map .p ++ u) y then 1 + lftA (t.map .p ++ u) y else 0) = _
    rw [hasK_p, lft_p t u y]
    cases hasK u y <;> simp; omega
theorem rgt_p : ∀ (t : List Int) (u : List Atm) (y : Nat), rgtA (t.map .p ++ u) y = t.length + rgtA u y
  | [], _, _ => by simp
  | _ :: t, u, y => by
    show 1 + rgtA (t.map .p ++ u) y = _
    rw [rgt_p t u y]; simp; omega
theorem gap_weak : ∀ {h h' : Int} {cs : List Dop}, GapC h cs → h' ≤ h → GapC h' cs
  | _, _, [], _, _ => trivial
  | _, _, _ :: _, hg, hh => ⟨by have := hg.1; omega, hg.2⟩
theorem opC_A (p : Int) (c : Dop) (r : List Dop) : dA (opC p (c :: r)) = List.replicate (c.k - p).toNat .k ++ (c.t.map .p ++ (List.replicate (c.n - c.k).toNat .d ++ dA (opC c.n r))) := by
  simp only [opC, dA_cons]
  simp [opA]
/-- what stands behind a change begins with a kept byte -/
theorem rest_k (h N : Int) (r : List Dop) (hg : GapC h r) (hl : lstC h r ≤ N) : rgtA (dA (opC h r) ++ List.replicate (N - lstC h r).toNat .k) 0 = 0 ∧ (h < N → ∀ y, hasK (dA (opC h r) ++ List.replicate (N - lstC h r).toNat .k) (y + 1) = true) := by
  cases r with
  | nil =>
    simp only [opC, lstC] at hl ⊢
    rw [show dA ([] : List Dop) = [] from rfl, List.nil_append]
    refine ⟨?_, fun hN y => ?_⟩
    · cases (N - h).toNat <;> rfl
    · obtain ⟨m, hm⟩ : ∃ m, (N - h).toNat = m + 1 := ⟨(N - h).toNat - 1, by omega⟩
      rw [hm, List.replicate_succ]; rfl
  | cons c r =>
    have h1 := hg.1
    obtain ⟨m, hm⟩ : ∃ m, (c.k - h).toNat = m + 1 := ⟨(c.k - h).toNat - 1, by omega⟩
    rw [opC_A, hm, List.replicate_succ]
    exact ⟨rfl, fun _ _ => rfl⟩
theorem mv_atoms : ∀ (cs : List Dop) (p x N s : Int), GapC (p - 1) cs → 0 ≤ p → p ≤ x → x ≤ N → lstC p cs ≤ N →
    mvC x 1 s cs = p + s + (lftA (dA (opC p cs) ++ List.replicate (N - lstC p cs).toNat .k) (x - p).toNat : Nat) ∧ mvC x 2 s cs = p + s + (rgtA (dA (opC p cs) ++ List.replicate (N - lstC p cs).toNat .k) (x - p).toNat : Nat)
  | [], p, x, N, s, _, h0, hx, hN, _ => by
    simp only [mvC, opC, lstC]
    rw [show dA ([] : List Dop) = [] from rfl, List.nil_append]
    have e1 := lft_k (N - p).toNat [] (x - p).toNat
    have e2 := rgt_k (N - p).toNat [] (x - p).toNat
    rw [List.append_nil] at e1 e2
    rw [e1, e2, if_pos (by omega)]
    refine ⟨by omega, ?_⟩
    split
    · omega
    · simp only [rgtA]; omega
  | c :: r, p, x, N, s, hg, h0, hx, hN, hl => by
    have h1 := hg.1
    have h2 := hg.2.1
    have h3 := (gap_le hg.2.2).1
    simp only [lstC] at hl
    obtain ⟨r1, r2⟩ := rest_k c.n N r hg.2.2 hl
    rw [opC_A]
    simp only [lstC, List.append_assoc]
    generalize hR : dA (opC c.n r) ++ List.replicate (N - lstC c.n r).toNat Atm.k = R at *
    rw [lft_k, rgt_k]
    simp only [mvC]
    by_cases q1 : x < c.k
    · rw [if_pos q1, if_pos q1, if_pos (by omega), if_pos (by omega)]
      exact ⟨by omega, by omega⟩
    · rw [if_neg q1, if_neg q1]
      rw [if_neg (show ¬ (x - p).toNat < (c.k - p).toNat by omega)]
      rw [lft_p, rgt_p, hasK_d, lft_d, rgt_d]
      by_cases q2 : x ≤ c.n
      · rw [if_pos q2, if_pos q2]
        have hz : (x - p).toNat - (c.k - p).toNat - (c.n - c.k).toNat = 0 := by omega
        rw [hz, hasK0, r1]
        refine ⟨?_, ?_⟩
        · simp only [if_true, Bool.false_eq_true, if_false]
          split <;> omega
        · simp only [show ¬ ((2 : Int) = 1) by decide, if_false]; omega
      · rw [if_neg q2, if_neg q2]
        obtain ⟨i1, i2⟩ := mv_atoms r c.n x N (s + ((c.t.length : Int) - (c.n - c.k))) (gap_weak hg.2.2 (by omega)) (by omega) (by omega) hN hl
        rw [hR] at i1 i2
        rw [if_neg (by omega)]
        have hz : (x - p).toNat - (c.k - p).toNat - (c.n - c.k).toNat = (x - c.n).toNat := by omega
        obtain ⟨y, hy⟩ : ∃ y, (x - c.n).toNat = y + 1 := ⟨(x - c.n).toNat - 1, by omega⟩
        have hk := r2 (by omega) y
        rw [hz, i1, i2, hy, hk]
        simp only [if_true]
        exact ⟨by omega, by omega⟩
/-- a place behind a valid delta, by its atoms -/
theorem pl_atoms {d : List Dop} {x : Nat} (hv : valB d = true) (hx : x ≤ frD d) : mvC (x : Int) 1 0 (runL d).2 = (lftA (dA d) x : Nat) ∧ mvC (x : Int) 2 0 (runL d).2 = (rgtA (dA d) x : Nat) := by
  have hs := chs_run (val_Can hv)
  have hm := hs.f
  have hl := hs.l
  have ha := hs.a
  have := mv_atoms (runL d).2 0 x (frD d) 0 (gap_weak hs.g (by omega)) (Int.le_refl _) (by omega) (by omega) (by omega)
  rw [show ((frD d : Int) - lstC 0 (runL d).2).toNat = (runL d).1 - (lstC 0 (runL d).2).toNat by omega, ha] at this
  simpa using this
/-- through one and another is between Left and Right through both -/
theorem pl_through {d e : List Dop} {x : Nat} (hv : valB d = true) (hv' : valB e = true) (hf : toD d = frD e) (hx : x ≤ frD d) :
    ∃ A B A2 B2 lo hi : Nat, mvC (x : Int) 1 0 (runL d).2 = A ∧ mvC (x : Int) 2 0 (runL d).2 = B ∧ A ≤ frD e ∧ B ≤ frD e ∧ mvC (A : Int) 1 0 (runL e).2 = A2 ∧ mvC (B : Int) 2 0 (runL e).2 = B2 ∧ mvC (x : Int) 1 0 (runL (cmD d e)).2 = lo ∧ mvC (x : Int) 2 0 (runL (cmD d e)).2 = hi ∧ lo ≤ A2 ∧ A2 ≤ B2 ∧ B2 ≤ hi := by
  have two := two_ok hv hv' hf
  obtain ⟨l1, r1⟩ := pl_atoms hv hx
  obtain ⟨l3, r3⟩ := pl_atoms two.v (x := x) (by rw [two.f]; exact hx)
  rw [two.a, lft_nf] at l3
  rw [two.a, rgt_nf] at r3
  obtain ⟨g1, g2, g3⟩ := to_ch hv
  have m1 := mv_mono 2 _ (-1) x (frD d) 0 g1 (by omega) (by omega)
  rw [mv_end _ (-1) _ 0 g1 g2, Int.add_zero, ← g3] at m1
  have m2 := mv_lr (runL d).2 x 0
  have b2 : rgtA (dA d) x ≤ frD e := by omega
  have b1 : lftA (dA d) x ≤ frD e := by omega
  obtain ⟨l4, _⟩ := pl_atoms hv' b1
  obtain ⟨_, r5⟩ := pl_atoms hv' b2
  have q : toA (dA d) = frA (dA e) := two.q
  have t1 := lft_thr _ (dA d) (dA e) x (Nat.le_refl _) q
  have t2 := rgt_thr _ (dA d) (dA e) x (Nat.le_refl _) q (by rw [(frA_dA (valB_k hv)).1]; exact hx)
  obtain ⟨k1, k2, k3⟩ := to_ch hv'
  have m3 := mv_lr (runL e).2 ((lftA (dA d) x : Nat) : Int) 0
  have m4 := mv_mono 2 _ (-1) ((lftA (dA d) x : Nat) : Int) ((rgtA (dA d) x : Nat) : Int) 0 k1 (by omega) (by omega)
  exact ⟨_, _, _, _, _, _, l1, r1, b1, b2, l4, r5, l3, r3, t1, by omega, t2⟩

end Go.Proofs.Ythikhnlgpljbpab
end

section
namespace Go.Proofs.Ythikhnlgpljbpab
open Go.ChangeShapes Go.WideShapes Go.ChangeAt Go.RowKit
attribute [local go_sem] Oper.semAt_some

def boE (d e : List Dop) : Int := if ovE e d true = 0 then ovE d e false else ovE e d true
def boA (d e : List Dop) : List Dop := if boE d e = 0 then ovD e d true else []
def boB (d e : List Dop) : List Dop := if boE d e = 0 then ovD d e false else []
set_option maxRecDepth 100000 in
set_option maxHeartbeats 4000000 in
theorem Both_at (a : Option Addr) (c : Nat) (d : List Dop) (a' : Option Addr) (c' : Nat) (e : List Dop) (w : World) (h : IsO w a d ∧ d.length ≤ c) (h' : IsO w a' e ∧ e.length ≤ c') (ht : ∀ o ∈ d, o.t.length ≤ 140737488355328) (ht' : ∀ o ∈ e, o.t.length ≤ 140737488355328) (hl : d.length ≤ 4611686018427387904) (hl' : e.length ≤ 4611686018427387904) :
    Calls Try.prog 18 #[.slice a d.length c, .slice a' e.length c'] w fun y w' => ∃ a2 c2 a3 c3, y = .returned (.tuple #[.slice a2 (boA d e).length c2, .slice a3 (boB d e).length c3, .int .i64 (boE d e)]) ∧ (IsO w' a2 (boA d e) ∧ (boA d e).length ≤ c2) ∧ (IsO w' a3 (boB d e) ∧ (boB d e).length ≤ c3) ∧ Below w.heap.size w w' := by
  have H1 := hide (OverO_at a' c' e a c d true w h' h ht' hl' hl)
  have H2 := hide fun (X : World) (hX : Below w.heap.size w X) => OverO_at a c d a' c' e false X ⟨h.1.below hX (Nat.le_refl _), h.2⟩ ⟨h'.1.below hX (Nat.le_refl _), h'.2⟩ ht hl hl'
  obtain ⟨E1, hE1⟩ : ∃ E1, E1 = ovE e d true := ⟨_, rfl⟩
  obtain ⟨E2, hE2⟩ : ∃ E2, E2 = ovE d e false := ⟨_, rfl⟩
  obtain ⟨L1, hL1⟩ : ∃ L1, L1 = ovD e d true := ⟨_, rfl⟩
  obtain ⟨L2, hL2⟩ : ∃ L2, L2 = ovD d e false := ⟨_, rfl⟩
  have hbE : boE d e = if E1 = 0 then E2 else E1 := by unfold boE; rw [hE1, hE2]
  have hbA : boA d e = if (if E1 = 0 then E2 else E1) = 0 then L1 else [] := by unfold boA; rw [hbE, hL1]
  have hbB : boB d e = if (if E1 = 0 then E2 else E1) = 0 then L2 else [] := by unfold boB; rw [hbE, hL2]
  rw [hbE, hbA, hbB]
  rw [← hE1, ← hL1] at H1
  rw [← hE2, ← hL2] at H2
  clear h h' ht ht' hl hl' hE1 hE2 hL1 hL2 hbE hbA hbB
  by_cases e1 : E1 = 0
  · subst e1
    simp only [if_true]
    by_cases e2 : E2 = 0
    · subst e2
      simp only [if_true]
      go_enter Try.func18, Try.ntmps18
      go_wp2_with fail
      refine (unhide H1).mono ?_
      rintro y w1 ⟨a2, c2, rfl, i2, x1⟩
      dsimp only
      have HX1 := hide x1
      have HI := hide i2
      have HC := hide (unhide H2 w1 x1)
      clear H1 H2 i2 x1
      go_wp2_with fail
      refine (unhide HC).mono ?_
      rintro y w2 ⟨a3, c3, rfl, i3, x2⟩
      dsimp only
      have HI2 := hide (And.intro (And.intro ((unhide HI).1.below x2 (Nat.le_refl _)) (unhide HI).2) i3)
      have HX2 := hide ((unhide HX1).trans (x2.mono (unhide HX1).size))
      clear HC HI HX1 i3 x2
      go_wp2_with fail
      refine bodyPost_ret (results_tmp3 rfl _ _) rfl ⟨_, _, _, _, rfl, (unhide HI2).1, (unhide HI2).2, unhide HX2⟩
    · have t2 : (E2 != 0) = true := by simpa using e2
      have t2' : (E2 == 0) = false := by simpa using e2
      rw [if_neg e2, if_neg e2]
      go_enter Try.func18, Try.ntmps18
      go_wp2_with fail
      refine (unhide H1).mono ?_
      rintro y w1 ⟨a2, c2, rfl, _, x1⟩
      dsimp only
      have HX1 := hide x1
      have HC := hide (unhide H2 w1 x1)
      clear H1 H2 x1
      go_wp2_with fail
      refine (unhide HC).mono ?_
      rintro y w2 ⟨a3, c3, rfl, _, x2⟩
      dsimp only
      have HX2 := hide ((unhide HX1).trans (x2.mono (unhide HX1).size))
      clear HC HX1 x2 e2
      go_wp2_with fail
      refine bodyPost_ret (results_tmp3 rfl _ _) rfl ⟨none, 0, none, 0, rfl, ⟨.inl rfl, by simp⟩, ⟨.inl rfl, by simp⟩, unhide HX2⟩
  · have t1 : (E1 != 0) = true := by simpa using e1
    have t1' : (E1 == 0) = false := by simpa using e1
    rw [if_neg e1, if_neg e1, if_neg e1]
    go_enter Try.func18, Try.ntmps18
    go_wp2_with fail
    refine (unhide H1).mono ?_
    rintro y w1 ⟨a2, c2, rfl, _, x1⟩
    dsimp only
    have HX1 := hide x1
    clear H1 H2 x1 e1
    go_wp2_with fail
    refine bodyPost_ret (results_tmp3 rfl _ _) rfl ⟨none, 0, none, 0, rfl, ⟨.inl rfl, by simp⟩, ⟨.inl rfl, by simp⟩, unhide HX1⟩
/-- what Over answers where all is well -/
structure OvK (d e : List Dop) (f : Bool) : Prop where
  v1 : valB d = true
  v2 : valB e = true
  q : frD d = frD e
  l : toA (ovA f (dA d) (dA e)) ≤ 268435456
  c : ovD d e f = canA (ovA f (dA d) (dA e))
  v : valB (ovD d e f) = true
  fr : frD (ovD d e f) = toD d
  tt : toD (ovD d e f) = toA (ovA f (dA d) (dA e))
  a : dA (ovD d e f) = nfA (ovA f (dA d) (dA e))
theorem ov_ok {d e : List Dop} {f : Bool} (h : ovE d e f = 0) : OvK d e f := by
  have hd : ovD d e f = canA (ovA f (dA d) (dA e)) := by unfold ovD; rw [if_pos h]
  unfold ovE at h
  split at h
  · rename_i hv
    have hv1 : valB d = true := by revert hv; cases valB d <;> simp
    have hv2 : valB e = true := by revert hv; cases valB e <;> simp
    split at h
    · rename_i hf
      split at h
      · cases h
      · rename_i hl
        have q : frA (dA d) = frA (dA e) := by rw [(frA_dA (valB_k hv1)).1, (frA_dA (valB_k hv2)).1, hf]
        have hfr := ov_fr f _ (dA d) (dA e) (Nat.le_refl _) q
        rw [(frA_dA (valB_k hv1)).2] at hfr
        have h1 := (valB_nn hv1).2.2
        obtain ⟨c1, c2, c3, c4⟩ := canA_val (u := ovA f (dA d) (dA e)) (by omega) (by omega)
        exact ⟨hv1, hv2, hf, by omega, hd, by rw [hd]; exact c1, by rw [hd, c2]; exact hfr, by rw [hd]; exact c3, by rw [hd]; exact c4⟩
    · cases h
  · cases h
theorem bo_ok {d e : List Dop} (h : boE d e = 0) : OvK e d true ∧ OvK d e false ∧ boA d e = ovD e d true ∧ boB d e = ovD d e false := by
  have hA : boA d e = ovD e d true := by unfold boA; rw [if_pos h]
  have hB : boB d e = ovD d e false := by unfold boB; rw [if_pos h]
  unfold boE at h
  split at h
  · rename_i h1
    exact ⟨ov_ok h1, ov_ok h, hA, hB⟩
  · rename_i h1
    exact absurd h h1
/-- both orders make one delta -/
theorem bo_meet {d e : List Dop} (h : boE d e = 0) : TwoD d (boB d e) ∧ TwoD e (boA d e) ∧ cmD d (boB d e) = cmD e (boA d e) := by
  obtain ⟨o1, o2, eA, eB⟩ := bo_ok h
  rw [eA, eB]
  have t1 := two_ok o2.v1 o2.v o2.fr.symm
  have t2 := two_ok o1.v1 o1.v o1.fr.symm
  refine ⟨t1, t2, ?_⟩
  rw [t1.d, t2.d]
  refine canA_congr ?_
  rw [o2.a, o1.a, cmp_nf_right, cmp_nf_right]
  exact ov_meet _ _ _ (Nat.le_refl _) (by rw [(frA_dA (valB_k o2.v1)).1, (frA_dA (valB_k o2.v2)).1, o2.q])

end Go.Proofs.Ythikhnlgpljbpab
end
