/- Layer 14, plain: places behind changes. · Layer 14: ShiftRises' walk (written by wip/tools/sfz.py). -/
import Derived.Test.YthikhnlgpljbpabMg30
import Derived.Test.YthikhnlgpljbpabMg31

section
namespace Go.Proofs.Ythikhnlgpljbpab

theorem mv_lb (g : Int) : ∀ (cs : List Dop) (h q s : Int), GapC h cs → h ≤ q → h + s ≤ mvC q g s cs
  | [], h, q, s, _, hq => by simp only [mvC]; omega
  | c :: r, h, q, s, hg, hq => by
    have h1 := hg.1
    have h2 := hg.2.1
    simp only [mvC]
    split
    · omega
    · split
      · split <;> omega
      · have ih := mv_lb g r c.n q (s + ((c.t.length : Int) - (c.n - c.k))) hg.2.2 (by omega)
        omega
theorem mv_mono (g : Int) : ∀ (cs : List Dop) (h p q s : Int), GapC h cs → h ≤ p → p ≤ q → mvC p g s cs ≤ mvC q g s cs
  | [], _, p, q, s, _, _, hq => by simp only [mvC]; omega
  | c :: r, h, p, q, s, hg, hp, hq => by
    have h1 := hg.1
    have h2 := hg.2.1
    have lb : c.n < q → c.n + (s + ((c.t.length : Int) - (c.n - c.k))) ≤ mvC q g (s + ((c.t.length : Int) - (c.n - c.k))) r := fun h => mv_lb g r c.n q _ hg.2.2 (by omega)
    simp only [mvC]
    by_cases p1 : p < c.k
    · rw [if_pos p1]
      by_cases q1 : q < c.k
      · rw [if_pos q1]; omega
      · rw [if_neg q1]
        by_cases q2 : q ≤ c.n
        · rw [if_pos q2]; split <;> omega
        · rw [if_neg q2]
          have := lb (by omega)
          omega
    · rw [if_neg p1, if_neg (show ¬ q < c.k by omega)]
      by_cases p2 : p ≤ c.n
      · rw [if_pos p2]
        by_cases q2 : q ≤ c.n
        · rw [if_pos q2]; exact Int.le_refl _
        · rw [if_neg q2]
          have := lb (by omega)
          split <;> omega
      · rw [if_neg p2, if_neg (show ¬ q ≤ c.n by omega)]
        exact mv_mono g r c.n p q _ hg.2.2 (by omega) hq
theorem mv_lr : ∀ (cs : List Dop) (p s : Int), mvC p 1 s cs ≤ mvC p 2 s cs
  | [], _, _ => Int.le_refl _
  | c :: r, p, s => by
    simp only [mvC]
    split
    · exact Int.le_refl _
    · split
      · simp; omega
      · exact mv_lr r p _
theorem mv_end : ∀ (cs : List Dop) (h n s : Int), GapC h cs → lstC h cs ≤ n → mvC n 2 s cs = n + s + dlC cs
  | [], _, _, _, _, _ => by simp [mvC, dlC]
  | c :: r, h, n, s, hg, hl => by
    have h1 := hg.1
    have h2 := hg.2.1
    have h3 := gap_le hg.2.2
    simp only [lstC] at hl
    simp only [mvC, dlC]
    rw [if_neg (by omega)]
    by_cases q2 : n ≤ c.n
    · rw [if_pos q2, if_neg (by decide)]
      cases r with
      | nil => simp only [dlC]; omega
      | cons c2 r2 =>
        have := hg.2.2.1
        have := hg.2.2.2.1
        have := h3.2 c2 (by simp)
        omega
    · rw [if_neg q2, mv_end r c.n n _ hg.2.2 hl]
      omega
theorem mv_zero : ∀ (cs : List Dop), GapC (-1) cs → mvC 0 1 0 cs = 0
  | [], _ => rfl
  | c :: r, hg => by
    have h1 := hg.1
    have h2 := hg.2.1
    simp only [mvC]
    by_cases q : (0 : Int) < c.k
    · rw [if_pos q]; rfl
    · rw [if_neg q, if_pos (by omega)]; simp; omega
/-- the lengths by the changes -/
theorem to_ch {d : List Dop} (hv : valB d = true) : GapC (-1) (runL d).2 ∧ lstC (-1) (runL d).2 ≤ frD d ∧ (toD d : Int) = frD d + dlC (runL d).2 := by
  have hs := chs_run (val_Can hv)
  have hm := hs.f
  generalize (runL d).2 = cs at *
  generalize (runL d).1 = m at *
  have hl := hs.l
  have hg := hs.g
  have hlm : lstC (-1) cs ≤ m := by
    by_cases hc : cs = []
    · rw [hc]; simp only [lstC]; omega
    · have := lstC_two 0 (-1) hc
      omega
  have t5 := opC_sizes cs 0 m (gap_okL hg hlm (by omega) (by omega))
  have h1 := congrArg toA hs.a
  rw [to_app, (frA_dA (opC_k 0 cs)).2, (frA_dA (valB_k hv)).2, (fr_rep_k _).2] at h1
  exact ⟨hg, by omega, by omega⟩
theorem pl_zero {d : List Dop} {p g : Int} (hv : valB d = true) (hp : 0 ≤ p ∧ p ≤ frD d) (hg : g = 1 ∨ g = 2) : plE d p g = 0 ∧ plV d p g = mvC p g 0 (runL d).2 := by
  have h : plE d p g = 0 := by unfold plE; rw [hv, if_pos rfl, if_pos ⟨hp, hg⟩]
  exact ⟨h, by unfold plV; rw [if_pos h]⟩

end Go.Proofs.Ythikhnlgpljbpab
end

section
namespace Go.Proofs.Ythikhnlgpljbpab
open Go.ChangeShapes Go.WideShapes Go.ChangeAt Go.RowKit
attribute [local go_sem] Oper.semAt_some

set_option maxRecDepth 100000 in
set_option maxHeartbeats 4000000 in
theorem ShiftRises_any (a1 : Option Addr) (c1 : Nat) (d : List Dop) (p q : Int) (w : World) (hx : IsO w a1 d) (_hzx : d = [] ∨ ∃ q, a1 = some q) (hlx : d.length * 32 ≤ 140737488355328) (_htx : ∀ o ∈ d, TbD o ∧ o.t.length ≤ 140737488355328) (_hcx : d.length ≤ c1) (_hp : (Lit.int .i64 p).wf = true) (_hq : (Lit.int .i64 q).wf = true) :
    Calls Try.prog 4 #[.slice a1 d.length c1, .int .i64 p, .int .i64 q] w fun y w' => y = .returned (.bool true) ∧ Below w.heap.size w w' := by
  have HAw := hide (fixed14_at w)
  have HLN := hide fun (X : World) (hX : Below w.heap.size w X) => Lens_at a1 c1 d X (hx.below hX (Nat.le_refl _)) (by omega)
  unfold lensV at HLN
  cases hv : valB d with
  | false =>
    rw [hv] at HLN
    simp only [Bool.false_eq_true, if_false] at HLN
    clear hx _hzx hlx _htx _hcx hv _hp _hq
    go_enter Try.func4, Try.ntmps4
    go_wp2_with fail
    refine (unhide HAw).mono ?_
    rintro y w1 ⟨rfl, x1⟩
    dsimp only
    have HX1 := hide x1
    clear HAw x1
    have HC2 := hide (unhide HLN w1 (unhide HX1))
    go_wp2_with fail
    refine (unhide HC2).mono ?_
    rintro y w2 ⟨rfl, x2⟩
    dsimp only
    have HX2 := hide ((unhide HX1).trans (x2.mono (unhide HX1).size))
    clear HC2 HX1 x2  HLN
    go_wp2_with fail
    refine bodyPost_ret (results_tmp rfl _ _ _) rfl ⟨rfl, unhide HX2⟩
  | true =>
    rw [hv] at HLN
    simp only [if_true] at HLN
    have HPL := hide fun (X : World) (hX : Below w.heap.size w X) (p g : Int) => Place_at a1 c1 d p g X (hx.below hX (Nat.le_refl _)) (by omega)
    by_cases h1 : p < 0
    · have t1 : decide (p < 0) = true := decide_eq_true h1
      clear hx _hzx hlx _htx _hcx hv _hp _hq HPL h1
      go_enter Try.func4, Try.ntmps4
      go_wp2_with fail
      refine (unhide HAw).mono ?_
      rintro y w1 ⟨rfl, x1⟩
      dsimp only
      have HX1 := hide x1
      clear HAw x1
      have HC2 := hide (unhide HLN w1 (unhide HX1))
      go_wp2_with fail
      refine (unhide HC2).mono ?_
      rintro y w2 ⟨rfl, x2⟩
      dsimp only
      have HX2 := hide ((unhide HX1).trans (x2.mono (unhide HX1).size))
      clear HC2 HX1 x2  HLN
      go_wp2_with fail
      refine bodyPost_ret (results_tmp rfl _ _ _) rfl ⟨rfl, unhide HX2⟩
    have t1 : decide (p < 0) = false := decide_eq_false h1
    by_cases h2 : p > q
    · have t2 : decide (p > q) = true := decide_eq_true h2
      have t2' : decide (q < p) = true := decide_eq_true h2
      clear hx _hzx hlx _htx _hcx hv _hp _hq HPL h1 h2
      go_enter Try.func4, Try.ntmps4
      go_wp2_with fail
      refine (unhide HAw).mono ?_
      rintro y w1 ⟨rfl, x1⟩
      dsimp only
      have HX1 := hide x1
      clear HAw x1
      have HC2 := hide (unhide HLN w1 (unhide HX1))
      go_wp2_with fail
      refine (unhide HC2).mono ?_
      rintro y w2 ⟨rfl, x2⟩
      dsimp only
      have HX2 := hide ((unhide HX1).trans (x2.mono (unhide HX1).size))
      clear HC2 HX1 x2  HLN
      go_wp2_with fail
      refine bodyPost_ret (results_tmp rfl _ _ _) rfl ⟨rfl, unhide HX2⟩
    have t2 : decide (p > q) = false := decide_eq_false h2
    have t2' : decide (q < p) = false := decide_eq_false h2
    by_cases h3 : q > (frD d : Int)
    · have t3 : decide (q > (frD d : Int)) = true := decide_eq_true h3
      have t3' : decide ((frD d : Int) < q) = true := decide_eq_true h3
      clear hx _hzx hlx _htx _hcx hv _hp _hq HPL h1 h2 h3
      go_enter Try.func4, Try.ntmps4
      go_wp2_with fail
      refine (unhide HAw).mono ?_
      rintro y w1 ⟨rfl, x1⟩
      dsimp only
      have HX1 := hide x1
      clear HAw x1
      have HC2 := hide (unhide HLN w1 (unhide HX1))
      go_wp2_with fail
      refine (unhide HC2).mono ?_
      rintro y w2 ⟨rfl, x2⟩
      dsimp only
      have HX2 := hide ((unhide HX1).trans (x2.mono (unhide HX1).size))
      clear HC2 HX1 x2  HLN
      go_wp2_with fail
      refine bodyPost_ret (results_tmp rfl _ _ _) rfl ⟨rfl, unhide HX2⟩
    have t3 : decide (q > (frD d : Int)) = false := decide_eq_false h3
    have t3' : decide ((frD d : Int) < q) = false := decide_eq_false h3
    obtain ⟨hg, hl, ht⟩ := to_ch hv
    have HA := hide fun (X : World) (hX : Below w.heap.size w X) => unhide HPL X hX p 1
    have HB := hide fun (X : World) (hX : Below w.heap.size w X) => unhide HPL X hX p 2
    have HC := hide fun (X : World) (hX : Below w.heap.size w X) => unhide HPL X hX q 1
    have HD := hide fun (X : World) (hX : Below w.heap.size w X) => unhide HPL X hX q 2
    have HE := hide fun (X : World) (hX : Below w.heap.size w X) => unhide HPL X hX (frD d : Int) 2
    have HF := hide fun (X : World) (hX : Below w.heap.size w X) => unhide HPL X hX 0 1
    have b1 : 0 ≤ p ∧ p ≤ frD d := by omega
    have b2 : 0 ≤ q ∧ q ≤ frD d := by omega
    rw [(pl_zero hv b1 (.inl rfl)).1, (pl_zero hv b1 (.inl rfl)).2] at HA
    rw [(pl_zero hv b1 (.inr rfl)).1, (pl_zero hv b1 (.inr rfl)).2] at HB
    rw [(pl_zero hv b2 (.inl rfl)).1, (pl_zero hv b2 (.inl rfl)).2] at HC
    rw [(pl_zero hv b2 (.inr rfl)).1, (pl_zero hv b2 (.inr rfl)).2] at HD
    rw [(pl_zero hv ⟨by omega, Int.le_refl _⟩ (.inr rfl)).1, (pl_zero hv ⟨by omega, Int.le_refl _⟩ (.inr rfl)).2, mv_end _ (-1) _ 0 hg hl, Int.add_zero, ← ht] at HE
    rw [(pl_zero hv ⟨Int.le_refl _, by omega⟩ (.inl rfl)).1, (pl_zero hv ⟨Int.le_refl _, by omega⟩ (.inl rfl)).2, mv_zero _ hg] at HF
    have m1 := mv_mono 1 _ (-1) 0 p 0 hg (by omega) b1.1
    rw [mv_zero _ hg] at m1
    have m2 := mv_mono 1 _ (-1) p q 0 hg (by omega) (by omega)
    have m3 := mv_mono 2 _ (-1) p q 0 hg (by omega) (by omega)
    have m4 := mv_lr (runL d).2 p 0
    have m5 := mv_lr (runL d).2 q 0
    have m6 := mv_mono 2 _ (-1) q (frD d : Int) 0 hg (by omega) b2.2
    rw [mv_end _ (-1) _ 0 hg hl, Int.add_zero, ← ht] at m6
    clear hx _hzx hlx _htx _hcx hv _hp _hq HPL h1 h2 h3 hg hl ht b1 b2
    generalize mvC p 1 0 (runL d).2 = A at *
    generalize mvC p 2 0 (runL d).2 = B at *
    generalize mvC q 1 0 (runL d).2 = C at *
    generalize mvC q 2 0 (runL d).2 = D at *
    generalize frD d = fr at *
    generalize toD d = td at *
    have q1 : decide (A < 0) = false := decide_eq_false (by omega)
    have q2 : decide (A > B) = false := decide_eq_false (by omega)
    have q2' : decide (B < A) = false := decide_eq_false (by omega)
    have q3 : decide (C > D) = false := decide_eq_false (by omega)
    have q3' : decide (D < C) = false := decide_eq_false (by omega)
    have q4 : decide (A > C) = false := decide_eq_false (by omega)
    have q4' : decide (C < A) = false := decide_eq_false (by omega)
    have q5 : decide (B > D) = false := decide_eq_false (by omega)
    have q5' : decide (D < B) = false := decide_eq_false (by omega)
    have q6 : decide (D > (td : Int)) = false := decide_eq_false (by omega)
    have q6' : decide ((td : Int) < D) = false := decide_eq_false (by omega)
    clear m1 m2 m3 m4 m5 m6
    go_enter Try.func4, Try.ntmps4
    go_wp2_with fail
    refine (unhide HAw).mono ?_
    rintro y w1 ⟨rfl, x1⟩
    dsimp only
    have HX1 := hide x1
    clear HAw x1
    have HC2 := hide (unhide HLN w1 (unhide HX1))
    go_wp2_with fail
    refine (unhide HC2).mono ?_
    rintro y w2 ⟨rfl, x2⟩
    dsimp only
    have HX2 := hide ((unhide HX1).trans (x2.mono (unhide HX1).size))
    clear HC2 HX1 x2  HLN
    have HC3 := hide (unhide HA w2 (unhide HX2))
    go_wp2_with fail
    refine (unhide HC3).mono ?_
    rintro y w3 ⟨rfl, x3⟩
    dsimp only
    have HX3 := hide ((unhide HX2).trans (x3.mono (unhide HX2).size))
    clear HC3 HX2 x3  HA
    have HC4 := hide (unhide HB w3 (unhide HX3))
    go_wp2_with fail
    refine (unhide HC4).mono ?_
    rintro y w4 ⟨rfl, x4⟩
    dsimp only
    have HX4 := hide ((unhide HX3).trans (x4.mono (unhide HX3).size))
    clear HC4 HX3 x4  HB
    have HC5 := hide (unhide HC w4 (unhide HX4))
    go_wp2_with fail
    refine (unhide HC5).mono ?_
    rintro y w5 ⟨rfl, x5⟩
    dsimp only
    have HX5 := hide ((unhide HX4).trans (x5.mono (unhide HX4).size))
    clear HC5 HX4 x5  HC
    have HC6 := hide (unhide HD w5 (unhide HX5))
    go_wp2_with fail
    refine (unhide HC6).mono ?_
    rintro y w6 ⟨rfl, x6⟩
    dsimp only
    have HX6 := hide ((unhide HX5).trans (x6.mono (unhide HX5).size))
    clear HC6 HX5 x6  HD
    have HC7 := hide (unhide HE w6 (unhide HX6))
    go_wp2_with fail
    refine (unhide HC7).mono ?_
    rintro y w7 ⟨rfl, x7⟩
    dsimp only
    have HX7 := hide ((unhide HX6).trans (x7.mono (unhide HX6).size))
    clear HC7 HX6 x7  HE
    have HC8 := hide (unhide HF w7 (unhide HX7))
    go_wp2_with fail
    refine (unhide HC8).mono ?_
    rintro y w8 ⟨rfl, x8⟩
    dsimp only
    have HX8 := hide ((unhide HX7).trans (x8.mono (unhide HX7).size))
    clear HC8 HX7 x8  HF
    go_wp2_with fail
    refine bodyPost_ret (results_tmp rfl _ _ _) rfl ⟨rfl, unhide HX8⟩

end Go.Proofs.Ythikhnlgpljbpab
end
