/- Layer 14, plain: places behind changes. -/
import Derived.Test.YtokcglacdphobaaMg42

namespace Go.Proofs.Ytokcglacdphobaa

theorem mv_lb (g : Int) : ∀ (cs : List Dop) (h q s : Int), GapC h cs → h ≤ q → h + s ≤ mvC q g s cs
  | [], h, q, s, _, hq => by simp only [mvC]; omega
  | c :: r, h, q, s, hg, hq => by
    have h1 := hg.1
    have h2 := hg.2.1
    simp only [mvC]
    split
    · omega
    · split
      · split <;> omega
      · have ih := mv_lb g r c.n q (s + ((c.t.length : Int) - (c.n - c.k))) hg.2.2 (by omega)
        omega
theorem mv_mono (g : Int) : ∀ (cs : List Dop) (h p q s : Int), GapC h cs → h ≤ p → p ≤ q → mvC p g s cs ≤ mvC q g s cs
  | [], _, p, q, s, _, _, hq => by simp only [mvC]; omega
  | c :: r, h, p, q, s, hg, hp, hq => by
    have h1 := hg.1
    have h2 := hg.2.1
    have lb : c.n < q → c.n + (s + ((c.t.length : Int) - (c.n - c.k))) ≤ mvC q g (s + ((c.t.length : Int) - (c.n - c.k))) r := fun h => mv_lb g r c.n q _ hg.2.2 (by omega)
    simp only [mvC]
    by_cases p1 : p < c.k
    · rw [if_pos p1]
      by_cases q1 : q < c.k
      · rw [if_pos q1]; omega
      · rw [if_neg q1]
        by_cases q2 : q ≤ c.n
        · rw [if_pos q2]; split <;> omega
        · rw [if_neg q2]
          have := lb (by omega)
          omega
    · rw [if_neg p1, if_neg (show ¬ q < c.k by omega)]
      by_cases p2 : p ≤ c.n
      · rw [if_pos p2]
        by_cases q2 : q ≤ c.n
        · rw [if_pos q2]; exact Int.le_refl _
        · rw [if_neg q2]
          have := lb (by omega)
          split <;> omega
      · rw [if_neg p2, if_neg (show ¬ q ≤ c.n by omega)]
        exact mv_mono g r c.n p q _ hg.2.2 (by omega) hq
theorem mv_lr : ∀ (cs : List Dop) (p s : Int), mvC p 1 s cs ≤ mvC p 2 s cs
  | [], _, _ => Int.le_refl _
  | c :: r, p, s => by
    simp only [mvC]
    split
    · exact Int.le_refl _
    · split
      · simp; omega
      · exact mv_lr r p _
theorem mv_end : ∀ (cs : List Dop) (h n s : Int), GapC h cs → lstC h cs ≤ n → mvC n 2 s cs = n + s + dlC cs
  | [], _, _, _, _, _ => by simp [mvC, dlC]
  | c :: r, h, n, s, hg, hl => by
    have h1 := hg.1
    have h2 := hg.2.1
    have h3 := gap_le hg.2.2
    simp only [lstC] at hl
    simp only [mvC, dlC]
    rw [if_neg (by omega)]
    by_cases q2 : n ≤ c.n
    · rw [if_pos q2, if_neg (by decide)]
      cases r with
      | nil => simp only [dlC]; omega
      | cons c2 r2 =>
        have := hg.2.2.1
        have := hg.2.2.2.1
        have := h3.2 c2 (by simp)
        omega
    · rw [if_neg q2, mv_end r c.n n _ hg.2.2 hl]
      omega
theorem mv_zero : ∀ (cs : List Dop), GapC (-1) cs → mvC 0 1 0 cs = 0
  | [], _ => rfl
  | c :: r, hg => by
    have h1 := hg.1
    have h2 := hg.2.1
    simp only [mvC]
    by_cases q : (0 : Int) < c.k
    · rw [if_pos q]; rfl
    · rw [if_neg q, if_pos (by omega)]; simp; omega
/-- the lengths by the changes -/
theorem to_ch {d : List Dop} (hv : valB d = true) : GapC (-1) (runL d).2 ∧ lstC (-1) (runL d).2 ≤ frD d ∧ (toD d : Int) = frD d + dlC (runL d).2 := by
  have hs := chs_run (val_Can hv)
  have hm := hs.f
  generalize (runL d).2 = cs at *
  generalize (runL d).1 = m at *
  have hl := hs.l
  have hg := hs.g
  have hlm : lstC (-1) cs ≤ m := by
    by_cases hc : cs = []
    · rw [hc]; simp only [lstC]; omega
    · have := lstC_two 0 (-1) hc
      omega
  have t5 := opC_sizes cs 0 m (gap_okL hg hlm (by omega) (by omega))
  have h1 := congrArg toA hs.a
  rw [to_app, (frA_dA (opC_k 0 cs)).2, (frA_dA (valB_k hv)).2, (fr_rep_k _).2] at h1
  exact ⟨hg, by omega, by omega⟩
theorem pl_zero {d : List Dop} {p g : Int} (hv : valB d = true) (hp : 0 ≤ p ∧ p ≤ frD d) (hg : g = 1 ∨ g = 2) : plE d p g = 0 ∧ plV d p g = mvC p g 0 (runL d).2 := by
  have h : plE d p g = 0 := by unfold plE; rw [hv, if_pos rfl, if_pos ⟨hp, hg⟩]
  exact ⟨h, by unfold plV; rw [if_pos h]⟩

end Go.Proofs.Ytokcglacdphobaa
