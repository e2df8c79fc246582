/- Layer 16, the document's: Set (written by wip/tools/ryp.py). -/
import Derived.Test.YtifpjdodignflaaRp35

namespace Go.Proofs.Ytifpjdodignflaa
open Go.ChangeShapes Go.WideShapes Go.ChangeAt Go.RowKit
attribute [local go_sem] Oper.semAt_some

theorem str_size0 {s : ByteArray} : ((s.size : Int) == 0) = decide (s.size < 1) := by
  cases h : decide (s.size < 1) with
  | true => have := of_decide_eq_true h; rw [beq_iff_eq]; omega
  | false => have := of_decide_eq_false h; rw [beq_eq_false_iff_ne]; omega
set_option maxRecDepth 100000 in
set_option maxHeartbeats 8000000 in
theorem RSetR_all (n : Int) (a : Option Addr) (c : Nat) (l : List Rg) (x : Rg) (X : World) (h : IsRl X a l) (hl : l.length ≤ 1048576) (hu : Unl l) :
    Calls Try.prog 22 #[rsV n a l.length c, rgV x] X fun y X' => (refG n l x ≠ 0 ∧ y = .returned (.tuple #[rsV n a l.length c, .int .i64 (refG n l x)]) ∧ Below X.heap.size X X') ∨ (refG n l x = 0 ∧ ∃ v, y = .returned (.tuple #[.agg #[.int .i64 n, v], .int .i64 0]) ∧ X'.ownsRow X.heap.size 37 5 v (insG x (delG x.n l)).length (rgsV (insG x (delG x.n l))) ∧ Below X.heap.size X X') := by
  have HWo := hide fun (Y : World) (hY : Below X.heap.size X Y) => RWithoutR_at a c l x.n Y (h.below hY (Nat.le_refl _)) hl
  rw [fw_del x.n l hu] at HWo
  have HG : Hid (((delG x.n l).length = l.length → getG x.n l = none) ∧ ((delG x.n l).length ≠ l.length → (getG x.n l).isSome = true)) := hide ⟨del_none.1, fun hh => by
    cases hg : getG x.n l with
    | none => exact absurd (del_none.2 hg) hh
    | some x => rfl⟩
  have HPt := hide fun (Y : World) (a : Option Addr) (c : Nat) (h : IsRl Y a (delG x.n l)) => RPutR_at a c (delG x.n l) x Y h (Nat.le_trans (del_sub _ _).length_le hl)
  have hRF : refG n l x = if x.n.size < 1 ∨ 64 < x.n.size then 6 else if x.lo < 0 ∨ x.hi ≤ x.lo ∨ n < x.hi ∨ holdB x.st = false ∨ holdB x.en = false then 2 else if (getG x.n l).isSome = false ∧ 1024 ≤ l.length then 121 else 0 := rfl
  obtain ⟨xn, xl, xh, xs, xe⟩ := x
  unfold rgV at HPt ⊢
  dsimp only at HWo HG HPt hRF ⊢
  generalize insG ⟨xn, xl, xh, xs, xe⟩ (delG xn l) = E at *
  generalize delG xn l = D at *
  generalize E.length = PN at *
  generalize rgsV E = PV at *
  obtain ⟨N, hN⟩ : ∃ N, N = l.length := ⟨_, rfl⟩
  rw [← hN] at hl hRF HWo HG ⊢
  clear hN h hu
  have hbad : (xl < 0 ∨ xh ≤ xl ∨ n < xh ∨ xs < 1 ∨ 2 < xs ∨ xe < 1 ∨ 2 < xe) → (xl < 0 ∨ xh ≤ xl ∨ n < xh ∨ holdB xs = false ∨ holdB xe = false) := by
    unfold holdB
    rintro (h | h | h | h | h | h | h)
    · exact .inl h
    · exact .inr (.inl h)
    · exact .inr (.inr (.inl h))
    · exact .inr (.inr (.inr (.inl (decide_eq_false (by omega)))))
    · exact .inr (.inr (.inr (.inl (decide_eq_false (by omega)))))
    · exact .inr (.inr (.inr (.inr (decide_eq_false (by omega)))))
    · exact .inr (.inr (.inr (.inr (decide_eq_false (by omega)))))
  have hgood : (¬ xs < 1 ∧ ¬ 2 < xs ∧ ¬ xe < 1 ∧ ¬ 2 < xe) → holdB xs = true ∧ holdB xe = true := by
    unfold holdB
    rintro ⟨h1, h2, h3, h4⟩
    exact ⟨decide_eq_true (by omega), decide_eq_true (by omega)⟩
  unfold rsV
  have k2 := ((Cls.new X 30 #[.int .i64 n, .slice a N c]).alloc (.cells #[.string xn, .int .i64 xl, .int .i64 xh, .int .i64 xs, .int .i64 xe] 37)).alloc (.cells #[.int .i64 0, .slice none 0 0] 30)
  have k3 := (Cls.new (X.alloc (.cells #[.int .i64 n, .slice a N c] 30)) 37 #[.string xn, .int .i64 xl, .int .i64 xh, .int .i64 xs, .int .i64 xe]).alloc (.cells #[.int .i64 0, .slice none 0 0] 30)
  have k4 := Cls.new ((X.alloc (.cells #[.int .i64 n, .slice a N c] 30)).alloc (.cells #[.string xn, .int .i64 xl, .int .i64 xh, .int .i64 xs, .int .i64 xe] 37)) 30 #[.int .i64 0, .slice none 0 0]
  have b1 := (Below.refl X.heap.size X).alloc (Nat.le_refl _) (.cells #[.int .i64 n, .slice a N c] 30)
  have b2 := b1.alloc b1.size (.cells #[.string xn, .int .i64 xl, .int .i64 xh, .int .i64 xs, .int .i64 xe] 37)
  have hbB := b2.alloc b2.size (.cells #[.int .i64 0, .slice none 0 0] 30)
  rw [World.size_alloc] at k3 k4
  rw [World.size_alloc] at k4
  have HKB := hide hbB
  have HB2 := hide b2
  clear b1 b2
  have hs0 := str_size0 (s := xn)
  by_cases hs1 : xn.size < 1
  · have s1 : ((xn.size : Int) == 0) = true := by rw [hs0]; exact decide_eq_true hs1
    have hrf : refG n l ⟨xn, xl, xh, xs, xe⟩ = 6 := by rw [hRF, if_pos (.inl hs1)]
    rw [hrf]
    obtain ⟨c0, c1⟩ := clsR_two k2
    obtain ⟨d0, d1, d2, d3, d4⟩ := clsR_five k3
    clear hrf hRF hbad hgood HG hl hs0 hs1 HPt
    have HB9 := hide ((unhide HB2).alloc (unhide HB2).size (.cells #[.int .i64 n, .slice a N c] 30))
    have f0 := k4.frozen 0
    have f1 := k4.frozen 1
    obtain ⟨z0, z1⟩ := clsR_two k4
    clear k2 k3 k4 hbB HWo HKB HB2
    go_enter Try.func22, Try.ntmps22
    go_wp2_with fail
    refine bodyPost_ret (v := .tuple #[.agg #[.int .i64 n, .slice a N c], .int .i64 6]) (by simp [results, Try.results22, go_sem]) rfl (.inl ⟨by decide, rfl, unhide HB9⟩)
  by_cases hs2 : 64 < xn.size
  · have s1 : ((xn.size : Int) == 0) = false := by rw [hs0]; exact decide_eq_false hs1
    have s2 : decide ((xn.size : Int) > 64) = true := decide_eq_true (by omega)
    have s2' : decide ((64 : Int) < (xn.size : Int)) = true := decide_eq_true (by omega)
    have s2n : decide (64 < xn.size) = true := decide_eq_true hs2
    have hrf : refG n l ⟨xn, xl, xh, xs, xe⟩ = 6 := by rw [hRF, if_pos (.inr hs2)]
    rw [hrf]
    obtain ⟨c0, c1⟩ := clsR_two k2
    obtain ⟨d0, d1, d2, d3, d4⟩ := clsR_five k3
    clear hrf hRF hbad hgood HG hl hs0 hs1 hs2 HPt
    have HB9 := hide ((unhide HB2).alloc (unhide HB2).size (.cells #[.int .i64 n, .slice a N c] 30))
    have f0 := k4.frozen 0
    have f1 := k4.frozen 1
    obtain ⟨z0, z1⟩ := clsR_two k4
    clear k2 k3 k4 hbB HWo HKB HB2
    go_enter Try.func22, Try.ntmps22
    go_wp2_with fail
    refine bodyPost_ret (v := .tuple #[.agg #[.int .i64 n, .slice a N c], .int .i64 6]) (by simp [results, Try.results22, go_sem]) rfl (.inl ⟨by decide, rfl, unhide HB9⟩)
  have s1 : ((xn.size : Int) == 0) = false := by rw [hs0]; exact decide_eq_false hs1
  have s2 : decide ((xn.size : Int) > 64) = false := decide_eq_false (by omega)
  have s2' : decide ((64 : Int) < (xn.size : Int)) = false := decide_eq_false (by omega)
  have s2n : decide (64 < xn.size) = false := decide_eq_false hs2
  clear hs0
  by_cases h0 : xl < 0
  · have ta0_0 : decide (xl < 0) = true := decide_eq_true h0
    have hrf : refG n l ⟨xn, xl, xh, xs, xe⟩ = 2 := by rw [hRF, if_neg (show ¬ (xn.size < 1 ∨ 64 < xn.size) by omega), if_pos]; exact hbad (by omega)
    rw [hrf]
    obtain ⟨c0, c1⟩ := clsR_two k2
    obtain ⟨d0, d1, d2, d3, d4⟩ := clsR_five k3
    clear hrf hRF hbad hgood HG h0 hl HPt
    clear hs1 hs2
    have HB9 := hide ((unhide HB2).alloc (unhide HB2).size (.cells #[.int .i64 n, .slice a N c] 30))
    have f0 := k4.frozen 0
    have f1 := k4.frozen 1
    obtain ⟨z0, z1⟩ := clsR_two k4
    clear k2 k3 k4 hbB HWo HKB HB2
    go_enter Try.func22, Try.ntmps22
    go_wp2_with fail
    refine bodyPost_ret (v := .tuple #[.agg #[.int .i64 n, .slice a N c], .int .i64 2]) (by simp [results, Try.results22, go_sem]) rfl (.inl ⟨by decide, rfl, unhide HB9⟩)
  have tb0_0 : decide (xl < 0) = false := decide_eq_false (by omega)
  by_cases h1 : xh ≤ xl
  · have ta1_0 : decide (xh ≤ xl) = true := decide_eq_true h1
    have ta1_1 : decide (xl ≥ xh) = true := decide_eq_true h1
    have hrf : refG n l ⟨xn, xl, xh, xs, xe⟩ = 2 := by rw [hRF, if_neg (show ¬ (xn.size < 1 ∨ 64 < xn.size) by omega), if_pos]; exact hbad (by omega)
    rw [hrf]
    obtain ⟨c0, c1⟩ := clsR_two k2
    obtain ⟨d0, d1, d2, d3, d4⟩ := clsR_five k3
    clear hrf hRF hbad hgood HG h0 h1 hl HPt
    clear hs1 hs2
    have HB9 := hide ((unhide HB2).alloc (unhide HB2).size (.cells #[.int .i64 n, .slice a N c] 30))
    have f0 := k4.frozen 0
    have f1 := k4.frozen 1
    obtain ⟨z0, z1⟩ := clsR_two k4
    clear k2 k3 k4 hbB HWo HKB HB2
    go_enter Try.func22, Try.ntmps22
    go_wp2_with fail
    refine bodyPost_ret (v := .tuple #[.agg #[.int .i64 n, .slice a N c], .int .i64 2]) (by simp [results, Try.results22, go_sem]) rfl (.inl ⟨by decide, rfl, unhide HB9⟩)
  have tb1_0 : decide (xh ≤ xl) = false := decide_eq_false (by omega)
  have tb1_1 : decide (xl ≥ xh) = false := decide_eq_false (by omega)
  by_cases h2 : n < xh
  · have ta2_0 : decide (n < xh) = true := decide_eq_true h2
    have ta2_1 : decide (xh > n) = true := decide_eq_true h2
    have hrf : refG n l ⟨xn, xl, xh, xs, xe⟩ = 2 := by rw [hRF, if_neg (show ¬ (xn.size < 1 ∨ 64 < xn.size) by omega), if_pos]; exact hbad (by omega)
    rw [hrf]
    obtain ⟨c0, c1⟩ := clsR_two k2
    obtain ⟨d0, d1, d2, d3, d4⟩ := clsR_five k3
    clear hrf hRF hbad hgood HG h0 h1 h2 hl HPt
    clear hs1 hs2
    have HB9 := hide ((unhide HB2).alloc (unhide HB2).size (.cells #[.int .i64 n, .slice a N c] 30))
    have f0 := k4.frozen 0
    have f1 := k4.frozen 1
    obtain ⟨z0, z1⟩ := clsR_two k4
    clear k2 k3 k4 hbB HWo HKB HB2
    go_enter Try.func22, Try.ntmps22
    go_wp2_with fail
    refine bodyPost_ret (v := .tuple #[.agg #[.int .i64 n, .slice a N c], .int .i64 2]) (by simp [results, Try.results22, go_sem]) rfl (.inl ⟨by decide, rfl, unhide HB9⟩)
  have tb2_0 : decide (n < xh) = false := decide_eq_false (by omega)
  have tb2_1 : decide (xh > n) = false := decide_eq_false (by omega)
  by_cases h3 : xs < 1
  · have ta3_0 : decide (xs < 1) = true := decide_eq_true h3
    have hrf : refG n l ⟨xn, xl, xh, xs, xe⟩ = 2 := by rw [hRF, if_neg (show ¬ (xn.size < 1 ∨ 64 < xn.size) by omega), if_pos]; exact hbad (by omega)
    rw [hrf]
    obtain ⟨c0, c1⟩ := clsR_two k2
    obtain ⟨d0, d1, d2, d3, d4⟩ := clsR_five k3
    clear hrf hRF hbad hgood HG h0 h1 h2 h3 hl HPt
    clear hs1 hs2
    have HB9 := hide ((unhide HB2).alloc (unhide HB2).size (.cells #[.int .i64 n, .slice a N c] 30))
    have f0 := k4.frozen 0
    have f1 := k4.frozen 1
    obtain ⟨z0, z1⟩ := clsR_two k4
    clear k2 k3 k4 hbB HWo HKB HB2
    go_enter Try.func22, Try.ntmps22
    go_wp2_with fail
    refine bodyPost_ret (v := .tuple #[.agg #[.int .i64 n, .slice a N c], .int .i64 2]) (by simp [results, Try.results22, go_sem]) rfl (.inl ⟨by decide, rfl, unhide HB9⟩)
  have tb3_0 : decide (xs < 1) = false := decide_eq_false (by omega)
  by_cases h4 : 2 < xs
  · have ta4_0 : decide (2 < xs) = true := decide_eq_true h4
    have ta4_1 : decide (xs > 2) = true := decide_eq_true h4
    have hrf : refG n l ⟨xn, xl, xh, xs, xe⟩ = 2 := by rw [hRF, if_neg (show ¬ (xn.size < 1 ∨ 64 < xn.size) by omega), if_pos]; exact hbad (by omega)
    rw [hrf]
    obtain ⟨c0, c1⟩ := clsR_two k2
    obtain ⟨d0, d1, d2, d3, d4⟩ := clsR_five k3
    clear hrf hRF hbad hgood HG h0 h1 h2 h3 h4 hl HPt
    clear hs1 hs2
    have HB9 := hide ((unhide HB2).alloc (unhide HB2).size (.cells #[.int .i64 n, .slice a N c] 30))
    have f0 := k4.frozen 0
    have f1 := k4.frozen 1
    obtain ⟨z0, z1⟩ := clsR_two k4
    clear k2 k3 k4 hbB HWo HKB HB2
    go_enter Try.func22, Try.ntmps22
    go_wp2_with fail
    refine bodyPost_ret (v := .tuple #[.agg #[.int .i64 n, .slice a N c], .int .i64 2]) (by simp [results, Try.results22, go_sem]) rfl (.inl ⟨by decide, rfl, unhide HB9⟩)
  have tb4_0 : decide (2 < xs) = false := decide_eq_false (by omega)
  have tb4_1 : decide (xs > 2) = false := decide_eq_false (by omega)
  by_cases h5 : xe < 1
  · have ta5_0 : decide (xe < 1) = true := decide_eq_true h5
    have hrf : refG n l ⟨xn, xl, xh, xs, xe⟩ = 2 := by rw [hRF, if_neg (show ¬ (xn.size < 1 ∨ 64 < xn.size) by omega), if_pos]; exact hbad (by omega)
    rw [hrf]
    obtain ⟨c0, c1⟩ := clsR_two k2
    obtain ⟨d0, d1, d2, d3, d4⟩ := clsR_five k3
    clear hrf hRF hbad hgood HG h0 h1 h2 h3 h4 h5 hl HPt
    clear hs1 hs2
    have HB9 := hide ((unhide HB2).alloc (unhide HB2).size (.cells #[.int .i64 n, .slice a N c] 30))
    have f0 := k4.frozen 0
    have f1 := k4.frozen 1
    obtain ⟨z0, z1⟩ := clsR_two k4
    clear k2 k3 k4 hbB HWo HKB HB2
    go_enter Try.func22, Try.ntmps22
    go_wp2_with fail
    refine bodyPost_ret (v := .tuple #[.agg #[.int .i64 n, .slice a N c], .int .i64 2]) (by simp [results, Try.results22, go_sem]) rfl (.inl ⟨by decide, rfl, unhide HB9⟩)
  have tb5_0 : decide (xe < 1) = false := decide_eq_false (by omega)
  by_cases h6 : 2 < xe
  · have ta6_0 : decide (2 < xe) = true := decide_eq_true h6
    have ta6_1 : decide (xe > 2) = true := decide_eq_true h6
    have hrf : refG n l ⟨xn, xl, xh, xs, xe⟩ = 2 := by rw [hRF, if_neg (show ¬ (xn.size < 1 ∨ 64 < xn.size) by omega), if_pos]; exact hbad (by omega)
    rw [hrf]
    obtain ⟨c0, c1⟩ := clsR_two k2
    obtain ⟨d0, d1, d2, d3, d4⟩ := clsR_five k3
    clear hrf hRF hbad hgood HG h0 h1 h2 h3 h4 h5 h6 hl HPt
    clear hs1 hs2
    have HB9 := hide ((unhide HB2).alloc (unhide HB2).size (.cells #[.int .i64 n, .slice a N c] 30))
    have f0 := k4.frozen 0
    have f1 := k4.frozen 1
    obtain ⟨z0, z1⟩ := clsR_two k4
    clear k2 k3 k4 hbB HWo HKB HB2
    go_enter Try.func22, Try.ntmps22
    go_wp2_with fail
    refine bodyPost_ret (v := .tuple #[.agg #[.int .i64 n, .slice a N c], .int .i64 2]) (by simp [results, Try.results22, go_sem]) rfl (.inl ⟨by decide, rfl, unhide HB9⟩)
  have tb6_0 : decide (2 < xe) = false := decide_eq_false (by omega)
  have tb6_1 : decide (xe > 2) = false := decide_eq_false (by omega)
  have hhold : holdB xs = true ∧ holdB xe = true := hgood (by omega)
  clear hbad hgood
  have HWq := hide (unhide HWo _ (unhide HKB))
  obtain ⟨c0, c1⟩ := clsR_two k2
  obtain ⟨d0, d1, d2, d3, d4⟩ := clsR_five k3
  have hRFn : refG n l ⟨xn, xl, xh, xs, xe⟩ = if (getG xn l).isSome = false ∧ 1024 ≤ N then 121 else 0 := by
    rw [hRF, if_neg (show ¬ (xn.size < 1 ∨ 64 < xn.size) by omega), if_neg]
    rintro (h | h | h | h | h)
    · omega
    · omega
    · omega
    · rw [hhold.1] at h; cases h
    · rw [hhold.2] at h; cases h
  have HRF := hide hRFn
  have HKK := hide (And.intro k2 (And.intro k3 k4))
  clear hhold h0 h1 h2 h3 h4 h5 h6 hRF hRFn k2 k3 k4 HWo hs1 hs2 hbB
  by_cases hd : D.length = N
  · have u1 : ((D.length : Int) == (N : Int)) = true := by rw [beq_iff_eq]; omega
    have u1' : (D.length == N) = true := by rw [beq_iff_eq]; exact hd
    by_cases hm : 1024 ≤ D.length
    · have u2 : decide ((D.length : Int) ≥ 1024) = true := decide_eq_true (by omega)
      have u2' : decide ((1024 : Int) ≤ (D.length : Int)) = true := decide_eq_true (by omega)
      have u2n : decide (1024 ≤ D.length) = true := decide_eq_true hm
      have hrf : refG n l ⟨xn, xl, xh, xs, xe⟩ = 121 := by
        rw [unhide HRF, if_pos]
        refine ⟨by rw [(unhide HG).1 hd]; rfl, ?_⟩
        omega
      rw [hrf]
      clear hrf
      go_enter Try.func22, Try.ntmps22
      go_wp2_with fail
      refine (unhide HWq).mono ?_
      rintro y w1 ⟨v1, rfl, o1, x1⟩
      dsimp only
      obtain ⟨k2, k3, k4⟩ := unhide HKK
      have k2 := k2.below x1 k2.lt
      have k3 := k3.below x1 k3.lt
      have k4 := k4.below x1 k4.lt
      have hbB := (unhide HKB).trans (x1.mono (unhide HKB).size)
      obtain ⟨av1, cv1, hv1, _⟩ := rowD_form o1
      subst hv1
      have HO1 := hide o1
      clear HWq HKK c0 c1 d0 d1 d2 d3 d4 o1 x1
      obtain ⟨c0, c1⟩ := clsR_two k2
      have k9 := (clsR_put2 k4 (.int .i64 n) (.slice a N c) hbB (show X.heap.size ≤ X.heap.size + 1 + 1 by omega))
      obtain ⟨r0, r1⟩ := clsR_two k9.1
      have HB9 := hide k9.2
      have f0 := k4.frozen 0
      have f1 := k4.frozen 1
      obtain ⟨z0, z1⟩ := clsR_two k4
      clear k9 k2 k3 k4 hbB HG HRF HO1 hl hd hm HKB HPt
      generalize D.length = dn at *
      go_wp2_with fail
      refine bodyPost_ret (v := .tuple #[.agg #[.int .i64 n, .slice a N c], .int .i64 121]) (by simp [results, Try.results22, go_sem, r0, r1]) rfl (by first | exact .inl ⟨by decide, rfl, unhide HB9⟩ | exact ⟨rfl, unhide HB9⟩ | exact ⟨by decide, rfl, unhide HB9⟩)
    · have u2 : decide ((D.length : Int) ≥ 1024) = false := decide_eq_false (by omega)
      have u2' : decide ((1024 : Int) ≤ (D.length : Int)) = false := decide_eq_false (by omega)
      have u2n : decide (1024 ≤ D.length) = false := decide_eq_false hm
      have hrf : refG n l ⟨xn, xl, xh, xs, xe⟩ = 0 := by
        rw [unhide HRF, if_neg]
        rintro ⟨_, h⟩
        omega
      rw [hrf]
      clear hrf hm
      go_enter Try.func22, Try.ntmps22
      go_wp2_with fail
      refine (unhide HWq).mono ?_
      rintro y w1 ⟨v1, rfl, o1, x1⟩
      dsimp only
      obtain ⟨k2, k3, k4⟩ := unhide HKK
      have k2 := k2.below x1 k2.lt
      have k3 := k3.below x1 k3.lt
      have k4 := k4.below x1 k4.lt
      have hbB := (unhide HKB).trans (x1.mono (unhide HKB).size)
      obtain ⟨av1, cv1, hv1, _⟩ := rowD_form o1
      subst hv1
      have HO1 := hide o1
      clear HWq HKK c0 c1 d0 d1 d2 d3 d4 o1 x1
      obtain ⟨c0, c1⟩ := clsR_two k2
      obtain ⟨_, _, e9, i9, _⟩ := own_isRl (unhide HO1)
      injection e9 with e91 e92 e93
      subst e91
      have HPu := hide (unhide HPt w1.drew av1 cv1 (i9.below (Below.refl w1.heap.size w1).drew (Nat.le_refl _)))
      have HKC := hide (And.intro (show Cls w1.drew X.heap.size 30 #[.int .i64 n, .slice a N c] from k2) (And.intro (show Cls w1.drew (X.heap.size + 1) 37 #[.string xn, .int .i64 xl, .int .i64 xh, .int .i64 xs, .int .i64 xe] from k3) (And.intro (show Cls w1.drew (X.heap.size + 1 + 1) 30 #[.int .i64 0, .slice none 0 0] from k4) hbB.drew)))
      have HS4 : Hid (w1.drew.cell? ⟨X.heap.size, 0, none⟩ = some (.int .i64 n) ∧ w1.drew.cell? ⟨X.heap.size + 1, 0, none⟩ = some (.string xn) ∧ w1.drew.cell? ⟨X.heap.size + 1, 1, none⟩ = some (.int .i64 xl) ∧ w1.drew.cell? ⟨X.heap.size + 1, 2, none⟩ = some (.int .i64 xh) ∧ w1.drew.cell? ⟨X.heap.size + 1, 3, none⟩ = some (.int .i64 xs) ∧ w1.drew.cell? ⟨X.heap.size + 1, 4, none⟩ = some (.int .i64 xe)) := hide ⟨(k2.cell 0).trans rfl, (k3.cell 0).trans rfl, (k3.cell 1).trans rfl, (k3.cell 2).trans rfl, (k3.cell 3).trans rfl, (k3.cell 4).trans rfl⟩
      clear i9 e92 e93 k2 k3 k4 hbB HG HRF HO1 hl hd HKB HPt
      generalize hdn : D.length = dn at *
      clear hdn
      go_upto_region 8 with fail
      refine regionL (S := fun z => z.cell? ⟨X.heap.size, 0, none⟩ = some (.int .i64 n) ∧ z.cell? ⟨X.heap.size + 1, 0, none⟩ = some (.string xn) ∧ z.cell? ⟨X.heap.size + 1, 1, none⟩ = some (.int .i64 xl) ∧ z.cell? ⟨X.heap.size + 1, 2, none⟩ = some (.int .i64 xh) ∧ z.cell? ⟨X.heap.size + 1, 3, none⟩ = some (.int .i64 xs) ∧ z.cell? ⟨X.heap.size + 1, 4, none⟩ = some (.int .i64 xe)) (fun i => i == 6 || i == 7) (by kernel_rfl) ?_
      generalize w1.drew = wq at *
      refine anyL_take2 (i := 0) (v := ?vrs0) rfl (by kernel_rfl) (by kernel_rfl) (by kernel_rfl) (by kernel_rfl) (fun _ _ _ h => h) (Or.inl ⟨by rfl, ?hrs0⟩) (unhide HS4) ?_
      case hrs0 => (intro w hSw; (try dsimp only at hSw); go_simp) <;> with_reducible rfl
      simp only [Act.put, List.getElem_toArray, List.getElem_cons_zero, List.setIfInBounds_toArray, List.set_cons_zero, List.set_cons_succ]
      refine anyL_take2 (i := 1) (v := ?vrs1) rfl (by kernel_rfl) (by kernel_rfl) (by kernel_rfl) (by kernel_rfl) (fun _ _ _ h => h) (Or.inl ⟨by rfl, ?hrs1⟩) (unhide HS4) ?_
      case hrs1 => (intro w hSw; (try dsimp only at hSw); go_simp) <;> with_reducible rfl
      simp only [Act.put, List.getElem_toArray, List.getElem_cons_zero, List.getElem_cons_succ, List.setIfInBounds_toArray, List.set_cons_zero, List.set_cons_succ]
      refine anyL_take2 (i := 2) (v := ?vrs2) rfl (by kernel_rfl) (by kernel_rfl) (by kernel_rfl) (by kernel_rfl) (fun _ _ _ h => h) (Or.inl ⟨by rfl, ?hrs2⟩) (unhide HS4) ?_
      case hrs2 => (intro w hSw; (try dsimp only at hSw); go_simp) <;> with_reducible rfl
      simp only [Act.put, List.getElem_toArray, List.getElem_cons_zero, List.getElem_cons_succ, List.setIfInBounds_toArray, List.set_cons_zero, List.set_cons_succ]
      refine anyL_take2 (i := 3) (v := ?vrs3) rfl (by kernel_rfl) (by kernel_rfl) (by kernel_rfl) (by kernel_rfl) (fun _ _ _ h => h) (Or.inl ⟨by rfl, ?hrs3⟩) (unhide HS4) ?_
      case hrs3 => (intro w hSw; (try dsimp only at hSw); go_simp) <;> with_reducible rfl
      simp only [Act.put, List.getElem_toArray, List.getElem_cons_zero, List.getElem_cons_succ, List.setIfInBounds_toArray, List.set_cons_zero, List.set_cons_succ]
      refine anyL_ready (rs := [4]) (by kernel_rfl) (by simp) ?_
      refine AllL.cons rfl (fun K hK => ?_) AllL.nil
      go_simp
      refine (unhide HPu).mono ?_
      rintro y w5 ⟨v5, rfl, o5, x5⟩
      have kk := unhide HKC
      have k2 := kk.1.below x5 kk.1.lt
      have k3 := kk.2.1.below x5 kk.2.1.lt
      have k4 := kk.2.2.1.below x5 kk.2.2.1.lt
      obtain ⟨av, cv, hv5, _⟩ := rowD_form o5
      subst hv5
      have o5' := rowD_base o5 kk.2.2.2.size
      have hb5 := kk.2.2.2.trans (x5.mono kk.2.2.2.size)
      have k9 := (clsR_put2 k4 (.int .i64 n) (.slice av PN cv) hb5 (show X.heap.size ≤ X.heap.size + 1 + 1 by omega))
      have HO9 : Hid (((w5.setCell ⟨X.heap.size + 1 + 1, 0, none⟩ (.int .i64 n)).setCell ⟨X.heap.size + 1 + 1, 1, none⟩ (.slice av PN cv)).ownsRow X.heap.size 37 5 (.slice av PN cv) PN PV) := hide (rowD_on o5' fun G hG => by
        have hne : G ≠ X.heap.size + 1 + 1 := fun e => by
          obtain ⟨_, cur, hc⟩ := rowD_block o5' hG
          unfold Cls at k4
          rw [e, k4] at hc
          cases hc
        rw [Below.heap_setCell _ ⟨X.heap.size + 1 + 1, 1, none⟩ _ G hne, Below.heap_setCell _ ⟨X.heap.size + 1 + 1, 0, none⟩ _ G hne])
      have HK9 := hide k9
      have HZ := hide (And.intro (k4.frozen 0) (And.intro (k4.frozen 1) (clsR_two k4)))
      have HS5 : Hid (w5.cell? ⟨X.heap.size, 0, none⟩ = some (.int .i64 n) ∧ w5.cell? ⟨X.heap.size + 1, 0, none⟩ = some (.string xn) ∧ w5.cell? ⟨X.heap.size + 1, 1, none⟩ = some (.int .i64 xl) ∧ w5.cell? ⟨X.heap.size + 1, 2, none⟩ = some (.int .i64 xh) ∧ w5.cell? ⟨X.heap.size + 1, 3, none⟩ = some (.int .i64 xs) ∧ w5.cell? ⟨X.heap.size + 1, 4, none⟩ = some (.int .i64 xe)) := hide ⟨(k2.cell 0).trans rfl, (k3.cell 0).trans rfl, (k3.cell 1).trans rfl, (k3.cell 2).trans rfl, (k3.cell 3).trans rfl, (k3.cell 4).trans rfl⟩
      clear kk k2 k3 k4 k9 o5 o5' hb5 x5 HKC
      refine unhide hK _ _ (fun _ => unhide HS5) ?_
      clear hK K
      refine anyL_take2 (i := 5) (v := ?vrs4) rfl (by kernel_rfl) (by kernel_rfl) (by kernel_rfl) (by kernel_rfl) (fun _ _ _ h => h) (Or.inl ⟨by rfl, ?hrs4⟩) (unhide HS5) ?_
      case hrs4 => (intro w hSw; (try dsimp only at hSw); go_simp) <;> with_reducible rfl
      simp only [Act.put, List.getElem_toArray, List.getElem_cons_zero, List.getElem_cons_succ, List.setIfInBounds_toArray, List.set_cons_zero, List.set_cons_succ]
      refine anyL_ready (rs := [6]) (by kernel_rfl) (by simp) ?_
      refine AllL.cons rfl (fun K hK => ?_) AllL.nil
      obtain ⟨f0, f1, z0, z1⟩ := unhide HZ
      go_simp
      refine unhide hK _ _ (fun h => by cases h) ?_
      clear hK K
      refine anyL_free (i := 7) (v := ?vrsf5) rfl (by kernel_rfl) (by kernel_rfl) (by kernel_rfl) rfl (fun _ _ _ h => h) (Or.inl ⟨by rfl, ?hrsf5⟩) ?_
      case hrsf5 => (intro w hSw; go_simp) <;> with_reducible rfl
      simp only [Act.put, List.getElem_toArray, List.getElem_cons_zero, List.getElem_cons_succ, List.setIfInBounds_toArray, List.set_cons_zero, List.set_cons_succ]
      refine anyL_done (by kernel_rfl) ?_ _
      have k9 := unhide HK9
      obtain ⟨r0, r1⟩ := clsR_two k9.1
      have HB9 := hide k9.2
      clear k9 HK9 HZ HS5 HS4 f0 f1 z0 z1
      go_wp2_with fail
      refine bodyPost_ret (v := .tuple #[.agg #[.int .i64 n, .slice av PN cv], .int .i64 0]) (by simp [results, Try.results22, go_sem, r0, r1]) rfl (.inr ⟨by first | trivial | rfl, .slice av PN cv, rfl, unhide HO9, unhide HB9⟩)
  · have u1 : ((D.length : Int) == (N : Int)) = false := by rw [beq_eq_false_iff_ne]; omega
    have u1' : (D.length == N) = false := by rw [beq_eq_false_iff_ne]; exact hd
    have hrf : refG n l ⟨xn, xl, xh, xs, xe⟩ = 0 := by
      rw [unhide HRF, if_neg]
      rintro ⟨h, _⟩
      rw [(unhide HG).2 hd] at h; cases h
    rw [hrf]
    clear hrf
    go_enter Try.func22, Try.ntmps22
    go_wp2_with fail
    refine (unhide HWq).mono ?_
    rintro y w1 ⟨v1, rfl, o1, x1⟩
    dsimp only
    obtain ⟨k2, k3, k4⟩ := unhide HKK
    have k2 := k2.below x1 k2.lt
    have k3 := k3.below x1 k3.lt
    have k4 := k4.below x1 k4.lt
    have hbB := (unhide HKB).trans (x1.mono (unhide HKB).size)
    obtain ⟨av1, cv1, hv1, _⟩ := rowD_form o1
    subst hv1
    have HO1 := hide o1
    clear HWq HKK c0 c1 d0 d1 d2 d3 d4 o1 x1
    obtain ⟨c0, c1⟩ := clsR_two k2
    obtain ⟨_, _, e9, i9, _⟩ := own_isRl (unhide HO1)
    injection e9 with e91 e92 e93
    subst e91
    have HPu := hide (unhide HPt w1.drew av1 cv1 (i9.below (Below.refl w1.heap.size w1).drew (Nat.le_refl _)))
    have HKC := hide (And.intro (show Cls w1.drew X.heap.size 30 #[.int .i64 n, .slice a N c] from k2) (And.intro (show Cls w1.drew (X.heap.size + 1) 37 #[.string xn, .int .i64 xl, .int .i64 xh, .int .i64 xs, .int .i64 xe] from k3) (And.intro (show Cls w1.drew (X.heap.size + 1 + 1) 30 #[.int .i64 0, .slice none 0 0] from k4) hbB.drew)))
    have HS4 : Hid (w1.drew.cell? ⟨X.heap.size, 0, none⟩ = some (.int .i64 n) ∧ w1.drew.cell? ⟨X.heap.size + 1, 0, none⟩ = some (.string xn) ∧ w1.drew.cell? ⟨X.heap.size + 1, 1, none⟩ = some (.int .i64 xl) ∧ w1.drew.cell? ⟨X.heap.size + 1, 2, none⟩ = some (.int .i64 xh) ∧ w1.drew.cell? ⟨X.heap.size + 1, 3, none⟩ = some (.int .i64 xs) ∧ w1.drew.cell? ⟨X.heap.size + 1, 4, none⟩ = some (.int .i64 xe)) := hide ⟨(k2.cell 0).trans rfl, (k3.cell 0).trans rfl, (k3.cell 1).trans rfl, (k3.cell 2).trans rfl, (k3.cell 3).trans rfl, (k3.cell 4).trans rfl⟩
    clear i9 e92 e93 k2 k3 k4 hbB HG HRF HO1 hl hd HKB HPt
    generalize hdn : D.length = dn at *
    clear hdn
    go_upto_region 8 with fail
    refine regionL (S := fun z => z.cell? ⟨X.heap.size, 0, none⟩ = some (.int .i64 n) ∧ z.cell? ⟨X.heap.size + 1, 0, none⟩ = some (.string xn) ∧ z.cell? ⟨X.heap.size + 1, 1, none⟩ = some (.int .i64 xl) ∧ z.cell? ⟨X.heap.size + 1, 2, none⟩ = some (.int .i64 xh) ∧ z.cell? ⟨X.heap.size + 1, 3, none⟩ = some (.int .i64 xs) ∧ z.cell? ⟨X.heap.size + 1, 4, none⟩ = some (.int .i64 xe)) (fun i => i == 6 || i == 7) (by kernel_rfl) ?_
    generalize w1.drew = wq at *
    refine anyL_take2 (i := 0) (v := ?vrt6) rfl (by kernel_rfl) (by kernel_rfl) (by kernel_rfl) (by kernel_rfl) (fun _ _ _ h => h) (Or.inl ⟨by rfl, ?hrt6⟩) (unhide HS4) ?_
    case hrt6 => (intro w hSw; (try dsimp only at hSw); go_simp) <;> with_reducible rfl
    simp only [Act.put, List.getElem_toArray, List.getElem_cons_zero, List.setIfInBounds_toArray, List.set_cons_zero, List.set_cons_succ]
    refine anyL_take2 (i := 1) (v := ?vrt7) rfl (by kernel_rfl) (by kernel_rfl) (by kernel_rfl) (by kernel_rfl) (fun _ _ _ h => h) (Or.inl ⟨by rfl, ?hrt7⟩) (unhide HS4) ?_
    case hrt7 => (intro w hSw; (try dsimp only at hSw); go_simp) <;> with_reducible rfl
    simp only [Act.put, List.getElem_toArray, List.getElem_cons_zero, List.getElem_cons_succ, List.setIfInBounds_toArray, List.set_cons_zero, List.set_cons_succ]
    refine anyL_take2 (i := 2) (v := ?vrt8) rfl (by kernel_rfl) (by kernel_rfl) (by kernel_rfl) (by kernel_rfl) (fun _ _ _ h => h) (Or.inl ⟨by rfl, ?hrt8⟩) (unhide HS4) ?_
    case hrt8 => (intro w hSw; (try dsimp only at hSw); go_simp) <;> with_reducible rfl
    simp only [Act.put, List.getElem_toArray, List.getElem_cons_zero, List.getElem_cons_succ, List.setIfInBounds_toArray, List.set_cons_zero, List.set_cons_succ]
    refine anyL_take2 (i := 3) (v := ?vrt9) rfl (by kernel_rfl) (by kernel_rfl) (by kernel_rfl) (by kernel_rfl) (fun _ _ _ h => h) (Or.inl ⟨by rfl, ?hrt9⟩) (unhide HS4) ?_
    case hrt9 => (intro w hSw; (try dsimp only at hSw); go_simp) <;> with_reducible rfl
    simp only [Act.put, List.getElem_toArray, List.getElem_cons_zero, List.getElem_cons_succ, List.setIfInBounds_toArray, List.set_cons_zero, List.set_cons_succ]
    refine anyL_ready (rs := [4]) (by kernel_rfl) (by simp) ?_
    refine AllL.cons rfl (fun K hK => ?_) AllL.nil
    go_simp
    refine (unhide HPu).mono ?_
    rintro y w5 ⟨v5, rfl, o5, x5⟩
    have kk := unhide HKC
    have k2 := kk.1.below x5 kk.1.lt
    have k3 := kk.2.1.below x5 kk.2.1.lt
    have k4 := kk.2.2.1.below x5 kk.2.2.1.lt
    obtain ⟨av, cv, hv5, _⟩ := rowD_form o5
    subst hv5
    have o5' := rowD_base o5 kk.2.2.2.size
    have hb5 := kk.2.2.2.trans (x5.mono kk.2.2.2.size)
    have k9 := (clsR_put2 k4 (.int .i64 n) (.slice av PN cv) hb5 (show X.heap.size ≤ X.heap.size + 1 + 1 by omega))
    have HO9 : Hid (((w5.setCell ⟨X.heap.size + 1 + 1, 0, none⟩ (.int .i64 n)).setCell ⟨X.heap.size + 1 + 1, 1, none⟩ (.slice av PN cv)).ownsRow X.heap.size 37 5 (.slice av PN cv) PN PV) := hide (rowD_on o5' fun G hG => by
      have hne : G ≠ X.heap.size + 1 + 1 := fun e => by
        obtain ⟨_, cur, hc⟩ := rowD_block o5' hG
        unfold Cls at k4
        rw [e, k4] at hc
        cases hc
      rw [Below.heap_setCell _ ⟨X.heap.size + 1 + 1, 1, none⟩ _ G hne, Below.heap_setCell _ ⟨X.heap.size + 1 + 1, 0, none⟩ _ G hne])
    have HK9 := hide k9
    have HZ := hide (And.intro (k4.frozen 0) (And.intro (k4.frozen 1) (clsR_two k4)))
    have HS5 : Hid (w5.cell? ⟨X.heap.size, 0, none⟩ = some (.int .i64 n) ∧ w5.cell? ⟨X.heap.size + 1, 0, none⟩ = some (.string xn) ∧ w5.cell? ⟨X.heap.size + 1, 1, none⟩ = some (.int .i64 xl) ∧ w5.cell? ⟨X.heap.size + 1, 2, none⟩ = some (.int .i64 xh) ∧ w5.cell? ⟨X.heap.size + 1, 3, none⟩ = some (.int .i64 xs) ∧ w5.cell? ⟨X.heap.size + 1, 4, none⟩ = some (.int .i64 xe)) := hide ⟨(k2.cell 0).trans rfl, (k3.cell 0).trans rfl, (k3.cell 1).trans rfl, (k3.cell 2).trans rfl, (k3.cell 3).trans rfl, (k3.cell 4).trans rfl⟩
    clear kk k2 k3 k4 k9 o5 o5' hb5 x5 HKC
    refine unhide hK _ _ (fun _ => unhide HS5) ?_
    clear hK K
    refine anyL_take2 (i := 5) (v := ?vrt10) rfl (by kernel_rfl) (by kernel_rfl) (by kernel_rfl) (by kernel_rfl) (fun _ _ _ h => h) (Or.inl ⟨by rfl, ?hrt10⟩) (unhide HS5) ?_
    case hrt10 => (intro w hSw; (try dsimp only at hSw); go_simp) <;> with_reducible rfl
    simp only [Act.put, List.getElem_toArray, List.getElem_cons_zero, List.getElem_cons_succ, List.setIfInBounds_toArray, List.set_cons_zero, List.set_cons_succ]
    refine anyL_ready (rs := [6]) (by kernel_rfl) (by simp) ?_
    refine AllL.cons rfl (fun K hK => ?_) AllL.nil
    obtain ⟨f0, f1, z0, z1⟩ := unhide HZ
    go_simp
    refine unhide hK _ _ (fun h => by cases h) ?_
    clear hK K
    refine anyL_free (i := 7) (v := ?vrtf11) rfl (by kernel_rfl) (by kernel_rfl) (by kernel_rfl) rfl (fun _ _ _ h => h) (Or.inl ⟨by rfl, ?hrtf11⟩) ?_
    case hrtf11 => (intro w hSw; go_simp) <;> with_reducible rfl
    simp only [Act.put, List.getElem_toArray, List.getElem_cons_zero, List.getElem_cons_succ, List.setIfInBounds_toArray, List.set_cons_zero, List.set_cons_succ]
    refine anyL_done (by kernel_rfl) ?_ _
    have k9 := unhide HK9
    obtain ⟨r0, r1⟩ := clsR_two k9.1
    have HB9 := hide k9.2
    clear k9 HK9 HZ HS5 HS4 f0 f1 z0 z1
    go_wp2_with fail
    refine bodyPost_ret (v := .tuple #[.agg #[.int .i64 n, .slice av PN cv], .int .i64 0]) (by simp [results, Try.results22, go_sem, r0, r1]) rfl (.inr ⟨by first | trivial | rfl, .slice av PN cv, rfl, unhide HO9, unhide HB9⟩)
end Go.Proofs.Ytifpjdodignflaa
