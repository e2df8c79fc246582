/- Layer 14: moved. · Layer 14: a valid delta's changes; Place. · Layer 15: Behind. -/
import Derived.Test.YtfllomlighlejaaMo33
import Derived.Test.YtfllomlighlejaaMo21
import Derived.Test.YtfllomlighlejaaMo22
import Derived.Test.YtfllomlighlejaaMo01

section
namespace Go.Proofs.Ytfllomlighlejaa
open Go.ChangeShapes Go.WideShapes Go.ChangeAt Go.RowKit
attribute [local go_sem] Oper.semAt_some

/-- where a place is behind changes; s: what the text has grown by ahead of them -/
def mvC (p g : Int) : Int → List Dop → Int
  | s, [] => p + s
  | s, c :: r => if p < c.k then p + s else if p ≤ c.n then (if g = 1 then c.k + s else c.k + s + (c.t.length : Int)) else mvC p g (s + ((c.t.length : Int) - (c.n - c.k))) r
structure MvK (cs : List Dop) : Prop where
  b : ∀ k, k < cs.length → 0 ≤ (cs.getD k opZ).k ∧ (cs.getD k opZ).k ≤ (cs.getD k opZ).n ∧ (cs.getD k opZ).n ≤ 268435456 ∧ (cs.getD k opZ).t.length ≤ 536870912
  s : ∀ k, k ≤ cs.length → -1073741824 ≤ dlC (cs.take k) ∧ dlC (cs.take k) ≤ 1073741824
  l : cs.length ≤ 1073741824
theorem drop_getD {cs : List Dop} {k : Nat} (hk : k < cs.length) : cs.drop k = cs.getD k opZ :: cs.drop (k + 1) := by
  rw [List.drop_eq_getElem_cons hk]; simp [List.getD, List.getElem?_eq_getElem hk]
set_option maxRecDepth 100000 in
set_option maxHeartbeats 4000000 in
theorem moved_at (a : Option Addr) (c : Nat) (cs : List Dop) (p g : Int) (w : World) (h : IsO w a cs) (hk : MvK cs) (hp : 0 ≤ p ∧ p ≤ 268435456) :
    Calls Try.prog 26 #[.slice a cs.length c, .int .i64 p, .int .i64 g] w fun y w' => y = .returned (.int .i64 (mvC p g 0 cs)) ∧ Below w.heap.size w w' := by
  have HO := hide fun (X : World) (hx : Below w.heap.size w X) => h.below hx (Nat.le_refl _)
  have HK := hide hk
  have hll := hk.l
  obtain ⟨V, hV⟩ : ∃ V, V = mvC p g 0 cs := ⟨_, rfl⟩
  rw [← hV]
  have HV := hide hV
  clear h hk hV
  go_enter Try.func26, Try.ntmps26
  go_wp2_with fail
  go_loopw [7, 9, 12] (fun v7 v9 v12 wx => (∃ z, v9 = z) ∧ ∃ (k : Nat) (s : Int), v12 = .int .i64 (k : Int) ∧ v7 = .int .i64 s ∧ k ≤ cs.length ∧ Hid (s = dlC (cs.take k) ∧ Below w.heap.size w wx ∧ V = mvC p g s (cs.drop k))) (fun _ _ v12 _ => cs.length - (intOf v12).toNat)
  case atStart => exact ⟨⟨_, rfl⟩, ⟨0, 0, rfl, rfl, Nat.zero_le _, hide ⟨by simp [dlC], Below.refl _ _, by rw [unhide HV]; rfl⟩⟩⟩
  case round =>
    clear HV
    obtain ⟨⟨z1, rfl⟩, ⟨k, s, rfl, rfl, hk, HI⟩⟩ := hrel
    have hsb := (unhide HK).s k hk
    rw [← (unhide HI).1] at hsb
    by_cases hlt : k < cs.length
    · have t1 : decide ((k : Int) < (cs.length : Int)) = true := decide_eq_true (by omega)
      obtain ⟨ga, off, hga, _, c0', c1', c2'⟩ := (unhide HO wr (unhide HI).2.1).three hlt
      have hbx := (unhide HK).b k hlt
      have hs2 := (unhide HK).s (k + 1) hlt
      have hV := (unhide HI).2.2
      rw [drop_getD hlt] at hV
      have e1 := dlC_take cs k hlt
      rw [← (unhide HI).1] at e1
      have HBW := hide (unhide HI).2.1
      clear HI hk
      subst hga
      generalize cs.getD k opZ = q at *
      obtain ⟨xk, xn, xt⟩ := q
      dsimp only at c0' c1' c2' hbx e1
      have hsz := strOfNums_size xt
      have HBN := hide ((unhide HBW).alloc (unhide HBW).size (.cells #[.int .i64 xk, .int .i64 xn, .string (strOfNums xt)] 92))
      obtain ⟨d0, d1, d2⟩ := three_nwD wr (.int .i64 xk) (.int .i64 xn) (.string (strOfNums xt)) (t := 92)
      simp only [mvC] at hV
      clear HBW
      go_upto_region 5 with fail
      clear c0' c1' c2' t1
      generalize wr.alloc (.cells #[.int .i64 xk, .int .i64 xn, .string (strOfNums xt)] 92) = v0 at *
      generalize wr.heap.size = gb at *
      generalize strOfNums xt = st at *
      generalize xt.length = L at *
      by_cases h1 : p < xk
      · have t1 : decide (p < xk) = true := decide_eq_true h1
        rw [if_pos h1] at hV
        have w1 : wrap64 (p + s) = V := by rw [wrapD _ (by omega) (by omega), hV]
        clear hV hbx hs2 e1 hsz hsb h1
        go_wp2_with fail
        try rw [w1]
        refine bodyPost_ret (results_tmp rfl _ _ _) rfl ⟨rfl, unhide HBN⟩
      · have t1 : decide (p < xk) = false := decide_eq_false h1
        rw [if_neg h1] at hV
        by_cases h2 : p ≤ xn
        · have t2 : decide (p ≤ xn) = true := decide_eq_true h2
          rw [if_pos h2] at hV
          by_cases h3 : g = 1
          · subst h3
            rw [if_pos rfl] at hV
            have w1 : wrap64 (xk + s) = V := by rw [wrapD _ (by omega) (by omega), hV]
            clear hV hbx hs2 e1 hsz hsb h1 h2
            go_wp2_with fail
            try rw [w1]
            refine bodyPost_ret (results_tmp rfl _ _ _) rfl ⟨rfl, unhide HBN⟩
          · have t3 : (g == 1) = false := by simpa using h3
            rw [if_neg h3] at hV
            have w1 : wrap64 (xk + s) = xk + s := wrapD _ (by omega) (by omega)
            have w2 : wrap64 (xk + s + (L : Int)) = V := by rw [wrapD _ (by omega) (by omega), hV]
            clear hV hbx hs2 e1 hsb h1 h2
            go_wp2_with fail
            try rw [w1, w2]
            refine bodyPost_ret (results_tmp rfl _ _ _) rfl ⟨rfl, unhide HBN⟩
        · have t2 : decide (p ≤ xn) = false := decide_eq_false h2
          rw [if_neg h2] at hV
          have w1 : wrap64 (xn - xk) = xn - xk := wrapD _ (by omega) (by omega)
          have w2 : wrap64 ((L : Int) - (xn - xk)) = (L : Int) - (xn - xk) := wrapD _ (by omega) (by omega)
          have w3 : wrap64 (s + ((L : Int) - (xn - xk))) = s + ((L : Int) - (xn - xk)) := wrapD _ (by omega) (by omega)
          have HN := hide (And.intro e1.symm (And.intro (unhide HBN) hV))
          clear hV hbx hs2 e1 hsb h1 h2
          go_wp2_with fail
          go_roundw
          case rel => exact ⟨⟨_, rfl⟩, ⟨k + 1, s + ((L : Int) - (xn - xk)), by go_num, by first | rfl | rw [w3] | rw [w1, w2, w3], hlt, HN⟩⟩
          case measure => simp [intOf]; omega
    · obtain rfl : k = cs.length := by omega
      have t1 : decide ((cs.length : Int) < (cs.length : Int)) = false := by simp
      have hV := (unhide HI).2.2
      rw [List.drop_length] at hV
      simp only [mvC] at hV
      have w1 : wrap64 (p + s) = V := by rw [wrapD _ (by omega) (by omega), hV]
      have HBW := hide (unhide HI).2.1
      clear HI hV hsb hlt hk
      go_wp2_with fail
      try rw [w1]
      refine bodyPost_ret (results_tmp rfl _ _ _) rfl ⟨rfl, unhide HBW⟩

end Go.Proofs.Ytfllomlighlejaa
end

section
namespace Go.Proofs.Ytfllomlighlejaa
open Go.ChangeShapes Go.WideShapes Go.ChangeAt Go.RowKit
attribute [local go_sem] Oper.semAt_some

theorem chn_of_ap : ∀ {d : List Dop} (m : Int), (∀ o ∈ d, o.k = 1 ∨ o.k = 2 ∨ o.k = 3) → apL m d = true → Chn d
  | [], _, _, _ => trivial
  | [_], _, _, _ => trivial
  | o :: q :: r, m, hk, h => by
    simp only [apL, Bool.and_eq_true] at h
    refine ⟨?_, chn_of_ap (nextN o.k) (fun z hz => hk z (by simp [hz])) (by simp only [apL, Bool.and_eq_true]; exact h.2)⟩
    have h2 := h.2.1
    have ho := hk o (by simp)
    have hq := hk q (by simp)
    unfold okN
    rcases ho with h1 | h1 | h1 <;> rcases hq with h3 | h3 | h3 <;> rw [h1, h3] at h2 ⊢ <;> revert h2 <;> decide
theorem val_Can {d : List Dop} (hv : valB d = true) : Can d := by
  refine ⟨val_pln hv, chn_of_ap 7 (valB_k hv) ?_⟩
  unfold valB at hv
  simp only [Bool.and_eq_true] at hv
  exact hv.2.1
theorem gap_okL : ∀ {cs : List Dop} {p q n : Int}, GapC p cs → lstC p cs ≤ n → q ≤ p + 1 → q ≤ n → okL q cs n
  | [], _, _, _, _, _, _, h => h
  | c :: r, p, q, n, h, hl, hq, _ => by
    have h1 := h.1
    have h2 := h.2.1
    have h3 := (gap_le h.2.2).1
    simp only [lstC] at hl
    exact ⟨by omega, h2, by omega, gap_okL h.2.2 hl (by omega) (by omega)⟩
theorem gap_take : ∀ {cs : List Dop} {p : Int} (k : Nat), GapC p cs → GapC p (cs.take k) ∧ lstC p (cs.take k) ≤ lstC p cs
  | [], _, k, _ => by simp [GapC]
  | c :: r, p, 0, h => by
    have := (gap_le h).1
    simp only [List.take_zero, lstC]
    exact ⟨trivial, this⟩
  | c :: r, p, k + 1, h => by
    obtain ⟨h1, h2⟩ := gap_take k h.2.2
    simp only [List.take_succ_cons, lstC]
    exact ⟨⟨h.1, h.2.1, h1⟩, h2⟩
theorem lst0 {cs : List Dop} (h : GapC (-1) cs) : 0 ≤ lstC 0 cs ∧ (lstC 0 cs ≤ lstC (-1) cs ∨ cs = []) := by
  cases cs with
  | nil => exact ⟨Int.le_refl _, .inr rfl⟩
  | cons c r =>
    have := gap_le h
    have h2 := this.2 c (by simp)
    have h3 := (gap_le h.2.2).1
    simp only [lstC] at h3 ⊢
    have h4 := h.1
    have h5 := h.2.1
    exact ⟨by omega, .inl (Int.le_refl _)⟩
theorem opC_appS : ∀ (x y : List Dop) (p : Int), opC p (x ++ y) = opC p x ++ opC (lstC p x) y
  | [], _, _ => rfl
  | c :: r, y, p => by simp only [List.cons_append, opC, opC_appS r y c.n, lstC]
theorem toD_appS (x y : List Dop) : toD (x ++ y) = toD x + toD y := by simp [toD]
theorem mvK_of {d : List Dop} (hv : valB d = true) : MvK (runL d).2 ∧ (runL d).1 = frD d := by
  have hs := chs_run (val_Can hv)
  have hnn := (valB_nn hv).2
  have hm := hs.f
  generalize (runL d).2 = cs at *
  generalize (runL d).1 = m at *
  have hg := hs.g
  have hl := hs.l
  have hT : toD (opC 0 cs) ≤ toD d := by
    have h1 := congrArg toA hs.a
    rw [to_app, (frA_dA (opC_k 0 cs)).2, (frA_dA (valB_k hv)).2] at h1
    omega
  have key : ∀ k, 0 ≤ lstC 0 (cs.take k) ∧ lstC 0 (cs.take k) ≤ 268435456 ∧ toD (opC 0 (cs.take k)) ≤ 268435456 ∧ (toD (opC 0 (cs.take k)) : Int) = lstC 0 (cs.take k) + dlC (cs.take k) := fun k => by
    obtain ⟨t1, t2⟩ := gap_take k hg
    have t3 := lst0 t1
    have hbig : lstC (-1) cs ≤ 268435456 := by
      by_cases hc : cs = []
      · rw [hc]; simp [lstC]
      · have := lstC_two 0 (-1) hc
        omega
    have t4 : lstC 0 (cs.take k) ≤ 268435456 := by
      by_cases hc : cs.take k = []
      · rw [hc]; simp [lstC]
      · have := lstC_two 0 (-1) hc
        omega
    have t7 : lstC (-1) (cs.take k) ≤ 268435456 := by omega
    have t5 := opC_sizes (cs.take k) 0 268435456 (gap_okL t1 t7 (by omega) (by omega))
    have t6 : toD (opC 0 cs) = toD (opC 0 (cs.take k)) + toD (opC (lstC 0 (cs.take k)) (cs.drop k)) := by rw [← toD_appS, ← opC_appS, List.take_append_drop]
    exact ⟨t3.1, t4, by omega, by omega⟩
  have hbl : (cs.length : Int) ≤ 268435457 := by
    have h1 := gap_len hg
    by_cases hc : cs = []
    · rw [hc]; simp
    · have := lstC_two 0 (-1) hc
      omega
  refine ⟨⟨fun k hk => ?_, fun k _ => ?_, by omega⟩, hm⟩
  · obtain ⟨b1, b2, b3⟩ := (gap_le hg).2 _ (getD_memD hk)
    have hne : cs ≠ [] := fun e => by rw [e] at hk; simp at hk
    have b4 := lstC_two 0 (-1) hne
    have k1 := key k
    have k2 := key (k + 1)
    have e1 := dlC_take cs k hk
    have o1 := okL_at cs 0 268435456 (gap_okL hg (by omega) (by omega) (by omega)) k hk
    have e2 : lstC 0 (cs.take (k + 1)) = (cs.getD k opZ).n := by
      rw [List.take_add_one, List.getElem?_eq_getElem hk, Option.toList_some, lstC_sn]
      simp [List.getD_eq_getElem?_getD, List.getElem?_eq_getElem hk]
    exact ⟨by omega, b2, by omega, by omega⟩
  · have := key k
    exact ⟨by omega, by omega⟩
/-- what Place answers -/
def plE (d : List Dop) (p g : Int) : Int := if valB d then (if (0 ≤ p ∧ p ≤ frD d) ∧ (g = 1 ∨ g = 2) then 0 else 2) else 130
def plV (d : List Dop) (p g : Int) : Int := if plE d p g = 0 then mvC p g 0 (runL d).2 else 0

set_option maxRecDepth 100000 in
set_option maxHeartbeats 4000000 in
theorem Place_at (a : Option Addr) (c : Nat) (d : List Dop) (p g : Int) (w : World) (h : IsO w a d) (hl : d.length ≤ 4611686018427387904) :
    Calls Try.prog 13 #[.slice a d.length c, .int .i64 p, .int .i64 g] w fun y w' => y = .returned (.tuple #[.int .i64 (plV d p g), .int .i64 (plE d p g)]) ∧ Below w.heap.size w w' := by
  have HL := hide (Lens_at a c d w h hl)
  have HC := hide fun (X : World) (hX : Below w.heap.size w X) => Changes_at a c d X (h.below hX (Nat.le_refl _)) hl
  obtain ⟨V, hV⟩ : ∃ V, V = plV d p g := ⟨_, rfl⟩
  obtain ⟨E, hE⟩ : ∃ E, E = plE d p g := ⟨_, rfl⟩
  rw [← hV, ← hE]
  unfold plV at hV
  rw [← hE] at hV
  unfold plE at hE
  unfold lensV at HL
  cases hv : valB d with
  | false =>
    rw [hv] at HL hE
    simp only [Bool.false_eq_true, if_false] at HL hE
    rw [hE] at hV
    simp only [show ¬ ((130 : Int) = 0) by decide, if_false] at hV
    subst hE hV
    clear h hl HC hv
    go_enter Try.func13, Try.ntmps13
    go_wp2_with fail
    refine (unhide HL).mono ?_
    rintro y w1 ⟨rfl, x1⟩
    dsimp only
    clear HL
    go_wp2_with fail
    refine bodyPost_ret (results_tmp2 rfl _ _ _) rfl ⟨rfl, x1⟩
  | true =>
    obtain ⟨hmk, _⟩ := mvK_of hv
    have hfb := (valB_nn hv).2.1
    rw [hv] at HL hE
    simp only [if_true] at HL hE
    have hch : chD d = ((runL d).2, 0) := by unfold chD; rw [hv]; rfl
    rw [hch] at HC
    dsimp only at HC
    have HMV := hide fun (X : World) (a9 : Option Addr) (c9 : Nat) (h9 : IsO X a9 (runL d).2) (hp : 0 ≤ p ∧ p ≤ 268435456) => moved_at a9 c9 (runL d).2 p g X h9 hmk hp
    clear h hl hch hmk hv
    generalize (runL d).2 = cs at *
    generalize frD d = fr at *
    generalize toD d = td at *
    by_cases h1 : p < 0
    · rw [if_neg (by omega)] at hE
      rw [hE, if_neg (by decide)] at hV
      subst hE hV
      have t1 : decide (p < 0) = true := decide_eq_true h1
      clear HC HMV h1 hfb
      go_enter Try.func13, Try.ntmps13
      go_wp2_with fail
      refine (unhide HL).mono ?_
      rintro y w1 ⟨rfl, x1⟩
      dsimp only
      clear HL
      go_wp2_with fail
      refine bodyPost_ret (results_tmp2 rfl _ _ _) rfl ⟨rfl, x1⟩
    have t1 : decide (p < 0) = false := decide_eq_false h1
    by_cases h2 : p > (fr : Int)
    · rw [if_neg (by omega)] at hE
      rw [hE, if_neg (by decide)] at hV
      subst hE hV
      have t2 : decide (p > (fr : Int)) = true := decide_eq_true h2
      have t2' : decide ((fr : Int) < p) = true := decide_eq_true h2
      clear HC HMV h1 h2 hfb
      go_enter Try.func13, Try.ntmps13
      go_wp2_with fail
      refine (unhide HL).mono ?_
      rintro y w1 ⟨rfl, x1⟩
      dsimp only
      clear HL
      go_wp2_with fail
      refine bodyPost_ret (results_tmp2 rfl _ _ _) rfl ⟨rfl, x1⟩
    have t2 : decide (p > (fr : Int)) = false := decide_eq_false h2
    have t2' : decide ((fr : Int) < p) = false := decide_eq_false h2
    by_cases h3 : g = 1 ∨ g = 2
    · rw [if_pos (by omega)] at hE
      rw [hE, if_pos rfl] at hV
      have HP : Hid (0 ≤ p ∧ p ≤ 268435456) := hide (by omega)
      have HV := hide hV
      subst hE
      clear h1 h2 hfb hV
      rcases h3 with h3 | h3
      · subst h3
        go_enter Try.func13, Try.ntmps13
        go_wp2_with fail
        refine (unhide HL).mono ?_
        rintro y w1 ⟨rfl, x1⟩
        dsimp only
        have HX1 := hide x1
        have HC1 := hide (unhide HC w1 x1)
        clear HL HC x1
        go_wp2_with fail
        refine (unhide HC1).mono ?_
        rintro y w2 ⟨v, rfl, o2, x2⟩
        dsimp only
        obtain ⟨a9, c9, rfl, i9, _⟩ := own_isOC o2
        have HX2 := hide ((unhide HX1).trans (x2.mono (unhide HX1).size))
        have HM := hide (unhide HMV w2 a9 c9 i9 (unhide HP))
        rw [← unhide HV] at HM
        clear HC1 HX1 o2 x2 i9 HMV t1 t2 t2'
        go_wp2_with fail
        refine (unhide HM).mono ?_
        rintro y w3 ⟨rfl, x3⟩
        dsimp only
        have HX3 := hide ((unhide HX2).trans (x3.mono (unhide HX2).size))
        clear HM HX2 x3
        go_wp2_with fail
        refine bodyPost_ret (results_tmp2 rfl _ _ _) rfl ⟨rfl, unhide HX3⟩
      · subst h3
        go_enter Try.func13, Try.ntmps13
        go_wp2_with fail
        refine (unhide HL).mono ?_
        rintro y w1 ⟨rfl, x1⟩
        dsimp only
        have HX1 := hide x1
        have HC1 := hide (unhide HC w1 x1)
        clear HL HC x1
        go_wp2_with fail
        refine (unhide HC1).mono ?_
        rintro y w2 ⟨v, rfl, o2, x2⟩
        dsimp only
        obtain ⟨a9, c9, rfl, i9, _⟩ := own_isOC o2
        have HX2 := hide ((unhide HX1).trans (x2.mono (unhide HX1).size))
        have HM := hide (unhide HMV w2 a9 c9 i9 (unhide HP))
        rw [← unhide HV] at HM
        clear HC1 HX1 o2 x2 i9 HMV t1 t2 t2'
        go_wp2_with fail
        refine (unhide HM).mono ?_
        rintro y w3 ⟨rfl, x3⟩
        dsimp only
        have HX3 := hide ((unhide HX2).trans (x3.mono (unhide HX2).size))
        clear HM HX2 x3
        go_wp2_with fail
        refine bodyPost_ret (results_tmp2 rfl _ _ _) rfl ⟨rfl, unhide HX3⟩
    · rw [if_neg (by omega)] at hE
      rw [hE, if_neg (by decide)] at hV
      subst hE hV
      have t3 : (g != 1) = true := by simp; omega
      have t3' : (g == 1) = false := by simp; omega
      have t4 : (g != 2) = true := by simp; omega
      have t4' : (g == 2) = false := by simp; omega
      clear HC HMV h1 h2 hfb h3
      go_enter Try.func13, Try.ntmps13
      go_wp2_with fail
      refine (unhide HL).mono ?_
      rintro y w1 ⟨rfl, x1⟩
      dsimp only
      clear HL
      go_wp2_with fail
      refine bodyPost_ret (results_tmp2 rfl _ _ _) rfl ⟨rfl, x1⟩

end Go.Proofs.Ytfllomlighlejaa
end

section
namespace Go.Proofs.Ytfllomlighlejaa
open Go.ChangeShapes Go.WideShapes Go.ChangeAt Go.RowKit
attribute [local go_sem] Oper.semAt_some

theorem run_makeMapM (w : World) (n : Nat) : (Instr.makeMap 67 (some (.int .i64 (n : Int)))).run Try.prog w = .ok (.map (some w.heap.size)) (w.alloc (.map #[] 0)) := by
  unfold Instr.makeMap
  simp only [Sem.run_bind, run_underlying Try.underlying67, Result.andThen]
  rfl
def mvM (d : List Dop) (m : Mk) : Mk := ⟨m.n, plV d m.p m.g, m.g⟩
theorem mvM_n (d : List Dop) (m : Mk) : (mvM d m).n = m.n := rfl
/-- what Behind's loop keeps: the iterator (I came out) and the new map (for S) -/
structure MbJ (X wx : World) (ri r2 bm : Nat) (d : List Dop) (L I S : List Mk) : Prop where
  it : ItM wx ri bm L I
  mp : IsMp wx r2 (S.map (mvM d))
  dd : Below X.heap.size X wx
  nn : X.heap.size ≤ ri ∧ X.heap.size ≤ r2
theorem IsMp.ne_it {X : World} {r ri bm : Nat} {K L S : List Mk} (h : IsMp X r K) (hi : ItM X ri bm L S) : r ≠ ri := fun e => by
  obtain ⟨es, clock, h1, _⟩ := h
  obtain ⟨_, _, _, _, _, _, a, _⟩ := hi.c
  rw [e, a] at h1; cases h1
theorem MbJ.on {X wx wy : World} {ri r2 bm : Nat} {d : List Dop} {L I S : List Mk} (h : MbJ X wx ri r2 bm d L I S) (hb : Below wx.heap.size wx wy) : MbJ X wy ri r2 bm d L I S :=
  ⟨h.it.below hb (Nat.le_refl _), h.mp.below hb (Nat.le_refl _), h.dd.trans (hb.mono h.dd.size), h.nn⟩
theorem MbJ.next {X wx : World} {ri r2 bm : Nat} {d : List Dop} {L S : List Mk} (h : MbJ X wx ri r2 bm d L S S) (ty : TypeId) :
    (S.Perm L ∧ (Instr.next (.pointer (some ⟨ri, 0, none⟩)) false ty).run Try.prog wx = .ok (.tuple #[.bool false]) wx) ∨
    ∃ m T X', (S ++ m :: T).Perm L ∧ (Instr.next (.pointer (some ⟨ri, 0, none⟩)) false ty).run Try.prog wx = .ok (.tuple #[.bool true, .string m.n, mkV m]) X' ∧ (Instr.entry (.pointer (some ⟨ri, 0, none⟩))).run Try.prog X' = .ok (.tuple #[.string m.n, mkV m]) X' ∧ MbJ X X' ri r2 bm d L (S ++ [m]) S ∧ leftM X' bm ri < leftM wx bm ri := by
  rcases h.it.next (P := Try.prog) ty with h1 | ⟨m, T, X', p, r, e, i, hs, hk, hl, hb⟩
  · exact .inl h1
  · exact .inr ⟨m, T, X', p, r, e, ⟨i, h.mp.same (hk _ (h.mp.ne_it h.it)), h.dd.trans (hb _ h.nn.1), h.nn⟩, hl⟩
theorem put_mv {d : List Dop} {L S T : List Mk} {m : Mk} (hp : (S ++ m :: T).Perm L) (hn : Unl L) : putM (mvM d m) (S.map (mvM d)) = (S ++ [m]).map (mvM d) := by
  have h1 : ((S ++ m :: T).map (·.n)).Nodup := (hp.map (fun m : Mk => m.n)).nodup_iff.2 hn
  rw [List.map_append, List.map_cons, List.nodup_append] at h1
  have h2 : atM (mvM d m).n (S.map (mvM d)) 0 = none := atM_none fun x hx e => by
    obtain ⟨y, hy, he⟩ := List.mem_map.1 hx
    exact h1.2.2 y.n (List.mem_map.2 ⟨y, hy, rfl⟩) m.n (by simp) (by rw [← he] at e; exact e)
  unfold putM
  rw [h2, List.map_append]
  rfl
theorem MbJ.put {X wx : World} {ri r2 bm : Nat} {d : List Dop} {L S T : List Mk} {m : Mk} (h : MbJ X wx ri r2 bm d L (S ++ [m]) S) (hp : (S ++ m :: T).Perm L) (hn : Unl L) (hb : bm < X.heap.size) :
    ∃ o, (Instr.mapUpdate 67 (.map (some r2)) (.string m.n) (mkV (mvM d m))).run Try.prog wx = .ok () { wx with heap := wx.heap.setIfInBounds r2 o } ∧ MbJ X { wx with heap := wx.heap.setIfInBounds r2 o } ri r2 bm d L (S ++ [m]) (S ++ [m]) ∧ leftM { wx with heap := wx.heap.setIfInBounds r2 o } bm ri = leftM wx bm ri := by
  obtain ⟨o, r, i⟩ := run_update_mk (P := Try.prog) wx Try.underlying67 Try.underlying9 h.mp (mvM d m)
  rw [put_mv hp hn] at i
  have hne := h.mp.ne_it h.it
  have e1 : ({ wx with heap := wx.heap.setIfInBounds r2 o } : World).heap[ri]? = wx.heap[ri]? := by simp [hne]
  have e2 : ({ wx with heap := wx.heap.setIfInBounds r2 o } : World).heap[bm]? = wx.heap[bm]? := by
    have : r2 ≠ bm := by have := h.nn.2; omega
    simp [this]
  exact ⟨o, r, ⟨h.it.same e1 e2, i, below_block h.dd o h.nn.2, h.nn⟩, leftM_same e1 e2⟩
set_option maxRecDepth 100000 in
set_option maxHeartbeats 2000000 in
theorem MBehV_at (g : Nat) (a : Option Addr) (c : Nat) (d : List Dop) (X : World) (ho : IsO X a d) (hl : d.length ≤ 4611686018427387904) (hv : valB d = false) :
    Calls Try.prog 7 #[.pointer (some ⟨g, 0, none⟩), .slice a d.length c] X fun y X' => y = .returned (.tuple #[.pointer none, .int .i64 130]) ∧ Below X.heap.size X X' := by
  have HLN := hide (Lens_at a c d X ho hl)
  unfold lensV at HLN
  rw [hv] at HLN
  simp only [Bool.false_eq_true, if_false] at HLN
  clear ho hl hv
  go_enter Try.func7, Try.ntmps7
  go_wp2_with fail
  refine (unhide HLN).mono ?_
  rintro y w1 ⟨rfl, x1⟩
  dsimp only
  have HX := hide x1
  clear HLN x1
  go_wp2_with fail
  refine bodyPost_ret (results_tmp2 rfl _ _ _) rfl ⟨rfl, unhide HX⟩
set_option maxRecDepth 100000 in
set_option maxHeartbeats 2000000 in
theorem MBehF_at (g : Nat) (n : Int) (L : List Mk) (a : Option Addr) (c : Nat) (d : List Dop) (X : World) (h : IsMs X g n L) (ho : IsO X a d) (hl : d.length ≤ 4611686018427387904) (hv : valB d = true) (hf : (frD d : Int) ≠ n) :
    Calls Try.prog 7 #[.pointer (some ⟨g, 0, none⟩), .slice a d.length c] X fun y X' => y = .returned (.tuple #[.pointer none, .int .i64 131]) ∧ Below X.heap.size X X' := by
  have HLN := hide (Lens_at a c d X ho hl)
  unfold lensV at HLN
  rw [hv] at HLN
  simp only [if_true] at HLN
  have HS := hide h
  have t1 : ((frD d : Int) != n) = true := by simpa using hf
  have t1' : ((frD d : Int) == n) = false := by simpa using hf
  clear ho hl hv h hf
  generalize (frD d : Int) = FD at *
  generalize (toD d : Int) = TD at *
  go_enter Try.func7, Try.ntmps7
  go_wp2_with fail
  refine (unhide HLN).mono ?_
  rintro y w1 ⟨rfl, x1⟩
  dsimp only
  obtain ⟨r, kg, _⟩ := ((unhide HS).below x1 (Nat.le_refl _)).c
  have c0 := kg.cell 0
  simp only [List.getElem?_toArray, List.getElem?_cons_zero] at c0
  have HX := hide x1
  clear HLN x1 HS kg
  go_wp2_with fail
  refine bodyPost_ret (results_tmp2 rfl _ _ _) rfl ⟨rfl, unhide HX⟩
set_option maxRecDepth 100000 in
set_option maxHeartbeats 4000000 in
theorem MBeh_at (g : Nat) (n : Int) (L : List Mk) (a : Option Addr) (c : Nat) (d : List Dop) (X : World) (h : IsMs X g n L) (ho : IsO X a d) (hl : d.length ≤ 4611686018427387904) (hv : valB d = true) (hf : (frD d : Int) = n) (hN : Unl L) :
    Calls Try.prog 7 #[.pointer (some ⟨g, 0, none⟩), .slice a d.length c] X fun y X' => ∃ (g' : Nat) (S : List Mk), y = .returned (.tuple #[.pointer (some ⟨g', 0, none⟩), .int .i64 0]) ∧ S.Perm L ∧ IsMs X' g' (toD d) (S.map (mvM d)) ∧ Below X.heap.size X X' := by
  have HLN := hide (Lens_at a c d X ho hl)
  unfold lensV at HLN
  rw [hv] at HLN
  simp only [if_true] at HLN
  have HMV := hide fun (Y : World) (hY : Below X.heap.size X Y) (p q : Int) => Place_at a c d p q Y (ho.below hY (Nat.le_refl _)) hl
  obtain ⟨r, kg0, mg0⟩ := h.c
  have hrX : r < X.heap.size := mg0.lt
  have HS := hide (And.intro kg0 mg0)
  have HN := hide hN
  have t1 : ((frD d : Int) != n) = false := by rw [hf]; simp
  have t1' : ((frD d : Int) == n) = true := by rw [hf]; simp
  clear h ho hl hv hf hN kg0 mg0
  generalize (toD d : Int) = TD at *
  generalize (frD d : Int) = FD at *
  go_enter Try.func7, Try.ntmps7
  go_wp2_with fail
  refine (unhide HLN).mono ?_
  rintro y w1 ⟨rfl, x1⟩
  dsimp only
  have kg := (unhide HS).1.below x1 (unhide HS).1.lt
  have mg := (unhide HS).2.below x1 (Nat.le_refl _)
  have c0 := kg.cell 0
  have c1 := kg.cell 1
  simp only [List.getElem?_toArray, List.getElem?_cons_zero, List.getElem?_cons_succ] at c0 c1
  obtain ⟨es, clock, hh, hz⟩ := mg.len
  have RL := run_len_map (P := Try.prog) (w := w1) 67 3 r es clock (by kernel_rfl) hh
  simp only [goInt] at RL
  have RM := run_makeMapM w1 es.size
  have b2 := (Below.refl w1.heap.size w1).alloc (Nat.le_refl _) (.map #[] 0)
  have kg2 := kg.below b2 kg.lt
  have c2 := kg2.cell 1
  simp only [List.getElem?_toArray, List.getElem?_cons_zero, List.getElem?_cons_succ] at c2
  obtain ⟨o, RR, it⟩ := ItM.start (P := Try.prog) (w1.alloc (.map #[] 0)) Try.underlying67 (mg.below b2 (Nat.le_refl _))
  have b3 := (Below.refl (w1.alloc (.map #[] 0)).heap.size (w1.alloc (.map #[] 0))).alloc (Nat.le_refl _) o
  have hj : MbJ X ((w1.alloc (.map #[] 0)).alloc o) (w1.alloc (.map #[] 0)).heap.size w1.heap.size r d L [] [] := ⟨it, (IsMp.new w1).below b3 (Nat.le_refl _), x1.trans ((b2.mono x1.size).trans (b3.mono (Nat.le_trans x1.size b2.size))), Nat.le_trans x1.size b2.size, x1.size⟩
  rw [World.size_alloc] at RR hj
  have HJ := hide hj
  clear HLN hh hz kg mg b2 kg2 it b3 hj x1 HS
  go_wp2_with fail
  generalize hri : w1.heap.size + 1 = ri at *
  generalize w1.heap.size = r2 at *
  go_loopw [10, 11] (fun v10 v11 wx => ((∃ z, v10 = z) ∧ (∃ z, v11 = z)) ∧ Hid (∃ S, MbJ X wx ri r2 r d L S S)) (fun _ _ wx => leftM wx r ri)
  case atStart => exact ⟨⟨⟨_, rfl⟩, ⟨_, rfl⟩⟩, hide ⟨[], unhide HJ⟩⟩
  case round =>
    clear HJ
    obtain ⟨⟨⟨z1, rfl⟩, ⟨z2, rfl⟩⟩, HI⟩ := hrel
    obtain ⟨S, hJ⟩ := unhide HI
    rcases hJ.next 0 with ⟨hp, hr⟩ | ⟨m, T, X', hp, hr, he, hJ', hlt⟩
    · have HJ := hide hJ
      have HP := hide hp
      have m5 := hJ.mp
      have hb5 := hJ.dd
      have k6 := Cls.new wr 69 #[.int .i64 TD, .map (some r2)]
      have m6 : IsMp (wr.alloc (.cells #[.int .i64 TD, .map (some r2)] 69)) r2 (S.map (mvM d)) := m5.same (heap_alloc_old _ _ m5.lt)
      have HR : Hid (IsMs (wr.alloc (.cells #[.int .i64 TD, .map (some r2)] 69)) wr.heap.size TD (S.map (mvM d))) := hide ⟨_, k6, m6⟩
      have HB6 := hide (hb5.alloc hb5.size (.cells #[.int .i64 TD, .map (some r2)] 69))
      clear HI hJ hp HJ m5 hb5 k6 m6
      go_wp2_with fail
      refine bodyPost_ret (results_tmp2 rfl _ _ _) rfl ?_
      exact ⟨_, S, rfl, unhide HP, unhide HR, unhide HB6⟩
    · obtain ⟨mn, mp, mg⟩ := m
      unfold mkV at hr he
      dsimp only at hr he
      have b1 := (Below.refl X'.heap.size X').alloc (Nat.le_refl _) (.cells #[.string mn, .int .i64 mp, .int .i64 mg] 42)
      have k1 := Cls.new X' 42 #[.string mn, .int .i64 mp, .int .i64 mg]
      have d1 := k1.cell 1
      have d2 := k1.cell 2
      simp only [List.getElem?_toArray, List.getElem?_cons_zero, List.getElem?_cons_succ] at d1 d2
      have HC := hide (unhide HMV _ (hJ'.dd.trans (b1.mono hJ'.dd.size)) mp mg)
      obtain ⟨V1, hV1⟩ : ∃ V1, V1 = plV d mp mg := ⟨_, rfl⟩
      rw [← hV1] at HC
      have HV := hide hV1
      have HJ' := hide hJ'
      have HP := hide (And.intro hp hlt)
      have HB1 := hide b1
      have HK1 := hide k1
      clear HI hJ hp hJ' hlt b1 k1 hV1
      go_wp2_with fail
      refine (unhide HC).mono ?_
      rintro y w2 ⟨rfl, x2⟩
      dsimp only
      have hB2 := (unhide HB1).trans (x2.mono (unhide HB1).size)
      have k2 := (unhide HK1).below x2 (unhide HK1).lt
      have g1 := k2.cell 1
      have z1 := k2.frozen 1
      have k9 := k2.set 1 (.int .i64 V1)
      have hB9 := hB2.setCell (p := ⟨X'.heap.size, 1, none⟩) (Nat.le_refl _) (.int .i64 V1)
      simp only [List.getElem?_toArray, List.getElem?_cons_zero, List.getElem?_cons_succ, List.setIfInBounds_toArray, List.set_cons_zero, List.set_cons_succ] at g1 k9
      have HJ9 := hide ((unhide HJ').on hB9)
      have HL9 := hide (leftM_same (hB9.block ri (unhide HJ').it.lt.1) (hB9.block r (unhide HJ').it.lt.2))
      have HK9 := hide k9
      clear HC HB1 HK1 x2 hB2 k2 k9 hB9 HJ' d1 d2 hr he
      go_upto_region 13 with fail
      clear g1 z1
      generalize w2.setCell ⟨X'.heap.size, 1, none⟩ (.int .i64 V1) = w9 at *
      have d0 := (unhide HK9).cell 0
      have d1 := (unhide HK9).cell 1
      have d2 := (unhide HK9).cell 2
      simp only [List.getElem?_toArray, List.getElem?_cons_zero, List.getElem?_cons_succ] at d0 d1 d2
      clear HK9
      obtain ⟨o, RU, hJ2, hl2⟩ := (unhide HJ9).put (unhide HP).1 (unhide HN) hrX
      unfold mkV mvM at RU
      dsimp only at RU
      rw [← unhide HV] at RU
      have HJ2 := hide hJ2
      have HM2 := hide (hl2.trans (unhide HL9))
      clear hJ2 hl2 HJ9 HL9 HV
      generalize ({ w9 with heap := w9.heap.setIfInBounds r2 o } : World) = wA at *
      go_wp2_with fail
      go_roundw
      case rel => exact ⟨⟨⟨_, rfl⟩, ⟨_, rfl⟩⟩, hide ⟨_, unhide HJ2⟩⟩
      case measure => rw [unhide HM2]; exact (unhide HP).2
end Go.Proofs.Ytfllomlighlejaa
end
