/- Layer 14: a valid delta's changes; Place. · Layer 16: moved. -/
import Derived.Test.YtifpjdodignflaaRv32
import Derived.Test.YtifpjdodignflaaRv13

section
namespace Go.Proofs.Ytifpjdodignflaa
open Go.ChangeShapes Go.WideShapes Go.ChangeAt Go.RowKit
attribute [local go_sem] Oper.semAt_some

theorem chn_of_ap : ∀ {d : List Dop} (m : Int), (∀ o ∈ d, o.k = 1 ∨ o.k = 2 ∨ o.k = 3) → apL m d = true → Chn d
  | [], _, _, _ => trivial
  | [_], _, _, _ => trivial
  | o :: q :: r, m, hk, h => by
    simp only [apL, Bool.and_eq_true] at h
    refine ⟨?_, chn_of_ap (nextN o.k) (fun z hz => hk z (by simp [hz])) (by simp only [apL, Bool.and_eq_true]; exact h.2)⟩
    have h2 := h.2.1
    have ho := hk o (by simp)
    have hq := hk q (by simp)
    unfold okN
    rcases ho with h1 | h1 | h1 <;> rcases hq with h3 | h3 | h3 <;> rw [h1, h3] at h2 ⊢ <;> revert h2 <;> decide
theorem val_Can {d : List Dop} (hv : valB d = true) : Can d := by
  refine ⟨val_pln hv, chn_of_ap 7 (valB_k hv) ?_⟩
  unfold valB at hv
  simp only [Bool.and_eq_true] at hv
  exact hv.2.1
theorem gap_okL : ∀ {cs : List Dop} {p q n : Int}, GapC p cs → lstC p cs ≤ n → q ≤ p + 1 → q ≤ n → okL q cs n
  | [], _, _, _, _, _, _, h => h
  | c :: r, p, q, n, h, hl, hq, _ => by
    have h1 := h.1
    have h2 := h.2.1
    have h3 := (gap_le h.2.2).1
    simp only [lstC] at hl
    exact ⟨by omega, h2, by omega, gap_okL h.2.2 hl (by omega) (by omega)⟩
theorem gap_take : ∀ {cs : List Dop} {p : Int} (k : Nat), GapC p cs → GapC p (cs.take k) ∧ lstC p (cs.take k) ≤ lstC p cs
  | [], _, k, _ => by simp [GapC]
  | c :: r, p, 0, h => by
    have := (gap_le h).1
    simp only [List.take_zero, lstC]
    exact ⟨trivial, this⟩
  | c :: r, p, k + 1, h => by
    obtain ⟨h1, h2⟩ := gap_take k h.2.2
    simp only [List.take_succ_cons, lstC]
    exact ⟨⟨h.1, h.2.1, h1⟩, h2⟩
theorem lst0 {cs : List Dop} (h : GapC (-1) cs) : 0 ≤ lstC 0 cs ∧ (lstC 0 cs ≤ lstC (-1) cs ∨ cs = []) := by
  cases cs with
  | nil => exact ⟨Int.le_refl _, .inr rfl⟩
  | cons c r =>
    have := gap_le h
    have h2 := this.2 c (by simp)
    have h3 := (gap_le h.2.2).1
    simp only [lstC] at h3 ⊢
    have h4 := h.1
    have h5 := h.2.1
    exact ⟨by omega, .inl (Int.le_refl _)⟩
theorem opC_appS : ∀ (x y : List Dop) (p : Int), opC p (x ++ y) = opC p x ++ opC (lstC p x) y
  | [], _, _ => rfl
  | c :: r, y, p => by simp only [List.cons_append, opC, opC_appS r y c.n, lstC]
theorem toD_appS (x y : List Dop) : toD (x ++ y) = toD x + toD y := by simp [toD]
theorem mvK_of {d : List Dop} (hv : valB d = true) : MvK (runL d).2 ∧ (runL d).1 = frD d := by
  have hs := chs_run (val_Can hv)
  have hnn := (valB_nn hv).2
  have hm := hs.f
  generalize (runL d).2 = cs at *
  generalize (runL d).1 = m at *
  have hg := hs.g
  have hl := hs.l
  have hT : toD (opC 0 cs) ≤ toD d := by
    have h1 := congrArg toA hs.a
    rw [to_app, (frA_dA (opC_k 0 cs)).2, (frA_dA (valB_k hv)).2] at h1
    omega
  have key : ∀ k, 0 ≤ lstC 0 (cs.take k) ∧ lstC 0 (cs.take k) ≤ 268435456 ∧ toD (opC 0 (cs.take k)) ≤ 268435456 ∧ (toD (opC 0 (cs.take k)) : Int) = lstC 0 (cs.take k) + dlC (cs.take k) := fun k => by
    obtain ⟨t1, t2⟩ := gap_take k hg
    have t3 := lst0 t1
    have hbig : lstC (-1) cs ≤ 268435456 := by
      by_cases hc : cs = []
      · rw [hc]; simp [lstC]
      · have := lstC_two 0 (-1) hc
        omega
    have t4 : lstC 0 (cs.take k) ≤ 268435456 := by
      by_cases hc : cs.take k = []
      · rw [hc]; simp [lstC]
      · have := lstC_two 0 (-1) hc
        omega
    have t7 : lstC (-1) (cs.take k) ≤ 268435456 := by omega
    have t5 := opC_sizes (cs.take k) 0 268435456 (gap_okL t1 t7 (by omega) (by omega))
    have t6 : toD (opC 0 cs) = toD (opC 0 (cs.take k)) + toD (opC (lstC 0 (cs.take k)) (cs.drop k)) := by rw [← toD_appS, ← opC_appS, List.take_append_drop]
    exact ⟨t3.1, t4, by omega, by omega⟩
  have hbl : (cs.length : Int) ≤ 268435457 := by
    have h1 := gap_len hg
    by_cases hc : cs = []
    · rw [hc]; simp
    · have := lstC_two 0 (-1) hc
      omega
  refine ⟨⟨fun k hk => ?_, fun k _ => ?_, by omega⟩, hm⟩
  · obtain ⟨b1, b2, b3⟩ := (gap_le hg).2 _ (getD_memD hk)
    have hne : cs ≠ [] := fun e => by rw [e] at hk; simp at hk
    have b4 := lstC_two 0 (-1) hne
    have k1 := key k
    have k2 := key (k + 1)
    have e1 := dlC_take cs k hk
    have o1 := okL_at cs 0 268435456 (gap_okL hg (by omega) (by omega) (by omega)) k hk
    have e2 : lstC 0 (cs.take (k + 1)) = (cs.getD k opZ).n := by
      rw [List.take_add_one, List.getElem?_eq_getElem hk, Option.toList_some, lstC_sn]
      simp [List.getD_eq_getElem?_getD, List.getElem?_eq_getElem hk]
    exact ⟨by omega, b2, by omega, by omega⟩
  · have := key k
    exact ⟨by omega, by omega⟩
/-- what Place answers -/
def plE (d : List Dop) (p g : Int) : Int := if valB d then (if (0 ≤ p ∧ p ≤ frD d) ∧ (g = 1 ∨ g = 2) then 0 else 2) else 130
def plV (d : List Dop) (p g : Int) : Int := if plE d p g = 0 then mvC p g 0 (runL d).2 else 0

set_option maxRecDepth 100000 in
set_option maxHeartbeats 4000000 in
theorem Place_at (a : Option Addr) (c : Nat) (d : List Dop) (p g : Int) (w : World) (h : IsO w a d) (hl : d.length ≤ 4611686018427387904) :
    Calls Try.prog 51 #[.slice a d.length c, .int .i64 p, .int .i64 g] w fun y w' => y = .returned (.tuple #[.int .i64 (plV d p g), .int .i64 (plE d p g)]) ∧ Below w.heap.size w w' := by
  have HL := hide (Lens_at a c d w h hl)
  have HC := hide fun (X : World) (hX : Below w.heap.size w X) => Changes_at a c d X (h.below hX (Nat.le_refl _)) hl
  obtain ⟨V, hV⟩ : ∃ V, V = plV d p g := ⟨_, rfl⟩
  obtain ⟨E, hE⟩ : ∃ E, E = plE d p g := ⟨_, rfl⟩
  rw [← hV, ← hE]
  unfold plV at hV
  rw [← hE] at hV
  unfold plE at hE
  unfold lensV at HL
  cases hv : valB d with
  | false =>
    rw [hv] at HL hE
    simp only [Bool.false_eq_true, if_false] at HL hE
    rw [hE] at hV
    simp only [show ¬ ((130 : Int) = 0) by decide, if_false] at hV
    subst hE hV
    clear h hl HC hv
    go_enter Try.func51, Try.ntmps51
    go_wp2_with fail
    refine (unhide HL).mono ?_
    rintro y w1 ⟨rfl, x1⟩
    dsimp only
    clear HL
    go_wp2_with fail
    refine bodyPost_ret (results_tmp2 rfl _ _ _) rfl ⟨rfl, x1⟩
  | true =>
    obtain ⟨hmk, _⟩ := mvK_of hv
    have hfb := (valB_nn hv).2.1
    rw [hv] at HL hE
    simp only [if_true] at HL hE
    have hch : chD d = ((runL d).2, 0) := by unfold chD; rw [hv]; rfl
    rw [hch] at HC
    dsimp only at HC
    have HMV := hide fun (X : World) (a9 : Option Addr) (c9 : Nat) (h9 : IsO X a9 (runL d).2) (hp : 0 ≤ p ∧ p ≤ 268435456) => moved_at a9 c9 (runL d).2 p g X h9 hmk hp
    clear h hl hch hmk hv
    generalize (runL d).2 = cs at *
    generalize frD d = fr at *
    generalize toD d = td at *
    by_cases h1 : p < 0
    · rw [if_neg (by omega)] at hE
      rw [hE, if_neg (by decide)] at hV
      subst hE hV
      have t1 : decide (p < 0) = true := decide_eq_true h1
      clear HC HMV h1 hfb
      go_enter Try.func51, Try.ntmps51
      go_wp2_with fail
      refine (unhide HL).mono ?_
      rintro y w1 ⟨rfl, x1⟩
      dsimp only
      clear HL
      go_wp2_with fail
      refine bodyPost_ret (results_tmp2 rfl _ _ _) rfl ⟨rfl, x1⟩
    have t1 : decide (p < 0) = false := decide_eq_false h1
    by_cases h2 : p > (fr : Int)
    · rw [if_neg (by omega)] at hE
      rw [hE, if_neg (by decide)] at hV
      subst hE hV
      have t2 : decide (p > (fr : Int)) = true := decide_eq_true h2
      have t2' : decide ((fr : Int) < p) = true := decide_eq_true h2
      clear HC HMV h1 h2 hfb
      go_enter Try.func51, Try.ntmps51
      go_wp2_with fail
      refine (unhide HL).mono ?_
      rintro y w1 ⟨rfl, x1⟩
      dsimp only
      clear HL
      go_wp2_with fail
      refine bodyPost_ret (results_tmp2 rfl _ _ _) rfl ⟨rfl, x1⟩
    have t2 : decide (p > (fr : Int)) = false := decide_eq_false h2
    have t2' : decide ((fr : Int) < p) = false := decide_eq_false h2
    by_cases h3 : g = 1 ∨ g = 2
    · rw [if_pos (by omega)] at hE
      rw [hE, if_pos rfl] at hV
      have HP : Hid (0 ≤ p ∧ p ≤ 268435456) := hide (by omega)
      have HV := hide hV
      subst hE
      clear h1 h2 hfb hV
      rcases h3 with h3 | h3
      · subst h3
        go_enter Try.func51, Try.ntmps51
        go_wp2_with fail
        refine (unhide HL).mono ?_
        rintro y w1 ⟨rfl, x1⟩
        dsimp only
        have HX1 := hide x1
        have HC1 := hide (unhide HC w1 x1)
        clear HL HC x1
        go_wp2_with fail
        refine (unhide HC1).mono ?_
        rintro y w2 ⟨v, rfl, o2, x2⟩
        dsimp only
        obtain ⟨a9, c9, rfl, i9, _⟩ := own_isOC o2
        have HX2 := hide ((unhide HX1).trans (x2.mono (unhide HX1).size))
        have HM := hide (unhide HMV w2 a9 c9 i9 (unhide HP))
        rw [← unhide HV] at HM
        clear HC1 HX1 o2 x2 i9 HMV t1 t2 t2'
        go_wp2_with fail
        refine (unhide HM).mono ?_
        rintro y w3 ⟨rfl, x3⟩
        dsimp only
        have HX3 := hide ((unhide HX2).trans (x3.mono (unhide HX2).size))
        clear HM HX2 x3
        go_wp2_with fail
        refine bodyPost_ret (results_tmp2 rfl _ _ _) rfl ⟨rfl, unhide HX3⟩
      · subst h3
        go_enter Try.func51, Try.ntmps51
        go_wp2_with fail
        refine (unhide HL).mono ?_
        rintro y w1 ⟨rfl, x1⟩
        dsimp only
        have HX1 := hide x1
        have HC1 := hide (unhide HC w1 x1)
        clear HL HC x1
        go_wp2_with fail
        refine (unhide HC1).mono ?_
        rintro y w2 ⟨v, rfl, o2, x2⟩
        dsimp only
        obtain ⟨a9, c9, rfl, i9, _⟩ := own_isOC o2
        have HX2 := hide ((unhide HX1).trans (x2.mono (unhide HX1).size))
        have HM := hide (unhide HMV w2 a9 c9 i9 (unhide HP))
        rw [← unhide HV] at HM
        clear HC1 HX1 o2 x2 i9 HMV t1 t2 t2'
        go_wp2_with fail
        refine (unhide HM).mono ?_
        rintro y w3 ⟨rfl, x3⟩
        dsimp only
        have HX3 := hide ((unhide HX2).trans (x3.mono (unhide HX2).size))
        clear HM HX2 x3
        go_wp2_with fail
        refine bodyPost_ret (results_tmp2 rfl _ _ _) rfl ⟨rfl, unhide HX3⟩
    · rw [if_neg (by omega)] at hE
      rw [hE, if_neg (by decide)] at hV
      subst hE hV
      have t3 : (g != 1) = true := by simp; omega
      have t3' : (g == 1) = false := by simp; omega
      have t4 : (g != 2) = true := by simp; omega
      have t4' : (g == 2) = false := by simp; omega
      clear HC HMV h1 h2 hfb h3
      go_enter Try.func51, Try.ntmps51
      go_wp2_with fail
      refine (unhide HL).mono ?_
      rintro y w1 ⟨rfl, x1⟩
      dsimp only
      clear HL
      go_wp2_with fail
      refine bodyPost_ret (results_tmp2 rfl _ _ _) rfl ⟨rfl, x1⟩

end Go.Proofs.Ytifpjdodignflaa
end

section
namespace Go.Proofs.Ytifpjdodignflaa
open Go.ChangeShapes Go.WideShapes Go.ChangeAt Go.RowKit
attribute [local go_sem] Oper.semAt_some

def mvG (d : List Dop) (m : Rg) : Rg := ⟨m.n, plV d m.lo m.st, plV d m.hi m.en, m.st, m.en⟩
set_option maxRecDepth 100000 in
set_option maxHeartbeats 2000000 in
theorem GMov_at (a : Option Addr) (c : Nat) (d : List Dop) (m : Rg) (X : World) (h : IsO X a d) (hl : d.length ≤ 4611686018427387904) :
    Calls Try.prog 36 #[rgV m, .slice a d.length c] X fun y X' => y = .returned (rgV (mvG d m)) ∧ Below X.heap.size X X' := by
  obtain ⟨xn, xl, xh, xs, xe⟩ := m
  unfold mvG rgV
  dsimp only
  have b1 := (Below.refl X.heap.size X).alloc (Nat.le_refl _) (.cells #[.string xn, .int .i64 xl, .int .i64 xh, .int .i64 xs, .int .i64 xe] 37)
  have b2 := b1.alloc b1.size (.cells #[.string ⟨#[]⟩, .int .i64 0, .int .i64 0, .int .i64 0, .int .i64 0] 37)
  have k1 := (Cls.new X 37 #[.string xn, .int .i64 xl, .int .i64 xh, .int .i64 xs, .int .i64 xe]).alloc (.cells #[.string ⟨#[]⟩, .int .i64 0, .int .i64 0, .int .i64 0, .int .i64 0] 37)
  have k2 := Cls.new (X.alloc (.cells #[.string xn, .int .i64 xl, .int .i64 xh, .int .i64 xs, .int .i64 xe] 37)) 37 #[.string ⟨#[]⟩, .int .i64 0, .int .i64 0, .int .i64 0, .int .i64 0]
  rw [World.size_alloc] at k2
  have HP1 := hide fun (Y : World) (hY : Below X.heap.size X Y) => Place_at a c d xl xs Y (h.below hY (Nat.le_refl _)) hl
  have HP2 := hide fun (Y : World) (hY : Below X.heap.size X Y) => Place_at a c d xh xe Y (h.below hY (Nat.le_refl _)) hl
  generalize plV d xl xs = V1 at *
  generalize plV d xh xe = V2 at *
  generalize plE d xl xs = E1 at *
  generalize plE d xh xe = E2 at *
  have HB := hide b2
  have HK := hide (And.intro k1 k2)
  have d1 := k1.cell 1
  have d3 := k1.cell 3
  simp only [List.getElem?_toArray, List.getElem?_cons_zero, List.getElem?_cons_succ] at d1 d3
  have HC1 := hide (unhide HP1 _ b2)
  clear h hl b1 b2 k1 k2 HP1
  go_enter Try.func36, Try.ntmps36
  go_wp2_with fail
  refine (unhide HC1).mono ?_
  rintro y w1 ⟨rfl, x1⟩
  dsimp only
  have hb1 := (unhide HB).trans (x1.mono (unhide HB).size)
  have k1 := (unhide HK).1.below x1 (unhide HK).1.lt
  have k2 := (unhide HK).2.below x1 (unhide HK).2.lt
  have e1 := k1.cell 1
  have f1 := k1.frozen 1
  simp only [List.getElem?_toArray, List.getElem?_cons_zero, List.getElem?_cons_succ] at e1
  have k3 := k1.set 1 (.int .i64 V1)
  simp only [List.setIfInBounds_toArray, List.set_cons_zero, List.set_cons_succ] at k3
  have k4 := k2.other ⟨X.heap.size, 1, none⟩ (.int .i64 V1) (by simp)
  have HB3 := hide (hb1.setCell (p := ⟨X.heap.size, 1, none⟩) (Nat.le_refl _) (.int .i64 V1))
  have HK3 := hide (And.intro k3 k4)
  clear HC1 HB HK d1 d3 x1 hb1 k1 k2 k3 k4
  go_upto_region 2 with fail
  clear e1 f1
  generalize w1.setCell ⟨X.heap.size, 1, none⟩ (.int .i64 V1) = w2 at *
  have d2 := (unhide HK3).1.cell 2
  have d4 := (unhide HK3).1.cell 4
  simp only [List.getElem?_toArray, List.getElem?_cons_zero, List.getElem?_cons_succ] at d2 d4
  have HC2 := hide (unhide HP2 w2 (unhide HB3))
  clear HP2
  go_wp2_with fail
  refine (unhide HC2).mono ?_
  rintro y w3 ⟨rfl, x3⟩
  dsimp only
  have hb3 := (unhide HB3).trans (x3.mono (unhide HB3).size)
  have k1 := (unhide HK3).1.below x3 (unhide HK3).1.lt
  have k2 := (unhide HK3).2.below x3 (unhide HK3).2.lt
  have e2 := k1.cell 2
  have f2 := k1.frozen 2
  simp only [List.getElem?_toArray, List.getElem?_cons_zero, List.getElem?_cons_succ] at e2
  have k3 := k1.set 2 (.int .i64 V2)
  simp only [List.setIfInBounds_toArray, List.set_cons_zero, List.set_cons_succ] at k3
  have k4 := k2.other ⟨X.heap.size, 2, none⟩ (.int .i64 V2) (by simp)
  have HB4 := hide (hb3.setCell (p := ⟨X.heap.size, 2, none⟩) (Nat.le_refl _) (.int .i64 V2))
  have HK4 := hide (And.intro k3 k4)
  clear HC2 HB3 HK3 d2 d4 x3 hb3 k1 k2 k3 k4
  go_upto_region 3 with fail
  clear e2 f2
  generalize w3.setCell ⟨X.heap.size, 2, none⟩ (.int .i64 V2) = w4 at *
  obtain ⟨k1, k2⟩ := unhide HK4
  have c0 := k1.cell 0
  have c1 := k1.cell 1
  have c2 := k1.cell 2
  have c3 := k1.cell 3
  have c4 := k1.cell 4
  have g0 := k2.cell 0
  have g1 := k2.cell 1
  have g2 := k2.cell 2
  have g3 := k2.cell 3
  have g4 := k2.cell 4
  have z0 := k2.frozen 0
  have z1 := k2.frozen 1
  have z2 := k2.frozen 2
  have z3 := k2.frozen 3
  have z4 := k2.frozen 4
  have k9 := ((((k2.set 0 (.string xn)).set 1 (.int .i64 V1)).set 2 (.int .i64 V2)).set 3 (.int .i64 xs)).set 4 (.int .i64 xe)
  have r0 := k9.cell 0
  have r1 := k9.cell 1
  have r2 := k9.cell 2
  have r3 := k9.cell 3
  have r4 := k9.cell 4
  simp only [List.getElem?_toArray, List.getElem?_cons_zero, List.getElem?_cons_succ, List.setIfInBounds_toArray, List.set_cons_zero, List.set_cons_succ] at c0 c1 c2 c3 c4 g0 g1 g2 g3 g4 r0 r1 r2 r3 r4
  have hs : X.heap.size ≤ X.heap.size + 1 := by omega
  have HB9 := hide ((((((unhide HB4).setCell (p := ⟨X.heap.size + 1, 0, none⟩) hs (.string xn)).setCell (p := ⟨X.heap.size + 1, 1, none⟩) hs (.int .i64 V1)).setCell (p := ⟨X.heap.size + 1, 2, none⟩) hs (.int .i64 V2)).setCell (p := ⟨X.heap.size + 1, 3, none⟩) hs (.int .i64 xs)).setCell (p := ⟨X.heap.size + 1, 4, none⟩) hs (.int .i64 xe))
  clear k1 k2 k9 HK4 HB4 hs
  go_wp2_with fail
  refine bodyPost_ret (v := .agg #[.string xn, .int .i64 V1, .int .i64 V2, .int .i64 xs, .int .i64 xe]) (by simp [results, Try.results36, go_sem, r0, r1, r2, r3, r4]) rfl ⟨rfl, unhide HB9⟩
end Go.Proofs.Ytifpjdodignflaa
end
