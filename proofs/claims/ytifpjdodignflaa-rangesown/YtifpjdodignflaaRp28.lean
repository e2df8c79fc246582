/- Layer 14: a valid delta's changes; Place. · Layer 16: moved. · Layer 16: ranging over a map of ranges: which entries came, and which are left. · Layer 16: Behind's loop in memory. -/
import Derived.Test.YtifpjdodignflaaRp27
import Derived.Test.YtifpjdodignflaaRp13
import Derived.Test.YtifpjdodignflaaRp00
import Derived.Maps.RangeRun

section
namespace Go.Proofs.Ytifpjdodignflaa
open Go.ChangeShapes Go.WideShapes Go.ChangeAt Go.RowKit
attribute [local go_sem] Oper.semAt_some

theorem chn_of_ap : ∀ {d : List Dop} (m : Int), (∀ o ∈ d, o.k = 1 ∨ o.k = 2 ∨ o.k = 3) → apL m d = true → Chn d
  | [], _, _, _ => trivial
  | [_], _, _, _ => trivial
  | o :: q :: r, m, hk, h => by
    simp only [apL, Bool.and_eq_true] at h
    refine ⟨?_, chn_of_ap (nextN o.k) (fun z hz => hk z (by simp [hz])) (by simp only [apL, Bool.and_eq_true]; exact h.2)⟩
    have h2 := h.2.1
    have ho := hk o (by simp)
    have hq := hk q (by simp)
    unfold okN
    rcases ho with h1 | h1 | h1 <;> rcases hq with h3 | h3 | h3 <;> rw [h1, h3] at h2 ⊢ <;> revert h2 <;> decide
theorem val_Can {d : List Dop} (hv : valB d = true) : Can d := by
  refine ⟨val_pln hv, chn_of_ap 7 (valB_k hv) ?_⟩
  unfold valB at hv
  simp only [Bool.and_eq_true] at hv
  exact hv.2.1
theorem gap_okL : ∀ {cs : List Dop} {p q n : Int}, GapC p cs → lstC p cs ≤ n → q ≤ p + 1 → q ≤ n → okL q cs n
  | [], _, _, _, _, _, _, h => h
  | c :: r, p, q, n, h, hl, hq, _ => by
    have h1 := h.1
    have h2 := h.2.1
    have h3 := (gap_le h.2.2).1
    simp only [lstC] at hl
    exact ⟨by omega, h2, by omega, gap_okL h.2.2 hl (by omega) (by omega)⟩
theorem gap_take : ∀ {cs : List Dop} {p : Int} (k : Nat), GapC p cs → GapC p (cs.take k) ∧ lstC p (cs.take k) ≤ lstC p cs
  | [], _, k, _ => by simp [GapC]
  | c :: r, p, 0, h => by
    have := (gap_le h).1
    simp only [List.take_zero, lstC]
    exact ⟨trivial, this⟩
  | c :: r, p, k + 1, h => by
    obtain ⟨h1, h2⟩ := gap_take k h.2.2
    simp only [List.take_succ_cons, lstC]
    exact ⟨⟨h.1, h.2.1, h1⟩, h2⟩
theorem lst0 {cs : List Dop} (h : GapC (-1) cs) : 0 ≤ lstC 0 cs ∧ (lstC 0 cs ≤ lstC (-1) cs ∨ cs = []) := by
  cases cs with
  | nil => exact ⟨Int.le_refl _, .inr rfl⟩
  | cons c r =>
    have := gap_le h
    have h2 := this.2 c (by simp)
    have h3 := (gap_le h.2.2).1
    simp only [lstC] at h3 ⊢
    have h4 := h.1
    have h5 := h.2.1
    exact ⟨by omega, .inl (Int.le_refl _)⟩
theorem opC_appS : ∀ (x y : List Dop) (p : Int), opC p (x ++ y) = opC p x ++ opC (lstC p x) y
  | [], _, _ => rfl
  | c :: r, y, p => by simp only [List.cons_append, opC, opC_appS r y c.n, lstC]
theorem toD_appS (x y : List Dop) : toD (x ++ y) = toD x + toD y := by simp [toD]
theorem mvK_of {d : List Dop} (hv : valB d = true) : MvK (runL d).2 ∧ (runL d).1 = frD d := by
  have hs := chs_run (val_Can hv)
  have hnn := (valB_nn hv).2
  have hm := hs.f
  generalize (runL d).2 = cs at *
  generalize (runL d).1 = m at *
  have hg := hs.g
  have hl := hs.l
  have hT : toD (opC 0 cs) ≤ toD d := by
    have h1 := congrArg toA hs.a
    rw [to_app, (frA_dA (opC_k 0 cs)).2, (frA_dA (valB_k hv)).2] at h1
    omega
  have key : ∀ k, 0 ≤ lstC 0 (cs.take k) ∧ lstC 0 (cs.take k) ≤ 268435456 ∧ toD (opC 0 (cs.take k)) ≤ 268435456 ∧ (toD (opC 0 (cs.take k)) : Int) = lstC 0 (cs.take k) + dlC (cs.take k) := fun k => by
    obtain ⟨t1, t2⟩ := gap_take k hg
    have t3 := lst0 t1
    have hbig : lstC (-1) cs ≤ 268435456 := by
      by_cases hc : cs = []
      · rw [hc]; simp [lstC]
      · have := lstC_two 0 (-1) hc
        omega
    have t4 : lstC 0 (cs.take k) ≤ 268435456 := by
      by_cases hc : cs.take k = []
      · rw [hc]; simp [lstC]
      · have := lstC_two 0 (-1) hc
        omega
    have t7 : lstC (-1) (cs.take k) ≤ 268435456 := by omega
    have t5 := opC_sizes (cs.take k) 0 268435456 (gap_okL t1 t7 (by omega) (by omega))
    have t6 : toD (opC 0 cs) = toD (opC 0 (cs.take k)) + toD (opC (lstC 0 (cs.take k)) (cs.drop k)) := by rw [← toD_appS, ← opC_appS, List.take_append_drop]
    exact ⟨t3.1, t4, by omega, by omega⟩
  have hbl : (cs.length : Int) ≤ 268435457 := by
    have h1 := gap_len hg
    by_cases hc : cs = []
    · rw [hc]; simp
    · have := lstC_two 0 (-1) hc
      omega
  refine ⟨⟨fun k hk => ?_, fun k _ => ?_, by omega⟩, hm⟩
  · obtain ⟨b1, b2, b3⟩ := (gap_le hg).2 _ (getD_memD hk)
    have hne : cs ≠ [] := fun e => by rw [e] at hk; simp at hk
    have b4 := lstC_two 0 (-1) hne
    have k1 := key k
    have k2 := key (k + 1)
    have e1 := dlC_take cs k hk
    have o1 := okL_at cs 0 268435456 (gap_okL hg (by omega) (by omega) (by omega)) k hk
    have e2 : lstC 0 (cs.take (k + 1)) = (cs.getD k opZ).n := by
      rw [List.take_add_one, List.getElem?_eq_getElem hk, Option.toList_some, lstC_sn]
      simp [List.getD_eq_getElem?_getD, List.getElem?_eq_getElem hk]
    exact ⟨by omega, b2, by omega, by omega⟩
  · have := key k
    exact ⟨by omega, by omega⟩
/-- what Place answers -/
def plE (d : List Dop) (p g : Int) : Int := if valB d then (if (0 ≤ p ∧ p ≤ frD d) ∧ (g = 1 ∨ g = 2) then 0 else 2) else 130
def plV (d : List Dop) (p g : Int) : Int := if plE d p g = 0 then mvC p g 0 (runL d).2 else 0

set_option maxRecDepth 100000 in
set_option maxHeartbeats 4000000 in
theorem Place_at (a : Option Addr) (c : Nat) (d : List Dop) (p g : Int) (w : World) (h : IsO w a d) (hl : d.length ≤ 4611686018427387904) :
    Calls Try.prog 51 #[.slice a d.length c, .int .i64 p, .int .i64 g] w fun y w' => y = .returned (.tuple #[.int .i64 (plV d p g), .int .i64 (plE d p g)]) ∧ Below w.heap.size w w' := by
  have HL := hide (Lens_at a c d w h hl)
  have HC := hide fun (X : World) (hX : Below w.heap.size w X) => Changes_at a c d X (h.below hX (Nat.le_refl _)) hl
  obtain ⟨V, hV⟩ : ∃ V, V = plV d p g := ⟨_, rfl⟩
  obtain ⟨E, hE⟩ : ∃ E, E = plE d p g := ⟨_, rfl⟩
  rw [← hV, ← hE]
  unfold plV at hV
  rw [← hE] at hV
  unfold plE at hE
  unfold lensV at HL
  cases hv : valB d with
  | false =>
    rw [hv] at HL hE
    simp only [Bool.false_eq_true, if_false] at HL hE
    rw [hE] at hV
    simp only [show ¬ ((130 : Int) = 0) by decide, if_false] at hV
    subst hE hV
    clear h hl HC hv
    go_enter Try.func51, Try.ntmps51
    go_wp2_with fail
    refine (unhide HL).mono ?_
    rintro y w1 ⟨rfl, x1⟩
    dsimp only
    clear HL
    go_wp2_with fail
    refine bodyPost_ret (results_tmp2 rfl _ _ _) rfl ⟨rfl, x1⟩
  | true =>
    obtain ⟨hmk, _⟩ := mvK_of hv
    have hfb := (valB_nn hv).2.1
    rw [hv] at HL hE
    simp only [if_true] at HL hE
    have hch : chD d = ((runL d).2, 0) := by unfold chD; rw [hv]; rfl
    rw [hch] at HC
    dsimp only at HC
    have HMV := hide fun (X : World) (a9 : Option Addr) (c9 : Nat) (h9 : IsO X a9 (runL d).2) (hp : 0 ≤ p ∧ p ≤ 268435456) => moved_at a9 c9 (runL d).2 p g X h9 hmk hp
    clear h hl hch hmk hv
    generalize (runL d).2 = cs at *
    generalize frD d = fr at *
    generalize toD d = td at *
    by_cases h1 : p < 0
    · rw [if_neg (by omega)] at hE
      rw [hE, if_neg (by decide)] at hV
      subst hE hV
      have t1 : decide (p < 0) = true := decide_eq_true h1
      clear HC HMV h1 hfb
      go_enter Try.func51, Try.ntmps51
      go_wp2_with fail
      refine (unhide HL).mono ?_
      rintro y w1 ⟨rfl, x1⟩
      dsimp only
      clear HL
      go_wp2_with fail
      refine bodyPost_ret (results_tmp2 rfl _ _ _) rfl ⟨rfl, x1⟩
    have t1 : decide (p < 0) = false := decide_eq_false h1
    by_cases h2 : p > (fr : Int)
    · rw [if_neg (by omega)] at hE
      rw [hE, if_neg (by decide)] at hV
      subst hE hV
      have t2 : decide (p > (fr : Int)) = true := decide_eq_true h2
      have t2' : decide ((fr : Int) < p) = true := decide_eq_true h2
      clear HC HMV h1 h2 hfb
      go_enter Try.func51, Try.ntmps51
      go_wp2_with fail
      refine (unhide HL).mono ?_
      rintro y w1 ⟨rfl, x1⟩
      dsimp only
      clear HL
      go_wp2_with fail
      refine bodyPost_ret (results_tmp2 rfl _ _ _) rfl ⟨rfl, x1⟩
    have t2 : decide (p > (fr : Int)) = false := decide_eq_false h2
    have t2' : decide ((fr : Int) < p) = false := decide_eq_false h2
    by_cases h3 : g = 1 ∨ g = 2
    · rw [if_pos (by omega)] at hE
      rw [hE, if_pos rfl] at hV
      have HP : Hid (0 ≤ p ∧ p ≤ 268435456) := hide (by omega)
      have HV := hide hV
      subst hE
      clear h1 h2 hfb hV
      rcases h3 with h3 | h3
      · subst h3
        go_enter Try.func51, Try.ntmps51
        go_wp2_with fail
        refine (unhide HL).mono ?_
        rintro y w1 ⟨rfl, x1⟩
        dsimp only
        have HX1 := hide x1
        have HC1 := hide (unhide HC w1 x1)
        clear HL HC x1
        go_wp2_with fail
        refine (unhide HC1).mono ?_
        rintro y w2 ⟨v, rfl, o2, x2⟩
        dsimp only
        obtain ⟨a9, c9, rfl, i9, _⟩ := own_isOC o2
        have HX2 := hide ((unhide HX1).trans (x2.mono (unhide HX1).size))
        have HM := hide (unhide HMV w2 a9 c9 i9 (unhide HP))
        rw [← unhide HV] at HM
        clear HC1 HX1 o2 x2 i9 HMV t1 t2 t2'
        go_wp2_with fail
        refine (unhide HM).mono ?_
        rintro y w3 ⟨rfl, x3⟩
        dsimp only
        have HX3 := hide ((unhide HX2).trans (x3.mono (unhide HX2).size))
        clear HM HX2 x3
        go_wp2_with fail
        refine bodyPost_ret (results_tmp2 rfl _ _ _) rfl ⟨rfl, unhide HX3⟩
      · subst h3
        go_enter Try.func51, Try.ntmps51
        go_wp2_with fail
        refine (unhide HL).mono ?_
        rintro y w1 ⟨rfl, x1⟩
        dsimp only
        have HX1 := hide x1
        have HC1 := hide (unhide HC w1 x1)
        clear HL HC x1
        go_wp2_with fail
        refine (unhide HC1).mono ?_
        rintro y w2 ⟨v, rfl, o2, x2⟩
        dsimp only
        obtain ⟨a9, c9, rfl, i9, _⟩ := own_isOC o2
        have HX2 := hide ((unhide HX1).trans (x2.mono (unhide HX1).size))
        have HM := hide (unhide HMV w2 a9 c9 i9 (unhide HP))
        rw [← unhide HV] at HM
        clear HC1 HX1 o2 x2 i9 HMV t1 t2 t2'
        go_wp2_with fail
        refine (unhide HM).mono ?_
        rintro y w3 ⟨rfl, x3⟩
        dsimp only
        have HX3 := hide ((unhide HX2).trans (x3.mono (unhide HX2).size))
        clear HM HX2 x3
        go_wp2_with fail
        refine bodyPost_ret (results_tmp2 rfl _ _ _) rfl ⟨rfl, unhide HX3⟩
    · rw [if_neg (by omega)] at hE
      rw [hE, if_neg (by decide)] at hV
      subst hE hV
      have t3 : (g != 1) = true := by simp; omega
      have t3' : (g == 1) = false := by simp; omega
      have t4 : (g != 2) = true := by simp; omega
      have t4' : (g == 2) = false := by simp; omega
      clear HC HMV h1 h2 hfb h3
      go_enter Try.func51, Try.ntmps51
      go_wp2_with fail
      refine (unhide HL).mono ?_
      rintro y w1 ⟨rfl, x1⟩
      dsimp only
      clear HL
      go_wp2_with fail
      refine bodyPost_ret (results_tmp2 rfl _ _ _) rfl ⟨rfl, x1⟩

end Go.Proofs.Ytifpjdodignflaa
end

section
namespace Go.Proofs.Ytifpjdodignflaa
open Go.ChangeShapes Go.WideShapes Go.ChangeAt Go.RowKit
attribute [local go_sem] Oper.semAt_some

def mvG (d : List Dop) (m : Rg) : Rg := ⟨m.n, plV d m.lo m.st, plV d m.hi m.en, m.st, m.en⟩
set_option maxRecDepth 100000 in
set_option maxHeartbeats 2000000 in
theorem GMov_at (a : Option Addr) (c : Nat) (d : List Dop) (m : Rg) (X : World) (h : IsO X a d) (hl : d.length ≤ 4611686018427387904) :
    Calls Try.prog 36 #[rgV m, .slice a d.length c] X fun y X' => y = .returned (rgV (mvG d m)) ∧ Below X.heap.size X X' := by
  obtain ⟨xn, xl, xh, xs, xe⟩ := m
  unfold mvG rgV
  dsimp only
  have b1 := (Below.refl X.heap.size X).alloc (Nat.le_refl _) (.cells #[.string xn, .int .i64 xl, .int .i64 xh, .int .i64 xs, .int .i64 xe] 37)
  have b2 := b1.alloc b1.size (.cells #[.string ⟨#[]⟩, .int .i64 0, .int .i64 0, .int .i64 0, .int .i64 0] 37)
  have k1 := (Cls.new X 37 #[.string xn, .int .i64 xl, .int .i64 xh, .int .i64 xs, .int .i64 xe]).alloc (.cells #[.string ⟨#[]⟩, .int .i64 0, .int .i64 0, .int .i64 0, .int .i64 0] 37)
  have k2 := Cls.new (X.alloc (.cells #[.string xn, .int .i64 xl, .int .i64 xh, .int .i64 xs, .int .i64 xe] 37)) 37 #[.string ⟨#[]⟩, .int .i64 0, .int .i64 0, .int .i64 0, .int .i64 0]
  rw [World.size_alloc] at k2
  have HP1 := hide fun (Y : World) (hY : Below X.heap.size X Y) => Place_at a c d xl xs Y (h.below hY (Nat.le_refl _)) hl
  have HP2 := hide fun (Y : World) (hY : Below X.heap.size X Y) => Place_at a c d xh xe Y (h.below hY (Nat.le_refl _)) hl
  generalize plV d xl xs = V1 at *
  generalize plV d xh xe = V2 at *
  generalize plE d xl xs = E1 at *
  generalize plE d xh xe = E2 at *
  have HB := hide b2
  have HK := hide (And.intro k1 k2)
  have d1 := k1.cell 1
  have d3 := k1.cell 3
  simp only [List.getElem?_toArray, List.getElem?_cons_zero, List.getElem?_cons_succ] at d1 d3
  have HC1 := hide (unhide HP1 _ b2)
  clear h hl b1 b2 k1 k2 HP1
  go_enter Try.func36, Try.ntmps36
  go_wp2_with fail
  refine (unhide HC1).mono ?_
  rintro y w1 ⟨rfl, x1⟩
  dsimp only
  have hb1 := (unhide HB).trans (x1.mono (unhide HB).size)
  have k1 := (unhide HK).1.below x1 (unhide HK).1.lt
  have k2 := (unhide HK).2.below x1 (unhide HK).2.lt
  have e1 := k1.cell 1
  have f1 := k1.frozen 1
  simp only [List.getElem?_toArray, List.getElem?_cons_zero, List.getElem?_cons_succ] at e1
  have k3 := k1.set 1 (.int .i64 V1)
  simp only [List.setIfInBounds_toArray, List.set_cons_zero, List.set_cons_succ] at k3
  have k4 := k2.other ⟨X.heap.size, 1, none⟩ (.int .i64 V1) (by simp)
  have HB3 := hide (hb1.setCell (p := ⟨X.heap.size, 1, none⟩) (Nat.le_refl _) (.int .i64 V1))
  have HK3 := hide (And.intro k3 k4)
  clear HC1 HB HK d1 d3 x1 hb1 k1 k2 k3 k4
  go_upto_region 2 with fail
  clear e1 f1
  generalize w1.setCell ⟨X.heap.size, 1, none⟩ (.int .i64 V1) = w2 at *
  have d2 := (unhide HK3).1.cell 2
  have d4 := (unhide HK3).1.cell 4
  simp only [List.getElem?_toArray, List.getElem?_cons_zero, List.getElem?_cons_succ] at d2 d4
  have HC2 := hide (unhide HP2 w2 (unhide HB3))
  clear HP2
  go_wp2_with fail
  refine (unhide HC2).mono ?_
  rintro y w3 ⟨rfl, x3⟩
  dsimp only
  have hb3 := (unhide HB3).trans (x3.mono (unhide HB3).size)
  have k1 := (unhide HK3).1.below x3 (unhide HK3).1.lt
  have k2 := (unhide HK3).2.below x3 (unhide HK3).2.lt
  have e2 := k1.cell 2
  have f2 := k1.frozen 2
  simp only [List.getElem?_toArray, List.getElem?_cons_zero, List.getElem?_cons_succ] at e2
  have k3 := k1.set 2 (.int .i64 V2)
  simp only [List.setIfInBounds_toArray, List.set_cons_zero, List.set_cons_succ] at k3
  have k4 := k2.other ⟨X.heap.size, 2, none⟩ (.int .i64 V2) (by simp)
  have HB4 := hide (hb3.setCell (p := ⟨X.heap.size, 2, none⟩) (Nat.le_refl _) (.int .i64 V2))
  have HK4 := hide (And.intro k3 k4)
  clear HC2 HB3 HK3 d2 d4 x3 hb3 k1 k2 k3 k4
  go_upto_region 3 with fail
  clear e2 f2
  generalize w3.setCell ⟨X.heap.size, 2, none⟩ (.int .i64 V2) = w4 at *
  obtain ⟨k1, k2⟩ := unhide HK4
  have c0 := k1.cell 0
  have c1 := k1.cell 1
  have c2 := k1.cell 2
  have c3 := k1.cell 3
  have c4 := k1.cell 4
  have g0 := k2.cell 0
  have g1 := k2.cell 1
  have g2 := k2.cell 2
  have g3 := k2.cell 3
  have g4 := k2.cell 4
  have z0 := k2.frozen 0
  have z1 := k2.frozen 1
  have z2 := k2.frozen 2
  have z3 := k2.frozen 3
  have z4 := k2.frozen 4
  have k9 := ((((k2.set 0 (.string xn)).set 1 (.int .i64 V1)).set 2 (.int .i64 V2)).set 3 (.int .i64 xs)).set 4 (.int .i64 xe)
  have r0 := k9.cell 0
  have r1 := k9.cell 1
  have r2 := k9.cell 2
  have r3 := k9.cell 3
  have r4 := k9.cell 4
  simp only [List.getElem?_toArray, List.getElem?_cons_zero, List.getElem?_cons_succ, List.setIfInBounds_toArray, List.set_cons_zero, List.set_cons_succ] at c0 c1 c2 c3 c4 g0 g1 g2 g3 g4 r0 r1 r2 r3 r4
  have hs : X.heap.size ≤ X.heap.size + 1 := by omega
  have HB9 := hide ((((((unhide HB4).setCell (p := ⟨X.heap.size + 1, 0, none⟩) hs (.string xn)).setCell (p := ⟨X.heap.size + 1, 1, none⟩) hs (.int .i64 V1)).setCell (p := ⟨X.heap.size + 1, 2, none⟩) hs (.int .i64 V2)).setCell (p := ⟨X.heap.size + 1, 3, none⟩) hs (.int .i64 xs)).setCell (p := ⟨X.heap.size + 1, 4, none⟩) hs (.int .i64 xe))
  clear k1 k2 k9 HK4 HB4 hs
  go_wp2_with fail
  refine bodyPost_ret (v := .agg #[.string xn, .int .i64 V1, .int .i64 V2, .int .i64 xs, .int .i64 xe]) (by simp [results, Try.results36, go_sem, r0, r1, r2, r3, r4]) rfl ⟨rfl, unhide HB9⟩
end Go.Proofs.Ytifpjdodignflaa
end

section
namespace Go.Proofs.Ytifpjdodignflaa
open Go.ChangeShapes Go.WideShapes Go.ChangeAt Go.RowKit
open Go.ChangeMaps (setBlock)

def kvR (m : Rg) : Value × Value := (.string m.n, rgV m)
def deR : Value × Value → Rg
  | (_, .agg #[.string n, .int _ lo, .int _ hi, .int _ st, .int _ en]) => ⟨n, lo, hi, st, en⟩
  | _ => ⟨⟨#[]⟩, 0, 0, 0, 0⟩
theorem deR_kv (m : Rg) : deR (kvR m) = m := rfl
theorem perm_kvR {S L : List Rg} (h : (S.map kvR).Perm (L.map kvR)) : S.Perm L := by
  have := h.map deR
  simpa [List.map_map, Function.comp_def, deR_kv] using this
variable {P : Program}
/-- an iterator over a map whose entries are L: S came out, in this order -/
structure ItG (X : World) (ri bm : Nat) (L S : List Rg) : Prop where
  c : ∃ es clock since seen c0 se, X.heap[ri]? = some (.mapIter (some bm) since seen c0) ∧ X.heap[bm]? = some (.map es clock) ∧ EntR es clock L ∧ (∀ x ∈ es.toList, x.born < since) ∧ (since ≤ c0 ∧ since ≤ clock) ∧ (se ++ (leftOf es seen).toList).Perm es.toList ∧ se.map (fun e => (e.key, e.val)) = S.map kvR
def leftN (w : World) (bm ri : Nat) : Nat := match w.heap[ri]?, w.heap[bm]? with
  | some (.mapIter _ _ seen _), some (.map es _) => (leftOf es seen).size
  | _, _ => 0
theorem leftN_same {X Y : World} {bm ri : Nat} (h1 : Y.heap[ri]? = X.heap[ri]?) (h2 : Y.heap[bm]? = X.heap[bm]?) : leftN Y bm ri = leftN X bm ri := by
  unfold leftN; rw [h1, h2]
theorem ItG.start (X : World) {t k e : TypeId} (ht : P.underlying t = some (.map k e)) {bm : Nat} {L : List Rg} (h : IsRp X bm L) :
    ∃ o, (Instr.range t (.map (some bm))).run P X = .ok (.pointer (some ⟨X.heap.size, 0, none⟩)) (X.alloc o) ∧ ItG (X.alloc o) X.heap.size bm L [] := by
  have hlt := h.lt
  obtain ⟨es, clock, h1, h2⟩ := h
  refine ⟨_, run_range_map X t k e bm es clock ht h1, es, clock, clock, #[], clock, [], heap_alloc_new X _, ?_, h2, h2.b, ⟨Nat.le_refl _, Nat.le_refl _⟩, ?_, rfl⟩
  · rw [heap_alloc_old X _ hlt]; exact h1
  · unfold leftOf
    rw [Array.toList_filter, List.filter_eq_self.2 (by simp)]
    exact List.Perm.refl _
theorem left_perm (p : MapEntry → Bool) (e : MapEntry) : ∀ (es : List MapEntry), (es.map (·.born)).Nodup → e ∈ es.filter p → (es.filter p).Perm (e :: es.filter (fun x => p x && x.born != e.born))
  | [], _, h => by simp at h
  | x :: l, hn, he => by
    simp only [List.map_cons, List.nodup_cons] at hn
    by_cases hb : x.born = e.born
    · have hne : ∀ y ∈ l, y.born ≠ e.born := fun y hy h => hn.1 (by rw [hb, ← h]; exact List.mem_map.2 ⟨y, hy, rfl⟩)
      have hex : e = x := by
        rcases List.mem_cons.1 (List.mem_filter.1 he).1 with h | h
        · exact h
        · exact absurd rfl (hne e h)
      subst hex
      have hp := (List.mem_filter.1 he).2
      have hf : l.filter (fun y => p y && y.born != e.born) = l.filter p := List.filter_congr fun y hy => by
        have := hne y hy
        simp [this]
      rw [List.filter_cons_of_pos hp, List.filter_cons_of_neg (by simp), hf]
    · have hel : e ∈ l.filter p := by
        obtain ⟨h1, h2⟩ := List.mem_filter.1 he
        rcases List.mem_cons.1 h1 with h | h
        · exact absurd (by rw [h]) hb
        · exact List.mem_filter.2 ⟨h, h2⟩
      have ih := left_perm p e l hn.2 hel
      cases hp : p x with
      | true =>
        rw [List.filter_cons_of_pos hp, List.filter_cons_of_pos (by simp [hp, hb])]
        exact (ih.cons x).trans (List.Perm.swap e x _)
      | false =>
        rw [List.filter_cons_of_neg (by simp [hp]), List.filter_cons_of_neg (by simp [hp])]
        exact ih
theorem left_push {es : Array MapEntry} (hn : (es.toList.map (·.born)).Nodup) {seen : Array Nat} {e : MapEntry} (he : e ∈ (leftOf es seen).toList) : (leftOf es seen).toList.Perm (e :: (leftOf es (seen.push e.born)).toList) := by
  unfold leftOf at he ⊢
  rw [Array.toList_filter] at he ⊢
  rw [Array.toList_filter]
  have h := left_perm (fun x => !seen.contains x.born) e es.toList hn he
  have hf : es.toList.filter (fun x => !(seen.push e.born).contains x.born) = es.toList.filter (fun x => (!seen.contains x.born) && x.born != e.born) := List.filter_congr fun x _ => by
    rw [contains_push, Bool.not_or]; rfl
  rw [hf]; exact h
theorem ItG.same {X Y : World} {ri bm : Nat} {L S : List Rg} (h : ItG X ri bm L S) (h1 : Y.heap[ri]? = X.heap[ri]?) (h2 : Y.heap[bm]? = X.heap[bm]?) : ItG Y ri bm L S := by
  obtain ⟨es, clock, since, seen, c0, se, a, b, r⟩ := h.c
  exact ⟨es, clock, since, seen, c0, se, h1.trans a, h2.trans b, r⟩
theorem ItG.lt {X : World} {ri bm : Nat} {L S : List Rg} (h : ItG X ri bm L S) : ri < X.heap.size ∧ bm < X.heap.size := by
  obtain ⟨es, clock, since, seen, c0, se, a, b, _⟩ := h.c
  exact ⟨(Array.getElem?_eq_some_iff.1 a).1, (Array.getElem?_eq_some_iff.1 b).1⟩
theorem ItG.below {X Y : World} {ri bm N : Nat} {L S : List Rg} (h : ItG X ri bm L S) (hb : Below N X Y) (hN : X.heap.size ≤ N) : ItG Y ri bm L S := h.same (hb.block ri (Nat.lt_of_lt_of_le h.lt.1 hN)) (hb.block bm (Nat.lt_of_lt_of_le h.lt.2 hN))
/-- a step: nothing is left, or one more came -/
theorem ItG.next {X : World} {ri bm : Nat} {L S : List Rg} (h : ItG X ri bm L S) (ty : TypeId) :
    (S.Perm L ∧ (Instr.next (.pointer (some ⟨ri, 0, none⟩)) false ty).run P X = .ok (.tuple #[.bool false]) X) ∨
    ∃ m T X', (S ++ m :: T).Perm L ∧ (Instr.next (.pointer (some ⟨ri, 0, none⟩)) false ty).run P X = .ok (.tuple #[.bool true, .string m.n, rgV m]) X' ∧ (Instr.entry (.pointer (some ⟨ri, 0, none⟩))).run P X' = .ok (.tuple #[.string m.n, rgV m]) X' ∧ ItG X' ri bm L (S ++ [m]) ∧ X'.heap.size = X.heap.size ∧ (∀ k, k ≠ ri → X'.heap[k]? = X.heap[k]?) ∧ leftN X' bm ri < leftN X bm ri ∧ ∀ B, B ≤ ri → Below B X X' := by
  have hlt := h.lt
  obtain ⟨es, clock, since, seen, c0, se, h1, h2, h3, h4, h5, h6, h7⟩ := h.c
  have kv : es.toList.map (fun e => (e.key, e.val)) = L.map kvR := h3.v
  rcases run_next_at (P := P) X ty ri bm since c0 seen es clock h1 h2 h4 h5.1 with ⟨hz, hr⟩ | ⟨e, he, w1, hw, hr⟩
  · left
    refine ⟨perm_kvR ?_, hr⟩
    have : (leftOf es seen).toList = [] := by rw [Array.eq_empty_of_size_eq_zero hz]
    rw [this, List.append_nil] at h6
    have := h6.map (fun e => (e.key, e.val))
    rwa [h7, kv] at this
  · right
    have hes := (mem_left he).1
    obtain ⟨m, hm⟩ : ∃ m : Rg, (e.key, e.val) = kvR m := by
      have : (e.key, e.val) ∈ es.toList.map (fun e => (e.key, e.val)) := List.mem_map.2 ⟨e, hes, rfl⟩
      rw [kv] at this
      obtain ⟨m, _, hm⟩ := List.mem_map.1 this
      exact ⟨m, hm.symm⟩
    have hk : e.key = .string m.n := congrArg Prod.fst hm
    have hv : e.val = rgV m := congrArg Prod.snd hm
    have hp := left_push h3.d he
    have hperm : (se ++ e :: (leftOf es (seen.push e.born)).toList).Perm es.toList := (hp.symm.append_left se).trans h6
    have hheap : w1.heap = X.heap := by rcases hw with rfl | rfl <;> rfl
    have e1 : (setBlock w1 ri (.mapIter (some bm) since (seen.push e.born) clock)).heap[ri]? = some (.mapIter (some bm) since (seen.push e.born) clock) := by
      show (w1.heap.setIfInBounds ri _)[ri]? = _
      rw [hheap]; simp [hlt.1]
    have hne : ri ≠ bm := fun hq => by rw [hq, h2] at h1; cases h1
    have e2 : (setBlock w1 ri (.mapIter (some bm) since (seen.push e.born) clock)).heap[bm]? = some (.map es clock) := by
      show (w1.heap.setIfInBounds ri _)[bm]? = _
      rw [hheap, Array.getElem?_setIfInBounds_ne hne]; exact h2
    rw [hk, hv] at hr
    have hent := run_entry_at (P := P) _ ri bm since seen es clock e e1 e2 hes h3.d
    rw [hk, hv] at hent
    have hT : ∃ T : List Rg, (leftOf es (seen.push e.born)).toList.map (fun e => (e.key, e.val)) = T.map kvR := by
      have all : ∀ x ∈ (leftOf es (seen.push e.born)).toList, ∃ m : Rg, (x.key, x.val) = kvR m := fun x hx => by
        have : (x.key, x.val) ∈ es.toList.map (fun e => (e.key, e.val)) := List.mem_map.2 ⟨x, (mem_left hx).1, rfl⟩
        rw [kv] at this
        obtain ⟨m, _, hm⟩ := List.mem_map.1 this
        exact ⟨m, hm.symm⟩
      generalize (leftOf es (seen.push e.born)).toList = l at all
      clear hperm hp
      induction l with
      | nil => exact ⟨[], rfl⟩
      | cons x l ih =>
        obtain ⟨m, hm⟩ := all x (by simp)
        obtain ⟨T, hT⟩ := ih (fun y hy => all y (by simp [hy]))
        exact ⟨m :: T, by simp [hm, hT]⟩
    obtain ⟨T, hT⟩ := hT
    refine ⟨m, T, _, perm_kvR ?_, hr, hent, ⟨es, clock, since, seen.push e.born, clock, se ++ [e], e1, e2, h3, h4, ?_, ?_, ?_⟩, ?_, fun k hk => ?_, ?_, fun B hB => ?_⟩
    · have := hperm.map (fun e => (e.key, e.val))
      rw [kv] at this
      simpa [h7, hT, hm] using this
    · exact ⟨h5.2, h5.2⟩
    · simpa using hperm
    · simp [h7, hm]
    · show (w1.heap.setIfInBounds ri _).size = _
      rw [hheap]; simp
    · show (w1.heap.setIfInBounds ri _)[k]? = _
      rw [hheap, Array.getElem?_setIfInBounds_ne (Ne.symm hk)]
    · unfold leftN
      rw [e1, e2, h1, h2]
      exact left_shrinks es seen e he
    · rcases hw with rfl | rfl
      · refine ⟨rfl, rfl, rfl, by show _ ≤ (Array.setIfInBounds _ _ _).size; simp, fun k hk => ?_⟩
        show (Array.setIfInBounds _ ri _)[k]? = _
        rw [Array.getElem?_setIfInBounds_ne (by omega)]
      · refine ⟨rfl, rfl, rfl, by show _ ≤ (Array.setIfInBounds _ _ _).size; simp, fun k hk => ?_⟩
        show (Array.setIfInBounds _ ri _)[k]? = _
        rw [Array.getElem?_setIfInBounds_ne (by omega)]
        first | done | rfl
end Go.Proofs.Ytifpjdodignflaa
end

section
namespace Go.Proofs.Ytifpjdodignflaa
open Go.ChangeShapes Go.WideShapes Go.ChangeAt Go.RowKit
attribute [local go_sem] Oper.semAt_some

theorem run_makeMapN (w : World) (n : Nat) : (Instr.makeMap 65 (some (.int .i64 (n : Int)))).run Try.prog w = .ok (.map (some w.heap.size)) (w.alloc (.map #[] 0)) := by
  unfold Instr.makeMap
  simp only [Sem.run_bind, run_underlying Try.underlying65, Result.andThen]
  rfl
def kpG (d : List Dop) (S : List Rg) : List Rg := (S.map (mvG d)).filter (fun m => decide (m.lo < m.hi))
def goG (d : List Dop) (S : List Rg) : List ByteArray := ((S.map (mvG d)).filter (fun m => !decide (m.lo < m.hi))).map (·.n)
def strsV (l : List ByteArray) : List Value := l.map .string
theorem kp_snoc (d : List Dop) (S : List Rg) (m : Rg) : kpG d (S ++ [m]) = if (mvG d m).lo < (mvG d m).hi then kpG d S ++ [mvG d m] else kpG d S := by
  unfold kpG
  by_cases h : (mvG d m).lo < (mvG d m).hi <;> simp [List.filter_append, h]
theorem go_snoc (d : List Dop) (S : List Rg) (m : Rg) : goG d (S ++ [m]) = if (mvG d m).lo < (mvG d m).hi then goG d S else goG d S ++ [m.n] := by
  unfold goG
  rw [List.map_append, List.filter_append, List.map_append, List.map_singleton]
  have e : (mvG d m).n = m.n := rfl
  by_cases h : (mvG d m).lo < (mvG d m).hi
  · rw [if_pos h, List.filter_cons_of_neg (by simp [h])]; simp
  · rw [if_neg h, List.filter_cons_of_pos (by simp [h])]; simp [e]
/-- what Behind's loop keeps: the iterator (I came out), the new map and the names that went (for S) -/
structure GbJ (X wx : World) (ri r2 bm : Nat) (d : List Dop) (L I S : List Rg) (v11 : Value) : Prop where
  it : ItG wx ri bm L I
  mp : IsRp wx r2 (kpG d S)
  go : wx.ownsRow X.heap.size 9 1 v11 (goG d S).length (strsV (goG d S))
  dd : Below X.heap.size X wx
  nn : X.heap.size ≤ ri ∧ X.heap.size ≤ r2
theorem IsRp.ne_it {X : World} {r ri bm : Nat} {K L S : List Rg} (h : IsRp X r K) (hi : ItG X ri bm L S) : r ≠ ri := fun e => by
  obtain ⟨es, clock, h1, _⟩ := h
  obtain ⟨_, _, _, _, _, _, a, _⟩ := hi.c
  rw [e, a] at h1; cases h1
theorem GbJ.on {X wx wy : World} {ri r2 bm : Nat} {d : List Dop} {L I S : List Rg} {v11 : Value} (h : GbJ X wx ri r2 bm d L I S v11) (hb : Below wx.heap.size wx wy) : GbJ X wy ri r2 bm d L I S v11 :=
  ⟨h.it.below hb (Nat.le_refl _), h.mp.below hb (Nat.le_refl _), rowD_below h.go hb (Nat.le_refl _), h.dd.trans (hb.mono h.dd.size), h.nn⟩
theorem GbJ.next {X wx : World} {ri r2 bm : Nat} {d : List Dop} {L S : List Rg} {v11 : Value} (h : GbJ X wx ri r2 bm d L S S v11) (ty : TypeId) :
    (S.Perm L ∧ (Instr.next (.pointer (some ⟨ri, 0, none⟩)) false ty).run Try.prog wx = .ok (.tuple #[.bool false]) wx) ∨
    ∃ m T X', (S ++ m :: T).Perm L ∧ (Instr.next (.pointer (some ⟨ri, 0, none⟩)) false ty).run Try.prog wx = .ok (.tuple #[.bool true, .string m.n, rgV m]) X' ∧ (Instr.entry (.pointer (some ⟨ri, 0, none⟩))).run Try.prog X' = .ok (.tuple #[.string m.n, rgV m]) X' ∧ GbJ X X' ri r2 bm d L (S ++ [m]) S v11 ∧ leftN X' bm ri < leftN wx bm ri := by
  rcases h.it.next (P := Try.prog) ty with h1 | ⟨m, T, X', p, r, e, i, hs, hk, hl, hb⟩
  · exact .inl h1
  · refine .inr ⟨m, T, X', p, r, e, ⟨i, h.mp.same (hk _ (h.mp.ne_it h.it)), rowD_on h.go fun G hG => hk G fun eq => ?_, h.dd.trans (hb _ h.nn.1), h.nn⟩, hl⟩
    obtain ⟨_, c, hc⟩ := rowD_block h.go hG
    obtain ⟨_, _, _, _, _, _, a, _⟩ := h.it.c
    rw [eq, a] at hc; cases hc
theorem strsV_snoc (l : List ByteArray) (x : ByteArray) : strsV (l ++ [x]) = strsV l ++ [.string x] := by simp [strsV]
theorem atG_none {s : ByteArray} : ∀ {K : List Rg} {i : Nat}, (∀ m ∈ K, m.n ≠ s) → atG s K i = none
  | [], _, _ => rfl
  | m :: K, i, h => by
    unfold atG
    have h1 : (s == m.n) = false := by
      cases hc : s == m.n with
      | false => rfl
      | true => exact absurd ((MapKept.bytes_beq _ _).1 hc).symm (h m (by simp))
    rw [h1]
    simp only [Bool.false_eq_true, if_false]
    exact atG_none fun x hx => h x (by simp [hx])
theorem kp_names {d : List Dop} {S : List Rg} {x : Rg} (h : x ∈ kpG d S) : ∃ m ∈ S, m.n = x.n := by
  unfold kpG at h
  obtain ⟨m, hm, rfl⟩ := List.mem_map.1 (List.mem_filter.1 h).1
  exact ⟨m, hm, rfl⟩
theorem put_kp {d : List Dop} {L S T : List Rg} {m : Rg} (hp : (S ++ m :: T).Perm L) (hn : (L.map (·.n)).Nodup) : putG (mvG d m) (kpG d S) = kpG d S ++ [mvG d m] := by
  have h1 : ((S ++ m :: T).map (·.n)).Nodup := (hp.map (·.n)).nodup_iff.2 hn
  rw [List.map_append, List.map_cons, List.nodup_append] at h1
  have h2 : atG (mvG d m).n (kpG d S) 0 = none := atG_none fun x hx e => by
    obtain ⟨y, hy, he⟩ := kp_names hx
    exact h1.2.2 y.n (List.mem_map.2 ⟨y, hy, rfl⟩) m.n (by simp) (he.trans e)
  unfold putG
  rw [h2]
/-- one that stays -/
theorem GbJ.put {X wx : World} {ri r2 bm : Nat} {d : List Dop} {L S T : List Rg} {m : Rg} {v11 : Value} (h : GbJ X wx ri r2 bm d L (S ++ [m]) S v11) (hp : (S ++ m :: T).Perm L) (hn : (L.map (·.n)).Nodup) (hb : bm < X.heap.size) (hk : (mvG d m).lo < (mvG d m).hi) :
    ∃ o, (Instr.mapUpdate 65 (.map (some r2)) (.string m.n) (rgV (mvG d m))).run Try.prog wx = .ok () { wx with heap := wx.heap.setIfInBounds r2 o } ∧ GbJ X { wx with heap := wx.heap.setIfInBounds r2 o } ri r2 bm d L (S ++ [m]) (S ++ [m]) v11 ∧ leftN { wx with heap := wx.heap.setIfInBounds r2 o } bm ri = leftN wx bm ri := by
  obtain ⟨o, r, i⟩ := run_update_rg (P := Try.prog) wx Try.underlying65 Try.underlying9 h.mp (mvG d m)
  rw [put_kp hp hn] at i
  have hne := h.mp.ne_it h.it
  have e1 : ({ wx with heap := wx.heap.setIfInBounds r2 o } : World).heap[ri]? = wx.heap[ri]? := by simp [hne]
  have e2 : ({ wx with heap := wx.heap.setIfInBounds r2 o } : World).heap[bm]? = wx.heap[bm]? := by
    have : r2 ≠ bm := by have := h.nn.2; omega
    simp [this]
  refine ⟨o, r, ⟨h.it.same e1 e2, ?_, ?_, belowR_block h.dd o h.nn.2, h.nn⟩, leftN_same e1 e2⟩
  · rw [kp_snoc, if_pos hk]; exact i
  · rw [go_snoc, if_pos hk]
    refine rowD_on h.go fun G hG => ?_
    have : r2 ≠ G := fun e => by
      obtain ⟨_, c, hc⟩ := rowD_block h.go hG
      obtain ⟨es, cl, h1, _⟩ := h.mp
      rw [← e, h1] at hc; cases hc
    simp [this]
/-- one that goes -/
theorem GbJ.goes {X wx : World} {ri r2 bm : Nat} {d : List Dop} {L S : List Rg} {m : Rg} {v11 : Value} (h : GbJ X wx ri r2 bm d L (S ++ [m]) S v11) (hb : bm < X.heap.size) (hk : ¬ (mvG d m).lo < (mvG d m).hi) (hl : (goG d S).length ≤ 4398046511104) :
    ∃ v' W', (Builtin.append_ #[49, 49] 49 #[v11, .slice (some ⟨wx.heap.size, 0, none⟩) 1 1]).run Try.prog (wx.alloc (.cells #[.string m.n] 9)) = .ok v' W' ∧ GbJ X W' ri r2 bm d L (S ++ [m]) (S ++ [m]) v' ∧ leftN W' bm ri = leftN wx bm ri := by
  obtain ⟨g, c, W', r, ho, hg, bb⟩ := push_str wx X.heap.size (goG d S).length v11 (strsV (goG d S)) m.n 49 h.go hl h.dd.size
  have hri := h.it.lt
  have hne : ∀ k, k < wx.heap.size → (∀ cs t mk, wx.heap[k]? ≠ some (.cells cs t mk)) → W'.heap[k]? = wx.heap[k]? := fun k hk hc => hg.block k hk fun e => by
    obtain ⟨_, cur, hcur⟩ := rowD_block h.go e.symm
    exact hc _ _ _ hcur
  have e1 : W'.heap[ri]? = wx.heap[ri]? := hne ri hri.1 fun cs t mk hq => by
    obtain ⟨_, _, _, _, _, _, a, _⟩ := h.it.c
    rw [a] at hq; cases hq
  have e2 : W'.heap[bm]? = wx.heap[bm]? := bb.block bm hb
  have e3 : W'.heap[r2]? = wx.heap[r2]? := hne r2 h.mp.lt fun cs t mk hq => by
    obtain ⟨es, cl, h1, _⟩ := h.mp
    rw [h1] at hq; cases hq
  refine ⟨_, W', r, ⟨h.it.same e1 e2, ?_, ?_, h.dd.trans bb, h.nn⟩, leftN_same e1 e2⟩
  · rw [kp_snoc, if_neg hk]; exact h.mp.same e3
  · rw [go_snoc, if_neg hk, strsV_snoc, List.length_append, List.length_singleton]; exact ho
end Go.Proofs.Ytifpjdodignflaa
end
