/- Layer 16: the law's play (written by wip/tools/rgs.py). · Layer 16: RangesOwn's walk (written by wip/tools/rgs.py). -/
import Derived.Test.YtifpjdodignflaaRp42
import Derived.Test.YtifpjdodignflaaRp43
import Derived.Test.YtifpjdodignflaaRp44
import Derived.Test.YtifpjdodignflaaRp45
import Derived.Test.YtifpjdodignflaaRp40

section
namespace Go.Proofs.Ytifpjdodignflaa
open Go.ChangeShapes Go.WideShapes Go.ChangeAt Go.RowKit
attribute [local go_sem] Oper.semAt_some

theorem play_at (g : Nat) (n : Int) (L : List Rg) (a : Option Addr) (c : Nat) (D : List Rg) (kd : Int) (x : Rg) (ad : Option Addr) (cd : Nat) (d : List Dop) (X : World) (h : StR X g n L a D) (ho : IsO X ad d) (hz : d = [] ∨ ∃ q, ad = some q) (hdl : d.length * 32 ≤ 140737488355328) (ht : ∀ o ∈ d, o.t.length ≤ 140737488355328) :
    Calls Try.prog 11 #[.pointer (some ⟨g, 0, none⟩), rsV n a D.length c, ocA kd x ad d.length cd] X (PlQ X) := by
  by_cases k0 : kd = 0
  · subst k0
    by_cases hr : refG n L x = 0
    · exact playSO_at g n L a c D x ad cd d X h ho hr
    · exact playSE_at g n L a c D x ad cd d X h ho hr
  by_cases k1 : kd = 1
  · subst k1
    cases hg : getG x.n L with
    | none => exact playDE_at g n L a c D x ad cd d X h ho hg
    | some m => exact playDO_at g n L a c D x ad cd d X h ho m hg
  by_cases k2 : kd = 2
  · subst k2
    cases hv : valB d with
    | false => exact playBV_at g n L a c D x ad cd d X h ho hz hdl ht hv
    | true =>
      by_cases hf : (frD d : Int) = n
      · exact playBO_at g n L a c D x ad cd d X h ho hz hdl ht hv hf
      · exact playBF_at g n L a c D x ad cd d X h ho hz hdl ht hv hf
  cases hg : getG x.n L with
  | none => exact playGN_at g n L a c D kd x ad cd d X h ho k0 k1 k2 hg
  | some m => exact playGS_at g n L a c D kd x ad cd d X h ho k0 k1 k2 m hg
end Go.Proofs.Ytifpjdodignflaa
end

section
namespace Go.Proofs.Ytifpjdodignflaa
open Go.ChangeShapes Go.WideShapes Go.ChangeAt Go.RowKit
attribute [local go_sem] Oper.semAt_some

set_option maxRecDepth 100000 in
set_option maxHeartbeats 8000000 in
theorem RangesOwn_any (n : Int) (A : Option Addr) (cp : Nat) (l : List Oc) (w : World) (_hn : (Lit.int .i64 n).wf = true) (hA : IsOc w A l) (_hl : l.length ≤ 4398046511104) :
    Calls Try.prog 7 #[.int .i64 n, .slice A l.length cp] w fun y w' => y = .returned (.bool true) ∧ Below w.heap.size w w' := by
  have HAw := hide (awake16_at w)
  have HAc := hide hA
  obtain ⟨N, hN⟩ : ∃ N, N = l.length := ⟨_, rfl⟩
  have HN := hide hN
  rw [← hN] at _hl ⊢
  clear hA hN _hn
  by_cases hr : 0 ≤ n ∧ n ≤ 268435456
  case neg =>
    have HN1 := hide fun (Y : World) => GNewE_at n Y hr
    have HN2 := hide fun (Y : World) => RNewRE_at n Y hr
    clear hr
    go_enter Try.func7, Try.ntmps7
    go_wp2_with fail
    refine (unhide HAw).mono ?_
    rintro y w1 ⟨rfl, x1⟩
    dsimp only
    have HX1 := hide x1
    have HC2 := hide (unhide HN1 w1)
    clear HAw HN1 x1
    go_wp2_with fail
    refine (unhide HC2).mono ?_
    rintro y w2 ⟨rfl, x2⟩
    dsimp only
    have HX2 := hide ((unhide HX1).trans (x2.mono (unhide HX1).size))
    have HC3 := hide (unhide HN2 w2)
    clear HC2 HX1 x2 HN2
    go_wp2_with fail
    refine (unhide HC3).mono ?_
    rintro y w3 ⟨rfl, x3⟩
    dsimp only
    have hx3 := (unhide HX2).trans (x3.mono (unhide HX2).size)
    have HX3 := hide (hx3.alloc hx3.size (.cells #[.int .i64 0, .slice none 0 0] 30))
    clear HC3 HX2 x3 hx3
    go_wp2_with fail
    refine bodyPost_ret (results_tmp rfl _ _ _) rfl ⟨rfl, unhide HX3⟩
  have HN1 := hide fun (Y : World) => GNew_at n Y hr
  have HN2 := hide fun (Y : World) => RNewR_at n Y hr
  have HRq := hide hr
  clear hr
  go_enter Try.func7, Try.ntmps7
  go_wp2_with fail
  refine (unhide HAw).mono ?_
  rintro y w1 ⟨rfl, x1⟩
  dsimp only
  have HX1 := hide x1
  have HC2 := hide (unhide HN1 w1)
  clear HAw HN1 x1
  go_wp2_with fail
  refine (unhide HC2).mono ?_
  rintro y w2 ⟨g0, rfl, _, s2, x2⟩
  dsimp only
  have HX2 := hide ((unhide HX1).trans (x2.mono (unhide HX1).size))
  have HS2 := hide s2
  have HC3 := hide (unhide HN2 w2)
  clear HC2 HX1 x2 HN2 s2
  go_wp2_with fail
  refine (unhide HC3).mono ?_
  rintro y w3 ⟨rfl, x3⟩
  dsimp only
  have hx3 := (unhide HX2).trans (x3.mono (unhide HX2).size)
  have b3 := (Below.refl w3.heap.size w3).alloc (Nat.le_refl _) (.cells #[.int .i64 n, .slice none 0 0] 30)
  have HJ0 : Hid (ScR w (w3.alloc (.cells #[.int .i64 n, .slice none 0 0] 30)) w3.heap.size g0 n [] none 0 []) := hide ⟨⟨((unhide HS2).below x3 (Nat.le_refl _)).below b3 (Nat.le_refl _), .inl rfl, Rel.nil, by simp [InR], by simp, unhide HRq, .inl rfl⟩, Cls.new w3 30 _, hx3.trans (b3.mono hx3.size), hx3.size⟩
  clear HC3 HX2 x3 hx3 HS2 b3
  go_wp2_with fail
  generalize w3.alloc (.cells #[.int .i64 n, .slice none 0 0] 30) = w4 at *
  generalize w3.heap.size = G9 at *
  go_loopw [5, 9, 10, 11, 12, 13, 14, 15, 16, 17, 18, 19] (fun v5 v9 v10 v11 v12 v13 v14 v15 v16 v17 v18 v19 wx => ((∃ z, v10 = z) ∧ (∃ z, v11 = z) ∧ (∃ z, v12 = z) ∧ (∃ z, v13 = z) ∧ (∃ z, v14 = z) ∧ (∃ z, v15 = z) ∧ (∃ z, v16 = z) ∧ (∃ z, v17 = z) ∧ (∃ z, v18 = z) ∧ (∃ z, v19 = z)) ∧ ∃ (i g1 : Nat), v9 = .int .i64 (i : Int) ∧ v5 = .pointer (some ⟨g1, 0, none⟩) ∧ i ≤ N ∧ Hid (∃ n1 L1 a1 c1 D, ScR w wx G9 g1 n1 L1 a1 c1 D)) (fun _ v9 _ _ _ _ _ _ _ _ _ _ _ => N - (intOf v9).toNat)
  case atStart => exact ⟨⟨⟨_, rfl⟩, ⟨_, rfl⟩, ⟨_, rfl⟩, ⟨_, rfl⟩, ⟨_, rfl⟩, ⟨_, rfl⟩, ⟨_, rfl⟩, ⟨_, rfl⟩, ⟨_, rfl⟩, ⟨_, rfl⟩⟩, 0, g0, rfl, rfl, Nat.zero_le _, hide ⟨_, _, _, _, _, unhide HJ0⟩⟩
  case round =>
    clear HJ0
    obtain ⟨⟨⟨z10, rfl⟩, ⟨z11, rfl⟩, ⟨z12, rfl⟩, ⟨z13, rfl⟩, ⟨z14, rfl⟩, ⟨z15, rfl⟩, ⟨z16, rfl⟩, ⟨z17, rfl⟩, ⟨z18, rfl⟩, ⟨z19, rfl⟩⟩, i, g1, rfl, rfl, hi, HI⟩ := hrel
    obtain ⟨n1, L1, a1, c1, D, hJ⟩ := unhide HI
    have HJ := hide hJ
    clear HI hJ
    by_cases hlt : i < N
    · have t1 : decide ((i : Int) < (N : Int)) = true := decide_eq_true (by omega)
      have hlt' : i < l.length := by rw [← unhide HN]; exact hlt
      have HAT := hide fun (Y : World) (hY : Below w.heap.size w Y) => (unhide HAc).at hlt' hY
      clear hlt'
      generalize l.getD i ocZ = ac at *
      obtain ⟨kd, ⟨xn, xl, xh, xs, xe⟩, ad, cd, d⟩ := ac
      obtain ⟨hAI, eg, eo, ha, heg, hcl⟩ := unhide HAT wr (unhide HJ).b
      subst ha
      have HQ := hide fun (Y : World) (hY : Below w.heap.size w Y) => (show Y.cell? ⟨eg, eo + i * 7, none⟩ = some (.int .i64 kd) ∧ Y.cell? ⟨eg, eo + i * 7 + 1, none⟩ = some (.string xn) ∧ Y.cell? ⟨eg, eo + i * 7 + 2, none⟩ = some (.int .i64 xl) ∧ Y.cell? ⟨eg, eo + i * 7 + 3, none⟩ = some (.int .i64 xh) ∧ Y.cell? ⟨eg, eo + i * 7 + 4, none⟩ = some (.int .i64 xs) ∧ Y.cell? ⟨eg, eo + i * 7 + 5, none⟩ = some (.int .i64 xe) ∧ Y.cell? ⟨eg, eo + i * 7 + 6, none⟩ = some (.slice ad d.length cd) from by
        obtain ⟨_, eg', eo', ha', _, hc'⟩ := unhide HAT Y hY
        cases ha'
        exact ⟨hc' 0 (by decide), hc' 1 (by decide), hc' 2 (by decide), hc' 3 (by decide), hc' 4 (by decide), hc' 5 (by decide), hc' 6 (by decide)⟩)
      have HDI := hide fun (Y : World) (hY : Below w.heap.size w Y) => (unhide HAT Y hY).1.o
      have hz := hAI.z
      have hdl := hAI.l
      have HTT := hide hAI.t
      have HD9 : Hid (d.length ≤ 4611686018427387904) := hide (by have := hAI.l; dsimp only at this; omega)
      dsimp only at hz hdl
      have HC1 := hide (RCopy_at ad cd d wr (unhide HDI wr (unhide HJ).b) hz hdl)
      have HGB : Hid (G9 < wr.heap.size) := hide (unhide HJ).k.lt
      obtain ⟨_, _, _, _, _, _, q6⟩ := unhide HQ wr (unhide HJ).b
      clear hAI hcl heg HAT hz
      go_wp2_with fail
      refine (unhide HC1).mono ?_
      rintro y wA ⟨vc, rfl, oc, xc⟩
      dsimp only
      obtain ⟨gd, kd2, wB, rp, op, bp, hk2⟩ := push_opw wA wr.heap.size d.length vc (opsV d) 39 oc hdl xc.size
      have HXB := hide (xc.trans (bp.mono (Nat.le_refl _)))
      have HR := hide rp
      have HOD := hide op
      clear HC1 xc oc rp op bp q6
      obtain ⟨q0, q1, q2, q3, q4, q5, q6⟩ := unhide HQ wB ((unhide HJ).b.trans ((unhide HXB).mono (unhide HJ).b.size))
      have hk3 : d.length ≤ kd2 := by omega
      have hk4 : (d.length : Int) ≤ (kd2 : Int) := by omega
      have hk5 : d.length ≤ d.length + 1 := by omega
      have bq := (unhide HXB).alloc (unhide HXB).size (.cells #[.int .i64 kd, .string xn, .int .i64 xl, .int .i64 xh, .int .i64 xs, .int .i64 xe, .slice ad d.length cd] 41)
      obtain ⟨_, _, _, _, _, _, q6b⟩ := unhide HQ (wB.alloc (.cells #[.int .i64 kd, .string xn, .int .i64 xl, .int .i64 xh, .int .i64 xs, .int .i64 xe, .slice ad d.length cd] 41)) ((unhide HJ).b.trans (bq.mono (unhide HJ).b.size))
      clear bq
      have kC := Cls.new wB 41 #[.int .i64 kd, .string xn, .int .i64 xl, .int .i64 xh, .int .i64 xs, .int .i64 xe, .slice (some ⟨gd, 0, none⟩) d.length kd2]
      have bC := (Below.refl wB.heap.size wB).alloc (Nat.le_refl _) (.cells #[.int .i64 kd, .string xn, .int .i64 xl, .int .i64 xh, .int .i64 xs, .int .i64 xe, .slice (some ⟨gd, 0, none⟩) d.length kd2] 41)
      have hXC := (unhide HXB).trans (bC.mono (unhide HXB).size)
      have HOC := hide (rowD_below (unhide HOD) bC (Nat.le_refl _))
      have HKC := hide kC
      have HJC := hide ((unhide HJ).on hXC)
      have HBO : Hid (wr.heap.size ≤ wB.heap.size) := hide (unhide HXB).size
      obtain ⟨p0, p1⟩ := clsR_two (unhide HJC).k
      clear HOD HXB kC bC HJ hXC
      go_wp2_with (at_builtin; refine wpList_append_known rfl _ _ 39 39 rfl _ _ rfl rfl _ _ (unhide HR) ?_; clear HR)
      clear q0 q1 q2 q3 q4 q5 q6 q6b hk4 hk5 p0 p1
      generalize wB.alloc (.cells #[.int .i64 kd, .string xn, .int .i64 xl, .int .i64 xh, .int .i64 xs, .int .i64 xe, .slice (some ⟨gd, 0, none⟩) d.length kd2] 41) = wC at *
      generalize wB.heap.size = bo at *
      have HJ := HJC
      clear HJC
      obtain ⟨_, _, hio, hic, _⟩ := own_isOR (rwk_cut (unhide HOC) (opsV_lenR d) (by simp))
      cases hio
      have HIC := hide hic
      have HDo := hide (play_at g1 n1 L1 a1 c1 D kd ⟨xn, xl, xh, xs, xe⟩ (some ⟨gd, 0, none⟩) kd2 d wC (unhide HJ).s hic (.inr ⟨_, rfl⟩) hdl (fun o ho => (unhide HTT o ho).2))
      unfold rsV ocA at HDo
      dsimp only at HDo
      clear hic hdl
      refine (unhide HDo).mono ?_
      rintro y w1 hq
      unfold PlQ rsV at hq
      obtain ⟨g', n2, L2, a2, c2, D2, rfl, s1, x1⟩ := hq
      dsimp only
      have hJ1 := (unhide HJ).on x1
      obtain ⟨y0, y1⟩ := clsR_two hJ1.k
      have f0 := hJ1.k.frozen 0
      have f1 := hJ1.k.frozen 1
      have kp := clsR_put2 hJ1.k (.int .i64 n2) (.slice a2 D2.length c2) hJ1.b hJ1.g
      have HJN : Hid (ScR w ((w1.setCell ⟨G9, 0, none⟩ (.int .i64 n2)).setCell ⟨G9, 1, none⟩ (.slice a2 D2.length c2)) G9 g' n2 L2 a2 c2 D2) := hide ⟨s1.put2 hJ1.k _ _, kp.1, kp.2, hJ1.g⟩
      have HKN := hide (ClsR.apart2 (B := G9) ((unhide HKC).below x1 (unhide HKC).lt) (by have := unhide HBO; have := unhide HGB; omega) (.int .i64 n2) (.slice a2 D2.length c2))
      have HON := hide (rowR_put2' (rowD_below (unhide HOC) x1 (Nat.le_refl _)) (unhide HGB) (.int .i64 n2) (.slice a2 D2.length c2))
      clear HDo HJ HKC HOC s1 x1 hJ1 kp HIC
      go_upto_region 15 with fail
      clear y0 y1 f0 f1
      generalize (w1.setCell ⟨G9, 0, none⟩ (.int .i64 n2)).setCell ⟨G9, 1, none⟩ (.slice a2 D2.length c2) = wN at *
      have o6 := ((unhide HKN).cell 6).trans rfl
      have d9 := (rwk_cell (unhide HON) (d.length * 3) (by omega)).1
      rw [List.getElem?_append_right (by rw [opsV_lenR]; exact Nat.le_refl _), opsV_lenR, Nat.sub_self] at d9
      have hSN := unhide HJN
      have q6 := (unhide HQ wN hSN.b).2.2.2.2.2.2
      have HSQ : Hid (wN.cell? ⟨bo, 6, none⟩ = some (.slice (some ⟨gd, 0, none⟩) d.length kd2) ∧ wN.cell? ⟨eg, eo + i * 7 + 6, none⟩ = some (.slice ad d.length cd) ∧ wN.cell? ⟨gd, d.length * 3, none⟩ = some (.int .i64 9)) := hide ⟨o6, q6, d9⟩
      have HIN := hide (And.intro (own_isORv (rwk_cut (unhide HON) (opsV_lenR d) (by simp))) (unhide HDI wN hSN.b))
      have HSM := hide (RSame_at (some ⟨gd, 0, none⟩) kd2 d ad cd d wN.drew (unhide HIN).1 (unhide HIN).2 (unhide HD9) (unhide HD9) (fun o ho => (unhide HTT o ho).1) (fun o ho => (unhide HTT o ho).1))
      rw [decide_eq_true (rfl : d = d)] at HSM
      have HSD : Hid (wN.drew.cell? ⟨bo, 6, none⟩ = some (.slice (some ⟨gd, 0, none⟩) d.length kd2) ∧ wN.drew.cell? ⟨eg, eo + i * 7 + 6, none⟩ = some (.slice ad d.length cd) ∧ wN.drew.cell? ⟨gd, d.length * 3, none⟩ = some (.int .i64 9)) := HSQ
      have HBD := hide (Below.refl wN.heap.size wN).drew
      have hSW : Hid (∀ Y, Below wN.heap.size wN Y → Y.cell? ⟨bo, 6, none⟩ = some (.slice (some ⟨gd, 0, none⟩) d.length kd2) ∧ Y.cell? ⟨eg, eo + i * 7 + 6, none⟩ = some (.slice ad d.length cd) ∧ Y.cell? ⟨gd, d.length * 3, none⟩ = some (.int .i64 9)) := hide fun Y hY => by
        obtain ⟨e1, e2, e3⟩ := unhide HSQ
        exact ⟨(hY.cell (p := ⟨bo, 6, none⟩) (unhide HKN).lt).trans e1, (unhide HQ Y (hSN.b.trans (hY.mono hSN.b.size))).2.2.2.2.2.2, (hY.cell (p := ⟨gd, d.length * 3, none⟩) ((unhide HON).lt gd rfl).2).trans e3⟩
      have hb1 : d.length < d.length + 1 := Nat.lt_succ_self _
      have hb2 : (d.length : Int) < (d.length : Int) + 1 := by omega
      have hb3 : (0 : Int) ≤ (d.length : Int) := Int.natCast_nonneg _
      clear o6 d9 hSN q6 HSQ HIN
      refine regionL (S := fun z => z.cell? ⟨bo, 6, none⟩ = some (.slice (some ⟨gd, 0, none⟩) d.length kd2) ∧ z.cell? ⟨eg, eo + i * 7 + 6, none⟩ = some (.slice ad d.length cd) ∧ z.cell? ⟨gd, d.length * 3, none⟩ = some (.int .i64 9)) (fun _ => false) (by kernel_rfl) ?_
      refine anyL_take (i := 0) (v := ?vo150) rfl (by kernel_rfl) (by kernel_rfl) (by kernel_rfl) (by kernel_rfl) (fun _ _ _ h => h) (Or.inl ⟨by rfl, ?ho150⟩) (unhide HSD) ?_
      case ho150 => (intro w hSw; (try dsimp only at hSw); go_simp) <;> with_reducible rfl
      simp only [Act.put, List.getElem_toArray, List.getElem_cons_zero, List.setIfInBounds_toArray, List.set_cons_zero, List.set_cons_succ]
      refine anyL_take (i := 1) (v := ?vo151) rfl (by kernel_rfl) (by kernel_rfl) (by kernel_rfl) (by kernel_rfl) (fun _ _ _ h => h) (Or.inl ⟨by rfl, ?ho151⟩) (unhide HSD) ?_
      case ho151 => (intro w hSw; (try dsimp only at hSw); go_simp) <;> with_reducible rfl
      simp only [Act.put, List.getElem_toArray, List.getElem_cons_zero, List.getElem_cons_succ, List.setIfInBounds_toArray, List.set_cons_zero, List.set_cons_succ]
      refine anyL_take (i := 2) (v := ?vo152) rfl (by kernel_rfl) (by kernel_rfl) (by kernel_rfl) (by kernel_rfl) (fun _ _ _ h => h) (Or.inl ⟨by rfl, ?ho152⟩) (unhide HSD) ?_
      case ho152 => (intro w hSw; (try dsimp only at hSw); go_simp) <;> with_reducible rfl
      simp only [Act.put, List.getElem_toArray, List.getElem_cons_zero, List.getElem_cons_succ, List.setIfInBounds_toArray, List.set_cons_zero, List.set_cons_succ]
      refine anyL_take (i := 3) (v := ?vo153) rfl (by kernel_rfl) (by kernel_rfl) (by kernel_rfl) (by kernel_rfl) (fun _ _ _ h => h) (Or.inl ⟨by rfl, ?ho153⟩) (unhide HSD) ?_
      case ho153 => (intro w hSw; (try dsimp only at hSw); go_simp) <;> with_reducible rfl
      simp only [Act.put, List.getElem_toArray, List.getElem_cons_zero, List.getElem_cons_succ, List.setIfInBounds_toArray, List.set_cons_zero, List.set_cons_succ]
      refine anyL_take (i := 4) (v := ?vo154) rfl (by kernel_rfl) (by kernel_rfl) (by kernel_rfl) (by kernel_rfl) (fun _ _ _ h => h) (Or.inl ⟨by rfl, ?ho154⟩) (unhide HSD) ?_
      case ho154 => (intro w hSw; (try dsimp only at hSw); go_simp) <;> with_reducible rfl
      simp only [Act.put, List.getElem_toArray, List.getElem_cons_zero, List.getElem_cons_succ, List.setIfInBounds_toArray, List.set_cons_zero, List.set_cons_succ]
      refine anyL_take (i := 5) (v := ?vo155) rfl (by kernel_rfl) (by kernel_rfl) (by kernel_rfl) (by kernel_rfl) (fun _ _ _ h => h) (Or.inl ⟨by rfl, ?ho155⟩) (unhide HSD) ?_
      case ho155 => (intro w hSw; (try dsimp only at hSw); go_simp) <;> with_reducible rfl
      simp only [Act.put, List.getElem_toArray, List.getElem_cons_zero, List.getElem_cons_succ, List.setIfInBounds_toArray, List.set_cons_zero, List.set_cons_succ]
      refine anyL_take (i := 6) (v := ?vo156) rfl (by kernel_rfl) (by kernel_rfl) (by kernel_rfl) (by kernel_rfl) (fun _ _ _ h => h) (Or.inl ⟨by rfl, ?ho156⟩) (unhide HSD) ?_
      case ho156 => (intro w hSw; (try dsimp only at hSw); go_simp) <;> with_reducible rfl
      simp only [Act.put, List.getElem_toArray, List.getElem_cons_zero, List.getElem_cons_succ, List.setIfInBounds_toArray, List.set_cons_zero, List.set_cons_succ]
      refine anyL_take (i := 7) (v := ?vo157) rfl (by kernel_rfl) (by kernel_rfl) (by kernel_rfl) (by kernel_rfl) (fun _ _ _ h => h) (Or.inl ⟨by rfl, ?ho157⟩) (unhide HSD) ?_
      case ho157 => (intro w hSw; (try dsimp only at hSw); go_simp) <;> with_reducible rfl
      simp only [Act.put, List.getElem_toArray, List.getElem_cons_zero, List.getElem_cons_succ, List.setIfInBounds_toArray, List.set_cons_zero, List.set_cons_succ]
      refine anyL_take (i := 8) (v := ?vo158) rfl (by kernel_rfl) (by kernel_rfl) (by kernel_rfl) (by kernel_rfl) (fun _ _ _ h => h) (Or.inl ⟨by rfl, ?ho158⟩) (unhide HSD) ?_
      case ho158 => (intro w hSw; (try dsimp only at hSw); go_simp) <;> with_reducible rfl
      simp only [Act.put, List.getElem_toArray, List.getElem_cons_zero, List.getElem_cons_succ, List.setIfInBounds_toArray, List.set_cons_zero, List.set_cons_succ]
      refine anyL_take (i := 9) (v := ?vo159) rfl (by kernel_rfl) (by kernel_rfl) (by kernel_rfl) (by kernel_rfl) (fun _ _ _ h => h) (Or.inl ⟨by rfl, ?ho159⟩) (unhide HSD) ?_
      case ho159 => (intro w hSw; (try dsimp only at hSw); go_simp) <;> with_reducible rfl
      simp only [Act.put, List.getElem_toArray, List.getElem_cons_zero, List.getElem_cons_succ, List.setIfInBounds_toArray, List.set_cons_zero, List.set_cons_succ]
      refine anyL_ready (rs := [10]) (by kernel_rfl) (by simp) ?_
      refine AllL.cons rfl (fun K hK => ?_) AllL.nil
      go_simp
      refine (unhide HSM).mono ?_
      rintro y v1 ⟨rfl, x0⟩
      have x1 := (unhide HBD).trans (x0.mono (unhide HBD).size)
      have HX1 := hide x1
      have HJ8 := hide ((unhide HJN).on x1)
      clear HSM x0 x1 HJN
      refine unhide hK _ _ (fun _ => unhide hSW v1 (unhide HX1)) ?_
      clear hK K
      refine anyL_take (i := 11) (v := ?vo1510) rfl (by kernel_rfl) (by kernel_rfl) (by kernel_rfl) (by kernel_rfl) (fun _ _ _ h => h) (Or.inl ⟨by rfl, ?ho1510⟩) (unhide hSW v1 (unhide HX1)) ?_
      case ho1510 => (intro w hSw; (try dsimp only at hSw); go_simp) <;> with_reducible rfl
      simp only [Act.put, List.getElem_toArray, List.getElem_cons_zero, List.getElem_cons_succ, List.setIfInBounds_toArray, List.set_cons_zero, List.set_cons_succ]
      refine anyL_take (i := 12) (v := ?vo1511) rfl (by kernel_rfl) (by kernel_rfl) (by kernel_rfl) (by kernel_rfl) (fun _ _ _ h => h) (Or.inl ⟨by rfl, ?ho1511⟩) (unhide hSW v1 (unhide HX1)) ?_
      case ho1511 => (intro w hSw; (try dsimp only at hSw); go_simp) <;> with_reducible rfl
      simp only [Act.put, List.getElem_toArray, List.getElem_cons_zero, List.getElem_cons_succ, List.setIfInBounds_toArray, List.set_cons_zero, List.set_cons_succ]
      refine anyL_take (i := 13) (v := ?vo1512) rfl (by kernel_rfl) (by kernel_rfl) (by kernel_rfl) (by kernel_rfl) (fun _ _ _ h => h) (Or.inl ⟨by rfl, ?ho1512⟩) (unhide hSW v1 (unhide HX1)) ?_
      case ho1512 => (intro w hSw; (try dsimp only at hSw); go_simp) <;> with_reducible rfl
      simp only [Act.put, List.getElem_toArray, List.getElem_cons_zero, List.getElem_cons_succ, List.setIfInBounds_toArray, List.set_cons_zero, List.set_cons_succ]
      refine anyL_take (i := 14) (v := ?vo1513) rfl (by kernel_rfl) (by kernel_rfl) (by kernel_rfl) (by kernel_rfl) (fun _ _ _ h => h) (Or.inl ⟨by rfl, ?ho1513⟩) (unhide hSW v1 (unhide HX1)) ?_
      case ho1513 => (intro w hSw; (try dsimp only at hSw); go_simp) <;> with_reducible rfl
      simp only [Act.put, List.getElem_toArray, List.getElem_cons_zero, List.getElem_cons_succ, List.setIfInBounds_toArray, List.set_cons_zero, List.set_cons_succ]
      refine anyL_take (i := 15) (v := ?vo1514) rfl (by kernel_rfl) (by kernel_rfl) (by kernel_rfl) (by kernel_rfl) (fun _ _ _ h => h) (Or.inl ⟨by rfl, ?ho1514⟩) (unhide hSW v1 (unhide HX1)) ?_
      case ho1514 => (intro w hSw; (try dsimp only at hSw); go_simp) <;> with_reducible rfl
      simp only [Act.put, List.getElem_toArray, List.getElem_cons_zero, List.getElem_cons_succ, List.setIfInBounds_toArray, List.set_cons_zero, List.set_cons_succ]
      refine anyL_take (i := 16) (v := ?vo1515) rfl (by kernel_rfl) (by kernel_rfl) (by kernel_rfl) (by kernel_rfl) (fun _ _ _ h => h) (Or.inl ⟨by rfl, ?ho1515⟩) (unhide hSW v1 (unhide HX1)) ?_
      case ho1515 => (intro w hSw; (try dsimp only at hSw); go_simp) <;> with_reducible rfl
      simp only [Act.put, List.getElem_toArray, List.getElem_cons_zero, List.getElem_cons_succ, List.setIfInBounds_toArray, List.set_cons_zero, List.set_cons_succ]
      refine anyL_take (i := 17) (v := ?vo1516) rfl (by kernel_rfl) (by kernel_rfl) (by kernel_rfl) (by kernel_rfl) (fun _ _ _ h => h) (Or.inl ⟨by rfl, ?ho1516⟩) (unhide hSW v1 (unhide HX1)) ?_
      case ho1516 => (intro w hSw; (try dsimp only at hSw); go_simp) <;> with_reducible rfl
      simp only [Act.put, List.getElem_toArray, List.getElem_cons_zero, List.getElem_cons_succ, List.setIfInBounds_toArray, List.set_cons_zero, List.set_cons_succ]
      refine anyL_take (i := 18) (v := ?vo1517) rfl (by kernel_rfl) (by kernel_rfl) (by kernel_rfl) (by kernel_rfl) (fun _ _ _ h => h) (Or.inl ⟨by rfl, ?ho1517⟩) (unhide hSW v1 (unhide HX1)) ?_
      case ho1517 => (intro w hSw; (try dsimp only at hSw); go_simp) <;> with_reducible rfl
      simp only [Act.put, List.getElem_toArray, List.getElem_cons_zero, List.getElem_cons_succ, List.setIfInBounds_toArray, List.set_cons_zero, List.set_cons_succ]
      refine anyL_take (i := 19) (v := ?vo1518) rfl (by kernel_rfl) (by kernel_rfl) (by kernel_rfl) (by kernel_rfl) (fun _ _ _ h => h) (Or.inl ⟨by rfl, ?ho1518⟩) (unhide hSW v1 (unhide HX1)) ?_
      case ho1518 => (intro w hSw; (try dsimp only at hSw); go_simp) <;> with_reducible rfl
      simp only [Act.put, List.getElem_toArray, List.getElem_cons_zero, List.getElem_cons_succ, List.setIfInBounds_toArray, List.set_cons_zero, List.set_cons_succ]
      refine anyL_take (i := 20) (v := ?vo1519) rfl (by kernel_rfl) (by kernel_rfl) (by kernel_rfl) (by kernel_rfl) (fun _ _ _ h => h) (Or.inl ⟨by rfl, ?ho1519⟩) (unhide hSW v1 (unhide HX1)) ?_
      case ho1519 => (intro w hSw; (try dsimp only at hSw); go_simp) <;> with_reducible rfl
      simp only [Act.put, List.getElem_toArray, List.getElem_cons_zero, List.getElem_cons_succ, List.setIfInBounds_toArray, List.set_cons_zero, List.set_cons_succ]
      refine anyL_take (i := 21) (v := ?vo1520) rfl (by kernel_rfl) (by kernel_rfl) (by kernel_rfl) (by kernel_rfl) (fun _ _ _ h => h) (Or.inl ⟨by rfl, ?ho1520⟩) (unhide hSW v1 (unhide HX1)) ?_
      case ho1520 => (intro w hSw; (try dsimp only at hSw); go_simp) <;> with_reducible rfl
      simp only [Act.put, List.getElem_toArray, List.getElem_cons_zero, List.getElem_cons_succ, List.setIfInBounds_toArray, List.set_cons_zero, List.set_cons_succ]
      refine anyL_take (i := 22) (v := ?vo1521) rfl (by kernel_rfl) (by kernel_rfl) (by kernel_rfl) (by kernel_rfl) (fun _ _ _ h => h) (Or.inl ⟨by rfl, ?ho1521⟩) (unhide hSW v1 (unhide HX1)) ?_
      case ho1521 => (intro w hSw; (try dsimp only at hSw); go_simp) <;> with_reducible rfl
      simp only [Act.put, List.getElem_toArray, List.getElem_cons_zero, List.getElem_cons_succ, List.setIfInBounds_toArray, List.set_cons_zero, List.set_cons_succ]
      refine anyL_done (by kernel_rfl) ?_ _
      clear HKN HON HSD HBD HD9 hSW hb1 hb2 hb3 hk3 HQ HDI HTT HAc HBO HGB
      have HJ7 := HJ8
      clear HJ8
      have HL1 := hide (GList_at g' n2 L2 v1 (unhide HJ7).s.m (unhide HJ7).s.len2)
      go_wp2_with fail
      refine (unhide HL1).mono ?_
      rintro y u1 ⟨a5, c5, E5, rfl, p5, _, o5, x5⟩
      dsimp only
      have HJU1 := hide ((unhide HJ7).on x5)
      have HL2 := hide (GCov_at g' n2 L2 u1 (unhide HJU1).s.m (unhide HJU1).s.len2)
      have HO5 := hide (And.intro o5 x5)
      have hE5 : E5.length ≤ 1048576 := by rw [p5.length_eq]; exact Nat.le_trans (List.length_filter_le _ _) (unhide HJ7).s.len2
      clear HL1 o5 x5 p5
      go_wp2_with fail
      refine (unhide HL2).mono ?_
      rintro y u2 ⟨a6, c6, E6, rfl, p6, s6, o6, x6⟩
      dsimp only
      have e6 : D2 = E6 := ((unhide HJU1).s.list p6 s6).symm
      subst e6
      have HJU2 := hide ((unhide HJU1).on x6)
      have HL3 := hide (GOver_at g' n2 L2 0 n u2 (unhide HJU2).s.m (unhide HJU2).s.len2)
      have HO6 := hide (And.intro o6 x6)
      have hE6 : (covL D2).length ≤ 1048576 := (unhide HJU2).s.cov
      clear HL2 o6 x6 p6 s6 HJU1
      go_wp2_with fail
      refine (unhide HL3).mono ?_
      rintro y u3 ⟨a7, c7, E7, rfl, p7, _, o7, x7⟩
      dsimp only
      have hE7 : E7.length ≤ 1048576 := by rw [p7.length_eq]; exact Nat.le_trans (List.length_filter_le _ _) (unhide HJU2).s.len2
      have HT0 : Hid (TrJ v1 u3 (.slice a5 E5.length c5) (.slice a6 (covL D2).length c6) (.slice a7 E7.length c7) E5.length (covL D2).length E7.length) := by
        obtain ⟨o5, x5⟩ := unhide HO5
        obtain ⟨o6, x6⟩ := unhide HO6
        exact hide ⟨⟨_, rowD_below (rowD_below o5 x6 (Nat.le_refl _)) x7 (Nat.le_refl _)⟩, ⟨_, rowD_base (rowD_below o6 x7 (Nat.le_refl _)) x5.size⟩, ⟨_, rowD_base o7 (Nat.le_trans x5.size x6.size)⟩, nb_age o5 x6.size o7 (Nat.le_refl _), (x5.trans (x6.mono x5.size)).trans (x7.mono (Nat.le_trans x5.size x6.size))⟩
      clear HL3 HO5 HO6 HJU2 p7 o7 x7
      generalize E5.length = nx at *
      generalize hny : (covL D2).length = ny at *
      generalize E7.length = nz at *
      clear hny
      have hnx := hE5
      have hny := hE6
      have hnz := hE7
      clear hE5 hE6 hE7
      go_wp2_with fail
      go_loopw [16, 106] (fun vv vk wx => (∃ z, vv = z) ∧ ∃ k : Nat, vk = .int .i64 (k : Int) ∧ k ≤ nx ∧ Hid (TrJ v1 wx (.slice a5 nx c5) (.slice a6 ny c6) (.slice a7 nz c7) nx ny nz)) (fun _ vk _ => nx - (intOf vk).toNat)
      case atStart => exact ⟨⟨_, rfl⟩, 0, rfl, Nat.zero_le _, hide (unhide HT0)⟩
      case round =>
        obtain ⟨⟨zz, rfl⟩, k, rfl, hk, HT⟩ := hrel
        by_cases hlk : k < nx
        · have p1 : decide ((k : Int) < (nx : Int)) = true := decide_eq_true (by omega)
          obtain ⟨rs, hrs⟩ := (unhide HT).x
          obtain ⟨gx, rfl⟩ : ∃ gx, a5 = some ⟨gx, 0, none⟩ := by
            rcases hrs.2 with ⟨_, h0⟩ | ⟨gx, _, _, e, _⟩
            · omega
            · injection e with e1 e2 e3
              exact ⟨gx, e1⟩
          obtain ⟨⟨⟨ob0, so0⟩, sf0, ⟨ob1, so1⟩, sf1, ⟨ob2, so2⟩, sf2, ⟨ob3, so3⟩, sf3, ⟨ob4, so4⟩, sf4⟩, _⟩ := row_steps5 hrs hlk (.string ⟨#[63]⟩) (.int .i64 0) (.int .i64 0) (.int .i64 0) (.int .i64 0)
          have HT2 := hide ((unhide HT).setx (i := k) ⟨#[63]⟩)
          have hkb : k ≤ 1048576 := Nat.le_trans hk hnx
          clear HT hrs
          go_wp2_with fail
          go_roundw
          case rel => exact ⟨⟨_, rfl⟩, k + 1, by go_num, hlk, hide (unhide HT2)⟩
          case measure => simp [intOf]; omega
        · have hkk : nx = k := by omega
          subst hkk
          have p1 : decide ((nx : Int) < (nx : Int)) = false := decide_eq_false (by omega)
          have HT1 := HT
          clear hlk hk HT
          go_wp2_with fail
          go_loopw [17, 116] (fun vv vk wx => (∃ z, vv = z) ∧ ∃ k : Nat, vk = .int .i64 (k : Int) ∧ k ≤ ny ∧ Hid (TrJ v1 wx (.slice a5 nx c5) (.slice a6 ny c6) (.slice a7 nz c7) nx ny nz)) (fun _ vk _ => ny - (intOf vk).toNat)
          case atStart => exact ⟨⟨_, rfl⟩, 0, rfl, Nat.zero_le _, hide (unhide HT1)⟩
          case round =>
            obtain ⟨⟨zz, rfl⟩, k, rfl, hk, HT⟩ := hrel
            by_cases hlk : k < ny
            · have p1 : decide ((k : Int) < (ny : Int)) = true := decide_eq_true (by omega)
              obtain ⟨rs, hrs⟩ := (unhide HT).y
              obtain ⟨gx, rfl⟩ : ∃ gx, a6 = some ⟨gx, 0, none⟩ := by
                rcases hrs.2 with ⟨_, h0⟩ | ⟨gx, _, _, e, _⟩
                · omega
                · injection e with e1 e2 e3
                  exact ⟨gx, e1⟩
              obtain ⟨⟨⟨ob0, so0⟩, sf0, ⟨ob1, so1⟩, sf1⟩, _⟩ := row_steps2 hrs hlk (.int .i64 (-1)) (.int .i64 0)
              have HT2 := hide ((unhide HT).sety (i := k) (-1) 0)
              have hkb : k ≤ 1048576 := Nat.le_trans hk hny
              clear HT hrs
              go_wp2_with fail
              go_roundw
              case rel => exact ⟨⟨_, rfl⟩, k + 1, by go_num, hlk, hide (unhide HT2)⟩
              case measure => simp [intOf]; omega
            · have hkk : ny = k := by omega
              subst hkk
              have p1 : decide ((ny : Int) < (ny : Int)) = false := decide_eq_false (by omega)
              have HT2 := HT
              clear hlk hk HT
              go_wp2_with fail
              go_loopw [18, 126] (fun vv vk wx => (∃ z, vv = z) ∧ ∃ k : Nat, vk = .int .i64 (k : Int) ∧ k ≤ nz ∧ Hid (TrJ v1 wx (.slice a5 nx c5) (.slice a6 ny c6) (.slice a7 nz c7) nx ny nz)) (fun _ vk _ => nz - (intOf vk).toNat)
              case atStart => exact ⟨⟨_, rfl⟩, 0, rfl, Nat.zero_le _, hide (unhide HT2)⟩
              case round =>
                obtain ⟨⟨zz, rfl⟩, k, rfl, hk, HT⟩ := hrel
                by_cases hlk : k < nz
                · have p1 : decide ((k : Int) < (nz : Int)) = true := decide_eq_true (by omega)
                  obtain ⟨rs, hrs⟩ := (unhide HT).z
                  obtain ⟨gx, rfl⟩ : ∃ gx, a7 = some ⟨gx, 0, none⟩ := by
                    rcases hrs.2 with ⟨_, h0⟩ | ⟨gx, _, _, e, _⟩
                    · omega
                    · injection e with e1 e2 e3
                      exact ⟨gx, e1⟩
                  obtain ⟨⟨⟨ob0, so0⟩, sf0, ⟨ob1, so1⟩, sf1, ⟨ob2, so2⟩, sf2, ⟨ob3, so3⟩, sf3, ⟨ob4, so4⟩, sf4⟩, _⟩ := row_steps5 hrs hlk (.string ⟨#[33]⟩) (.int .i64 0) (.int .i64 0) (.int .i64 0) (.int .i64 0)
                  have HT2 := hide ((unhide HT).setz (i := k) ⟨#[33]⟩)
                  have hkb : k ≤ 1048576 := Nat.le_trans hk hnz
                  clear HT hrs
                  go_wp2_with fail
                  go_roundw
                  case rel => exact ⟨⟨_, rfl⟩, k + 1, by go_num, hlk, hide (unhide HT2)⟩
                  case measure => simp [intOf]; omega
                · have hkk : nz = k := by omega
                  subst hkk
                  have p1 : decide ((nz : Int) < (nz : Int)) = false := decide_eq_false (by omega)
                  have HT3 := HT
                  clear hlk hk HT
                  go_wp2_with fail
                  generalize Value.slice a5 nx c5 = vx at *
                  generalize Value.slice a6 ny c6 = vy at *
                  generalize Value.slice a7 nz c7 = vz at *
                  go_loopw [13, 14, 15, 19] (fun v13 v14 v15 v19 wx => ∃ k : Nat, v19 = .int .i64 (k : Int) ∧ k ≤ 20 ∧ Hid (TrJ v1 wx v13 v14 v15 (nx + k) (ny + k) (nz + k))) (fun _ _ _ v19 _ => 20 - (intOf v19).toNat)
                  case atStart => exact ⟨0, rfl, Nat.zero_le _, hide (unhide HT3)⟩
                  case round =>
                    obtain ⟨k, rfl, hk, HT⟩ := hrel
                    by_cases hlk : k < 20
                    · have p1 : decide ((k : Int) < 20) = true := decide_eq_true (by omega)
                      obtain ⟨vx', W1, r1, h1⟩ := (unhide HT).pushx (by omega)
                      obtain ⟨vy', W2, r2, h2⟩ := h1.pushy (by omega)
                      obtain ⟨vz', W3, r3, h3⟩ := h2.pushz (by omega)
                      have R1 := hide r1
                      have R2 := hide r2
                      have R3 := hide r3
                      have HT4 := hide h3
                      clear HT r1 r2 r3 h1 h2 h3
                      go_wp2_with (at_builtin; first | (refine wpList_append_known rfl _ _ 28 28 rfl _ _ rfl rfl _ _ (unhide R1) ?_; clear R1) | (refine wpList_append_known rfl _ _ 56 56 rfl _ _ rfl rfl _ _ (unhide R2) ?_; clear R2) | (refine wpList_append_known rfl _ _ 28 28 rfl _ _ rfl rfl _ _ (unhide R3) ?_; clear R3))
                      go_roundw
                      case rel => exact ⟨k + 1, by go_num, hlk, hide (unhide HT4)⟩
                      case measure => simp [intOf]; omega
                    · obtain rfl : k = 20 := by omega
                      have p1 : decide (((20 : Nat) : Int) < 20) = false := by decide
                      have HJ9 := hide ((unhide HJ7).on (unhide HT).b)
                      have HTL := hide (tells_at g' n2 L2 a2 c2 D2 wr (unhide HJ9).s)
                      unfold rsV at HTL
                      obtain ⟨j0, j1⟩ := clsR_two (unhide HJ9).k
                      clear HT HJ7 hlk hk
                      go_wp2_with fail
                      refine (unhide HTL).mono ?_
                      rintro y wz ⟨rfl, xz⟩
                      dsimp only
                      have HJZ := hide ((unhide HJ9).on xz)
                      clear HTL HJ9 xz j0 j1
                      go_wp2_with fail
                      go_roundw
                      case rel => exact ⟨⟨⟨_, rfl⟩, ⟨_, rfl⟩, ⟨_, rfl⟩, ⟨_, rfl⟩, ⟨_, rfl⟩, ⟨_, rfl⟩, ⟨_, rfl⟩, ⟨_, rfl⟩, ⟨_, rfl⟩, ⟨_, rfl⟩⟩, i + 1, g', by go_num, rfl, hlt, hide ⟨_, _, _, _, _, unhide HJZ⟩⟩
                      case measure => simp [intOf]; omega
    · obtain rfl : i = N := by omega
      have t1 : decide ((i : Int) < (i : Int)) = false := decide_eq_false (by omega)
      clear hlt
      go_wp2_with fail
      refine bodyPost_ret (results_tmp rfl _ _ _) rfl ⟨rfl, (unhide HJ).b⟩
end Go.Proofs.Ytifpjdodignflaa
end
