/- Layer 16: the law's play (written by wip/tools/rgs.py). · Layer 16: RangesPlays' walk (written by wip/tools/rgs.py). · Layer 13: arguments: bytes and a list of operations that came in, of whatever size. · A list of operations that came in: its room. · Arguments that are a Range: a name and four numbers. -/
import Derived.Test.YtifpjdodignflaaRp41
import Derived.Test.YtifpjdodignflaaRp42
import Derived.Test.YtifpjdodignflaaRp43
import Derived.Test.YtifpjdodignflaaRp44
import Derived.Test.YtifpjdodignflaaRp40
import Derived.Test.YtifpjdodignflaaRows
import Derived.Test.YtifpjdodignflaaRp25
import Derived.SizedLaws
import Derived.LaidLaws
import Derived.Deep.DeepHandedRow
import Derived.Deep.Slices
import Derived.Deep.SlicePairs
import Derived.OpenShut
import Derived.Test.YtifpjdodignflaaRp00

section
namespace Go.Proofs.Ytifpjdodignflaa
open Go.ChangeShapes Go.WideShapes Go.ChangeAt Go.RowKit
attribute [local go_sem] Oper.semAt_some

theorem play_at (g : Nat) (n : Int) (L : List Rg) (a : Option Addr) (c : Nat) (D : List Rg) (kd : Int) (x : Rg) (ad : Option Addr) (cd : Nat) (d : List Dop) (X : World) (h : StR X g n L a D) (ho : IsO X ad d) (hz : d = [] ∨ ∃ q, ad = some q) (hdl : d.length * 32 ≤ 140737488355328) (ht : ∀ o ∈ d, o.t.length ≤ 140737488355328) :
    Calls Try.prog 11 #[.pointer (some ⟨g, 0, none⟩), rsV n a D.length c, ocA kd x ad d.length cd] X (PlQ X) := by
  by_cases k0 : kd = 0
  · subst k0
    by_cases hr : refG n L x = 0
    · exact playSO_at g n L a c D x ad cd d X h ho hr
    · exact playSE_at g n L a c D x ad cd d X h ho hr
  by_cases k1 : kd = 1
  · subst k1
    cases hg : getG x.n L with
    | none => exact playDE_at g n L a c D x ad cd d X h ho hg
    | some m => exact playDO_at g n L a c D x ad cd d X h ho m hg
  by_cases k2 : kd = 2
  · subst k2
    cases hv : valB d with
    | false => exact playBV_at g n L a c D x ad cd d X h ho hz hdl ht hv
    | true =>
      by_cases hf : (frD d : Int) = n
      · exact playBO_at g n L a c D x ad cd d X h ho hz hdl ht hv hf
      · exact playBF_at g n L a c D x ad cd d X h ho hz hdl ht hv hf
  cases hg : getG x.n L with
  | none => exact playGN_at g n L a c D kd x ad cd d X h ho k0 k1 k2 hg
  | some m => exact playGS_at g n L a c D kd x ad cd d X h ho k0 k1 k2 m hg
end Go.Proofs.Ytifpjdodignflaa
end

section
namespace Go.Proofs.Ytifpjdodignflaa
open Go.ChangeShapes Go.WideShapes Go.ChangeAt Go.RowKit
attribute [local go_sem] Oper.semAt_some

set_option maxRecDepth 100000 in
set_option maxHeartbeats 8000000 in
theorem RangesPlays_any (n : Int) (A : Option Addr) (cp : Nat) (l : List Oc) (w : World) (_hn : (Lit.int .i64 n).wf = true) (hA : IsOc w A l) (hl : l.length ≤ 4398046511104) :
    Calls Try.prog 3 #[.int .i64 n, .slice A l.length cp] w fun y w' => y = .returned (.bool true) ∧ Below w.heap.size w w' := by
  have HAw := hide (awake16_at w)
  have HAc := hide hA
  obtain ⟨N, hN⟩ : ∃ N, N = l.length := ⟨_, rfl⟩
  have HN := hide hN
  rw [← hN] at hl ⊢
  clear hA hN _hn
  by_cases hr : 0 ≤ n ∧ n ≤ 268435456
  case neg =>
    have HN1 := hide fun (Y : World) => GNewE_at n Y hr
    have HN2 := hide fun (Y : World) => RNewRE_at n Y hr
    clear hr
    go_enter Try.func3, Try.ntmps3
    go_wp2_with fail
    refine (unhide HAw).mono ?_
    rintro y w1 ⟨rfl, x1⟩
    dsimp only
    have HX1 := hide x1
    have HC2 := hide (unhide HN1 w1)
    clear HAw HN1 x1
    go_wp2_with fail
    refine (unhide HC2).mono ?_
    rintro y w2 ⟨rfl, x2⟩
    dsimp only
    have HX2 := hide ((unhide HX1).trans (x2.mono (unhide HX1).size))
    have HC3 := hide (unhide HN2 w2)
    clear HC2 HX1 x2 HN2
    go_wp2_with fail
    refine (unhide HC3).mono ?_
    rintro y w3 ⟨rfl, x3⟩
    dsimp only
    have hx3 := (unhide HX2).trans (x3.mono (unhide HX2).size)
    have HX3 := hide (hx3.alloc hx3.size (.cells #[.int .i64 0, .slice none 0 0] 30))
    clear HC3 HX2 x3 hx3
    go_wp2_with fail
    refine bodyPost_ret (results_tmp rfl _ _ _) rfl ⟨rfl, unhide HX3⟩
  have HN1 := hide fun (Y : World) => GNew_at n Y hr
  have HN2 := hide fun (Y : World) => RNewR_at n Y hr
  have HRq := hide hr
  clear hr
  go_enter Try.func3, Try.ntmps3
  go_wp2_with fail
  refine (unhide HAw).mono ?_
  rintro y w1 ⟨rfl, x1⟩
  dsimp only
  have HX1 := hide x1
  have HC2 := hide (unhide HN1 w1)
  clear HAw HN1 x1
  go_wp2_with fail
  refine (unhide HC2).mono ?_
  rintro y w2 ⟨g0, rfl, _, s2, x2⟩
  dsimp only
  have HX2 := hide ((unhide HX1).trans (x2.mono (unhide HX1).size))
  have HS2 := hide s2
  have HC3 := hide (unhide HN2 w2)
  clear HC2 HX1 x2 HN2 s2
  go_wp2_with fail
  refine (unhide HC3).mono ?_
  rintro y w3 ⟨rfl, x3⟩
  dsimp only
  have hx3 := (unhide HX2).trans (x3.mono (unhide HX2).size)
  have b3 := (Below.refl w3.heap.size w3).alloc (Nat.le_refl _) (.cells #[.int .i64 n, .slice none 0 0] 30)
  have HJ0 : Hid (ScR w (w3.alloc (.cells #[.int .i64 n, .slice none 0 0] 30)) w3.heap.size g0 n [] none 0 []) := hide ⟨⟨((unhide HS2).below x3 (Nat.le_refl _)).below b3 (Nat.le_refl _), .inl rfl, Rel.nil, by simp [InR], by simp, unhide HRq, .inl rfl⟩, Cls.new w3 30 _, hx3.trans (b3.mono hx3.size), hx3.size⟩
  clear HC3 HX2 x3 hx3 HS2 b3
  go_wp2_with fail
  generalize w3.alloc (.cells #[.int .i64 n, .slice none 0 0] 30) = w4 at *
  generalize w3.heap.size = G9 at *
  go_loopw [5, 9, 10] (fun v5 v9 v10 wx => (∃ z, v10 = z) ∧ ∃ (i g1 : Nat), v9 = .int .i64 (i : Int) ∧ v5 = .pointer (some ⟨g1, 0, none⟩) ∧ i ≤ N ∧ Hid (∃ n1 L1 a1 c1 D, ScR w wx G9 g1 n1 L1 a1 c1 D)) (fun _ v9 _ _ => N - (intOf v9).toNat)
  case atStart => exact ⟨⟨_, rfl⟩, 0, g0, rfl, rfl, Nat.zero_le _, hide ⟨_, _, _, _, _, unhide HJ0⟩⟩
  case round =>
    clear HJ0
    obtain ⟨⟨z1, rfl⟩, i, g1, rfl, rfl, hi, HI⟩ := hrel
    obtain ⟨n1, L1, a1, c1, D, hJ⟩ := unhide HI
    have HJ := hide hJ
    clear HI hJ
    by_cases hlt : i < N
    · have t1 : decide ((i : Int) < (N : Int)) = true := decide_eq_true (by omega)
      have hlt' : i < l.length := by rw [← unhide HN]; exact hlt
      obtain ⟨hAI, eg, eo, ha, heg, hcl⟩ := (unhide HAc).at hlt' (unhide HJ).b
      subst ha
      generalize l.getD i ocZ = ac at *
      obtain ⟨kd, ⟨xn, xl, xh, xs, xe⟩, ad, cd, d⟩ := ac
      have q0 := hcl 0 (by decide)
      have q1 := hcl 1 (by decide)
      have q2 := hcl 2 (by decide)
      have q3 := hcl 3 (by decide)
      have q4 := hcl 4 (by decide)
      have q5 := hcl 5 (by decide)
      have q6 := hcl 6 (by decide)
      have hSc : wr.cell? ⟨G9, 0, none⟩ = some (.int .i64 n1) ∧ wr.cell? ⟨G9, 1, none⟩ = some (.slice a1 D.length c1) ∧ wr.cell? ⟨eg, eo + i * 7, none⟩ = some (.int .i64 kd) ∧ wr.cell? ⟨eg, eo + i * 7 + 1, none⟩ = some (.string xn) ∧ wr.cell? ⟨eg, eo + i * 7 + 2, none⟩ = some (.int .i64 xl) ∧ wr.cell? ⟨eg, eo + i * 7 + 3, none⟩ = some (.int .i64 xh) ∧ wr.cell? ⟨eg, eo + i * 7 + 4, none⟩ = some (.int .i64 xs) ∧ wr.cell? ⟨eg, eo + i * 7 + 5, none⟩ = some (.int .i64 xe) ∧ wr.cell? ⟨eg, eo + i * 7 + 6, none⟩ = some (.slice ad d.length cd) := ⟨(clsR_two (unhide HJ).k).1, (clsR_two (unhide HJ).k).2, q0, q1, q2, q3, q4, q5, q6⟩
      have heg' : eg < wr.heap.size := Nat.lt_of_lt_of_le heg (unhide HJ).b.size
      have HSw : Hid (∀ Y, Below wr.heap.size wr Y → Y.cell? ⟨G9, 0, none⟩ = some (.int .i64 n1) ∧ Y.cell? ⟨G9, 1, none⟩ = some (.slice a1 D.length c1) ∧ Y.cell? ⟨eg, eo + i * 7, none⟩ = some (.int .i64 kd) ∧ Y.cell? ⟨eg, eo + i * 7 + 1, none⟩ = some (.string xn) ∧ Y.cell? ⟨eg, eo + i * 7 + 2, none⟩ = some (.int .i64 xl) ∧ Y.cell? ⟨eg, eo + i * 7 + 3, none⟩ = some (.int .i64 xh) ∧ Y.cell? ⟨eg, eo + i * 7 + 4, none⟩ = some (.int .i64 xs) ∧ Y.cell? ⟨eg, eo + i * 7 + 5, none⟩ = some (.int .i64 xe) ∧ Y.cell? ⟨eg, eo + i * 7 + 6, none⟩ = some (.slice ad d.length cd)) := hide fun Y hY => by
        obtain ⟨p0, p1, p2, p3, p4, p5, p6, p7, p8⟩ := hSc
        have hb : ∀ (g o : Nat), g < wr.heap.size → Y.cell? ⟨g, o, none⟩ = wr.cell? ⟨g, o, none⟩ := fun g o hg => hY.cell (p := ⟨g, o, none⟩) hg
        have kl := (unhide HJ).k.lt
        exact ⟨(hb _ _ kl).trans p0, (hb _ _ kl).trans p1, (hb _ _ heg').trans p2, (hb _ _ heg').trans p3, (hb _ _ heg').trans p4, (hb _ _ heg').trans p5, (hb _ _ heg').trans p6, (hb _ _ heg').trans p7, (hb _ _ heg').trans p8⟩
      have HX0 := hide ((Below.refl wr.heap.size wr).drew)
      have HDo := hide (play_at g1 n1 L1 a1 c1 D kd ⟨xn, xl, xh, xs, xe⟩ ad cd d wr.drew ((unhide HJ).s.below (unhide HX0) (Nat.le_refl _)) (hAI.o.below (unhide HX0) (Nat.le_refl _)) hAI.z hAI.l (fun o ho => (hAI.t o ho).2))
      unfold rsV ocA at HDo
      dsimp only at HDo
      clear hAI hcl q0 q1 q2 q3 q4 q5 q6 hSc heg heg' hlt'
      go_upto_region 13 with fail
      refine regionL (S := fun z => z.cell? ⟨G9, 0, none⟩ = some (.int .i64 n1) ∧ z.cell? ⟨G9, 1, none⟩ = some (.slice a1 D.length c1) ∧ z.cell? ⟨eg, eo + i * 7, none⟩ = some (.int .i64 kd) ∧ z.cell? ⟨eg, eo + i * 7 + 1, none⟩ = some (.string xn) ∧ z.cell? ⟨eg, eo + i * 7 + 2, none⟩ = some (.int .i64 xl) ∧ z.cell? ⟨eg, eo + i * 7 + 3, none⟩ = some (.int .i64 xh) ∧ z.cell? ⟨eg, eo + i * 7 + 4, none⟩ = some (.int .i64 xs) ∧ z.cell? ⟨eg, eo + i * 7 + 5, none⟩ = some (.int .i64 xe) ∧ z.cell? ⟨eg, eo + i * 7 + 6, none⟩ = some (.slice ad d.length cd)) (fun i => i == 10 || i == 12 || i == 13) (by kernel_rfl) ?_
      generalize wr.drew = zz at *
      refine anyL_take2 (i := 0) (v := ?vsc56) rfl (by kernel_rfl) (by kernel_rfl) (by kernel_rfl) (by kernel_rfl) (fun _ _ _ h => h) (Or.inl ⟨by rfl, ?hsc56⟩) (unhide HSw _ (unhide HX0)) ?_
      case hsc56 => (intro w hSw; (try dsimp only at hSw); go_simp) <;> with_reducible rfl
      simp only [Act.put, List.getElem_toArray, List.getElem_cons_zero, List.setIfInBounds_toArray, List.set_cons_zero, List.set_cons_succ]
      refine anyL_take2 (i := 1) (v := ?vsc57) rfl (by kernel_rfl) (by kernel_rfl) (by kernel_rfl) (by kernel_rfl) (fun _ _ _ h => h) (Or.inl ⟨by rfl, ?hsc57⟩) (unhide HSw _ (unhide HX0)) ?_
      case hsc57 => (intro w hSw; (try dsimp only at hSw); go_simp) <;> with_reducible rfl
      simp only [Act.put, List.getElem_toArray, List.getElem_cons_zero, List.getElem_cons_succ, List.setIfInBounds_toArray, List.set_cons_zero, List.set_cons_succ]
      refine anyL_take2 (i := 2) (v := ?vsc58) rfl (by kernel_rfl) (by kernel_rfl) (by kernel_rfl) (by kernel_rfl) (fun _ _ _ h => h) (Or.inl ⟨by rfl, ?hsc58⟩) (unhide HSw _ (unhide HX0)) ?_
      case hsc58 => (intro w hSw; (try dsimp only at hSw); go_simp) <;> with_reducible rfl
      simp only [Act.put, List.getElem_toArray, List.getElem_cons_zero, List.getElem_cons_succ, List.setIfInBounds_toArray, List.set_cons_zero, List.set_cons_succ]
      refine anyL_take2 (i := 3) (v := ?vsc59) rfl (by kernel_rfl) (by kernel_rfl) (by kernel_rfl) (by kernel_rfl) (fun _ _ _ h => h) (Or.inl ⟨by rfl, ?hsc59⟩) (unhide HSw _ (unhide HX0)) ?_
      case hsc59 => (intro w hSw; (try dsimp only at hSw); go_simp) <;> with_reducible rfl
      simp only [Act.put, List.getElem_toArray, List.getElem_cons_zero, List.getElem_cons_succ, List.setIfInBounds_toArray, List.set_cons_zero, List.set_cons_succ]
      refine anyL_take2 (i := 4) (v := ?vsc60) rfl (by kernel_rfl) (by kernel_rfl) (by kernel_rfl) (by kernel_rfl) (fun _ _ _ h => h) (Or.inl ⟨by rfl, ?hsc60⟩) (unhide HSw _ (unhide HX0)) ?_
      case hsc60 => (intro w hSw; (try dsimp only at hSw); go_simp) <;> with_reducible rfl
      simp only [Act.put, List.getElem_toArray, List.getElem_cons_zero, List.getElem_cons_succ, List.setIfInBounds_toArray, List.set_cons_zero, List.set_cons_succ]
      refine anyL_take2 (i := 5) (v := ?vsc61) rfl (by kernel_rfl) (by kernel_rfl) (by kernel_rfl) (by kernel_rfl) (fun _ _ _ h => h) (Or.inl ⟨by rfl, ?hsc61⟩) (unhide HSw _ (unhide HX0)) ?_
      case hsc61 => (intro w hSw; (try dsimp only at hSw); go_simp) <;> with_reducible rfl
      simp only [Act.put, List.getElem_toArray, List.getElem_cons_zero, List.getElem_cons_succ, List.setIfInBounds_toArray, List.set_cons_zero, List.set_cons_succ]
      refine anyL_ready (rs := [6]) (by kernel_rfl) (by simp) ?_
      refine AllL.cons rfl (fun K hK => ?_) AllL.nil
      go_simp
      refine (unhide HDo).mono ?_
      rintro y w1 hq
      unfold PlQ rsV at hq
      obtain ⟨g', n2, L2, a2, c2, D2, rfl, s1, x1⟩ := hq
      have hx1 := (unhide HX0).trans (x1.mono (unhide HX0).size)
      have HX1 := hide hx1
      have HJ2 := hide (And.intro ((unhide HJ).k.below hx1 (unhide HJ).k.lt) (And.intro ((unhide HJ).b.trans (hx1.mono (unhide HJ).b.size)) s1))
      clear HDo s1 x1 hx1
      refine unhide hK _ _ (fun _ => unhide HSw w1 (unhide HX1)) ?_
      clear hK K
      refine anyL_take2 (i := 7) (v := ?vsc62) rfl (by kernel_rfl) (by kernel_rfl) (by kernel_rfl) (by kernel_rfl) (fun _ _ _ h => h) (Or.inl ⟨by rfl, ?hsc62⟩) (unhide HSw w1 (unhide HX1)) ?_
      case hsc62 => (intro w hSw; (try dsimp only at hSw); go_simp) <;> with_reducible rfl
      simp only [Act.put, List.getElem_toArray, List.getElem_cons_zero, List.getElem_cons_succ, List.setIfInBounds_toArray, List.set_cons_zero, List.set_cons_succ]
      refine anyL_free (i := 10) (v := ?vscf63) rfl (by kernel_rfl) (by kernel_rfl) (by kernel_rfl) rfl (fun _ _ _ h => h) (Or.inl ⟨by rfl, ?hscf63⟩) ?_
      case hscf63 => (intro w hSw; go_simp) <;> with_reducible rfl
      simp only [Act.put, List.getElem_toArray, List.getElem_cons_zero, List.getElem_cons_succ, List.setIfInBounds_toArray, List.set_cons_zero, List.set_cons_succ]
      refine anyL_take2 (i := 8) (v := ?vsc64) rfl (by kernel_rfl) (by kernel_rfl) (by kernel_rfl) (by kernel_rfl) (fun _ _ _ h => h) (Or.inl ⟨by rfl, ?hsc64⟩) (unhide HSw w1 (unhide HX1)) ?_
      case hsc64 => (intro w hSw; (try dsimp only at hSw); go_simp) <;> with_reducible rfl
      simp only [Act.put, List.getElem_toArray, List.getElem_cons_zero, List.getElem_cons_succ, List.setIfInBounds_toArray, List.set_cons_zero, List.set_cons_succ]
      refine anyL_take2 (i := 9) (v := ?vsc65) rfl (by kernel_rfl) (by kernel_rfl) (by kernel_rfl) (by kernel_rfl) (fun _ _ _ h => h) (Or.inl ⟨by rfl, ?hsc65⟩) (unhide HSw w1 (unhide HX1)) ?_
      case hsc65 => (intro w hSw; (try dsimp only at hSw); go_simp) <;> with_reducible rfl
      simp only [Act.put, List.getElem_toArray, List.getElem_cons_zero, List.getElem_cons_succ, List.setIfInBounds_toArray, List.set_cons_zero, List.set_cons_succ]
      refine anyL_take2 (i := 11) (v := ?vsc66) rfl (by kernel_rfl) (by kernel_rfl) (by kernel_rfl) (by kernel_rfl) (fun _ _ _ h => h) (Or.inl ⟨by rfl, ?hsc66⟩) (unhide HSw w1 (unhide HX1)) ?_
      case hsc66 => (intro w hSw; (try dsimp only at hSw); go_simp) <;> with_reducible rfl
      simp only [Act.put, List.getElem_toArray, List.getElem_cons_zero, List.getElem_cons_succ, List.setIfInBounds_toArray, List.set_cons_zero, List.set_cons_succ]
      refine anyL_ready (rs := [12]) (by kernel_rfl) (by simp) ?_
      refine AllL.cons rfl (fun K hK => ?_) AllL.nil
      obtain ⟨y0, y1⟩ := clsR_two (unhide HJ2).1
      have f0 := (unhide HJ2).1.frozen 0
      have f1 := (unhide HJ2).1.frozen 1
      have kp := clsR_put2 (unhide HJ2).1 (.int .i64 n2) (.slice a2 D2.length c2) (unhide HJ2).2.1 (unhide HJ).g
      have HJN : Hid (ScR w ((w1.setCell ⟨G9, 0, none⟩ (.int .i64 n2)).setCell ⟨G9, 1, none⟩ (.slice a2 D2.length c2)) G9 g' n2 L2 a2 c2 D2) := hide ⟨(unhide HJ2).2.2.put2 (unhide HJ2).1 _ _, kp.1, kp.2, (unhide HJ).g⟩
      clear kp HJ2
      go_simp
      clear y0 y1 f0 f1
      refine unhide hK _ _ (fun h => by cases h) ?_
      clear hK K
      refine anyL_ready (rs := [13]) (by kernel_rfl) (by simp) ?_
      refine AllL.cons rfl (fun K hK => ?_) AllL.nil
      go_simp
      refine unhide hK _ _ (fun h => by cases h) ?_
      clear hK K
      refine anyL_done (by kernel_rfl) ?_ _
      generalize (w1.setCell ⟨G9, 0, none⟩ (.int .i64 n2)).setCell ⟨G9, 1, none⟩ (.slice a2 D2.length c2) = wN at *
      clear HSw HX0 HX1 HJ
      go_wp2_with fail
      go_roundw
      case rel => exact ⟨⟨_, rfl⟩, i + 1, g', by go_num, rfl, hlt, hide ⟨_, _, _, _, _, unhide HJN⟩⟩
      case measure => simp [intOf]; omega
    · obtain rfl : i = N := by omega
      have t1 : decide ((i : Int) < (i : Int)) = false := decide_eq_false (by omega)
      clear hlt
      go_wp2_with fail
      refine bodyPost_ret (results_tmp rfl _ _ _) rfl ⟨rfl, (unhide HJ).b⟩
end Go.Proofs.Ytifpjdodignflaa
end

section
namespace Go.Proofs.Ytifpjdodignflaa
open Go.ChangeShapes Go.WideShapes Go.ChangeAt Go.RowKit

theorem ownC : ownKnob Try.prog.godebug = none := by kernel_rfl
theorem laidOut : laidOutB Try.prog = true := by kernel_rfl
noncomputable def laidWorld (os : Os) : World := World.holding Try.prog os ⟨#[], #[], []⟩
/-- a []byte that came in reads as these bytes -/
theorem row_of_trod {H : Type} {enc : TypeId × Value → H} {W : World} {a0 : Option Addr} {len0 cap0 : Nat} {d0 : DataW H} {p0 : List MemPlace}
    (h0 : DataW.Trod enc Try.prog W 0 (fun _ => true) true 43 (Value.slice a0 len0 cap0) d0 p0)
    {ts : List TypeId} {ds : List (DataW H)} {j : Nat} (hsz : (DataW.weightsEach Try.prog ts ds).all (· ≤ reachBytes) = true) (ht : ts[j]? = some 43) (hd : ds[j]? = some d0) :
    ∃ l : List Int, len0 = l.length ∧ IsB W a0 cap0 l := by
  obtain ⟨fuel, hf⟩ := h0
  rcases open_ints Try.underlying43 Try.underlying5 (by kernel_rfl) hf with ⟨hcs, _⟩ | ⟨x, l, c, zs, hcs, _, hl, hm, hz, hx, hcell, hwz⟩
  · simp [Value.cells] at hcs
    obtain ⟨rfl, rfl, rfl⟩ := hcs
    exact ⟨[], rfl, by simp, by simp, Or.inl rfl, by simp⟩
  · simp [Value.cells] at hcs
    obtain ⟨rfl, rfl, rfl⟩ := hcs
    simp only [Prod.mk.injEq] at hx
    obtain ⟨rfl, _⟩ := hx
    have hz' : zs.length = cap0 := by simpa using hz
    have hs := sized_slice hsz ht hd Try.underlying43
    rw [show Try.prog.bytesOf 5 = 1 by kernel_rfl] at hs
    have hr : reachBytes = 140737488351232 := rfl
    simp [lits] at hs
    have hlen : (zs.take len0).length = len0 := by simp; omega
    have hby : ∀ x ∈ zs, 0 ≤ x ∧ x ≤ 255 := fun n hn => bounds_u8 (hwz n hn)
    refine ⟨zs.take len0, hlen.symm, by rw [hlen]; omega, by rw [hlen]; omega, ?_, fun y hy => hby y (List.mem_of_mem_take hy)⟩
    rcases Nat.eq_zero_or_pos len0 with h0 | h0
    · subst h0; exact Or.inl rfl
    · obtain ⟨b, off, spot⟩ := x
      have hspot : spot = none := by simpa [Addr.add] using World.cell?_spot (hcell 0 (by omega))
      subst hspot
      refine Or.inr ⟨b, off, rfl, fun i hi => ?_⟩
      rw [hlen] at hi
      have e : (zs.take len0).getD i 0 = zs.getD i 0 := by simp [List.getD, hi]
      rw [e]
      have hc := hcell i (by omega)
      rw [Addr.add_lit] at hc
      refine ⟨hc, ?_⟩
      have := hby (zs[i]'(by omega)) (List.getElem_mem _)
      simpa [List.getD, List.getElem?_eq_getElem (show i < zs.length by omega)] using this
theorem one_intO {H : Type} {enc : TypeId × Value → H} {P : Program} {W : World} {spare : Nat → Bool} {m : Nat} {t : TypeId} (ht : P.underlying t = some (.int .i64)) {xs : List (DataW H × List MemPlace)} {L : List Value} {i k : Nat} (hi : i < xs.length)
    (h : DataW.trod enc P W 0 spare true m t ((L.drop k).take 1) = xs[i]?) : ∃ n : Int, L[k]? = some (.int .i64 n) := by
  rw [List.getElem?_eq_getElem hi] at h
  obtain ⟨n, hn, _⟩ := DataW.trod_int ht h
  refine ⟨n, ?_⟩
  have := congrArg (·[0]?) hn
  simpa [List.getElem?_take, List.getElem?_drop] using this
theorem one_strO {H : Type} {enc : TypeId × Value → H} {P : Program} {W : World} {spare : Nat → Bool} {m : Nat} {t : TypeId} (ht : P.underlying t = some .string) {xs : List (DataW H × List MemPlace)} {L : List Value} {i k : Nat} (hi : i < xs.length)
    (h : DataW.trod enc P W 0 spare true m t ((L.drop k).take 1) = xs[i]?) : ∃ s : ByteArray, L[k]? = some (.string s) ∧ (xs[i]'hi).1 = .lit (.string s.data.toList) := by
  rw [List.getElem?_eq_getElem hi] at h
  obtain ⟨n, hn, hx⟩ := DataW.trod_string ht h
  refine ⟨n, ?_, by rw [hx.1]⟩
  have := congrArg (·[0]?) hn
  simpa [List.getElem?_take, List.getElem?_drop] using this
/-- a string's bytes as numbers -/
def numsO (s : ByteArray) : List Int := s.data.toList.map fun u => (u.toNat : Int)
theorem numsO_in (s : ByteArray) : ∀ x ∈ numsO s, 0 ≤ x ∧ x ≤ 255 := by
  intro x hx
  obtain ⟨u, _, rfl⟩ := List.mem_map.1 hx
  have := u.toNat_lt
  omega
theorem str_numsO (s : ByteArray) : strOfNums (numsO s) = s := by
  unfold strOfNums numsO
  apply ByteArray.ext
  have e : ((fun n : Int => UInt8.ofNat n.toNat) ∘ fun u : UInt8 => (u.toNat : Int)) = id := by
    funext u
    simp
  rw [List.map_map, e, List.map_id]
theorem wE_atO {H : Type} {P : Program} : ∀ {ts : List TypeId} {ds : List (DataW H)} {j : Nat} {t : TypeId} {d : DataW H}, ts[j]? = some t → ds[j]? = some d → ∀ x ∈ d.weights P t, x ∈ DataW.weightsEach P ts ds
  | [], _, _, _, _, ht, _, _, _ => by simp at ht
  | _ :: _, [], _, _, _, _, hd, _, _ => by simp at hd
  | t0 :: ts, d0 :: ds, 0, t, d, ht, hd, x, hx => by
    simp only [List.getElem?_cons_zero, Option.some.injEq] at ht hd
    subst ht hd
    rw [DataW.weightsEach]
    exact List.mem_append_left _ hx
  | t0 :: ts, d0 :: ds, j + 1, t, d, ht, hd, x, hx => by
    simp only [List.getElem?_cons_succ] at ht hd
    rw [DataW.weightsEach]
    exact List.mem_append_right _ (wE_atO ht hd x hx)
theorem wA_atO {H : Type} {P : Program} {e : TypeId} : ∀ {l : List (DataW H)} {d : DataW H}, d ∈ l → ∀ x ∈ d.weights P e, x ∈ DataW.weightsAll P e l
  | [], _, h, _, _ => by simp at h
  | d0 :: r, d, h, x, hx => by
    rw [DataW.weightsAll]
    rcases List.mem_cons.1 h with rfl | h
    · exact List.mem_append_left _ hx
    · exact List.mem_append_right _ (wA_atO h x hx)
instance : Inhabited Dop := ⟨opZ⟩
set_option maxRecDepth 100000 in
theorem op_cells {H : Type} {enc : TypeId × Value → H} {W : World} {cs : List Value} {fuel : Nat} {x : DataW H × List MemPlace}
    (hl : cs.length = 3) (hb : ∀ y ∈ x.1.weights Try.prog 54, y ≤ reachBytes) (hf : DataW.trod enc Try.prog W 0 (fun _ => true) true fuel 54 cs = some x) : ∃ q : Dop, cs = opL q ∧ TbD q ∧ q.t.length ≤ 140737488355328 := by
  obtain ⟨xs, n, _, hxx, _, hx, hall⟩ := DataW.trod_struct Try.underlying54 hf
  have hx' : xs.length = 3 := hx
  have hc : Try.prog.cellsOf 3 = 1 := by kernel_rfl
  have hc1 : Try.prog.cellsOf 52 = 1 := by kernel_rfl
  have hc2 : Try.prog.cellsOf 9 = 1 := by kernel_rfl
  have j0 : DataW.trod enc Try.prog W 0 (fun _ => true) true n 52 ((cs.drop 0).take (Try.prog.cellsOf 52)) = xs[0]? := hall 0 _ rfl
  have j1 : DataW.trod enc Try.prog W 0 (fun _ => true) true n 3 ((cs.drop 1).take (Try.prog.cellsOf 3)) = xs[1]? := hall 1 _ rfl
  have j2 : DataW.trod enc Try.prog W 0 (fun _ => true) true n 9 ((cs.drop 2).take (Try.prog.cellsOf 9)) = xs[2]? := hall 2 _ rfl
  rw [hc1] at j0
  rw [hc] at j1
  rw [hc2] at j2
  obtain ⟨k, e0⟩ := one_intO Try.underlying52 (by omega) j0
  obtain ⟨m, e1⟩ := one_intO Try.underlying3 (by omega) j1
  obtain ⟨s, e2, es⟩ := one_strO Try.underlying9 (by omega) j2
  refine ⟨⟨k, m, numsO s⟩, ?_, numsO_in s, ?_⟩
  · unfold opL
    dsimp only
    rw [str_numsO]
    apply List.ext_getElem?
    intro i
    match i with
    | 0 => exact e0
    | 1 => exact e1
    | 2 => exact e2
    | i + 3 => rw [List.getElem?_eq_none (by omega)]; rfl
  · have h1 : (xs.map fun x => x.1)[2]? = some (xs[2]'(by omega)).1 := by simp [List.getElem?_eq_getElem (show 2 < xs.length by omega)]
    have hr : reachBytes = 140737488351232 := rfl
    have := hb s.data.toList.length (by
      rw [hxx]
      simp only [DataW.weights, Try.underlying54]
      refine wE_atO (j := 2) (t := 9) rfl h1 _ ?_
      rw [es]
      simp [DataW.weights])
    simp only [numsO, List.length_map]
    omega
set_option maxRecDepth 100000 in
/-- the list of operations -/
theorem ops_of_trod {H : Type} {enc : TypeId × Value → H} {W : World} {a0 : Option Addr} {len0 cap0 : Nat} {d0 : DataW H} {p0 : List MemPlace}
    (h0 : DataW.Trod enc Try.prog W 0 (fun _ => true) true 39 (Value.slice a0 len0 cap0) d0 p0)
    {ts : List TypeId} {ds : List (DataW H)} {j : Nat} (hsz : (DataW.weightsEach Try.prog ts ds).all (· ≤ reachBytes) = true) (ht : ts[j]? = some 39) (hd : ds[j]? = some d0) :
    ∃ q : List Dop, len0 = q.length ∧ IsO W a0 q ∧ (q = [] ∨ ∃ p, a0 = some p) ∧ q.length * 32 ≤ 140737488355328 ∧ ∀ o ∈ q, TbD o ∧ o.t.length ≤ 140737488355328 := by
  have hall : ∀ y ∈ d0.weights Try.prog 39, y ≤ reachBytes := fun y hy => of_decide_eq_true (List.all_eq_true.1 hsz y (wE_atO ht hd y hy))
  obtain ⟨fuel, hf⟩ := h0
  rcases Go.Deep.open_slice Try.underlying39 hf with ⟨hcs, _⟩ | ⟨a, len, cap, m, n, D, Pl, hcs, _, hl, hm, hmm, hx, hrow⟩
  · simp [Value.cells] at hcs
    obtain ⟨rfl, rfl, rfl⟩ := hcs
    exact ⟨[], rfl, Or.inl rfl, Or.inl rfl, by simp, by simp⟩
  · simp [Value.cells] at hcs
    obtain ⟨rfl, rfl, rfl⟩ := hcs
    simp only [Prod.mk.injEq] at hx
    obtain ⟨rfl, _⟩ := hx
    have hs := sized_slice hsz ht hd Try.underlying39
    rw [show Try.prog.bytesOf 54 = 32 by kernel_rfl] at hs
    have hr : reachBytes = 140737488351232 := rfl
    simp only [List.length_map, List.length_range] at hs
    simp only [DataW.weights, Try.underlying39] at hall
    simp only [if_true] at hmm
    subst hmm
    have ce : Try.prog.cellsOf 54 = 3 := by kernel_rfl
    have each : ∀ r, r < len0 → ∃ y : Dop, (TbD y ∧ y.t.length ≤ 140737488355328) ∧ ∀ j, j < 3 → W.cell? (a.add (r * 3 + j)) = (opL y)[j]? := by
      intro r hr
      obtain ⟨cs', h1, h2⟩ := hrow r (by omega)
      rw [ce] at h1
      obtain ⟨_, hlen, hcell⟩ := World.cells?_some h1
      have hbr : ∀ y ∈ (D r).weights Try.prog 54, y ≤ reachBytes := fun y hy => hall y (List.mem_cons_of_mem _ (List.mem_append_left _ (wA_atO (by simp; exact ⟨r, hr, rfl⟩) y hy)))
      obtain ⟨y, rfl, hby⟩ := op_cells hlen hbr h2
      refine ⟨y, hby, fun j hj => ?_⟩
      have e := hcell j (by omega)
      rw [Go.Deep.add_add] at e
      rw [e, List.getElem?_eq_getElem (by simpa [opL] using hj)]
    obtain ⟨y, hy⟩ := Go.Deep.choose_lt each
    refine ⟨(List.range len0).map y, by simp, ?_, Or.inr ⟨_, rfl⟩, by simp; omega, ?_⟩
    · rcases Nat.eq_zero_or_pos len0 with h0 | h0
      · subst h0; exact Or.inl rfl
      · obtain ⟨b, off, spot⟩ := a
        have hc1 : W.cell? (Addr.add ⟨b, off, spot⟩ (0 * 3 + 0)) = some (.int .i64 (y 0).k) := (hy 0 (by omega)).2 0 (by decide)
        have hspot : spot = none := by simpa [Addr.add] using World.cell?_spot hc1
        subst hspot
        have hbl : b < W.heap.size := by
          rcases Nat.lt_or_ge b W.heap.size with h | h
          · exact h
          · rw [Addr.add_lit] at hc1
            simp [World.cell?, Array.getElem?_eq_none h] at hc1
        refine Or.inr ⟨b, off, rfl, hbl, fun r hr => ?_⟩
        simp only [List.length_map, List.length_range] at hr
        have hgr : ((List.range len0).map y).getD r opZ = y r := by simp [List.getD, hr]
        rw [hgr]
        have f : ∀ j, j < 3 → W.cell? ⟨b, off + (r * 3 + j), none⟩ = (opL (y r))[j]? := fun j hj => by have := (hy r hr).2 j hj; rwa [Addr.add_lit] at this
        exact ⟨f 0 (by decide), f 1 (by decide), f 2 (by decide)⟩
    · intro o ho
      obtain ⟨r, hr, rfl⟩ := List.mem_map.1 ho
      exact (hy r (by simpa using hr)).1
end Go.Proofs.Ytifpjdodignflaa
end

section
namespace Go.Proofs.Ytifpjdodignflaa
open Go.ChangeShapes Go.WideShapes Go.ChangeAt Go.RowKit

theorem ops_cap {H : Type} {enc : TypeId × Value → H} {W : World} {a0 : Option Addr} {len0 cap0 : Nat} {d0 : DataW H} {p0 : List MemPlace}
    (h0 : DataW.Trod enc Try.prog W 0 (fun _ => true) true 39 (Value.slice a0 len0 cap0) d0 p0) : len0 ≤ cap0 := by
  obtain ⟨fuel, hf⟩ := h0
  rcases Go.Deep.open_slice Try.underlying39 hf with ⟨hcs, _⟩ | ⟨a, len, cap, m, n, D, Pl, hcs, _, hl, hm, hmm, hx, hrow⟩
  · simp [Value.cells] at hcs
    omega
  · simp [Value.cells] at hcs
    obtain ⟨rfl, rfl, rfl⟩ := hcs
    exact hl

end Go.Proofs.Ytifpjdodignflaa
end

section
namespace Go.Proofs.Ytifpjdodignflaa
open Go.ChangeShapes Go.WideShapes Go.ChangeAt Go.RowKit

theorem one_intR {H : Type} {enc : TypeId × Value → H} {P : Program} {W : World} {spare : Nat → Bool} {m : Nat} {t : TypeId} (ht : P.underlying t = some (.int .i64)) {xs : List (DataW H × List MemPlace)} {L : List Value} {i k : Nat} (hi : i < xs.length)
    (h : DataW.trod enc P W 0 spare true m t ((L.drop k).take 1) = xs[i]?) : ∃ n : Int, L[k]? = some (.int .i64 n) := by
  rw [List.getElem?_eq_getElem hi] at h
  obtain ⟨n, hn, _⟩ := DataW.trod_int ht h
  refine ⟨n, ?_⟩
  have := congrArg (·[0]?) hn
  simpa [List.getElem?_take, List.getElem?_drop] using this
theorem one_strR {H : Type} {enc : TypeId × Value → H} {P : Program} {W : World} {spare : Nat → Bool} {m : Nat} {t : TypeId} (ht : P.underlying t = some .string) {xs : List (DataW H × List MemPlace)} {L : List Value} {i k : Nat} (hi : i < xs.length)
    (h : DataW.trod enc P W 0 spare true m t ((L.drop k).take 1) = xs[i]?) : ∃ s : ByteArray, L[k]? = some (.string s) := by
  rw [List.getElem?_eq_getElem hi] at h
  obtain ⟨n, hn, _⟩ := DataW.trod_string ht h
  refine ⟨n, ?_⟩
  have := congrArg (·[0]?) hn
  simpa [List.getElem?_take, List.getElem?_drop] using this
set_option maxRecDepth 100000 in
theorem range_of_trod {H : Type} {enc : TypeId × Value → H} {W : World} {v : Value} {d0 : DataW H} {p0 : List MemPlace} {base : Nat} (hv : Value.okWide Try.prog W .any base 37 v)
    (h0 : DataW.Trod enc Try.prog W 0 (fun _ => true) true 37 v d0 p0) : ∃ x : Rg, v = rgV x := by
  obtain ⟨cs, rfl, hs⟩ := okWide_struct Try.underlying37 hv
  obtain ⟨fuel, hf⟩ := h0
  obtain ⟨xs, n, _, _, _, hx, hall⟩ := DataW.trod_struct Try.underlying37 hf
  have hs' : cs.size = 5 := hs.trans (by kernel_rfl)
  have hx' : xs.length = 5 := hx
  have hl : cs.toList.length = 5 := by simpa using hs'
  have hc : Try.prog.cellsOf 3 = 1 := by kernel_rfl
  have hc2 : Try.prog.cellsOf 35 = 1 := by kernel_rfl
  have hc3 : Try.prog.cellsOf 9 = 1 := by kernel_rfl
  have g0 : DataW.trod enc Try.prog W 0 (fun _ => true) true n 9 ((cs.toList.drop 0).take (Try.prog.cellsOf 9)) = xs[0]? := hall 0 _ rfl
  have g1 : DataW.trod enc Try.prog W 0 (fun _ => true) true n 3 ((cs.toList.drop 1).take (Try.prog.cellsOf 3)) = xs[1]? := hall 1 _ rfl
  have g2 : DataW.trod enc Try.prog W 0 (fun _ => true) true n 3 ((cs.toList.drop 2).take (Try.prog.cellsOf 3)) = xs[2]? := hall 2 _ rfl
  have g3 : DataW.trod enc Try.prog W 0 (fun _ => true) true n 35 ((cs.toList.drop 3).take (Try.prog.cellsOf 35)) = xs[3]? := hall 3 _ rfl
  have g4 : DataW.trod enc Try.prog W 0 (fun _ => true) true n 35 ((cs.toList.drop 4).take (Try.prog.cellsOf 35)) = xs[4]? := hall 4 _ rfl
  rw [hc] at g1 g2
  rw [hc2] at g3 g4
  rw [hc3] at g0
  obtain ⟨s, e0⟩ := one_strR Try.underlying9 (by omega) g0
  obtain ⟨a, e1⟩ := one_intR Try.underlying3 (by omega) g1
  obtain ⟨b, e2⟩ := one_intR Try.underlying3 (by omega) g2
  obtain ⟨c, e3⟩ := one_intR Try.underlying35 (by omega) g3
  obtain ⟨e, e4⟩ := one_intR Try.underlying35 (by omega) g4
  refine ⟨⟨s, a, b, c, e⟩, ?_⟩
  unfold rgV
  dsimp only
  congr 1
  apply Array.ext'
  apply List.ext_getElem?
  intro i
  match i with
  | 0 => exact e0
  | 1 => exact e1
  | 2 => exact e2
  | 3 => exact e3
  | 4 => exact e4
  | i + 5 => rw [List.getElem?_eq_none (by omega)]; rfl
end Go.Proofs.Ytifpjdodignflaa
end
