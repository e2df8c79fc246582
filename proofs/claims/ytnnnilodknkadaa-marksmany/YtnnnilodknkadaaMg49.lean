/- Layer 15: MarksMany's walk (written by wip/tools/mkp.py). -/
import Derived.Test.YtnnnilodknkadaaMg48
import Derived.Test.YtnnnilodknkadaaMg13

namespace Go.Proofs.Ytnnnilodknkadaa
open Go.ChangeShapes Go.WideShapes Go.ChangeAt Go.RowKit
attribute [local go_sem] Oper.semAt_some

def nmC (j : Nat) : Array Value := #[.int .u8 ((j : Int) / 256), .int .u8 ((j : Int) % 256)]
theorem conv_nm (W : World) (g j : Nat) (h : Cls W g 5 (nmC j)) : (convert 67 9 (.slice (some ⟨g, 0, none⟩) 2 2)).run Try.prog W = .ok (.string (strOfNums (nmN j))) W :=
  run_convert_bytes_arg W 67 5 Try.underlying67 Try.underlying5 g 0 2 2 (nmN j) rfl (fun i hi => by
    rw [Nat.zero_add, h.cell i]
    match i, hi with
    | 0, _ => rfl
    | 1, _ => rfl) 9 Try.underlying9
theorem mkm_V (i : Nat) : mkV (mkm i) = .agg #[.string (strOfNums (nmN i)), .int .i64 ((i : Int).tmod 5), .int .i64 1] := by
  rw [Int.tmod_eq_emod_of_nonneg (by omega)]; rfl
/-- what the loop keeps -/
structure MyI (w wx : World) (gN : Nat) (i g : Nat) : Prop where
  m : IsMs wx g 4 (mny i)
  n : Cls wx gN 5 (nmC (i - 1))
  b : Below w.heap.size w wx
  a : w.heap.size ≤ gN
set_option maxRecDepth 100000 in
set_option maxHeartbeats 8000000 in
theorem MarksMany_any (w : World) : Calls Try.prog 8 #[] w fun y w' => y = .returned (.bool true) ∧ Below w.heap.size w w' := by
  have HAw := hide (awake15_at w)
  have HBg := hide fun (Y : World) => begin_at 4 Y (by decide)
  have HSt := hide fun (Y : World) (g i : Nat) (hi : i < 1024) (h : IsMs Y g 4 (mny i)) => MSet_at g 4 (mny i) (mkm i) Y h (mny_ref hi)
  simp only [mkm_V] at HSt
  have HSA := hide fun (Y : World) (g : Nat) (h : IsMs Y g 4 (mny 1024)) => MSetE_at g 4 (mny 1024) mnA Y h (by rw [mnA_ref]; decide)
  have HSB := hide fun (Y : World) (g : Nat) (h : IsMs Y g 4 (mny 1024)) => MSet_at g 4 (mny 1024) mnB Y h mnB_ref
  have HDr := hide fun (Y : World) (g : Nat) (h : IsMs Y g 4 mn2) => MDrop_at g 4 mn2 (strOfNums (nmN 1023)) Y h mnB mn2_get
  have HSC := hide fun (Y : World) (g : Nat) (h : IsMs Y g 4 mn3) => MSet_at g 4 mn3 mnA Y h mn3_ref
  have HLi := hide fun (Y : World) (g : Nat) (L : List Mk) (hl : L.length = 1024) (h : IsMs Y g 4 L) => MList_at g 4 L Y h (by omega)
  rw [show mkV mnA = .agg #[.string ⟨#[97]⟩, .int .i64 4, .int .i64 1] from rfl] at HSA HSC
  rw [mnA_ref] at HSA
  rw [show mkV mnB = .agg #[.string (strOfNums (nmN 1023)), .int .i64 4, .int .i64 2] from rfl] at HSB
  go_enter Try.func8, Try.ntmps8
  go_wp2_with fail
  refine (unhide HAw).mono ?_
  rintro y w1 ⟨rfl, x1⟩
  dsimp only
  have HX1 := hide x1
  have HC2 := hide (unhide HBg w1)
  clear HAw HBg x1
  go_wp2_with fail
  refine (unhide HC2).mono ?_
  rintro y w2 ⟨g2, rfl, s2, x2⟩
  dsimp only
  have hx2 := (unhide HX1).trans (x2.mono (unhide HX1).size)
  have b3 := (Below.refl w2.heap.size w2).alloc (Nat.le_refl _) (.cells #[.int .u8 0, .int .u8 0] 5)
  have HI0 : Hid (MyI w (w2.alloc (.cells #[.int .u8 0, .int .u8 0] 5)) w2.heap.size 0 g2) := hide ⟨s2.below b3 (Nat.le_refl _), Cls.new w2 5 _, hx2.trans (b3.mono hx2.size), hx2.size⟩
  clear HC2 HX1 s2 x2 hx2 b3
  go_wp2_with fail
  generalize w2.heap.size = gN at *
  go_loopw [2, 6, 7, 8] (fun v2 v6 v7 v8 wx => ((∃ z, v7 = z) ∧ (∃ z, v8 = z)) ∧ ∃ (i g : Nat), v6 = .int .i64 (i : Int) ∧ v2 = .pointer (some ⟨g, 0, none⟩) ∧ i ≤ 1024 ∧ Hid (MyI w wx gN i g)) (fun _ v6 _ _ _ => 1024 - (intOf v6).toNat)
  case atStart => exact ⟨⟨⟨_, rfl⟩, ⟨_, rfl⟩⟩, 0, g2, rfl, rfl, Nat.zero_le _, HI0⟩
  case round =>
    clear HI0
    obtain ⟨⟨⟨z1, rfl⟩, ⟨z2, rfl⟩⟩, i, g, rfl, rfl, hi, HI⟩ := hrel
    by_cases hlt : i < 1024
    · have t1 : decide ((i : Int) < 1024) = true := decide_eq_true (by omega)
      have k1 := (unhide HI).n
      have f0 := k1.frozen 0
      have f1 := k1.frozen 1
      have c0 := k1.cell 0
      have c1 := k1.cell 1
      unfold nmC at c0 c1
      simp only [List.getElem?_toArray, List.getElem?_cons_zero, List.getElem?_cons_succ] at c0 c1
      go_upto_region 12 with fail
      clear c0 c1 f0 f1
      have hI := unhide HI
      have kA := (k1.set 0 (.int .u8 ((i : Int) / 256))).set 1 (.int .u8 ((i : Int) % 256))
      have hgr : ∀ r, IsMp wr r (mny i) → r ≠ gN := fun r hr e => by
        obtain ⟨es, clock, h1, _⟩ := hr
        have := hI.n
        unfold Cls at this
        rw [← e, h1] at this; cases this
      have mA : IsMs ((wr.setCell ⟨gN, 0, none⟩ (.int .u8 ((i : Int) / 256))).setCell ⟨gN, 1, none⟩ (.int .u8 ((i : Int) % 256))) g 4 (mny i) := by
        obtain ⟨r, h1, h2⟩ := hI.m.c
        have hg : g ≠ gN := fun e => by
          have a1 := hI.n
          unfold Cls at a1 h1
          rw [← e, h1] at a1; cases a1
        exact ⟨r, (h1.other ⟨gN, 0, none⟩ _ hg).other ⟨gN, 1, none⟩ _ hg, (h2.same (Below.heap_setCell _ ⟨gN, 0, none⟩ _ r (hgr r h2))).same (Below.heap_setCell _ ⟨gN, 1, none⟩ _ r (hgr r h2))⟩
      have bA := (hI.b.setCell (p := ⟨gN, 0, none⟩) hI.a (.int .u8 ((i : Int) / 256))).setCell (p := ⟨gN, 1, none⟩) hI.a (.int .u8 ((i : Int) % 256))
      have kA' : Cls ((wr.setCell ⟨gN, 0, none⟩ (.int .u8 ((i : Int) / 256))).setCell ⟨gN, 1, none⟩ (.int .u8 ((i : Int) % 256))) gN 5 (nmC i) := by
        unfold nmC at kA ⊢
        exact kA
      have HA := hide (And.intro mA (And.intro kA' (And.intro bA hI.a)))
      clear HI hI k1 kA mA bA kA' hgr
      generalize (wr.setCell ⟨gN, 0, none⟩ (.int .u8 ((i : Int) / 256))).setCell ⟨gN, 1, none⟩ (.int .u8 ((i : Int) % 256)) = wA at *
      have HA : Hid (IsMs wA.drew g 4 (mny i) ∧ Cls wA.drew gN 5 (nmC i) ∧ Below w.heap.size w wA.drew ∧ w.heap.size ≤ gN) := hide ⟨(unhide HA).1.below (Below.refl wA.heap.size wA).drew (Nat.le_refl _), (unhide HA).2.1, (unhide HA).2.2.1.drew, (unhide HA).2.2.2⟩
      have HCV : Hid ((convert 67 9 (.slice (some ⟨gN, 0, none⟩) 2 2)).run Try.prog wA.drew = .ok (.string (strOfNums (nmN i))) wA.drew) := hide (conv_nm wA.drew gN i (unhide HA).2.1)
      have HCS := hide (unhide HSt wA.drew g i hlt (unhide HA).1)
      have w5 : IntKind.i64.wrap 5 = 5 := rfl
      refine regionL (S := fun z => (convert 67 9 (.slice (some ⟨gN, 0, none⟩) 2 2)).run Try.prog z = .ok (.string (strOfNums (nmN i))) z) (fun _ => false) (by kernel_rfl) ?_
      refine anyL_take (i := 0) (v := ?vmm0) rfl (by kernel_rfl) (by kernel_rfl) (by kernel_rfl) (by kernel_rfl) (fun _ _ _ h => h) (Or.inl ⟨by rfl, ?hmm0⟩) (unhide HCV) ?_
      case hmm0 => (intro w hSw; (try dsimp only at hSw); go_simp) <;> with_reducible rfl
      simp only [Act.put, List.getElem_toArray, List.getElem_cons_zero, List.setIfInBounds_toArray, List.set_cons_zero, List.set_cons_succ]
      refine anyL_take (i := 1) (v := ?vmm1) rfl (by kernel_rfl) (by kernel_rfl) (by kernel_rfl) (by kernel_rfl) (fun _ _ _ h => h) (Or.inl ⟨by rfl, ?hmm1⟩) (unhide HCV) ?_
      case hmm1 => (intro w hSw; (try dsimp only at hSw); go_simp) <;> with_reducible rfl
      simp only [Act.put, List.getElem_toArray, List.getElem_cons_zero, List.getElem_cons_succ, List.setIfInBounds_toArray, List.set_cons_zero, List.set_cons_succ]
      refine anyL_take (i := 2) (v := ?vmm2) rfl (by kernel_rfl) (by kernel_rfl) (by kernel_rfl) (by kernel_rfl) (fun _ _ _ h => h) (Or.inl ⟨by rfl, ?hmm2⟩) (unhide HCV) ?_
      case hmm2 => (intro w hSw; (try dsimp only at hSw); go_simp) <;> with_reducible rfl
      simp only [Act.put, List.getElem_toArray, List.getElem_cons_zero, List.getElem_cons_succ, List.setIfInBounds_toArray, List.set_cons_zero, List.set_cons_succ]
      refine anyL_take (i := 3) (v := ?vmm3) rfl (by kernel_rfl) (by kernel_rfl) (by kernel_rfl) (by kernel_rfl) (fun _ _ _ h => h) (Or.inl ⟨by rfl, ?hmm3⟩) (unhide HCV) ?_
      case hmm3 => (intro w hSw; (try dsimp only at hSw); go_simp) <;> with_reducible rfl
      simp only [Act.put, List.getElem_toArray, List.getElem_cons_zero, List.getElem_cons_succ, List.setIfInBounds_toArray, List.set_cons_zero, List.set_cons_succ]
      refine anyL_take (i := 4) (v := ?vmm4) rfl (by kernel_rfl) (by kernel_rfl) (by kernel_rfl) (by kernel_rfl) (fun _ _ _ h => h) (Or.inl ⟨by rfl, ?hmm4⟩) (unhide HCV) ?_
      case hmm4 => (intro w hSw; (try dsimp only at hSw); go_simp) <;> with_reducible rfl
      simp only [Act.put, List.getElem_toArray, List.getElem_cons_zero, List.getElem_cons_succ, List.setIfInBounds_toArray, List.set_cons_zero, List.set_cons_succ]
      refine anyL_take (i := 5) (v := ?vmm5) rfl (by kernel_rfl) (by kernel_rfl) (by kernel_rfl) (by kernel_rfl) (fun _ _ _ h => h) (Or.inl ⟨by rfl, ?hmm5⟩) (unhide HCV) ?_
      case hmm5 => (intro w hSw; (try dsimp only at hSw); go_simp) <;> with_reducible rfl
      simp only [Act.put, List.getElem_toArray, List.getElem_cons_zero, List.getElem_cons_succ, List.setIfInBounds_toArray, List.set_cons_zero, List.set_cons_succ]
      refine anyL_take (i := 6) (v := ?vmm6) rfl (by kernel_rfl) (by kernel_rfl) (by kernel_rfl) (by kernel_rfl) (fun _ _ _ h => h) (Or.inl ⟨by rfl, ?hmm6⟩) (unhide HCV) ?_
      case hmm6 => (intro w hSw; (try dsimp only at hSw); go_simp) <;> with_reducible rfl
      simp only [Act.put, List.getElem_toArray, List.getElem_cons_zero, List.getElem_cons_succ, List.setIfInBounds_toArray, List.set_cons_zero, List.set_cons_succ]
      refine anyL_take (i := 7) (v := ?vmm7) rfl (by kernel_rfl) (by kernel_rfl) (by kernel_rfl) (by kernel_rfl) (fun _ _ _ h => h) (Or.inl ⟨by rfl, ?hmm7⟩) (unhide HCV) ?_
      case hmm7 => (intro w hSw; (try dsimp only at hSw); go_simp) <;> with_reducible rfl
      simp only [Act.put, List.getElem_toArray, List.getElem_cons_zero, List.getElem_cons_succ, List.setIfInBounds_toArray, List.set_cons_zero, List.set_cons_succ]
      refine anyL_ready (rs := [8]) (by kernel_rfl) (by simp) ?_
      refine AllL.cons rfl (fun K hK => ?_) AllL.nil
      go_simp
      refine (unhide HCS).mono ?_
      rintro y wB ⟨g', rfl, sB, xB⟩
      rw [mny_put (by omega)] at sB
      have bB := (unhide HA).2.2.1.trans (xB.mono (unhide HA).2.2.1.size)
      have HIB : Hid (MyI w wB gN (i + 1) g') := hide ⟨sB, (unhide HA).2.1.below xB (unhide HA).2.1.lt, bB, (unhide HA).2.2.2⟩
      have HCV2 := hide (conv_nm wB gN i (unhide HIB).n)
      refine unhide hK _ _ (fun _ => unhide HCV2) ?_
      clear hK K HCS sB xB bB
      refine anyL_take (i := 9) (v := ?vmm8) rfl (by kernel_rfl) (by kernel_rfl) (by kernel_rfl) (by kernel_rfl) (fun _ _ _ h => h) (Or.inl ⟨by rfl, ?hmm8⟩) (unhide HCV2) ?_
      case hmm8 => (intro w hSw; (try dsimp only at hSw); go_simp) <;> with_reducible rfl
      simp only [Act.put, List.getElem_toArray, List.getElem_cons_zero, List.getElem_cons_succ, List.setIfInBounds_toArray, List.set_cons_zero, List.set_cons_succ]
      refine anyL_take (i := 10) (v := ?vmm9) rfl (by kernel_rfl) (by kernel_rfl) (by kernel_rfl) (by kernel_rfl) (fun _ _ _ h => h) (Or.inl ⟨by rfl, ?hmm9⟩) (unhide HCV2) ?_
      case hmm9 => (intro w hSw; (try dsimp only at hSw); go_simp) <;> with_reducible rfl
      simp only [Act.put, List.getElem_toArray, List.getElem_cons_zero, List.getElem_cons_succ, List.setIfInBounds_toArray, List.set_cons_zero, List.set_cons_succ]
      refine anyL_take (i := 11) (v := ?vmm10) rfl (by kernel_rfl) (by kernel_rfl) (by kernel_rfl) (by kernel_rfl) (fun _ _ _ h => h) (Or.inl ⟨by rfl, ?hmm10⟩) (unhide HCV2) ?_
      case hmm10 => (intro w hSw; (try dsimp only at hSw); go_simp) <;> with_reducible rfl
      simp only [Act.put, List.getElem_toArray, List.getElem_cons_zero, List.getElem_cons_succ, List.setIfInBounds_toArray, List.set_cons_zero, List.set_cons_succ]
      refine anyL_take (i := 12) (v := ?vmm11) rfl (by kernel_rfl) (by kernel_rfl) (by kernel_rfl) (by kernel_rfl) (fun _ _ _ h => h) (Or.inl ⟨by rfl, ?hmm11⟩) (unhide HCV2) ?_
      case hmm11 => (intro w hSw; (try dsimp only at hSw); go_simp) <;> with_reducible rfl
      simp only [Act.put, List.getElem_toArray, List.getElem_cons_zero, List.getElem_cons_succ, List.setIfInBounds_toArray, List.set_cons_zero, List.set_cons_succ]
      refine anyL_take (i := 13) (v := ?vmm12) rfl (by kernel_rfl) (by kernel_rfl) (by kernel_rfl) (by kernel_rfl) (fun _ _ _ h => h) (Or.inl ⟨by rfl, ?hmm12⟩) (unhide HCV2) ?_
      case hmm12 => (intro w hSw; (try dsimp only at hSw); go_simp) <;> with_reducible rfl
      simp only [Act.put, List.getElem_toArray, List.getElem_cons_zero, List.getElem_cons_succ, List.setIfInBounds_toArray, List.set_cons_zero, List.set_cons_succ]
      refine anyL_done (by kernel_rfl) ?_ _
      go_wp2_with fail
      go_roundw
      case rel => exact ⟨⟨⟨_, rfl⟩, ⟨_, rfl⟩⟩, i + 1, g', by go_num, rfl, hlt, HIB⟩
      case measure => simp [intOf]; omega
    · obtain rfl : i = 1024 := by omega
      clear hi hlt HSt
      have hI := unhide HI
      have CV := fun (Y : World) (hY : Below wr.heap.size wr Y) => conv_nm Y gN 1023 (hI.n.below hY hI.n.lt)
      have HCV := hide CV
      have HM := hide fun (Y : World) (hY : Below wr.heap.size wr Y) => hI.m.below hY (Nat.le_refl _)
      have HX0 := hide hI.b
      have HY0 := hide (Below.refl wr.heap.size wr)
      clear HI hI CV
      have HC1 := hide (unhide HSA wr g (unhide HM wr (unhide HY0)))
      go_wp2_with fail
      refine (unhide HC1).mono ?_
      rintro y v1 ⟨rfl, x1⟩
      dsimp only
      have HX1 := hide ((unhide HX0).trans (x1.mono (unhide HX0).size))
      have HY1 := hide ((unhide HY0).trans (x1.mono (unhide HY0).size))
      clear HC1 HX0 HY0 x1
      have cv1 := unhide HCV v1 (unhide HY1)
      have HC2 := hide (unhide HSB v1 g (unhide HM v1 (unhide HY1)))
      go_wp2_with fail
      refine (unhide HC2).mono ?_
      rintro y v2 ⟨g2', rfl, s2, x2⟩
      dsimp only
      have HX2 := hide ((unhide HX1).trans (x2.mono (unhide HX1).size))
      have HY2 := hide ((unhide HY1).trans (x2.mono (unhide HY1).size))
      clear HC2 HX1 HY1 x2 cv1
      have cv2 := unhide HCV v2 (unhide HY2)
      have HC3 := hide (unhide HDr v2 g2' s2)
      clear s2
      go_wp2_with fail
      refine (unhide HC3).mono ?_
      rintro y v3 ⟨g3, rfl, s3, x3⟩
      dsimp only
      have HX3 := hide ((unhide HX2).trans (x3.mono (unhide HX2).size))
      have HY3 := hide ((unhide HY2).trans (x3.mono (unhide HY2).size))
      clear HC3 HX2 HY2 x3 cv2 HCV
      have HC4 := hide (unhide HSC v3 g3 s3)
      clear s3
      go_wp2_with fail
      refine (unhide HC4).mono ?_
      rintro y v4 ⟨g4, rfl, s4, x4⟩
      dsimp only
      have HX4 := hide ((unhide HX3).trans (x4.mono (unhide HX3).size))
      have HY4 := hide ((unhide HY3).trans (x4.mono (unhide HY3).size))
      clear HC4 HX3 HY3 x4
      have HC5 := hide (unhide HLi v4 g4 mn4 mn4_len s4)
      clear s4
      go_wp2_with fail
      refine (unhide HC5).mono ?_
      rintro y v5 ⟨a5, c5, E5, rfl, p5, _, _, x5⟩
      dsimp only
      have z5 : E5.length = 1024 := len2 p5 (by rw [mn4_in]; exact mn4_len)
      rw [z5]
      have HX5 := hide ((unhide HX4).trans (x5.mono (unhide HX4).size))
      have HY5 := hide ((unhide HY4).trans (x5.mono (unhide HY4).size))
      clear HC5 HX4 HY4 x5 p5 z5
      have HC6 := hide (unhide HLi v5 g (mny 1024) (mny_len _) (unhide HM v5 (unhide HY5)))
      go_wp2_with fail
      refine (unhide HC6).mono ?_
      rintro y v6 ⟨a6, c6, E6, rfl, p6, _, _, x6⟩
      dsimp only
      have z6 : E6.length = 1024 := len2 p6 (by rw [mny_in]; exact mny_len _)
      rw [z6]
      have HX6 := hide ((unhide HX5).trans (x6.mono (unhide HX5).size))
      clear HC6 HX5 HY5 x6 p6 z6
      go_wp2_with fail
      refine bodyPost_ret (results_tmp rfl _ _ _) rfl ⟨rfl, unhide HX6⟩
end Go.Proofs.Ytnnnilodknkadaa
