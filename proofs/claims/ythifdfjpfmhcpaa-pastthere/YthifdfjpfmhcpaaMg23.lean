/- Layer 17: PastThere's walk. Written by wip/tools/puf.py. -/
import Derived.Test.YthifdfjpfmhcpaaMg22

namespace Go.Proofs.Ythifdfjpfmhcpaa
open Go.ChangeShapes Go.WideShapes Go.ChangeAt Go.RowKit
attribute [local go_sem] Oper.semAt_some

/-- i Undos -/
def unP (P : Pa Int) : Nat → Pa Int
  | 0 => P
  | i + 1 => (undoP (unP P i)).1
theorem unP_ok {P : Pa Int} (h : OkP P) : ∀ i, OkP (unP P i)
  | 0 => h
  | i + 1 => (unP_ok h i).undo
theorem unP_bo {P : Pa Int} (hon : P.o = none) : ∀ i, i ≤ P.b.length → (unP P i).o = none ∧ (unP P i).b = P.b.take (P.b.length - i)
  | 0, _ => ⟨hon, by rw [Nat.sub_zero, List.take_length]; rfl⟩
  | i + 1, hi => by
    obtain ⟨h1, h2⟩ := unP_bo hon i (by omega)
    have hlt : P.b.length - (i + 1) < P.b.length := by omega
    have hb : (unP P i).b = P.b.take (P.b.length - (i + 1)) ++ [P.b[P.b.length - (i + 1)]] := by
      rw [h2, show P.b.length - i = P.b.length - (i + 1) + 1 by omega, List.take_succ_eq_append_getElem hlt]
    show (undoP (unP P i)).1.o = none ∧ (undoP (unP P i)).1.b = _
    rw [undoP_app h1 hb]
    exact ⟨h1, rfl⟩
/-- the word of the step that is taken back, and what a Redo makes of it -/
theorem unP_step {P : Pa Int} (hon : P.o = none) {i : Nat} (hi : i < P.b.length) : ∃ x : Int × ByteArray, (P.b.reverse.map (·.2))[i]? = some x.2 ∧ undoP (unP P i) = (unP P (i + 1), some x, 0) ∧ redoP (unP P (i + 1)) = (unP P i, some ((unP P i).s, x.2), 0) := by
  obtain ⟨h1, h2⟩ := unP_bo hon i (by omega)
  have hlt : P.b.length - (i + 1) < P.b.length := by omega
  have hb : (unP P i).b = P.b.take (P.b.length - (i + 1)) ++ [P.b[P.b.length - (i + 1)]] := by
    rw [h2, show P.b.length - i = P.b.length - (i + 1) + 1 by omega, List.take_succ_eq_append_getElem hlt]
  have hu := undoP_app h1 hb
  refine ⟨P.b[P.b.length - (i + 1)], ?_, ?_, ?_⟩
  · rw [List.getElem?_map, List.getElem?_reverse hi, show P.b.length - 1 - i = P.b.length - (i + 1) by omega, List.getElem?_eq_getElem hlt]; rfl
  · rw [hu]
    have : unP P (i + 1) = (undoP (unP P i)).1 := rfl
    rw [this, hu]
  · have : unP P (i + 1) = (undoP (unP P i)).1 := rfl
    rw [this, hu]
    refine (redoP_app (p := { unP P i with s := P.b[P.b.length - (i + 1)].1, b := P.b.take (P.b.length - (i + 1)), a := (unP P i).a ++ [((unP P i).s, P.b[P.b.length - (i + 1)].2)] }) (Q := (unP P i).a) (x := ((unP P i).s, P.b[P.b.length - (i + 1)].2)) h1 rfl).trans ?_
    dsimp only
    rw [← hb]
/-- the states that are kept by -/
def stsP (P : Pa Int) (i : Nat) : List Int := (List.range i).map fun j => (unP P j).s
theorem stsP_len (P : Pa Int) (i : Nat) : (stsP P i).length = i := by simp [stsP]
theorem stsP_next (P : Pa Int) (i : Nat) : stsP P (i + 1) = stsP P i ++ [(unP P i).s] := by simp [stsP, List.range_succ]
theorem stsP_get (P : Pa Int) {i n : Nat} (hi : i < (stsP P n).length) : (stsP P n)[i] = (unP P i).s := by simp [stsP]
/-- what holds between two rounds -/
structure ThI (w : World) (P : Pa Int) (g : Nat) (v1 v2 : Value) (k1 k2 : Option Nat) (X : World) (vs : Value) (l : List Int) (p : Pa Int) (G : Nat → Prop) (kS : Option Nat) : Prop where
  i : PsI X G g p
  b : Below w.heap.size w X ∧ ∀ i, G i → w.heap.size ≤ i
  r1 : RS X v1 (P.b.reverse.map (·.2)) k1 ∧ ∀ i, k1 = some i → ¬ G i
  r2 : RS X v2 (P.a.reverse.map (·.2)) k2 ∧ ∀ i, k2 = some i → ¬ G i
  s : RI X vs l kS ∧ ∀ i, kS = some i → ¬ G i
  n : ∀ i, kS = some i → k1 ≠ some i ∧ k2 ≠ some i ∧ w.heap.size ≤ i
theorem ThI.on {w X Y : World} {P p p' : Pa Int} {g : Nat} {v1 v2 vs : Value} {k1 k2 kS : Option Nat} {l : List Int} {G G' : Nat → Prop} (h : ThI w P g v1 v2 k1 k2 X vs l p G kS) (i : PsI Y G' g p') (gr : Gr G X G' Y) : ThI w P g v1 v2 k1 k2 Y vs l p' G' kS :=
  ⟨i, gr_on (Nat.le_refl _) h.b.1 h.b.2 gr, h.r1.1.on h.r1.2 gr, h.r2.1.on h.r2.2 gr, h.s.1.on h.s.2 gr, h.n⟩
/-- a state more is kept -/
theorem ThI.push {w X : World} {P p : Pa Int} {g : Nat} {v1 v2 vs : Value} {k1 k2 kS : Option Nat} {l : List Int} {G : Nat → Prop} (h : ThI w P g v1 v2 k1 k2 X vs l p G kS) (x : Int) (hn : l.length ≤ 1000000) :
    ∃ v' Y k', (Builtin.append_ #[41, 41] 41 #[vs, .slice (some ⟨X.heap.size, 0, none⟩) 1 1]).run Try.prog (X.alloc (.cells #[.int .i64 x] 3)) = .ok v' Y ∧ ThI w P g v1 v2 k1 k2 Y v' (l ++ [x]) p G k' := by
  obtain ⟨v', Y, k', hr, h1, h2, h3⟩ := pushNum h.s.1 x hn
  have hlt := h.i.lt
  have hk : ∀ i, k' = some i → kS = some i ∨ X.heap.size ≤ i := by
    intro i e
    rcases h3 with ⟨e1, _⟩ | ⟨j, e1, hj⟩
    · exact .inl (e1 ▸ e)
    · rw [e1] at e; cases e; exact .inr hj
  refine ⟨v', Y, k', hr, ⟨h.i.kpf h2 (fun i e e1 => h.s.2 i e1 e), ⟨h.b.1.trans (h2.below h.b.1.size (fun i e => (h.n i e).2.2)), h.b.2⟩, ⟨h.r1.1.kpf h2 (fun i e e1 => (h.n i e1).1 e), h.r1.2⟩, ⟨h.r2.1.kpf h2 (fun i e e1 => (h.n i e1).2.1 e), h.r2.2⟩, ⟨h1, fun i e hG => ?_⟩, fun i e => ?_⟩⟩
  · rcases hk i e with e1 | e1
    · exact h.s.2 i e1 hG
    · have := hlt i hG; omega
  · rcases hk i e with e1 | e1
    · exact h.n i e1
    · refine ⟨fun e2 => ?_, fun e2 => ?_, Nat.le_trans h.b.1.size e1⟩
      · have := RA.lt h.r1.1 i e2; omega
      · have := RA.lt h.r2.1 i e2; omega
set_option maxRecDepth 100000 in
set_option maxHeartbeats 8000000 in
theorem PastThereN (m : Int) (a : Option Addr) (c : Nat) (d : List Oq) (kk : Int) (w : World) (h : ¬ (0 ≤ m ∧ m ≤ 4096)) :
    Calls Try.prog 5 #[.int .i64 m, .slice a d.length c, .int .i64 kk] w fun y Y => y = .returned (.bool true) ∧ Below w.heap.size w Y := by
  have HF := hide (fixed17_at w)
  have HP := hide fun (X : World) => playE_at 0 m (.slice a d.length c) X h
  by_cases h1 : m < 0
  · have t1 : decide (m < 0) = true := decide_eq_true h1
    clear h h1
    go_enter Try.func5, Try.ntmps5
    go_wp2_with fail
    refine (unhide HF).mono ?_
    rintro y w1 ⟨rfl, x1⟩
    dsimp only
    have HX1 := hide x1
    have HC := hide (unhide HP w1)
    clear HF HP x1
    go_wp2_with fail
    refine (unhide HC).mono ?_
    rintro y w2 ⟨rfl, rfl⟩
    dsimp only
    clear HC
    go_wp2_with fail
    exact bodyPost_ret (results_tmp rfl _ _ _) rfl ⟨rfl, unhide HX1⟩
  · have t1 : decide (m < 0) = false := decide_eq_false h1
    have t2 : decide (m > 4096) = true := decide_eq_true (by omega)
    have t2' : decide (4096 < m) = true := decide_eq_true (by omega)
    clear h h1
    go_enter Try.func5, Try.ntmps5
    go_wp2_with fail
    refine (unhide HF).mono ?_
    rintro y w1 ⟨rfl, x1⟩
    dsimp only
    have HX1 := hide x1
    have HC := hide (unhide HP w1)
    clear HF HP x1
    go_wp2_with fail
    refine (unhide HC).mono ?_
    rintro y w2 ⟨rfl, rfl⟩
    dsimp only
    clear HC
    go_wp2_with fail
    exact bodyPost_ret (results_tmp rfl _ _ _) rfl ⟨rfl, unhide HX1⟩
set_option maxRecDepth 100000 in
set_option maxHeartbeats 8000000 in
theorem PastThereS (m : Int) (a : Option Addr) (c : Nat) (d : List Oq) (kk : Int) (w : World) (h : 0 ≤ m ∧ m ≤ 4096) (ho : IsQ w a d) (hl : d.length ≤ 140737488355328) (hw : ∀ o ∈ d, o.w.size ≤ 281474976710656) :
    Calls Try.prog 5 #[.int .i64 m, .slice a d.length c, .int .i64 kk] w fun y Y => y = .returned (.bool true) ∧ Below w.heap.size w Y := by
  have HF := hide (fixed17_at w)
  have HP := hide fun (X : World) (hx : Below w.heap.size w X) => play_at 0 m a c d X h (ho.below hx (Nat.le_refl _)) hl hw
  obtain ⟨P, hP, hok, hon, hPm⟩ := begP m h.1 h.2 d
  have HE := hide fun (X : World) (G : Nat → Prop) (g : Nat) (i : PsI X G g (plP 0 m d)) => EndA_at X G g _ i (plP_ok 0 m h.1 h.2 d)
  simp only [← hP] at HE
  have h0 := h.1
  have h1 := h.2
  clear ho hw hl h hP
  go_enter Try.func5, Try.ntmps5
  go_wp2_with fail
  refine (unhide HF).mono ?_
  rintro y w1 ⟨rfl, x1⟩
  dsimp only
  have HC := hide (unhide HP w1 x1)
  have HX1 := hide x1
  clear HF HP x1
  go_wp2_with fail
  refine (unhide HC).mono ?_
  rintro y w2 ⟨g, F2, rfl, i2, l2, x2⟩
  dsimp only
  have HI2 := hide i2
  have HB2 : Hid (Below w.heap.size w w2 ∧ ∀ i, F2 i → w.heap.size ≤ i) := hide ⟨(unhide HX1).trans (x2.mono (unhide HX1).size), fun i e => Nat.le_trans (unhide HX1).size (l2 i e)⟩
  clear HC HX1 i2 l2 x2
  have HC := hide (unhide HE w2 F2 g (unhide HI2))
  go_wp2_with fail
  refine (unhide HC).mono ?_
  rintro y w3 ⟨rfl, F3, i3, g3⟩
  dsimp only
  have HI3 := hide i3
  have HB3 := hide (gr_on (Nat.le_refl _) (unhide HB2).1 (unhide HB2).2 g3)
  clear HC HE i3 g3 HI2 HB2
  have hbl : (P.b.length : Int) + P.a.length ≤ m := hPm ▸ hok.l
  have HC := hide (WordsI_at w3 F3 g P (unhide HI3) hok.bl hok.al)
  go_wp2_with fail
  refine (unhide HC).mono ?_
  rintro y w4 ⟨v1, v2, k1, k2, rfl, r1, r2, l1, l2, hne, i4, x4⟩
  dsimp only
  have hlt3 := (unhide HI3).lt
  have hk1 : ∀ i, k1 = some i → ¬ F3 i := fun i e hF => by have := hlt3 i hF; have := l1 i e; omega
  have hk2 : ∀ i, k2 = some i → ¬ F3 i := fun i e hF => by have := hlt3 i hF; have := l2 i e; omega
  have HI4 := hide i4
  have HB4 : Hid (Below w.heap.size w w4 ∧ ∀ i, F3 i → w.heap.size ≤ i) := hide ⟨(unhide HB3).1.trans (x4.mono (unhide HB3).1.size), (unhide HB3).2⟩
  have HR4 : Hid ((RS w4 v1 (P.b.reverse.map (·.2)) k1 ∧ ∀ i, k1 = some i → ¬ F3 i) ∧ (RS w4 v2 (P.a.reverse.map (·.2)) k2 ∧ ∀ i, k2 = some i → ¬ F3 i)) := hide ⟨⟨r1, hk1⟩, ⟨r2, hk2⟩⟩
  have HL4 : Hid ((∀ i, k1 = some i → i < w4.heap.size) ∧ (∀ i, k2 = some i → i < w4.heap.size)) := hide ⟨fun i e => RA.lt r1 i e, fun i e => RA.lt r2 i e⟩
  obtain ⟨a1, c1, rfl⟩ := r1.val
  have hz1 : (P.b.reverse.map (·.2)).length = P.b.length := by simp
  clear HC r1 r2 l1 l2 hne i4 x4 hlt3 hk1 hk2 HI3 HB3
  rw [hz1]
  rw [hz1] at HR4
  have HC := hide (NowI_at w4 F3 g P (unhide HI4))
  go_wp2_with fail
  refine (unhide HC).mono ?_
  rintro y w5 ⟨rfl, rfl⟩
  dsimp only
  clear HC
  obtain ⟨q, hq, hqb⟩ : ∃ q : Nat, min (max kk 0) (P.b.length : Int) = (q : Int) ∧ q ≤ P.b.length := ⟨(min (max kk 0) (P.b.length : Int)).toNat, by omega, by omega⟩
  have HOK := hide fun (i : Nat) => unP_ok hok i
  have HST := hide fun (i : Nat) (hi : i < P.b.length) => unP_step hon hi
  have hbl2 := hok.bl
  have hal2 := hok.al
  have HT0 : Hid (ThI w P g (.slice a1 P.b.length c1) v2 k1 k2 w5 (.slice none 0 0) (stsP P 0) (unP P 0) F3 none) := hide ⟨unhide HI4, unhide HB4, (unhide HR4).1, (unhide HR4).2, ⟨RA.nil _ _, fun _ e => (nomatch e)⟩, fun _ e => (nomatch e)⟩
  clear HI4 HB4 HR4 HL4 hon hok hbl
  go_wp2_with fail
  go_loopw [11, 12, 13, 14, 15] (fun v11 v12 v13 v14 v15 wx => ((∃ z, v13 = z) ∧ (∃ z, v14 = z) ∧ (∃ z, v15 = z)) ∧ (∃ i : Nat, v12 = .int .i64 (i : Int) ∧ i ≤ q ∧ ∃ vs G kS, v11 = vs ∧ Hid (ThI w P g (.slice a1 P.b.length c1) v2 k1 k2 wx vs (stsP P i) (unP P i) G kS))) (fun _ v12 _ _ _ _ => q - (intOf v12).toNat)
  case atStart => exact ⟨⟨⟨_, rfl⟩, ⟨_, rfl⟩, ⟨_, rfl⟩⟩, ⟨0, rfl, Nat.zero_le _, _, _, _, rfl, HT0⟩⟩
  case round =>
    obtain ⟨⟨⟨z1, rfl⟩, ⟨z2, rfl⟩, ⟨z3, rfl⟩⟩, ⟨i, rfl, hi, vs, G, kS, rfl, HT⟩⟩ := hrel
    clear HT0
    by_cases hlt : i < q
    · have u1 : decide ((i : Int) < (q : Int)) = true := decide_eq_true (by omega)
      have wi : wrap64 ((i : Int) + 1) = ((i + 1 : Nat) : Int) := by unfold wrap64; omega
      obtain ⟨x, hx1, hx2, hx3⟩ := unhide HST i (by omega)
      have HC := hide (NowI_at wr G g _ (unhide HT).i)
      obtain ⟨v', Y, k', hr, ht⟩ := (unhide HT).push (unP P i).s (by rw [stsP_len]; omega)
      rw [← stsP_next] at ht
      have R1 := hide hr
      have HCU := hide (UndoA_at Y G g _ ht.i (unhide HOK i))
      rw [hx2] at HCU
      have HTY := hide ht
      obtain ⟨hlw, hgw⟩ := List.getElem?_eq_some_iff.1 hx1
      clear hr ht hx1 hx2 hx3 HT HST
      obtain ⟨xs, xw⟩ := x
      dsimp only at HCU hgw
      have HGW := hide hgw
      clear hgw
      go_wp2_with fail
      refine (unhide HC).mono ?_
      rintro y wn ⟨rfl, rfl⟩
      dsimp only
      clear HC
      go_wp2_with (at_builtin; refine wpList_append_known rfl _ _ 41 41 rfl _ _ rfl rfl _ _ (unhide R1) ?_; clear R1)
      refine (unhide HCU).mono ?_
      rintro y wu ⟨rfl, G2, i2, g2⟩
      dsimp only [anS, anW]
      have HT2 := hide ((unhide HTY).on i2 g2)
      obtain ⟨gb, ob, cb, eb, _, _, hcb⟩ := (unhide HT2).r1.1.get hlw
      rw [unhide HGW] at hcb
      injection eb with eb1 eb2 eb3
      subst eb1
      subst eb3
      have hib : (i : Int) < (P.b.length : Int) := by omega
      have bw : (xw.toList == xw.toList) = true := by rw [baL]; simp
      have bw2 : (xw.toList != xw.toList) = false := by rw [bne, bw]; rfl
      clear HCU HTY i2 g2 HGW eb2
      go_wp2_with fail
      go_roundw
      case rel => exact ⟨⟨⟨_, rfl⟩, ⟨_, rfl⟩, ⟨_, rfl⟩⟩, ⟨i + 1, by first | rfl | rw [wi], hlt, _, _, _, rfl, HT2⟩⟩
      case measure => simp [intOf]; omega
    · obtain rfl : i = q := by omega
      have u1 : decide ((i : Int) < (i : Int)) = false := decide_eq_false (by omega)
      go_wp2_with fail
      have w3 : wrap64 ((i : Int) - 1) = (i : Int) - 1 := by unfold wrap64; omega
      go_loopw [16, 17, 18, 19] (fun v16 v17 v18 v19 wx => ((∃ z, v17 = z) ∧ (∃ z, v18 = z) ∧ (∃ z, v19 = z)) ∧ (∃ z : Int, v16 = .int .i64 z) ∧ Hid (∃ j : Nat, v16 = .int .i64 ((j : Int) - 1) ∧ j ≤ i ∧ ∃ G kS, ThI w P g (.slice a1 P.b.length c1) v2 k1 k2 wx u11 (stsP P i) (unP P j) G kS)) (fun v16 _ _ _ _ => (intOf v16 + 1).toNat)
      case atStart => exact ⟨⟨⟨_, rfl⟩, ⟨_, rfl⟩, ⟨_, rfl⟩⟩, ⟨_, rfl⟩, hide ⟨i, by first | rfl | rw [w3], Nat.le_refl _, _, _, unhide HT⟩⟩
      case round =>
        obtain ⟨⟨⟨z1, rfl⟩, ⟨z2, rfl⟩, ⟨z3, rfl⟩⟩, ⟨z4, rfl⟩, HJ⟩ := hrel
        obtain ⟨j, hj1, hj2, G2, kS2, hT⟩ := unhide HJ
        injection hj1 with _ hj1
        subst hj1
        clear HJ HT w3
        cases j with
        | succ r =>
          have e0 : ((r + 1 : Nat) : Int) - 1 = (r : Int) := by omega
          rw [e0]
          have u2 : decide ((r : Int) ≥ 0) = true := decide_eq_true (by omega)
          have u2' : decide (0 ≤ (r : Int)) = true := decide_eq_true (by omega)
          have w4 : wrap64 ((r : Int) - 1) = (r : Int) - 1 := by unfold wrap64; omega
          obtain ⟨x, hx1, hx2, hx3⟩ := unhide HST r (by omega)
          have HC := hide (RedoA_at wr G2 g _ hT.i (unhide HOK (r + 1)))
          rw [hx3] at HC
          dsimp only [anS, anW] at HC
          obtain ⟨hlw, hgw⟩ := List.getElem?_eq_some_iff.1 hx1
          have HT1 := hide hT
          have HGW := hide hgw
          clear hx1 hx2 hx3 HST hgw hT
          obtain ⟨xs, xw⟩ := x
          dsimp only at HC HGW
          go_wp2_with fail
          refine (unhide HC).mono ?_
          rintro y wu ⟨rfl, G3, i3, g3⟩
          dsimp only
          have HT2 := hide ((unhide HT1).on i3 g3)
          obtain ⟨gb, ob, cb, eb, _, _, hcb⟩ := (unhide HT2).r1.1.get hlw
          rw [unhide HGW] at hcb
          injection eb with eb1 eb2 eb3
          subst eb1
          subst eb3
          have hrs : r < (stsP P i).length := by rw [stsP_len]; omega
          obtain ⟨gs, os, cs, es, _, _, hcs⟩ := (unhide HT2).s.1.get hrs
          rw [stsP_get] at hcs
          rw [stsP_len] at es
          have HC2 := hide (NowI_at wu G3 g _ (unhide HT2).i)
          have HNX : Hid (∃ j : Nat, Value.int .i64 ((r : Int) - 1) = .int .i64 ((j : Int) - 1) ∧ j ≤ i ∧ ∃ G kS, ThI w P g (.slice (some ⟨gb, ob, none⟩) P.b.length c1) v2 k1 k2 wu u11 (stsP P i) (unP P j) G kS) := hide ⟨r, rfl, by omega, G3, kS2, unhide HT2⟩
          have hib : (r : Int) < (P.b.length : Int) := by omega
          have his : (r : Int) < (i : Int) := by omega
          have bw : (xw.toList == xw.toList) = true := by rw [baL]; simp
          have bw2 : (xw.toList != xw.toList) = false := by rw [bne, bw]; rfl
          subst es
          generalize (unP P r).s = sx at *
          have bs : (sx != sx) = false := by simp
          have bs2 : (sx == sx) = true := by simp
          clear HC HT1 HT2 i3 g3 HGW eb2 hrs
          go_wp2_with fail
          refine (unhide HC2).mono ?_
          rintro y wv ⟨rfl, rfl⟩
          dsimp only
          clear HC2
          go_wp2_with fail
          go_roundw
          case rel => exact ⟨⟨⟨_, rfl⟩, ⟨_, rfl⟩, ⟨_, rfl⟩⟩, ⟨_, rfl⟩, HNX⟩
          case measure => simp [intOf]
        | zero =>
          have e0 : ((0 : Nat) : Int) - 1 = -1 := rfl
          rw [e0]
          have HC := hide (WordsI_at wr G2 g P hT.i hbl2 hal2)
          have HT1 := hide hT
          clear hT HST HOK
          go_wp2_with fail
          refine (unhide HC).mono ?_
          rintro y w8 ⟨v5, v6, k5, k6, rfl, r5, r6, _, _, _, i8, x8⟩
          dsimp only
          have HR1 := hide ((unhide HT1).r1.1.below x8)
          have HR2 := hide ((unhide HT1).r2.1.below x8)
          have HX8 := hide ((unhide HT1).b.1.trans (x8.mono (unhide HT1).b.1.size))
          have HC2 := hide (NowI_at w8 G2 g P i8)
          have HC3 := hide (wordsL_at w8 _ _ _ _ _ _ r5 (unhide HR1) (by simp; omega))
          rw [decide_eq_true rfl] at HC3
          have HR6 := hide r6
          clear HC HT1 r5 r6 i8 x8
          go_wp2_with fail
          refine (unhide HC2).mono ?_
          rintro y w9 ⟨rfl, rfl⟩
          dsimp only
          clear HC2
          go_wp2_with fail
          refine (unhide HC3).mono ?_
          rintro y w10 ⟨rfl, x10⟩
          dsimp only
          have HC4 := hide (wordsL_at w10 _ _ _ _ _ _ ((unhide HR6).below x10) ((unhide HR2).below x10) (by simp; omega))
          rw [decide_eq_true rfl] at HC4
          have HX10 := hide ((unhide HX8).trans (x10.mono (unhide HX8).size))
          clear HC3 HR1 HR2 HR6 HX8 x10
          go_wp2_with fail
          refine (unhide HC4).mono ?_
          rintro y w11 ⟨rfl, x11⟩
          dsimp only
          have HX11 := hide ((unhide HX10).trans (x11.mono (unhide HX10).size))
          clear HC4 HX10 x11
          go_wp2_with fail
          exact bodyPost_ret (results_tmp rfl _ _ _) rfl ⟨rfl, unhide HX11⟩
theorem PastThere_any {A B : Prop} (m : Int) (a : Option Addr) (c : Nat) (d : List Oq) (x : Int) (w : World) (_ : A) (ho : IsQ w a d) (_ : d = [] ∨ ∃ p, a = some p) (hl : d.length * 32 ≤ 140737488355328) (hw : ∀ o ∈ d, o.w.size ≤ 281474976710656) (_ : B) :
    Calls Try.prog 5 #[.int .i64 m, .slice a d.length c, .int .i64 x] w fun y Y => y = .returned (.bool true) ∧ Below w.heap.size w Y := by
  by_cases h : 0 ≤ m ∧ m ≤ 4096
  · exact PastThereS m a c d x w h ho (by omega) hw
  · exact PastThereN m a c d x w h
end Go.Proofs.Ythifdfjpfmhcpaa
