/- Layer 19: the document's Cost. · Layer 19: the document's Clean. · DiffGreat: two rows of the call's own that are written and grown; pairs appended. -/
import Derived.Test.YtkdnanlgkedjgaaDoorDx48
import Derived.Laws.OwnMore

section
namespace Go.Proofs.YtkdnanlgkedjgaaDoor
open Go.ChangeShapes Go.WideShapes Go.ChangeAt Go.RowKit
attribute [local go_sem] Oper.semAt_some

set_option maxRecDepth 100000 in
set_option maxHeartbeats 8000000 in
theorem RCost_at (a0 : Option Addr) (c0 : Nat) (l : List Int) (a : Option Addr) (c : Nat) (d : List Dop) (w : World) (hB : IsB w a0 c0 l) (h : IsO w a d) (hl : d.length ≤ 4611686018427387904) (ht : txD d ≤ 1099511627776) (htb : ∀ o ∈ d, TbD o) (zl : l.length ≤ 1048576) (zt : ∀ o ∈ d, o.t.length ≤ 1048576) :
    Calls Tryd.prog 20 #[.slice a0 l.length c0, .slice a d.length c] w fun y w' => y = .returned (.tuple #[.int .i64 (costR l d).1, .int .i64 (costR l d).2]) ∧ Below w.heap.size w w' := by
  have HV := hide (RValid14_at a c d w h hl ht)
  have HO := hide h
  have HB := hide hB
  cases hv : valB d with
  | false =>
    have hc : costR l d = (0, 130) := by unfold costR; rw [hv]; rfl
    rw [hv] at HV
    rw [hc]
    clear hc hv hB h
    go_enter Tryd.func20, Tryd.ntmps20
    go_wp2_with fail
    refine (unhide HV).mono ?_
    rintro y w1 ⟨rfl, hb⟩
    dsimp only
    clear HV
    go_wp2_with fail
    exact bodyPost_ret (results_tmp2 rfl _ _ _) rfl ⟨rfl, hb⟩
  | true =>
  rw [hv] at HV
  have HL := hide fun (X : World) (hX : Below w.heap.size w X) => RLensM_at a c d X (h.below hX (Nat.le_refl _)) hl hv
  have hnn := (valB_nn hv).2
  by_cases hf : ¬ frD d = l.length
  · have hc : costR l d = (0, 131) := by unfold costR; rw [hv, if_pos rfl, if_neg hf]
    rw [hc]
    have t1 : ((frD d : Int) != (l.length : Int)) = true := by simp; omega
    generalize frD d = F at *
    generalize toD d = G at *
    clear hc hv hB h
    go_enter Tryd.func20, Tryd.ntmps20
    go_wp2_with fail
    refine (unhide HV).mono ?_
    rintro y w1 ⟨rfl, hb⟩
    dsimp only
    have HL1 := hide (unhide HL w1 hb)
    have HB1 := hide hb
    clear HV HL hb
    go_wp2_with fail
    refine (unhide HL1).mono ?_
    rintro y w2 ⟨rfl, hb⟩
    dsimp only
    have HB2 := hide ((unhide HB1).trans (hb.mono (unhide HB1).size))
    clear HL1 HB1 hb
    go_wp2_with fail
    exact bodyPost_ret (results_tmp2 rfl _ _ _) rfl ⟨rfl, unhide HB2⟩
  have hf : frD d = l.length := by omega
  have hkk := valB_k hv
  have hsum := sumRf_le l d 0 hkk
  have hcap := hB.1
  have HCR : Hid ((okRf (EdgP l) 0 d → costR l d = ((sumRf stepN l 0 d : Int), 0)) ∧ (¬ okRf (EdgP l) 0 d → costR l d = (0, 4))) := hide ⟨fun g => by unfold costR; rw [hv, if_pos rfl, if_pos hf, if_pos g], fun g => by unfold costR; rw [hv, if_pos rfl, if_pos hf, if_neg g]⟩
  generalize costR l d = CR at *
  have HVV := hide (And.intro hv (And.intro htb zt))
  have HKK := hide hkk
  rw [hf] at HL
  have t0 : ((l.length : Int) != (l.length : Int)) = false := by simp
  have HSM := hide (show sumRf stepN l 0 d ≤ 536870912 by omega)
  have HF := hide hf
  clear hv hB h htb zt hkk hsum hnn hf
  generalize toD d = G at *
  go_enter Tryd.func20, Tryd.ntmps20
  go_wp2_with fail
  refine (unhide HV).mono ?_
  rintro y w1 ⟨rfl, hb⟩
  dsimp only
  have HL1 := hide (unhide HL w1 hb)
  have HB1 := hide hb
  clear HV HL hb
  go_wp2_with fail
  refine (unhide HL1).mono ?_
  rintro y w2 ⟨rfl, hb⟩
  dsimp only
  have HB2 := hide ((unhide HB1).trans (hb.mono (unhide HB1).size))
  clear HL1 HB1 hb
  go_wp2_with fail
  go_loopw [9, 10, 11, 12] (fun v9 v10 v11 v12 wx => (∃ z, v12 = z) ∧ ∃ (k f s : Nat), v11 = .int .i64 (k : Int) ∧ k ≤ d.length ∧ v9 = .int .i64 (f : Int) ∧ v10 = .int .i64 (s : Int) ∧ Hid (f = frD (d.take k) ∧ s = sumRf stepN l 0 (d.take k) ∧ okRf (EdgP l) 0 (d.take k) ∧ Below w.heap.size w wx)) (fun _ _ v11 _ _ => d.length - (intOf v11).toNat)
  case atStart => exact ⟨⟨_, rfl⟩, 0, 0, 0, rfl, Nat.zero_le _, rfl, rfl, hide ⟨rfl, rfl, trivial, unhide HB2⟩⟩
  case round =>
    clear HB2
    obtain ⟨⟨z, rfl⟩, k, f, s, rfl, hk, rfl, rfl, HX⟩ := hrel
    by_cases h1 : k < d.length
    · have t1 : decide ((k : Int) < (d.length : Int)) = true := decide_eq_true (by omega)
      have f1 : (k : Int) < (d.length : Int) := by omega
      obtain ⟨hxf, hxs, hxo, hbx⟩ := unhide HX
      obtain ⟨g, off, ha', hg', hw3⟩ := (unhide HO).three h1
      clear hw3
      obtain ⟨g', off', rfl, hg, e0, e1, e2⟩ := ((unhide HO).below hbx (Nat.le_refl _)).three h1
      obtain ⟨rfl, rfl⟩ : g' = g ∧ off' = off := by cases ha'; exact ⟨rfl, rfl⟩
      clear ha'
      have HGL := hide hg'
      clear hg'
      obtain ⟨hv, htb, hzt⟩ := unhide HVV
      have hop := valB_op hv (getD_memD h1)
      have htx := htb _ (getD_memD h1)
      have hz := hzt _ (getD_memD h1)
      have hfr := frD_take d h1
      have hle := (frD_le d (k + 1)).1
      rw [unhide HF] at hle
      have hok := okRf_take (E := EdgP l) (unhide HKK) h1
      have hsm := sumRf_take (S := stepN) (l := l) (unhide HKK) h1
      have hsp : sumRf stepN l 0 (d.take (k + 1)) ≤ 536870912 := by
        have := unhide HSM
        rw [← List.take_append_drop (k + 1) d, sumRf_app _ _ _ (fun o ho => unhide HKK o (List.mem_of_mem_take ho))] at this
        omega
      have hpre : okRf (EdgP l) 0 d → okRf (EdgP l) 0 (d.take (k + 1)) := fun g => okRf_pre (unhide HKK) g (k + 1)
      rw [← hxf] at hfr hsm
      rw [← hxs] at hsm
      have HOK0 := hide hxo
      have HBX := hide hbx
      clear hxf hxs hxo hbx HX hv htb hzt hk
      obtain ⟨F', hF'⟩ : ∃ F', F' = frD (d.take (k + 1)) := ⟨_, rfl⟩
      obtain ⟨S', hS'⟩ : ∃ S', S' = sumRf stepN l 0 (d.take (k + 1)) := ⟨_, rfl⟩
      rw [← hF'] at hfr hle hok hsm
      rw [← hS'] at hsm hsp
      have HFF := hide hF'
      have HSS := hide hS'
      clear hF' hS'
      have HOK := hide hok
      have HPR := hide hpre
      have HNX := hide fun (F s' : Nat) (X : World) (g1 : F = F') (g2 : s' = S') (g3 : okRf (EdgP l) 0 (d.take (k + 1))) (g4 : Below w.heap.size w X) => (show F = frD (d.take (k + 1)) ∧ s' = sumRf stepN l 0 (d.take (k + 1)) ∧ okRf (EdgP l) 0 (d.take (k + 1)) ∧ Below w.heap.size w X from ⟨g1.trans (unhide HFF), g2.trans (unhide HSS), g3, g4⟩)
      clear hok hpre
      generalize d.getD k opZ = x at *
      obtain ⟨xk, xn, xt⟩ := x
      dsimp only at e0 e1 e2 hop htx hz hsm HOK
      rcases hop with ⟨rfl | rfl, hn, rfl⟩ | ⟨rfl, rfl, hn⟩
      · obtain ⟨m, rfl⟩ : ∃ m : Nat, xn = (m : Int) := ⟨xn.toNat, by omega⟩
        rw [show frN ⟨1, (m : Int), []⟩ = m by simp [frN]] at hfr
        subst hfr
        obtain ⟨gb, ob, rfl⟩ : ∃ gb ob, a0 = some ⟨gb, ob, none⟩ := by
          rcases (unhide HB).2.2.1 with h3 | ⟨g0, o0, h3, _⟩
          · rw [h3] at hle; simp at hle; omega
          · exact ⟨g0, o0, h3⟩
        have HE := hide (Inside_at (some ⟨gb, ob, none⟩) c0 (f + m) l wr ((unhide HB).below (unhide HBX) (Nat.le_refl _)) hle)
        have w1' : IntKind.i64.wrap ((f : Int) + (m : Int)) = ((f + m : Nat) : Int) := by rw [IntKind.wrap_i64]; omega
        clear hn hz htx
        cases hin : inside l (f + m) with
        | true =>
          rw [hin] at HE
          have HR : Hid ((.int .i64 0 : Value) = .int .i64 CR.1 ∧ (.int .i64 4 : Value) = .int .i64 CR.2) := hide (by
            rw [(unhide HCR).2 (fun g => by
              have := (unhide HOK).1 (unhide HPR g)
              rcases this.2 with g2 | g2
              · exact absurd g2 (by decide)
              · unfold EdgP edgeB at g2
                rw [Int.toNat_natCast, hin] at g2; simp at g2)]
            exact ⟨rfl, rfl⟩)
          clear hsm HNX HOK HPR HOK0 hin HFF HSS
          go_wp2_with fail
          refine (unhide HE).mono ?_
          rintro y v1 ⟨rfl, rfl⟩
          dsimp only
          clear HE
          go_wp2_with fail
          exact bodyPost_ret (results_tmp2 rfl _ _ _) rfl ⟨by rw [← (unhide HR).1, ← (unhide HR).2]; rfl, unhide HBX⟩
        | false =>
          rw [hin] at HE
          have hokn := (unhide HOK).2 ⟨unhide HOK0, .inr (by
            unfold EdgP edgeB
            rw [Int.toNat_natCast, hin]
            simp; omega)⟩
          clear HOK HPR HOK0 hin HFF HSS
          clear hsp
          simp only [show ¬ (1 : Int) = 2 by decide, show ¬ (1 : Int) = 3 by decide, if_false, Nat.add_zero] at hsm
          have HN := hide (unhide HNX (f + m) s wr rfl hsm.symm hokn (unhide HBX))
          clear hokn hsm HNX
          go_wp2_with fail
          refine (unhide HE).mono ?_
          rintro y v1 ⟨rfl, rfl⟩
          dsimp only
          clear HE
          go_wp2_with fail
          go_roundw
          case rel => exact ⟨⟨_, rfl⟩, k + 1, f + m, s, by go_num, h1, by go_num, by go_num, HN⟩
          case measure => simp [intOf]; omega
      · obtain ⟨m, rfl⟩ : ∃ m : Nat, xn = (m : Int) := ⟨xn.toNat, by omega⟩
        rw [show frN ⟨3, (m : Int), []⟩ = m by simp [frN]] at hfr
        obtain ⟨gb, ob, rfl⟩ : ∃ gb ob, a0 = some ⟨gb, ob, none⟩ := by
          rcases (unhide HB).2.2.1 with h3 | ⟨g0, o0, h3, _⟩
          · rw [h3] at hle; simp at hle; omega
          · exact ⟨g0, o0, h3⟩
        have HE := hide (Inside_at (some ⟨gb, ob, none⟩) c0 F' l wr ((unhide HB).below (unhide HBX) (Nat.le_refl _)) hle)
        have w1' : IntKind.i64.wrap ((f : Int) + (m : Int)) = (F' : Int) := by rw [IntKind.wrap_i64]; omega
        have f9 : f < F' := by clear w1'; omega
        clear hn hz htx hfr
        cases hin : inside l F' with
        | true =>
          rw [hin] at HE
          have HR : Hid ((.int .i64 0 : Value) = .int .i64 CR.1 ∧ (.int .i64 4 : Value) = .int .i64 CR.2) := hide (by
            rw [(unhide HCR).2 (fun g => by
              have := (unhide HOK).1 (unhide HPR g)
              rcases this.2 with g2 | g2
              · exact absurd g2 (by decide)
              · unfold EdgP edgeB at g2
                rw [Int.toNat_natCast, hin] at g2; simp at g2)]
            exact ⟨rfl, rfl⟩)
          clear hsm hsp hle f9 HNX HOK HPR HOK0 hin HFF HSS
          go_wp2_with fail
          refine (unhide HE).mono ?_
          rintro y v1 ⟨rfl, rfl⟩
          dsimp only
          clear HE
          go_wp2_with fail
          exact bodyPost_ret (results_tmp2 rfl _ _ _) rfl ⟨by rw [← (unhide HR).1, ← (unhide HR).2]; rfl, unhide HBX⟩
        | false =>
          rw [hin] at HE
          have hokn := (unhide HOK).2 ⟨unhide HOK0, .inr (by
            unfold EdgP edgeB
            rw [Int.toNat_natCast, hin]
            simp; omega)⟩
          clear HOK HPR HOK0 hin HFF HSS
          simp only [show ¬ (3 : Int) = 2 by decide, if_false, if_true] at hsm
          have hml : (subL l f F').length = F' - f := by unfold subL; rw [List.length_take, List.length_drop]; omega
          have hbm := ((unhide HB).loD (n := f)).takeD (n := F' - f)
          rw [if_neg (by omega), Option.map_some, Addr.add_lit] at hbm
          have HST := hide (RSteps_at _ _ (subL l f F') wr (hbm.below (unhide HBX) (Nat.le_refl _)) (by rw [hml]; omega))
          have hcl : (cutP (subL l f F') (cutS (subL l f F'))).length = stepN (subL l f F') := by rw [cutP_len, cutS_len]; rfl
          have n1 := stepN_le (subL l f F')
          rw [hml] at HST n1
          generalize stepN (subL l f F') = q at *
          have HN := hide fun (X : World) (hX : Below w.heap.size w X) => unhide HNX F' (s + q) X rfl hsm.symm hokn hX
          have hsq : s + q ≤ 536870912 := by omega
          have q2 : F' ≤ c0 := by omega
          have q3 : ¬ c0 = f := by omega
          have HGE := hide fun (X : World) (hX : Below wr.heap.size wr X) => And.intro ((hX.cell (p := ⟨_, _, none⟩) hg).trans e0) (And.intro ((hX.cell (p := ⟨_, _, none⟩) hg).trans e1) ((hX.cell (p := ⟨_, _, none⟩) hg).trans e2))
          have f5 : (f : Int) ≤ (F' : Int) := by clear w1'; omega
          have f6 : (F' : Int) ≤ (c0 : Int) := by clear w1'; omega
          have f7 : (0 : Int) ≤ (f : Int) := by clear w1'; omega
          have f8 : f ≤ F' := by clear w1'; omega
          clear f9 hsp
          clear hokn hsm HNX hbm hml
          go_wp2_with fail
          refine (unhide HE).mono ?_
          rintro y v1 ⟨rfl, rfl⟩
          dsimp only
          clear HE
          go_wp2_with fail
          refine (unhide HST).mono ?_
          rintro y v2 ⟨vv, rfl, x2⟩
          obtain ⟨k1, y1, _⟩ := x2.row
          obtain ⟨a1, c1, rfl, i1⟩ := ra_txs y1
          dsimp only
          rw [hcl]
          have HX2 := hide ((unhide HBX).trans (x2.b.mono (unhide HBX).size))
          obtain ⟨d0, d1, d2⟩ := unhide HGE v2 x2.b
          clear HST x2 y1 i1 hcl e0 e1 e2 HGE
          go_wp2_with fail
          go_roundw
          case rel => exact ⟨⟨_, rfl⟩, k + 1, F', s + q, by go_num, h1, by first | rfl | go_num, by go_num, hide (unhide HN _ (unhide HX2))⟩
          case measure => simp [intOf]; omega
      · rw [show frN ⟨2, 0, xt⟩ = 0 by simp [frN], Nat.add_zero] at hfr
        simp only [if_true] at hsm
        obtain ⟨cq, u1, rc, ib, bu⟩ := run_toBytesC wr xt htx (by omega)
        have HST := hide (RSteps_at _ cq xt u1 ib hz)
        have hcl : (cutP xt (cutS xt)).length = stepN xt := by rw [cutP_len, cutS_len]; rfl
        have n1 := stepN_le xt
        have hokn := (unhide HOK).2 ⟨unhide HOK0, .inl rfl⟩
        have HN := hide fun (X : World) (hX : Below w.heap.size w X) => unhide HNX F' (s + stepN xt) X rfl hsm.symm hokn hX
        generalize stepN xt = q at *
        have hsq : s + q ≤ 536870912 := by omega
        have HBU := hide ((unhide HBX).trans (bu.mono (unhide HBX).size))
        clear hn htx hokn HNX HOK HPR HOK0 hsm hsp ib bu HFF HSS
        go_wp2_with fail
        refine (unhide HST).mono ?_
        rintro y v2 ⟨vv, rfl, x2⟩
        obtain ⟨k1, y1, _⟩ := x2.row
        obtain ⟨a1, c1, rfl, i1⟩ := ra_txs y1
        dsimp only
        rw [hcl]
        have HX2 := hide ((unhide HBU).trans (x2.b.mono (unhide HBU).size))
        clear HST x2 y1 i1 hcl rc e0 e1 e2
        go_wp2_with fail
        go_roundw
        case rel => exact ⟨⟨_, rfl⟩, k + 1, F', s + q, by go_num, h1, by rw [hfr], by go_num, hide (unhide HN _ (unhide HX2))⟩
        case measure => simp [intOf]; omega
    · obtain rfl : k = d.length := by omega
      have t1 : decide ((d.length : Int) < (d.length : Int)) = false := decide_eq_false (by omega)
      have HR : Hid ((.int .i64 (s : Int) : Value) = .int .i64 CR.1 ∧ (.int .i64 0 : Value) = .int .i64 CR.2 ∧ Below w.heap.size w wr) := hide (by
        obtain ⟨_, q2, q3, q4⟩ := unhide HX
        rw [List.take_length] at q2 q3
        rw [(unhide HCR).1 q3, q2]
        exact ⟨rfl, rfl, q4⟩)
      clear HX
      go_wp2_with fail
      exact bodyPost_ret (results_tmp2 rfl _ _ _) rfl ⟨by rw [← (unhide HR).1, ← (unhide HR).2.1]; rfl, (unhide HR).2.2⟩
end Go.Proofs.YtkdnanlgkedjgaaDoor
end

section
namespace Go.Proofs.YtkdnanlgkedjgaaDoor
open Go.ChangeShapes Go.WideShapes Go.ChangeAt Go.RowKit
attribute [local go_sem] Oper.semAt_some

theorem below_dN {B : Nat} {a w : World} (h : Below B a w) (n : Nat) : Below B a (w.drewN n) := ⟨h.os, h.tape, h.output, h.size, h.block⟩
theorem cln_wrap {t n T : Nat} (h : T = t + n) (hT : T ≤ 536870912) : IntKind.i64.wrap ((t : Int) + IntKind.i64.wrap ((n : Int))) = (T : Int) := by
  have e : IntKind.i64.wrap ((n : Int)) = (n : Int) := by rw [IntKind.wrap_i64]; omega
  rw [e, IntKind.wrap_i64]; clear e; omega
theorem cln_step {b : List Int} {d : List Dop} {k t : Nat} (h : k < d.length) : clnB b t (d.drop k) = (!(inside b (t + toN (d.getD k opZ))) && clnB b (t + toN (d.getD k opZ)) (d.drop (k + 1))) := by
  have e : d.drop k = d.getD k opZ :: d.drop (k + 1) := by
    rw [List.drop_eq_getElem_cons h]; simp [List.getD, List.getElem?_eq_getElem h]
  rw [e]; rfl
set_option maxRecDepth 100000 in
set_option maxHeartbeats 8000000 in
theorem RClean_at (a0 : Option Addr) (c0 : Nat) (m : List Int) (a : Option Addr) (c : Nat) (d : List Dop) (w : World) (hB : IsB w a0 c0 m) (h : IsO w a d) (hl : d.length ≤ 4611686018427387904) (hv : valB d = true) (hf : toD d = m.length) :
    Calls Tryd.prog 21 #[.slice a0 m.length c0, .slice a d.length c] w fun y w' => y = .returned (.bool (clnB m 0 d)) ∧ Below w.heap.size w w' := by
  have HO := hide h
  have HB := hide hB
  have HV := hide hv
  have HF := hide hf
  have hm := hB.2.1
  have hmz : m.length ≤ 268435456 := by rw [← hf]; exact (valB_nn hv).2.2
  obtain ⟨R, hR⟩ : ∃ R, R = clnB m 0 d := ⟨_, rfl⟩
  rw [← hR]
  have HR := hide hR
  clear h hB hv hf hR
  go_enter Tryd.func21, Tryd.ntmps21
  go_wp2_with fail
  go_loopw [5, 6, 7] (fun v5 v6 v7 wx => (∃ z, v7 = z) ∧ ∃ (k t : Nat), v6 = .int .i64 (k : Int) ∧ k ≤ d.length ∧ v5 = .int .i64 (t : Int) ∧ Hid (t = toD (d.take k) ∧ R = clnB m t (d.drop k) ∧ Below w.heap.size w wx)) (fun _ v6 _ _ => d.length - (intOf v6).toNat)
  case atStart => exact ⟨⟨_, rfl⟩, 0, 0, rfl, Nat.zero_le _, rfl, hide ⟨rfl, unhide HR, Below.refl _ _⟩⟩
  case round =>
    clear HR
    obtain ⟨⟨z, rfl⟩, k, t, rfl, hk, rfl, HX⟩ := hrel
    by_cases h1 : k < d.length
    · have t1 : decide ((k : Int) < (d.length : Int)) = true := decide_eq_true (by omega)
      have f1 : (k : Int) < (d.length : Int) := by omega
      obtain ⟨hxt, hxr, hbx⟩ := unhide HX
      obtain ⟨g, off, rfl, hg, e0, e1, e2⟩ := ((unhide HO).below hbx (Nat.le_refl _)).three h1
      have hop := valB_op (unhide HV) (getD_memD h1)
      have hto := toD_take d h1
      have hle : toD (d.take (k + 1)) ≤ m.length := by
        rw [← unhide HF]
        unfold toD
        conv => rhs; rw [← List.take_append_drop (k + 1) d]
        rw [List.map_append, List.sum_append]
        exact Nat.le_add_right _ _
      rw [cln_step h1] at hxr
      rw [← hxt] at hto
      have HBX := hide hbx
      clear hxt hbx HX hk
      generalize hT : toD (d.take (k + 1)) = T at *
      generalize d.getD k opZ = x at *
      obtain ⟨xk, xn, xt⟩ := x
      rw [← hto] at hxr
      dsimp only at e0 e1 e2 hop
      have hsz := strOfNums_size xt
      have HE := hide fun (X : World) (hX : Below w.heap.size w X) => Inside_at a0 c0 T m X ((unhide HB).below hX (Nat.le_refl _)) hle
      have HXR := hide hxr
      clear hxr
      rcases hop with ⟨rfl | rfl, hn, rfl⟩ | ⟨rfl, rfl, hn⟩
      · obtain ⟨n, rfl⟩ : ∃ n : Nat, xn = (n : Int) := ⟨xn.toNat, by omega⟩
        rw [show toN ⟨1, (n : Int), []⟩ = n by simp [toN]] at hto
        have w2' : IntKind.i64.wrap ((t : Int) + IntKind.i64.wrap ((n : Int))) = (T : Int) := cln_wrap hto (by omega)
        clear hn hle hto hmz
        cases hin : inside m T with
        | true =>
          rw [hin] at HE HXR
          clear hin
          have HRF : Hid (R = false) := hide (by rw [unhide HXR]; rfl)
          clear HXR
          have S0 : wr.drew.cell? ⟨g, off + k * 3 + 1, none⟩ = some (.int .i64 (n : Int)) ∧ wr.drew.cell? ⟨g, off + k * 3 + 2, none⟩ = some (.string (strOfNums [])) := ⟨e1, e2⟩
          have HBY := hide (below_dN (unhide HBX) 1)
          go_wp2_with fail
          refine regionL (S := fun w' => w'.cell? ⟨g, off + k * 3 + 1, none⟩ = some (.int .i64 (n : Int)) ∧ w'.cell? ⟨g, off + k * 3 + 2, none⟩ = some (.string (strOfNums []))) (fun _ => false) (by kernel_rfl) ?_
          refine anyL_take (i := 0) (v := ?vq0) rfl (by kernel_rfl) (by kernel_rfl) (by kernel_rfl) (by kernel_rfl) (fun _ _ _ h => h) (Or.inl ⟨by rfl, ?hq0⟩) (S0) ?_
          case hq0 => (intro w hSw; (try dsimp only at hSw); go_simp) <;> with_reducible rfl
          simp only [Act.put, List.getElem_toArray, List.getElem_cons_zero, List.setIfInBounds_toArray, List.set_cons_zero, List.set_cons_succ]
          refine anyL_take (i := 1) (v := ?vq1) rfl (by kernel_rfl) (by kernel_rfl) (by kernel_rfl) (by kernel_rfl) (fun _ _ _ h => h) (Or.inl ⟨by rfl, ?hq1⟩) (S0) ?_
          case hq1 => (intro w hSw; (try dsimp only at hSw); go_simp) <;> with_reducible rfl
          simp only [Act.put, List.getElem_toArray, List.getElem_cons_zero, List.getElem_cons_succ, List.setIfInBounds_toArray, List.set_cons_zero, List.set_cons_succ]
          refine anyL_take (i := 2) (v := ?vq2) rfl (by kernel_rfl) (by kernel_rfl) (by kernel_rfl) (by kernel_rfl) (fun _ _ _ h => h) (Or.inl ⟨by rfl, ?hq2⟩) (S0) ?_
          case hq2 => (intro w hSw; (try dsimp only at hSw); go_simp) <;> with_reducible rfl
          simp only [Act.put, List.getElem_toArray, List.getElem_cons_zero, List.getElem_cons_succ, List.setIfInBounds_toArray, List.set_cons_zero, List.set_cons_succ]
          refine anyL_take (i := 3) (v := ?vq3) rfl (by kernel_rfl) (by kernel_rfl) (by kernel_rfl) (by kernel_rfl) (fun _ _ _ h => h) (Or.inl ⟨by rfl, ?hq3⟩) (S0) ?_
          case hq3 => (intro w hSw; (try dsimp only at hSw); go_simp) <;> with_reducible rfl
          simp only [Act.put, List.getElem_toArray, List.getElem_cons_zero, List.getElem_cons_succ, List.setIfInBounds_toArray, List.set_cons_zero, List.set_cons_succ]
          refine anyL_take (i := 4) (v := ?vq4) rfl (by kernel_rfl) (by kernel_rfl) (by kernel_rfl) (by kernel_rfl) (fun _ _ _ h => h) (Or.inl ⟨by rfl, ?hq4⟩) (S0) ?_
          case hq4 => (intro w hSw; (try dsimp only at hSw); go_simp) <;> with_reducible rfl
          simp only [Act.put, List.getElem_toArray, List.getElem_cons_zero, List.getElem_cons_succ, List.setIfInBounds_toArray, List.set_cons_zero, List.set_cons_succ]
          refine anyL_take (i := 5) (v := ?vq5) rfl (by kernel_rfl) (by kernel_rfl) (by kernel_rfl) (by kernel_rfl) (fun _ _ _ h => h) (Or.inl ⟨by rfl, ?hq5⟩) (S0) ?_
          case hq5 => (intro w hSw; (try dsimp only at hSw); go_simp) <;> with_reducible rfl
          simp only [Act.put, List.getElem_toArray, List.getElem_cons_zero, List.getElem_cons_succ, List.setIfInBounds_toArray, List.set_cons_zero, List.set_cons_succ]
          refine anyL_take (i := 6) (v := ?vq6) rfl (by kernel_rfl) (by kernel_rfl) (by kernel_rfl) (by kernel_rfl) (fun _ _ _ h => h) (Or.inl ⟨by rfl, ?hq6⟩) (S0) ?_
          case hq6 => (intro w hSw; (try dsimp only at hSw); go_simp) <;> with_reducible rfl
          simp only [Act.put, List.getElem_toArray, List.getElem_cons_zero, List.getElem_cons_succ, List.setIfInBounds_toArray, List.set_cons_zero, List.set_cons_succ]
          refine anyL_take (i := 7) (v := ?vq7) rfl (by kernel_rfl) (by kernel_rfl) (by kernel_rfl) (by kernel_rfl) (fun _ _ _ h => h) (Or.inl ⟨by rfl, ?hq7⟩) (S0) ?_
          case hq7 => (intro w hSw; (try dsimp only at hSw); go_simp) <;> with_reducible rfl
          simp only [Act.put, List.getElem_toArray, List.getElem_cons_zero, List.getElem_cons_succ, List.setIfInBounds_toArray, List.set_cons_zero, List.set_cons_succ]
          refine anyL_take (i := 8) (v := ?vq8) rfl (by kernel_rfl) (by kernel_rfl) (by kernel_rfl) (by kernel_rfl) (fun _ _ _ h => h) (Or.inl ⟨by rfl, ?hq8⟩) (S0) ?_
          case hq8 => (intro w hSw; (try dsimp only at hSw); go_simp) <;> with_reducible rfl
          simp only [Act.put, List.getElem_toArray, List.getElem_cons_zero, List.getElem_cons_succ, List.setIfInBounds_toArray, List.set_cons_zero, List.set_cons_succ]
          refine anyL_take (i := 9) (v := ?vq9) rfl (by kernel_rfl) (by kernel_rfl) (by kernel_rfl) (by kernel_rfl) (fun _ _ _ h => h) (Or.inl ⟨by rfl, ?hq9⟩) (S0) ?_
          case hq9 => (intro w hSw; (try dsimp only at hSw); go_simp) <;> with_reducible rfl
          simp only [Act.put, List.getElem_toArray, List.getElem_cons_zero, List.getElem_cons_succ, List.setIfInBounds_toArray, List.set_cons_zero, List.set_cons_succ]
          refine anyL_take (i := 10) (v := ?vq10) rfl (by kernel_rfl) (by kernel_rfl) (by kernel_rfl) (by kernel_rfl) (fun _ _ _ h => h) (Or.inl ⟨by rfl, ?hq10⟩) (S0) ?_
          case hq10 => (intro w hSw; (try dsimp only at hSw); go_simp) <;> with_reducible rfl
          simp only [Act.put, List.getElem_toArray, List.getElem_cons_zero, List.getElem_cons_succ, List.setIfInBounds_toArray, List.set_cons_zero, List.set_cons_succ]
          refine anyL_take (i := 11) (v := ?vq11) rfl (by kernel_rfl) (by kernel_rfl) (by kernel_rfl) (by kernel_rfl) (fun _ _ _ h => h) (Or.inl ⟨by rfl, ?hq11⟩) (S0) ?_
          case hq11 => (intro w hSw; (try dsimp only at hSw); go_simp) <;> with_reducible rfl
          simp only [Act.put, List.getElem_toArray, List.getElem_cons_zero, List.getElem_cons_succ, List.setIfInBounds_toArray, List.set_cons_zero, List.set_cons_succ]
          refine anyL_take (i := 12) (v := ?vq12) rfl (by kernel_rfl) (by kernel_rfl) (by kernel_rfl) (by kernel_rfl) (fun _ _ _ h => h) (Or.inl ⟨by rfl, ?hq12⟩) (S0) ?_
          case hq12 => (intro w hSw; (try dsimp only at hSw); go_simp) <;> with_reducible rfl
          simp only [Act.put, List.getElem_toArray, List.getElem_cons_zero, List.getElem_cons_succ, List.setIfInBounds_toArray, List.set_cons_zero, List.set_cons_succ]
          refine anyL_take (i := 13) (v := ?vq13) rfl (by kernel_rfl) (by kernel_rfl) (by kernel_rfl) (by kernel_rfl) (fun _ _ _ h => h) (Or.inl ⟨by rfl, ?hq13⟩) (S0) ?_
          case hq13 => (intro w hSw; (try dsimp only at hSw); go_simp) <;> with_reducible rfl
          simp only [Act.put, List.getElem_toArray, List.getElem_cons_zero, List.getElem_cons_succ, List.setIfInBounds_toArray, List.set_cons_zero, List.set_cons_succ]
          refine anyL_take (i := 14) (v := ?vq14) rfl (by kernel_rfl) (by kernel_rfl) (by kernel_rfl) (by kernel_rfl) (fun _ _ _ h => h) (Or.inl ⟨by rfl, ?hq14⟩) (S0) ?_
          case hq14 => (intro w hSw; (try dsimp only at hSw); go_simp) <;> with_reducible rfl
          simp only [Act.put, List.getElem_toArray, List.getElem_cons_zero, List.getElem_cons_succ, List.setIfInBounds_toArray, List.set_cons_zero, List.set_cons_succ]
          refine anyL_done (by kernel_rfl) ?_ _
          go_wp2_with fail
          refine (unhide HE _ (unhide HBY)).mono ?_
          rintro y v1 ⟨rfl, rfl⟩
          dsimp only
          clear HE
          go_wp2_with fail
          refine bodyPost_ret (results_tmp rfl _ _ _) rfl ⟨by rw [unhide HRF]; rfl, unhide HBY⟩
        | false =>
          rw [hin] at HE HXR
          clear hin
          have HRF : Hid (R = clnB m T (d.drop (k + 1))) := hide (by rw [unhide HXR]; rfl)
          clear HXR
          have S0 : wr.drew.cell? ⟨g, off + k * 3 + 1, none⟩ = some (.int .i64 (n : Int)) ∧ wr.drew.cell? ⟨g, off + k * 3 + 2, none⟩ = some (.string (strOfNums [])) := ⟨e1, e2⟩
          have HBY := hide (below_dN (unhide HBX) 1)
          go_wp2_with fail
          refine regionL (S := fun w' => w'.cell? ⟨g, off + k * 3 + 1, none⟩ = some (.int .i64 (n : Int)) ∧ w'.cell? ⟨g, off + k * 3 + 2, none⟩ = some (.string (strOfNums []))) (fun _ => false) (by kernel_rfl) ?_
          refine anyL_take (i := 0) (v := ?vq15) rfl (by kernel_rfl) (by kernel_rfl) (by kernel_rfl) (by kernel_rfl) (fun _ _ _ h => h) (Or.inl ⟨by rfl, ?hq15⟩) (S0) ?_
          case hq15 => (intro w hSw; (try dsimp only at hSw); go_simp) <;> with_reducible rfl
          simp only [Act.put, List.getElem_toArray, List.getElem_cons_zero, List.setIfInBounds_toArray, List.set_cons_zero, List.set_cons_succ]
          refine anyL_take (i := 1) (v := ?vq16) rfl (by kernel_rfl) (by kernel_rfl) (by kernel_rfl) (by kernel_rfl) (fun _ _ _ h => h) (Or.inl ⟨by rfl, ?hq16⟩) (S0) ?_
          case hq16 => (intro w hSw; (try dsimp only at hSw); go_simp) <;> with_reducible rfl
          simp only [Act.put, List.getElem_toArray, List.getElem_cons_zero, List.getElem_cons_succ, List.setIfInBounds_toArray, List.set_cons_zero, List.set_cons_succ]
          refine anyL_take (i := 2) (v := ?vq17) rfl (by kernel_rfl) (by kernel_rfl) (by kernel_rfl) (by kernel_rfl) (fun _ _ _ h => h) (Or.inl ⟨by rfl, ?hq17⟩) (S0) ?_
          case hq17 => (intro w hSw; (try dsimp only at hSw); go_simp) <;> with_reducible rfl
          simp only [Act.put, List.getElem_toArray, List.getElem_cons_zero, List.getElem_cons_succ, List.setIfInBounds_toArray, List.set_cons_zero, List.set_cons_succ]
          refine anyL_take (i := 3) (v := ?vq18) rfl (by kernel_rfl) (by kernel_rfl) (by kernel_rfl) (by kernel_rfl) (fun _ _ _ h => h) (Or.inl ⟨by rfl, ?hq18⟩) (S0) ?_
          case hq18 => (intro w hSw; (try dsimp only at hSw); go_simp) <;> with_reducible rfl
          simp only [Act.put, List.getElem_toArray, List.getElem_cons_zero, List.getElem_cons_succ, List.setIfInBounds_toArray, List.set_cons_zero, List.set_cons_succ]
          refine anyL_take (i := 4) (v := ?vq19) rfl (by kernel_rfl) (by kernel_rfl) (by kernel_rfl) (by kernel_rfl) (fun _ _ _ h => h) (Or.inl ⟨by rfl, ?hq19⟩) (S0) ?_
          case hq19 => (intro w hSw; (try dsimp only at hSw); go_simp) <;> with_reducible rfl
          simp only [Act.put, List.getElem_toArray, List.getElem_cons_zero, List.getElem_cons_succ, List.setIfInBounds_toArray, List.set_cons_zero, List.set_cons_succ]
          refine anyL_take (i := 5) (v := ?vq20) rfl (by kernel_rfl) (by kernel_rfl) (by kernel_rfl) (by kernel_rfl) (fun _ _ _ h => h) (Or.inl ⟨by rfl, ?hq20⟩) (S0) ?_
          case hq20 => (intro w hSw; (try dsimp only at hSw); go_simp) <;> with_reducible rfl
          simp only [Act.put, List.getElem_toArray, List.getElem_cons_zero, List.getElem_cons_succ, List.setIfInBounds_toArray, List.set_cons_zero, List.set_cons_succ]
          refine anyL_take (i := 6) (v := ?vq21) rfl (by kernel_rfl) (by kernel_rfl) (by kernel_rfl) (by kernel_rfl) (fun _ _ _ h => h) (Or.inl ⟨by rfl, ?hq21⟩) (S0) ?_
          case hq21 => (intro w hSw; (try dsimp only at hSw); go_simp) <;> with_reducible rfl
          simp only [Act.put, List.getElem_toArray, List.getElem_cons_zero, List.getElem_cons_succ, List.setIfInBounds_toArray, List.set_cons_zero, List.set_cons_succ]
          refine anyL_take (i := 7) (v := ?vq22) rfl (by kernel_rfl) (by kernel_rfl) (by kernel_rfl) (by kernel_rfl) (fun _ _ _ h => h) (Or.inl ⟨by rfl, ?hq22⟩) (S0) ?_
          case hq22 => (intro w hSw; (try dsimp only at hSw); go_simp) <;> with_reducible rfl
          simp only [Act.put, List.getElem_toArray, List.getElem_cons_zero, List.getElem_cons_succ, List.setIfInBounds_toArray, List.set_cons_zero, List.set_cons_succ]
          refine anyL_take (i := 8) (v := ?vq23) rfl (by kernel_rfl) (by kernel_rfl) (by kernel_rfl) (by kernel_rfl) (fun _ _ _ h => h) (Or.inl ⟨by rfl, ?hq23⟩) (S0) ?_
          case hq23 => (intro w hSw; (try dsimp only at hSw); go_simp) <;> with_reducible rfl
          simp only [Act.put, List.getElem_toArray, List.getElem_cons_zero, List.getElem_cons_succ, List.setIfInBounds_toArray, List.set_cons_zero, List.set_cons_succ]
          refine anyL_take (i := 9) (v := ?vq24) rfl (by kernel_rfl) (by kernel_rfl) (by kernel_rfl) (by kernel_rfl) (fun _ _ _ h => h) (Or.inl ⟨by rfl, ?hq24⟩) (S0) ?_
          case hq24 => (intro w hSw; (try dsimp only at hSw); go_simp) <;> with_reducible rfl
          simp only [Act.put, List.getElem_toArray, List.getElem_cons_zero, List.getElem_cons_succ, List.setIfInBounds_toArray, List.set_cons_zero, List.set_cons_succ]
          refine anyL_take (i := 10) (v := ?vq25) rfl (by kernel_rfl) (by kernel_rfl) (by kernel_rfl) (by kernel_rfl) (fun _ _ _ h => h) (Or.inl ⟨by rfl, ?hq25⟩) (S0) ?_
          case hq25 => (intro w hSw; (try dsimp only at hSw); go_simp) <;> with_reducible rfl
          simp only [Act.put, List.getElem_toArray, List.getElem_cons_zero, List.getElem_cons_succ, List.setIfInBounds_toArray, List.set_cons_zero, List.set_cons_succ]
          refine anyL_take (i := 11) (v := ?vq26) rfl (by kernel_rfl) (by kernel_rfl) (by kernel_rfl) (by kernel_rfl) (fun _ _ _ h => h) (Or.inl ⟨by rfl, ?hq26⟩) (S0) ?_
          case hq26 => (intro w hSw; (try dsimp only at hSw); go_simp) <;> with_reducible rfl
          simp only [Act.put, List.getElem_toArray, List.getElem_cons_zero, List.getElem_cons_succ, List.setIfInBounds_toArray, List.set_cons_zero, List.set_cons_succ]
          refine anyL_take (i := 12) (v := ?vq27) rfl (by kernel_rfl) (by kernel_rfl) (by kernel_rfl) (by kernel_rfl) (fun _ _ _ h => h) (Or.inl ⟨by rfl, ?hq27⟩) (S0) ?_
          case hq27 => (intro w hSw; (try dsimp only at hSw); go_simp) <;> with_reducible rfl
          simp only [Act.put, List.getElem_toArray, List.getElem_cons_zero, List.getElem_cons_succ, List.setIfInBounds_toArray, List.set_cons_zero, List.set_cons_succ]
          refine anyL_take (i := 13) (v := ?vq28) rfl (by kernel_rfl) (by kernel_rfl) (by kernel_rfl) (by kernel_rfl) (fun _ _ _ h => h) (Or.inl ⟨by rfl, ?hq28⟩) (S0) ?_
          case hq28 => (intro w hSw; (try dsimp only at hSw); go_simp) <;> with_reducible rfl
          simp only [Act.put, List.getElem_toArray, List.getElem_cons_zero, List.getElem_cons_succ, List.setIfInBounds_toArray, List.set_cons_zero, List.set_cons_succ]
          refine anyL_take (i := 14) (v := ?vq29) rfl (by kernel_rfl) (by kernel_rfl) (by kernel_rfl) (by kernel_rfl) (fun _ _ _ h => h) (Or.inl ⟨by rfl, ?hq29⟩) (S0) ?_
          case hq29 => (intro w hSw; (try dsimp only at hSw); go_simp) <;> with_reducible rfl
          simp only [Act.put, List.getElem_toArray, List.getElem_cons_zero, List.getElem_cons_succ, List.setIfInBounds_toArray, List.set_cons_zero, List.set_cons_succ]
          refine anyL_done (by kernel_rfl) ?_ _
          go_wp2_with fail
          refine (unhide HE _ (unhide HBY)).mono ?_
          rintro y v1 ⟨rfl, rfl⟩
          dsimp only
          clear HE
          go_wp2_with fail
          go_roundw
          case rel => exact ⟨⟨_, rfl⟩, k + 1, T, by go_num, h1, rfl, hide ⟨hT.symm, unhide HRF, unhide HBY⟩⟩
          case measure => simp [intOf]; omega
      · rw [show toN ⟨3, xn, []⟩ = 0 by simp [toN], Nat.add_zero] at hto
        obtain rfl : t = T := by omega
        cases hin : inside m t with
        | true =>
          rw [hin] at HE HXR
          clear hin
          have HRF : Hid (R = false) := hide (by rw [unhide HXR]; rfl)
          clear HXR
          have HBY := HBX
          go_wp2_with fail
          refine (unhide HE _ (unhide HBY)).mono ?_
          rintro y v1 ⟨rfl, rfl⟩
          dsimp only
          clear HE
          go_wp2_with fail
          refine bodyPost_ret (results_tmp rfl _ _ _) rfl ⟨by rw [unhide HRF]; rfl, unhide HBY⟩
        | false =>
          rw [hin] at HE HXR
          clear hin
          have HRF : Hid (R = clnB m t (d.drop (k + 1))) := hide (by rw [unhide HXR]; rfl)
          clear HXR
          have HBY := HBX
          go_wp2_with fail
          refine (unhide HE _ (unhide HBY)).mono ?_
          rintro y v1 ⟨rfl, rfl⟩
          dsimp only
          clear HE
          go_wp2_with fail
          go_roundw
          case rel => exact ⟨⟨_, rfl⟩, k + 1, t, by go_num, h1, rfl, hide ⟨hT.symm, unhide HRF, unhide HBY⟩⟩
          case measure => simp [intOf]; omega
      · rw [show toN ⟨2, 0, xt⟩ = xt.length by simp [toN]] at hto
        have w2' : IntKind.i64.wrap ((t : Int) + IntKind.i64.wrap ((xt.length : Int))) = (T : Int) := cln_wrap hto (by omega)
        clear hn hle hto hmz
        cases hin : inside m T with
        | true =>
          rw [hin] at HE HXR
          clear hin
          have HRF : Hid (R = false) := hide (by rw [unhide HXR]; rfl)
          clear HXR
          have S0 : wr.drew.cell? ⟨g, off + k * 3 + 1, none⟩ = some (.int .i64 0) ∧ wr.drew.cell? ⟨g, off + k * 3 + 2, none⟩ = some (.string (strOfNums xt)) := ⟨e1, e2⟩
          have HBY := hide (below_dN (unhide HBX) 1)
          go_wp2_with fail
          refine regionL (S := fun w' => w'.cell? ⟨g, off + k * 3 + 1, none⟩ = some (.int .i64 0) ∧ w'.cell? ⟨g, off + k * 3 + 2, none⟩ = some (.string (strOfNums xt))) (fun _ => false) (by kernel_rfl) ?_
          refine anyL_take (i := 0) (v := ?vq30) rfl (by kernel_rfl) (by kernel_rfl) (by kernel_rfl) (by kernel_rfl) (fun _ _ _ h => h) (Or.inl ⟨by rfl, ?hq30⟩) (S0) ?_
          case hq30 => (intro w hSw; (try dsimp only at hSw); go_simp) <;> with_reducible rfl
          simp only [Act.put, List.getElem_toArray, List.getElem_cons_zero, List.setIfInBounds_toArray, List.set_cons_zero, List.set_cons_succ]
          refine anyL_take (i := 1) (v := ?vq31) rfl (by kernel_rfl) (by kernel_rfl) (by kernel_rfl) (by kernel_rfl) (fun _ _ _ h => h) (Or.inl ⟨by rfl, ?hq31⟩) (S0) ?_
          case hq31 => (intro w hSw; (try dsimp only at hSw); go_simp) <;> with_reducible rfl
          simp only [Act.put, List.getElem_toArray, List.getElem_cons_zero, List.getElem_cons_succ, List.setIfInBounds_toArray, List.set_cons_zero, List.set_cons_succ]
          refine anyL_take (i := 2) (v := ?vq32) rfl (by kernel_rfl) (by kernel_rfl) (by kernel_rfl) (by kernel_rfl) (fun _ _ _ h => h) (Or.inl ⟨by rfl, ?hq32⟩) (S0) ?_
          case hq32 => (intro w hSw; (try dsimp only at hSw); go_simp) <;> with_reducible rfl
          simp only [Act.put, List.getElem_toArray, List.getElem_cons_zero, List.getElem_cons_succ, List.setIfInBounds_toArray, List.set_cons_zero, List.set_cons_succ]
          refine anyL_take (i := 3) (v := ?vq33) rfl (by kernel_rfl) (by kernel_rfl) (by kernel_rfl) (by kernel_rfl) (fun _ _ _ h => h) (Or.inl ⟨by rfl, ?hq33⟩) (S0) ?_
          case hq33 => (intro w hSw; (try dsimp only at hSw); go_simp) <;> with_reducible rfl
          simp only [Act.put, List.getElem_toArray, List.getElem_cons_zero, List.getElem_cons_succ, List.setIfInBounds_toArray, List.set_cons_zero, List.set_cons_succ]
          refine anyL_take (i := 4) (v := ?vq34) rfl (by kernel_rfl) (by kernel_rfl) (by kernel_rfl) (by kernel_rfl) (fun _ _ _ h => h) (Or.inl ⟨by rfl, ?hq34⟩) (S0) ?_
          case hq34 => (intro w hSw; (try dsimp only at hSw); go_simp) <;> with_reducible rfl
          simp only [Act.put, List.getElem_toArray, List.getElem_cons_zero, List.getElem_cons_succ, List.setIfInBounds_toArray, List.set_cons_zero, List.set_cons_succ]
          refine anyL_take (i := 5) (v := ?vq35) rfl (by kernel_rfl) (by kernel_rfl) (by kernel_rfl) (by kernel_rfl) (fun _ _ _ h => h) (Or.inl ⟨by rfl, ?hq35⟩) (S0) ?_
          case hq35 => (intro w hSw; (try dsimp only at hSw); go_simp) <;> with_reducible rfl
          simp only [Act.put, List.getElem_toArray, List.getElem_cons_zero, List.getElem_cons_succ, List.setIfInBounds_toArray, List.set_cons_zero, List.set_cons_succ]
          refine anyL_take (i := 6) (v := ?vq36) rfl (by kernel_rfl) (by kernel_rfl) (by kernel_rfl) (by kernel_rfl) (fun _ _ _ h => h) (Or.inl ⟨by rfl, ?hq36⟩) (S0) ?_
          case hq36 => (intro w hSw; (try dsimp only at hSw); go_simp) <;> with_reducible rfl
          simp only [Act.put, List.getElem_toArray, List.getElem_cons_zero, List.getElem_cons_succ, List.setIfInBounds_toArray, List.set_cons_zero, List.set_cons_succ]
          refine anyL_take (i := 7) (v := ?vq37) rfl (by kernel_rfl) (by kernel_rfl) (by kernel_rfl) (by kernel_rfl) (fun _ _ _ h => h) (Or.inl ⟨by rfl, ?hq37⟩) (S0) ?_
          case hq37 => (intro w hSw; (try dsimp only at hSw); go_simp) <;> with_reducible rfl
          simp only [Act.put, List.getElem_toArray, List.getElem_cons_zero, List.getElem_cons_succ, List.setIfInBounds_toArray, List.set_cons_zero, List.set_cons_succ]
          refine anyL_take (i := 8) (v := ?vq38) rfl (by kernel_rfl) (by kernel_rfl) (by kernel_rfl) (by kernel_rfl) (fun _ _ _ h => h) (Or.inl ⟨by rfl, ?hq38⟩) (S0) ?_
          case hq38 => (intro w hSw; (try dsimp only at hSw); go_simp) <;> with_reducible rfl
          simp only [Act.put, List.getElem_toArray, List.getElem_cons_zero, List.getElem_cons_succ, List.setIfInBounds_toArray, List.set_cons_zero, List.set_cons_succ]
          refine anyL_take (i := 9) (v := ?vq39) rfl (by kernel_rfl) (by kernel_rfl) (by kernel_rfl) (by kernel_rfl) (fun _ _ _ h => h) (Or.inl ⟨by rfl, ?hq39⟩) (S0) ?_
          case hq39 => (intro w hSw; (try dsimp only at hSw); go_simp) <;> with_reducible rfl
          simp only [Act.put, List.getElem_toArray, List.getElem_cons_zero, List.getElem_cons_succ, List.setIfInBounds_toArray, List.set_cons_zero, List.set_cons_succ]
          refine anyL_take (i := 10) (v := ?vq40) rfl (by kernel_rfl) (by kernel_rfl) (by kernel_rfl) (by kernel_rfl) (fun _ _ _ h => h) (Or.inl ⟨by rfl, ?hq40⟩) (S0) ?_
          case hq40 => (intro w hSw; (try dsimp only at hSw); go_simp) <;> with_reducible rfl
          simp only [Act.put, List.getElem_toArray, List.getElem_cons_zero, List.getElem_cons_succ, List.setIfInBounds_toArray, List.set_cons_zero, List.set_cons_succ]
          refine anyL_take (i := 11) (v := ?vq41) rfl (by kernel_rfl) (by kernel_rfl) (by kernel_rfl) (by kernel_rfl) (fun _ _ _ h => h) (Or.inl ⟨by rfl, ?hq41⟩) (S0) ?_
          case hq41 => (intro w hSw; (try dsimp only at hSw); go_simp) <;> with_reducible rfl
          simp only [Act.put, List.getElem_toArray, List.getElem_cons_zero, List.getElem_cons_succ, List.setIfInBounds_toArray, List.set_cons_zero, List.set_cons_succ]
          refine anyL_take (i := 12) (v := ?vq42) rfl (by kernel_rfl) (by kernel_rfl) (by kernel_rfl) (by kernel_rfl) (fun _ _ _ h => h) (Or.inl ⟨by rfl, ?hq42⟩) (S0) ?_
          case hq42 => (intro w hSw; (try dsimp only at hSw); go_simp) <;> with_reducible rfl
          simp only [Act.put, List.getElem_toArray, List.getElem_cons_zero, List.getElem_cons_succ, List.setIfInBounds_toArray, List.set_cons_zero, List.set_cons_succ]
          refine anyL_take (i := 13) (v := ?vq43) rfl (by kernel_rfl) (by kernel_rfl) (by kernel_rfl) (by kernel_rfl) (fun _ _ _ h => h) (Or.inl ⟨by rfl, ?hq43⟩) (S0) ?_
          case hq43 => (intro w hSw; (try dsimp only at hSw); go_simp) <;> with_reducible rfl
          simp only [Act.put, List.getElem_toArray, List.getElem_cons_zero, List.getElem_cons_succ, List.setIfInBounds_toArray, List.set_cons_zero, List.set_cons_succ]
          refine anyL_take (i := 14) (v := ?vq44) rfl (by kernel_rfl) (by kernel_rfl) (by kernel_rfl) (by kernel_rfl) (fun _ _ _ h => h) (Or.inl ⟨by rfl, ?hq44⟩) (S0) ?_
          case hq44 => (intro w hSw; (try dsimp only at hSw); go_simp) <;> with_reducible rfl
          simp only [Act.put, List.getElem_toArray, List.getElem_cons_zero, List.getElem_cons_succ, List.setIfInBounds_toArray, List.set_cons_zero, List.set_cons_succ]
          refine anyL_done (by kernel_rfl) ?_ _
          go_wp2_with fail
          refine (unhide HE _ (unhide HBY)).mono ?_
          rintro y v1 ⟨rfl, rfl⟩
          dsimp only
          clear HE
          go_wp2_with fail
          refine bodyPost_ret (results_tmp rfl _ _ _) rfl ⟨by rw [unhide HRF]; rfl, unhide HBY⟩
        | false =>
          rw [hin] at HE HXR
          clear hin
          have HRF : Hid (R = clnB m T (d.drop (k + 1))) := hide (by rw [unhide HXR]; rfl)
          clear HXR
          have S0 : wr.drew.cell? ⟨g, off + k * 3 + 1, none⟩ = some (.int .i64 0) ∧ wr.drew.cell? ⟨g, off + k * 3 + 2, none⟩ = some (.string (strOfNums xt)) := ⟨e1, e2⟩
          have HBY := hide (below_dN (unhide HBX) 1)
          go_wp2_with fail
          refine regionL (S := fun w' => w'.cell? ⟨g, off + k * 3 + 1, none⟩ = some (.int .i64 0) ∧ w'.cell? ⟨g, off + k * 3 + 2, none⟩ = some (.string (strOfNums xt))) (fun _ => false) (by kernel_rfl) ?_
          refine anyL_take (i := 0) (v := ?vq45) rfl (by kernel_rfl) (by kernel_rfl) (by kernel_rfl) (by kernel_rfl) (fun _ _ _ h => h) (Or.inl ⟨by rfl, ?hq45⟩) (S0) ?_
          case hq45 => (intro w hSw; (try dsimp only at hSw); go_simp) <;> with_reducible rfl
          simp only [Act.put, List.getElem_toArray, List.getElem_cons_zero, List.setIfInBounds_toArray, List.set_cons_zero, List.set_cons_succ]
          refine anyL_take (i := 1) (v := ?vq46) rfl (by kernel_rfl) (by kernel_rfl) (by kernel_rfl) (by kernel_rfl) (fun _ _ _ h => h) (Or.inl ⟨by rfl, ?hq46⟩) (S0) ?_
          case hq46 => (intro w hSw; (try dsimp only at hSw); go_simp) <;> with_reducible rfl
          simp only [Act.put, List.getElem_toArray, List.getElem_cons_zero, List.getElem_cons_succ, List.setIfInBounds_toArray, List.set_cons_zero, List.set_cons_succ]
          refine anyL_take (i := 2) (v := ?vq47) rfl (by kernel_rfl) (by kernel_rfl) (by kernel_rfl) (by kernel_rfl) (fun _ _ _ h => h) (Or.inl ⟨by rfl, ?hq47⟩) (S0) ?_
          case hq47 => (intro w hSw; (try dsimp only at hSw); go_simp) <;> with_reducible rfl
          simp only [Act.put, List.getElem_toArray, List.getElem_cons_zero, List.getElem_cons_succ, List.setIfInBounds_toArray, List.set_cons_zero, List.set_cons_succ]
          refine anyL_take (i := 3) (v := ?vq48) rfl (by kernel_rfl) (by kernel_rfl) (by kernel_rfl) (by kernel_rfl) (fun _ _ _ h => h) (Or.inl ⟨by rfl, ?hq48⟩) (S0) ?_
          case hq48 => (intro w hSw; (try dsimp only at hSw); go_simp) <;> with_reducible rfl
          simp only [Act.put, List.getElem_toArray, List.getElem_cons_zero, List.getElem_cons_succ, List.setIfInBounds_toArray, List.set_cons_zero, List.set_cons_succ]
          refine anyL_take (i := 4) (v := ?vq49) rfl (by kernel_rfl) (by kernel_rfl) (by kernel_rfl) (by kernel_rfl) (fun _ _ _ h => h) (Or.inl ⟨by rfl, ?hq49⟩) (S0) ?_
          case hq49 => (intro w hSw; (try dsimp only at hSw); go_simp) <;> with_reducible rfl
          simp only [Act.put, List.getElem_toArray, List.getElem_cons_zero, List.getElem_cons_succ, List.setIfInBounds_toArray, List.set_cons_zero, List.set_cons_succ]
          refine anyL_take (i := 5) (v := ?vq50) rfl (by kernel_rfl) (by kernel_rfl) (by kernel_rfl) (by kernel_rfl) (fun _ _ _ h => h) (Or.inl ⟨by rfl, ?hq50⟩) (S0) ?_
          case hq50 => (intro w hSw; (try dsimp only at hSw); go_simp) <;> with_reducible rfl
          simp only [Act.put, List.getElem_toArray, List.getElem_cons_zero, List.getElem_cons_succ, List.setIfInBounds_toArray, List.set_cons_zero, List.set_cons_succ]
          refine anyL_take (i := 6) (v := ?vq51) rfl (by kernel_rfl) (by kernel_rfl) (by kernel_rfl) (by kernel_rfl) (fun _ _ _ h => h) (Or.inl ⟨by rfl, ?hq51⟩) (S0) ?_
          case hq51 => (intro w hSw; (try dsimp only at hSw); go_simp) <;> with_reducible rfl
          simp only [Act.put, List.getElem_toArray, List.getElem_cons_zero, List.getElem_cons_succ, List.setIfInBounds_toArray, List.set_cons_zero, List.set_cons_succ]
          refine anyL_take (i := 7) (v := ?vq52) rfl (by kernel_rfl) (by kernel_rfl) (by kernel_rfl) (by kernel_rfl) (fun _ _ _ h => h) (Or.inl ⟨by rfl, ?hq52⟩) (S0) ?_
          case hq52 => (intro w hSw; (try dsimp only at hSw); go_simp) <;> with_reducible rfl
          simp only [Act.put, List.getElem_toArray, List.getElem_cons_zero, List.getElem_cons_succ, List.setIfInBounds_toArray, List.set_cons_zero, List.set_cons_succ]
          refine anyL_take (i := 8) (v := ?vq53) rfl (by kernel_rfl) (by kernel_rfl) (by kernel_rfl) (by kernel_rfl) (fun _ _ _ h => h) (Or.inl ⟨by rfl, ?hq53⟩) (S0) ?_
          case hq53 => (intro w hSw; (try dsimp only at hSw); go_simp) <;> with_reducible rfl
          simp only [Act.put, List.getElem_toArray, List.getElem_cons_zero, List.getElem_cons_succ, List.setIfInBounds_toArray, List.set_cons_zero, List.set_cons_succ]
          refine anyL_take (i := 9) (v := ?vq54) rfl (by kernel_rfl) (by kernel_rfl) (by kernel_rfl) (by kernel_rfl) (fun _ _ _ h => h) (Or.inl ⟨by rfl, ?hq54⟩) (S0) ?_
          case hq54 => (intro w hSw; (try dsimp only at hSw); go_simp) <;> with_reducible rfl
          simp only [Act.put, List.getElem_toArray, List.getElem_cons_zero, List.getElem_cons_succ, List.setIfInBounds_toArray, List.set_cons_zero, List.set_cons_succ]
          refine anyL_take (i := 10) (v := ?vq55) rfl (by kernel_rfl) (by kernel_rfl) (by kernel_rfl) (by kernel_rfl) (fun _ _ _ h => h) (Or.inl ⟨by rfl, ?hq55⟩) (S0) ?_
          case hq55 => (intro w hSw; (try dsimp only at hSw); go_simp) <;> with_reducible rfl
          simp only [Act.put, List.getElem_toArray, List.getElem_cons_zero, List.getElem_cons_succ, List.setIfInBounds_toArray, List.set_cons_zero, List.set_cons_succ]
          refine anyL_take (i := 11) (v := ?vq56) rfl (by kernel_rfl) (by kernel_rfl) (by kernel_rfl) (by kernel_rfl) (fun _ _ _ h => h) (Or.inl ⟨by rfl, ?hq56⟩) (S0) ?_
          case hq56 => (intro w hSw; (try dsimp only at hSw); go_simp) <;> with_reducible rfl
          simp only [Act.put, List.getElem_toArray, List.getElem_cons_zero, List.getElem_cons_succ, List.setIfInBounds_toArray, List.set_cons_zero, List.set_cons_succ]
          refine anyL_take (i := 12) (v := ?vq57) rfl (by kernel_rfl) (by kernel_rfl) (by kernel_rfl) (by kernel_rfl) (fun _ _ _ h => h) (Or.inl ⟨by rfl, ?hq57⟩) (S0) ?_
          case hq57 => (intro w hSw; (try dsimp only at hSw); go_simp) <;> with_reducible rfl
          simp only [Act.put, List.getElem_toArray, List.getElem_cons_zero, List.getElem_cons_succ, List.setIfInBounds_toArray, List.set_cons_zero, List.set_cons_succ]
          refine anyL_take (i := 13) (v := ?vq58) rfl (by kernel_rfl) (by kernel_rfl) (by kernel_rfl) (by kernel_rfl) (fun _ _ _ h => h) (Or.inl ⟨by rfl, ?hq58⟩) (S0) ?_
          case hq58 => (intro w hSw; (try dsimp only at hSw); go_simp) <;> with_reducible rfl
          simp only [Act.put, List.getElem_toArray, List.getElem_cons_zero, List.getElem_cons_succ, List.setIfInBounds_toArray, List.set_cons_zero, List.set_cons_succ]
          refine anyL_take (i := 14) (v := ?vq59) rfl (by kernel_rfl) (by kernel_rfl) (by kernel_rfl) (by kernel_rfl) (fun _ _ _ h => h) (Or.inl ⟨by rfl, ?hq59⟩) (S0) ?_
          case hq59 => (intro w hSw; (try dsimp only at hSw); go_simp) <;> with_reducible rfl
          simp only [Act.put, List.getElem_toArray, List.getElem_cons_zero, List.getElem_cons_succ, List.setIfInBounds_toArray, List.set_cons_zero, List.set_cons_succ]
          refine anyL_done (by kernel_rfl) ?_ _
          go_wp2_with fail
          refine (unhide HE _ (unhide HBY)).mono ?_
          rintro y v1 ⟨rfl, rfl⟩
          dsimp only
          clear HE
          go_wp2_with fail
          go_roundw
          case rel => exact ⟨⟨_, rfl⟩, k + 1, T, by go_num, h1, rfl, hide ⟨hT.symm, unhide HRF, unhide HBY⟩⟩
          case measure => simp [intOf]; omega
    · obtain rfl : k = d.length := by omega
      have t1 : decide ((d.length : Int) < (d.length : Int)) = false := decide_eq_false (by omega)
      obtain ⟨hz0, hr, hbx⟩ := unhide HX
      have hr2 : ((t : Int) == (m.length : Int)) = R := by
        rw [hr, List.drop_eq_nil_of_le (Nat.le_refl _)]; unfold clnB
        rw [Bool.eq_iff_iff]; simp; omega
      have HBX := hide hbx
      have HR2 := hide hr2
      clear HX hr hbx hr2 hz0
      go_wp2_with fail
      exact bodyPost_ret (results_tmp rfl _ _ _) rfl ⟨by rw [← unhide HR2]; rfl, unhide HBX⟩
end Go.Proofs.YtkdnanlgkedjgaaDoor
end

section
namespace Go.Proofs.YtkdnanlgkedjgaaDoor
open Go.ChangeShapes Go.WideShapes Go.ChangeAt Go.RowKit
attribute [local go_sem] Oper.semAt_some

theorem made_u8G (n : Nat) : (madeCells (Value.int .u8 0).cells (n * 1)).toList = (List.replicate n (0 : Int)).map (Value.int .u8) := by
  apply List.ext_getElem?
  intro i
  simp only [madeCells, Nat.mul_one, Array.toList_map, Array.toList_range, List.getElem?_map, List.map_replicate]
  rcases Nat.lt_or_ge i n with h | h
  · rw [List.getElem?_range h, List.getElem?_replicate, if_pos h]
    simp [Value.cells]
    simp [Nat.mod_one]
  · rw [List.getElem?_eq_none (by simpa using h), List.getElem?_replicate, if_neg (by omega)]
    rfl
theorem make_u8G (w : World) (n : Nat) (hn : n ≤ 5000) (h0 : 0 < n) : ∃ w', (Instr.makeSlice 22 (.int .i64 (n : Int)) (.int .i64 (n : Int))).run Tryd.prog w = .ok (.slice (some ⟨w.heap.size, 0, none⟩) n n) w' ∧
    Own w' w.heap.size (.slice (some ⟨w.heap.size, 0, none⟩) n n) (List.replicate n 0) ∧ Below w.heap.size w w' ∧ w.heap.size < w'.heap.size := by
  obtain ⟨i, hi, hz, hs, hby⟩ := info_u8
  obtain ⟨w', h1, h2, h3⟩ := run_make_full (P := Tryd.prog) w w.heap.size 22 5 i _ 1 Tryd.underlying22 hi hz hs .i64 .i64 n (by rw [hby]; omega) (by unfold maxLen; omega) (Nat.le_refl _)
  rw [made_u8G] at h2
  have ho : Own w' w.heap.size (.slice (some ⟨w.heap.size, 0, none⟩) n n) (List.replicate n 0) := by unfold Own; rw [List.length_replicate]; exact h2
  obtain ⟨g, cap, e, _, hlt, _⟩ := ho.form (by rw [List.length_replicate]; exact h0)
  have eg : g = w.heap.size := by simp at e; exact e.1.symm
  exact ⟨w', h1, ho, (Below.refl _ w).grown h3 (Nat.le_refl _) (fun k e => by cases e), eg ▸ hlt⟩
/-- two rows of the call's own -/
structure GrA (w X : World) (ga gb : Nat) (l m : List Int) (ca cb : Nat) : Prop where
  a : Own X w.heap.size (.slice (some ⟨ga, 0, none⟩) l.length ca) l
  b : Own X w.heap.size (.slice (some ⟨gb, 0, none⟩) m.length cb) m
  n : ga ≠ gb
  ha : w.heap.size ≤ ga
  hb : w.heap.size ≤ gb
  la : ga < X.heap.size
  lb : gb < X.heap.size
  d : Below w.heap.size w X
theorem Own.below {w w' : World} {B : Nat} {v : Value} {l : List Int} (h : Own w B v l) (hb : Below w.heap.size w w') : Own w' B v l := h.kept (row := none) ⟨hb.os, hb.tape, hb.output, hb.size, fun k hk _ => hb.block k hk⟩ (Classical.em _)
theorem Own.low {X : World} {B B' : Nat} {v : Value} {l : List Int} (h : Own X B v l) (hB : B' ≤ B) : Own X B' v l := by
  refine ⟨h.1, ?_⟩
  rcases h.2 with e | ⟨g, cap, cur, e, h1, h2⟩
  · exact .inl e
  · exact .inr ⟨g, cap, cur, e, Nat.le_trans hB h1, h2⟩
theorem GrA.set {w X : World} {ga gb : Nat} {l m : List Int} {ca cb : Nat} (h : GrA w X ga gb l m ca cb) (k : Nat) (f : Int) :
    GrA w ((X.setCell ⟨ga, k, none⟩ (.int .u8 f)).setCell ⟨gb, k, none⟩ (.int .u8 f)) ga gb (l.set k f) (m.set k f) ca cb := by
  have a1 := h.a.set k f
  have b1 : Own (X.setCell ⟨ga, k, none⟩ (.int .u8 f)) w.heap.size (.slice (some ⟨gb, 0, none⟩) m.length cb) m := h.b.kept (grown_set X ga k _) (.inr (by simp [Value.ownBlock]; exact fun e => h.n e.symm))
  have a2 := a1.kept (grown_set _ gb k (.int .u8 f)) (.inr (by simp [Value.ownBlock]; exact h.n))
  refine ⟨by rw [List.length_set]; exact a2, by rw [List.length_set]; exact b1.set k f, h.n, h.ha, h.hb, ?_, ?_, ?_⟩
  · simpa using h.la
  · simpa using h.lb
  · exact (h.d.setCell (p := ⟨ga, k, none⟩) h.ha _).setCell (p := ⟨gb, k, none⟩) h.hb _
theorem GrA.cells {w X : World} {ga gb : Nat} {l m : List Int} {ca cb : Nat} (h : GrA w X ga gb l m ca cb) (k : Nat) (hl : k < l.length) (hm : k < m.length) (f : Int) :
    ((X.cell? ⟨ga, k, none⟩).isSome = true ∧ X.frozen? ⟨ga, k, none⟩ = false) ∧ ((X.setCell ⟨ga, k, none⟩ (.int .u8 f)).cell? ⟨gb, k, none⟩).isSome = true ∧ (X.setCell ⟨ga, k, none⟩ (.int .u8 f)).frozen? ⟨gb, k, none⟩ = false := by
  have b1 : Own (X.setCell ⟨ga, k, none⟩ (.int .u8 f)) w.heap.size (.slice (some ⟨gb, 0, none⟩) m.length cb) m := h.b.kept (grown_set X ga k _) (.inr (by simp [Value.ownBlock]; exact fun e => h.n e.symm))
  exact ⟨h.a.cell k hl, b1.cell k hm⟩
theorem GrA.swap {w X : World} {ga gb : Nat} {l m : List Int} {ca cb : Nat} (h : GrA w X ga gb l m ca cb) : GrA w X gb ga m l cb ca := ⟨h.b, h.a, fun e => h.n e.symm, h.hb, h.ha, h.lb, h.la, h.d⟩
theorem GrA.push {w X : World} {ga gb : Nat} {l m : List Int} {ca cb : Nat} (h : GrA w X ga gb l m ca cb) (f : Int) (ty : TypeId) (hn : l.length ≤ 1000000) :
    ∃ g c X', (Builtin.append_ #[22, 22] ty #[.slice (some ⟨ga, 0, none⟩) l.length ca, .slice (some ⟨X.heap.size, 0, none⟩) 1 1]).run Tryd.prog (X.alloc (.cells #[.int .u8 f] 5)) = .ok (.slice (some ⟨g, 0, none⟩) (l ++ [f]).length c) X' ∧ GrA w X' g gb (l ++ [f]) m c cb := by
  obtain ⟨g, c, X', r, o, hg, hat, hlt, _⟩ := run_push X w.heap.size (.slice (some ⟨ga, 0, none⟩) l.length ca) l f ty h.a (by omega) h.d.size
  have hz : (X.alloc (.cells #[.int .u8 f] 5)).heap.size = X.heap.size + 1 := by simp
  have hb1 : Own (X.alloc (.cells #[.int .u8 f] 5)) w.heap.size (.slice (some ⟨gb, 0, none⟩) m.length cb) m := World.ownsRow.alloc h.b _
  have hgg : (g = ga ∨ g = X.heap.size + 1) := by
    rcases hat with e | e
    · simp [Value.ownBlock] at e; exact .inl e.symm
    · exact .inr e
  have hla := h.la
  have hlb := h.lb
  have hha := h.ha
  have hnn := h.n
  have hsz := h.d.size
  have hgs := hg.size
  rw [hz] at hgs
  refine ⟨g, c, X', by rw [List.length_append, List.length_singleton]; exact r, by rw [List.length_append, List.length_singleton]; exact o, hb1.kept hg (.inr (by simp [Value.ownBlock]; exact fun e => h.n e.symm)), ?_, ?_, h.hb, hlt, by omega, ?_⟩
  · rcases hgg with rfl | rfl
    · exact h.n
    · omega
  · rcases hgg with rfl | rfl <;> omega
  · refine (h.d.alloc h.d.size _).grown hg (by rw [hz]; omega) (fun k e => ?_)
    simp [Value.ownBlock] at e; omega
/-- a row that is filled byte by byte -/
def fil (N : Nat) (f : Int) (k : Nat) : List Int := List.replicate k f ++ List.replicate (N - k) 0
theorem fil_len {N : Nat} (f : Int) {k : Nat} (h : k ≤ N) : (fil N f k).length = N := by unfold fil; simp; omega
theorem fil_set {N : Nat} (f : Int) {k : Nat} (h : k < N) : (fil N f k).set k f = fil N f (k + 1) := by
  unfold fil
  rw [List.set_append, if_neg (by simp), List.length_replicate, Nat.sub_self, show N - k = (N - (k + 1)) + 1 by omega, List.replicate_succ, List.set_cons_zero, List.replicate_succ']
  simp
theorem fil_all (N : Nat) (f : Int) : fil N f N = List.replicate N f := by unfold fil; simp
/-- two makes, one behind the other -/
theorem GrA.two (w X : World) (hb : Below w.heap.size w X) (n : Nat) (hn : n ≤ 5000) (h0 : 0 < n) : ∃ X1 X2,
    (Instr.makeSlice 22 (.int .i64 (n : Int)) (.int .i64 (n : Int))).run Tryd.prog X = .ok (.slice (some ⟨X.heap.size, 0, none⟩) n n) X1 ∧
    (Instr.makeSlice 22 (.int .i64 (n : Int)) (.int .i64 (n : Int))).run Tryd.prog X1 = .ok (.slice (some ⟨X1.heap.size, 0, none⟩) n n) X2 ∧
    GrA w X2 X.heap.size X1.heap.size (List.replicate n 0) (List.replicate n 0) n n := by
  obtain ⟨X1, r1, o1, b1, z1⟩ := make_u8G X n hn h0
  obtain ⟨X2, r2, o2, b2, z2⟩ := make_u8G X1 n hn h0
  have hz := hb.size
  refine ⟨X1, X2, r1, r2, ?_, ?_, by omega, hz, by omega, by omega, z2, (hb.trans (b1.mono hz)).trans (b2.mono (by omega))⟩
  · rw [List.length_replicate]
    exact (Own.below o1 b2).low hz
  · rw [List.length_replicate]; exact o2.low (by omega)
end Go.Proofs.YtkdnanlgkedjgaaDoor
end
