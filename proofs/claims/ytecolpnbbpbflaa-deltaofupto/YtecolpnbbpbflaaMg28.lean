/- Layer 13: the document's Of (written by wip/tools/drt.py). -/
import Derived.Test.YtecolpnbbpbflaaMg25
import Derived.Test.YtecolpnbbpbflaaMg27
import Derived.Test.YtecolpnbbpbflaaMg22

namespace Go.Proofs.Ytecolpnbbpbflaa
open Go.ChangeShapes Go.WideShapes Go.ChangeAt Go.RowKit
attribute [local go_sem] Oper.semAt_some

theorem opC_app : ∀ (x y : List Dop) (p : Int), opC p (x ++ y) = opC p x ++ opC (lstC p x) y
  | [], _, _ => rfl
  | c :: r, y, p => by simp only [List.cons_append, opC, lstC, opC_app r y c.n]
theorem take_one {cs : List Dop} {k : Nat} (hk : k < cs.length) : cs.take (k + 1) = cs.take k ++ [cs.getD k opZ] := by
  rw [List.take_add_one]; simp [List.getElem?_eq_getElem hk, List.getD]
theorem opC_takeS {cs : List Dop} {k : Nat} (hk : k < cs.length) : opC 0 (cs.take (k + 1)) = opC 0 (cs.take k) ++ [⟨1, (cs.getD k opZ).k - lstC 0 (cs.take k), []⟩] ++ [⟨2, 0, (cs.getD k opZ).t⟩] ++ [⟨3, (cs.getD k opZ).n - (cs.getD k opZ).k, []⟩] := by
  rw [take_one hk, opC_app]; simp [opC]
theorem feed_swapC (e : List Dop) (x y : Dop) (hx : x.k = 2) (hy : y.k = 3) : feedA b0 (dA (e ++ [y] ++ [x])) = feedA b0 (dA (e ++ [x] ++ [y])) := by
  rw [feed_snoc, feed_snoc, feed_snoc, feed_snoc, op_put hx, op_drop hy, op_drop hy, op_put hx]; rfl
theorem opC_small {cs : List Dop} {n : Int} (h : okL 0 cs n) (hn : n ≤ 268435456) (ht : ¬ 268435456 < toD (opsC n cs)) (k : Nat) : (dA (opC 0 (cs.take k))).length ≤ 536870912 := by
  obtain ⟨s1, s2⟩ := opsC_sizes h
  have e : opsC n cs = opC 0 (cs.take k) ++ (opC (lstC 0 (cs.take k)) (cs.drop k) ++ [⟨1, n - lstC 0 cs, []⟩]) := by
    unfold opsC
    rw [← List.append_assoc, ← opC_app, List.take_append_drop]
  have h1 : ∀ o ∈ opC 0 (cs.take k), o.k = 1 ∨ o.k = 2 ∨ o.k = 3 := fun o ho => (opsC_ok h o (by rw [e]; exact List.mem_append_left _ ho)).1
  have h2 := dA_len h1
  have e1 : frD (opsC n cs) = frD (opC 0 (cs.take k)) + frD (opC (lstC 0 (cs.take k)) (cs.drop k) ++ [⟨1, n - lstC 0 cs, []⟩]) := by rw [e, frD_app]
  have e2 : toD (opsC n cs) = toD (opC 0 (cs.take k)) + toD (opC (lstC 0 (cs.take k)) (cs.drop k) ++ [⟨1, n - lstC 0 cs, []⟩]) := by rw [e, toD_app]
  omega
theorem dlC_bound {cs : List Dop} {n : Int} (hn : n ≤ 268435456) (hb : ∀ k, k < cs.length → ¬ badC n (cs.getD k opZ)) (ht : ∀ o ∈ cs, o.t.length ≤ 1048576) : ∀ k, k ≤ cs.length → -((k : Int) * 268435456) ≤ dlC (cs.take k) ∧ dlC (cs.take k) ≤ (k : Int) * 1048576
  | 0, _ => by simp [dlC]
  | k + 1, hk => by
    have ih := dlC_bound hn hb ht k (by omega)
    have h1 := hb k (by omega)
    have h2 := ht _ (getD_memD (d := cs) (k := k) (by omega))
    rw [dlC_take cs k (by omega)]
    unfold badC at h1
    generalize dlC (cs.take k) = D at *
    generalize cs.getD k opZ = x at *
    omega
structure RoI (cs : List Dop) (k : Nat) (M : List Dop) (a8 : Option Addr) (w X : World) : Prop where
  l : M = (feedA b0 (dA (opC 0 (cs.take k)))).fin
  o : IsO X a8 M
  d : Below w.heap.size w X
theorem of_t2 {D : Int} {j l : Nat} {hi lo : Int} (h1 : -281474976710656 ≤ D ∧ D ≤ 281474976710656) (h2 : l ≤ 1048576) (h3 : 0 ≤ lo ∧ lo ≤ hi ∧ hi ≤ 268435456) (_ : j = j) : wrap64 (D + (l : Int)) = D + (l : Int) ∧ wrap64 (hi - lo) = hi - lo ∧ wrap64 (D + (l : Int) - (hi - lo)) = D + (l : Int) - (hi - lo) :=
  ⟨wrapD _ (by omega) (by omega), wrapD _ (by omega) (by omega), wrapD _ (by omega) (by omega)⟩
set_option maxRecDepth 100000 in
set_option maxHeartbeats 8000000 in
theorem ROf_atD (a : Option Addr) (c : Nat) (n : Int) (cs : List Dop) (E : Int) (w : World) (h : IsO w a cs) (hl : cs.length ≤ 1048576) (ht : ∀ o ∈ cs, o.t.length ≤ 1048576) (hE : ErrC n cs E) :
    Calls Try.prog 22 #[.int .i64 n, .slice a cs.length c] w fun y w' => ∃ a' c', y = .returned (.tuple #[.slice a' (ofD n cs E).1.length c', .int .i64 (ofD n cs E).2]) ∧ IsO w' a' (ofD n cs E).1 ∧ Below w.heap.size w w' := by
  have HO := hide fun (X : World) (hx : Below w.heap.size w X) => h.below hx (Nat.le_refl _)
  have HTX := hide ht
  have HE := hide hE
  have HOK := hide (errC_ok hE)
  obtain ⟨L, R, hLR⟩ : ∃ L R, ofD n cs E = (L, R) := ⟨_, _, rfl⟩
  rw [hLR]
  dsimp only
  have HR : Hid (∀ e : Int, e ≠ 0 → E = e → L = [] ∧ R = e) := hide fun e he hEe => by
    unfold ofD at hLR
    rw [if_neg (by rw [hEe]; exact he), Prod.mk.injEq] at hLR
    exact ⟨hLR.1.symm, hLR.2.symm.trans hEe⟩
  have HR0 : Hid (E = 0 → (268435456 < toD (opsC n cs) → L = [] ∧ R = 5) ∧ (¬ 268435456 < toD (opsC n cs) → L = canA (dA (opsC n cs)) ∧ R = 0)) := hide fun h0 => by
    unfold ofD at hLR
    rw [if_pos h0] at hLR
    constructor
    · intro h1; rw [if_pos h1, Prod.mk.injEq] at hLR; exact ⟨hLR.1.symm, hLR.2.symm⟩
    · intro h1; rw [if_neg h1, Prod.mk.injEq] at hLR; exact ⟨hLR.1.symm, hLR.2.symm⟩
  clear hE h ht hLR
  by_cases hn1 : n < 0
  · have HV := hide (unhide HR 2 (by decide) ((unhide HE).a (.inl hn1)))
    have t1 : decide (n < 0) = true := decide_eq_true hn1
    clear HE HO HTX HOK HR HR0 hn1
    go_enter Try.func22, Try.ntmps22
    go_wp2_with fail
    obtain ⟨hL, hR⟩ := unhide HV
    rw [hL, hR]
    refine bodyPost_ret (results_tmp2 rfl _ _ _) rfl ⟨none, 0, rfl, Or.inl rfl, Below.refl _ _⟩
  by_cases hn2 : n > 268435456
  · have HV := hide (unhide HR 2 (by decide) ((unhide HE).a (.inr hn2)))
    have t1 : decide (n < 0) = false := decide_eq_false hn1
    have t2 : decide (n > 268435456) = true := decide_eq_true hn2
    have t3 : decide (268435456 < n) = true := decide_eq_true hn2
    clear HE HO HTX HOK HR HR0 hn1 hn2
    go_enter Try.func22, Try.ntmps22
    go_wp2_with fail
    obtain ⟨hL, hR⟩ := unhide HV
    rw [hL, hR]
    refine bodyPost_ret (results_tmp2 rfl _ _ _) rfl ⟨none, 0, rfl, Or.inl rfl, Below.refl _ _⟩
  have HEb := hide fun hb => unhide HR 2 (by decide) ((unhide HE).b (by omega) hb)
  have HEc := hide fun hb hc => unhide HR 120 (by decide) ((unhide HE).c (by omega) hb hc)
  have HEd := hide ((unhide HE).d (by omega))
  have HNN : Hid (0 ≤ n ∧ n ≤ 268435456) := hide (by omega)
  have t1 : decide (n < 0) = false := decide_eq_false hn1
  have t2 : decide (n > 268435456) = false := decide_eq_false hn2
  have t3 : decide (268435456 < n) = false := decide_eq_false hn2
  clear HE hn1 hn2 HR
  go_enter Try.func22, Try.ntmps22
  go_wp2_with fail
  clear t1 t2 t3
  go_loopw [6] (fun v6 wx => (∃ k : Nat, v6 = .int .i64 (k : Int) ∧ k ≤ cs.length ∧ Hid ((∀ i, i < k → ¬ badC n (cs.getD i opZ)) ∧ Below w.heap.size w wx))) (fun v6 _ => cs.length - (intOf v6).toNat)
  case atStart => exact ⟨0, rfl, Nat.zero_le _, hide ⟨fun i hi => absurd hi (Nat.not_lt_zero i), Below.refl _ _⟩⟩
  case round =>
    obtain ⟨k, rfl, hk, HI⟩ := hrel
    by_cases hlt : k < cs.length
    · have s1 : decide ((k : Int) < (cs.length : Int)) = true := decide_eq_true (by omega)
      have s1' : (k : Int) < (cs.length : Int) := by omega
      obtain ⟨g, off, rfl, hg, c0, c1, c2⟩ := (unhide HO wr (unhide HI).2).three hlt
      have HT := hide (bad_tests n (cs.getD k opZ))
      have HN : Hid (¬ badC n (cs.getD k opZ) → ∀ i, i < k + 1 → ¬ badC n (cs.getD i opZ)) := hide fun h0 i hi => by
        rcases Nat.lt_or_ge i k with h | h
        · exact (unhide HI).1 i h
        · obtain rfl : i = k := by omega
          exact h0
      have HV : Hid (badC n (cs.getD k opZ) → L = [] ∧ R = 2) := hide fun h0 => unhide HEb ⟨k, hlt, h0⟩
      generalize cs.getD k opZ = x at *
      obtain ⟨xk, xn, xt⟩ := x
      dsimp only at c0 c1 c2 HT
      have HB := hide (unhide HI).2
      clear HI HEb HEc HEd HO hk c2 HTX HOK HR0 HNN hg
      go_upto_region 6 with fail
      rcases unhide HT with ⟨hb, s2 | ⟨s2, s3, s4⟩ | ⟨s2, s3, s4, s5, s6⟩⟩ | ⟨hb, s2, s3, s4, s5, s6⟩
      · have HV2 := hide (unhide HV hb)
        clear HT HV HN hb
        go_quiet (fail)
        go_wp2_with fail
        obtain ⟨hL, hR⟩ := unhide HV2
        rw [hL, hR]
        refine bodyPost_ret (results_tmp2 rfl _ _ _) rfl ⟨none, 0, rfl, Or.inl rfl, below_drewN (unhide HB) _⟩
      · have HV2 := hide (unhide HV hb)
        clear HT HV HN hb
        go_quiet (fail)
        go_wp2_with fail
        obtain ⟨hL, hR⟩ := unhide HV2
        rw [hL, hR]
        refine bodyPost_ret (results_tmp2 rfl _ _ _) rfl ⟨none, 0, rfl, Or.inl rfl, below_drewN (unhide HB) _⟩
      · have HV2 := hide (unhide HV hb)
        clear HT HV HN hb
        go_quiet (fail)
        go_wp2_with fail
        obtain ⟨hL, hR⟩ := unhide HV2
        rw [hL, hR]
        refine bodyPost_ret (results_tmp2 rfl _ _ _) rfl ⟨none, 0, rfl, Or.inl rfl, below_drewN (unhide HB) _⟩
      · have HN2 := hide (unhide HN hb)
        clear HT HV HN hb
        go_quiet (fail)
        go_wp2_with fail
        go_roundw
        case rel => exact ⟨k + 1, by go_num, hlt, hide ⟨unhide HN2, below_drewN (unhide HB) _⟩⟩
        case measure => simp [intOf]; omega
    · obtain rfl : k = cs.length := by omega
      have s1 : decide ((cs.length : Int) < (cs.length : Int)) = false := decide_eq_false (by omega)
      have HNB := hide (unhide HI).1
      have HEc := hide (unhide HEc (unhide HI).1)
      have HEd := hide (unhide HEd (unhide HI).1)
      have HB := hide (unhide HI).2
      have HDB := hide (dlC_bound (unhide HNN).2 (unhide HI).1 (unhide HTX))
      clear HI HEb hk hlt
      go_wp2_with fail
      clear s1
      go_loopw [7, 8] (fun v7 v8 wx => (∃ k : Nat, v8 = .int .i64 (k : Int) ∧ v7 = .int .i64 (n + dlC (cs.take k)) ∧ k ≤ cs.length ∧ Hid ((∀ i, i + 1 < k → ¬ crsC cs i) ∧ Below w.heap.size w wx))) (fun _ v8 _ => cs.length - (intOf v8).toNat)
      case atStart => exact ⟨0, rfl, by simp [dlC], Nat.zero_le _, hide ⟨fun i hi => absurd hi (by omega), unhide HB⟩⟩
      case round =>
        clear HB
        obtain ⟨k, rfl, rfl, hk, HI⟩ := hrel
        by_cases hlt : k < cs.length
        · have s1 : decide ((k : Int) < (cs.length : Int)) = true := decide_eq_true (by omega)
          have s1' : (k : Int) < (cs.length : Int) := by omega
          have hw := of_t2 (D := n + dlC (cs.take k)) (j := 0) (l := (cs.getD k opZ).t.length) (hi := (cs.getD k opZ).n) (lo := (cs.getD k opZ).k) (by have := unhide HDB k hk; have := (unhide HNN); omega) (unhide HTX _ (getD_memD hlt)) (by have h1 := unhide HNB k hlt; have h2 := unhide HNN; unfold badC at h1; omega) rfl
          have HTO : Hid (n + dlC (cs.take k) + ((cs.getD k opZ).t.length : Int) - ((cs.getD k opZ).n - (cs.getD k opZ).k) = n + dlC (cs.take (k + 1))) := hide (by rw [dlC_take cs k hlt]; omega)
          have HW := hide hw
          clear hw
          rcases Nat.eq_zero_or_pos k with hk0 | hkp
          · subst hk0
            have HB := hide (unhide HI).2
            have HN2 : Hid (∀ i, i + 1 < 0 + 1 → ¬ crsC cs i) := hide fun i hi => absurd hi (by omega)
            have s2 : decide ((0 : Int) > 0) = false := rfl
            clear HI HEc HEd HOK HR0 HNB HDB HNN HTX
            go_upto_region 12 with fail
            go_quiet (fail)
            have HB2 := hide (below_drewN (unhide HB) nq)
            generalize wr.drewN nq = v0 at *
            obtain ⟨g, off, rfl, hg, c0, c1, c2⟩ := (unhide HO v0 (unhide HB2)).three hlt
            obtain ⟨w1, w2, w3⟩ := unhide HW
            clear HB HW hg s2
            have hsz := strOfNums_size (cs.getD 0 opZ).t
            generalize cs.getD 0 opZ = x at *
            obtain ⟨xk, xn, xt⟩ := x
            dsimp only at c0 c1 c2 w1 w2 w3 HTO hsz
            simp only [Nat.zero_mul, Nat.add_zero] at c0 c1 c2
            generalize xt.length = lt at *
            generalize strOfNums xt = st at *
            generalize n + dlC (cs.take 0) = D at *
            go_upto_region 14 with fail
            go_quiet (fail)
            go_wp2_with fail
            go_roundw
            case rel => exact ⟨0 + 1, by go_num, by rw [← unhide HTO, w3], hlt, hide ⟨unhide HN2, below_drewN (unhide HB2) _⟩⟩
            case measure => simp [intOf]; omega
          · obtain ⟨j, hj⟩ : ∃ j, k = j + 1 := ⟨k - 1, by omega⟩
            obtain ⟨g, off, ha0, hg, c0, c1, c2⟩ := (unhide HO wr (unhide HI).2).three hlt
            obtain ⟨g', off', he, hg', b0', b1, b2⟩ := (unhide HO wr (unhide HI).2).three (k := j) (by omega)
            obtain ⟨rfl, rfl⟩ : g = g' ∧ off = off' := by rw [ha0] at he; cases he; exact ⟨rfl, rfl⟩
            subst ha0
            have HV : Hid (crsC cs j → L = [] ∧ R = 120) := hide fun h0 => unhide HEc ⟨j, by omega, h0⟩
            have HN : Hid (¬ crsC cs j → ∀ i, i + 1 < k + 1 → ¬ crsC cs i) := hide fun h0 i hi => by
              rcases Nat.lt_or_ge i j with h | h
              · exact (unhide HI).1 i (by omega)
              · obtain rfl : i = j := by omega
                exact h0
            have HCR : Hid (crsC cs j ↔ (cs.getD k opZ).k < (cs.getD j opZ).n) := hide (by unfold crsC; rw [hj])
            have HB := hide (unhide HI).2
            have HKP := hide (k_pos hj (by omega) hlt)
            clear HI HEc HEd HOK HR0 HNB HDB HNN HTX he b0' b2 c1 c2 hg hg' hk hkp hj
            generalize (cs.getD j opZ).n = yn at *
            by_cases hx : (cs.getD k opZ).k < yn
            · have HV2 := hide (unhide HV ((unhide HCR).2 hx))
              have s2 : decide ((cs.getD k opZ).k < yn) = true := decide_eq_true hx
              clear HV HN HCR hx HW HTO
              generalize (cs.getD k opZ).k = xk at *
              generalize n + dlC (cs.take k) = D at *
              obtain ⟨⟨k1, k6, k7, k8, k9⟩, k2, k3, k4, k5, k10, k11⟩ := unhide HKP
              go_upto_region 12 with fail
              go_quiet (fail)
              go_wp2_with fail
              obtain ⟨hL, hR⟩ := unhide HV2
              rw [hL, hR]
              refine bodyPost_ret (results_tmp2 rfl _ _ _) rfl ⟨none, 0, rfl, Or.inl rfl, below_drewN (unhide HB) _⟩
            · have HN2 := hide (unhide HN (fun h0 => hx ((unhide HCR).1 h0)))
              have s2 : decide ((cs.getD k opZ).k < yn) = false := decide_eq_false hx
              clear HV HN HCR hx
              have hsz := strOfNums_size (cs.getD k opZ).t
              have HXX : Hid (∀ X, Below w.heap.size w X → X.cell? ⟨g, off + k * 3, none⟩ = some (.int .i64 (cs.getD k opZ).k) ∧ X.cell? ⟨g, off + k * 3 + 1, none⟩ = some (.int .i64 (cs.getD k opZ).n) ∧ X.cell? ⟨g, off + k * 3 + 2, none⟩ = some (.string (strOfNums (cs.getD k opZ).t))) := hide fun X hX => by
                obtain ⟨g2, o2, he, _, q0, q1, q2⟩ := (unhide HO X hX).three hlt
                cases he
                exact ⟨q0, q1, q2⟩
              generalize cs.getD k opZ = x at *
              obtain ⟨xk, xn, xt⟩ := x
              dsimp only at c0 HTO hsz s2 HW HXX
              generalize xt.length = lt at *
              generalize strOfNums xt = st at *
              generalize n + dlC (cs.take k) = D at *
              obtain ⟨⟨k1, k6, k7, k8, k9⟩, k2, k3, k4, k5, k10, k11⟩ := unhide HKP
              go_upto_region 12 with fail
              go_quiet (fail)
              have HB2 := hide (below_drewN (unhide HB) nq)
              generalize wr.drewN nq = v0 at *
              clear c0 b1 s2 k1 k6 k7 k8 k9 k2 k4 k5 k10 k11 HKP
              obtain ⟨c0, c1, c2⟩ := unhide HXX v0 (unhide HB2)
              obtain ⟨w1, w2, w3⟩ := unhide HW
              clear HB HW HXX
              go_upto_region 14 with fail
              go_quiet (fail)
              go_wp2_with fail
              go_roundw
              case rel => exact ⟨k + 1, by go_num, by rw [← unhide HTO, w3], hlt, hide ⟨unhide HN2, below_drewN (unhide HB2) _⟩⟩
              case measure => simp [intOf]; omega
        · obtain rfl : k = cs.length := by omega
          have s1 : decide ((cs.length : Int) < (cs.length : Int)) = false := decide_eq_false (by omega)
          have hE0 := unhide HEd (fun i hi => (unhide HI).1 i (by omega))
          have hok : okL 0 cs n := by
            rcases unhide HOK with ⟨_, _, h⟩ | h
            · exact h
            · exact absurd hE0 h
          obtain ⟨hz1, hz2⟩ := opsC_sizes hok
          obtain ⟨HRa, HRb⟩ := unhide HR0 hE0
          have HB := hide (unhide HI).2
          have HOKL := hide hok
          rw [List.take_length, ← hz2]
          by_cases hto : 268435456 < toD (opsC n cs)
          · have HV2 := hide (HRa hto)
            obtain ⟨t1, t2, t3⟩ := big_t hto
            clear HI HEc HEd HOK HR0 HNB HDB HNN HTX hk hlt hE0 hok hz1 hz2 HRa HRb HOKL hto
            generalize toD (opsC n cs) = T at *
            go_wp2_with fail
            obtain ⟨hL, hR⟩ := unhide HV2
            rw [hL, hR]
            refine bodyPost_ret (results_tmp2 rfl _ _ _) rfl ⟨none, 0, rfl, Or.inl rfl, unhide HB⟩
          · have HV2 := hide (HRb hto)
            obtain ⟨t1, t2, t3⟩ := big_f hto
            have HSM := hide (opC_small hok (unhide HNN).2 hto)
            have HAT := hide (okL_at cs 0 n hok)
            have HEN := hide (okL_end cs 0 n hok)
            clear HI HEc HEd HOK HR0 HNB HDB HTX hk hlt hE0 hok hz1 hz2 HRa HRb HOKL hto
            generalize toD (opsC n cs) = T at *
            go_wp2_with fail
            clear s1 t1 t2 t3
            go_loopw [9, 10, 11] (fun v9 v10 v11 wx => (∃ (k q : Nat) (M : List Dop) (a8 : Option Addr), v11 = .int .i64 (k : Int) ∧ v10 = .int .i64 (lstC 0 (cs.take k)) ∧ v9 = .slice a8 M.length q ∧ k ≤ cs.length ∧ M.length ≤ q ∧ Hid (RoI cs k M a8 w wx))) (fun _ _ v11 _ => cs.length - (intOf v11).toNat)
            case atStart => exact ⟨0, 0, [], none, rfl, rfl, rfl, Nat.zero_le _, Nat.le_refl _, hide ⟨rfl, Or.inl rfl, unhide HB⟩⟩
            case round =>
              clear HB
              obtain ⟨k, q, M, a8, rfl, rfl, rfl, hk, hq, HI⟩ := hrel
              by_cases hlt : k < cs.length
              · have s1 : decide ((k : Int) < (cs.length : Int)) = true := decide_eq_true (by omega)
                have s1' : (k : Int) < (cs.length : Int) := by omega
                obtain ⟨g, off, rfl, hg, c0, c1, c2⟩ := (unhide HO wr (unhide HI).d).three hlt
                have HXX : Hid (∀ X, Below w.heap.size w X → X.cell? ⟨g, off + k * 3, none⟩ = some (.int .i64 (cs.getD k opZ).k) ∧ X.cell? ⟨g, off + k * 3 + 1, none⟩ = some (.int .i64 (cs.getD k opZ).n) ∧ X.cell? ⟨g, off + k * 3 + 2, none⟩ = some (.string (strOfNums (cs.getD k opZ).t))) := hide fun X hX => by
                  obtain ⟨g2, o2, he, _, q0, q1, q2⟩ := (unhide HO X hX).three hlt
                  cases he
                  exact ⟨q0, q1, q2⟩
                obtain ⟨h1, h2, h3, h4⟩ := unhide HAT k hlt
                have hnn := (unhide HNN).2
                have hS1 := unhide HSM (k + 1)
                have hT := lstC_take 0 cs k hlt
                have hM := (unhide HI).l
                have hti : (cs.getD k opZ).t.length ≤ 536870912 := by
                  have := hS1
                  rw [opC_takeS hlt, dA_app, dA_app, List.length_append, List.length_append] at this
                  have e2 : (dA [(⟨2, 0, (cs.getD k opZ).t⟩ : Dop)]).length = (cs.getD k opZ).t.length := by simp [dA, opA]
                  omega
                have HOP := hide (opC_takeS hlt)
                rw [opC_takeS hlt] at hS1
                have HNX : Hid (∀ (a9 : Option Addr) (M' : List Dop) (X : World), M' = (feedA b0 (dA (opC 0 (cs.take (k + 1))))).fin → IsO X a9 M' → Below w.heap.size w X → RoI cs (k + 1) M' a9 w X) := hide fun a9 M' X e1 e2 e3 => ⟨e1, e2, e3⟩
                have HI1 := hide (unhide HI).o
                have HB := hide (unhide HI).d
                clear HI HAT HSM HEN HNN HV2 hk hg c2
                generalize opC 0 (cs.take k) = e at *
                rw [unhide HOP] at HNX
                generalize cs.getD k opZ = x at *
                obtain ⟨xk, xn, xt⟩ := x
                dsimp only at c0 c1 h1 h2 h3 h4 hS1 hT hti HXX HNX
                rw [dA_app, dA_app, dA_app, List.length_append, List.length_append, List.length_append] at hS1
                generalize lstC 0 (cs.take k) = p at *
                have HW : Hid (wrap64 (xk - p) = xk - p ∧ wrap64 (xn - xk) = xn - xk) := hide ⟨wrapD _ (by omega) (by omega), wrapD _ (by omega) (by omega)⟩
                have a1 := add_snoc e (x := ⟨1, xk - p, []⟩) (.inl rfl) (fun _ => by dsimp only; omega)
                have a2 := add_snoc (e ++ [⟨1, xk - p, []⟩]) (x := ⟨3, xn - xk, []⟩) (.inr (.inr rfl)) (fun _ => by dsimp only; omega)
                have a3 := add_snoc (e ++ [⟨1, xk - p, []⟩] ++ [⟨3, xn - xk, []⟩]) (x := ⟨2, 0, xt⟩) (.inr (.inl rfl)) (fun h => absurd rfl h)
                simp only [show ¬ ((1 : Int) = 2) by decide, show ¬ ((3 : Int) = 2) by decide, if_false, if_true] at a1 a2 a3
                rw [feed_swapC (e ++ [(⟨1, xk - p, []⟩ : Dop)]) ⟨2, 0, xt⟩ ⟨3, xn - xk, []⟩ rfl rfl] at a3
                have l1 : (dA (e ++ [(⟨1, xk - p, []⟩ : Dop)])).length ≤ 1073741000 := by rw [dA_app, List.length_append]; omega
                have l2 : (dA (e ++ [(⟨1, xk - p, []⟩ : Dop)] ++ [(⟨3, xn - xk, []⟩ : Dop)])).length ≤ 1073741000 := by rw [dA_app, dA_app, List.length_append, List.length_append]; omega
                have hC1 := RAdd_at a8 q M 1 (xk - p) [] wr (unhide HI1) hq (by rw [hM]; exact adok_feed (by omega) (by omega) (by simp))
                rw [hM, a1, ← hM, show strOfNums [] = (⟨#[]⟩ : ByteArray) from rfl] at hC1
                have HC1 := hide hC1
                clear hC1
                have ok1 : AdOk (feedA b0 (dA (e ++ [(⟨1, xk - p, []⟩ : Dop)]))).fin (xn - xk) [] := adok_feed l1 (by omega) (by simp)
                have ok2 : AdOk (feedA b0 (dA (e ++ [(⟨1, xk - p, []⟩ : Dop)] ++ [(⟨3, xn - xk, []⟩ : Dop)]))).fin 0 xt := adok_feed l2 (by omega) (by omega)
                have HNY := hide fun (a9 : Option Addr) (X : World) => unhide HNX a9 _ X rfl
                obtain ⟨w1, w2⟩ := unhide HW
                clear HW
                clear HNX a1 l1 l2 hM hS1 hti h1 h2 h3 h4 hnn HOP HI1
                generalize (feedA b0 (dA (e ++ [(⟨1, xk - p, []⟩ : Dop)] ++ [⟨2, 0, xt⟩] ++ [⟨3, xn - xk, []⟩]))).fin = M3 at *
                generalize (feedA b0 (dA (e ++ [(⟨1, xk - p, []⟩ : Dop)] ++ [⟨3, xn - xk, []⟩]))).fin = M2 at *
                generalize (feedA b0 (dA (e ++ [(⟨1, xk - p, []⟩ : Dop)]))).fin = M1 at *
                have HC2 := hide fun (X : World) (a9 : Option Addr) (q9 : Nat) (hx : IsO X a9 M1) (hy : M1.length ≤ q9) => RAdd_at a9 q9 M1 3 (xn - xk) [] X hx hy ok1
                rw [a2, show strOfNums [] = (⟨#[]⟩ : ByteArray) from rfl] at HC2
                have HC3 := hide fun (X : World) (a9 : Option Addr) (q9 : Nat) (hx : IsO X a9 M2) (hy : M2.length ≤ q9) => RAdd_at a9 q9 M2 2 0 xt X hx hy ok2
                rw [a3] at HC3
                clear a2 a3 ok1 ok2
                generalize strOfNums xt = st at *
                go_upto_region 22 with fail
                go_wp2_with fail
                try rw [w1]
                refine (unhide HC1).mono ?_
                rintro y v1 ⟨a9, q9, rfl, i9, l9, x9⟩
                dsimp only
                have HB1 := hide ((unhide HB).trans (x9.mono (unhide HB).size))
                have HC2' := hide (unhide HC2 v1.drew a9 q9 (i9.below (Below.refl v1.heap.size v1).drew (Nat.le_refl _)) l9)
                have HBd := hide ((unhide HB1).drew)
                obtain ⟨f0, f1, f2⟩ := unhide HXX v1.drew (unhide HBd)
                have HS0 := hide (And.intro f0 f1)
                clear HC1 HC2 i9 x9 HB HB1 c0 c1 w1 f0 f1 f2
                go_upto_region 23 with fail
                refine regionL (S := fun w' => w'.cell? ⟨g, off + k * 3, none⟩ = some (.int .i64 xk) ∧ w'.cell? ⟨g, off + k * 3 + 1, none⟩ = some (.int .i64 xn)) (fun _ => false) (by kernel_rfl) ?_
                refine anyL_take (i := 0) (v := ?vrt0) rfl (by kernel_rfl) (by kernel_rfl) (by kernel_rfl) (by kernel_rfl) (fun _ _ _ h => h) (Or.inl ⟨by rfl, ?hrt0⟩) (unhide HS0) ?_
                case hrt0 => (intro w hSw; (try dsimp only at hSw); go_simp) <;> with_reducible rfl
                simp only [Act.put, List.getElem_toArray, List.getElem_cons_zero, List.setIfInBounds_toArray, List.set_cons_zero, List.set_cons_succ]
                refine anyL_take (i := 1) (v := ?vrt1) rfl (by kernel_rfl) (by kernel_rfl) (by kernel_rfl) (by kernel_rfl) (fun _ _ _ h => h) (Or.inl ⟨by rfl, ?hrt1⟩) (unhide HS0) ?_
                case hrt1 => (intro w hSw; (try dsimp only at hSw); go_simp) <;> with_reducible rfl
                simp only [Act.put, List.getElem_toArray, List.getElem_cons_zero, List.getElem_cons_succ, List.setIfInBounds_toArray, List.set_cons_zero, List.set_cons_succ]
                refine anyL_take (i := 2) (v := ?vrt2) rfl (by kernel_rfl) (by kernel_rfl) (by kernel_rfl) (by kernel_rfl) (fun _ _ _ h => h) (Or.inl ⟨by rfl, ?hrt2⟩) (unhide HS0) ?_
                case hrt2 => (intro w hSw; (try dsimp only at hSw); go_simp) <;> with_reducible rfl
                simp only [Act.put, List.getElem_toArray, List.getElem_cons_zero, List.getElem_cons_succ, List.setIfInBounds_toArray, List.set_cons_zero, List.set_cons_succ]
                refine anyL_take (i := 3) (v := ?vrt3) rfl (by kernel_rfl) (by kernel_rfl) (by kernel_rfl) (by kernel_rfl) (fun _ _ _ h => h) (Or.inl ⟨by rfl, ?hrt3⟩) (unhide HS0) ?_
                case hrt3 => (intro w hSw; (try dsimp only at hSw); go_simp) <;> with_reducible rfl
                simp only [Act.put, List.getElem_toArray, List.getElem_cons_zero, List.getElem_cons_succ, List.setIfInBounds_toArray, List.set_cons_zero, List.set_cons_succ]
                refine anyL_take (i := 4) (v := ?vrt4) rfl (by kernel_rfl) (by kernel_rfl) (by kernel_rfl) (by kernel_rfl) (fun _ _ _ h => h) (Or.inl ⟨by rfl, ?hrt4⟩) (unhide HS0) ?_
                case hrt4 => (intro w hSw; (try dsimp only at hSw); go_simp) <;> with_reducible rfl
                simp only [Act.put, List.getElem_toArray, List.getElem_cons_zero, List.getElem_cons_succ, List.setIfInBounds_toArray, List.set_cons_zero, List.set_cons_succ]
                refine anyL_take (i := 5) (v := ?vrt5) rfl (by kernel_rfl) (by kernel_rfl) (by kernel_rfl) (by kernel_rfl) (fun _ _ _ h => h) (Or.inl ⟨by rfl, ?hrt5⟩) (unhide HS0) ?_
                case hrt5 => (intro w hSw; (try dsimp only at hSw); go_simp) <;> with_reducible rfl
                simp only [Act.put, List.getElem_toArray, List.getElem_cons_zero, List.getElem_cons_succ, List.setIfInBounds_toArray, List.set_cons_zero, List.set_cons_succ]
                refine anyL_take (i := 6) (v := ?vrt6) rfl (by kernel_rfl) (by kernel_rfl) (by kernel_rfl) (by kernel_rfl) (fun _ _ _ h => h) (Or.inl ⟨by rfl, ?hrt6⟩) (unhide HS0) ?_
                case hrt6 => (intro w hSw; (try dsimp only at hSw); go_simp) <;> with_reducible rfl
                simp only [Act.put, List.getElem_toArray, List.getElem_cons_zero, List.getElem_cons_succ, List.setIfInBounds_toArray, List.set_cons_zero, List.set_cons_succ]
                refine anyL_take (i := 7) (v := ?vrt7) rfl (by kernel_rfl) (by kernel_rfl) (by kernel_rfl) (by kernel_rfl) (fun _ _ _ h => h) (Or.inl ⟨by rfl, ?hrt7⟩) (unhide HS0) ?_
                case hrt7 => (intro w hSw; (try dsimp only at hSw); go_simp) <;> with_reducible rfl
                simp only [Act.put, List.getElem_toArray, List.getElem_cons_zero, List.getElem_cons_succ, List.setIfInBounds_toArray, List.set_cons_zero, List.set_cons_succ]
                refine anyL_take (i := 8) (v := ?vrt8) rfl (by kernel_rfl) (by kernel_rfl) (by kernel_rfl) (by kernel_rfl) (fun _ _ _ h => h) (Or.inl ⟨by rfl, ?hrt8⟩) (unhide HS0) ?_
                case hrt8 => (intro w hSw; (try dsimp only at hSw); go_simp) <;> with_reducible rfl
                simp only [Act.put, List.getElem_toArray, List.getElem_cons_zero, List.getElem_cons_succ, List.setIfInBounds_toArray, List.set_cons_zero, List.set_cons_succ]
                refine anyL_take (i := 9) (v := ?vrt9) rfl (by kernel_rfl) (by kernel_rfl) (by kernel_rfl) (by kernel_rfl) (fun _ _ _ h => h) (Or.inl ⟨by rfl, ?hrt9⟩) (unhide HS0) ?_
                case hrt9 => (intro w hSw; (try dsimp only at hSw); go_simp) <;> with_reducible rfl
                simp only [Act.put, List.getElem_toArray, List.getElem_cons_zero, List.getElem_cons_succ, List.setIfInBounds_toArray, List.set_cons_zero, List.set_cons_succ]
                refine anyL_take (i := 10) (v := ?vrt10) rfl (by kernel_rfl) (by kernel_rfl) (by kernel_rfl) (by kernel_rfl) (fun _ _ _ h => h) (Or.inl ⟨by rfl, ?hrt10⟩) (unhide HS0) ?_
                case hrt10 => (intro w hSw; (try dsimp only at hSw); go_simp) <;> with_reducible rfl
                simp only [Act.put, List.getElem_toArray, List.getElem_cons_zero, List.getElem_cons_succ, List.setIfInBounds_toArray, List.set_cons_zero, List.set_cons_succ]
                refine anyL_take (i := 11) (v := ?vrt11) rfl (by kernel_rfl) (by kernel_rfl) (by kernel_rfl) (by kernel_rfl) (fun _ _ _ h => h) (Or.inl ⟨by rfl, ?hrt11⟩) (unhide HS0) ?_
                case hrt11 => (intro w hSw; (try dsimp only at hSw); go_simp) <;> with_reducible rfl
                simp only [Act.put, List.getElem_toArray, List.getElem_cons_zero, List.getElem_cons_succ, List.setIfInBounds_toArray, List.set_cons_zero, List.set_cons_succ]
                refine anyL_ready (rs := [12]) (by kernel_rfl) (by simp) ?_
                refine AllL.cons rfl (fun K hK => ?_) AllL.nil
                go_simp
                rw [show IntKind.i64.wrap (xn - xk) = xn - xk by rw [IntKind.wrap_i64]; unfold wrap64 at w2; exact w2]
                refine (unhide HC2').mono ?_
                rintro y v2 ⟨a10, q10, rfl, i10, l10, x10⟩
                have HB2 := hide ((unhide HBd).trans (x10.mono (unhide HBd).size))
                have HC3' := hide (unhide HC3 v2 a10 q10 i10 l10)
                have HS2 := hide (And.intro (unhide HXX v2 (unhide HB2)).1 (unhide HXX v2 (unhide HB2)).2.1)
                clear HC2' HC3 HBd i10 x10
                refine unhide hK _ _ (fun _ => unhide HS2) ?_
                clear hK K
                refine anyL_take (i := 13) (v := ?vrt12) rfl (by kernel_rfl) (by kernel_rfl) (by kernel_rfl) (by kernel_rfl) (fun _ _ _ h => h) (Or.inl ⟨by rfl, ?hrt12⟩) (unhide HS2) ?_
                case hrt12 => (intro w hSw; (try dsimp only at hSw); go_simp) <;> with_reducible rfl
                simp only [Act.put, List.getElem_toArray, List.getElem_cons_zero, List.getElem_cons_succ, List.setIfInBounds_toArray, List.set_cons_zero, List.set_cons_succ]
                refine anyL_done (by kernel_rfl) ?_ _
                clear HS0
                obtain ⟨f0, f1, f2⟩ := unhide HXX v2 (unhide HB2)
                go_wp2_with fail
                refine (unhide HC3').mono ?_
                rintro y v3 ⟨a11, q11, rfl, i11, l11, x11⟩
                dsimp only
                have HB3 := hide ((unhide HB2).trans (x11.mono (unhide HB2).size))
                have HN := hide (unhide HNY a11 v3 i11 (unhide HB3))
                obtain ⟨e0, e1, e2⟩ := unhide HXX v3 (unhide HB3)
                clear HC3' HNY i11 x11 HB2 HB3 f0 f1 f2 HXX e0 e2
                go_wp2_with fail
                go_roundw
                case rel => exact ⟨k + 1, q11, M3, a11, by go_num, by rw [hT], rfl, hlt, l11, HN⟩
                case measure => simp [intOf]; omega
              · obtain rfl : k = cs.length := by omega
                have s1 : decide ((cs.length : Int) < (cs.length : Int)) = false := decide_eq_false (by omega)
                have hM := (unhide HI).l
                rw [List.take_length] at hM
                obtain ⟨h1, h2⟩ := unhide HEN
                have hnn := (unhide HNN).2
                have hS := unhide HSM cs.length
                rw [List.take_length] at hS
                have a1 := add_snoc (opC 0 cs) (x := ⟨1, n - lstC 0 cs, []⟩) (.inl rfl) (fun _ => by dsimp only; omega)
                simp only [show ¬ ((1 : Int) = 2) by decide, if_false] at a1
                have hC1 := RAdd_at a8 q M 1 (n - lstC 0 cs) [] wr (unhide HI).o hq (by rw [hM]; exact adok_feed (by omega) (by omega) (by simp))
                rw [hM, a1, ← hM, show strOfNums [] = (⟨#[]⟩ : ByteArray) from rfl] at hC1
                have w1 : wrap64 (n - lstC 0 cs) = n - lstC 0 cs := wrapD _ (by omega) (by omega)
                obtain ⟨hL, hR⟩ := unhide HV2
                have hL2 : L = (feedA b0 (dA (opC 0 cs ++ [⟨1, n - lstC 0 cs, []⟩]))).fin := hL
                rw [← hL2] at hC1
                have HC1 := hide hC1
                have HRR := hide hR
                have HB := hide (unhide HI).d
                rw [List.take_length]
                clear HI HAT HSM HEN HNN HV2 hk hlt hM h1 h2 hnn hS a1 hC1 hL hR hL2 HO
                generalize lstC 0 cs = p at *
                go_wp2_with fail
                try rw [w1]
                refine (unhide HC1).mono ?_
                rintro y v1 ⟨a9, q9, rfl, i9, l9, x9⟩
                dsimp only
                have HB1 := hide ((unhide HB).trans (x9.mono (unhide HB).size))
                have HI9 := hide i9
                clear HC1 HB x9 i9 l9
                go_wp2_with fail
                rw [unhide HRR]
                refine bodyPost_ret (results_tmp2 rfl _ _ _) rfl ⟨a9, q9, rfl, unhide HI9, unhide HB1⟩

end Go.Proofs.Ytecolpnbbpbflaa
