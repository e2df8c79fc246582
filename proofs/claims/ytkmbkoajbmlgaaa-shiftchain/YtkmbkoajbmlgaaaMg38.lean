/- Layer 14: the document's lens and Valid, for lists of any size: what is put may pass the greatest int (written by wip/tools/sha.py). -/
import Derived.Test.YtkmbkoajbmlgaaaMg31

namespace Go.Proofs.Ytkmbkoajbmlgaaa
open Go.ChangeShapes Go.WideShapes Go.ChangeAt Go.RowKit
attribute [local go_sem] Oper.semAt_some

theorem ca_w {t9 m T9 : Nat} {t T : Int} (h : T9 = t9 + m) (ht : t = wrap64 (t9 : Int)) (hT : T = wrap64 (T9 : Int)) : wrap64 (t + (m : Int)) = T ∧ wrap64 (T + 0) = T ∧ wrap64 T = T := by
  subst h ht hT
  unfold wrap64
  refine ⟨by omega, by omega, by omega⟩
structure LnW (d : List Dop) (k f : Nat) (t : Int) : Prop where
  ef : f = frD (d.take k)
  et : t = wrap64 (toD (d.take k) : Int)
set_option maxRecDepth 100000 in
set_option maxHeartbeats 4000000 in
theorem lens14W_at (a : Option Addr) (c : Nat) (d : List Dop) (w : World) (h : IsO w a d) (hl : d.length ≤ 4611686018427387904) (hp : ∀ o ∈ d, PlO o) (hf : frD d ≤ 1152921504606846976) :
    Calls Try.prog 74 #[.slice a d.length c] w fun y w' => y = .returned (.tuple #[.int .i64 (frD d : Int), .int .i64 (wrap64 (toD d : Int))]) ∧ Below w.heap.size w w' := by
  have HO := hide fun (X : World) (hx : Below w.heap.size w X) => h.below hx (Nat.le_refl _)
  have HV := hide hp
  have HZ := hide hf
  obtain ⟨L, E, hL, hE⟩ : ∃ (L : Nat) (E : Int), L = frD d ∧ E = wrap64 (toD d : Int) := ⟨_, _, rfl, rfl⟩
  rw [← hL, ← hE]
  have HLE := hide (And.intro hL hE)
  clear h hp hf hL hE
  go_enter Try.func74, Try.ntmps74
  go_wp2_with fail
  go_loopw [4, 5, 6] (fun v4 v5 v6 wx => (∃ (k f : Nat) (t : Int), v6 = .int .i64 (k : Int) ∧ v4 = .int .i64 (f : Int) ∧ v5 = .int .i64 t ∧ k ≤ d.length ∧ Hid (LnW d k f t)) ∧ Hid (Below w.heap.size w wx)) (fun _ _ v6 _ => d.length - (intOf v6).toNat)
  case atStart => exact ⟨⟨0, 0, 0, rfl, rfl, rfl, Nat.zero_le _, hide ⟨rfl, by simp [toD]; exact (wrapD 0 (by omega) (by omega)).symm⟩⟩, hide (Below.refl _ _)⟩
  case round =>
    obtain ⟨⟨k, f, t, rfl, rfl, rfl, hk, HI⟩, HB⟩ := hrel
    by_cases hlt : k < d.length
    · have t1 : decide ((k : Int) < (d.length : Int)) = true := decide_eq_true (by omega)
      have t1' : (k : Int) < (d.length : Int) := by omega
      obtain ⟨g, off, rfl, hg, c0, c1, c2⟩ := (unhide HO wr (unhide HB)).three hlt
      have hx := unhide HV _ (getD_memD hlt)
      have hfr := frD_take d hlt
      have hto := toD_take d hlt
      have hF := Nat.le_trans (frD_le' d (k + 1)) (unhide HZ)
      rw [← (unhide HI).ef] at hfr
      have ht0 := (unhide HI).et
      have HNX : Hid (LnW d (k + 1) (frD (d.take (k + 1))) (wrap64 (toD (d.take (k + 1)) : Int))) := hide ⟨rfl, rfl⟩
      clear HI hk
      generalize frD (d.take (k + 1)) = F' at *
      generalize toD (d.take (k + 1)) = T9 at *
      generalize toD (d.take k) = t9 at *
      obtain ⟨T', hT'⟩ : ∃ T', T' = wrap64 (T9 : Int) := ⟨_, rfl⟩
      rw [← hT'] at HNX
      generalize d.getD k opZ = x at *
      obtain ⟨xk, xn, xt⟩ := x
      unfold PlO at hx
      dsimp only at c0 c1 c2 hx
      have hsz := strOfNums_size xt
      rcases hx with ⟨rfl | rfl, hn, rfl⟩ | ⟨rfl, rfl, hn⟩
      · obtain ⟨m, rfl⟩ : ∃ m : Nat, xn = (m : Int) := ⟨xn.toNat, by omega⟩
        rw [show frN ⟨1, (m : Int), []⟩ = m by simp [frN]] at hfr
        rw [show toN ⟨1, (m : Int), []⟩ = m by simp [toN]] at hto
        have hsz0 : (strOfNums []).size = 0 := by simpa using hsz
        obtain ⟨w1, w2, w3⟩ := ca_b hfr hF
        obtain ⟨w4, w5, w6⟩ := ca_w hto ht0 hT'
        clear hfr hto hn hF hsz ht0 hT'
        go_wp2_with fail
        go_roundw
        case rel => exact ⟨⟨k + 1, F', T', by go_num, by first | rfl | rw [w1] | rw [w2] | rw [w3] | rw [w1, w3], by first | rfl | rw [w4] | rw [w5] | rw [w6] | rw [w4, w6], hlt, HNX⟩, HB⟩
        case measure => simp [intOf]; omega
      · obtain ⟨m, rfl⟩ : ∃ m : Nat, xn = (m : Int) := ⟨xn.toNat, by omega⟩
        rw [show frN ⟨3, (m : Int), []⟩ = m by simp [frN]] at hfr
        rw [show toN ⟨3, (m : Int), []⟩ = 0 by simp [toN]] at hto
        have hsz0 : (strOfNums []).size = 0 := by simpa using hsz
        obtain ⟨w1, w2, w3⟩ := ca_b hfr hF
        obtain ⟨w4, w5, w6⟩ := ca_w hto ht0 hT'
        obtain rfl : T' = t := by rw [hT', hto, ht0]; simp
        clear hfr hto hn hF hsz ht0 hT'
        go_wp2_with fail
        go_roundw
        case rel => exact ⟨⟨k + 1, F', T', by go_num, by first | rfl | rw [w1] | rw [w2] | rw [w3] | rw [w1, w3], by first | rfl | rw [w4] | rw [w5] | rw [w6] | rw [w4, w6], hlt, HNX⟩, HB⟩
        case measure => simp [intOf]; omega
      · rw [show frN ⟨2, 0, xt⟩ = 0 by simp [frN]] at hfr
        rw [show toN ⟨2, 0, xt⟩ = xt.length by simp [toN]] at hto
        obtain ⟨w1, w2, w3⟩ := ca_b hfr hF
        obtain ⟨w4, w5, w6⟩ := ca_w hto ht0 hT'
        obtain rfl : F' = f := by omega
        clear hfr hto hn hF ht0 hT'
        go_wp2_with fail
        go_roundw
        case rel => exact ⟨⟨k + 1, F', T', by go_num, by first | rfl | rw [w1] | rw [w2] | rw [w3] | rw [w1, w3], by first | rfl | rw [w4] | rw [w5] | rw [w6] | rw [w4, w6], hlt, HNX⟩, HB⟩
        case measure => simp [intOf]; omega
    · obtain rfl : k = d.length := by omega
      have t1 : decide ((d.length : Int) < (d.length : Int)) = false := decide_eq_false (by omega)
      obtain ⟨rfl, rfl⟩ : f = L ∧ t = E := by
        have h1 := (unhide HI).ef
        have h2 := (unhide HI).et
        rw [List.take_length] at h1 h2
        exact ⟨h1.trans (unhide HLE).1.symm, h2.trans (unhide HLE).2.symm⟩
      clear HI hk
      go_wp2_with fail
      refine bodyPost_ret (results_tmp2 rfl _ _ _) rfl ⟨rfl, unhide HB⟩

/-- what the document's Valid answers -/
def vW (d : List Dop) : Bool := d.all plB && (apL 7 d && (decide (frD d ≤ 268435456) && decide (wrap64 (toD d : Int) ≤ 268435456)))
theorem vw_pl {d : List Dop} (h : d.all plB = false) : vW d = false := by unfold vW; rw [h]; rfl
theorem vw_ap {d : List Dop} (h : apL 7 d = false) : vW d = false := by unfold vW; rw [h]; cases d.all plB <;> rfl
theorem vw_lo {d : List Dop} (h : 268435456 < frD d) : vW d = false := by
  unfold vW; rw [show decide (frD d ≤ 268435456) = false from decide_eq_false (by omega)]; cases d.all plB <;> cases apL 7 d <;> rfl
theorem le_casesI (m : Int) : (¬ m ≤ 268435456 ∧ decide (m ≤ 268435456) = false) ∨ (m ≤ 268435456 ∧ decide (m ≤ 268435456) = true) := by
  by_cases h : m ≤ 268435456
  · exact .inr ⟨h, decide_eq_true h⟩
  · exact .inl ⟨h, decide_eq_false h⟩
theorem vw_ok {d : List Dop} (h : toD d ≤ 4611686018427387904) : vW d = valB d := by
  have hw : wrap64 (toD d : Int) = (toD d : Int) := wrapD _ (by omega) (by omega)
  unfold vW valB lonB
  rw [hw]
  by_cases h1 : frD d ≤ 268435456 <;> by_cases h2 : toD d ≤ 268435456
  · rw [decide_eq_true h1, decide_eq_true (show (toD d : Int) ≤ 268435456 by omega), decide_eq_false (show ¬ (268435456 < frD d ∨ 268435456 < toD d) by omega)]; rfl
  · rw [decide_eq_true h1, decide_eq_false (show ¬ (toD d : Int) ≤ 268435456 by omega), decide_eq_true (show 268435456 < frD d ∨ 268435456 < toD d by omega)]; rfl
  · rw [decide_eq_false h1, decide_eq_true (show 268435456 < frD d ∨ 268435456 < toD d by omega)]; rfl
  · rw [decide_eq_false h1, decide_eq_true (show 268435456 < frD d ∨ 268435456 < toD d by omega)]; rfl
theorem vw_val {d : List Dop} (h : valB d = true) : vW d = valB d := vw_ok (by have := (valB_nn h).2.2; omega)
/-- how many operations put -/
def pcD (d : List Dop) : Nat := (d.map fun o => if o.k = 2 then 1 else 0).sum
theorem pc_le : ∀ {d : List Dop}, (∀ o ∈ d, PlO o) → Chn d → pcD d ≤ frD d + 1 ∧ ((d = [] ∨ (d.getD 0 opZ).k ≠ 2) → pcD d ≤ frD d)
  | [], _, _ => by simp [pcD]
  | o :: r, hp, hc => by
    obtain ⟨h1, h2⟩ := pc_le (d := r) (fun x hx => hp x (by simp [hx])) (chn_tail hc)
    have ef : frD (o :: r) = frN o + frD r := by simp [frD]
    have ep : pcD (o :: r) = (if o.k = 2 then 1 else 0) + pcD r := by simp [pcD]
    rw [ef, ep]
    rcases hp o (by simp) with ⟨hk, hn, _⟩ | ⟨hk, _, _⟩
    · have hfn : 1 ≤ frN o := by unfold frN; rw [if_pos hk]; omega
      rw [if_neg (by omega)]
      exact ⟨by omega, fun _ => by omega⟩
    · have h3 := h2 (by
        cases r with
        | nil => exact .inl rfl
        | cons b r => right; have := hc.1.1; rw [hk] at this; simpa using fun h => this h.symm)
      rw [if_pos hk]
      refine ⟨by omega, fun h => ?_⟩
      rcases h with h | h
      · cases h
      · exact absurd hk (by simpa using h)
theorem tx_pc {d : List Dop} (hp : ∀ o ∈ d, PlO o) (ht : ∀ o ∈ d, o.t.length ≤ 140737488355328) : txD d ≤ pcD d * 140737488355328 := by
  induction d with
  | nil => simp [txD, pcD]
  | cons o r ih =>
    have ih := ih (fun x hx => hp x (by simp [hx])) (fun x hx => ht x (by simp [hx]))
    have et : txD (o :: r) = o.t.length + txD r := by simp [txD]
    have ep : pcD (o :: r) = (if o.k = 2 then 1 else 0) + pcD r := by simp [pcD]
    rw [et, ep, Nat.add_mul]
    rcases hp o (by simp) with ⟨hk, _, he⟩ | ⟨hk, _, _⟩
    · rw [he, if_neg (by omega), List.length_nil, Nat.zero_add, Nat.zero_mul, Nat.zero_add]; exact ih
    · have := ht o (by simp)
      rw [if_pos hk, Nat.one_mul]; exact Nat.add_le_add this ih
/-- where the text that it is of is not great, the document's Valid is right -/
theorem vw_small {d : List Dop} (ht : ∀ o ∈ d, o.t.length ≤ 140737488355328) (h : vW d = false ∨ frD d ≤ 5000) : vW d = valB d := by
  cases hv : vW d with
  | false =>
    cases hb : valB d with
    | false => rfl
    | true => have := vw_val hb; rw [hv, hb] at this; exact this
  | true =>
    have hf : frD d ≤ 5000 := by rcases h with h | h; rw [hv] at h; cases h; exact h
    have hv' := hv
    unfold vW at hv'
    simp only [Bool.and_eq_true] at hv'
    have hp := pl_of hv'.1 hv'.2.1
    have h1 := (pc_le hp (chn_of_ap 7 (apL_kinds 7 d hv'.2.1) hv'.2.1)).1
    have h2 := tx_pc hp ht
    have h3 := toD_tx d
    have h4 : pcD d * 140737488355328 ≤ 5001 * 140737488355328 := Nat.mul_le_mul_right _ (by omega)
    rw [← hv]
    exact vw_ok (by omega)
set_option maxRecDepth 100000 in
set_option maxHeartbeats 8000000 in
theorem RValid14W_at (a : Option Addr) (c : Nat) (d : List Dop) (w : World) (h : IsO w a d) (hl : d.length ≤ 4611686018427387904) :
    Calls Try.prog 73 #[.slice a d.length c] w fun y w' => y = .returned (.bool (vW d)) ∧ Below w.heap.size w w' := by
  have HO := hide fun (X : World) (hx : Below w.heap.size w X) => h.below hx (Nat.le_refl _)
  obtain ⟨V, hV⟩ : ∃ V, V = vW d := ⟨_, rfl⟩
  rw [← hV]
  have HV := hide hV
  clear h hV
  go_enter Try.func73, Try.ntmps73
  go_wp2_with fail
  go_loopw [3, 4, 5] (fun v3 v4 v5 wx => (∃ z, v5 = z) ∧ (∃ (k f : Nat), v4 = .int .i64 (k : Int) ∧ v3 = .int .i64 (f : Int) ∧ k ≤ d.length ∧ Hid (Va4 d k f)) ∧ Hid (Below w.heap.size w wx)) (fun _ v4 _ _ => d.length - (intOf v4).toNat)
  case atStart => exact ⟨⟨_, rfl⟩, ⟨0, 0, rfl, rfl, Nat.zero_le _, hide ⟨rfl, by omega, rfl, rfl, .inl rfl⟩⟩, hide (Below.refl _ _)⟩
  case round =>
    obtain ⟨⟨z1, rfl⟩, ⟨k, f, rfl, rfl, hk, HI⟩, HB⟩ := hrel
    by_cases hlt : k < d.length
    · have t1 : decide ((k : Int) < (d.length : Int)) = true := decide_eq_true (by omega)
      obtain ⟨g, off, ha, hg, c0', c1', c2'⟩ := (unhide HO wr (unhide HB)).three hlt
      obtain ⟨i1, i3, i5, i6, i7⟩ := unhide HI
      have hfr := frD_take d hlt
      have hle := frD_le d (k + 1)
      rw [← i1] at hfr
      have HAP := apL_at hlt (prM d k)
      rw [← i6] at HAP
      have HVP : Hid (plB (d.getD k opZ) = false → V = false) := hide fun h1 => by rw [unhide HV]; exact vw_pl (all_no d plB hlt h1)
      have HVF : Hid (268435456 < frD (d.take (k + 1)) → V = false) := hide fun h1 => by rw [unhide HV]; exact vw_lo (by omega)
      have HVA : Hid (apB (prM d k) (thisN (d.getD k opZ).k) = false → V = false) := hide fun h1 => by rw [unhide HV]; refine vw_ap ?_; rw [HAP, h1]; rfl
      have HNX : Hid (∀ F : Nat, F = frD (d.take (k + 1)) → F ≤ 268435456 → plB (d.getD k opZ) = true → apB (prM d k) (thisN (d.getD k opZ).k) = true → ((d.getD k opZ).k = 1 ∨ (d.getD k opZ).k = 2 ∨ (d.getD k opZ).k = 3) → Va4 d (k + 1) F) := hide fun F h1 h3 h5 h6 h7 =>
        ⟨h1, h3, by rw [all_take d plB hlt, i5, h5]; rfl, by rw [HAP, h6, prM_s]; rfl, .inr (by simpa using h7)⟩
      have HPR : Hid (∀ X, Below w.heap.size w X → k = 0 ∧ prM d k = 7 ∨ ∃ (j : Nat) (p : Int), k = j + 1 ∧ j < d.length ∧ X.cell? ⟨g, off + j * 3, none⟩ = some (.int .i64 p) ∧ prM d k = nextN p ∧ (p = 1 ∨ p = 2 ∨ p = 3)) := hide (fun X hX => by
        cases k with
        | zero => exact .inl ⟨rfl, rfl⟩
        | succ j =>
          obtain ⟨g', off', ha', _, e0, _⟩ := (unhide HO X hX).three (k := j) (by omega)
          rw [ha] at ha'; cases ha'
          rcases i7 with i7 | i7
          · omega
          · exact .inr ⟨j, _, rfl, by omega, e0, prM_s d j, by simpa using i7⟩)
      have hkl : k < 4611686018427387904 := by omega
      subst ha
      clear HI i1 i5 i6 i7 HAP hle hk
      generalize prM d k = pm at *
      generalize prM d (k + 1) = pn at *
      generalize frD (d.take (k + 1)) = F' at *
      generalize (d.take (k + 1)).all plB = al at *
      generalize d.getD k opZ = x at *
      obtain ⟨xk, xn, xt⟩ := x
      dsimp only at c0' c1' c2' HVA HNX
      have hsz := strOfNums_size xt
      have hem := str_empD xt
      have HBN := hide ((unhide HB).alloc (unhide HB).size (.cells #[.int .i64 xk, .int .i64 xn, .string (strOfNums xt)] 34))
      obtain ⟨d0, d1, d2⟩ := three_nwD wr (.int .i64 xk) (.int .i64 xn) (.string (strOfNums xt)) (t := 34)
      have HPR2 := hide (unhide HPR _ (unhide HBN))
      have hgo := hg
      clear HPR HB
      go_upto_region 6 with fail
      clear c0' c1' c2' t1
      generalize wr.alloc (.cells #[.int .i64 xk, .int .i64 xn, .string (strOfNums xt)] 34) = v0 at *
      generalize wr.heap.size = gb at *
      clear hg hgo
      rcases kind_cases xk with rfl | rfl | rfl | ⟨_, _, _, s1, s2, s3, s4⟩
      · rcases kd_cases xn xt with ⟨h1, s1⟩ | ⟨h1, h2, s1, s2, s3⟩ | ⟨h1, h2, s1, s2, s3⟩ | ⟨h1, h2, h3, s1, s2, s3⟩
        · have HV2 : Hid (V = false) := hide (unhide HVP (by unfold plB; simp; omega))
          clear HVP HVF HVA HNX HPR2 hfr hkl i3 h1
          go_wp2_with fail
          rw [unhide HV2]
          refine bodyPost_ret (results_tmp rfl _ _ _) rfl ⟨rfl, unhide HBN⟩
        · have HV2 : Hid (V = false) := hide (unhide HVF (by rw [hfr]; simp [frN]; omega))
          clear HVP HVF HVA HNX HPR2 hfr hkl i3 h1 h2
          go_wp2_with fail
          rw [unhide HV2]
          refine bodyPost_ret (results_tmp rfl _ _ _) rfl ⟨rfl, unhide HBN⟩
        · have HV2 : Hid (V = false) := hide (unhide HVP (by unfold plB; simp [h2]))
          rw [← hem] at h2
          clear hem hsz
          generalize strOfNums xt = st at *
          clear HVP HVF HVA HNX HPR2 hfr hkl i3 h1
          go_wp2_with fail
          rw [unhide HV2]
          refine bodyPost_ret (results_tmp rfl _ _ _) rfl ⟨rfl, unhide HBN⟩
        · obtain ⟨m, rfl⟩ : ∃ m : Nat, xn = (m : Int) := ⟨xn.toNat, by omega⟩
          have HPL : Hid (plB ⟨1, (m : Int), xt⟩ = true) := hide (by unfold plB; simp [h3]; omega)
          rw [show frN ⟨1, (m : Int), xt⟩ = m by simp [frN]] at hfr
          have W1 := hide (ca_k i3 (by omega) hfr)
          rw [← hem] at h3
          clear h1 h2 hem hsz
          by_cases hF : 268435456 < F'
          · have HV2 : Hid (V = false) := hide (unhide HVF hF)
            obtain ⟨p0, p1, p2⟩ := big_t hF
            clear hF HVP HVF HVA HNX HPR2 hfr hkl i3
            obtain ⟨w1, w2, w3⟩ := unhide W1
            go_upto_region 16 with fail
            go_quiet (fail)
            go_wp2_with fail
            rw [unhide HV2]
            refine bodyPost_ret (results_tmp rfl _ _ _) rfl ⟨rfl, below_drewN (unhide HBN) _⟩
          have HN2 := hide (unhide HNX F' rfl (Nat.not_lt.1 hF) (unhide HPL))
          have P0 := hide (big_f hF)
          rcases unhide HPR2 with ⟨hk0, hpm⟩ | ⟨j, p, hj, hjl, cp, hpm, hp⟩
          · subst hk0
            have HN3 := hide (unhide HN2 (by rw [hpm]; rfl) (by decide))
            clear hF HN2 hpm HVP HVF HVA HNX HPR2 hfr hkl i3
            obtain ⟨p0, p1, p2⟩ := unhide P0
            obtain ⟨w1, w2, w3⟩ := unhide W1
            go_upto_region 16 with fail
            go_quiet (fail)
            go_wp2_with fail
            go_roundw
            case rel => exact ⟨⟨_, rfl⟩, ⟨0 + 1, F', by go_num, by first | rfl | go_num, hlt, HN3⟩, hide (below_drewN (unhide HBN) _)⟩
            case measure => simp [intOf]; omega
          · have HKP := hide (k_pos hj hkl hlt)
            rcases hp with rfl | rfl | rfl
            · have HV2 : Hid (V = false) := hide (unhide HVA (by rw [hpm]; rfl))
              clear hF HN2 hpm hj HVP HVF HVA HNX HPR2 hfr hkl i3
              obtain ⟨⟨k1, k6, k7, k8, k9⟩, k2, k3, k4, k5, k10, k11⟩ := unhide HKP
              obtain ⟨p0, p1, p2⟩ := unhide P0
              obtain ⟨w1, w2, w3⟩ := unhide W1
              go_upto_region 16 with fail
              go_quiet (fail)
              go_wp2_with fail
              rw [unhide HV2]
              refine bodyPost_ret (results_tmp rfl _ _ _) rfl ⟨rfl, below_drewN (unhide HBN) _⟩
            · have HN3 := hide (unhide HN2 (by rw [hpm]; rfl) (by decide))
              clear hF HN2 hpm hj HVP HVF HVA HNX HPR2 hfr hkl i3
              obtain ⟨⟨k1, k6, k7, k8, k9⟩, k2, k3, k4, k5, k10, k11⟩ := unhide HKP
              obtain ⟨p0, p1, p2⟩ := unhide P0
              obtain ⟨w1, w2, w3⟩ := unhide W1
              go_upto_region 16 with fail
              go_quiet (fail)
              go_wp2_with fail
              go_roundw
              case rel => exact ⟨⟨_, rfl⟩, ⟨k + 1, F', by go_num, by first | rfl | go_num, hlt, HN3⟩, hide (below_drewN (unhide HBN) _)⟩
              case measure => simp [intOf]; omega
            · have HN3 := hide (unhide HN2 (by rw [hpm]; rfl) (by decide))
              clear hF HN2 hpm hj HVP HVF HVA HNX HPR2 hfr hkl i3
              obtain ⟨⟨k1, k6, k7, k8, k9⟩, k2, k3, k4, k5, k10, k11⟩ := unhide HKP
              obtain ⟨p0, p1, p2⟩ := unhide P0
              obtain ⟨w1, w2, w3⟩ := unhide W1
              go_upto_region 16 with fail
              go_quiet (fail)
              go_wp2_with fail
              go_roundw
              case rel => exact ⟨⟨_, rfl⟩, ⟨k + 1, F', by go_num, by first | rfl | go_num, hlt, HN3⟩, hide (below_drewN (unhide HBN) _)⟩
              case measure => simp [intOf]; omega
      · rcases put_cases xn xt with ⟨h1, s1⟩ | ⟨h1, s1, s2⟩ | ⟨rfl, s1, s2⟩
        · have HV2 : Hid (V = false) := hide (unhide HVP (by unfold plB; simp [h1]))
          clear HVP HVF HVA HNX HPR2 hfr hkl i3 h1
          go_wp2_with fail
          rw [unhide HV2]
          refine bodyPost_ret (results_tmp rfl _ _ _) rfl ⟨rfl, unhide HBN⟩
        · have HV2 : Hid (V = false) := hide (unhide HVP (by unfold plB; simp [s2]))
          rw [← hem] at s2
          clear hem hsz
          generalize strOfNums xt = st at *
          clear HVP HVF HVA HNX HPR2 hfr hkl i3 h1
          go_wp2_with fail
          rw [unhide HV2]
          refine bodyPost_ret (results_tmp rfl _ _ _) rfl ⟨rfl, unhide HBN⟩
        · have HPL : Hid (plB ⟨2, 0, xt⟩ = true) := hide (by unfold plB; simp [s2])
          rw [show frN ⟨2, 0, xt⟩ = 0 by simp [frN]] at hfr
          obtain rfl : F' = f := by omega
          rw [← hem] at s2
          clear hem
          have hF : ¬ 268435456 < F' := by omega
          have HN2 := hide (unhide HNX F' rfl (Nat.not_lt.1 hF) (unhide HPL))
          have P0 := hide (big_f hF)
          rcases unhide HPR2 with ⟨hk0, hpm⟩ | ⟨j, p, hj, hjl, cp, hpm, hp⟩
          · subst hk0
            have HN3 := hide (unhide HN2 (by rw [hpm]; rfl) (by decide))
            clear hF HN2 hpm HVP HVF HVA HNX HPR2 hfr hkl i3
            obtain ⟨p0, p1, p2⟩ := unhide P0
            go_upto_region 16 with fail
            go_quiet (fail)
            go_wp2_with fail
            go_roundw
            case rel => exact ⟨⟨_, rfl⟩, ⟨0 + 1, F', by go_num, by first | rfl | go_num, hlt, HN3⟩, hide (below_drewN (unhide HBN) _)⟩
            case measure => simp [intOf]; omega
          · have HKP := hide (k_pos hj hkl hlt)
            rcases hp with rfl | rfl | rfl
            · have HN3 := hide (unhide HN2 (by rw [hpm]; rfl) (by decide))
              clear hF HN2 hpm hj HVP HVF HVA HNX HPR2 hfr hkl i3
              obtain ⟨⟨k1, k6, k7, k8, k9⟩, k2, k3, k4, k5, k10, k11⟩ := unhide HKP
              obtain ⟨p0, p1, p2⟩ := unhide P0
              go_upto_region 16 with fail
              go_quiet (fail)
              go_wp2_with fail
              go_roundw
              case rel => exact ⟨⟨_, rfl⟩, ⟨k + 1, F', by go_num, by first | rfl | go_num, hlt, HN3⟩, hide (below_drewN (unhide HBN) _)⟩
              case measure => simp [intOf]; omega
            · have HV2 : Hid (V = false) := hide (unhide HVA (by rw [hpm]; rfl))
              clear hF HN2 hpm hj HVP HVF HVA HNX HPR2 hfr hkl i3
              obtain ⟨⟨k1, k6, k7, k8, k9⟩, k2, k3, k4, k5, k10, k11⟩ := unhide HKP
              obtain ⟨p0, p1, p2⟩ := unhide P0
              go_upto_region 16 with fail
              go_quiet (fail)
              go_wp2_with fail
              rw [unhide HV2]
              refine bodyPost_ret (results_tmp rfl _ _ _) rfl ⟨rfl, below_drewN (unhide HBN) _⟩
            · have HV2 : Hid (V = false) := hide (unhide HVA (by rw [hpm]; rfl))
              clear hF HN2 hpm hj HVP HVF HVA HNX HPR2 hfr hkl i3
              obtain ⟨⟨k1, k6, k7, k8, k9⟩, k2, k3, k4, k5, k10, k11⟩ := unhide HKP
              obtain ⟨p0, p1, p2⟩ := unhide P0
              go_upto_region 16 with fail
              go_quiet (fail)
              go_wp2_with fail
              rw [unhide HV2]
              refine bodyPost_ret (results_tmp rfl _ _ _) rfl ⟨rfl, below_drewN (unhide HBN) _⟩
      · rcases kd_cases xn xt with ⟨h1, s1⟩ | ⟨h1, h2, s1, s2, s3⟩ | ⟨h1, h2, s1, s2, s3⟩ | ⟨h1, h2, h3, s1, s2, s3⟩
        · have HV2 : Hid (V = false) := hide (unhide HVP (by unfold plB; simp; omega))
          clear HVP HVF HVA HNX HPR2 hfr hkl i3 h1
          go_wp2_with fail
          rw [unhide HV2]
          refine bodyPost_ret (results_tmp rfl _ _ _) rfl ⟨rfl, unhide HBN⟩
        · have HV2 : Hid (V = false) := hide (unhide HVF (by rw [hfr]; simp [frN]; omega))
          clear HVP HVF HVA HNX HPR2 hfr hkl i3 h1 h2
          go_wp2_with fail
          rw [unhide HV2]
          refine bodyPost_ret (results_tmp rfl _ _ _) rfl ⟨rfl, unhide HBN⟩
        · have HV2 : Hid (V = false) := hide (unhide HVP (by unfold plB; simp [h2]))
          rw [← hem] at h2
          clear hem hsz
          generalize strOfNums xt = st at *
          clear HVP HVF HVA HNX HPR2 hfr hkl i3 h1
          go_wp2_with fail
          rw [unhide HV2]
          refine bodyPost_ret (results_tmp rfl _ _ _) rfl ⟨rfl, unhide HBN⟩
        · obtain ⟨m, rfl⟩ : ∃ m : Nat, xn = (m : Int) := ⟨xn.toNat, by omega⟩
          have HPL : Hid (plB ⟨3, (m : Int), xt⟩ = true) := hide (by unfold plB; simp [h3]; omega)
          rw [show frN ⟨3, (m : Int), xt⟩ = m by simp [frN]] at hfr
          have W1 := hide (ca_k i3 (by omega) hfr)
          rw [← hem] at h3
          clear h1 h2 hem hsz
          by_cases hF : 268435456 < F'
          · have HV2 : Hid (V = false) := hide (unhide HVF hF)
            obtain ⟨p0, p1, p2⟩ := big_t hF
            clear hF HVP HVF HVA HNX HPR2 hfr hkl i3
            obtain ⟨w1, w2, w3⟩ := unhide W1
            go_upto_region 16 with fail
            go_quiet (fail)
            go_wp2_with fail
            rw [unhide HV2]
            refine bodyPost_ret (results_tmp rfl _ _ _) rfl ⟨rfl, below_drewN (unhide HBN) _⟩
          have HN2 := hide (unhide HNX F' rfl (Nat.not_lt.1 hF) (unhide HPL))
          have P0 := hide (big_f hF)
          rcases unhide HPR2 with ⟨hk0, hpm⟩ | ⟨j, p, hj, hjl, cp, hpm, hp⟩
          · subst hk0
            have HN3 := hide (unhide HN2 (by rw [hpm]; rfl) (by decide))
            clear hF HN2 hpm HVP HVF HVA HNX HPR2 hfr hkl i3
            obtain ⟨p0, p1, p2⟩ := unhide P0
            obtain ⟨w1, w2, w3⟩ := unhide W1
            go_upto_region 16 with fail
            go_quiet (fail)
            go_wp2_with fail
            go_roundw
            case rel => exact ⟨⟨_, rfl⟩, ⟨0 + 1, F', by go_num, by first | rfl | go_num, hlt, HN3⟩, hide (below_drewN (unhide HBN) _)⟩
            case measure => simp [intOf]; omega
          · have HKP := hide (k_pos hj hkl hlt)
            rcases hp with rfl | rfl | rfl
            · have HN3 := hide (unhide HN2 (by rw [hpm]; rfl) (by decide))
              clear hF HN2 hpm hj HVP HVF HVA HNX HPR2 hfr hkl i3
              obtain ⟨⟨k1, k6, k7, k8, k9⟩, k2, k3, k4, k5, k10, k11⟩ := unhide HKP
              obtain ⟨p0, p1, p2⟩ := unhide P0
              obtain ⟨w1, w2, w3⟩ := unhide W1
              go_upto_region 16 with fail
              go_quiet (fail)
              go_wp2_with fail
              go_roundw
              case rel => exact ⟨⟨_, rfl⟩, ⟨k + 1, F', by go_num, by first | rfl | go_num, hlt, HN3⟩, hide (below_drewN (unhide HBN) _)⟩
              case measure => simp [intOf]; omega
            · have HN3 := hide (unhide HN2 (by rw [hpm]; rfl) (by decide))
              clear hF HN2 hpm hj HVP HVF HVA HNX HPR2 hfr hkl i3
              obtain ⟨⟨k1, k6, k7, k8, k9⟩, k2, k3, k4, k5, k10, k11⟩ := unhide HKP
              obtain ⟨p0, p1, p2⟩ := unhide P0
              obtain ⟨w1, w2, w3⟩ := unhide W1
              go_upto_region 16 with fail
              go_quiet (fail)
              go_wp2_with fail
              go_roundw
              case rel => exact ⟨⟨_, rfl⟩, ⟨k + 1, F', by go_num, by first | rfl | go_num, hlt, HN3⟩, hide (below_drewN (unhide HBN) _)⟩
              case measure => simp [intOf]; omega
            · have HV2 : Hid (V = false) := hide (unhide HVA (by rw [hpm]; rfl))
              clear hF HN2 hpm hj HVP HVF HVA HNX HPR2 hfr hkl i3
              obtain ⟨⟨k1, k6, k7, k8, k9⟩, k2, k3, k4, k5, k10, k11⟩ := unhide HKP
              obtain ⟨p0, p1, p2⟩ := unhide P0
              obtain ⟨w1, w2, w3⟩ := unhide W1
              go_upto_region 16 with fail
              go_quiet (fail)
              go_wp2_with fail
              rw [unhide HV2]
              refine bodyPost_ret (results_tmp rfl _ _ _) rfl ⟨rfl, below_drewN (unhide HBN) _⟩
      · have HV2 : Hid (V = false) := hide (unhide HVA (by rw [s4]; simp [apB]))
        clear HVP HVF HVA HNX HPR2 hfr hkl i3 s4
        go_wp2_with fail
        rw [unhide HV2]
        refine bodyPost_ret (results_tmp rfl _ _ _) rfl ⟨rfl, unhide HBN⟩
    · obtain rfl : k = d.length := by omega
      have t1 : decide ((d.length : Int) < (d.length : Int)) = false := decide_eq_false (by omega)
      obtain ⟨i1, i3, i5, i6, i7⟩ := unhide HI
      rw [List.take_length] at i1 i5
      rw [List.drop_length] at i6
      have HL := hide (lens14W_at a c d wr (unhide HO wr (unhide HB)) hl (pl_of i5 i6) (by omega))
      have HV2 : Hid (V = decide (wrap64 (toD d : Int) ≤ 268435456)) := hide (by
        rw [unhide HV, vW, i5, i6, show decide (frD d ≤ 268435456) = true from decide_eq_true (by omega)]
        simp only [apL, Bool.true_and])
      have q1 : decide ((f : Int) ≤ 268435456) = true := decide_eq_true (by omega)
      rw [← i1] at HL
      clear HI hk i1 i3 i5 i6 i7
      generalize wrap64 (toD d : Int) = E at *
      go_wp2_with fail
      refine (unhide HL).mono ?_
      rintro y w1 ⟨rfl, x1⟩
      dsimp only
      have HX := hide ((unhide HB).trans (x1.mono (unhide HB).size))
      clear HL x1 HB
      rcases le_casesI E with ⟨q2, q3⟩ | ⟨q2, q3⟩
      · have HV3 : Hid (V = false) := hide (by rw [unhide HV2]; exact decide_eq_false q2)
        clear q2 HV2
        go_wp2_with fail
        rw [unhide HV3]
        refine bodyPost_ret (results_tmp rfl _ _ _) rfl ⟨rfl, unhide HX⟩
      · have HV3 : Hid (V = true) := hide (by rw [unhide HV2]; exact decide_eq_true q2)
        clear q2 HV2
        go_wp2_with fail
        rw [unhide HV3]
        refine bodyPost_ret (results_tmp rfl _ _ _) rfl ⟨rfl, unhide HX⟩

theorem RValid14V_at (a : Option Addr) (c : Nat) (d : List Dop) (w : World) (h : IsO w a d) (hl : d.length ≤ 4611686018427387904) (ht : vW d = valB d) :
    Calls Try.prog 73 #[.slice a d.length c] w fun y w' => y = .returned (.bool (valB d)) ∧ Below w.heap.size w w' := by
  have := RValid14W_at a c d w h hl
  rw [ht] at this
  exact this

end Go.Proofs.Ytkmbkoajbmlgaaa
