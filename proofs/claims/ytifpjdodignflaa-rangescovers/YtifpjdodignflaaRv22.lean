/- Layer 13, the document's Valid. -/
import Derived.Test.YtifpjdodignflaaRv21
import Derived.Deep.QuietTactic
import Derived.BigQuiet
import Derived.WalkSmall

namespace Go.Proofs.Ytifpjdodignflaa
open Go.ChangeShapes Go.WideShapes Go.ChangeAt Go.RowKit
attribute [local go_sem] Oper.semAt_some

theorem val_pl {d : List Dop} (h : d.all plB = false) : valB d = false := by unfold valB; rw [h]; rfl
theorem val_ap {d : List Dop} (h : apL 7 d = false) : valB d = false := by unfold valB; rw [h]; cases d.all plB <;> rfl
theorem val_lo {d : List Dop} (h : 268435456 < frD d ∨ 268435456 < toD d) : valB d = false := by
  unfold valB; rw [show lonB d = true from decide_eq_true h]; cases d.all plB <;> cases apL 7 d <;> rfl
/-- the tests of one operation that keeps or drops -/
theorem kd_cases (n : Int) (t : List Int) : (n < 1 ∧ decide (n < 1) = true) ∨ (¬ n < 1 ∧ 268435456 < n ∧ decide (n < 1) = false ∧ decide (n > 268435456) = true ∧ decide (268435456 < n) = true) ∨
    (¬ n < 1 ∧ t.isEmpty = false ∧ decide (n < 1) = false ∧ decide (n > 268435456) = false ∧ decide (268435456 < n) = false) ∨
    (¬ n < 1 ∧ n ≤ 268435456 ∧ t.isEmpty = true ∧ decide (n < 1) = false ∧ decide (n > 268435456) = false ∧ decide (268435456 < n) = false) := by
  by_cases h1 : n < 1
  · exact .inl ⟨h1, decide_eq_true h1⟩
  by_cases h2 : 268435456 < n
  · exact .inr (.inl ⟨h1, h2, decide_eq_false h1, decide_eq_true h2, decide_eq_true h2⟩)
  cases h3 : t.isEmpty with
  | false => exact .inr (.inr (.inl ⟨h1, rfl, decide_eq_false h1, decide_eq_false h2, decide_eq_false h2⟩))
  | true => exact .inr (.inr (.inr ⟨h1, by omega, rfl, decide_eq_false h1, decide_eq_false h2, decide_eq_false h2⟩))
theorem put_cases (n : Int) (t : List Int) : (¬ n = 0 ∧ (n != 0) = true) ∨ (n = 0 ∧ (n != 0) = false ∧ t.isEmpty = true) ∨ (n = 0 ∧ (n != 0) = false ∧ t.isEmpty = false) := by
  by_cases h1 : n = 0
  · cases h3 : t.isEmpty with
    | true => exact .inr (.inl ⟨h1, by simp [h1], rfl⟩)
    | false => exact .inr (.inr ⟨h1, by simp [h1], rfl⟩)
  · exact .inl ⟨h1, by simpa using h1⟩
theorem kind_cases (k : Int) : k = 1 ∨ k = 2 ∨ k = 3 ∨ (¬ k = 1 ∧ ¬ k = 2 ∧ ¬ k = 3 ∧ (k == 1) = false ∧ (k == 2) = false ∧ (k == 3) = false ∧ thisN k = 0) := by
  by_cases h1 : k = 1
  · exact .inl h1
  by_cases h2 : k = 2
  · exact .inr (.inl h2)
  by_cases h3 : k = 3
  · exact .inr (.inr (.inl h3))
  refine .inr (.inr (.inr ⟨h1, h2, h3, by simpa using h1, by simpa using h2, by simpa using h3, ?_⟩))
  unfold thisN; simp [h1, h2, h3]
def prM (d : List Dop) (k : Nat) : Int := if k = 0 then 7 else nextN (d.getD (k - 1) opZ).k
theorem prM_s (d : List Dop) (k : Nat) : prM d (k + 1) = nextN (d.getD k opZ).k := by simp [prM]
theorem k_pos {k j n : Nat} (h : k = j + 1) (hl : k < 4611686018427387904) (hn : k < n) : (0 < k ∧ decide (0 < k) = true ∧ decide ((0 : Int) < (k : Int)) = true ∧ decide ((k : Int) > 0) = true ∧ (0 : Int) < (k : Int)) ∧ (j : Int) < (n : Int) ∧ (k : Int) < (n : Int) ∧ (0 : Int) ≤ (j : Int) ∧ wrap64 ((k : Int) - 1) = (j : Int) ∧ (k : Int) - 1 = (j : Int) ∧ wrap64 (j : Int) = (j : Int) :=
  ⟨⟨by omega, decide_eq_true (by omega), decide_eq_true (by omega), decide_eq_true (by omega), by omega⟩, by omega, by omega, by omega, by rw [wrapD _ (by omega) (by omega)]; omega, by omega, wrapD _ (by omega) (by omega)⟩
def VaI (d : List Dop) (k f t : Nat) : Prop := f = frD (d.take k) ∧ t = toD (d.take k) ∧ f ≤ 268435456 ∧ t ≤ 268435456 ∧ (d.take k).all plB = true ∧ apL 7 d = apL (prM d k) (d.drop k) ∧ (k = 0 ∨ (d.getD (k - 1) opZ).k = 1 ∨ (d.getD (k - 1) opZ).k = 2 ∨ (d.getD (k - 1) opZ).k = 3)
set_option maxRecDepth 100000 in
set_option maxHeartbeats 8000000 in
theorem RValid_at (a : Option Addr) (c : Nat) (d : List Dop) (w : World) (h : IsO w a d) (hl : d.length ≤ 4611686018427387904) (ht : ∀ o ∈ d, o.t.length ≤ 140737488355328) :
    Calls Try.prog 43 #[.slice a d.length c] w fun y w' => y = .returned (.bool (valB d)) ∧ Below w.heap.size w w' := by
  have HO := hide fun (X : World) (hx : Below w.heap.size w X) => h.below hx (Nat.le_refl _)
  have HT := hide ht
  obtain ⟨V, hV⟩ : ∃ V, V = valB d := ⟨_, rfl⟩
  rw [← hV]
  have HV := hide hV
  clear h ht hV
  go_enter Try.func43, Try.ntmps43
  go_wp2_with fail
  go_loopw [3, 4, 5, 6] (fun v3 v4 v5 v6 wx => (∃ z, v6 = z) ∧ (∃ (k f t : Nat), v5 = .int .i64 (k : Int) ∧ v3 = .int .i64 (f : Int) ∧ v4 = .int .i64 (t : Int) ∧ k ≤ d.length ∧ Hid (VaI d k f t)) ∧ Hid (Below w.heap.size w wx)) (fun _ _ v5 _ _ => d.length - (intOf v5).toNat)
  case atStart => exact ⟨⟨_, rfl⟩, ⟨0, 0, 0, rfl, rfl, rfl, Nat.zero_le _, hide ⟨rfl, rfl, by omega, by omega, rfl, rfl, .inl rfl⟩⟩, hide (Below.refl _ _)⟩
  case round =>
    obtain ⟨⟨z1, rfl⟩, ⟨k, f, t, rfl, rfl, rfl, hk, HI⟩, HB⟩ := hrel
    by_cases hlt : k < d.length
    · have t1 : decide ((k : Int) < (d.length : Int)) = true := decide_eq_true (by omega)
      obtain ⟨g, off, ha, hg, c0, c1, c2⟩ := (unhide HO wr (unhide HB)).three hlt
      have HPC : Hid (∀ j, k = j + 1 → j < d.length ∧ wr.cell? ⟨g, off + j * 3, none⟩ = some (.int .i64 (d.getD j opZ).k)) := hide fun j hj => by
        obtain ⟨g', off', ha', _, e0, _⟩ := (unhide HO wr (unhide HB)).three (k := j) (by omega)
        rw [ha] at ha'; cases ha'
        exact ⟨by omega, e0⟩
      subst ha
      obtain ⟨i1, i2, i3, i4, i5, i6, i7⟩ := unhide HI
      have htl := unhide HT _ (getD_memD hlt)
      have hfr := frD_take d hlt
      have hto := toD_take d hlt
      have hle := frD_le d (k + 1)
      rw [← i1] at hfr
      rw [← i2] at hto
      have HAP := apL_at hlt (prM d k)
      rw [← i6] at HAP
      have HVP : Hid (plB (d.getD k opZ) = false → V = false) := hide fun h1 => by rw [unhide HV]; exact val_pl (all_no d plB hlt h1)
      have HVF : Hid (268435456 < frD (d.take (k + 1)) ∨ 268435456 < toD (d.take (k + 1)) → V = false) := hide fun h1 => by rw [unhide HV]; exact val_lo (by omega)
      have HVA : Hid (apB (prM d k) (thisN (d.getD k opZ).k) = false → V = false) := hide fun h1 => by rw [unhide HV]; refine val_ap ?_; rw [HAP, h1]; rfl
      have HNX : Hid (∀ F T : Nat, F = frD (d.take (k + 1)) → T = toD (d.take (k + 1)) → F ≤ 268435456 → T ≤ 268435456 → plB (d.getD k opZ) = true → apB (prM d k) (thisN (d.getD k opZ).k) = true → ((d.getD k opZ).k = 1 ∨ (d.getD k opZ).k = 2 ∨ (d.getD k opZ).k = 3) →
VaI d (k + 1) F T) := hide fun F T h1 h2 h3 h4 h5 h6 h7 =>
        ⟨h1, h2, h3, h4, by rw [all_take d plB hlt, i5, h5]; rfl, by rw [HAP, h6, prM_s]; rfl, .inr (by simpa using h7)⟩
      have HPR : Hid (k = 0 ∧ prM d k = 7 ∨ ∃ (j : Nat) (p : Int), k = j + 1 ∧ j < d.length ∧ wr.cell? ⟨g, off + j * 3, none⟩ = some (.int .i64 p) ∧ prM d k = nextN p ∧ (p = 1 ∨ p = 2 ∨ p = 3)) := hide (by
        cases k with
        | zero => exact .inl ⟨rfl, rfl⟩
        | succ j =>
          obtain ⟨h1, h2⟩ := unhide HPC j rfl
          rcases i7 with i7 | i7
          · omega
          · exact .inr ⟨j, _, rfl, h1, h2, prM_s d j, by simpa using i7⟩)
      have hkl : k < 4611686018427387904 := by omega
      clear HI HPC i1 i2 i5 i6 i7 HAP hle hk
      generalize prM d k = pm at *
      generalize prM d (k + 1) = pn at *
      generalize frD (d.take (k + 1)) = F' at *
      generalize toD (d.take (k + 1)) = T' at *
      generalize (d.take (k + 1)).all plB = al at *
      generalize d.getD k opZ = x at *
      obtain ⟨xk, xn, xt⟩ := x
      dsimp only at c0 c1 c2 htl HVA HNX
      have hsz := strOfNums_size xt
      have hem := str_empD xt
      have HVD : Hid (Below w.heap.size w wr ∧ Below w.heap.size w wr.drew) := hide ⟨unhide HB, (unhide HB).drew⟩
      rcases kind_cases xk with rfl | rfl | rfl | ⟨_, _, _, s1, s2, s3, s4⟩
      · rcases kd_cases xn xt with ⟨h1, s1⟩ | ⟨h1, h2, s1, s2, s3⟩ | ⟨h1, h2, s1, s2, s3⟩ | ⟨h1, h2, h3, s1, s2, s3⟩
        · have HV2 : Hid (V = false) := hide (unhide HVP (by unfold plB; simp; omega))
          clear HVP HVF HVA HNX HPR hfr hto htl hkl i3 i4 h1
          go_wp2_with fail
          rw [unhide HV2]
          refine bodyPost_ret (results_tmp rfl _ _ _) rfl ⟨rfl, unhide HB⟩
        · have HV2 : Hid (V = false) := hide (unhide HVF (.inl (by rw [hfr]; simp [frN]; omega)))
          clear HVP HVF HVA HNX HPR hfr hto htl hkl i3 i4 h1 h2
          go_wp2_with fail
          rw [unhide HV2]
          refine bodyPost_ret (results_tmp rfl _ _ _) rfl ⟨rfl, unhide HB⟩
        · have HV2 : Hid (V = false) := hide (unhide HVP (by unfold plB; simp [h2]))
          rw [← hem] at h2
          clear hem hsz
          generalize strOfNums xt = st at *
          clear HVP HVF HVA HNX HPR hfr hto htl hkl i3 i4 h1
          go_wp2_with fail
          rw [unhide HV2]
          refine bodyPost_ret (results_tmp rfl _ _ _) rfl ⟨rfl, unhide HB⟩
        · obtain ⟨m, rfl⟩ : ∃ m : Nat, xn = (m : Int) := ⟨xn.toNat, by omega⟩
          have HPL : Hid (plB ⟨1, (m : Int), xt⟩ = true) := hide (by unfold plB; simp [h3]; omega)
          rw [show frN ⟨1, (m : Int), xt⟩ = m by simp [frN]] at hfr
          rw [show toN ⟨1, (m : Int), xt⟩ = m by simp [toN]] at hto
          have W1 := hide (ca_k i3 (by omega) hfr)
          have W2 := hide (ca_k i4 (by omega) hto)
          rw [← hem] at h3
          clear h1 h2 hem hsz
          by_cases hF : 268435456 < F'
          · have HV2 : Hid (V = false) := hide (unhide HVF (.inl hF))
            obtain ⟨p0, p1, p2⟩ := big_t hF
            clear hF HVP HVF HVA HNX HPR hfr hto htl hkl i3 i4
            obtain ⟨w1, w2, w3⟩ := unhide W1
            obtain ⟨w4, w5, w6⟩ := unhide W2
            go_wp2_with fail
            rw [unhide HV2]
            refine bodyPost_ret (results_tmp rfl _ _ _) rfl ⟨rfl, unhide HB⟩
          by_cases hT : 268435456 < T'
          · have HV2 : Hid (V = false) := hide (unhide HVF (.inr hT))
            obtain ⟨p0, p1, p2⟩ := big_f hF
            obtain ⟨r0, r1, r2⟩ := big_t hT
            clear hF hT HVP HVF HVA HNX HPR hfr hto htl hkl i3 i4
            obtain ⟨w1, w2, w3⟩ := unhide W1
            obtain ⟨w4, w5, w6⟩ := unhide W2
            go_wp2_with fail
            rw [unhide HV2]
            refine bodyPost_ret (results_tmp rfl _ _ _) rfl ⟨rfl, unhide HB⟩
          have HN2 := hide (unhide HNX F' T' rfl rfl (Nat.not_lt.1 hF) (Nat.not_lt.1 hT) (unhide HPL))
          have P0 := hide (big_f hF)
          have R0 := hide (big_f hT)
          rcases unhide HPR with ⟨hk0, hpm⟩ | ⟨j, p, hj, hjl, cp, hpm, hp⟩
          · subst hk0
            simp only [Nat.zero_mul, Nat.add_zero] at c0 c1 c2
            have HN3 := hide (unhide HN2 (by rw [hpm]; rfl) (by decide))
            clear hF hT HN2 hpm HVP HVF HVA HNX HPR hfr hto htl hkl i3 i4
            obtain ⟨p0, p1, p2⟩ := unhide P0
            obtain ⟨r0, r1, r2⟩ := unhide R0
            obtain ⟨w1, w2, w3⟩ := unhide W1
            obtain ⟨w4, w5, w6⟩ := unhide W2
            go_upto_region 21 with fail
            go_quiet (fail)
            go_wp2_with fail
            go_roundw
            case rel => exact ⟨⟨_, rfl⟩, ⟨0 + 1, F', T', by go_num, by first | rfl | go_num, by first | rfl | go_num, hlt, HN3⟩, hide (below_drewN (unhide HB) _)⟩
            case measure => simp [intOf]; omega
          · have HKP := hide (k_pos hj hkl hlt)
            rcases hp with rfl | rfl | rfl
            · have HV2 : Hid (V = false) := hide (unhide HVA (by rw [hpm]; rfl))
              clear hF hT HN2 hpm hj HVP HVF HVA HNX HPR hfr hto htl hkl i3 i4
              obtain ⟨⟨k1, k6, k7, k8, k9⟩, k2, k3, k4, k5, k10, k11⟩ := unhide HKP
              obtain ⟨p0, p1, p2⟩ := unhide P0
              obtain ⟨r0, r1, r2⟩ := unhide R0
              obtain ⟨w1, w2, w3⟩ := unhide W1
              obtain ⟨w4, w5, w6⟩ := unhide W2
              go_upto_region 21 with fail
              go_quiet (fail)
              go_wp2_with fail
              rw [unhide HV2]
              refine bodyPost_ret (results_tmp rfl _ _ _) rfl ⟨rfl, below_drewN (unhide HB) _⟩
            · have HN3 := hide (unhide HN2 (by rw [hpm]; rfl) (by decide))
              clear hF hT HN2 hpm hj HVP HVF HVA HNX HPR hfr hto htl hkl i3 i4
              obtain ⟨⟨k1, k6, k7, k8, k9⟩, k2, k3, k4, k5, k10, k11⟩ := unhide HKP
              obtain ⟨p0, p1, p2⟩ := unhide P0
              obtain ⟨r0, r1, r2⟩ := unhide R0
              obtain ⟨w1, w2, w3⟩ := unhide W1
              obtain ⟨w4, w5, w6⟩ := unhide W2
              go_upto_region 21 with fail
              go_quiet (fail)
              go_wp2_with fail
              go_roundw
              case rel => exact ⟨⟨_, rfl⟩, ⟨k + 1, F', T', by go_num, by first | rfl | go_num, by first | rfl | go_num, hlt, HN3⟩, hide (below_drewN (unhide HB) _)⟩
              case measure => simp [intOf]; omega
            · have HN3 := hide (unhide HN2 (by rw [hpm]; rfl) (by decide))
              clear hF hT HN2 hpm hj HVP HVF HVA HNX HPR hfr hto htl hkl i3 i4
              obtain ⟨⟨k1, k6, k7, k8, k9⟩, k2, k3, k4, k5, k10, k11⟩ := unhide HKP
              obtain ⟨p0, p1, p2⟩ := unhide P0
              obtain ⟨r0, r1, r2⟩ := unhide R0
              obtain ⟨w1, w2, w3⟩ := unhide W1
              obtain ⟨w4, w5, w6⟩ := unhide W2
              go_upto_region 21 with fail
              go_quiet (fail)
              go_wp2_with fail
              go_roundw
              case rel => exact ⟨⟨_, rfl⟩, ⟨k + 1, F', T', by go_num, by first | rfl | go_num, by first | rfl | go_num, hlt, HN3⟩, hide (below_drewN (unhide HB) _)⟩
              case measure => simp [intOf]; omega
      · rcases put_cases xn xt with ⟨h1, s1⟩ | ⟨h1, s1, s2⟩ | ⟨rfl, s1, s2⟩
        · have HV2 : Hid (V = false) := hide (unhide HVP (by unfold plB; simp [h1]))
          clear HVP HVF HVA HNX HPR hfr hto htl hkl i3 i4 h1
          go_wp2_with fail
          rw [unhide HV2]
          refine bodyPost_ret (results_tmp rfl _ _ _) rfl ⟨rfl, unhide HB⟩
        · have HV2 : Hid (V = false) := hide (unhide HVP (by unfold plB; simp [s2]))
          rw [← hem] at s2
          clear hem hsz
          generalize strOfNums xt = st at *
          clear HVP HVF HVA HNX HPR hfr hto htl hkl i3 i4 h1
          go_wp2_with fail
          rw [unhide HV2]
          refine bodyPost_ret (results_tmp rfl _ _ _) rfl ⟨rfl, unhide HB⟩
        · have HPL : Hid (plB ⟨2, 0, xt⟩ = true) := hide (by unfold plB; simp [s2])
          rw [show frN ⟨2, 0, xt⟩ = 0 by simp [frN]] at hfr
          rw [show toN ⟨2, 0, xt⟩ = xt.length by simp [toN]] at hto
          obtain rfl : F' = f := by omega
          have W1 := hide (ca_0 i3)
          have W2 := hide (ca_k i4 htl hto)
          rw [← hem] at s2
          clear hem
          by_cases hF : 268435456 < F'
          · have HV2 : Hid (V = false) := hide (unhide HVF (.inl hF))
            obtain ⟨p0, p1, p2⟩ := big_t hF
            clear hF HVP HVF HVA HNX HPR hfr hto htl hkl i3 i4
            obtain ⟨w1, w2⟩ := unhide W1
            obtain ⟨w4, w5, w6⟩ := unhide W2
            go_wp2_with fail
            rw [unhide HV2]
            refine bodyPost_ret (results_tmp rfl _ _ _) rfl ⟨rfl, unhide HB⟩
          by_cases hT : 268435456 < T'
          · have HV2 : Hid (V = false) := hide (unhide HVF (.inr hT))
            obtain ⟨p0, p1, p2⟩ := big_f hF
            obtain ⟨r0, r1, r2⟩ := big_t hT
            clear hF hT HVP HVF HVA HNX HPR hfr hto htl hkl i3 i4
            obtain ⟨w1, w2⟩ := unhide W1
            obtain ⟨w4, w5, w6⟩ := unhide W2
            go_wp2_with fail
            rw [unhide HV2]
            refine bodyPost_ret (results_tmp rfl _ _ _) rfl ⟨rfl, unhide HB⟩
          have HN2 := hide (unhide HNX F' T' rfl rfl (Nat.not_lt.1 hF) (Nat.not_lt.1 hT) (unhide HPL))
          have P0 := hide (big_f hF)
          have R0 := hide (big_f hT)
          rcases unhide HPR with ⟨hk0, hpm⟩ | ⟨j, p, hj, hjl, cp, hpm, hp⟩
          · subst hk0
            simp only [Nat.zero_mul, Nat.add_zero] at c0 c1 c2
            have HN3 := hide (unhide HN2 (by rw [hpm]; rfl) (by decide))
            clear hF hT HN2 hpm HVP HVF HVA HNX HPR hfr hto htl hkl i3 i4
            obtain ⟨p0, p1, p2⟩ := unhide P0
            obtain ⟨r0, r1, r2⟩ := unhide R0
            obtain ⟨w1, w2⟩ := unhide W1
            obtain ⟨w4, w5, w6⟩ := unhide W2
            go_upto_region 21 with fail
            go_quiet (fail)
            go_wp2_with fail
            go_roundw
            case rel => exact ⟨⟨_, rfl⟩, ⟨0 + 1, F', T', by go_num, by first | rfl | go_num, by first | rfl | go_num, hlt, HN3⟩, hide (below_drewN (unhide HB) _)⟩
            case measure => simp [intOf]; omega
          · have HKP := hide (k_pos hj hkl hlt)
            rcases hp with rfl | rfl | rfl
            · have HN3 := hide (unhide HN2 (by rw [hpm]; rfl) (by decide))
              clear hF hT HN2 hpm hj HVP HVF HVA HNX HPR hfr hto htl hkl i3 i4
              obtain ⟨⟨k1, k6, k7, k8, k9⟩, k2, k3, k4, k5, k10, k11⟩ := unhide HKP
              obtain ⟨p0, p1, p2⟩ := unhide P0
              obtain ⟨r0, r1, r2⟩ := unhide R0
              obtain ⟨w1, w2⟩ := unhide W1
              obtain ⟨w4, w5, w6⟩ := unhide W2
              go_upto_region 21 with fail
              go_quiet (fail)
              go_wp2_with fail
              go_roundw
              case rel => exact ⟨⟨_, rfl⟩, ⟨k + 1, F', T', by go_num, by first | rfl | go_num, by first | rfl | go_num, hlt, HN3⟩, hide (below_drewN (unhide HB) _)⟩
              case measure => simp [intOf]; omega
            · have HV2 : Hid (V = false) := hide (unhide HVA (by rw [hpm]; rfl))
              clear hF hT HN2 hpm hj HVP HVF HVA HNX HPR hfr hto htl hkl i3 i4
              obtain ⟨⟨k1, k6, k7, k8, k9⟩, k2, k3, k4, k5, k10, k11⟩ := unhide HKP
              obtain ⟨p0, p1, p2⟩ := unhide P0
              obtain ⟨r0, r1, r2⟩ := unhide R0
              obtain ⟨w1, w2⟩ := unhide W1
              obtain ⟨w4, w5, w6⟩ := unhide W2
              go_upto_region 21 with fail
              go_quiet (fail)
              go_wp2_with fail
              rw [unhide HV2]
              refine bodyPost_ret (results_tmp rfl _ _ _) rfl ⟨rfl, below_drewN (unhide HB) _⟩
            · have HV2 : Hid (V = false) := hide (unhide HVA (by rw [hpm]; rfl))
              clear hF hT HN2 hpm hj HVP HVF HVA HNX HPR hfr hto htl hkl i3 i4
              obtain ⟨⟨k1, k6, k7, k8, k9⟩, k2, k3, k4, k5, k10, k11⟩ := unhide HKP
              obtain ⟨p0, p1, p2⟩ := unhide P0
              obtain ⟨r0, r1, r2⟩ := unhide R0
              obtain ⟨w1, w2⟩ := unhide W1
              obtain ⟨w4, w5, w6⟩ := unhide W2
              go_upto_region 21 with fail
              go_quiet (fail)
              go_wp2_with fail
              rw [unhide HV2]
              refine bodyPost_ret (results_tmp rfl _ _ _) rfl ⟨rfl, below_drewN (unhide HB) _⟩
      · rcases kd_cases xn xt with ⟨h1, s1⟩ | ⟨h1, h2, s1, s2, s3⟩ | ⟨h1, h2, s1, s2, s3⟩ | ⟨h1, h2, h3, s1, s2, s3⟩
        · have HV2 : Hid (V = false) := hide (unhide HVP (by unfold plB; simp; omega))
          clear HVP HVF HVA HNX HPR hfr hto htl hkl i3 i4 h1
          go_wp2_with fail
          rw [unhide HV2]
          refine bodyPost_ret (results_tmp rfl _ _ _) rfl ⟨rfl, unhide HB⟩
        · have HV2 : Hid (V = false) := hide (unhide HVF (.inl (by rw [hfr]; simp [frN]; omega)))
          clear HVP HVF HVA HNX HPR hfr hto htl hkl i3 i4 h1 h2
          go_wp2_with fail
          rw [unhide HV2]
          refine bodyPost_ret (results_tmp rfl _ _ _) rfl ⟨rfl, unhide HB⟩
        · have HV2 : Hid (V = false) := hide (unhide HVP (by unfold plB; simp [h2]))
          rw [← hem] at h2
          clear hem hsz
          generalize strOfNums xt = st at *
          clear HVP HVF HVA HNX HPR hfr hto htl hkl i3 i4 h1
          go_wp2_with fail
          rw [unhide HV2]
          refine bodyPost_ret (results_tmp rfl _ _ _) rfl ⟨rfl, unhide HB⟩
        · obtain ⟨m, rfl⟩ : ∃ m : Nat, xn = (m : Int) := ⟨xn.toNat, by omega⟩
          have HPL : Hid (plB ⟨3, (m : Int), xt⟩ = true) := hide (by unfold plB; simp [h3]; omega)
          rw [show frN ⟨3, (m : Int), xt⟩ = m by simp [frN]] at hfr
          rw [show toN ⟨3, (m : Int), xt⟩ = 0 by simp [toN]] at hto
          have W1 := hide (ca_k i3 (by omega) hfr)
          obtain rfl : T' = t := by omega
          have W2 := hide (ca_0 i4)
          rw [← hem] at h3
          clear h1 h2 hem hsz
          by_cases hF : 268435456 < F'
          · have HV2 : Hid (V = false) := hide (unhide HVF (.inl hF))
            obtain ⟨p0, p1, p2⟩ := big_t hF
            clear hF HVP HVF HVA HNX HPR hfr hto htl hkl i3 i4
            obtain ⟨w1, w2, w3⟩ := unhide W1
            obtain ⟨w4, w5⟩ := unhide W2
            go_wp2_with fail
            rw [unhide HV2]
            refine bodyPost_ret (results_tmp rfl _ _ _) rfl ⟨rfl, unhide HB⟩
          by_cases hT : 268435456 < T'
          · have HV2 : Hid (V = false) := hide (unhide HVF (.inr hT))
            obtain ⟨p0, p1, p2⟩ := big_f hF
            obtain ⟨r0, r1, r2⟩ := big_t hT
            clear hF hT HVP HVF HVA HNX HPR hfr hto htl hkl i3 i4
            obtain ⟨w1, w2, w3⟩ := unhide W1
            obtain ⟨w4, w5⟩ := unhide W2
            go_wp2_with fail
            rw [unhide HV2]
            refine bodyPost_ret (results_tmp rfl _ _ _) rfl ⟨rfl, unhide HB⟩
          have HN2 := hide (unhide HNX F' T' rfl rfl (Nat.not_lt.1 hF) (Nat.not_lt.1 hT) (unhide HPL))
          have P0 := hide (big_f hF)
          have R0 := hide (big_f hT)
          rcases unhide HPR with ⟨hk0, hpm⟩ | ⟨j, p, hj, hjl, cp, hpm, hp⟩
          · subst hk0
            simp only [Nat.zero_mul, Nat.add_zero] at c0 c1 c2
            have HN3 := hide (unhide HN2 (by rw [hpm]; rfl) (by decide))
            clear hF hT HN2 hpm HVP HVF HVA HNX HPR hfr hto htl hkl i3 i4
            obtain ⟨p0, p1, p2⟩ := unhide P0
            obtain ⟨r0, r1, r2⟩ := unhide R0
            obtain ⟨w1, w2, w3⟩ := unhide W1
            obtain ⟨w4, w5⟩ := unhide W2
            go_upto_region 21 with fail
            go_quiet (fail)
            go_wp2_with fail
            go_roundw
            case rel => exact ⟨⟨_, rfl⟩, ⟨0 + 1, F', T', by go_num, by first | rfl | go_num, by first | rfl | go_num, hlt, HN3⟩, hide (below_drewN (unhide HB) _)⟩
            case measure => simp [intOf]; omega
          · have HKP := hide (k_pos hj hkl hlt)
            rcases hp with rfl | rfl | rfl
            · have HN3 := hide (unhide HN2 (by rw [hpm]; rfl) (by decide))
              clear hF hT HN2 hpm hj HVP HVF HVA HNX HPR hfr hto htl hkl i3 i4
              obtain ⟨⟨k1, k6, k7, k8, k9⟩, k2, k3, k4, k5, k10, k11⟩ := unhide HKP
              obtain ⟨p0, p1, p2⟩ := unhide P0
              obtain ⟨r0, r1, r2⟩ := unhide R0
              obtain ⟨w1, w2, w3⟩ := unhide W1
              obtain ⟨w4, w5⟩ := unhide W2
              go_upto_region 21 with fail
              go_quiet (fail)
              go_wp2_with fail
              go_roundw
              case rel => exact ⟨⟨_, rfl⟩, ⟨k + 1, F', T', by go_num, by first | rfl | go_num, by first | rfl | go_num, hlt, HN3⟩, hide (below_drewN (unhide HB) _)⟩
              case measure => simp [intOf]; omega
            · have HN3 := hide (unhide HN2 (by rw [hpm]; rfl) (by decide))
              clear hF hT HN2 hpm hj HVP HVF HVA HNX HPR hfr hto htl hkl i3 i4
              obtain ⟨⟨k1, k6, k7, k8, k9⟩, k2, k3, k4, k5, k10, k11⟩ := unhide HKP
              obtain ⟨p0, p1, p2⟩ := unhide P0
              obtain ⟨r0, r1, r2⟩ := unhide R0
              obtain ⟨w1, w2, w3⟩ := unhide W1
              obtain ⟨w4, w5⟩ := unhide W2
              go_upto_region 21 with fail
              go_quiet (fail)
              go_wp2_with fail
              go_roundw
              case rel => exact ⟨⟨_, rfl⟩, ⟨k + 1, F', T', by go_num, by first | rfl | go_num, by first | rfl | go_num, hlt, HN3⟩, hide (below_drewN (unhide HB) _)⟩
              case measure => simp [intOf]; omega
            · have HV2 : Hid (V = false) := hide (unhide HVA (by rw [hpm]; rfl))
              clear hF hT HN2 hpm hj HVP HVF HVA HNX HPR hfr hto htl hkl i3 i4
              obtain ⟨⟨k1, k6, k7, k8, k9⟩, k2, k3, k4, k5, k10, k11⟩ := unhide HKP
              obtain ⟨p0, p1, p2⟩ := unhide P0
              obtain ⟨r0, r1, r2⟩ := unhide R0
              obtain ⟨w1, w2, w3⟩ := unhide W1
              obtain ⟨w4, w5⟩ := unhide W2
              go_upto_region 21 with fail
              go_quiet (fail)
              go_wp2_with fail
              rw [unhide HV2]
              refine bodyPost_ret (results_tmp rfl _ _ _) rfl ⟨rfl, below_drewN (unhide HB) _⟩
      · have HV2 : Hid (V = false) := hide (unhide HVA (by rw [s4]; simp [apB]))
        clear HVP HVF HVA HNX HPR hfr hto htl hkl i3 i4 s4
        go_wp2_with fail
        rw [unhide HV2]
        refine bodyPost_ret (results_tmp rfl _ _ _) rfl ⟨rfl, unhide HB⟩
    · obtain rfl : k = d.length := by omega
      have t1 : decide ((d.length : Int) < (d.length : Int)) = false := decide_eq_false (by omega)
      have HV2 : Hid (V = true) := hide (by
        obtain ⟨i1, i2, i3, i4, i5, i6, i7⟩ := unhide HI
        rw [List.take_length] at i1 i2 i5
        rw [List.drop_length] at i6
        rw [unhide HV, valB, i5, i6, show lonB d = false from decide_eq_false (by omega)]
        rfl)
      clear HI hk
      go_wp2_with fail
      rw [unhide HV2]
      refine bodyPost_ret (results_tmp rfl _ _ _) rfl ⟨rfl, unhide HB⟩

end Go.Proofs.Ytifpjdodignflaa
