/- Layer 14, the document's Valid (written by wip/tools/sgl.py). · Layer 14, plain: places behind changes. -/
import Derived.Test.YtfllomlighlejaaMo39
import Derived.Test.YtfllomlighlejaaMo26
import Derived.Test.YtfllomlighlejaaMo34

section
namespace Go.Proofs.Ytfllomlighlejaa
open Go.ChangeShapes Go.WideShapes Go.ChangeAt Go.RowKit
attribute [local go_sem] Oper.semAt_some

/-- how long the texts are that a delta puts -/
def txD (d : List Dop) : Nat := (d.map fun o => o.t.length).sum
theorem toD_tx (d : List Dop) : toD d ≤ frD d + txD d := by
  induction d with
  | nil => simp [toD, frD, txD]
  | cons o r ih =>
    have : toN o ≤ frN o + o.t.length := by
      unfold toN frN
      split
      · rename_i h; rw [if_pos (.inl h)]; omega
      · split <;> omega
    simp only [toD, frD, txD, List.map_cons, List.sum_cons] at ih ⊢
    omega
theorem txD_le {M : Nat} : ∀ {d : List Dop}, (∀ o ∈ d, o.t.length ≤ M) → txD d ≤ d.length * M
  | [], _ => by simp [txD]
  | o :: r, h => by
    have h1 := h o (by simp)
    have ih := txD_le (d := r) (fun x hx => h x (by simp [hx]))
    simp only [txD, List.map_cons, List.sum_cons, List.length_cons, Nat.add_mul, Nat.one_mul] at ih ⊢
    omega
theorem txD_val {d : List Dop} (hv : ∀ o ∈ d, PlO o) : txD d ≤ toD d := by
  induction d with
  | nil => simp [txD]
  | cons o r ih =>
    have ih := ih (fun x hx => hv x (by simp [hx]))
    have : o.t.length ≤ toN o := by
      rcases hv o (by simp) with ⟨_, _, h⟩ | ⟨h, _, _⟩
      · rw [h]; simp
      · unfold toN; rw [h]; simp
    simp only [toD, txD, List.map_cons, List.sum_cons] at ih ⊢
    omega
theorem pl_of {d : List Dop} (h1 : d.all plB = true) (h2 : apL 7 d = true) : ∀ o ∈ d, PlO o := fun o ho => by
  have hk := apL_kinds 7 d h2 o ho
  have hp := List.all_eq_true.1 h1 o ho
  unfold plB at hp
  rcases hk with h1 | h1 | h1
  · simp [h1] at hp; exact .inl ⟨.inl h1, hp.2, hp.1⟩
  · simp [h1] at hp; exact .inr ⟨h1, hp.2, hp.1⟩
  · simp [h1] at hp; exact .inl ⟨.inr h1, hp.2, hp.1⟩
def Va4 (d : List Dop) (k f : Nat) : Prop := f = frD (d.take k) ∧ f ≤ 268435456 ∧ (d.take k).all plB = true ∧ apL 7 d = apL (prM d k) (d.drop k) ∧ (k = 0 ∨ (d.getD (k - 1) opZ).k = 1 ∨ (d.getD (k - 1) opZ).k = 2 ∨ (d.getD (k - 1) opZ).k = 3)
theorem le_cases (m : Nat) : (268435456 < m ∧ decide ((m : Int) ≤ 268435456) = false) ∨ (m ≤ 268435456 ∧ decide ((m : Int) ≤ 268435456) = true) := by
  by_cases h : 268435456 < m
  · exact .inl ⟨h, decide_eq_false (by omega)⟩
  · exact .inr ⟨by omega, decide_eq_true (by omega)⟩
set_option maxRecDepth 100000 in
set_option maxHeartbeats 8000000 in
theorem RValid14_at (a : Option Addr) (c : Nat) (d : List Dop) (w : World) (h : IsO w a d) (hl : d.length ≤ 4611686018427387904) (ht : txD d ≤ 1099511627776) :
    Calls Try.prog 9 #[.slice a d.length c] w fun y w' => y = .returned (.bool (valB d)) ∧ Below w.heap.size w w' := by
  have HO := hide fun (X : World) (hx : Below w.heap.size w X) => h.below hx (Nat.le_refl _)
  obtain ⟨V, hV⟩ : ∃ V, V = valB d := ⟨_, rfl⟩
  rw [← hV]
  have HV := hide hV
  have HT := hide ht
  clear h hV ht
  go_enter Try.func9, Try.ntmps9
  go_wp2_with fail
  go_loopw [3, 4, 5] (fun v3 v4 v5 wx => (∃ z, v5 = z) ∧ (∃ (k f : Nat), v4 = .int .i64 (k : Int) ∧ v3 = .int .i64 (f : Int) ∧ k ≤ d.length ∧ Hid (Va4 d k f)) ∧ Hid (Below w.heap.size w wx)) (fun _ v4 _ _ => d.length - (intOf v4).toNat)
  case atStart => exact ⟨⟨_, rfl⟩, ⟨0, 0, rfl, rfl, Nat.zero_le _, hide ⟨rfl, by omega, rfl, rfl, .inl rfl⟩⟩, hide (Below.refl _ _)⟩
  case round =>
    obtain ⟨⟨z1, rfl⟩, ⟨k, f, rfl, rfl, hk, HI⟩, HB⟩ := hrel
    by_cases hlt : k < d.length
    · have t1 : decide ((k : Int) < (d.length : Int)) = true := decide_eq_true (by omega)
      obtain ⟨g, off, ha, hg, c0', c1', c2'⟩ := (unhide HO wr (unhide HB)).three hlt
      obtain ⟨i1, i3, i5, i6, i7⟩ := unhide HI
      have hfr := frD_take d hlt
      have hle := frD_le d (k + 1)
      rw [← i1] at hfr
      have HAP := apL_at hlt (prM d k)
      rw [← i6] at HAP
      have HVP : Hid (plB (d.getD k opZ) = false → V = false) := hide fun h1 => by rw [unhide HV]; exact val_pl (all_no d plB hlt h1)
      have HVF : Hid (268435456 < frD (d.take (k + 1)) → V = false) := hide fun h1 => by rw [unhide HV]; exact val_lo (by omega)
      have HVA : Hid (apB (prM d k) (thisN (d.getD k opZ).k) = false → V = false) := hide fun h1 => by rw [unhide HV]; refine val_ap ?_; rw [HAP, h1]; rfl
      have HNX : Hid (∀ F : Nat, F = frD (d.take (k + 1)) → F ≤ 268435456 → plB (d.getD k opZ) = true → apB (prM d k) (thisN (d.getD k opZ).k) = true → ((d.getD k opZ).k = 1 ∨ (d.getD k opZ).k = 2 ∨ (d.getD k opZ).k = 3) → Va4 d (k + 1) F) := hide fun F h1 h3 h5 h6 h7 =>
        ⟨h1, h3, by rw [all_take d plB hlt, i5, h5]; rfl, by rw [HAP, h6, prM_s]; rfl, .inr (by simpa using h7)⟩
      have HPR : Hid (∀ X, Below w.heap.size w X → k = 0 ∧ prM d k = 7 ∨ ∃ (j : Nat) (p : Int), k = j + 1 ∧ j < d.length ∧ X.cell? ⟨g, off + j * 3, none⟩ = some (.int .i64 p) ∧ prM d k = nextN p ∧ (p = 1 ∨ p = 2 ∨ p = 3)) := hide (fun X hX => by
        cases k with
        | zero => exact .inl ⟨rfl, rfl⟩
        | succ j =>
          obtain ⟨g', off', ha', _, e0, _⟩ := (unhide HO X hX).three (k := j) (by omega)
          rw [ha] at ha'; cases ha'
          rcases i7 with i7 | i7
          · omega
          · exact .inr ⟨j, _, rfl, by omega, e0, prM_s d j, by simpa using i7⟩)
      have hkl : k < 4611686018427387904 := by omega
      subst ha
      clear HI i1 i5 i6 i7 HAP hle hk
      generalize prM d k = pm at *
      generalize prM d (k + 1) = pn at *
      generalize frD (d.take (k + 1)) = F' at *
      generalize (d.take (k + 1)).all plB = al at *
      generalize d.getD k opZ = x at *
      obtain ⟨xk, xn, xt⟩ := x
      dsimp only at c0' c1' c2' HVA HNX
      have hsz := strOfNums_size xt
      have hem := str_empD xt
      have HBN := hide ((unhide HB).alloc (unhide HB).size (.cells #[.int .i64 xk, .int .i64 xn, .string (strOfNums xt)] 50))
      obtain ⟨d0, d1, d2⟩ := three_nwD wr (.int .i64 xk) (.int .i64 xn) (.string (strOfNums xt)) (t := 50)
      have HPR2 := hide (unhide HPR _ (unhide HBN))
      have hgo := hg
      clear HPR HB
      go_upto_region 6 with fail
      clear c0' c1' c2' t1
      generalize wr.alloc (.cells #[.int .i64 xk, .int .i64 xn, .string (strOfNums xt)] 50) = v0 at *
      generalize wr.heap.size = gb at *
      clear hg hgo
      rcases kind_cases xk with rfl | rfl | rfl | ⟨_, _, _, s1, s2, s3, s4⟩
      · rcases kd_cases xn xt with ⟨h1, s1⟩ | ⟨h1, h2, s1, s2, s3⟩ | ⟨h1, h2, s1, s2, s3⟩ | ⟨h1, h2, h3, s1, s2, s3⟩
        · have HV2 : Hid (V = false) := hide (unhide HVP (by unfold plB; simp; omega))
          clear HVP HVF HVA HNX HPR2 hfr hkl i3 h1
          go_wp2_with fail
          rw [unhide HV2]
          refine bodyPost_ret (results_tmp rfl _ _ _) rfl ⟨rfl, unhide HBN⟩
        · have HV2 : Hid (V = false) := hide (unhide HVF (by rw [hfr]; simp [frN]; omega))
          clear HVP HVF HVA HNX HPR2 hfr hkl i3 h1 h2
          go_wp2_with fail
          rw [unhide HV2]
          refine bodyPost_ret (results_tmp rfl _ _ _) rfl ⟨rfl, unhide HBN⟩
        · have HV2 : Hid (V = false) := hide (unhide HVP (by unfold plB; simp [h2]))
          rw [← hem] at h2
          clear hem hsz
          generalize strOfNums xt = st at *
          clear HVP HVF HVA HNX HPR2 hfr hkl i3 h1
          go_wp2_with fail
          rw [unhide HV2]
          refine bodyPost_ret (results_tmp rfl _ _ _) rfl ⟨rfl, unhide HBN⟩
        · obtain ⟨m, rfl⟩ : ∃ m : Nat, xn = (m : Int) := ⟨xn.toNat, by omega⟩
          have HPL : Hid (plB ⟨1, (m : Int), xt⟩ = true) := hide (by unfold plB; simp [h3]; omega)
          rw [show frN ⟨1, (m : Int), xt⟩ = m by simp [frN]] at hfr
          have W1 := hide (ca_k i3 (by omega) hfr)
          rw [← hem] at h3
          clear h1 h2 hem hsz
          by_cases hF : 268435456 < F'
          · have HV2 : Hid (V = false) := hide (unhide HVF hF)
            obtain ⟨p0, p1, p2⟩ := big_t hF
            clear hF HVP HVF HVA HNX HPR2 hfr hkl i3
            obtain ⟨w1, w2, w3⟩ := unhide W1
            go_upto_region 16 with fail
            go_quiet (fail)
            go_wp2_with fail
            rw [unhide HV2]
            refine bodyPost_ret (results_tmp rfl _ _ _) rfl ⟨rfl, below_drewN (unhide HBN) _⟩
          have HN2 := hide (unhide HNX F' rfl (Nat.not_lt.1 hF) (unhide HPL))
          have P0 := hide (big_f hF)
          rcases unhide HPR2 with ⟨hk0, hpm⟩ | ⟨j, p, hj, hjl, cp, hpm, hp⟩
          · subst hk0
            have HN3 := hide (unhide HN2 (by rw [hpm]; rfl) (by decide))
            clear hF HN2 hpm HVP HVF HVA HNX HPR2 hfr hkl i3
            obtain ⟨p0, p1, p2⟩ := unhide P0
            obtain ⟨w1, w2, w3⟩ := unhide W1
            go_upto_region 16 with fail
            go_quiet (fail)
            go_wp2_with fail
            go_roundw
            case rel => exact ⟨⟨_, rfl⟩, ⟨0 + 1, F', by go_num, by first | rfl | go_num, hlt, HN3⟩, hide (below_drewN (unhide HBN) _)⟩
            case measure => simp [intOf]; omega
          · have HKP := hide (k_pos hj hkl hlt)
            rcases hp with rfl | rfl | rfl
            · have HV2 : Hid (V = false) := hide (unhide HVA (by rw [hpm]; rfl))
              clear hF HN2 hpm hj HVP HVF HVA HNX HPR2 hfr hkl i3
              obtain ⟨⟨k1, k6, k7, k8, k9⟩, k2, k3, k4, k5, k10, k11⟩ := unhide HKP
              obtain ⟨p0, p1, p2⟩ := unhide P0
              obtain ⟨w1, w2, w3⟩ := unhide W1
              go_upto_region 16 with fail
              go_quiet (fail)
              go_wp2_with fail
              rw [unhide HV2]
              refine bodyPost_ret (results_tmp rfl _ _ _) rfl ⟨rfl, below_drewN (unhide HBN) _⟩
            · have HN3 := hide (unhide HN2 (by rw [hpm]; rfl) (by decide))
              clear hF HN2 hpm hj HVP HVF HVA HNX HPR2 hfr hkl i3
              obtain ⟨⟨k1, k6, k7, k8, k9⟩, k2, k3, k4, k5, k10, k11⟩ := unhide HKP
              obtain ⟨p0, p1, p2⟩ := unhide P0
              obtain ⟨w1, w2, w3⟩ := unhide W1
              go_upto_region 16 with fail
              go_quiet (fail)
              go_wp2_with fail
              go_roundw
              case rel => exact ⟨⟨_, rfl⟩, ⟨k + 1, F', by go_num, by first | rfl | go_num, hlt, HN3⟩, hide (below_drewN (unhide HBN) _)⟩
              case measure => simp [intOf]; omega
            · have HN3 := hide (unhide HN2 (by rw [hpm]; rfl) (by decide))
              clear hF HN2 hpm hj HVP HVF HVA HNX HPR2 hfr hkl i3
              obtain ⟨⟨k1, k6, k7, k8, k9⟩, k2, k3, k4, k5, k10, k11⟩ := unhide HKP
              obtain ⟨p0, p1, p2⟩ := unhide P0
              obtain ⟨w1, w2, w3⟩ := unhide W1
              go_upto_region 16 with fail
              go_quiet (fail)
              go_wp2_with fail
              go_roundw
              case rel => exact ⟨⟨_, rfl⟩, ⟨k + 1, F', by go_num, by first | rfl | go_num, hlt, HN3⟩, hide (below_drewN (unhide HBN) _)⟩
              case measure => simp [intOf]; omega
      · rcases put_cases xn xt with ⟨h1, s1⟩ | ⟨h1, s1, s2⟩ | ⟨rfl, s1, s2⟩
        · have HV2 : Hid (V = false) := hide (unhide HVP (by unfold plB; simp [h1]))
          clear HVP HVF HVA HNX HPR2 hfr hkl i3 h1
          go_wp2_with fail
          rw [unhide HV2]
          refine bodyPost_ret (results_tmp rfl _ _ _) rfl ⟨rfl, unhide HBN⟩
        · have HV2 : Hid (V = false) := hide (unhide HVP (by unfold plB; simp [s2]))
          rw [← hem] at s2
          clear hem hsz
          generalize strOfNums xt = st at *
          clear HVP HVF HVA HNX HPR2 hfr hkl i3 h1
          go_wp2_with fail
          rw [unhide HV2]
          refine bodyPost_ret (results_tmp rfl _ _ _) rfl ⟨rfl, unhide HBN⟩
        · have HPL : Hid (plB ⟨2, 0, xt⟩ = true) := hide (by unfold plB; simp [s2])
          rw [show frN ⟨2, 0, xt⟩ = 0 by simp [frN]] at hfr
          obtain rfl : F' = f := by omega
          rw [← hem] at s2
          clear hem
          have hF : ¬ 268435456 < F' := by omega
          have HN2 := hide (unhide HNX F' rfl (Nat.not_lt.1 hF) (unhide HPL))
          have P0 := hide (big_f hF)
          rcases unhide HPR2 with ⟨hk0, hpm⟩ | ⟨j, p, hj, hjl, cp, hpm, hp⟩
          · subst hk0
            have HN3 := hide (unhide HN2 (by rw [hpm]; rfl) (by decide))
            clear hF HN2 hpm HVP HVF HVA HNX HPR2 hfr hkl i3
            obtain ⟨p0, p1, p2⟩ := unhide P0
            go_upto_region 16 with fail
            go_quiet (fail)
            go_wp2_with fail
            go_roundw
            case rel => exact ⟨⟨_, rfl⟩, ⟨0 + 1, F', by go_num, by first | rfl | go_num, hlt, HN3⟩, hide (below_drewN (unhide HBN) _)⟩
            case measure => simp [intOf]; omega
          · have HKP := hide (k_pos hj hkl hlt)
            rcases hp with rfl | rfl | rfl
            · have HN3 := hide (unhide HN2 (by rw [hpm]; rfl) (by decide))
              clear hF HN2 hpm hj HVP HVF HVA HNX HPR2 hfr hkl i3
              obtain ⟨⟨k1, k6, k7, k8, k9⟩, k2, k3, k4, k5, k10, k11⟩ := unhide HKP
              obtain ⟨p0, p1, p2⟩ := unhide P0
              go_upto_region 16 with fail
              go_quiet (fail)
              go_wp2_with fail
              go_roundw
              case rel => exact ⟨⟨_, rfl⟩, ⟨k + 1, F', by go_num, by first | rfl | go_num, hlt, HN3⟩, hide (below_drewN (unhide HBN) _)⟩
              case measure => simp [intOf]; omega
            · have HV2 : Hid (V = false) := hide (unhide HVA (by rw [hpm]; rfl))
              clear hF HN2 hpm hj HVP HVF HVA HNX HPR2 hfr hkl i3
              obtain ⟨⟨k1, k6, k7, k8, k9⟩, k2, k3, k4, k5, k10, k11⟩ := unhide HKP
              obtain ⟨p0, p1, p2⟩ := unhide P0
              go_upto_region 16 with fail
              go_quiet (fail)
              go_wp2_with fail
              rw [unhide HV2]
              refine bodyPost_ret (results_tmp rfl _ _ _) rfl ⟨rfl, below_drewN (unhide HBN) _⟩
            · have HV2 : Hid (V = false) := hide (unhide HVA (by rw [hpm]; rfl))
              clear hF HN2 hpm hj HVP HVF HVA HNX HPR2 hfr hkl i3
              obtain ⟨⟨k1, k6, k7, k8, k9⟩, k2, k3, k4, k5, k10, k11⟩ := unhide HKP
              obtain ⟨p0, p1, p2⟩ := unhide P0
              go_upto_region 16 with fail
              go_quiet (fail)
              go_wp2_with fail
              rw [unhide HV2]
              refine bodyPost_ret (results_tmp rfl _ _ _) rfl ⟨rfl, below_drewN (unhide HBN) _⟩
      · rcases kd_cases xn xt with ⟨h1, s1⟩ | ⟨h1, h2, s1, s2, s3⟩ | ⟨h1, h2, s1, s2, s3⟩ | ⟨h1, h2, h3, s1, s2, s3⟩
        · have HV2 : Hid (V = false) := hide (unhide HVP (by unfold plB; simp; omega))
          clear HVP HVF HVA HNX HPR2 hfr hkl i3 h1
          go_wp2_with fail
          rw [unhide HV2]
          refine bodyPost_ret (results_tmp rfl _ _ _) rfl ⟨rfl, unhide HBN⟩
        · have HV2 : Hid (V = false) := hide (unhide HVF (by rw [hfr]; simp [frN]; omega))
          clear HVP HVF HVA HNX HPR2 hfr hkl i3 h1 h2
          go_wp2_with fail
          rw [unhide HV2]
          refine bodyPost_ret (results_tmp rfl _ _ _) rfl ⟨rfl, unhide HBN⟩
        · have HV2 : Hid (V = false) := hide (unhide HVP (by unfold plB; simp [h2]))
          rw [← hem] at h2
          clear hem hsz
          generalize strOfNums xt = st at *
          clear HVP HVF HVA HNX HPR2 hfr hkl i3 h1
          go_wp2_with fail
          rw [unhide HV2]
          refine bodyPost_ret (results_tmp rfl _ _ _) rfl ⟨rfl, unhide HBN⟩
        · obtain ⟨m, rfl⟩ : ∃ m : Nat, xn = (m : Int) := ⟨xn.toNat, by omega⟩
          have HPL : Hid (plB ⟨3, (m : Int), xt⟩ = true) := hide (by unfold plB; simp [h3]; omega)
          rw [show frN ⟨3, (m : Int), xt⟩ = m by simp [frN]] at hfr
          have W1 := hide (ca_k i3 (by omega) hfr)
          rw [← hem] at h3
          clear h1 h2 hem hsz
          by_cases hF : 268435456 < F'
          · have HV2 : Hid (V = false) := hide (unhide HVF hF)
            obtain ⟨p0, p1, p2⟩ := big_t hF
            clear hF HVP HVF HVA HNX HPR2 hfr hkl i3
            obtain ⟨w1, w2, w3⟩ := unhide W1
            go_upto_region 16 with fail
            go_quiet (fail)
            go_wp2_with fail
            rw [unhide HV2]
            refine bodyPost_ret (results_tmp rfl _ _ _) rfl ⟨rfl, below_drewN (unhide HBN) _⟩
          have HN2 := hide (unhide HNX F' rfl (Nat.not_lt.1 hF) (unhide HPL))
          have P0 := hide (big_f hF)
          rcases unhide HPR2 with ⟨hk0, hpm⟩ | ⟨j, p, hj, hjl, cp, hpm, hp⟩
          · subst hk0
            have HN3 := hide (unhide HN2 (by rw [hpm]; rfl) (by decide))
            clear hF HN2 hpm HVP HVF HVA HNX HPR2 hfr hkl i3
            obtain ⟨p0, p1, p2⟩ := unhide P0
            obtain ⟨w1, w2, w3⟩ := unhide W1
            go_upto_region 16 with fail
            go_quiet (fail)
            go_wp2_with fail
            go_roundw
            case rel => exact ⟨⟨_, rfl⟩, ⟨0 + 1, F', by go_num, by first | rfl | go_num, hlt, HN3⟩, hide (below_drewN (unhide HBN) _)⟩
            case measure => simp [intOf]; omega
          · have HKP := hide (k_pos hj hkl hlt)
            rcases hp with rfl | rfl | rfl
            · have HN3 := hide (unhide HN2 (by rw [hpm]; rfl) (by decide))
              clear hF HN2 hpm hj HVP HVF HVA HNX HPR2 hfr hkl i3
              obtain ⟨⟨k1, k6, k7, k8, k9⟩, k2, k3, k4, k5, k10, k11⟩ := unhide HKP
              obtain ⟨p0, p1, p2⟩ := unhide P0
              obtain ⟨w1, w2, w3⟩ := unhide W1
              go_upto_region 16 with fail
              go_quiet (fail)
              go_wp2_with fail
              go_roundw
              case rel => exact ⟨⟨_, rfl⟩, ⟨k + 1, F', by go_num, by first | rfl | go_num, hlt, HN3⟩, hide (below_drewN (unhide HBN) _)⟩
              case measure => simp [intOf]; omega
            · have HN3 := hide (unhide HN2 (by rw [hpm]; rfl) (by decide))
              clear hF HN2 hpm hj HVP HVF HVA HNX HPR2 hfr hkl i3
              obtain ⟨⟨k1, k6, k7, k8, k9⟩, k2, k3, k4, k5, k10, k11⟩ := unhide HKP
              obtain ⟨p0, p1, p2⟩ := unhide P0
              obtain ⟨w1, w2, w3⟩ := unhide W1
              go_upto_region 16 with fail
              go_quiet (fail)
              go_wp2_with fail
              go_roundw
              case rel => exact ⟨⟨_, rfl⟩, ⟨k + 1, F', by go_num, by first | rfl | go_num, hlt, HN3⟩, hide (below_drewN (unhide HBN) _)⟩
              case measure => simp [intOf]; omega
            · have HV2 : Hid (V = false) := hide (unhide HVA (by rw [hpm]; rfl))
              clear hF HN2 hpm hj HVP HVF HVA HNX HPR2 hfr hkl i3
              obtain ⟨⟨k1, k6, k7, k8, k9⟩, k2, k3, k4, k5, k10, k11⟩ := unhide HKP
              obtain ⟨p0, p1, p2⟩ := unhide P0
              obtain ⟨w1, w2, w3⟩ := unhide W1
              go_upto_region 16 with fail
              go_quiet (fail)
              go_wp2_with fail
              rw [unhide HV2]
              refine bodyPost_ret (results_tmp rfl _ _ _) rfl ⟨rfl, below_drewN (unhide HBN) _⟩
      · have HV2 : Hid (V = false) := hide (unhide HVA (by rw [s4]; simp [apB]))
        clear HVP HVF HVA HNX HPR2 hfr hkl i3 s4
        go_wp2_with fail
        rw [unhide HV2]
        refine bodyPost_ret (results_tmp rfl _ _ _) rfl ⟨rfl, unhide HBN⟩
    · obtain rfl : k = d.length := by omega
      have t1 : decide ((d.length : Int) < (d.length : Int)) = false := decide_eq_false (by omega)
      obtain ⟨i1, i3, i5, i6, i7⟩ := unhide HI
      rw [List.take_length] at i1 i5
      rw [List.drop_length] at i6
      have hto := toD_tx d
      have hT := unhide HT
      have HL := hide (lens14_at a c d wr (unhide HO wr (unhide HB)) hl (pl_of i5 i6) (by omega) (by omega))
      have HV2 : Hid (V = decide (toD d ≤ 268435456)) := hide (by
        rw [unhide HV, valB, i5, i6]
        unfold lonB
        by_cases h : toD d ≤ 268435456
        · rw [decide_eq_true h, decide_eq_false (by omega)]; rfl
        · rw [decide_eq_false h, decide_eq_true (by omega)]; rfl)
      have q1 : decide ((f : Int) ≤ 268435456) = true := decide_eq_true (by omega)
      rw [← i1] at HL
      clear HI hk i1 i3 i5 i6 i7 hto hT HT
      generalize toD d = E at *
      go_wp2_with fail
      refine (unhide HL).mono ?_
      rintro y w1 ⟨rfl, x1⟩
      dsimp only
      have HX := hide ((unhide HB).trans (x1.mono (unhide HB).size))
      clear HL x1 HB
      rcases le_cases E with ⟨q2, q3⟩ | ⟨q2, q3⟩
      · have HV3 : Hid (V = false) := hide (by rw [unhide HV2]; exact decide_eq_false (by omega))
        clear q2 HV2
        go_wp2_with fail
        rw [unhide HV3]
        refine bodyPost_ret (results_tmp rfl _ _ _) rfl ⟨rfl, unhide HX⟩
      · have HV3 : Hid (V = true) := hide (by rw [unhide HV2]; exact decide_eq_true q2)
        clear q2 HV2
        go_wp2_with fail
        rw [unhide HV3]
        refine bodyPost_ret (results_tmp rfl _ _ _) rfl ⟨rfl, unhide HX⟩

end Go.Proofs.Ytfllomlighlejaa
end

section
namespace Go.Proofs.Ytfllomlighlejaa

theorem mv_lb (g : Int) : ∀ (cs : List Dop) (h q s : Int), GapC h cs → h ≤ q → h + s ≤ mvC q g s cs
  | [], h, q, s, _, hq => by simp only [mvC]; omega
  | c :: r, h, q, s, hg, hq => by
    have h1 := hg.1
    have h2 := hg.2.1
    simp only [mvC]
    split
    · omega
    · split
      · split <;> omega
      · have ih := mv_lb g r c.n q (s + ((c.t.length : Int) - (c.n - c.k))) hg.2.2 (by omega)
        omega
theorem mv_mono (g : Int) : ∀ (cs : List Dop) (h p q s : Int), GapC h cs → h ≤ p → p ≤ q → mvC p g s cs ≤ mvC q g s cs
  | [], _, p, q, s, _, _, hq => by simp only [mvC]; omega
  | c :: r, h, p, q, s, hg, hp, hq => by
    have h1 := hg.1
    have h2 := hg.2.1
    have lb : c.n < q → c.n + (s + ((c.t.length : Int) - (c.n - c.k))) ≤ mvC q g (s + ((c.t.length : Int) - (c.n - c.k))) r := fun h => mv_lb g r c.n q _ hg.2.2 (by omega)
    simp only [mvC]
    by_cases p1 : p < c.k
    · rw [if_pos p1]
      by_cases q1 : q < c.k
      · rw [if_pos q1]; omega
      · rw [if_neg q1]
        by_cases q2 : q ≤ c.n
        · rw [if_pos q2]; split <;> omega
        · rw [if_neg q2]
          have := lb (by omega)
          omega
    · rw [if_neg p1, if_neg (show ¬ q < c.k by omega)]
      by_cases p2 : p ≤ c.n
      · rw [if_pos p2]
        by_cases q2 : q ≤ c.n
        · rw [if_pos q2]; exact Int.le_refl _
        · rw [if_neg q2]
          have := lb (by omega)
          split <;> omega
      · rw [if_neg p2, if_neg (show ¬ q ≤ c.n by omega)]
        exact mv_mono g r c.n p q _ hg.2.2 (by omega) hq
theorem mv_lr : ∀ (cs : List Dop) (p s : Int), mvC p 1 s cs ≤ mvC p 2 s cs
  | [], _, _ => Int.le_refl _
  | c :: r, p, s => by
    simp only [mvC]
    split
    · exact Int.le_refl _
    · split
      · simp; omega
      · exact mv_lr r p _
theorem mv_end : ∀ (cs : List Dop) (h n s : Int), GapC h cs → lstC h cs ≤ n → mvC n 2 s cs = n + s + dlC cs
  | [], _, _, _, _, _ => by simp [mvC, dlC]
  | c :: r, h, n, s, hg, hl => by
    have h1 := hg.1
    have h2 := hg.2.1
    have h3 := gap_le hg.2.2
    simp only [lstC] at hl
    simp only [mvC, dlC]
    rw [if_neg (by omega)]
    by_cases q2 : n ≤ c.n
    · rw [if_pos q2, if_neg (by decide)]
      cases r with
      | nil => simp only [dlC]; omega
      | cons c2 r2 =>
        have := hg.2.2.1
        have := hg.2.2.2.1
        have := h3.2 c2 (by simp)
        omega
    · rw [if_neg q2, mv_end r c.n n _ hg.2.2 hl]
      omega
theorem mv_zero : ∀ (cs : List Dop), GapC (-1) cs → mvC 0 1 0 cs = 0
  | [], _ => rfl
  | c :: r, hg => by
    have h1 := hg.1
    have h2 := hg.2.1
    simp only [mvC]
    by_cases q : (0 : Int) < c.k
    · rw [if_pos q]; rfl
    · rw [if_neg q, if_pos (by omega)]; simp; omega
/-- the lengths by the changes -/
theorem to_ch {d : List Dop} (hv : valB d = true) : GapC (-1) (runL d).2 ∧ lstC (-1) (runL d).2 ≤ frD d ∧ (toD d : Int) = frD d + dlC (runL d).2 := by
  have hs := chs_run (val_Can hv)
  have hm := hs.f
  generalize (runL d).2 = cs at *
  generalize (runL d).1 = m at *
  have hl := hs.l
  have hg := hs.g
  have hlm : lstC (-1) cs ≤ m := by
    by_cases hc : cs = []
    · rw [hc]; simp only [lstC]; omega
    · have := lstC_two 0 (-1) hc
      omega
  have t5 := opC_sizes cs 0 m (gap_okL hg hlm (by omega) (by omega))
  have h1 := congrArg toA hs.a
  rw [to_app, (frA_dA (opC_k 0 cs)).2, (frA_dA (valB_k hv)).2, (fr_rep_k _).2] at h1
  exact ⟨hg, by omega, by omega⟩
theorem pl_zero {d : List Dop} {p g : Int} (hv : valB d = true) (hp : 0 ≤ p ∧ p ≤ frD d) (hg : g = 1 ∨ g = 2) : plE d p g = 0 ∧ plV d p g = mvC p g 0 (runL d).2 := by
  have h : plE d p g = 0 := by unfold plE; rw [hv, if_pos rfl, if_pos ⟨hp, hg⟩]
  exact ⟨h, by unfold plV; rw [if_pos h]⟩

end Go.Proofs.Ytfllomlighlejaa
end
