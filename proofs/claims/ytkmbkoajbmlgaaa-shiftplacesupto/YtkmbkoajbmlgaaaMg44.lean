/- Layer 14: Both (written by wip/tools/sft.py). · Layer 14, the document's lens. -/
import Derived.Test.YtkmbkoajbmlgaaaMg43

section
namespace Go.Proofs.Ytkmbkoajbmlgaaa
open Go.ChangeShapes Go.WideShapes Go.ChangeAt Go.RowKit
attribute [local go_sem] Oper.semAt_some

def boE (d e : List Dop) : Int := if ovE e d true = 0 then ovE d e false else ovE e d true
def boA (d e : List Dop) : List Dop := if boE d e = 0 then ovD e d true else []
def boB (d e : List Dop) : List Dop := if boE d e = 0 then ovD d e false else []
set_option maxRecDepth 100000 in
set_option maxHeartbeats 4000000 in
theorem Both_at (a : Option Addr) (c : Nat) (d : List Dop) (a' : Option Addr) (c' : Nat) (e : List Dop) (w : World) (h : IsO w a d ∧ d.length ≤ c) (h' : IsO w a' e ∧ e.length ≤ c') (ht : ∀ o ∈ d, o.t.length ≤ 140737488355328) (ht' : ∀ o ∈ e, o.t.length ≤ 140737488355328) (hl : d.length ≤ 4611686018427387904) (hl' : e.length ≤ 4611686018427387904) :
    Calls Try.prog 34 #[.slice a d.length c, .slice a' e.length c'] w fun y w' => ∃ a2 c2 a3 c3, y = .returned (.tuple #[.slice a2 (boA d e).length c2, .slice a3 (boB d e).length c3, .int .i64 (boE d e)]) ∧ (IsO w' a2 (boA d e) ∧ (boA d e).length ≤ c2) ∧ (IsO w' a3 (boB d e) ∧ (boB d e).length ≤ c3) ∧ Below w.heap.size w w' := by
  have H1 := hide (OverO_at a' c' e a c d true w h' h ht' hl' hl)
  have H2 := hide fun (X : World) (hX : Below w.heap.size w X) => OverO_at a c d a' c' e false X ⟨h.1.below hX (Nat.le_refl _), h.2⟩ ⟨h'.1.below hX (Nat.le_refl _), h'.2⟩ ht hl hl'
  obtain ⟨E1, hE1⟩ : ∃ E1, E1 = ovE e d true := ⟨_, rfl⟩
  obtain ⟨E2, hE2⟩ : ∃ E2, E2 = ovE d e false := ⟨_, rfl⟩
  obtain ⟨L1, hL1⟩ : ∃ L1, L1 = ovD e d true := ⟨_, rfl⟩
  obtain ⟨L2, hL2⟩ : ∃ L2, L2 = ovD d e false := ⟨_, rfl⟩
  have hbE : boE d e = if E1 = 0 then E2 else E1 := by unfold boE; rw [hE1, hE2]
  have hbA : boA d e = if (if E1 = 0 then E2 else E1) = 0 then L1 else [] := by unfold boA; rw [hbE, hL1]
  have hbB : boB d e = if (if E1 = 0 then E2 else E1) = 0 then L2 else [] := by unfold boB; rw [hbE, hL2]
  rw [hbE, hbA, hbB]
  rw [← hE1, ← hL1] at H1
  rw [← hE2, ← hL2] at H2
  clear h h' ht ht' hl hl' hE1 hE2 hL1 hL2 hbE hbA hbB
  by_cases e1 : E1 = 0
  · subst e1
    simp only [if_true]
    by_cases e2 : E2 = 0
    · subst e2
      simp only [if_true]
      go_enter Try.func34, Try.ntmps34
      go_wp2_with fail
      refine (unhide H1).mono ?_
      rintro y w1 ⟨a2, c2, rfl, i2, x1⟩
      dsimp only
      have HX1 := hide x1
      have HI := hide i2
      have HC := hide (unhide H2 w1 x1)
      clear H1 H2 i2 x1
      go_wp2_with fail
      refine (unhide HC).mono ?_
      rintro y w2 ⟨a3, c3, rfl, i3, x2⟩
      dsimp only
      have HI2 := hide (And.intro (And.intro ((unhide HI).1.below x2 (Nat.le_refl _)) (unhide HI).2) i3)
      have HX2 := hide ((unhide HX1).trans (x2.mono (unhide HX1).size))
      clear HC HI HX1 i3 x2
      go_wp2_with fail
      refine bodyPost_ret (results_tmp3 rfl _ _) rfl ⟨_, _, _, _, rfl, (unhide HI2).1, (unhide HI2).2, unhide HX2⟩
    · have t2 : (E2 != 0) = true := by simpa using e2
      have t2' : (E2 == 0) = false := by simpa using e2
      rw [if_neg e2, if_neg e2]
      go_enter Try.func34, Try.ntmps34
      go_wp2_with fail
      refine (unhide H1).mono ?_
      rintro y w1 ⟨a2, c2, rfl, _, x1⟩
      dsimp only
      have HX1 := hide x1
      have HC := hide (unhide H2 w1 x1)
      clear H1 H2 x1
      go_wp2_with fail
      refine (unhide HC).mono ?_
      rintro y w2 ⟨a3, c3, rfl, _, x2⟩
      dsimp only
      have HX2 := hide ((unhide HX1).trans (x2.mono (unhide HX1).size))
      clear HC HX1 x2 e2
      go_wp2_with fail
      refine bodyPost_ret (results_tmp3 rfl _ _) rfl ⟨none, 0, none, 0, rfl, ⟨.inl rfl, by simp⟩, ⟨.inl rfl, by simp⟩, unhide HX2⟩
  · have t1 : (E1 != 0) = true := by simpa using e1
    have t1' : (E1 == 0) = false := by simpa using e1
    rw [if_neg e1, if_neg e1, if_neg e1]
    go_enter Try.func34, Try.ntmps34
    go_wp2_with fail
    refine (unhide H1).mono ?_
    rintro y w1 ⟨a2, c2, rfl, _, x1⟩
    dsimp only
    have HX1 := hide x1
    clear H1 H2 x1 e1
    go_wp2_with fail
    refine bodyPost_ret (results_tmp3 rfl _ _) rfl ⟨none, 0, none, 0, rfl, ⟨.inl rfl, by simp⟩, ⟨.inl rfl, by simp⟩, unhide HX1⟩
/-- what Over answers where all is well -/
structure OvK (d e : List Dop) (f : Bool) : Prop where
  v1 : valB d = true
  v2 : valB e = true
  q : frD d = frD e
  l : toA (ovA f (dA d) (dA e)) ≤ 268435456
  c : ovD d e f = canA (ovA f (dA d) (dA e))
  v : valB (ovD d e f) = true
  fr : frD (ovD d e f) = toD d
  tt : toD (ovD d e f) = toA (ovA f (dA d) (dA e))
  a : dA (ovD d e f) = nfA (ovA f (dA d) (dA e))
theorem ov_ok {d e : List Dop} {f : Bool} (h : ovE d e f = 0) : OvK d e f := by
  have hd : ovD d e f = canA (ovA f (dA d) (dA e)) := by unfold ovD; rw [if_pos h]
  unfold ovE at h
  split at h
  · rename_i hv
    have hv1 : valB d = true := by revert hv; cases valB d <;> simp
    have hv2 : valB e = true := by revert hv; cases valB e <;> simp
    split at h
    · rename_i hf
      split at h
      · cases h
      · rename_i hl
        have q : frA (dA d) = frA (dA e) := by rw [(frA_dA (valB_k hv1)).1, (frA_dA (valB_k hv2)).1, hf]
        have hfr := ov_fr f _ (dA d) (dA e) (Nat.le_refl _) q
        rw [(frA_dA (valB_k hv1)).2] at hfr
        have h1 := (valB_nn hv1).2.2
        obtain ⟨c1, c2, c3, c4⟩ := canA_val (u := ovA f (dA d) (dA e)) (by omega) (by omega)
        exact ⟨hv1, hv2, hf, by omega, hd, by rw [hd]; exact c1, by rw [hd, c2]; exact hfr, by rw [hd]; exact c3, by rw [hd]; exact c4⟩
    · cases h
  · cases h
theorem bo_ok {d e : List Dop} (h : boE d e = 0) : OvK e d true ∧ OvK d e false ∧ boA d e = ovD e d true ∧ boB d e = ovD d e false := by
  have hA : boA d e = ovD e d true := by unfold boA; rw [if_pos h]
  have hB : boB d e = ovD d e false := by unfold boB; rw [if_pos h]
  unfold boE at h
  split at h
  · rename_i h1
    exact ⟨ov_ok h1, ov_ok h, hA, hB⟩
  · rename_i h1
    exact absurd h h1
/-- both orders make one delta -/
theorem bo_meet {d e : List Dop} (h : boE d e = 0) : TwoD d (boB d e) ∧ TwoD e (boA d e) ∧ cmD d (boB d e) = cmD e (boA d e) := by
  obtain ⟨o1, o2, eA, eB⟩ := bo_ok h
  rw [eA, eB]
  have t1 := two_ok o2.v1 o2.v o2.fr.symm
  have t2 := two_ok o1.v1 o1.v o1.fr.symm
  refine ⟨t1, t2, ?_⟩
  rw [t1.d, t2.d]
  refine canA_congr ?_
  rw [o2.a, o1.a, cmp_nf_right, cmp_nf_right]
  exact ov_meet _ _ _ (Nat.le_refl _) (by rw [(frA_dA (valB_k o2.v1)).1, (frA_dA (valB_k o2.v2)).1, o2.q])

end Go.Proofs.Ytkmbkoajbmlgaaa
end

section
namespace Go.Proofs.Ytkmbkoajbmlgaaa
open Go.ChangeShapes Go.WideShapes Go.ChangeAt Go.RowKit
attribute [local go_sem] Oper.semAt_some

/-- an operation that is well formed by itself -/
def PlO (o : Dop) : Prop := ((o.k = 1 ∨ o.k = 3) ∧ 1 ≤ o.n ∧ o.t = []) ∨ (o.k = 2 ∧ o.n = 0 ∧ o.t ≠ [])
theorem toD_le (d : List Dop) (k : Nat) : toD (d.take k) ≤ toD d := by
  unfold toD
  conv => rhs; rw [← List.take_append_drop k d]
  rw [List.map_append, List.sum_append]
  omega
theorem frD_le' (d : List Dop) (k : Nat) : frD (d.take k) ≤ frD d := by
  unfold frD
  conv => rhs; rw [← List.take_append_drop k d]
  rw [List.map_append, List.sum_append]
  omega
theorem ca_b {a b c : Nat} (h : c = a + b) (hc : c ≤ 1152921504606846976) : wrap64 ((a : Int) + (b : Int)) = (c : Int) ∧ wrap64 ((c : Int) + 0) = (c : Int) ∧ wrap64 (c : Int) = (c : Int) := by
  subst h
  exact ⟨by rw [wrapD _ (by omega) (by omega)]; omega, by rw [wrapD _ (by omega) (by omega)]; omega, wrapD _ (by omega) (by omega)⟩
structure LnI (d : List Dop) (k f t : Nat) : Prop where
  ef : f = frD (d.take k)
  et : t = toD (d.take k)
set_option maxRecDepth 100000 in
set_option maxHeartbeats 4000000 in
theorem lens14_at (a : Option Addr) (c : Nat) (d : List Dop) (w : World) (h : IsO w a d) (hl : d.length ≤ 4611686018427387904) (hp : ∀ o ∈ d, PlO o) (hf : frD d ≤ 1152921504606846976) (ht : toD d ≤ 1152921504606846976) :
    Calls Try.prog 74 #[.slice a d.length c] w fun y w' => y = .returned (.tuple #[.int .i64 (frD d : Int), .int .i64 (toD d : Int)]) ∧ Below w.heap.size w w' := by
  have HO := hide fun (X : World) (hx : Below w.heap.size w X) => h.below hx (Nat.le_refl _)
  have HV := hide hp
  have HZ := hide (And.intro hf ht)
  obtain ⟨L, E, hL, hE⟩ : ∃ L E, L = frD d ∧ E = toD d := ⟨_, _, rfl, rfl⟩
  rw [← hL, ← hE]
  have HLE := hide (And.intro hL hE)
  clear h hp hf ht hL hE
  go_enter Try.func74, Try.ntmps74
  go_wp2_with fail
  go_loopw [4, 5, 6] (fun v4 v5 v6 wx => (∃ (k f t : Nat), v6 = .int .i64 (k : Int) ∧ v4 = .int .i64 (f : Int) ∧ v5 = .int .i64 (t : Int) ∧ k ≤ d.length ∧ Hid (LnI d k f t)) ∧ Hid (Below w.heap.size w wx)) (fun _ _ v6 _ => d.length - (intOf v6).toNat)
  case atStart => exact ⟨⟨0, 0, 0, rfl, rfl, rfl, Nat.zero_le _, hide ⟨rfl, rfl⟩⟩, hide (Below.refl _ _)⟩
  case round =>
    obtain ⟨⟨k, f, t, rfl, rfl, rfl, hk, HI⟩, HB⟩ := hrel
    by_cases hlt : k < d.length
    · have t1 : decide ((k : Int) < (d.length : Int)) = true := decide_eq_true (by omega)
      have t1' : (k : Int) < (d.length : Int) := by omega
      obtain ⟨g, off, rfl, hg, c0, c1, c2⟩ := (unhide HO wr (unhide HB)).three hlt
      have hx := unhide HV _ (getD_memD hlt)
      have hfr := frD_take d hlt
      have hto := toD_take d hlt
      have hF := Nat.le_trans (frD_le' d (k + 1)) (unhide HZ).1
      have hT := Nat.le_trans (toD_le d (k + 1)) (unhide HZ).2
      rw [← (unhide HI).ef] at hfr
      rw [← (unhide HI).et] at hto
      have HNX : Hid (LnI d (k + 1) (frD (d.take (k + 1))) (toD (d.take (k + 1)))) := hide ⟨rfl, rfl⟩
      clear HI hk
      generalize frD (d.take (k + 1)) = F' at *
      generalize toD (d.take (k + 1)) = T' at *
      generalize d.getD k opZ = x at *
      obtain ⟨xk, xn, xt⟩ := x
      unfold PlO at hx
      dsimp only at c0 c1 c2 hx
      have hsz := strOfNums_size xt
      rcases hx with ⟨rfl | rfl, hn, rfl⟩ | ⟨rfl, rfl, hn⟩
      · obtain ⟨m, rfl⟩ : ∃ m : Nat, xn = (m : Int) := ⟨xn.toNat, by omega⟩
        rw [show frN ⟨1, (m : Int), []⟩ = m by simp [frN]] at hfr
        rw [show toN ⟨1, (m : Int), []⟩ = m by simp [toN]] at hto
        have hsz0 : (strOfNums []).size = 0 := by simpa using hsz
        obtain ⟨w1, w2, w3⟩ := ca_b hfr hF
        obtain ⟨w4, w5, w6⟩ := ca_b hto hT
        clear hfr hto hn hF hT hsz
        go_wp2_with fail
        go_roundw
        case rel => exact ⟨⟨k + 1, F', T', by go_num, by first | rfl | rw [w1] | rw [w2] | rw [w3] | rw [w1, w3], by first | rfl | rw [w4] | rw [w5] | rw [w6] | rw [w4, w6], hlt, HNX⟩, HB⟩
        case measure => simp [intOf]; omega
      · obtain ⟨m, rfl⟩ : ∃ m : Nat, xn = (m : Int) := ⟨xn.toNat, by omega⟩
        rw [show frN ⟨3, (m : Int), []⟩ = m by simp [frN]] at hfr
        rw [show toN ⟨3, (m : Int), []⟩ = 0 by simp [toN]] at hto
        have hsz0 : (strOfNums []).size = 0 := by simpa using hsz
        obtain ⟨w1, w2, w3⟩ := ca_b hfr hF
        obtain ⟨w4, w5, w6⟩ := ca_b hto hT
        obtain rfl : T' = t := by omega
        clear hfr hto hn hF hT hsz
        go_wp2_with fail
        go_roundw
        case rel => exact ⟨⟨k + 1, F', T', by go_num, by first | rfl | rw [w1] | rw [w2] | rw [w3] | rw [w1, w3], by first | rfl | rw [w4] | rw [w5] | rw [w6] | rw [w4, w6], hlt, HNX⟩, HB⟩
        case measure => simp [intOf]; omega
      · rw [show frN ⟨2, 0, xt⟩ = 0 by simp [frN]] at hfr
        rw [show toN ⟨2, 0, xt⟩ = xt.length by simp [toN]] at hto
        obtain ⟨w1, w2, w3⟩ := ca_b hfr hF
        obtain ⟨w4, w5, w6⟩ := ca_b hto hT
        obtain rfl : F' = f := by omega
        clear hfr hto hn hF hT
        go_wp2_with fail
        go_roundw
        case rel => exact ⟨⟨k + 1, F', T', by go_num, by first | rfl | rw [w1] | rw [w2] | rw [w3] | rw [w1, w3], by first | rfl | rw [w4] | rw [w5] | rw [w6] | rw [w4, w6], hlt, HNX⟩, HB⟩
        case measure => simp [intOf]; omega
    · obtain rfl : k = d.length := by omega
      have t1 : decide ((d.length : Int) < (d.length : Int)) = false := decide_eq_false (by omega)
      obtain ⟨rfl, rfl⟩ : f = L ∧ t = E := by
        have h1 := (unhide HI).ef
        have h2 := (unhide HI).et
        rw [List.take_length] at h1 h2
        exact ⟨h1.trans (unhide HLE).1.symm, h2.trans (unhide HLE).2.symm⟩
      clear HI hk
      go_wp2_with fail
      refine bodyPost_ret (results_tmp2 rfl _ _ _) rfl ⟨rfl, unhide HB⟩

end Go.Proofs.Ytkmbkoajbmlgaaa
end
