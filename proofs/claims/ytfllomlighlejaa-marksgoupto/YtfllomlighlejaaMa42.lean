/- Layer 14, the document's lens. -/
import Derived.Test.YtfllomlighlejaaMa41

namespace Go.Proofs.Ytfllomlighlejaa
open Go.ChangeShapes Go.WideShapes Go.ChangeAt Go.RowKit
attribute [local go_sem] Oper.semAt_some

/-- an operation that is well formed by itself -/
def PlO (o : Dop) : Prop := ((o.k = 1 ∨ o.k = 3) ∧ 1 ≤ o.n ∧ o.t = []) ∨ (o.k = 2 ∧ o.n = 0 ∧ o.t ≠ [])
theorem toD_le (d : List Dop) (k : Nat) : toD (d.take k) ≤ toD d := by
  unfold toD
  conv => rhs; rw [← List.take_append_drop k d]
  rw [List.map_append, List.sum_append]
  omega
theorem frD_le' (d : List Dop) (k : Nat) : frD (d.take k) ≤ frD d := by
  unfold frD
  conv => rhs; rw [← List.take_append_drop k d]
  rw [List.map_append, List.sum_append]
  omega
theorem ca_b {a b c : Nat} (h : c = a + b) (hc : c ≤ 1152921504606846976) : wrap64 ((a : Int) + (b : Int)) = (c : Int) ∧ wrap64 ((c : Int) + 0) = (c : Int) ∧ wrap64 (c : Int) = (c : Int) := by
  subst h
  exact ⟨by rw [wrapD _ (by omega) (by omega)]; omega, by rw [wrapD _ (by omega) (by omega)]; omega, wrapD _ (by omega) (by omega)⟩
structure LnI (d : List Dop) (k f t : Nat) : Prop where
  ef : f = frD (d.take k)
  et : t = toD (d.take k)
set_option maxRecDepth 100000 in
set_option maxHeartbeats 4000000 in
theorem lens14_at (a : Option Addr) (c : Nat) (d : List Dop) (w : World) (h : IsO w a d) (hl : d.length ≤ 4611686018427387904) (hp : ∀ o ∈ d, PlO o) (hf : frD d ≤ 1152921504606846976) (ht : toD d ≤ 1152921504606846976) :
    Calls Try.prog 24 #[.slice a d.length c] w fun y w' => y = .returned (.tuple #[.int .i64 (frD d : Int), .int .i64 (toD d : Int)]) ∧ Below w.heap.size w w' := by
  have HO := hide fun (X : World) (hx : Below w.heap.size w X) => h.below hx (Nat.le_refl _)
  have HV := hide hp
  have HZ := hide (And.intro hf ht)
  obtain ⟨L, E, hL, hE⟩ : ∃ L E, L = frD d ∧ E = toD d := ⟨_, _, rfl, rfl⟩
  rw [← hL, ← hE]
  have HLE := hide (And.intro hL hE)
  clear h hp hf ht hL hE
  go_enter Try.func24, Try.ntmps24
  go_wp2_with fail
  go_loopw [4, 5, 6] (fun v4 v5 v6 wx => (∃ (k f t : Nat), v6 = .int .i64 (k : Int) ∧ v4 = .int .i64 (f : Int) ∧ v5 = .int .i64 (t : Int) ∧ k ≤ d.length ∧ Hid (LnI d k f t)) ∧ Hid (Below w.heap.size w wx)) (fun _ _ v6 _ => d.length - (intOf v6).toNat)
  case atStart => exact ⟨⟨0, 0, 0, rfl, rfl, rfl, Nat.zero_le _, hide ⟨rfl, rfl⟩⟩, hide (Below.refl _ _)⟩
  case round =>
    obtain ⟨⟨k, f, t, rfl, rfl, rfl, hk, HI⟩, HB⟩ := hrel
    by_cases hlt : k < d.length
    · have t1 : decide ((k : Int) < (d.length : Int)) = true := decide_eq_true (by omega)
      have t1' : (k : Int) < (d.length : Int) := by omega
      obtain ⟨g, off, rfl, hg, c0, c1, c2⟩ := (unhide HO wr (unhide HB)).three hlt
      have hx := unhide HV _ (getD_memD hlt)
      have hfr := frD_take d hlt
      have hto := toD_take d hlt
      have hF := Nat.le_trans (frD_le' d (k + 1)) (unhide HZ).1
      have hT := Nat.le_trans (toD_le d (k + 1)) (unhide HZ).2
      rw [← (unhide HI).ef] at hfr
      rw [← (unhide HI).et] at hto
      have HNX : Hid (LnI d (k + 1) (frD (d.take (k + 1))) (toD (d.take (k + 1)))) := hide ⟨rfl, rfl⟩
      clear HI hk
      generalize frD (d.take (k + 1)) = F' at *
      generalize toD (d.take (k + 1)) = T' at *
      generalize d.getD k opZ = x at *
      obtain ⟨xk, xn, xt⟩ := x
      unfold PlO at hx
      dsimp only at c0 c1 c2 hx
      have hsz := strOfNums_size xt
      rcases hx with ⟨rfl | rfl, hn, rfl⟩ | ⟨rfl, rfl, hn⟩
      · obtain ⟨m, rfl⟩ : ∃ m : Nat, xn = (m : Int) := ⟨xn.toNat, by omega⟩
        rw [show frN ⟨1, (m : Int), []⟩ = m by simp [frN]] at hfr
        rw [show toN ⟨1, (m : Int), []⟩ = m by simp [toN]] at hto
        have hsz0 : (strOfNums []).size = 0 := by simpa using hsz
        obtain ⟨w1, w2, w3⟩ := ca_b hfr hF
        obtain ⟨w4, w5, w6⟩ := ca_b hto hT
        clear hfr hto hn hF hT hsz
        go_wp2_with fail
        go_roundw
        case rel => exact ⟨⟨k + 1, F', T', by go_num, by first | rfl | rw [w1] | rw [w2] | rw [w3] | rw [w1, w3], by first | rfl | rw [w4] | rw [w5] | rw [w6] | rw [w4, w6], hlt, HNX⟩, HB⟩
        case measure => simp [intOf]; omega
      · obtain ⟨m, rfl⟩ : ∃ m : Nat, xn = (m : Int) := ⟨xn.toNat, by omega⟩
        rw [show frN ⟨3, (m : Int), []⟩ = m by simp [frN]] at hfr
        rw [show toN ⟨3, (m : Int), []⟩ = 0 by simp [toN]] at hto
        have hsz0 : (strOfNums []).size = 0 := by simpa using hsz
        obtain ⟨w1, w2, w3⟩ := ca_b hfr hF
        obtain ⟨w4, w5, w6⟩ := ca_b hto hT
        obtain rfl : T' = t := by omega
        clear hfr hto hn hF hT hsz
        go_wp2_with fail
        go_roundw
        case rel => exact ⟨⟨k + 1, F', T', by go_num, by first | rfl | rw [w1] | rw [w2] | rw [w3] | rw [w1, w3], by first | rfl | rw [w4] | rw [w5] | rw [w6] | rw [w4, w6], hlt, HNX⟩, HB⟩
        case measure => simp [intOf]; omega
      · rw [show frN ⟨2, 0, xt⟩ = 0 by simp [frN]] at hfr
        rw [show toN ⟨2, 0, xt⟩ = xt.length by simp [toN]] at hto
        obtain ⟨w1, w2, w3⟩ := ca_b hfr hF
        obtain ⟨w4, w5, w6⟩ := ca_b hto hT
        obtain rfl : F' = f := by omega
        clear hfr hto hn hF hT
        go_wp2_with fail
        go_roundw
        case rel => exact ⟨⟨k + 1, F', T', by go_num, by first | rfl | rw [w1] | rw [w2] | rw [w3] | rw [w1, w3], by first | rfl | rw [w4] | rw [w5] | rw [w6] | rw [w4, w6], hlt, HNX⟩, HB⟩
        case measure => simp [intOf]; omega
    · obtain rfl : k = d.length := by omega
      have t1 : decide ((d.length : Int) < (d.length : Int)) = false := decide_eq_false (by omega)
      obtain ⟨rfl, rfl⟩ : f = L ∧ t = E := by
        have h1 := (unhide HI).ef
        have h2 := (unhide HI).et
        rw [List.take_length] at h1 h2
        exact ⟨h1.trans (unhide HLE).1.symm, h2.trans (unhide HLE).2.symm⟩
      clear HI hk
      go_wp2_with fail
      refine bodyPost_ret (results_tmp2 rfl _ _ _) rfl ⟨rfl, unhide HB⟩

end Go.Proofs.Ytfllomlighlejaa
