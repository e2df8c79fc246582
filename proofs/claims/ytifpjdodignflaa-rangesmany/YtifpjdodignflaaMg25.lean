/- Layer 13, the document's Lens. -/
import Derived.Test.YtifpjdodignflaaMg24

namespace Go.Proofs.Ytifpjdodignflaa
open Go.ChangeShapes Go.WideShapes Go.ChangeAt Go.RowKit
attribute [local go_sem] Oper.semAt_some

theorem apL_kinds : ∀ (m : Int) (d : List Dop), apL m d = true → ∀ o ∈ d, o.k = 1 ∨ o.k = 2 ∨ o.k = 3
  | _, [], _, o, ho => by cases ho
  | m, x :: r, h, o, ho => by
    simp only [apL, Bool.and_eq_true] at h
    rcases List.mem_cons.1 ho with rfl | ho
    · rcases kind_cases o.k with h1 | h1 | h1 | ⟨_, _, _, _, _, _, h1⟩
      · exact .inl h1
      · exact .inr (.inl h1)
      · exact .inr (.inr h1)
      · rw [h1] at h; simp [apB] at h
    · exact apL_kinds _ r h.2 o ho
theorem valB_k {d : List Dop} (h : valB d = true) : ∀ o ∈ d, o.k = 1 ∨ o.k = 2 ∨ o.k = 3 := by
  unfold valB at h
  simp only [Bool.and_eq_true] at h
  exact apL_kinds 7 d h.2.1
/-- what a valid delta's operations are -/
theorem valB_op {d : List Dop} (h : valB d = true) {o : Dop} (ho : o ∈ d) : ((o.k = 1 ∨ o.k = 3) ∧ 1 ≤ o.n ∧ o.t = []) ∨ (o.k = 2 ∧ o.n = 0 ∧ o.t ≠ []) := by
  have hk := valB_k h o ho
  unfold valB at h
  simp only [Bool.and_eq_true] at h
  have hp := List.all_eq_true.1 h.1 o ho
  unfold plB at hp
  rcases hk with h1 | h1 | h1
  · simp [h1] at hp; exact .inl ⟨.inl h1, hp.2, hp.1⟩
  · simp [h1] at hp; exact .inr ⟨h1, hp.2, hp.1⟩
  · simp [h1] at hp; exact .inl ⟨.inr h1, hp.2, hp.1⟩
structure LeI (d : List Dop) (k f t : Nat) : Prop where
  ef : f = frD (d.take k)
  et : t = toD (d.take k)
  z : f ≤ 268435456 ∧ t ≤ 268435456
set_option maxRecDepth 100000 in
set_option maxHeartbeats 4000000 in
theorem RLens_at (a : Option Addr) (c : Nat) (d : List Dop) (w : World) (h : IsO w a d) (hl : d.length ≤ 4611686018427387904) (hv : valB d = true) :
    Calls Try.prog 44 #[.slice a d.length c] w fun y w' => y = .returned (.tuple #[.int .i64 (frD d : Int), .int .i64 (toD d : Int)]) ∧ Below w.heap.size w w' := by
  have HO := hide fun (X : World) (hx : Below w.heap.size w X) => h.below hx (Nat.le_refl _)
  have HV := hide hv
  obtain ⟨L, E, hL, hE⟩ : ∃ L E, L = frD d ∧ E = toD d := ⟨_, _, rfl, rfl⟩
  rw [← hL, ← hE]
  have HLE := hide (And.intro hL hE)
  clear h hv hL hE
  go_enter Try.func44, Try.ntmps44
  go_wp2_with fail
  go_loopw [4, 5, 6, 17] (fun v4 v5 v6 v17 wx => (∃ z, v17 = z) ∧ (∃ (k f t : Nat), v6 = .int .i64 (k : Int) ∧ v4 = .int .i64 (f : Int) ∧ v5 = .int .i64 (t : Int) ∧ k ≤ d.length ∧ Hid (LeI d k f t)) ∧ Hid (Below w.heap.size w wx)) (fun _ _ v6 _ _ => d.length - (intOf v6).toNat)
  case atStart => exact ⟨⟨_, rfl⟩, ⟨0, 0, 0, rfl, rfl, rfl, Nat.zero_le _, hide ⟨rfl, rfl, by omega⟩⟩, hide (Below.refl _ _)⟩
  case round =>
    obtain ⟨⟨z1, rfl⟩, ⟨k, f, t, rfl, rfl, rfl, hk, HI⟩, HB⟩ := hrel
    by_cases hlt : k < d.length
    · have t1 : decide ((k : Int) < (d.length : Int)) = true := decide_eq_true (by omega)
      obtain ⟨g, off, rfl, hg, c0, c1, c2⟩ := (unhide HO wr (unhide HB)).three hlt
      have hx := valB_op (unhide HV) (getD_memD hlt)
      have hz := (unhide HI).z
      have hz2 := (valB_nn (unhide HV)).2
      have hfr := frD_take d hlt
      have hto := toD_take d hlt
      have hle := frD_le d (k + 1)
      rw [← (unhide HI).ef] at hfr
      rw [← (unhide HI).et] at hto
      have HNX : Hid (∀ F T : Nat, F = frD (d.take (k + 1)) → T = toD (d.take (k + 1)) → F ≤ 268435456 ∧ T ≤ 268435456 → LeI d (k + 1) F T) := hide fun F T h1 h2 h3 => ⟨h1, h2, h3⟩
      clear HI hk
      generalize frD (d.take (k + 1)) = F' at *
      generalize toD (d.take (k + 1)) = T' at *
      generalize d.getD k opZ = x at *
      obtain ⟨xk, xn, xt⟩ := x
      dsimp only at c0 c1 c2 hx
      have hsz := strOfNums_size xt
      have HN2 := hide (unhide HNX F' T' rfl rfl (by omega))
      rcases hx with ⟨rfl | rfl, hn, rfl⟩ | ⟨rfl, rfl, hn⟩
      · obtain ⟨m, rfl⟩ : ∃ m : Nat, xn = (m : Int) := ⟨xn.toNat, by omega⟩
        rw [show frN ⟨1, (m : Int), []⟩ = m by simp [frN]] at hfr
        rw [show toN ⟨1, (m : Int), []⟩ = m by simp [toN]] at hto
        obtain ⟨w1, w2, w3⟩ := ca_k hz.1 (by omega) hfr
        obtain ⟨w4, w5, w6⟩ := ca_k hz.2 (by omega) hto
        clear hfr hto hz hz2 hle hn HNX hsz
        go_wp2_with fail
        go_roundw
        case rel => exact ⟨⟨_, rfl⟩, ⟨k + 1, F', T', by go_num, by first | rfl | rw [w1], by first | rfl | rw [w1] | rw [w4], hlt, HN2⟩, HB⟩
        case measure => simp [intOf]; omega
      · obtain ⟨m, rfl⟩ : ∃ m : Nat, xn = (m : Int) := ⟨xn.toNat, by omega⟩
        rw [show frN ⟨3, (m : Int), []⟩ = m by simp [frN]] at hfr
        rw [show toN ⟨3, (m : Int), []⟩ = 0 by simp [toN]] at hto
        obtain ⟨w1, w2, w3⟩ := ca_k hz.1 (by omega) hfr
        obtain rfl : T' = t := by omega
        clear hfr hto hz hz2 hle hn HNX hsz
        go_wp2_with fail
        go_roundw
        case rel => exact ⟨⟨_, rfl⟩, ⟨k + 1, F', T', by go_num, by first | rfl | rw [w1], by first | rfl | rw [w1] | rw [w4], hlt, HN2⟩, HB⟩
        case measure => simp [intOf]; omega
      · rw [show frN ⟨2, 0, xt⟩ = 0 by simp [frN]] at hfr
        rw [show toN ⟨2, 0, xt⟩ = xt.length by simp [toN]] at hto
        obtain rfl : F' = f := by omega
        obtain ⟨w1, w2, w3⟩ := ca_k hz.2 (by omega) hto
        clear hfr hto hz hz2 hle hn HNX
        go_wp2_with fail
        go_roundw
        case rel => exact ⟨⟨_, rfl⟩, ⟨k + 1, F', T', by go_num, by first | rfl | rw [w1], by first | rfl | rw [w1] | rw [w4], hlt, HN2⟩, HB⟩
        case measure => simp [intOf]; omega
    · obtain rfl : k = d.length := by omega
      have t1 : decide ((d.length : Int) < (d.length : Int)) = false := decide_eq_false (by omega)
      obtain ⟨rfl, rfl⟩ : f = L ∧ t = E := by
        have h1 := (unhide HI).ef
        have h2 := (unhide HI).et
        rw [List.take_length] at h1 h2
        exact ⟨h1.trans (unhide HLE).1.symm, h2.trans (unhide HLE).2.symm⟩
      clear HI hk
      go_wp2_with fail
      refine bodyPost_ret (results_tmp2 rfl _ _ _) rfl ⟨rfl, unhide HB⟩

end Go.Proofs.Ytifpjdodignflaa
