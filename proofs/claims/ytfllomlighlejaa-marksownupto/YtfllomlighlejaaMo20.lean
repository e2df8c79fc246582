/- Layer 15: refused (written by wip/tools/mkd.py). -/
import Derived.Test.YtfllomlighlejaaMo19
import Derived.Test.YtfllomlighlejaaMo13
import Derived.Deep.QuietTactic
import Derived.BigQuiet
import Derived.WalkSmall

namespace Go.Proofs.Ytfllomlighlejaa
open Go.ChangeShapes Go.WideShapes Go.ChangeAt Go.RowKit
attribute [local go_sem] Oper.semAt_some

def refM (n : Int) (L : List Mk) (x : Mk) : Int := if x.n.size < 1 ∨ 64 < x.n.size then 6 else if x.p < 0 ∨ n < x.p ∨ ¬ (x.g = 1 ∨ x.g = 2) then 2 else if (getM x.n L).isSome = false ∧ 1024 ≤ L.length then 121 else 0
set_option maxRecDepth 100000 in
set_option maxHeartbeats 4000000 in
theorem MRef_at (g : Nat) (n : Int) (L : List Mk) (x : Mk) (X : World) (h : IsMs X g n L) :
    Calls Try.prog 29 #[.pointer (some ⟨g, 0, none⟩), mkV x] X fun y X' => y = .returned (.int .i64 (refM n L x)) ∧ Below X.heap.size X X' := by
  obtain ⟨xn, xp, xg⟩ := x
  unfold mkV refM
  dsimp only
  have b1 := (Below.refl X.heap.size X).alloc (Nat.le_refl _) (.cells #[.string xn, .int .i64 xp, .int .i64 xg] 42)
  have h1 := h.below b1 (Nat.le_refl _)
  have k1 := Cls.new X 42 #[.string xn, .int .i64 xp, .int .i64 xg]
  have d0 := k1.cell 0
  have d1 := k1.cell 1
  have d2 := k1.cell 2
  simp only [List.getElem?_toArray, List.getElem?_cons_zero, List.getElem?_cons_succ] at d0 d1 d2
  obtain ⟨r, k2, m2⟩ := h1.c
  have c0 := k2.cell 0
  have c1 := k2.cell 1
  simp only [List.getElem?_toArray, List.getElem?_cons_zero, List.getElem?_cons_succ] at c0 c1
  have HB := hide b1
  have HK1 := hide k1
  have HK2 := hide k2
  have HM2 := hide m2
  clear h h1 b1 k1 k2 m2
  obtain ⟨sz, hsz⟩ : ∃ sz : Nat, xn.size = sz := ⟨_, rfl⟩
  rw [hsz]
  by_cases e1 : sz < 1
  · rw [if_pos (.inl e1)]
    have t1 : decide ((sz : Int) < 1) = true := decide_eq_true (by omega)
    clear e1 HK1 HK2 HM2 c0 c1 d1 d2
    go_enter Try.func29, Try.ntmps29
    go_wp2_with fail
    refine bodyPost_ret (results_tmp rfl _ _ _) rfl ⟨rfl, unhide HB⟩
  have t1 : decide ((sz : Int) < 1) = false := decide_eq_false (by omega)
  have t1' : ¬ (sz : Int) < 1 := by omega
  by_cases e2 : 64 < sz
  · rw [if_pos (.inr e2)]
    have t2 : decide ((sz : Int) > 64) = true := decide_eq_true (by omega)
    have t2' : decide ((64 : Int) < (sz : Int)) = true := decide_eq_true (by omega)
    have t2'' : decide (64 < sz) = true := decide_eq_true e2
    clear e1 e2 t1' HK1 HK2 HM2 c0 c1 d1 d2
    go_enter Try.func29, Try.ntmps29
    go_wp2_with fail
    refine bodyPost_ret (results_tmp rfl _ _ _) rfl ⟨rfl, unhide HB⟩
  have t2 : decide ((sz : Int) > 64) = false := decide_eq_false (by omega)
  have t2' : decide ((64 : Int) < (sz : Int)) = false := decide_eq_false (by omega)
  have t2'' : decide (64 < sz) = false := decide_eq_false e2
  rw [if_neg (show ¬ (sz < 1 ∨ 64 < sz) by omega)]
  clear e1 e2 t1'
  by_cases e3 : xp < 0
  · rw [if_pos (.inl e3)]
    have t3 : decide (xp < 0) = true := decide_eq_true e3
    clear e3 HK1 HK2 HM2
    go_enter Try.func29, Try.ntmps29
    go_upto_region 5 with fail
    go_quiet (fail)
    go_wp2_with fail
    refine bodyPost_ret (results_tmp rfl _ _ _) rfl ⟨rfl, below_drewN (unhide HB) _⟩
  have t3 : decide (xp < 0) = false := decide_eq_false e3
  by_cases e4 : n < xp
  · rw [if_pos (.inr (.inl e4))]
    have t4 : decide (xp > n) = true := decide_eq_true e4
    have t4' : decide (n < xp) = true := decide_eq_true e4
    clear e3 e4 HK1 HK2 HM2
    go_enter Try.func29, Try.ntmps29
    go_upto_region 5 with fail
    go_quiet (fail)
    go_wp2_with fail
    refine bodyPost_ret (results_tmp rfl _ _ _) rfl ⟨rfl, below_drewN (unhide HB) _⟩
  have t4 : decide (xp > n) = false := decide_eq_false e4
  have t4' : decide (n < xp) = false := decide_eq_false e4
  by_cases e5 : xg = 1 ∨ xg = 2
  · rw [if_neg (show ¬ (xp < 0 ∨ n < xp ∨ ¬ (xg = 1 ∨ xg = 2)) by omega)]
    clear e3 e4
    obtain ⟨p, q, u, b, hv, hb⟩ : ∃ p q u b, ((getM xn L).map mkV).getD (.agg #[.string ⟨#[]⟩, .int .i64 0, .int .i64 0]) = .agg #[.string p, .int .i64 q, .int .i64 u] ∧ (getM xn L).isSome = b := by
      cases getM xn L with
      | none => exact ⟨_, _, _, _, rfl, rfl⟩
      | some m => exact ⟨m.n, m.p, m.g, true, rfl, rfl⟩
    rw [hb]
    obtain ⟨V, hV⟩ : ∃ V : Int, V = if b = false ∧ 1024 ≤ L.length then 121 else 0 := ⟨_, rfl⟩
    rw [← hV]
    have HV := hide hV
    clear hV
    rcases e5 with rfl | rfl
    · go_enter Try.func29, Try.ntmps29
      go_upto_region 5 with fail
      go_quiet (fail)
      have bq := below_drewN (Below.refl (X.alloc (.cells #[.string xn, .int .i64 xp, .int .i64 1] 42)).heap.size (X.alloc (.cells #[.string xn, .int .i64 xp, .int .i64 1] 42))) nq
      have kx := (unhide HK1).below bq (unhide HK1).lt
      have kg := (unhide HK2).below bq (unhide HK2).lt
      have mq := (unhide HM2).below bq (Nat.le_refl _)
      have HBq := hide ((unhide HB).trans (bq.mono (unhide HB).size))
      clear HK1 HK2 HM2 HB bq c0 c1 d0 d1 d2 t1 t2 t2' t2'' t3 t4 t4'
      generalize (X.alloc (.cells #[.string xn, .int .i64 xp, .int .i64 1] 42)).drewN nq = wq at *
      generalize hgx : X.heap.size = gx at kx ⊢
      have R0 : ∀ Y : World, IsMp Y r L → (Instr.lookup 67 (.map (some r)) (.string xn) true).run Try.prog Y = .ok (.tuple #[.agg #[.string p, .int .i64 q, .int .i64 u], .bool b]) Y := fun Y hY => by
        have := run_lookup_mk (P := Try.prog) Y Try.underlying67 Try.underlying9 (zero_mk _) hY xn
        rw [hv, hb] at this
        exact this
      have SS : ∀ Y : World, Cls Y g 69 #[.int .i64 n, .map (some r)] → Cls Y gx 42 #[.string xn, .int .i64 xp, .int .i64 1] → IsMp Y r L → Y.cell? ⟨g, 1, none⟩ = some (.map (some r)) ∧ Y.cell? ⟨gx, 0, none⟩ = some (.string xn) ∧ (Instr.lookup 67 (.map (some r)) (.string xn) true).run Try.prog Y = .ok (.tuple #[.agg #[.string p, .int .i64 q, .int .i64 u], .bool b]) Y := fun Y h1 h2 h3 => ⟨h1.cell 1, h2.cell 0, R0 Y h3⟩
      have HS0 := hide (SS wq.drew (kg.same rfl) (kx.same rfl) (mq.same rfl))
      have bA := (Below.refl wq.heap.size wq).alloc (Nat.le_refl _) (.cells #[.string ⟨#[]⟩, .int .i64 0, .int .i64 0] 42)
      have bA' : Below wq.heap.size wq (wq.alloc (.cells #[.string ⟨#[]⟩, .int .i64 0, .int .i64 0] 42)).drew := bA.drew
      have kN : Cls (wq.alloc (.cells #[.string ⟨#[]⟩, .int .i64 0, .int .i64 0] 42)).drew wq.heap.size 42 #[.string ⟨#[]⟩, .int .i64 0, .int .i64 0] := (Cls.new wq 42 #[.string ⟨#[]⟩, .int .i64 0, .int .i64 0]).same rfl
      have HSA := hide (SS _ (kg.below bA' kg.lt) (kx.below bA' kx.lt) (mq.below bA' (Nat.le_refl _)))
      have bB := (Below.refl wq.heap.size wq).alloc (Nat.le_refl _) (.cells #[.string p, .int .i64 q, .int .i64 u] 42)
      have bB' : Below wq.heap.size wq (wq.alloc (.cells #[.string p, .int .i64 q, .int .i64 u] 42)).drew := bB.drew
      have HSB := hide (SS _ (kg.below bB' kg.lt) (kx.below bB' kx.lt) (mq.below bB' (Nat.le_refl _)))
      have HBE := hide ((unhide HBq).trans (bB'.mono (unhide HBq).size))
      have HKE := hide (kg.below bB' kg.lt)
      have HME := hide (mq.below bB' (Nat.le_refl _))
      have y0 := kN.cell 0
      have y1 := kN.cell 1
      have y2 := kN.cell 2
      have z0 := kN.frozen 0
      have z1 := kN.frozen 1
      have z2 := kN.frozen 2
      simp only [List.getElem?_toArray, List.getElem?_cons_zero, List.getElem?_cons_succ] at y0 y1 y2
      clear R0 SS bA bA' bB bB' kN kx kg mq hv hb HBq hsz
      go_upto_region 7 with fail
      refine regionL (S := fun w' => w'.cell? ⟨g, 1, none⟩ = some (.map (some r)) ∧ w'.cell? ⟨gx, 0, none⟩ = some (.string xn) ∧ (Instr.lookup 67 (.map (some r)) (.string xn) true).run Try.prog w' = .ok (.tuple #[.agg #[.string p, .int .i64 q, .int .i64 u], .bool b]) w') (fun i => i == 9 || i == 11) (by kernel_rfl) ?_
      refine anyL_take2 (i := 0) (v := ?vrm0) rfl (by kernel_rfl) (by kernel_rfl) (by kernel_rfl) (by kernel_rfl) (fun _ _ _ h => h) (Or.inl ⟨by rfl, ?hrm0⟩) (unhide HS0) ?_
      case hrm0 => (intro w hSw; (try dsimp only at hSw); go_simp) <;> with_reducible rfl
      simp only [Act.put, List.getElem_toArray, List.getElem_cons_zero, List.setIfInBounds_toArray, List.set_cons_zero, List.set_cons_succ]
      refine anyL_take2 (i := 1) (v := ?vrm1) rfl (by kernel_rfl) (by kernel_rfl) (by kernel_rfl) (by kernel_rfl) (fun _ _ _ h => h) (Or.inl ⟨by rfl, ?hrm1⟩) (unhide HS0) ?_
      case hrm1 => (intro w hSw; (try dsimp only at hSw); go_simp) <;> with_reducible rfl
      simp only [Act.put, List.getElem_toArray, List.getElem_cons_zero, List.getElem_cons_succ, List.setIfInBounds_toArray, List.set_cons_zero, List.set_cons_succ]
      refine anyL_take2 (i := 2) (v := ?vrm2) rfl (by kernel_rfl) (by kernel_rfl) (by kernel_rfl) (by kernel_rfl) (fun _ _ _ h => h) (Or.inl ⟨by rfl, ?hrm2⟩) (unhide HS0) ?_
      case hrm2 => (intro w hSw; (try dsimp only at hSw); go_simp) <;> with_reducible rfl
      simp only [Act.put, List.getElem_toArray, List.getElem_cons_zero, List.getElem_cons_succ, List.setIfInBounds_toArray, List.set_cons_zero, List.set_cons_succ]
      refine anyL_take2 (i := 3) (v := ?vrm3) rfl (by kernel_rfl) (by kernel_rfl) (by kernel_rfl) (by kernel_rfl) (fun _ _ _ h => h) (Or.inl ⟨by rfl, ?hrm3⟩) (unhide HS0) ?_
      case hrm3 => (intro w hSw; (try dsimp only at hSw); go_simp) <;> with_reducible rfl
      simp only [Act.put, List.getElem_toArray, List.getElem_cons_zero, List.getElem_cons_succ, List.setIfInBounds_toArray, List.set_cons_zero, List.set_cons_succ]
      refine anyL_take2 (i := 4) (v := ?vrm4) rfl (by kernel_rfl) (by kernel_rfl) (by kernel_rfl) (by kernel_rfl) (fun _ _ _ h => h) (Or.inl ⟨by rfl, ?hrm4⟩) (unhide HS0) ?_
      case hrm4 => (intro w hSw; (try dsimp only at hSw); go_simp) <;> with_reducible rfl
      simp only [Act.put, List.getElem_toArray, List.getElem_cons_zero, List.getElem_cons_succ, List.setIfInBounds_toArray, List.set_cons_zero, List.set_cons_succ]
      refine anyL_take2 (i := 5) (v := ?vrm5) rfl (by kernel_rfl) (by kernel_rfl) (by kernel_rfl) (by kernel_rfl) (fun _ _ _ h => h) (Or.inl ⟨by rfl, ?hrm5⟩) (unhide HS0) ?_
      case hrm5 => (intro w hSw; (try dsimp only at hSw); go_simp) <;> with_reducible rfl
      simp only [Act.put, List.getElem_toArray, List.getElem_cons_zero, List.getElem_cons_succ, List.setIfInBounds_toArray, List.set_cons_zero, List.set_cons_succ]
      refine anyL_take2 (i := 6) (v := ?vrm6) rfl (by kernel_rfl) (by kernel_rfl) (by kernel_rfl) (by kernel_rfl) (fun _ _ _ h => h) (Or.inl ⟨by rfl, ?hrm6⟩) (unhide HS0) ?_
      case hrm6 => (intro w hSw; (try dsimp only at hSw); go_simp) <;> with_reducible rfl
      simp only [Act.put, List.getElem_toArray, List.getElem_cons_zero, List.getElem_cons_succ, List.setIfInBounds_toArray, List.set_cons_zero, List.set_cons_succ]
      refine anyL_take2 (i := 7) (v := ?vrm7) rfl (by kernel_rfl) (by kernel_rfl) (by kernel_rfl) (by kernel_rfl) (fun _ _ _ h => h) (Or.inl ⟨by rfl, ?hrm7⟩) (unhide HS0) ?_
      case hrm7 => (intro w hSw; (try dsimp only at hSw); go_simp) <;> with_reducible rfl
      simp only [Act.put, List.getElem_toArray, List.getElem_cons_zero, List.getElem_cons_succ, List.setIfInBounds_toArray, List.set_cons_zero, List.set_cons_succ]
      refine anyL_free (i := 9) (v := ?vrmf8) rfl (by kernel_rfl) (by kernel_rfl) (by kernel_rfl) rfl (fun _ _ _ h => h) (Or.inl ⟨by rfl, ?hrmf8⟩) ?_
      case hrmf8 => (intro w hSw; go_simp) <;> with_reducible rfl
      simp only [Act.put, List.getElem_toArray, List.getElem_cons_zero, List.getElem_cons_succ, List.setIfInBounds_toArray, List.set_cons_zero, List.set_cons_succ]
      refine anyL_take2 (i := 8) (v := ?vrm9) rfl (by kernel_rfl) (by kernel_rfl) (by kernel_rfl) (by kernel_rfl) (fun _ _ _ h => h) (Or.inl ⟨by rfl, ?hrm9⟩) (unhide HS0) ?_
      case hrm9 => (intro w hSw; (try dsimp only at hSw); go_simp) <;> with_reducible rfl
      simp only [Act.put, List.getElem_toArray, List.getElem_cons_zero, List.getElem_cons_succ, List.setIfInBounds_toArray, List.set_cons_zero, List.set_cons_succ]
      refine anyL_ready (rs := [10]) (by kernel_rfl) (by simp) ?_
      refine AllL.cons rfl (fun K hK => ?_) AllL.nil
      go_simp
      refine unhide hK _ _ (fun _ => unhide HSA) ?_
      clear hK K
      refine anyL_ready (rs := [11]) (by kernel_rfl) (by simp) ?_
      refine AllL.cons rfl (fun K hK => ?_) AllL.nil
      go_simp
      refine unhide hK _ _ (fun h => by cases h) ?_
      clear hK K
      refine anyL_take2 (i := 12) (v := ?vrm10) rfl (by kernel_rfl) (by kernel_rfl) (by kernel_rfl) (by kernel_rfl) (fun _ _ _ h => h) (Or.inl ⟨by rfl, ?hrm10⟩) (unhide HSB) ?_
      case hrm10 => (intro w hSw; (try dsimp only at hSw); go_simp) <;> with_reducible rfl
      simp only [Act.put, List.getElem_toArray, List.getElem_cons_zero, List.getElem_cons_succ, List.setIfInBounds_toArray, List.set_cons_zero, List.set_cons_succ]
      refine anyL_done (by kernel_rfl) ?_ _
      clear HS0 HSA HSB y0 y1 y2 z0 z1 z2
      cases b with
      | true =>
        have hV := unhide HV
        rw [if_neg (show ¬ (true = false ∧ 1024 ≤ L.length) from fun h => by cases h.1)] at hV
        subst hV
        clear HV
        go_wp2_with fail
        refine bodyPost_ret (results_tmp rfl _ _ _) rfl ⟨rfl, unhide HBE⟩
      | false =>
        obtain ⟨es, clock, hh, hz⟩ := (unhide HME).len
        have k1 := (unhide HKE).cell 1
        simp only [List.getElem?_toArray, List.getElem?_cons_zero, List.getElem?_cons_succ] at k1
        clear HME HKE
        generalize (wq.alloc (.cells #[.string p, .int .i64 q, .int .i64 u] 42)).drew = w9 at *
        have RL := run_len_map (P := Try.prog) (w := w9) 67 3 r es clock (by kernel_rfl) hh
        simp only [goInt] at RL
        have hV := unhide HV
        rw [← hz] at hV
        clear hz HV hh
        by_cases hN : 1024 ≤ es.size
        · rw [if_pos ⟨rfl, hN⟩] at hV
          subst hV
          have q1 : decide ((es.size : Int) ≥ 1024) = true := decide_eq_true (by omega)
          have q2 : decide ((1024 : Int) ≤ (es.size : Int)) = true := decide_eq_true (by omega)
          have q3 : decide (1024 ≤ es.size) = true := decide_eq_true hN
          clear hN
          go_wp2_with fail
          refine bodyPost_ret (results_tmp rfl _ _ _) rfl ⟨rfl, unhide HBE⟩
        · rw [if_neg (fun h => hN h.2)] at hV
          subst hV
          have q1 : decide ((es.size : Int) ≥ 1024) = false := decide_eq_false (by omega)
          have q2 : decide ((1024 : Int) ≤ (es.size : Int)) = false := decide_eq_false (by omega)
          have q3 : decide (1024 ≤ es.size) = false := decide_eq_false hN
          clear hN
          go_wp2_with fail
          refine bodyPost_ret (results_tmp rfl _ _ _) rfl ⟨rfl, unhide HBE⟩
    · go_enter Try.func29, Try.ntmps29
      go_upto_region 5 with fail
      go_quiet (fail)
      have bq := below_drewN (Below.refl (X.alloc (.cells #[.string xn, .int .i64 xp, .int .i64 2] 42)).heap.size (X.alloc (.cells #[.string xn, .int .i64 xp, .int .i64 2] 42))) nq
      have kx := (unhide HK1).below bq (unhide HK1).lt
      have kg := (unhide HK2).below bq (unhide HK2).lt
      have mq := (unhide HM2).below bq (Nat.le_refl _)
      have HBq := hide ((unhide HB).trans (bq.mono (unhide HB).size))
      clear HK1 HK2 HM2 HB bq c0 c1 d0 d1 d2 t1 t2 t2' t2'' t3 t4 t4'
      generalize (X.alloc (.cells #[.string xn, .int .i64 xp, .int .i64 2] 42)).drewN nq = wq at *
      generalize hgx : X.heap.size = gx at kx ⊢
      have R0 : ∀ Y : World, IsMp Y r L → (Instr.lookup 67 (.map (some r)) (.string xn) true).run Try.prog Y = .ok (.tuple #[.agg #[.string p, .int .i64 q, .int .i64 u], .bool b]) Y := fun Y hY => by
        have := run_lookup_mk (P := Try.prog) Y Try.underlying67 Try.underlying9 (zero_mk _) hY xn
        rw [hv, hb] at this
        exact this
      have SS : ∀ Y : World, Cls Y g 69 #[.int .i64 n, .map (some r)] → Cls Y gx 42 #[.string xn, .int .i64 xp, .int .i64 2] → IsMp Y r L → Y.cell? ⟨g, 1, none⟩ = some (.map (some r)) ∧ Y.cell? ⟨gx, 0, none⟩ = some (.string xn) ∧ (Instr.lookup 67 (.map (some r)) (.string xn) true).run Try.prog Y = .ok (.tuple #[.agg #[.string p, .int .i64 q, .int .i64 u], .bool b]) Y := fun Y h1 h2 h3 => ⟨h1.cell 1, h2.cell 0, R0 Y h3⟩
      have HS0 := hide (SS wq.drew (kg.same rfl) (kx.same rfl) (mq.same rfl))
      have bA := (Below.refl wq.heap.size wq).alloc (Nat.le_refl _) (.cells #[.string ⟨#[]⟩, .int .i64 0, .int .i64 0] 42)
      have bA' : Below wq.heap.size wq (wq.alloc (.cells #[.string ⟨#[]⟩, .int .i64 0, .int .i64 0] 42)).drew := bA.drew
      have kN : Cls (wq.alloc (.cells #[.string ⟨#[]⟩, .int .i64 0, .int .i64 0] 42)).drew wq.heap.size 42 #[.string ⟨#[]⟩, .int .i64 0, .int .i64 0] := (Cls.new wq 42 #[.string ⟨#[]⟩, .int .i64 0, .int .i64 0]).same rfl
      have HSA := hide (SS _ (kg.below bA' kg.lt) (kx.below bA' kx.lt) (mq.below bA' (Nat.le_refl _)))
      have bB := (Below.refl wq.heap.size wq).alloc (Nat.le_refl _) (.cells #[.string p, .int .i64 q, .int .i64 u] 42)
      have bB' : Below wq.heap.size wq (wq.alloc (.cells #[.string p, .int .i64 q, .int .i64 u] 42)).drew := bB.drew
      have HSB := hide (SS _ (kg.below bB' kg.lt) (kx.below bB' kx.lt) (mq.below bB' (Nat.le_refl _)))
      have HBE := hide ((unhide HBq).trans (bB'.mono (unhide HBq).size))
      have HKE := hide (kg.below bB' kg.lt)
      have HME := hide (mq.below bB' (Nat.le_refl _))
      have y0 := kN.cell 0
      have y1 := kN.cell 1
      have y2 := kN.cell 2
      have z0 := kN.frozen 0
      have z1 := kN.frozen 1
      have z2 := kN.frozen 2
      simp only [List.getElem?_toArray, List.getElem?_cons_zero, List.getElem?_cons_succ] at y0 y1 y2
      clear R0 SS bA bA' bB bB' kN kx kg mq hv hb HBq hsz
      go_upto_region 7 with fail
      refine regionL (S := fun w' => w'.cell? ⟨g, 1, none⟩ = some (.map (some r)) ∧ w'.cell? ⟨gx, 0, none⟩ = some (.string xn) ∧ (Instr.lookup 67 (.map (some r)) (.string xn) true).run Try.prog w' = .ok (.tuple #[.agg #[.string p, .int .i64 q, .int .i64 u], .bool b]) w') (fun i => i == 9 || i == 11) (by kernel_rfl) ?_
      refine anyL_take2 (i := 0) (v := ?vrm11) rfl (by kernel_rfl) (by kernel_rfl) (by kernel_rfl) (by kernel_rfl) (fun _ _ _ h => h) (Or.inl ⟨by rfl, ?hrm11⟩) (unhide HS0) ?_
      case hrm11 => (intro w hSw; (try dsimp only at hSw); go_simp) <;> with_reducible rfl
      simp only [Act.put, List.getElem_toArray, List.getElem_cons_zero, List.setIfInBounds_toArray, List.set_cons_zero, List.set_cons_succ]
      refine anyL_take2 (i := 1) (v := ?vrm12) rfl (by kernel_rfl) (by kernel_rfl) (by kernel_rfl) (by kernel_rfl) (fun _ _ _ h => h) (Or.inl ⟨by rfl, ?hrm12⟩) (unhide HS0) ?_
      case hrm12 => (intro w hSw; (try dsimp only at hSw); go_simp) <;> with_reducible rfl
      simp only [Act.put, List.getElem_toArray, List.getElem_cons_zero, List.getElem_cons_succ, List.setIfInBounds_toArray, List.set_cons_zero, List.set_cons_succ]
      refine anyL_take2 (i := 2) (v := ?vrm13) rfl (by kernel_rfl) (by kernel_rfl) (by kernel_rfl) (by kernel_rfl) (fun _ _ _ h => h) (Or.inl ⟨by rfl, ?hrm13⟩) (unhide HS0) ?_
      case hrm13 => (intro w hSw; (try dsimp only at hSw); go_simp) <;> with_reducible rfl
      simp only [Act.put, List.getElem_toArray, List.getElem_cons_zero, List.getElem_cons_succ, List.setIfInBounds_toArray, List.set_cons_zero, List.set_cons_succ]
      refine anyL_take2 (i := 3) (v := ?vrm14) rfl (by kernel_rfl) (by kernel_rfl) (by kernel_rfl) (by kernel_rfl) (fun _ _ _ h => h) (Or.inl ⟨by rfl, ?hrm14⟩) (unhide HS0) ?_
      case hrm14 => (intro w hSw; (try dsimp only at hSw); go_simp) <;> with_reducible rfl
      simp only [Act.put, List.getElem_toArray, List.getElem_cons_zero, List.getElem_cons_succ, List.setIfInBounds_toArray, List.set_cons_zero, List.set_cons_succ]
      refine anyL_take2 (i := 4) (v := ?vrm15) rfl (by kernel_rfl) (by kernel_rfl) (by kernel_rfl) (by kernel_rfl) (fun _ _ _ h => h) (Or.inl ⟨by rfl, ?hrm15⟩) (unhide HS0) ?_
      case hrm15 => (intro w hSw; (try dsimp only at hSw); go_simp) <;> with_reducible rfl
      simp only [Act.put, List.getElem_toArray, List.getElem_cons_zero, List.getElem_cons_succ, List.setIfInBounds_toArray, List.set_cons_zero, List.set_cons_succ]
      refine anyL_take2 (i := 5) (v := ?vrm16) rfl (by kernel_rfl) (by kernel_rfl) (by kernel_rfl) (by kernel_rfl) (fun _ _ _ h => h) (Or.inl ⟨by rfl, ?hrm16⟩) (unhide HS0) ?_
      case hrm16 => (intro w hSw; (try dsimp only at hSw); go_simp) <;> with_reducible rfl
      simp only [Act.put, List.getElem_toArray, List.getElem_cons_zero, List.getElem_cons_succ, List.setIfInBounds_toArray, List.set_cons_zero, List.set_cons_succ]
      refine anyL_take2 (i := 6) (v := ?vrm17) rfl (by kernel_rfl) (by kernel_rfl) (by kernel_rfl) (by kernel_rfl) (fun _ _ _ h => h) (Or.inl ⟨by rfl, ?hrm17⟩) (unhide HS0) ?_
      case hrm17 => (intro w hSw; (try dsimp only at hSw); go_simp) <;> with_reducible rfl
      simp only [Act.put, List.getElem_toArray, List.getElem_cons_zero, List.getElem_cons_succ, List.setIfInBounds_toArray, List.set_cons_zero, List.set_cons_succ]
      refine anyL_take2 (i := 7) (v := ?vrm18) rfl (by kernel_rfl) (by kernel_rfl) (by kernel_rfl) (by kernel_rfl) (fun _ _ _ h => h) (Or.inl ⟨by rfl, ?hrm18⟩) (unhide HS0) ?_
      case hrm18 => (intro w hSw; (try dsimp only at hSw); go_simp) <;> with_reducible rfl
      simp only [Act.put, List.getElem_toArray, List.getElem_cons_zero, List.getElem_cons_succ, List.setIfInBounds_toArray, List.set_cons_zero, List.set_cons_succ]
      refine anyL_free (i := 9) (v := ?vrmf19) rfl (by kernel_rfl) (by kernel_rfl) (by kernel_rfl) rfl (fun _ _ _ h => h) (Or.inl ⟨by rfl, ?hrmf19⟩) ?_
      case hrmf19 => (intro w hSw; go_simp) <;> with_reducible rfl
      simp only [Act.put, List.getElem_toArray, List.getElem_cons_zero, List.getElem_cons_succ, List.setIfInBounds_toArray, List.set_cons_zero, List.set_cons_succ]
      refine anyL_take2 (i := 8) (v := ?vrm20) rfl (by kernel_rfl) (by kernel_rfl) (by kernel_rfl) (by kernel_rfl) (fun _ _ _ h => h) (Or.inl ⟨by rfl, ?hrm20⟩) (unhide HS0) ?_
      case hrm20 => (intro w hSw; (try dsimp only at hSw); go_simp) <;> with_reducible rfl
      simp only [Act.put, List.getElem_toArray, List.getElem_cons_zero, List.getElem_cons_succ, List.setIfInBounds_toArray, List.set_cons_zero, List.set_cons_succ]
      refine anyL_ready (rs := [10]) (by kernel_rfl) (by simp) ?_
      refine AllL.cons rfl (fun K hK => ?_) AllL.nil
      go_simp
      refine unhide hK _ _ (fun _ => unhide HSA) ?_
      clear hK K
      refine anyL_ready (rs := [11]) (by kernel_rfl) (by simp) ?_
      refine AllL.cons rfl (fun K hK => ?_) AllL.nil
      go_simp
      refine unhide hK _ _ (fun h => by cases h) ?_
      clear hK K
      refine anyL_take2 (i := 12) (v := ?vrm21) rfl (by kernel_rfl) (by kernel_rfl) (by kernel_rfl) (by kernel_rfl) (fun _ _ _ h => h) (Or.inl ⟨by rfl, ?hrm21⟩) (unhide HSB) ?_
      case hrm21 => (intro w hSw; (try dsimp only at hSw); go_simp) <;> with_reducible rfl
      simp only [Act.put, List.getElem_toArray, List.getElem_cons_zero, List.getElem_cons_succ, List.setIfInBounds_toArray, List.set_cons_zero, List.set_cons_succ]
      refine anyL_done (by kernel_rfl) ?_ _
      clear HS0 HSA HSB y0 y1 y2 z0 z1 z2
      cases b with
      | true =>
        have hV := unhide HV
        rw [if_neg (show ¬ (true = false ∧ 1024 ≤ L.length) from fun h => by cases h.1)] at hV
        subst hV
        clear HV
        go_wp2_with fail
        refine bodyPost_ret (results_tmp rfl _ _ _) rfl ⟨rfl, unhide HBE⟩
      | false =>
        obtain ⟨es, clock, hh, hz⟩ := (unhide HME).len
        have k1 := (unhide HKE).cell 1
        simp only [List.getElem?_toArray, List.getElem?_cons_zero, List.getElem?_cons_succ] at k1
        clear HME HKE
        generalize (wq.alloc (.cells #[.string p, .int .i64 q, .int .i64 u] 42)).drew = w9 at *
        have RL := run_len_map (P := Try.prog) (w := w9) 67 3 r es clock (by kernel_rfl) hh
        simp only [goInt] at RL
        have hV := unhide HV
        rw [← hz] at hV
        clear hz HV hh
        by_cases hN : 1024 ≤ es.size
        · rw [if_pos ⟨rfl, hN⟩] at hV
          subst hV
          have q1 : decide ((es.size : Int) ≥ 1024) = true := decide_eq_true (by omega)
          have q2 : decide ((1024 : Int) ≤ (es.size : Int)) = true := decide_eq_true (by omega)
          have q3 : decide (1024 ≤ es.size) = true := decide_eq_true hN
          clear hN
          go_wp2_with fail
          refine bodyPost_ret (results_tmp rfl _ _ _) rfl ⟨rfl, unhide HBE⟩
        · rw [if_neg (fun h => hN h.2)] at hV
          subst hV
          have q1 : decide ((es.size : Int) ≥ 1024) = false := decide_eq_false (by omega)
          have q2 : decide ((1024 : Int) ≤ (es.size : Int)) = false := decide_eq_false (by omega)
          have q3 : decide (1024 ≤ es.size) = false := decide_eq_false hN
          clear hN
          go_wp2_with fail
          refine bodyPost_ret (results_tmp rfl _ _ _) rfl ⟨rfl, unhide HBE⟩
  · rw [if_pos (.inr (.inr e5))]
    have t5 : (xg != 1) = true := by simp; omega
    have t5' : (xg == 1) = false := by simp; omega
    have t6 : (xg != 2) = true := by simp; omega
    have t6' : (xg == 2) = false := by simp; omega
    clear e3 e4 e5 HK1 HK2 HM2
    go_enter Try.func29, Try.ntmps29
    go_upto_region 5 with fail
    go_quiet (fail)
    go_wp2_with fail
    refine bodyPost_ret (results_tmp rfl _ _ _) rfl ⟨rfl, below_drewN (unhide HB) _⟩
end Go.Proofs.Ytfllomlighlejaa
