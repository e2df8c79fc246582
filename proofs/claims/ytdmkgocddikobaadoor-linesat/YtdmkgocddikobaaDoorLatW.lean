/- LinesAt: the walk (written by wip/tools/lat7.py). -/
import Derived.Test.YtdmkgocddikobaaDoorLatM
import Derived.Test.YtdmkgocddikobaaDoorLayA
namespace Go.Proofs.YtdmkgocddikobaaDoor
open Go.ChangeShapes Go.WideShapes Go.ChangeAt Go.RowKit
attribute [local go_sem] Oper.semAt_some

theorem cells4w {Y : World} {N : Nat} {t : TypeId} {x0 x1 x2 x3 : Value} (h : Cls Y N t #[x0, x1, x2, x3]) : Y.cell? ⟨N, 0, none⟩ = some x0 ∧ Y.cell? ⟨N, 1, none⟩ = some x1 ∧ Y.cell? ⟨N, 2, none⟩ = some x2 ∧ Y.cell? ⟨N, 3, none⟩ = some x3 := ⟨(h.cell 0).trans rfl, (h.cell 1).trans rfl, (h.cell 2).trans rfl, (h.cell 3).trans rfl⟩

set_option maxRecDepth 100000 in
set_option maxHeartbeats 8000000 in
theorem LinesAt_any (a0 : Option Addr) (cap : Nat) (l : List Int) (b0 : Option Addr) (capb : Nat) (q : List Ak) (w : World) (hB : IsB w a0 cap l) (hQ : IsAk w b0 q) (hT : Tab w) :
    Calls Tryd.prog 4 #[.slice a0 l.length cap, .slice b0 q.length capb] w fun e w' => e = .returned (.bool true) ∧ Below w.heap.size w w' := by
  have L0 : Lw w a0 cap l [] w := ⟨hB, hT, Below.refl _ _, fun y hy => by cases hy⟩
  have hqn : q.length ≤ 9223372036854775807 := by have := hQ.1; unfold maxLen at this; omega
  have HQ := hide hQ
  clear hB hT hQ
  have h1 := awake7_any w L0.t
  go_enter Tryd.func4, Tryd.ntmps4
  go_wp2_with fail
  refine h1.mono ?_
  rintro e y1 ⟨rfl, x1⟩
  have L1 := L0.on x1
  clear h1 x1 L0
  go_wp2_with fail
  refine (Large_at a0 l.length cap y1).mono ?_
  rintro e w1' ⟨rfl, hw1⟩
  rw [hw1]
  clear hw1 w1'
  by_cases hL : 600 < l.length
  · have q1 : decide (600 < l.length) = true := decide_eq_true hL
    rw [q1]
    go_wp2_with fail
    go_ret
    exact ⟨rfl, L1.d⟩
  · have q1 : decide (600 < l.length) = false := decide_eq_false hL
    rw [q1]
    have hl6 : l.length ≤ 600 := by omega
    clear q1 hL
    go_wp2_with fail
    go_loopw [5, 6, 7, 8, 9, 10, 11, 12, 13, 14, 15] (fun v5 v6 v7 v8 v9 v10 v11 v12 v13 v14 v15 wx => ∃ k : Nat, v5 = .int .i64 (k : Int) ∧ k ≤ q.length ∧ (∃ z, v6 = z) ∧ (∃ z, v7 = z) ∧ (∃ z, v8 = z) ∧ (∃ z, v9 = z) ∧ (∃ z, v10 = z) ∧ (∃ z, v11 = z) ∧ (∃ z, v12 = z) ∧ (∃ z, v13 = z) ∧ (∃ z, v14 = z) ∧ (∃ z, v15 = z) ∧ Hid (Lw w a0 cap l [] wx)) (fun v5 _ _ _ _ _ _ _ _ _ _ _ => q.length - (intOf v5).toNat)
    case atStart => exact ⟨0, rfl, Nat.zero_le _, ⟨_, rfl⟩, ⟨_, rfl⟩, ⟨_, rfl⟩, ⟨_, rfl⟩, ⟨_, rfl⟩, ⟨_, rfl⟩, ⟨_, rfl⟩, ⟨_, rfl⟩, ⟨_, rfl⟩, ⟨_, rfl⟩, hide L1⟩
    case round =>
      clear L1
      obtain ⟨k, rfl, hk, ⟨z6', rfl⟩, ⟨z7', rfl⟩, ⟨z8', rfl⟩, ⟨z9', rfl⟩, ⟨z10', rfl⟩, ⟨z11', rfl⟩, ⟨z12', rfl⟩, ⟨z13', rfl⟩, ⟨z14', rfl⟩, ⟨z15', rfl⟩, HI⟩ := hrel
      by_cases hlt : k < q.length
      · have t1 := lt_int hlt
        obtain ⟨gA, oA, rfl, hcell⟩ : ∃ g off, b0 = some ⟨g, off, none⟩ ∧ ∀ X, Below w.heap.size w X → X.cell? ⟨g, off + k * 4, none⟩ = some (.int .i64 (q.getD k zA).1) ∧ X.cell? ⟨g, off + (k * 4 + 1), none⟩ = some (.int .i64 (q.getD k zA).2.1) ∧ X.cell? ⟨g, off + (k * 4 + 2), none⟩ = some (.int .i64 (q.getD k zA).2.2.1) ∧ X.cell? ⟨g, off + (k * 4 + 3), none⟩ = some (.int .i64 (q.getD k zA).2.2.2) := by
          rcases (unhide HQ).2 with h | ⟨g, off, h1, hg, hr⟩
          · rw [h] at hlt; simp at hlt
          · refine ⟨g, off, h1, fun X hX => ?_⟩
            rcases ((unhide HQ).below hX (Nat.le_refl _)).2 with h | ⟨g', off', h1', _, hr'⟩
            · rw [h] at hlt; simp at hlt
            · obtain ⟨rfl, rfl⟩ : g = g' ∧ off = off' := by rw [h1] at h1'; simp at h1'; exact h1'
              exact hr' k hlt
        obtain ⟨d0, d1, d2, d3⟩ := hcell _ (unhide HI).d
        clear hcell
        generalize (q.getD k zA).1 = li at *
        generalize (q.getD k zA).2.1 = co at *
        generalize (q.getD k zA).2.2.1 = ru at *
        generalize (q.getD k zA).2.2.2 = mo at *
        have d1' := d1
        have d2' := d2
        have d3' := d3
        rw [← Nat.add_assoc] at d1' d2' d3'
        have HI2 := hide ((unhide HI).new 44 #[.int .i64 li, .int .i64 co, .int .i64 ru, .int .i64 mo])
        clear HI
        go_wp2_with fail
        clear d0 d1 d2 d3 d1' d2' d3'
        generalize hgx : wr.heap.size = gx at *
        clear hgx
        generalize wr.alloc (.cells #[.int .i64 li, .int .i64 co, .int .i64 ru, .int .i64 mo] 44) = wA at *
        have HCE : Hid (∀ X, Lw w a0 cap l [(gx, 44, #[.int .i64 li, .int .i64 co, .int .i64 ru, .int .i64 mo])] X → (X.cell? ⟨gx, 0, none⟩ = some (.int .i64 li) ∧ X.cell? ⟨gx, 1, none⟩ = some (.int .i64 co) ∧ X.cell? ⟨gx, 2, none⟩ = some (.int .i64 ru) ∧ X.cell? ⟨gx, 3, none⟩ = some (.int .i64 mo))) := hide fun X h => cells4w h.one
        go_loopw [7, 8, 9, 10, 11] (fun v7 v8 v9 v10 v11 wx => ∃ c : Int, v7 = .int .i64 c ∧ -1 ≤ c ∧ c ≤ 12 ∧ (∃ z, v8 = z) ∧ (∃ z, v9 = z) ∧ (∃ z, v10 = z) ∧ (∃ z, v11 = z) ∧ Hid (Lw w a0 cap l [(gx, 44, #[.int .i64 li, .int .i64 co, .int .i64 ru, .int .i64 mo])] wx)) (fun v7 _ _ _ _ _ => (12 - intOf v7).toNat)
        case atStart => exact ⟨-1, rfl, by omega, by omega, ⟨_, rfl⟩, ⟨_, rfl⟩, ⟨_, rfl⟩, ⟨_, rfl⟩, HI2⟩
        case round =>
          clear HI2
          obtain ⟨c, rfl, hc1, hc2, ⟨z8', rfl⟩, ⟨z9', rfl⟩, ⟨z10', rfl⟩, ⟨z11', rfl⟩, HJ⟩ := hrel
          by_cases hcl : c < 12
          · have t2 : decide (c < 12) = true := decide_eq_true hcl
            have HWR : Hid (wrap64 (c + 1) = c + 1) := hide (wrap_in _ (by omega) (by omega))
            have HP := hide (And.intro hc1 hcl)
            clear hc1 hc2 hcl
            go_wp2_with fail
            have HLd := hide ((unhide HJ).on (drew_belowL _))
            clear HJ
            refine regionL (S := fun w' => w'.cell? ⟨gx, 0, none⟩ = some (.int .i64 li) ∧ w'.cell? ⟨gx, 1, none⟩ = some (.int .i64 co) ∧ w'.cell? ⟨gx, 2, none⟩ = some (.int .i64 ru) ∧ w'.cell? ⟨gx, 3, none⟩ = some (.int .i64 mo)) (fun _ => false) (by kernel_rfl) ?_
            generalize wr.drew = z0 at *
            refine anyL_take (i := 0) (v := ?va0) rfl (by kernel_rfl) (by kernel_rfl) (by kernel_rfl) (by kernel_rfl) (fun _ _ _ h => h) (Or.inl ⟨by rfl, ?ha0⟩) (unhide HCE _ (unhide HLd)) ?_
            case ha0 => (intro w hSw; (try dsimp only at hSw); go_simp) <;> with_reducible rfl
            simp only [Act.put, List.getElem_toArray, List.getElem_cons_zero, List.setIfInBounds_toArray, List.set_cons_zero, List.set_cons_succ]
            refine anyL_take (i := 2) (v := ?va1) rfl (by kernel_rfl) (by kernel_rfl) (by kernel_rfl) (by kernel_rfl) (fun _ _ _ h => h) (Or.inl ⟨by rfl, ?ha1⟩) (unhide HCE _ (unhide HLd)) ?_
            case ha1 => (intro w hSw; (try dsimp only at hSw); go_simp) <;> with_reducible rfl
            simp only [Act.put, List.getElem_toArray, List.getElem_cons_zero, List.getElem_cons_succ, List.setIfInBounds_toArray, List.set_cons_zero, List.set_cons_succ]
            refine anyL_take (i := 3) (v := ?va2) rfl (by kernel_rfl) (by kernel_rfl) (by kernel_rfl) (by kernel_rfl) (fun _ _ _ h => h) (Or.inl ⟨by rfl, ?ha2⟩) (unhide HCE _ (unhide HLd)) ?_
            case ha2 => (intro w hSw; (try dsimp only at hSw); go_simp) <;> with_reducible rfl
            simp only [Act.put, List.getElem_toArray, List.getElem_cons_zero, List.getElem_cons_succ, List.setIfInBounds_toArray, List.set_cons_zero, List.set_cons_succ]
            refine anyL_take (i := 4) (v := ?va3) rfl (by kernel_rfl) (by kernel_rfl) (by kernel_rfl) (by kernel_rfl) (fun _ _ _ h => h) (Or.inl ⟨by rfl, ?ha3⟩) (unhide HCE _ (unhide HLd)) ?_
            case ha3 => (intro w hSw; (try dsimp only at hSw); go_simp) <;> with_reducible rfl
            simp only [Act.put, List.getElem_toArray, List.getElem_cons_zero, List.getElem_cons_succ, List.setIfInBounds_toArray, List.set_cons_zero, List.set_cons_succ]
            refine anyL_take (i := 5) (v := ?va4) rfl (by kernel_rfl) (by kernel_rfl) (by kernel_rfl) (by kernel_rfl) (fun _ _ _ h => h) (Or.inl ⟨by rfl, ?ha4⟩) (unhide HCE _ (unhide HLd)) ?_
            case ha4 => (intro w hSw; (try dsimp only at hSw); go_simp) <;> with_reducible rfl
            simp only [Act.put, List.getElem_toArray, List.getElem_cons_zero, List.getElem_cons_succ, List.setIfInBounds_toArray, List.set_cons_zero, List.set_cons_succ]
            refine anyL_take (i := 6) (v := ?va5) rfl (by kernel_rfl) (by kernel_rfl) (by kernel_rfl) (by kernel_rfl) (fun _ _ _ h => h) (Or.inl ⟨by rfl, ?ha5⟩) (unhide HCE _ (unhide HLd)) ?_
            case ha5 => (intro w hSw; (try dsimp only at hSw); go_simp) <;> with_reducible rfl
            simp only [Act.put, List.getElem_toArray, List.getElem_cons_zero, List.getElem_cons_succ, List.setIfInBounds_toArray, List.set_cons_zero, List.set_cons_succ]
            refine anyL_take (i := 7) (v := ?va6) rfl (by kernel_rfl) (by kernel_rfl) (by kernel_rfl) (by kernel_rfl) (fun _ _ _ h => h) (Or.inl ⟨by rfl, ?ha6⟩) (unhide HCE _ (unhide HLd)) ?_
            case ha6 => (intro w hSw; (try dsimp only at hSw); go_simp) <;> with_reducible rfl
            simp only [Act.put, List.getElem_toArray, List.getElem_cons_zero, List.getElem_cons_succ, List.setIfInBounds_toArray, List.set_cons_zero, List.set_cons_succ]
            refine anyL_take (i := 8) (v := ?va7) rfl (by kernel_rfl) (by kernel_rfl) (by kernel_rfl) (by kernel_rfl) (fun _ _ _ h => h) (Or.inl ⟨by rfl, ?ha7⟩) (unhide HCE _ (unhide HLd)) ?_
            case ha7 => (intro w hSw; (try dsimp only at hSw); go_simp) <;> with_reducible rfl
            simp only [Act.put, List.getElem_toArray, List.getElem_cons_zero, List.getElem_cons_succ, List.setIfInBounds_toArray, List.set_cons_zero, List.set_cons_succ]
            refine anyL_take (i := 9) (v := ?va8) rfl (by kernel_rfl) (by kernel_rfl) (by kernel_rfl) (by kernel_rfl) (fun _ _ _ h => h) (Or.inl ⟨by rfl, ?ha8⟩) (unhide HCE _ (unhide HLd)) ?_
            case ha8 => (intro w hSw; (try dsimp only at hSw); go_simp) <;> with_reducible rfl
            simp only [Act.put, List.getElem_toArray, List.getElem_cons_zero, List.getElem_cons_succ, List.setIfInBounds_toArray, List.set_cons_zero, List.set_cons_succ]
            refine anyL_take (i := 10) (v := ?va9) rfl (by kernel_rfl) (by kernel_rfl) (by kernel_rfl) (by kernel_rfl) (fun _ _ _ h => h) (Or.inl ⟨by rfl, ?ha9⟩) (unhide HCE _ (unhide HLd)) ?_
            case ha9 => (intro w hSw; (try dsimp only at hSw); go_simp) <;> with_reducible rfl
            simp only [Act.put, List.getElem_toArray, List.getElem_cons_zero, List.getElem_cons_succ, List.setIfInBounds_toArray, List.set_cons_zero, List.set_cons_succ]
            refine anyL_ready (rs := [1]) (by kernel_rfl) (by simp) ?_
            refine AllL.cons rfl (fun K hK => ?_) AllL.nil
            go_simp
            refine (own7_at a0 cap l _ (unhide HLd).b).mono ?_
            rintro e z1 ⟨a9, c9, rfl, j9, bx⟩
            have HLe := hide ((unhide HLd).on bx)
            refine unhide hK _ _ (fun _ => unhide HCE _ (unhide HLe)) ?_
            clear hK K bx HLd
            refine anyL_ready (rs := [11]) (by kernel_rfl) (by simp) ?_
            refine AllL.cons rfl (fun K hK => ?_) AllL.nil
            go_simp
            refine (AtL_at a9 c9 l li c ru mo _ j9 (unhide HLe).t).mono ?_
            rintro e z2 ⟨rfl, bx⟩
            have HLf := hide ((unhide HLe).on bx)
            refine unhide hK _ _ (fun _ => unhide HCE _ (unhide HLf)) ?_
            clear hK K bx HLe j9
            refine anyL_take (i := 12) (v := ?va10) rfl (by kernel_rfl) (by kernel_rfl) (by kernel_rfl) (by kernel_rfl) (fun _ _ _ h => h) (Or.inl ⟨by rfl, ?ha10⟩) (unhide HCE _ (unhide HLf)) ?_
            case ha10 => (intro w hSw; (try dsimp only at hSw); go_simp) <;> with_reducible rfl
            simp only [Act.put, List.getElem_toArray, List.getElem_cons_zero, List.getElem_cons_succ, List.setIfInBounds_toArray, List.set_cons_zero, List.set_cons_succ]
            refine anyL_take (i := 13) (v := ?va11) rfl (by kernel_rfl) (by kernel_rfl) (by kernel_rfl) (by kernel_rfl) (fun _ _ _ h => h) (Or.inl ⟨by rfl, ?ha11⟩) (unhide HCE _ (unhide HLf)) ?_
            case ha11 => (intro w hSw; (try dsimp only at hSw); go_simp) <;> with_reducible rfl
            simp only [Act.put, List.getElem_toArray, List.getElem_cons_zero, List.getElem_cons_succ, List.setIfInBounds_toArray, List.set_cons_zero, List.set_cons_succ]
            refine anyL_take (i := 14) (v := ?va12) rfl (by kernel_rfl) (by kernel_rfl) (by kernel_rfl) (by kernel_rfl) (fun _ _ _ h => h) (Or.inl ⟨by rfl, ?ha12⟩) (unhide HCE _ (unhide HLf)) ?_
            case ha12 => (intro w hSw; (try dsimp only at hSw); go_simp) <;> with_reducible rfl
            simp only [Act.put, List.getElem_toArray, List.getElem_cons_zero, List.getElem_cons_succ, List.setIfInBounds_toArray, List.set_cons_zero, List.set_cons_succ]
            refine anyL_take (i := 15) (v := ?va13) rfl (by kernel_rfl) (by kernel_rfl) (by kernel_rfl) (by kernel_rfl) (fun _ _ _ h => h) (Or.inl ⟨by rfl, ?ha13⟩) (unhide HCE _ (unhide HLf)) ?_
            case ha13 => (intro w hSw; (try dsimp only at hSw); go_simp) <;> with_reducible rfl
            simp only [Act.put, List.getElem_toArray, List.getElem_cons_zero, List.getElem_cons_succ, List.setIfInBounds_toArray, List.set_cons_zero, List.set_cons_succ]
            refine anyL_take (i := 16) (v := ?va14) rfl (by kernel_rfl) (by kernel_rfl) (by kernel_rfl) (by kernel_rfl) (fun _ _ _ h => h) (Or.inl ⟨by rfl, ?ha14⟩) (unhide HCE _ (unhide HLf)) ?_
            case ha14 => (intro w hSw; (try dsimp only at hSw); go_simp) <;> with_reducible rfl
            simp only [Act.put, List.getElem_toArray, List.getElem_cons_zero, List.getElem_cons_succ, List.setIfInBounds_toArray, List.set_cons_zero, List.set_cons_succ]
            refine anyL_done (by kernel_rfl) ?_ _
            obtain ⟨c0, c1, c2, c3⟩ := unhide HCE _ (unhide HLf)
            go_wp2_with fail
            refine (RAt7_at a0 cap l li c ru mo _ (unhide HLf).b hl6).mono ?_
            rintro e z3 ⟨rfl, bx⟩
            have HLg := hide ((unhide HLf).on bx)
            clear bx HLf c0 c1 c2 c3
            generalize (atP l li c ru mo : Int) = vp at *
            generalize atR l li c ru mo = vr at *
            have HR := HLg
            go_wp2_with fail
            go_roundw
            case rel => exact ⟨c + 1, by rw [unhide HWR], by have := unhide HP; omega, by have := unhide HP; omega, ⟨_, rfl⟩, ⟨_, rfl⟩, ⟨_, rfl⟩, ⟨_, rfl⟩, HR⟩
            case measure => simp only [intOf]; rw [unhide HWR]; have := unhide HP; omega
          · have t2 : decide (c < 12) = false := decide_eq_false hcl
            clear hc1 hc2 hcl
            go_wp2_with fail
            have HLd := hide ((unhide HJ).on (drew_belowL _))
            clear HJ
            refine regionL (S := fun w' => w'.cell? ⟨gx, 0, none⟩ = some (.int .i64 li) ∧ w'.cell? ⟨gx, 1, none⟩ = some (.int .i64 co) ∧ w'.cell? ⟨gx, 2, none⟩ = some (.int .i64 ru) ∧ w'.cell? ⟨gx, 3, none⟩ = some (.int .i64 mo)) (fun _ => false) (by kernel_rfl) ?_
            generalize wr.drew = z0 at *
            refine anyL_take (i := 0) (v := ?vb15) rfl (by kernel_rfl) (by kernel_rfl) (by kernel_rfl) (by kernel_rfl) (fun _ _ _ h => h) (Or.inl ⟨by rfl, ?hb15⟩) (unhide HCE _ (unhide HLd)) ?_
            case hb15 => (intro w hSw; (try dsimp only at hSw); go_simp) <;> with_reducible rfl
            simp only [Act.put, List.getElem_toArray, List.getElem_cons_zero, List.setIfInBounds_toArray, List.set_cons_zero, List.set_cons_succ]
            refine anyL_take (i := 2) (v := ?vb16) rfl (by kernel_rfl) (by kernel_rfl) (by kernel_rfl) (by kernel_rfl) (fun _ _ _ h => h) (Or.inl ⟨by rfl, ?hb16⟩) (unhide HCE _ (unhide HLd)) ?_
            case hb16 => (intro w hSw; (try dsimp only at hSw); go_simp) <;> with_reducible rfl
            simp only [Act.put, List.getElem_toArray, List.getElem_cons_zero, List.getElem_cons_succ, List.setIfInBounds_toArray, List.set_cons_zero, List.set_cons_succ]
            refine anyL_take (i := 3) (v := ?vb17) rfl (by kernel_rfl) (by kernel_rfl) (by kernel_rfl) (by kernel_rfl) (fun _ _ _ h => h) (Or.inl ⟨by rfl, ?hb17⟩) (unhide HCE _ (unhide HLd)) ?_
            case hb17 => (intro w hSw; (try dsimp only at hSw); go_simp) <;> with_reducible rfl
            simp only [Act.put, List.getElem_toArray, List.getElem_cons_zero, List.getElem_cons_succ, List.setIfInBounds_toArray, List.set_cons_zero, List.set_cons_succ]
            refine anyL_take (i := 4) (v := ?vb18) rfl (by kernel_rfl) (by kernel_rfl) (by kernel_rfl) (by kernel_rfl) (fun _ _ _ h => h) (Or.inl ⟨by rfl, ?hb18⟩) (unhide HCE _ (unhide HLd)) ?_
            case hb18 => (intro w hSw; (try dsimp only at hSw); go_simp) <;> with_reducible rfl
            simp only [Act.put, List.getElem_toArray, List.getElem_cons_zero, List.getElem_cons_succ, List.setIfInBounds_toArray, List.set_cons_zero, List.set_cons_succ]
            refine anyL_take (i := 5) (v := ?vb19) rfl (by kernel_rfl) (by kernel_rfl) (by kernel_rfl) (by kernel_rfl) (fun _ _ _ h => h) (Or.inl ⟨by rfl, ?hb19⟩) (unhide HCE _ (unhide HLd)) ?_
            case hb19 => (intro w hSw; (try dsimp only at hSw); go_simp) <;> with_reducible rfl
            simp only [Act.put, List.getElem_toArray, List.getElem_cons_zero, List.getElem_cons_succ, List.setIfInBounds_toArray, List.set_cons_zero, List.set_cons_succ]
            refine anyL_take (i := 6) (v := ?vb20) rfl (by kernel_rfl) (by kernel_rfl) (by kernel_rfl) (by kernel_rfl) (fun _ _ _ h => h) (Or.inl ⟨by rfl, ?hb20⟩) (unhide HCE _ (unhide HLd)) ?_
            case hb20 => (intro w hSw; (try dsimp only at hSw); go_simp) <;> with_reducible rfl
            simp only [Act.put, List.getElem_toArray, List.getElem_cons_zero, List.getElem_cons_succ, List.setIfInBounds_toArray, List.set_cons_zero, List.set_cons_succ]
            refine anyL_take (i := 7) (v := ?vb21) rfl (by kernel_rfl) (by kernel_rfl) (by kernel_rfl) (by kernel_rfl) (fun _ _ _ h => h) (Or.inl ⟨by rfl, ?hb21⟩) (unhide HCE _ (unhide HLd)) ?_
            case hb21 => (intro w hSw; (try dsimp only at hSw); go_simp) <;> with_reducible rfl
            simp only [Act.put, List.getElem_toArray, List.getElem_cons_zero, List.getElem_cons_succ, List.setIfInBounds_toArray, List.set_cons_zero, List.set_cons_succ]
            refine anyL_ready (rs := [1]) (by kernel_rfl) (by simp) ?_
            refine AllL.cons rfl (fun K hK => ?_) AllL.nil
            go_simp
            refine (own7_at a0 cap l _ (unhide HLd).b).mono ?_
            rintro e z1 ⟨a9, c9, rfl, j9, bx⟩
            have HLe := hide ((unhide HLd).on bx)
            refine unhide hK _ _ (fun _ => unhide HCE _ (unhide HLe)) ?_
            clear hK K bx HLd
            refine anyL_ready (rs := [8]) (by kernel_rfl) (by simp) ?_
            refine AllL.cons rfl (fun K hK => ?_) AllL.nil
            go_simp
            refine (AtL_at a9 c9 l li co ru mo _ j9 (unhide HLe).t).mono ?_
            rintro e z2 ⟨rfl, bx⟩
            have HLf := hide ((unhide HLe).on bx)
            refine unhide hK _ _ (fun _ => unhide HCE _ (unhide HLf)) ?_
            clear hK K bx HLe j9
            refine anyL_take (i := 9) (v := ?vb22) rfl (by kernel_rfl) (by kernel_rfl) (by kernel_rfl) (by kernel_rfl) (fun _ _ _ h => h) (Or.inl ⟨by rfl, ?hb22⟩) (unhide HCE _ (unhide HLf)) ?_
            case hb22 => (intro w hSw; (try dsimp only at hSw); go_simp) <;> with_reducible rfl
            simp only [Act.put, List.getElem_toArray, List.getElem_cons_zero, List.getElem_cons_succ, List.setIfInBounds_toArray, List.set_cons_zero, List.set_cons_succ]
            refine anyL_take (i := 10) (v := ?vb23) rfl (by kernel_rfl) (by kernel_rfl) (by kernel_rfl) (by kernel_rfl) (fun _ _ _ h => h) (Or.inl ⟨by rfl, ?hb23⟩) (unhide HCE _ (unhide HLf)) ?_
            case hb23 => (intro w hSw; (try dsimp only at hSw); go_simp) <;> with_reducible rfl
            simp only [Act.put, List.getElem_toArray, List.getElem_cons_zero, List.getElem_cons_succ, List.setIfInBounds_toArray, List.set_cons_zero, List.set_cons_succ]
            refine anyL_take (i := 11) (v := ?vb24) rfl (by kernel_rfl) (by kernel_rfl) (by kernel_rfl) (by kernel_rfl) (fun _ _ _ h => h) (Or.inl ⟨by rfl, ?hb24⟩) (unhide HCE _ (unhide HLf)) ?_
            case hb24 => (intro w hSw; (try dsimp only at hSw); go_simp) <;> with_reducible rfl
            simp only [Act.put, List.getElem_toArray, List.getElem_cons_zero, List.getElem_cons_succ, List.setIfInBounds_toArray, List.set_cons_zero, List.set_cons_succ]
            refine anyL_take (i := 12) (v := ?vb25) rfl (by kernel_rfl) (by kernel_rfl) (by kernel_rfl) (by kernel_rfl) (fun _ _ _ h => h) (Or.inl ⟨by rfl, ?hb25⟩) (unhide HCE _ (unhide HLf)) ?_
            case hb25 => (intro w hSw; (try dsimp only at hSw); go_simp) <;> with_reducible rfl
            simp only [Act.put, List.getElem_toArray, List.getElem_cons_zero, List.getElem_cons_succ, List.setIfInBounds_toArray, List.set_cons_zero, List.set_cons_succ]
            refine anyL_take (i := 13) (v := ?vb26) rfl (by kernel_rfl) (by kernel_rfl) (by kernel_rfl) (by kernel_rfl) (fun _ _ _ h => h) (Or.inl ⟨by rfl, ?hb26⟩) (unhide HCE _ (unhide HLf)) ?_
            case hb26 => (intro w hSw; (try dsimp only at hSw); go_simp) <;> with_reducible rfl
            simp only [Act.put, List.getElem_toArray, List.getElem_cons_zero, List.getElem_cons_succ, List.setIfInBounds_toArray, List.set_cons_zero, List.set_cons_succ]
            refine anyL_done (by kernel_rfl) ?_ _
            obtain ⟨c0, c1, c2, c3⟩ := unhide HCE _ (unhide HLf)
            go_wp2_with fail
            refine (RAt7_at a0 cap l li co ru mo _ (unhide HLf).b hl6).mono ?_
            rintro e z3 ⟨rfl, bx⟩
            have HLg := hide ((unhide HLf).on bx)
            clear bx HLf c0 c1 c2 c3
            generalize (atP l li co ru mo : Int) = vp at *
            generalize atR l li co ru mo = vr at *
            have HR : Hid (Lw w a0 cap l [] _) := hide ⟨(unhide HLg).b, (unhide HLg).t, (unhide HLg).d, fun y hy => by cases hy⟩
            clear HLg
            go_wp2_with fail
            go_roundw
            case rel => exact ⟨k + 1, by go_num, hlt, ⟨_, rfl⟩, ⟨_, rfl⟩, ⟨_, rfl⟩, ⟨_, rfl⟩, ⟨_, rfl⟩, ⟨_, rfl⟩, ⟨_, rfl⟩, ⟨_, rfl⟩, ⟨_, rfl⟩, ⟨_, rfl⟩, HR⟩
            case measure => simp [intOf]; omega
      · have t1 := ge_int hlt
        have HD := hide (unhide HI).d
        clear HI
        go_wp2_with fail
        go_ret
        exact ⟨rfl, unhide HD⟩

end Go.Proofs.YtdmkgocddikobaaDoor
