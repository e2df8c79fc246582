/- Layer 19: the document's Clean. · DiffOwn: rows of operations that are written over and grown: the law's spoil; bytes of one's own. · DiffOwn: what the walk keeps: two rows of bytes and some lists, no two in one block. -/
import Derived.Test.YtkdnanlgkedjgabDoorDn47
import Derived.Laws.OwnMore

section
namespace Go.Proofs.YtkdnanlgkedjgabDoor
open Go.ChangeShapes Go.WideShapes Go.ChangeAt Go.RowKit
attribute [local go_sem] Oper.semAt_some

theorem below_dN {B : Nat} {a w : World} (h : Below B a w) (n : Nat) : Below B a (w.drewN n) := ⟨h.os, h.tape, h.output, h.size, h.block⟩
theorem cln_wrap {t n T : Nat} (h : T = t + n) (hT : T ≤ 536870912) : IntKind.i64.wrap ((t : Int) + IntKind.i64.wrap ((n : Int))) = (T : Int) := by
  have e : IntKind.i64.wrap ((n : Int)) = (n : Int) := by rw [IntKind.wrap_i64]; omega
  rw [e, IntKind.wrap_i64]; clear e; omega
theorem cln_step {b : List Int} {d : List Dop} {k t : Nat} (h : k < d.length) : clnB b t (d.drop k) = (!(inside b (t + toN (d.getD k opZ))) && clnB b (t + toN (d.getD k opZ)) (d.drop (k + 1))) := by
  have e : d.drop k = d.getD k opZ :: d.drop (k + 1) := by
    rw [List.drop_eq_getElem_cons h]; simp [List.getD, List.getElem?_eq_getElem h]
  rw [e]; rfl
set_option maxRecDepth 100000 in
set_option maxHeartbeats 8000000 in
theorem RClean_at (a0 : Option Addr) (c0 : Nat) (m : List Int) (a : Option Addr) (c : Nat) (d : List Dop) (w : World) (hB : IsB w a0 c0 m) (h : IsO w a d) (hl : d.length ≤ 4611686018427387904) (hv : valB d = true) (hf : toD d = m.length) :
    Calls Tryd.prog 11 #[.slice a0 m.length c0, .slice a d.length c] w fun y w' => y = .returned (.bool (clnB m 0 d)) ∧ Below w.heap.size w w' := by
  have HO := hide h
  have HB := hide hB
  have HV := hide hv
  have HF := hide hf
  have hm := hB.2.1
  have hmz : m.length ≤ 268435456 := by rw [← hf]; exact (valB_nn hv).2.2
  obtain ⟨R, hR⟩ : ∃ R, R = clnB m 0 d := ⟨_, rfl⟩
  rw [← hR]
  have HR := hide hR
  clear h hB hv hf hR
  go_enter Tryd.func11, Tryd.ntmps11
  go_wp2_with fail
  go_loopw [5, 6, 7] (fun v5 v6 v7 wx => (∃ z, v7 = z) ∧ ∃ (k t : Nat), v6 = .int .i64 (k : Int) ∧ k ≤ d.length ∧ v5 = .int .i64 (t : Int) ∧ Hid (t = toD (d.take k) ∧ R = clnB m t (d.drop k) ∧ Below w.heap.size w wx)) (fun _ v6 _ _ => d.length - (intOf v6).toNat)
  case atStart => exact ⟨⟨_, rfl⟩, 0, 0, rfl, Nat.zero_le _, rfl, hide ⟨rfl, unhide HR, Below.refl _ _⟩⟩
  case round =>
    clear HR
    obtain ⟨⟨z, rfl⟩, k, t, rfl, hk, rfl, HX⟩ := hrel
    by_cases h1 : k < d.length
    · have t1 : decide ((k : Int) < (d.length : Int)) = true := decide_eq_true (by omega)
      have f1 : (k : Int) < (d.length : Int) := by omega
      obtain ⟨hxt, hxr, hbx⟩ := unhide HX
      obtain ⟨g, off, rfl, hg, e0, e1, e2⟩ := ((unhide HO).below hbx (Nat.le_refl _)).three h1
      have hop := valB_op (unhide HV) (getD_memD h1)
      have hto := toD_take d h1
      have hle : toD (d.take (k + 1)) ≤ m.length := by
        rw [← unhide HF]
        unfold toD
        conv => rhs; rw [← List.take_append_drop (k + 1) d]
        rw [List.map_append, List.sum_append]
        exact Nat.le_add_right _ _
      rw [cln_step h1] at hxr
      rw [← hxt] at hto
      have HBX := hide hbx
      clear hxt hbx HX hk
      generalize hT : toD (d.take (k + 1)) = T at *
      generalize d.getD k opZ = x at *
      obtain ⟨xk, xn, xt⟩ := x
      rw [← hto] at hxr
      dsimp only at e0 e1 e2 hop
      have hsz := strOfNums_size xt
      have HE := hide fun (X : World) (hX : Below w.heap.size w X) => Inside_at a0 c0 T m X ((unhide HB).below hX (Nat.le_refl _)) hle
      have HXR := hide hxr
      clear hxr
      rcases hop with ⟨rfl | rfl, hn, rfl⟩ | ⟨rfl, rfl, hn⟩
      · obtain ⟨n, rfl⟩ : ∃ n : Nat, xn = (n : Int) := ⟨xn.toNat, by omega⟩
        rw [show toN ⟨1, (n : Int), []⟩ = n by simp [toN]] at hto
        have w2' : IntKind.i64.wrap ((t : Int) + IntKind.i64.wrap ((n : Int))) = (T : Int) := cln_wrap hto (by omega)
        clear hn hle hto hmz
        cases hin : inside m T with
        | true =>
          rw [hin] at HE HXR
          clear hin
          have HRF : Hid (R = false) := hide (by rw [unhide HXR]; rfl)
          clear HXR
          have S0 : wr.drew.cell? ⟨g, off + k * 3 + 1, none⟩ = some (.int .i64 (n : Int)) ∧ wr.drew.cell? ⟨g, off + k * 3 + 2, none⟩ = some (.string (strOfNums [])) := ⟨e1, e2⟩
          have HBY := hide (below_dN (unhide HBX) 1)
          go_wp2_with fail
          refine regionL (S := fun w' => w'.cell? ⟨g, off + k * 3 + 1, none⟩ = some (.int .i64 (n : Int)) ∧ w'.cell? ⟨g, off + k * 3 + 2, none⟩ = some (.string (strOfNums []))) (fun _ => false) (by kernel_rfl) ?_
          refine anyL_take (i := 0) (v := ?vq0) rfl (by kernel_rfl) (by kernel_rfl) (by kernel_rfl) (by kernel_rfl) (fun _ _ _ h => h) (Or.inl ⟨by rfl, ?hq0⟩) (S0) ?_
          case hq0 => (intro w hSw; (try dsimp only at hSw); go_simp) <;> with_reducible rfl
          simp only [Act.put, List.getElem_toArray, List.getElem_cons_zero, List.setIfInBounds_toArray, List.set_cons_zero, List.set_cons_succ]
          refine anyL_take (i := 1) (v := ?vq1) rfl (by kernel_rfl) (by kernel_rfl) (by kernel_rfl) (by kernel_rfl) (fun _ _ _ h => h) (Or.inl ⟨by rfl, ?hq1⟩) (S0) ?_
          case hq1 => (intro w hSw; (try dsimp only at hSw); go_simp) <;> with_reducible rfl
          simp only [Act.put, List.getElem_toArray, List.getElem_cons_zero, List.getElem_cons_succ, List.setIfInBounds_toArray, List.set_cons_zero, List.set_cons_succ]
          refine anyL_take (i := 2) (v := ?vq2) rfl (by kernel_rfl) (by kernel_rfl) (by kernel_rfl) (by kernel_rfl) (fun _ _ _ h => h) (Or.inl ⟨by rfl, ?hq2⟩) (S0) ?_
          case hq2 => (intro w hSw; (try dsimp only at hSw); go_simp) <;> with_reducible rfl
          simp only [Act.put, List.getElem_toArray, List.getElem_cons_zero, List.getElem_cons_succ, List.setIfInBounds_toArray, List.set_cons_zero, List.set_cons_succ]
          refine anyL_take (i := 3) (v := ?vq3) rfl (by kernel_rfl) (by kernel_rfl) (by kernel_rfl) (by kernel_rfl) (fun _ _ _ h => h) (Or.inl ⟨by rfl, ?hq3⟩) (S0) ?_
          case hq3 => (intro w hSw; (try dsimp only at hSw); go_simp) <;> with_reducible rfl
          simp only [Act.put, List.getElem_toArray, List.getElem_cons_zero, List.getElem_cons_succ, List.setIfInBounds_toArray, List.set_cons_zero, List.set_cons_succ]
          refine anyL_take (i := 4) (v := ?vq4) rfl (by kernel_rfl) (by kernel_rfl) (by kernel_rfl) (by kernel_rfl) (fun _ _ _ h => h) (Or.inl ⟨by rfl, ?hq4⟩) (S0) ?_
          case hq4 => (intro w hSw; (try dsimp only at hSw); go_simp) <;> with_reducible rfl
          simp only [Act.put, List.getElem_toArray, List.getElem_cons_zero, List.getElem_cons_succ, List.setIfInBounds_toArray, List.set_cons_zero, List.set_cons_succ]
          refine anyL_take (i := 5) (v := ?vq5) rfl (by kernel_rfl) (by kernel_rfl) (by kernel_rfl) (by kernel_rfl) (fun _ _ _ h => h) (Or.inl ⟨by rfl, ?hq5⟩) (S0) ?_
          case hq5 => (intro w hSw; (try dsimp only at hSw); go_simp) <;> with_reducible rfl
          simp only [Act.put, List.getElem_toArray, List.getElem_cons_zero, List.getElem_cons_succ, List.setIfInBounds_toArray, List.set_cons_zero, List.set_cons_succ]
          refine anyL_take (i := 6) (v := ?vq6) rfl (by kernel_rfl) (by kernel_rfl) (by kernel_rfl) (by kernel_rfl) (fun _ _ _ h => h) (Or.inl ⟨by rfl, ?hq6⟩) (S0) ?_
          case hq6 => (intro w hSw; (try dsimp only at hSw); go_simp) <;> with_reducible rfl
          simp only [Act.put, List.getElem_toArray, List.getElem_cons_zero, List.getElem_cons_succ, List.setIfInBounds_toArray, List.set_cons_zero, List.set_cons_succ]
          refine anyL_take (i := 7) (v := ?vq7) rfl (by kernel_rfl) (by kernel_rfl) (by kernel_rfl) (by kernel_rfl) (fun _ _ _ h => h) (Or.inl ⟨by rfl, ?hq7⟩) (S0) ?_
          case hq7 => (intro w hSw; (try dsimp only at hSw); go_simp) <;> with_reducible rfl
          simp only [Act.put, List.getElem_toArray, List.getElem_cons_zero, List.getElem_cons_succ, List.setIfInBounds_toArray, List.set_cons_zero, List.set_cons_succ]
          refine anyL_take (i := 8) (v := ?vq8) rfl (by kernel_rfl) (by kernel_rfl) (by kernel_rfl) (by kernel_rfl) (fun _ _ _ h => h) (Or.inl ⟨by rfl, ?hq8⟩) (S0) ?_
          case hq8 => (intro w hSw; (try dsimp only at hSw); go_simp) <;> with_reducible rfl
          simp only [Act.put, List.getElem_toArray, List.getElem_cons_zero, List.getElem_cons_succ, List.setIfInBounds_toArray, List.set_cons_zero, List.set_cons_succ]
          refine anyL_take (i := 9) (v := ?vq9) rfl (by kernel_rfl) (by kernel_rfl) (by kernel_rfl) (by kernel_rfl) (fun _ _ _ h => h) (Or.inl ⟨by rfl, ?hq9⟩) (S0) ?_
          case hq9 => (intro w hSw; (try dsimp only at hSw); go_simp) <;> with_reducible rfl
          simp only [Act.put, List.getElem_toArray, List.getElem_cons_zero, List.getElem_cons_succ, List.setIfInBounds_toArray, List.set_cons_zero, List.set_cons_succ]
          refine anyL_take (i := 10) (v := ?vq10) rfl (by kernel_rfl) (by kernel_rfl) (by kernel_rfl) (by kernel_rfl) (fun _ _ _ h => h) (Or.inl ⟨by rfl, ?hq10⟩) (S0) ?_
          case hq10 => (intro w hSw; (try dsimp only at hSw); go_simp) <;> with_reducible rfl
          simp only [Act.put, List.getElem_toArray, List.getElem_cons_zero, List.getElem_cons_succ, List.setIfInBounds_toArray, List.set_cons_zero, List.set_cons_succ]
          refine anyL_take (i := 11) (v := ?vq11) rfl (by kernel_rfl) (by kernel_rfl) (by kernel_rfl) (by kernel_rfl) (fun _ _ _ h => h) (Or.inl ⟨by rfl, ?hq11⟩) (S0) ?_
          case hq11 => (intro w hSw; (try dsimp only at hSw); go_simp) <;> with_reducible rfl
          simp only [Act.put, List.getElem_toArray, List.getElem_cons_zero, List.getElem_cons_succ, List.setIfInBounds_toArray, List.set_cons_zero, List.set_cons_succ]
          refine anyL_take (i := 12) (v := ?vq12) rfl (by kernel_rfl) (by kernel_rfl) (by kernel_rfl) (by kernel_rfl) (fun _ _ _ h => h) (Or.inl ⟨by rfl, ?hq12⟩) (S0) ?_
          case hq12 => (intro w hSw; (try dsimp only at hSw); go_simp) <;> with_reducible rfl
          simp only [Act.put, List.getElem_toArray, List.getElem_cons_zero, List.getElem_cons_succ, List.setIfInBounds_toArray, List.set_cons_zero, List.set_cons_succ]
          refine anyL_take (i := 13) (v := ?vq13) rfl (by kernel_rfl) (by kernel_rfl) (by kernel_rfl) (by kernel_rfl) (fun _ _ _ h => h) (Or.inl ⟨by rfl, ?hq13⟩) (S0) ?_
          case hq13 => (intro w hSw; (try dsimp only at hSw); go_simp) <;> with_reducible rfl
          simp only [Act.put, List.getElem_toArray, List.getElem_cons_zero, List.getElem_cons_succ, List.setIfInBounds_toArray, List.set_cons_zero, List.set_cons_succ]
          refine anyL_take (i := 14) (v := ?vq14) rfl (by kernel_rfl) (by kernel_rfl) (by kernel_rfl) (by kernel_rfl) (fun _ _ _ h => h) (Or.inl ⟨by rfl, ?hq14⟩) (S0) ?_
          case hq14 => (intro w hSw; (try dsimp only at hSw); go_simp) <;> with_reducible rfl
          simp only [Act.put, List.getElem_toArray, List.getElem_cons_zero, List.getElem_cons_succ, List.setIfInBounds_toArray, List.set_cons_zero, List.set_cons_succ]
          refine anyL_done (by kernel_rfl) ?_ _
          go_wp2_with fail
          refine (unhide HE _ (unhide HBY)).mono ?_
          rintro y v1 ⟨rfl, rfl⟩
          dsimp only
          clear HE
          go_wp2_with fail
          refine bodyPost_ret (results_tmp rfl _ _ _) rfl ⟨by rw [unhide HRF]; rfl, unhide HBY⟩
        | false =>
          rw [hin] at HE HXR
          clear hin
          have HRF : Hid (R = clnB m T (d.drop (k + 1))) := hide (by rw [unhide HXR]; rfl)
          clear HXR
          have S0 : wr.drew.cell? ⟨g, off + k * 3 + 1, none⟩ = some (.int .i64 (n : Int)) ∧ wr.drew.cell? ⟨g, off + k * 3 + 2, none⟩ = some (.string (strOfNums [])) := ⟨e1, e2⟩
          have HBY := hide (below_dN (unhide HBX) 1)
          go_wp2_with fail
          refine regionL (S := fun w' => w'.cell? ⟨g, off + k * 3 + 1, none⟩ = some (.int .i64 (n : Int)) ∧ w'.cell? ⟨g, off + k * 3 + 2, none⟩ = some (.string (strOfNums []))) (fun _ => false) (by kernel_rfl) ?_
          refine anyL_take (i := 0) (v := ?vq15) rfl (by kernel_rfl) (by kernel_rfl) (by kernel_rfl) (by kernel_rfl) (fun _ _ _ h => h) (Or.inl ⟨by rfl, ?hq15⟩) (S0) ?_
          case hq15 => (intro w hSw; (try dsimp only at hSw); go_simp) <;> with_reducible rfl
          simp only [Act.put, List.getElem_toArray, List.getElem_cons_zero, List.setIfInBounds_toArray, List.set_cons_zero, List.set_cons_succ]
          refine anyL_take (i := 1) (v := ?vq16) rfl (by kernel_rfl) (by kernel_rfl) (by kernel_rfl) (by kernel_rfl) (fun _ _ _ h => h) (Or.inl ⟨by rfl, ?hq16⟩) (S0) ?_
          case hq16 => (intro w hSw; (try dsimp only at hSw); go_simp) <;> with_reducible rfl
          simp only [Act.put, List.getElem_toArray, List.getElem_cons_zero, List.getElem_cons_succ, List.setIfInBounds_toArray, List.set_cons_zero, List.set_cons_succ]
          refine anyL_take (i := 2) (v := ?vq17) rfl (by kernel_rfl) (by kernel_rfl) (by kernel_rfl) (by kernel_rfl) (fun _ _ _ h => h) (Or.inl ⟨by rfl, ?hq17⟩) (S0) ?_
          case hq17 => (intro w hSw; (try dsimp only at hSw); go_simp) <;> with_reducible rfl
          simp only [Act.put, List.getElem_toArray, List.getElem_cons_zero, List.getElem_cons_succ, List.setIfInBounds_toArray, List.set_cons_zero, List.set_cons_succ]
          refine anyL_take (i := 3) (v := ?vq18) rfl (by kernel_rfl) (by kernel_rfl) (by kernel_rfl) (by kernel_rfl) (fun _ _ _ h => h) (Or.inl ⟨by rfl, ?hq18⟩) (S0) ?_
          case hq18 => (intro w hSw; (try dsimp only at hSw); go_simp) <;> with_reducible rfl
          simp only [Act.put, List.getElem_toArray, List.getElem_cons_zero, List.getElem_cons_succ, List.setIfInBounds_toArray, List.set_cons_zero, List.set_cons_succ]
          refine anyL_take (i := 4) (v := ?vq19) rfl (by kernel_rfl) (by kernel_rfl) (by kernel_rfl) (by kernel_rfl) (fun _ _ _ h => h) (Or.inl ⟨by rfl, ?hq19⟩) (S0) ?_
          case hq19 => (intro w hSw; (try dsimp only at hSw); go_simp) <;> with_reducible rfl
          simp only [Act.put, List.getElem_toArray, List.getElem_cons_zero, List.getElem_cons_succ, List.setIfInBounds_toArray, List.set_cons_zero, List.set_cons_succ]
          refine anyL_take (i := 5) (v := ?vq20) rfl (by kernel_rfl) (by kernel_rfl) (by kernel_rfl) (by kernel_rfl) (fun _ _ _ h => h) (Or.inl ⟨by rfl, ?hq20⟩) (S0) ?_
          case hq20 => (intro w hSw; (try dsimp only at hSw); go_simp) <;> with_reducible rfl
          simp only [Act.put, List.getElem_toArray, List.getElem_cons_zero, List.getElem_cons_succ, List.setIfInBounds_toArray, List.set_cons_zero, List.set_cons_succ]
          refine anyL_take (i := 6) (v := ?vq21) rfl (by kernel_rfl) (by kernel_rfl) (by kernel_rfl) (by kernel_rfl) (fun _ _ _ h => h) (Or.inl ⟨by rfl, ?hq21⟩) (S0) ?_
          case hq21 => (intro w hSw; (try dsimp only at hSw); go_simp) <;> with_reducible rfl
          simp only [Act.put, List.getElem_toArray, List.getElem_cons_zero, List.getElem_cons_succ, List.setIfInBounds_toArray, List.set_cons_zero, List.set_cons_succ]
          refine anyL_take (i := 7) (v := ?vq22) rfl (by kernel_rfl) (by kernel_rfl) (by kernel_rfl) (by kernel_rfl) (fun _ _ _ h => h) (Or.inl ⟨by rfl, ?hq22⟩) (S0) ?_
          case hq22 => (intro w hSw; (try dsimp only at hSw); go_simp) <;> with_reducible rfl
          simp only [Act.put, List.getElem_toArray, List.getElem_cons_zero, List.getElem_cons_succ, List.setIfInBounds_toArray, List.set_cons_zero, List.set_cons_succ]
          refine anyL_take (i := 8) (v := ?vq23) rfl (by kernel_rfl) (by kernel_rfl) (by kernel_rfl) (by kernel_rfl) (fun _ _ _ h => h) (Or.inl ⟨by rfl, ?hq23⟩) (S0) ?_
          case hq23 => (intro w hSw; (try dsimp only at hSw); go_simp) <;> with_reducible rfl
          simp only [Act.put, List.getElem_toArray, List.getElem_cons_zero, List.getElem_cons_succ, List.setIfInBounds_toArray, List.set_cons_zero, List.set_cons_succ]
          refine anyL_take (i := 9) (v := ?vq24) rfl (by kernel_rfl) (by kernel_rfl) (by kernel_rfl) (by kernel_rfl) (fun _ _ _ h => h) (Or.inl ⟨by rfl, ?hq24⟩) (S0) ?_
          case hq24 => (intro w hSw; (try dsimp only at hSw); go_simp) <;> with_reducible rfl
          simp only [Act.put, List.getElem_toArray, List.getElem_cons_zero, List.getElem_cons_succ, List.setIfInBounds_toArray, List.set_cons_zero, List.set_cons_succ]
          refine anyL_take (i := 10) (v := ?vq25) rfl (by kernel_rfl) (by kernel_rfl) (by kernel_rfl) (by kernel_rfl) (fun _ _ _ h => h) (Or.inl ⟨by rfl, ?hq25⟩) (S0) ?_
          case hq25 => (intro w hSw; (try dsimp only at hSw); go_simp) <;> with_reducible rfl
          simp only [Act.put, List.getElem_toArray, List.getElem_cons_zero, List.getElem_cons_succ, List.setIfInBounds_toArray, List.set_cons_zero, List.set_cons_succ]
          refine anyL_take (i := 11) (v := ?vq26) rfl (by kernel_rfl) (by kernel_rfl) (by kernel_rfl) (by kernel_rfl) (fun _ _ _ h => h) (Or.inl ⟨by rfl, ?hq26⟩) (S0) ?_
          case hq26 => (intro w hSw; (try dsimp only at hSw); go_simp) <;> with_reducible rfl
          simp only [Act.put, List.getElem_toArray, List.getElem_cons_zero, List.getElem_cons_succ, List.setIfInBounds_toArray, List.set_cons_zero, List.set_cons_succ]
          refine anyL_take (i := 12) (v := ?vq27) rfl (by kernel_rfl) (by kernel_rfl) (by kernel_rfl) (by kernel_rfl) (fun _ _ _ h => h) (Or.inl ⟨by rfl, ?hq27⟩) (S0) ?_
          case hq27 => (intro w hSw; (try dsimp only at hSw); go_simp) <;> with_reducible rfl
          simp only [Act.put, List.getElem_toArray, List.getElem_cons_zero, List.getElem_cons_succ, List.setIfInBounds_toArray, List.set_cons_zero, List.set_cons_succ]
          refine anyL_take (i := 13) (v := ?vq28) rfl (by kernel_rfl) (by kernel_rfl) (by kernel_rfl) (by kernel_rfl) (fun _ _ _ h => h) (Or.inl ⟨by rfl, ?hq28⟩) (S0) ?_
          case hq28 => (intro w hSw; (try dsimp only at hSw); go_simp) <;> with_reducible rfl
          simp only [Act.put, List.getElem_toArray, List.getElem_cons_zero, List.getElem_cons_succ, List.setIfInBounds_toArray, List.set_cons_zero, List.set_cons_succ]
          refine anyL_take (i := 14) (v := ?vq29) rfl (by kernel_rfl) (by kernel_rfl) (by kernel_rfl) (by kernel_rfl) (fun _ _ _ h => h) (Or.inl ⟨by rfl, ?hq29⟩) (S0) ?_
          case hq29 => (intro w hSw; (try dsimp only at hSw); go_simp) <;> with_reducible rfl
          simp only [Act.put, List.getElem_toArray, List.getElem_cons_zero, List.getElem_cons_succ, List.setIfInBounds_toArray, List.set_cons_zero, List.set_cons_succ]
          refine anyL_done (by kernel_rfl) ?_ _
          go_wp2_with fail
          refine (unhide HE _ (unhide HBY)).mono ?_
          rintro y v1 ⟨rfl, rfl⟩
          dsimp only
          clear HE
          go_wp2_with fail
          go_roundw
          case rel => exact ⟨⟨_, rfl⟩, k + 1, T, by go_num, h1, rfl, hide ⟨hT.symm, unhide HRF, unhide HBY⟩⟩
          case measure => simp [intOf]; omega
      · rw [show toN ⟨3, xn, []⟩ = 0 by simp [toN], Nat.add_zero] at hto
        obtain rfl : t = T := by omega
        cases hin : inside m t with
        | true =>
          rw [hin] at HE HXR
          clear hin
          have HRF : Hid (R = false) := hide (by rw [unhide HXR]; rfl)
          clear HXR
          have HBY := HBX
          go_wp2_with fail
          refine (unhide HE _ (unhide HBY)).mono ?_
          rintro y v1 ⟨rfl, rfl⟩
          dsimp only
          clear HE
          go_wp2_with fail
          refine bodyPost_ret (results_tmp rfl _ _ _) rfl ⟨by rw [unhide HRF]; rfl, unhide HBY⟩
        | false =>
          rw [hin] at HE HXR
          clear hin
          have HRF : Hid (R = clnB m t (d.drop (k + 1))) := hide (by rw [unhide HXR]; rfl)
          clear HXR
          have HBY := HBX
          go_wp2_with fail
          refine (unhide HE _ (unhide HBY)).mono ?_
          rintro y v1 ⟨rfl, rfl⟩
          dsimp only
          clear HE
          go_wp2_with fail
          go_roundw
          case rel => exact ⟨⟨_, rfl⟩, k + 1, t, by go_num, h1, rfl, hide ⟨hT.symm, unhide HRF, unhide HBY⟩⟩
          case measure => simp [intOf]; omega
      · rw [show toN ⟨2, 0, xt⟩ = xt.length by simp [toN]] at hto
        have w2' : IntKind.i64.wrap ((t : Int) + IntKind.i64.wrap ((xt.length : Int))) = (T : Int) := cln_wrap hto (by omega)
        clear hn hle hto hmz
        cases hin : inside m T with
        | true =>
          rw [hin] at HE HXR
          clear hin
          have HRF : Hid (R = false) := hide (by rw [unhide HXR]; rfl)
          clear HXR
          have S0 : wr.drew.cell? ⟨g, off + k * 3 + 1, none⟩ = some (.int .i64 0) ∧ wr.drew.cell? ⟨g, off + k * 3 + 2, none⟩ = some (.string (strOfNums xt)) := ⟨e1, e2⟩
          have HBY := hide (below_dN (unhide HBX) 1)
          go_wp2_with fail
          refine regionL (S := fun w' => w'.cell? ⟨g, off + k * 3 + 1, none⟩ = some (.int .i64 0) ∧ w'.cell? ⟨g, off + k * 3 + 2, none⟩ = some (.string (strOfNums xt))) (fun _ => false) (by kernel_rfl) ?_
          refine anyL_take (i := 0) (v := ?vq30) rfl (by kernel_rfl) (by kernel_rfl) (by kernel_rfl) (by kernel_rfl) (fun _ _ _ h => h) (Or.inl ⟨by rfl, ?hq30⟩) (S0) ?_
          case hq30 => (intro w hSw; (try dsimp only at hSw); go_simp) <;> with_reducible rfl
          simp only [Act.put, List.getElem_toArray, List.getElem_cons_zero, List.setIfInBounds_toArray, List.set_cons_zero, List.set_cons_succ]
          refine anyL_take (i := 1) (v := ?vq31) rfl (by kernel_rfl) (by kernel_rfl) (by kernel_rfl) (by kernel_rfl) (fun _ _ _ h => h) (Or.inl ⟨by rfl, ?hq31⟩) (S0) ?_
          case hq31 => (intro w hSw; (try dsimp only at hSw); go_simp) <;> with_reducible rfl
          simp only [Act.put, List.getElem_toArray, List.getElem_cons_zero, List.getElem_cons_succ, List.setIfInBounds_toArray, List.set_cons_zero, List.set_cons_succ]
          refine anyL_take (i := 2) (v := ?vq32) rfl (by kernel_rfl) (by kernel_rfl) (by kernel_rfl) (by kernel_rfl) (fun _ _ _ h => h) (Or.inl ⟨by rfl, ?hq32⟩) (S0) ?_
          case hq32 => (intro w hSw; (try dsimp only at hSw); go_simp) <;> with_reducible rfl
          simp only [Act.put, List.getElem_toArray, List.getElem_cons_zero, List.getElem_cons_succ, List.setIfInBounds_toArray, List.set_cons_zero, List.set_cons_succ]
          refine anyL_take (i := 3) (v := ?vq33) rfl (by kernel_rfl) (by kernel_rfl) (by kernel_rfl) (by kernel_rfl) (fun _ _ _ h => h) (Or.inl ⟨by rfl, ?hq33⟩) (S0) ?_
          case hq33 => (intro w hSw; (try dsimp only at hSw); go_simp) <;> with_reducible rfl
          simp only [Act.put, List.getElem_toArray, List.getElem_cons_zero, List.getElem_cons_succ, List.setIfInBounds_toArray, List.set_cons_zero, List.set_cons_succ]
          refine anyL_take (i := 4) (v := ?vq34) rfl (by kernel_rfl) (by kernel_rfl) (by kernel_rfl) (by kernel_rfl) (fun _ _ _ h => h) (Or.inl ⟨by rfl, ?hq34⟩) (S0) ?_
          case hq34 => (intro w hSw; (try dsimp only at hSw); go_simp) <;> with_reducible rfl
          simp only [Act.put, List.getElem_toArray, List.getElem_cons_zero, List.getElem_cons_succ, List.setIfInBounds_toArray, List.set_cons_zero, List.set_cons_succ]
          refine anyL_take (i := 5) (v := ?vq35) rfl (by kernel_rfl) (by kernel_rfl) (by kernel_rfl) (by kernel_rfl) (fun _ _ _ h => h) (Or.inl ⟨by rfl, ?hq35⟩) (S0) ?_
          case hq35 => (intro w hSw; (try dsimp only at hSw); go_simp) <;> with_reducible rfl
          simp only [Act.put, List.getElem_toArray, List.getElem_cons_zero, List.getElem_cons_succ, List.setIfInBounds_toArray, List.set_cons_zero, List.set_cons_succ]
          refine anyL_take (i := 6) (v := ?vq36) rfl (by kernel_rfl) (by kernel_rfl) (by kernel_rfl) (by kernel_rfl) (fun _ _ _ h => h) (Or.inl ⟨by rfl, ?hq36⟩) (S0) ?_
          case hq36 => (intro w hSw; (try dsimp only at hSw); go_simp) <;> with_reducible rfl
          simp only [Act.put, List.getElem_toArray, List.getElem_cons_zero, List.getElem_cons_succ, List.setIfInBounds_toArray, List.set_cons_zero, List.set_cons_succ]
          refine anyL_take (i := 7) (v := ?vq37) rfl (by kernel_rfl) (by kernel_rfl) (by kernel_rfl) (by kernel_rfl) (fun _ _ _ h => h) (Or.inl ⟨by rfl, ?hq37⟩) (S0) ?_
          case hq37 => (intro w hSw; (try dsimp only at hSw); go_simp) <;> with_reducible rfl
          simp only [Act.put, List.getElem_toArray, List.getElem_cons_zero, List.getElem_cons_succ, List.setIfInBounds_toArray, List.set_cons_zero, List.set_cons_succ]
          refine anyL_take (i := 8) (v := ?vq38) rfl (by kernel_rfl) (by kernel_rfl) (by kernel_rfl) (by kernel_rfl) (fun _ _ _ h => h) (Or.inl ⟨by rfl, ?hq38⟩) (S0) ?_
          case hq38 => (intro w hSw; (try dsimp only at hSw); go_simp) <;> with_reducible rfl
          simp only [Act.put, List.getElem_toArray, List.getElem_cons_zero, List.getElem_cons_succ, List.setIfInBounds_toArray, List.set_cons_zero, List.set_cons_succ]
          refine anyL_take (i := 9) (v := ?vq39) rfl (by kernel_rfl) (by kernel_rfl) (by kernel_rfl) (by kernel_rfl) (fun _ _ _ h => h) (Or.inl ⟨by rfl, ?hq39⟩) (S0) ?_
          case hq39 => (intro w hSw; (try dsimp only at hSw); go_simp) <;> with_reducible rfl
          simp only [Act.put, List.getElem_toArray, List.getElem_cons_zero, List.getElem_cons_succ, List.setIfInBounds_toArray, List.set_cons_zero, List.set_cons_succ]
          refine anyL_take (i := 10) (v := ?vq40) rfl (by kernel_rfl) (by kernel_rfl) (by kernel_rfl) (by kernel_rfl) (fun _ _ _ h => h) (Or.inl ⟨by rfl, ?hq40⟩) (S0) ?_
          case hq40 => (intro w hSw; (try dsimp only at hSw); go_simp) <;> with_reducible rfl
          simp only [Act.put, List.getElem_toArray, List.getElem_cons_zero, List.getElem_cons_succ, List.setIfInBounds_toArray, List.set_cons_zero, List.set_cons_succ]
          refine anyL_take (i := 11) (v := ?vq41) rfl (by kernel_rfl) (by kernel_rfl) (by kernel_rfl) (by kernel_rfl) (fun _ _ _ h => h) (Or.inl ⟨by rfl, ?hq41⟩) (S0) ?_
          case hq41 => (intro w hSw; (try dsimp only at hSw); go_simp) <;> with_reducible rfl
          simp only [Act.put, List.getElem_toArray, List.getElem_cons_zero, List.getElem_cons_succ, List.setIfInBounds_toArray, List.set_cons_zero, List.set_cons_succ]
          refine anyL_take (i := 12) (v := ?vq42) rfl (by kernel_rfl) (by kernel_rfl) (by kernel_rfl) (by kernel_rfl) (fun _ _ _ h => h) (Or.inl ⟨by rfl, ?hq42⟩) (S0) ?_
          case hq42 => (intro w hSw; (try dsimp only at hSw); go_simp) <;> with_reducible rfl
          simp only [Act.put, List.getElem_toArray, List.getElem_cons_zero, List.getElem_cons_succ, List.setIfInBounds_toArray, List.set_cons_zero, List.set_cons_succ]
          refine anyL_take (i := 13) (v := ?vq43) rfl (by kernel_rfl) (by kernel_rfl) (by kernel_rfl) (by kernel_rfl) (fun _ _ _ h => h) (Or.inl ⟨by rfl, ?hq43⟩) (S0) ?_
          case hq43 => (intro w hSw; (try dsimp only at hSw); go_simp) <;> with_reducible rfl
          simp only [Act.put, List.getElem_toArray, List.getElem_cons_zero, List.getElem_cons_succ, List.setIfInBounds_toArray, List.set_cons_zero, List.set_cons_succ]
          refine anyL_take (i := 14) (v := ?vq44) rfl (by kernel_rfl) (by kernel_rfl) (by kernel_rfl) (by kernel_rfl) (fun _ _ _ h => h) (Or.inl ⟨by rfl, ?hq44⟩) (S0) ?_
          case hq44 => (intro w hSw; (try dsimp only at hSw); go_simp) <;> with_reducible rfl
          simp only [Act.put, List.getElem_toArray, List.getElem_cons_zero, List.getElem_cons_succ, List.setIfInBounds_toArray, List.set_cons_zero, List.set_cons_succ]
          refine anyL_done (by kernel_rfl) ?_ _
          go_wp2_with fail
          refine (unhide HE _ (unhide HBY)).mono ?_
          rintro y v1 ⟨rfl, rfl⟩
          dsimp only
          clear HE
          go_wp2_with fail
          refine bodyPost_ret (results_tmp rfl _ _ _) rfl ⟨by rw [unhide HRF]; rfl, unhide HBY⟩
        | false =>
          rw [hin] at HE HXR
          clear hin
          have HRF : Hid (R = clnB m T (d.drop (k + 1))) := hide (by rw [unhide HXR]; rfl)
          clear HXR
          have S0 : wr.drew.cell? ⟨g, off + k * 3 + 1, none⟩ = some (.int .i64 0) ∧ wr.drew.cell? ⟨g, off + k * 3 + 2, none⟩ = some (.string (strOfNums xt)) := ⟨e1, e2⟩
          have HBY := hide (below_dN (unhide HBX) 1)
          go_wp2_with fail
          refine regionL (S := fun w' => w'.cell? ⟨g, off + k * 3 + 1, none⟩ = some (.int .i64 0) ∧ w'.cell? ⟨g, off + k * 3 + 2, none⟩ = some (.string (strOfNums xt))) (fun _ => false) (by kernel_rfl) ?_
          refine anyL_take (i := 0) (v := ?vq45) rfl (by kernel_rfl) (by kernel_rfl) (by kernel_rfl) (by kernel_rfl) (fun _ _ _ h => h) (Or.inl ⟨by rfl, ?hq45⟩) (S0) ?_
          case hq45 => (intro w hSw; (try dsimp only at hSw); go_simp) <;> with_reducible rfl
          simp only [Act.put, List.getElem_toArray, List.getElem_cons_zero, List.setIfInBounds_toArray, List.set_cons_zero, List.set_cons_succ]
          refine anyL_take (i := 1) (v := ?vq46) rfl (by kernel_rfl) (by kernel_rfl) (by kernel_rfl) (by kernel_rfl) (fun _ _ _ h => h) (Or.inl ⟨by rfl, ?hq46⟩) (S0) ?_
          case hq46 => (intro w hSw; (try dsimp only at hSw); go_simp) <;> with_reducible rfl
          simp only [Act.put, List.getElem_toArray, List.getElem_cons_zero, List.getElem_cons_succ, List.setIfInBounds_toArray, List.set_cons_zero, List.set_cons_succ]
          refine anyL_take (i := 2) (v := ?vq47) rfl (by kernel_rfl) (by kernel_rfl) (by kernel_rfl) (by kernel_rfl) (fun _ _ _ h => h) (Or.inl ⟨by rfl, ?hq47⟩) (S0) ?_
          case hq47 => (intro w hSw; (try dsimp only at hSw); go_simp) <;> with_reducible rfl
          simp only [Act.put, List.getElem_toArray, List.getElem_cons_zero, List.getElem_cons_succ, List.setIfInBounds_toArray, List.set_cons_zero, List.set_cons_succ]
          refine anyL_take (i := 3) (v := ?vq48) rfl (by kernel_rfl) (by kernel_rfl) (by kernel_rfl) (by kernel_rfl) (fun _ _ _ h => h) (Or.inl ⟨by rfl, ?hq48⟩) (S0) ?_
          case hq48 => (intro w hSw; (try dsimp only at hSw); go_simp) <;> with_reducible rfl
          simp only [Act.put, List.getElem_toArray, List.getElem_cons_zero, List.getElem_cons_succ, List.setIfInBounds_toArray, List.set_cons_zero, List.set_cons_succ]
          refine anyL_take (i := 4) (v := ?vq49) rfl (by kernel_rfl) (by kernel_rfl) (by kernel_rfl) (by kernel_rfl) (fun _ _ _ h => h) (Or.inl ⟨by rfl, ?hq49⟩) (S0) ?_
          case hq49 => (intro w hSw; (try dsimp only at hSw); go_simp) <;> with_reducible rfl
          simp only [Act.put, List.getElem_toArray, List.getElem_cons_zero, List.getElem_cons_succ, List.setIfInBounds_toArray, List.set_cons_zero, List.set_cons_succ]
          refine anyL_take (i := 5) (v := ?vq50) rfl (by kernel_rfl) (by kernel_rfl) (by kernel_rfl) (by kernel_rfl) (fun _ _ _ h => h) (Or.inl ⟨by rfl, ?hq50⟩) (S0) ?_
          case hq50 => (intro w hSw; (try dsimp only at hSw); go_simp) <;> with_reducible rfl
          simp only [Act.put, List.getElem_toArray, List.getElem_cons_zero, List.getElem_cons_succ, List.setIfInBounds_toArray, List.set_cons_zero, List.set_cons_succ]
          refine anyL_take (i := 6) (v := ?vq51) rfl (by kernel_rfl) (by kernel_rfl) (by kernel_rfl) (by kernel_rfl) (fun _ _ _ h => h) (Or.inl ⟨by rfl, ?hq51⟩) (S0) ?_
          case hq51 => (intro w hSw; (try dsimp only at hSw); go_simp) <;> with_reducible rfl
          simp only [Act.put, List.getElem_toArray, List.getElem_cons_zero, List.getElem_cons_succ, List.setIfInBounds_toArray, List.set_cons_zero, List.set_cons_succ]
          refine anyL_take (i := 7) (v := ?vq52) rfl (by kernel_rfl) (by kernel_rfl) (by kernel_rfl) (by kernel_rfl) (fun _ _ _ h => h) (Or.inl ⟨by rfl, ?hq52⟩) (S0) ?_
          case hq52 => (intro w hSw; (try dsimp only at hSw); go_simp) <;> with_reducible rfl
          simp only [Act.put, List.getElem_toArray, List.getElem_cons_zero, List.getElem_cons_succ, List.setIfInBounds_toArray, List.set_cons_zero, List.set_cons_succ]
          refine anyL_take (i := 8) (v := ?vq53) rfl (by kernel_rfl) (by kernel_rfl) (by kernel_rfl) (by kernel_rfl) (fun _ _ _ h => h) (Or.inl ⟨by rfl, ?hq53⟩) (S0) ?_
          case hq53 => (intro w hSw; (try dsimp only at hSw); go_simp) <;> with_reducible rfl
          simp only [Act.put, List.getElem_toArray, List.getElem_cons_zero, List.getElem_cons_succ, List.setIfInBounds_toArray, List.set_cons_zero, List.set_cons_succ]
          refine anyL_take (i := 9) (v := ?vq54) rfl (by kernel_rfl) (by kernel_rfl) (by kernel_rfl) (by kernel_rfl) (fun _ _ _ h => h) (Or.inl ⟨by rfl, ?hq54⟩) (S0) ?_
          case hq54 => (intro w hSw; (try dsimp only at hSw); go_simp) <;> with_reducible rfl
          simp only [Act.put, List.getElem_toArray, List.getElem_cons_zero, List.getElem_cons_succ, List.setIfInBounds_toArray, List.set_cons_zero, List.set_cons_succ]
          refine anyL_take (i := 10) (v := ?vq55) rfl (by kernel_rfl) (by kernel_rfl) (by kernel_rfl) (by kernel_rfl) (fun _ _ _ h => h) (Or.inl ⟨by rfl, ?hq55⟩) (S0) ?_
          case hq55 => (intro w hSw; (try dsimp only at hSw); go_simp) <;> with_reducible rfl
          simp only [Act.put, List.getElem_toArray, List.getElem_cons_zero, List.getElem_cons_succ, List.setIfInBounds_toArray, List.set_cons_zero, List.set_cons_succ]
          refine anyL_take (i := 11) (v := ?vq56) rfl (by kernel_rfl) (by kernel_rfl) (by kernel_rfl) (by kernel_rfl) (fun _ _ _ h => h) (Or.inl ⟨by rfl, ?hq56⟩) (S0) ?_
          case hq56 => (intro w hSw; (try dsimp only at hSw); go_simp) <;> with_reducible rfl
          simp only [Act.put, List.getElem_toArray, List.getElem_cons_zero, List.getElem_cons_succ, List.setIfInBounds_toArray, List.set_cons_zero, List.set_cons_succ]
          refine anyL_take (i := 12) (v := ?vq57) rfl (by kernel_rfl) (by kernel_rfl) (by kernel_rfl) (by kernel_rfl) (fun _ _ _ h => h) (Or.inl ⟨by rfl, ?hq57⟩) (S0) ?_
          case hq57 => (intro w hSw; (try dsimp only at hSw); go_simp) <;> with_reducible rfl
          simp only [Act.put, List.getElem_toArray, List.getElem_cons_zero, List.getElem_cons_succ, List.setIfInBounds_toArray, List.set_cons_zero, List.set_cons_succ]
          refine anyL_take (i := 13) (v := ?vq58) rfl (by kernel_rfl) (by kernel_rfl) (by kernel_rfl) (by kernel_rfl) (fun _ _ _ h => h) (Or.inl ⟨by rfl, ?hq58⟩) (S0) ?_
          case hq58 => (intro w hSw; (try dsimp only at hSw); go_simp) <;> with_reducible rfl
          simp only [Act.put, List.getElem_toArray, List.getElem_cons_zero, List.getElem_cons_succ, List.setIfInBounds_toArray, List.set_cons_zero, List.set_cons_succ]
          refine anyL_take (i := 14) (v := ?vq59) rfl (by kernel_rfl) (by kernel_rfl) (by kernel_rfl) (by kernel_rfl) (fun _ _ _ h => h) (Or.inl ⟨by rfl, ?hq59⟩) (S0) ?_
          case hq59 => (intro w hSw; (try dsimp only at hSw); go_simp) <;> with_reducible rfl
          simp only [Act.put, List.getElem_toArray, List.getElem_cons_zero, List.getElem_cons_succ, List.setIfInBounds_toArray, List.set_cons_zero, List.set_cons_succ]
          refine anyL_done (by kernel_rfl) ?_ _
          go_wp2_with fail
          refine (unhide HE _ (unhide HBY)).mono ?_
          rintro y v1 ⟨rfl, rfl⟩
          dsimp only
          clear HE
          go_wp2_with fail
          go_roundw
          case rel => exact ⟨⟨_, rfl⟩, k + 1, T, by go_num, h1, rfl, hide ⟨hT.symm, unhide HRF, unhide HBY⟩⟩
          case measure => simp [intOf]; omega
    · obtain rfl : k = d.length := by omega
      have t1 : decide ((d.length : Int) < (d.length : Int)) = false := decide_eq_false (by omega)
      obtain ⟨hz0, hr, hbx⟩ := unhide HX
      have hr2 : ((t : Int) == (m.length : Int)) = R := by
        rw [hr, List.drop_eq_nil_of_le (Nat.le_refl _)]; unfold clnB
        rw [Bool.eq_iff_iff]; simp; omega
      have HBX := hide hbx
      have HR2 := hide hr2
      clear HX hr hbx hr2 hz0
      go_wp2_with fail
      exact bodyPost_ret (results_tmp rfl _ _ _) rfl ⟨by rw [← unhide HR2]; rfl, unhide HBX⟩
end Go.Proofs.YtkdnanlgkedjgabDoor
end

section
namespace Go.Proofs.YtkdnanlgkedjgabDoor
open Go.ChangeShapes Go.WideShapes Go.ChangeAt Go.RowKit
attribute [local go_sem] Oper.semAt_some

theorem rwk_set {W : World} {B s n cap g : Nat} {e : TypeId} {xs : List Value} (h : W.ownsRow B e s (.slice (some ⟨g, 0, none⟩) n cap) n xs) (j : Nat) (u : Value) : (W.setCell ⟨g, j, none⟩ u).ownsRow B e s (.slice (some ⟨g, 0, none⟩) n cap) n (xs.set j u) := by
  rcases h.2 with ⟨e1, _⟩ | ⟨g', cap', cur, e1, hb, hg, hn, hm, hs, ht⟩
  · cases e1
  · cases e1
    refine ⟨by rw [List.length_set]; exact h.1, .inr ⟨g, cap, cur.setIfInBounds j u, rfl, hb, ?_, hn, hm, by rw [Array.size_setIfInBounds]; exact hs, ?_⟩⟩
    · have hl := (Array.getElem?_eq_some_iff.1 hg).1
      show (W.heap.modify g _)[g]? = _
      rw [Array.getElem?_eq_getElem (by rw [Array.size_modify]; exact hl), Array.getElem_modify_self]
      rw [Array.getElem?_eq_getElem hl] at hg
      rw [Option.some.inj hg]
      rfl
    · rw [Array.toList_setIfInBounds, List.take_set, ht]
/-- and how it is read -/
theorem rwk_cell {W : World} {B s n cap g : Nat} {e : TypeId} {xs : List Value} (h : W.ownsRow B e s (.slice (some ⟨g, 0, none⟩) n cap) n xs) (j : Nat) (hj : j < n * s) : W.cell? ⟨g, j, none⟩ = xs[j]? ∧ W.frozen? ⟨g, j, none⟩ = false := by
  rcases h.2 with ⟨e1, _⟩ | ⟨g', cap', cur, e1, hb, hg, hn, hm, hs, ht⟩
  · cases e1
  · cases e1
    refine ⟨?_, by simp [World.frozen?, hg]⟩
    rw [← ht, List.getElem?_take_of_lt hj]
    simp [World.cell?, hg]
theorem own_ra {X : World} {B s n : Nat} {t : TypeId} {v : Value} {xs : List Value} (h : X.ownsRow B t s v n xs) : RA X s v n xs v.ownBlock := by
  refine ⟨h.1, ?_⟩
  rcases h.2 with ⟨rfl, h0⟩ | ⟨g, cap, cur, rfl, hB, hg, hc, hm, hs, ht⟩
  · exact .inl ⟨rfl, h0, rfl⟩
  · refine .inr ⟨g, 0, cap, rfl, rfl, (Array.getElem?_eq_some_iff.1 hg).1, hc, fun j hj => ?_, fun j hj => ?_⟩
    · rw [Nat.zero_add]
      refine ⟨?_, by simp [World.frozen?, hg]⟩
      simp only [World.cell?, hg]
      simp; omega
    · rw [Nat.zero_add, ← ht, List.getElem?_take_of_lt hj]
      simp [World.cell?, hg]
theorem own_kp {X Y : World} {F : Nat → Prop} {B s n : Nat} {t : TypeId} {v : Value} {xs : List Value} (h : X.ownsRow B t s v n xs) (k : KpF F X Y) (hF : ∀ g, v.ownBlock = some g → ¬ F g) : Y.ownsRow B t s v n xs := by
  refine ⟨h.1, ?_⟩
  rcases h.2 with h1 | ⟨g, cap, cur, rfl, hB, hg, hr⟩
  · exact .inl h1
  · exact .inr ⟨g, cap, cur, rfl, hB, (k.block g (Array.getElem?_eq_some_iff.1 hg).1 (hF g rfl)).trans hg, hr⟩
theorem own_base {X : World} {B s n : Nat} {t : TypeId} {v : Value} {xs : List Value} (h : X.ownsRow B t s v n xs) : ∀ g, v.ownBlock = some g → B ≤ g ∧ g < X.heap.size := fun g e => by
  rcases h.2 with ⟨rfl, _⟩ | ⟨g', cap, cur, rfl, hB, hg, _⟩
  · cases e
  · cases e; exact ⟨hB, (Array.getElem?_eq_some_iff.1 hg).1⟩
theorem own_io {X : World} {B c : Nat} {a : Option Addr} {t : TypeId} {d : List Dop} (h : X.ownsRow B t 3 (.slice a d.length c) d.length (opsV d)) : IsO X a d := by
  obtain ⟨a', c', e, hi, _⟩ := own_isOE h
  cases e; exact hi
theorem own_some {X : World} {B c : Nat} {a : Option Addr} {t : TypeId} {d : List Dop} (h : X.ownsRow B t 3 (.slice a d.length c) d.length (opsV d)) : d = [] ∨ ∃ p, a = some p := by
  rcases h.2 with ⟨_, h0⟩ | ⟨g, cap, cur, e, _⟩
  · exact .inl (List.length_eq_zero_iff.1 h0)
  · cases e; exact .inr ⟨_, rfl⟩
theorem own_steps {X : World} {B n c g i : Nat} {t : TypeId} {xs : List Value} (h : X.ownsRow B t 3 (.slice (some ⟨g, 0, none⟩) n c) n xs) (hi : i < n) (u0 u1 u2 : Value) :
    (∃ a b s, X.cell? ⟨g, i * 3, none⟩ = some a ∧ X.frozen? ⟨g, i * 3, none⟩ = false ∧ (X.setCell ⟨g, i * 3, none⟩ u0).cell? ⟨g, i * 3 + 1, none⟩ = some b ∧ (X.setCell ⟨g, i * 3, none⟩ u0).frozen? ⟨g, i * 3 + 1, none⟩ = false ∧ ((X.setCell ⟨g, i * 3, none⟩ u0).setCell ⟨g, i * 3 + 1, none⟩ u1).cell? ⟨g, i * 3 + 2, none⟩ = some s ∧ ((X.setCell ⟨g, i * 3, none⟩ u0).setCell ⟨g, i * 3 + 1, none⟩ u1).frozen? ⟨g, i * 3 + 2, none⟩ = false) ∧
    ∃ ys, (((X.setCell ⟨g, i * 3, none⟩ u0).setCell ⟨g, i * 3 + 1, none⟩ u1).setCell ⟨g, i * 3 + 2, none⟩ u2).ownsRow B t 3 (.slice (some ⟨g, 0, none⟩) n c) n ys := by
  have hl := h.1
  have c0 := rwk_cell h (i * 3) (by omega)
  have h1 := rwk_set h (i * 3) u0
  have c1 := rwk_cell h1 (i * 3 + 1) (by omega)
  have h2 := rwk_set h1 (i * 3 + 1) u1
  have c2 := rwk_cell h2 (i * 3 + 2) (by omega)
  rw [List.getElem?_eq_getElem (by omega)] at c0
  rw [List.getElem?_eq_getElem (by rw [List.length_set]; omega)] at c1
  rw [List.getElem?_eq_getElem (by rw [List.length_set, List.length_set]; omega)] at c2
  exact ⟨⟨_, _, _, c0.1, c0.2, c1.1, c1.2, c2.1, c2.2⟩, _, rwk_set h2 (i * 3 + 2) u2⟩
theorem kp_three {X : World} {g i : Nat} {u0 u1 u2 : Value} (F : Nat → Prop) (hF : F g) : KpF F X (((X.setCell ⟨g, i * 3, none⟩ u0).setCell ⟨g, i * 3 + 1, none⟩ u1).setCell ⟨g, i * 3 + 2, none⟩ u2) :=
  ((KpF.set X ⟨g, i * 3, none⟩ u0 hF).trans (KpF.set _ ⟨g, i * 3 + 1, none⟩ u1 hF) (fun _ _ h => h)).trans (KpF.set _ ⟨g, i * 3 + 2, none⟩ u2 hF) (fun _ _ h => h)
set_option maxRecDepth 100000 in
theorem push_opR (W : World) (v : Value) (n : Nat) (xs : List Value) (k : Option Nat) (p q : Int) (ty : TypeId) (h : RA W 3 v n xs k) (hn : n ≤ 1000000000) :
    ∃ v' Y k', (Builtin.append_ #[24, 24] ty #[v, .slice (some ⟨W.heap.size, 0, none⟩) 1 1]).run Tryd.prog (W.alloc (.cells #[.int .i64 p, .int .i64 q, .string ⟨#[]⟩] 41)) = .ok v' Y ∧
      RA Y 3 v' (n + 1) (xs ++ [.int .i64 p, .int .i64 q, .string ⟨#[]⟩]) k' ∧ KpF (fun b => k = some b) W Y ∧ ∀ G, k' = some G → (k = some G ∨ W.heap.size ≤ G) := by
  have h1 := h.allocd (.cells #[.int .i64 p, .int .i64 q, .string ⟨#[]⟩] 41)
  obtain ⟨c0, c1, c2⟩ := three_nwD W (.int .i64 p) (.int .i64 q) (.string ⟨#[]⟩) (t := 41)
  obtain ⟨i, hi, hz, hs, hby⟩ := info_op
  obtain ⟨v', Y, k', hr, h2, h3, h4⟩ := h1.push (P := Tryd.prog) 24 ty 41 i _ 32 Tryd.underlying24 hi hz hs hby rfl ⟨W.heap.size, 0, none⟩ 1 [.int .i64 p, .int .i64 q, .string ⟨#[]⟩] rfl (fun j u hj => by
      match j with
      | 0 => simp at hj; subst hj; rw [Addr.add_lit]; exact c0
      | 1 => simp at hj; subst hj; rw [Addr.add_lit]; exact c1
      | 2 => simp at hj; subst hj; rw [Addr.add_lit]; exact c2
      | j + 3 => simp at hj) (fun u hu => by simp at hu; rcases hu with rfl | rfl | rfl <;> rfl) hn (by omega)
  refine ⟨v', Y, k', hr, h2, (KpF.alloc (fun b => k = some b) W _).trans h3 (fun _ _ g => g), fun G hG => ?_⟩
  rcases h4 with ⟨e, _⟩ | e
  · exact .inl (e ▸ hG)
  · rw [e] at hG; cases hG; refine .inr ?_; simp
set_option maxRecDepth 100000 in
set_option maxHeartbeats 4000000 in
theorem spoil_at (a : Option Addr) (c n : Nat) (xs : List Value) (B : Nat) (w : World) (h : w.ownsRow B 41 3 (.slice a n c) n xs) (hn : n ≤ 1000000) :
    Calls Tryd.prog 15 #[.slice a n c] w fun y w' => y = .returned (.tuple #[]) ∧ KpF (fun b => (Value.slice a n c).ownBlock = some b) w w' := by
  have H0 := hide h
  go_enter Tryd.func15, Tryd.ntmps15
  clear h
  go_wp2_with fail
  go_loopw [2, 6] (fun v2 v6 wx => (∃ z, v2 = z) ∧ ∃ k : Nat, v6 = .int .i64 (k : Int) ∧ k ≤ n ∧ Hid ((∃ ys, wx.ownsRow B 41 3 (.slice a n c) n ys) ∧ KpF (fun b => (Value.slice a n c).ownBlock = some b) w wx)) (fun _ v6 _ => n - (intOf v6).toNat)
  case atStart => exact ⟨⟨_, rfl⟩, 0, rfl, Nat.zero_le _, hide ⟨⟨_, unhide H0⟩, KpF.refl _ _⟩⟩
  case round =>
    clear H0
    obtain ⟨⟨z, rfl⟩, k, rfl, hk, HX⟩ := hrel
    by_cases h1 : k < n
    · have t1 : decide ((k : Int) < (n : Int)) = true := decide_eq_true (by omega)
      have f1 : (k : Int) < (n : Int) := by omega
      obtain ⟨⟨ys, ho⟩, hkp⟩ := unhide HX
      obtain ⟨g, rfl⟩ : ∃ g, a = some ⟨g, 0, none⟩ := by
        rcases ho.2 with ⟨_, h0⟩ | ⟨g, cap, cur, e, _⟩
        · omega
        · cases e; exact ⟨g, rfl⟩
      obtain ⟨⟨y0, y1, y2, c0, z0, c1, z1, c2, z2⟩, zs, ho2⟩ := own_steps ho h1 (.int .i64 7) (.int .i64 (-1)) (.string ⟨#[]⟩)
      have HN := hide (And.intro (show ∃ ys, _ from ⟨zs, ho2⟩) (hkp.trans (kp_three (X := wr) (g := g) (i := k) (u0 := .int .i64 7) (u1 := .int .i64 (-1)) (u2 := .string ⟨#[]⟩) (fun b => (Value.slice (some ⟨g, 0, none⟩) n c).ownBlock = some b) rfl) (fun _ _ h => h)))
      have e3 : IntKind.i64.wrap ((k : Int) + 1) = (k : Int) + 1 := by rw [IntKind.wrap_i64]; omega
      clear ho hkp ho2 HX hk
      go_wp2_with fail
      go_roundw
      case rel => exact ⟨⟨_, rfl⟩, k + 1, by go_num, h1, HN⟩
      case measure => simp [intOf]; omega
    · obtain rfl : k = n := by omega
      have t1 : decide ((k : Int) < (k : Int)) = false := decide_eq_false (by omega)
      obtain ⟨⟨ys, ho⟩, hkp⟩ := unhide HX
      obtain ⟨K0, hK⟩ : ∃ K0, K0 = (Value.slice a k c).ownBlock := ⟨_, rfl⟩
      have hra := own_ra ho
      rw [← hK] at hkp hra
      have HKK := hide hK
      have H1 := hide (And.intro hra hkp)
      clear HX ho hkp hra h1 hK hk
      go_wp2_with fail
      go_loopw [0, 3] (fun v0 v3 wx => ∃ j : Nat, v3 = .int .i64 (j : Int) ∧ j ≤ 40 ∧ Hid (∃ q ys k', RA wx 3 v0 q ys k' ∧ q ≤ k + j ∧ (∀ G, k' = some G → K0 = some G ∨ w.heap.size ≤ G) ∧ KpF (fun b => K0 = some b) w wx)) (fun _ v3 _ => 40 - (intOf v3).toNat)
      case atStart => exact ⟨0, rfl, Nat.zero_le _, hide ⟨k, ys, K0, (unhide H1).1, Nat.le_refl _, fun G e => .inl e, (unhide H1).2⟩⟩
      case round =>
        clear H1
        obtain ⟨j, rfl, hj, HX⟩ := hrel
        by_cases h2 : j < 40
        · have t2 : decide ((j : Int) < 40) = true := decide_eq_true (by omega)
          obtain ⟨q, ys, k', hra, hq, hkk, hkp⟩ := unhide HX
          obtain ⟨v', Y, k2, r, ra2, kp2, kk2⟩ := push_opR wr u0 q ys k' 8 (-2) 24 hra (by omega)
          have HN : Hid (∃ q ys k', RA Y 3 v' q ys k' ∧ q ≤ k + (j + 1) ∧ (∀ G, k' = some G → K0 = some G ∨ w.heap.size ≤ G) ∧ KpF (fun b => K0 = some b) w Y) := hide ⟨q + 1, _, k2, ra2, by omega, fun G e => by
              rcases kk2 G e with g | g
              · exact hkk G g
              · exact .inr (Nat.le_trans hkp.size g), hkp.trans kp2 (fun b hb e => by
              rcases hkk b e with g | g
              · exact g
              · omega)⟩
          have R := hide r
          have e3 : IntKind.i64.wrap ((j : Int) + 1) = (j : Int) + 1 := by rw [IntKind.wrap_i64]; omega
          clear hra hq hkk hkp r ra2 kp2 kk2 HX hj
          go_wp2_with (at_builtin; refine wpList_append_known rfl _ _ 24 24 rfl _ _ rfl rfl _ _ (unhide R) ?_)
          go_roundw
          case rel => exact ⟨j + 1, by go_num, h2, HN⟩
          case measure => simp [intOf]; omega
        · obtain rfl : j = 40 := by omega
          have HF : Hid (KpF (fun b => K0 = some b) w wr) := hide (by obtain ⟨_, _, _, _, _, _, g⟩ := unhide HX; exact g)
          clear HX hj h2
          go_wp2_with fail
          exact bodyPost_end (results_none rfl _ _ _) rfl ⟨rfl, by have := unhide HF; rw [unhide HKK] at this; exact this⟩
end Go.Proofs.YtkdnanlgkedjgabDoor
end

section
namespace Go.Proofs.YtkdnanlgkedjgabDoor
open Go.ChangeShapes Go.WideShapes Go.ChangeAt Go.RowKit
attribute [local go_sem] Oper.semAt_some

def BlA (a b : Option Nat) : Prop := ∀ g, a = some g → b ≠ some g
structure OwJ (w X : World) (gx gy nx ny cx cy : Nat) (Lx Ly : List Int) (rs : List (Value × List Dop)) : Prop where
  d : Below w.heap.size w X
  hx : Lx.length = nx
  hy : Ly.length = ny
  x : Own X w.heap.size (.slice (some ⟨gx, 0, none⟩) nx cx) Lx
  y : Own X w.heap.size (.slice (some ⟨gy, 0, none⟩) ny cy) Ly
  r : ∀ q ∈ rs, X.ownsRow w.heap.size 41 3 q.1 q.2.length (opsV q.2)
  p : (some gx :: some gy :: rs.map fun q => q.1.ownBlock).Pairwise BlA
theorem ownr_low {X : World} {B B' s n : Nat} {t : TypeId} {v : Value} {xs : List Value} (h : X.ownsRow B t s v n xs) (hB : B' ≤ B) : X.ownsRow B' t s v n xs := by
  refine ⟨h.1, ?_⟩
  rcases h.2 with e | ⟨g, cap, cur, e, h1, h2⟩
  · exact .inl e
  · exact .inr ⟨g, cap, cur, e, Nat.le_trans hB h1, h2⟩
theorem ownr_below {X Y : World} {B s n : Nat} {t : TypeId} {v : Value} {xs : List Value} (h : X.ownsRow B t s v n xs) (hb : Below X.heap.size X Y) : Y.ownsRow B t s v n xs := own_kp h (F := fun _ => False) (KpF.of hb) (fun _ _ e => e)
variable {w X Y : World} {gx gy nx ny cx cy : Nat} {Lx Ly : List Int} {rs : List (Value × List Dop)}
theorem OwJ.lt (h : OwJ w X gx gy nx ny cx cy Lx Ly rs) : ∀ o ∈ some gx :: some gy :: rs.map (fun q => q.1.ownBlock), ∀ g, o = some g → w.heap.size ≤ g ∧ g < X.heap.size := by
  intro o ho g e
  rcases List.mem_cons.1 ho with rfl | ho
  · cases e; exact own_base h.x gx rfl
  rcases List.mem_cons.1 ho with rfl | ho
  · cases e; exact own_base h.y gy rfl
  obtain ⟨q, hq, rfl⟩ := List.mem_map.1 ho
  exact own_base (h.r q hq) g e
theorem OwJ.kp {F : Nat → Prop} (h : OwJ w X gx gy nx ny cx cy Lx Ly rs) (k : KpF F X Y) (hF : ∀ o ∈ some gx :: some gy :: rs.map (fun q => q.1.ownBlock), ∀ g, o = some g → ¬ F g) (hw : ∀ g, F g → w.heap.size ≤ g) : OwJ w Y gx gy nx ny cx cy Lx Ly rs :=
  ⟨h.d.trans (k.below h.d.size hw), h.hx, h.hy, own_kp h.x k (fun g e => hF (some gx) (by simp) g e), own_kp h.y k (fun g e => hF (some gy) (by simp) g e), fun q hq => own_kp (h.r q hq) k (fun g e => hF _ (by
    refine List.mem_cons_of_mem _ (List.mem_cons_of_mem _ ?_)
    exact List.mem_map_of_mem (f := fun q : Value × List Dop => q.1.ownBlock) hq) g e), h.p⟩
theorem OwJ.below (h : OwJ w X gx gy nx ny cx cy Lx Ly rs) (hb : Below X.heap.size X Y) : OwJ w Y gx gy nx ny cx cy Lx Ly rs := h.kp (F := fun _ => False) (KpF.of hb) (fun _ _ _ _ e => e) (fun _ e => e.elim)
theorem OwJ.add (h : OwJ w X gx gy nx ny cx cy Lx Ly rs) (hb : Below X.heap.size X Y) {v : Value} {D : List Dop} (ho : Y.ownsRow X.heap.size 41 3 v D.length (opsV D)) : OwJ w Y gx gy nx ny cx cy Lx Ly (rs ++ [(v, D)]) := by
  have h2 := h.below hb
  have hz := h.d.size
  refine ⟨h2.d, h2.hx, h2.hy, h2.x, h2.y, fun q hq => ?_, ?_⟩
  · rcases List.mem_append.1 hq with hq | hq
    · exact h2.r q hq
    · rw [List.mem_singleton] at hq; subst hq; exact ownr_low ho hz
  · rw [List.map_append, ← List.cons_append, ← List.cons_append, List.pairwise_append]
    refine ⟨h.p, by simp, fun a ha b hb => ?_⟩
    simp at hb
    subst hb
    intro g e e2
    have := h.lt a ha g e
    have := own_base ho g e2
    omega
theorem OwJ.drop {A B : List (Value × List Dop)} {q : Value × List Dop} (h : OwJ w X gx gy nx ny cx cy Lx Ly (A ++ q :: B)) (k : KpF (fun b => q.1.ownBlock = some b) X Y) : OwJ w Y gx gy nx ny cx cy Lx Ly (A ++ B) := by
  have hs : (A ++ B).Sublist (A ++ q :: B) := List.Sublist.append_left (List.sublist_cons_self q B) A
  have hp := h.p
  have h1 : OwJ w X gx gy nx ny cx cy Lx Ly (A ++ B) := ⟨h.d, h.hx, h.hy, h.x, h.y, fun z hz => h.r z (hs.subset hz), h.p.sublist ((hs.map _).cons_cons _ |>.cons_cons _)⟩
  have hq : ∀ g, q.1.ownBlock = some g → w.heap.size ≤ g := fun g e => (own_base (h.r q (by simp)) g e).1
  refine h1.kp k (fun o ho g e e2 => ?_) hq
  rw [List.map_append, List.map_cons, ← List.cons_append, ← List.cons_append, List.pairwise_append] at hp
  obtain ⟨p1, p2, p3⟩ := hp
  rw [List.map_append, ← List.cons_append, ← List.cons_append] at ho
  rcases List.mem_append.1 ho with ho | ho
  · exact p3 o ho _ (by simp) g e e2
  · exact (List.pairwise_cons.1 p2).1 o ho g e2 e
theorem OwJ.setx (h : OwJ w X gx gy nx ny cx cy Lx Ly rs) (k : Nat) (f : Int) : OwJ w (X.setCell ⟨gx, k, none⟩ (.int .u8 f)) gx gy nx ny cx cy (Lx.set k f) Ly rs := by
  have hk := KpF.set (F := fun b => b = gx) X ⟨gx, k, none⟩ (.int .u8 f) rfl
  have hp := List.pairwise_cons.1 h.p
  refine ⟨h.d.setCell (p := ⟨gx, k, none⟩) (h.lt _ (by simp) gx rfl).1 _, by rw [List.length_set]; exact h.hx, h.hy, h.x.set k f, own_kp h.y hk (fun g e e2 => ?_), fun q hq => own_kp (h.r q hq) hk (fun g e e2 => ?_), h.p⟩
  · cases e; exact hp.1 (some gy) (by simp) gx rfl (congrArg some e2)
  · subst e2; exact hp.1 _ (List.mem_cons_of_mem _ (List.mem_map_of_mem (f := fun q : Value × List Dop => q.1.ownBlock) hq)) _ rfl e
theorem OwJ.sety (h : OwJ w X gx gy nx ny cx cy Lx Ly rs) (k : Nat) (f : Int) : OwJ w (X.setCell ⟨gy, k, none⟩ (.int .u8 f)) gx gy nx ny cx cy Lx (Ly.set k f) rs := by
  have hk := KpF.set (F := fun b => b = gy) X ⟨gy, k, none⟩ (.int .u8 f) rfl
  have hp := List.pairwise_cons.1 h.p
  have hp2 := List.pairwise_cons.1 hp.2
  refine ⟨h.d.setCell (p := ⟨gy, k, none⟩) (h.lt _ (by simp) gy rfl).1 _, h.hx, by rw [List.length_set]; exact h.hy, own_kp h.x hk (fun g e e2 => ?_), h.y.set k f, fun q hq => own_kp (h.r q hq) hk (fun g e e2 => ?_), h.p⟩
  · cases e; exact hp.1 (some gy) (by simp) gx rfl (congrArg some e2.symm)
  · subst e2; exact hp2.1 _ (List.mem_map_of_mem (f := fun q : Value × List Dop => q.1.ownBlock) hq) _ rfl e
theorem own_isBg {w : World} {B g n c : Nat} {l : List Int} (h : Own w B (.slice (some ⟨g, 0, none⟩) n c) l) (hl : ByL l) (hn : l.length ≤ 140737488351232) : IsB w (some ⟨g, 0, none⟩) c l := by
  rcases h.2 with ⟨e, _⟩ | ⟨g', cap, cur, e, _, _, hc, _⟩
  · cases e
  · have e1 : g = g' ∧ c = cap := by simp at e; exact ⟨e.1, e.2.2⟩
    obtain ⟨rfl, rfl⟩ := e1
    exact ⟨hc, hn, Or.inr ⟨g, 0, rfl, h.lies hl⟩, hl⟩
theorem own_pre {w : World} {B g n c : Nat} {l t : List Int} (h : Own w B (.slice (some ⟨g, 0, none⟩) n c) (l ++ t)) (hl : ByL l) (ht : ByL t) (hn : l.length + t.length ≤ 140737488351232) : IsB w (some ⟨g, 0, none⟩) c l := by
  have h1 := (own_isBg h (fun x hx => (List.mem_append.1 hx).elim (hl x) (ht x)) (by rw [List.length_append]; exact hn)).takeD (n := l.length)
  rwa [List.take_left'] at h1
  rfl
theorem str_appE (a b : List Int) : strOfNums a ++ strOfNums b = strOfNums (a ++ b) := by
  apply ByteArray.ext
  simp [strOfNums]
theorem two_byl (p q : Int) (h : 0 ≤ p ∧ p ≤ 255) (h' : 0 ≤ q ∧ q ≤ 255) : ByL [p, q] := fun x hx => by
  rcases List.mem_cons.1 hx with rfl | hx
  · exact h
  · rw [List.mem_singleton] at hx; subst hx; exact h'
theorem val_cnt {d : List Dop} (hv : valB d = true) : d.length ≤ frD d + toD d := by
  have h : ∀ o ∈ d, 1 ≤ frN o + toN o := fun o ho => by
    rcases valB_op hv ho with ⟨h1, h2, _⟩ | ⟨h1, _, h3⟩
    · rw [frN_els h1]; omega
    · have : 0 < o.t.length := List.length_pos_iff.2 h3
      unfold toN; rw [if_neg (by omega), if_pos h1]; omega
  clear hv
  induction d with
  | nil => simp
  | cons o r ih =>
    have := ih (fun x hx => h x (by simp [hx]))
    have := h o (by simp)
    rw [frDc, toDc, List.length_cons]; omega
set_option maxHeartbeats 1000000 in
theorem own19O_at (a0 : Option Addr) (cap : Nat) (l : List Int) (w : World) (hB : IsB w a0 cap l) :
    Calls Tryd.prog 7 #[.slice a0 l.length cap] w fun e w' => ∃ v, e = .returned v ∧ Own w' w.heap.size v l ∧ Below w.heap.size w w' := by
  obtain ⟨v1, w1, r1, x1, y1⟩ := run_copy_own w a0 cap l 22 hB
  have R1 := hide r1
  clear r1
  go_enter Tryd.func7, Tryd.ntmps7
  go_wp2_with (at_builtin; refine wpList_append_known rfl _ _ 22 22 rfl _ _ rfl rfl _ _ (unhide R1) ?_)
  exact bodyPost_ret (results_tmp rfl _ _ _) rfl ⟨v1, rfl, x1, y1⟩
end Go.Proofs.YtkdnanlgkedjgabDoor
end
