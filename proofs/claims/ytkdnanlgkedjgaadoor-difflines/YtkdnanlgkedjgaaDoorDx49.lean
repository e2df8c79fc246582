/- Layer 19: the document's Clean. · Layer 19: the document's Whole. · DiffLines: how many whole pieces lie between two cuts (plain); the law's pieces. · DiffLines: the law's pieces (written by wip/tools/dgs.py). -/
import Derived.Test.YtkdnanlgkedjgaaDoorDx48
import Derived.Test.YtkdnanlgkedjgaaDoorDx47

section
namespace Go.Proofs.YtkdnanlgkedjgaaDoor
open Go.ChangeShapes Go.WideShapes Go.ChangeAt Go.RowKit
attribute [local go_sem] Oper.semAt_some

theorem below_dN {B : Nat} {a w : World} (h : Below B a w) (n : Nat) : Below B a (w.drewN n) := ⟨h.os, h.tape, h.output, h.size, h.block⟩
theorem cln_wrap {t n T : Nat} (h : T = t + n) (hT : T ≤ 536870912) : IntKind.i64.wrap ((t : Int) + IntKind.i64.wrap ((n : Int))) = (T : Int) := by
  have e : IntKind.i64.wrap ((n : Int)) = (n : Int) := by rw [IntKind.wrap_i64]; omega
  rw [e, IntKind.wrap_i64]; clear e; omega
theorem cln_step {b : List Int} {d : List Dop} {k t : Nat} (h : k < d.length) : clnB b t (d.drop k) = (!(inside b (t + toN (d.getD k opZ))) && clnB b (t + toN (d.getD k opZ)) (d.drop (k + 1))) := by
  have e : d.drop k = d.getD k opZ :: d.drop (k + 1) := by
    rw [List.drop_eq_getElem_cons h]; simp [List.getD, List.getElem?_eq_getElem h]
  rw [e]; rfl
set_option maxRecDepth 100000 in
set_option maxHeartbeats 8000000 in
theorem RClean_at (a0 : Option Addr) (c0 : Nat) (m : List Int) (a : Option Addr) (c : Nat) (d : List Dop) (w : World) (hB : IsB w a0 c0 m) (h : IsO w a d) (hl : d.length ≤ 4611686018427387904) (hv : valB d = true) (hf : toD d = m.length) :
    Calls Tryd.prog 21 #[.slice a0 m.length c0, .slice a d.length c] w fun y w' => y = .returned (.bool (clnB m 0 d)) ∧ Below w.heap.size w w' := by
  have HO := hide h
  have HB := hide hB
  have HV := hide hv
  have HF := hide hf
  have hm := hB.2.1
  have hmz : m.length ≤ 268435456 := by rw [← hf]; exact (valB_nn hv).2.2
  obtain ⟨R, hR⟩ : ∃ R, R = clnB m 0 d := ⟨_, rfl⟩
  rw [← hR]
  have HR := hide hR
  clear h hB hv hf hR
  go_enter Tryd.func21, Tryd.ntmps21
  go_wp2_with fail
  go_loopw [5, 6, 7] (fun v5 v6 v7 wx => (∃ z, v7 = z) ∧ ∃ (k t : Nat), v6 = .int .i64 (k : Int) ∧ k ≤ d.length ∧ v5 = .int .i64 (t : Int) ∧ Hid (t = toD (d.take k) ∧ R = clnB m t (d.drop k) ∧ Below w.heap.size w wx)) (fun _ v6 _ _ => d.length - (intOf v6).toNat)
  case atStart => exact ⟨⟨_, rfl⟩, 0, 0, rfl, Nat.zero_le _, rfl, hide ⟨rfl, unhide HR, Below.refl _ _⟩⟩
  case round =>
    clear HR
    obtain ⟨⟨z, rfl⟩, k, t, rfl, hk, rfl, HX⟩ := hrel
    by_cases h1 : k < d.length
    · have t1 : decide ((k : Int) < (d.length : Int)) = true := decide_eq_true (by omega)
      have f1 : (k : Int) < (d.length : Int) := by omega
      obtain ⟨hxt, hxr, hbx⟩ := unhide HX
      obtain ⟨g, off, rfl, hg, e0, e1, e2⟩ := ((unhide HO).below hbx (Nat.le_refl _)).three h1
      have hop := valB_op (unhide HV) (getD_memD h1)
      have hto := toD_take d h1
      have hle : toD (d.take (k + 1)) ≤ m.length := by
        rw [← unhide HF]
        unfold toD
        conv => rhs; rw [← List.take_append_drop (k + 1) d]
        rw [List.map_append, List.sum_append]
        exact Nat.le_add_right _ _
      rw [cln_step h1] at hxr
      rw [← hxt] at hto
      have HBX := hide hbx
      clear hxt hbx HX hk
      generalize hT : toD (d.take (k + 1)) = T at *
      generalize d.getD k opZ = x at *
      obtain ⟨xk, xn, xt⟩ := x
      rw [← hto] at hxr
      dsimp only at e0 e1 e2 hop
      have hsz := strOfNums_size xt
      have HE := hide fun (X : World) (hX : Below w.heap.size w X) => Inside_at a0 c0 T m X ((unhide HB).below hX (Nat.le_refl _)) hle
      have HXR := hide hxr
      clear hxr
      rcases hop with ⟨rfl | rfl, hn, rfl⟩ | ⟨rfl, rfl, hn⟩
      · obtain ⟨n, rfl⟩ : ∃ n : Nat, xn = (n : Int) := ⟨xn.toNat, by omega⟩
        rw [show toN ⟨1, (n : Int), []⟩ = n by simp [toN]] at hto
        have w2' : IntKind.i64.wrap ((t : Int) + IntKind.i64.wrap ((n : Int))) = (T : Int) := cln_wrap hto (by omega)
        clear hn hle hto hmz
        cases hin : inside m T with
        | true =>
          rw [hin] at HE HXR
          clear hin
          have HRF : Hid (R = false) := hide (by rw [unhide HXR]; rfl)
          clear HXR
          have S0 : wr.drew.cell? ⟨g, off + k * 3 + 1, none⟩ = some (.int .i64 (n : Int)) ∧ wr.drew.cell? ⟨g, off + k * 3 + 2, none⟩ = some (.string (strOfNums [])) := ⟨e1, e2⟩
          have HBY := hide (below_dN (unhide HBX) 1)
          go_wp2_with fail
          refine regionL (S := fun w' => w'.cell? ⟨g, off + k * 3 + 1, none⟩ = some (.int .i64 (n : Int)) ∧ w'.cell? ⟨g, off + k * 3 + 2, none⟩ = some (.string (strOfNums []))) (fun _ => false) (by kernel_rfl) ?_
          refine anyL_take (i := 0) (v := ?vq0) rfl (by kernel_rfl) (by kernel_rfl) (by kernel_rfl) (by kernel_rfl) (fun _ _ _ h => h) (Or.inl ⟨by rfl, ?hq0⟩) (S0) ?_
          case hq0 => (intro w hSw; (try dsimp only at hSw); go_simp) <;> with_reducible rfl
          simp only [Act.put, List.getElem_toArray, List.getElem_cons_zero, List.setIfInBounds_toArray, List.set_cons_zero, List.set_cons_succ]
          refine anyL_take (i := 1) (v := ?vq1) rfl (by kernel_rfl) (by kernel_rfl) (by kernel_rfl) (by kernel_rfl) (fun _ _ _ h => h) (Or.inl ⟨by rfl, ?hq1⟩) (S0) ?_
          case hq1 => (intro w hSw; (try dsimp only at hSw); go_simp) <;> with_reducible rfl
          simp only [Act.put, List.getElem_toArray, List.getElem_cons_zero, List.getElem_cons_succ, List.setIfInBounds_toArray, List.set_cons_zero, List.set_cons_succ]
          refine anyL_take (i := 2) (v := ?vq2) rfl (by kernel_rfl) (by kernel_rfl) (by kernel_rfl) (by kernel_rfl) (fun _ _ _ h => h) (Or.inl ⟨by rfl, ?hq2⟩) (S0) ?_
          case hq2 => (intro w hSw; (try dsimp only at hSw); go_simp) <;> with_reducible rfl
          simp only [Act.put, List.getElem_toArray, List.getElem_cons_zero, List.getElem_cons_succ, List.setIfInBounds_toArray, List.set_cons_zero, List.set_cons_succ]
          refine anyL_take (i := 3) (v := ?vq3) rfl (by kernel_rfl) (by kernel_rfl) (by kernel_rfl) (by kernel_rfl) (fun _ _ _ h => h) (Or.inl ⟨by rfl, ?hq3⟩) (S0) ?_
          case hq3 => (intro w hSw; (try dsimp only at hSw); go_simp) <;> with_reducible rfl
          simp only [Act.put, List.getElem_toArray, List.getElem_cons_zero, List.getElem_cons_succ, List.setIfInBounds_toArray, List.set_cons_zero, List.set_cons_succ]
          refine anyL_take (i := 4) (v := ?vq4) rfl (by kernel_rfl) (by kernel_rfl) (by kernel_rfl) (by kernel_rfl) (fun _ _ _ h => h) (Or.inl ⟨by rfl, ?hq4⟩) (S0) ?_
          case hq4 => (intro w hSw; (try dsimp only at hSw); go_simp) <;> with_reducible rfl
          simp only [Act.put, List.getElem_toArray, List.getElem_cons_zero, List.getElem_cons_succ, List.setIfInBounds_toArray, List.set_cons_zero, List.set_cons_succ]
          refine anyL_take (i := 5) (v := ?vq5) rfl (by kernel_rfl) (by kernel_rfl) (by kernel_rfl) (by kernel_rfl) (fun _ _ _ h => h) (Or.inl ⟨by rfl, ?hq5⟩) (S0) ?_
          case hq5 => (intro w hSw; (try dsimp only at hSw); go_simp) <;> with_reducible rfl
          simp only [Act.put, List.getElem_toArray, List.getElem_cons_zero, List.getElem_cons_succ, List.setIfInBounds_toArray, List.set_cons_zero, List.set_cons_succ]
          refine anyL_take (i := 6) (v := ?vq6) rfl (by kernel_rfl) (by kernel_rfl) (by kernel_rfl) (by kernel_rfl) (fun _ _ _ h => h) (Or.inl ⟨by rfl, ?hq6⟩) (S0) ?_
          case hq6 => (intro w hSw; (try dsimp only at hSw); go_simp) <;> with_reducible rfl
          simp only [Act.put, List.getElem_toArray, List.getElem_cons_zero, List.getElem_cons_succ, List.setIfInBounds_toArray, List.set_cons_zero, List.set_cons_succ]
          refine anyL_take (i := 7) (v := ?vq7) rfl (by kernel_rfl) (by kernel_rfl) (by kernel_rfl) (by kernel_rfl) (fun _ _ _ h => h) (Or.inl ⟨by rfl, ?hq7⟩) (S0) ?_
          case hq7 => (intro w hSw; (try dsimp only at hSw); go_simp) <;> with_reducible rfl
          simp only [Act.put, List.getElem_toArray, List.getElem_cons_zero, List.getElem_cons_succ, List.setIfInBounds_toArray, List.set_cons_zero, List.set_cons_succ]
          refine anyL_take (i := 8) (v := ?vq8) rfl (by kernel_rfl) (by kernel_rfl) (by kernel_rfl) (by kernel_rfl) (fun _ _ _ h => h) (Or.inl ⟨by rfl, ?hq8⟩) (S0) ?_
          case hq8 => (intro w hSw; (try dsimp only at hSw); go_simp) <;> with_reducible rfl
          simp only [Act.put, List.getElem_toArray, List.getElem_cons_zero, List.getElem_cons_succ, List.setIfInBounds_toArray, List.set_cons_zero, List.set_cons_succ]
          refine anyL_take (i := 9) (v := ?vq9) rfl (by kernel_rfl) (by kernel_rfl) (by kernel_rfl) (by kernel_rfl) (fun _ _ _ h => h) (Or.inl ⟨by rfl, ?hq9⟩) (S0) ?_
          case hq9 => (intro w hSw; (try dsimp only at hSw); go_simp) <;> with_reducible rfl
          simp only [Act.put, List.getElem_toArray, List.getElem_cons_zero, List.getElem_cons_succ, List.setIfInBounds_toArray, List.set_cons_zero, List.set_cons_succ]
          refine anyL_take (i := 10) (v := ?vq10) rfl (by kernel_rfl) (by kernel_rfl) (by kernel_rfl) (by kernel_rfl) (fun _ _ _ h => h) (Or.inl ⟨by rfl, ?hq10⟩) (S0) ?_
          case hq10 => (intro w hSw; (try dsimp only at hSw); go_simp) <;> with_reducible rfl
          simp only [Act.put, List.getElem_toArray, List.getElem_cons_zero, List.getElem_cons_succ, List.setIfInBounds_toArray, List.set_cons_zero, List.set_cons_succ]
          refine anyL_take (i := 11) (v := ?vq11) rfl (by kernel_rfl) (by kernel_rfl) (by kernel_rfl) (by kernel_rfl) (fun _ _ _ h => h) (Or.inl ⟨by rfl, ?hq11⟩) (S0) ?_
          case hq11 => (intro w hSw; (try dsimp only at hSw); go_simp) <;> with_reducible rfl
          simp only [Act.put, List.getElem_toArray, List.getElem_cons_zero, List.getElem_cons_succ, List.setIfInBounds_toArray, List.set_cons_zero, List.set_cons_succ]
          refine anyL_take (i := 12) (v := ?vq12) rfl (by kernel_rfl) (by kernel_rfl) (by kernel_rfl) (by kernel_rfl) (fun _ _ _ h => h) (Or.inl ⟨by rfl, ?hq12⟩) (S0) ?_
          case hq12 => (intro w hSw; (try dsimp only at hSw); go_simp) <;> with_reducible rfl
          simp only [Act.put, List.getElem_toArray, List.getElem_cons_zero, List.getElem_cons_succ, List.setIfInBounds_toArray, List.set_cons_zero, List.set_cons_succ]
          refine anyL_take (i := 13) (v := ?vq13) rfl (by kernel_rfl) (by kernel_rfl) (by kernel_rfl) (by kernel_rfl) (fun _ _ _ h => h) (Or.inl ⟨by rfl, ?hq13⟩) (S0) ?_
          case hq13 => (intro w hSw; (try dsimp only at hSw); go_simp) <;> with_reducible rfl
          simp only [Act.put, List.getElem_toArray, List.getElem_cons_zero, List.getElem_cons_succ, List.setIfInBounds_toArray, List.set_cons_zero, List.set_cons_succ]
          refine anyL_take (i := 14) (v := ?vq14) rfl (by kernel_rfl) (by kernel_rfl) (by kernel_rfl) (by kernel_rfl) (fun _ _ _ h => h) (Or.inl ⟨by rfl, ?hq14⟩) (S0) ?_
          case hq14 => (intro w hSw; (try dsimp only at hSw); go_simp) <;> with_reducible rfl
          simp only [Act.put, List.getElem_toArray, List.getElem_cons_zero, List.getElem_cons_succ, List.setIfInBounds_toArray, List.set_cons_zero, List.set_cons_succ]
          refine anyL_done (by kernel_rfl) ?_ _
          go_wp2_with fail
          refine (unhide HE _ (unhide HBY)).mono ?_
          rintro y v1 ⟨rfl, rfl⟩
          dsimp only
          clear HE
          go_wp2_with fail
          refine bodyPost_ret (results_tmp rfl _ _ _) rfl ⟨by rw [unhide HRF]; rfl, unhide HBY⟩
        | false =>
          rw [hin] at HE HXR
          clear hin
          have HRF : Hid (R = clnB m T (d.drop (k + 1))) := hide (by rw [unhide HXR]; rfl)
          clear HXR
          have S0 : wr.drew.cell? ⟨g, off + k * 3 + 1, none⟩ = some (.int .i64 (n : Int)) ∧ wr.drew.cell? ⟨g, off + k * 3 + 2, none⟩ = some (.string (strOfNums [])) := ⟨e1, e2⟩
          have HBY := hide (below_dN (unhide HBX) 1)
          go_wp2_with fail
          refine regionL (S := fun w' => w'.cell? ⟨g, off + k * 3 + 1, none⟩ = some (.int .i64 (n : Int)) ∧ w'.cell? ⟨g, off + k * 3 + 2, none⟩ = some (.string (strOfNums []))) (fun _ => false) (by kernel_rfl) ?_
          refine anyL_take (i := 0) (v := ?vq15) rfl (by kernel_rfl) (by kernel_rfl) (by kernel_rfl) (by kernel_rfl) (fun _ _ _ h => h) (Or.inl ⟨by rfl, ?hq15⟩) (S0) ?_
          case hq15 => (intro w hSw; (try dsimp only at hSw); go_simp) <;> with_reducible rfl
          simp only [Act.put, List.getElem_toArray, List.getElem_cons_zero, List.setIfInBounds_toArray, List.set_cons_zero, List.set_cons_succ]
          refine anyL_take (i := 1) (v := ?vq16) rfl (by kernel_rfl) (by kernel_rfl) (by kernel_rfl) (by kernel_rfl) (fun _ _ _ h => h) (Or.inl ⟨by rfl, ?hq16⟩) (S0) ?_
          case hq16 => (intro w hSw; (try dsimp only at hSw); go_simp) <;> with_reducible rfl
          simp only [Act.put, List.getElem_toArray, List.getElem_cons_zero, List.getElem_cons_succ, List.setIfInBounds_toArray, List.set_cons_zero, List.set_cons_succ]
          refine anyL_take (i := 2) (v := ?vq17) rfl (by kernel_rfl) (by kernel_rfl) (by kernel_rfl) (by kernel_rfl) (fun _ _ _ h => h) (Or.inl ⟨by rfl, ?hq17⟩) (S0) ?_
          case hq17 => (intro w hSw; (try dsimp only at hSw); go_simp) <;> with_reducible rfl
          simp only [Act.put, List.getElem_toArray, List.getElem_cons_zero, List.getElem_cons_succ, List.setIfInBounds_toArray, List.set_cons_zero, List.set_cons_succ]
          refine anyL_take (i := 3) (v := ?vq18) rfl (by kernel_rfl) (by kernel_rfl) (by kernel_rfl) (by kernel_rfl) (fun _ _ _ h => h) (Or.inl ⟨by rfl, ?hq18⟩) (S0) ?_
          case hq18 => (intro w hSw; (try dsimp only at hSw); go_simp) <;> with_reducible rfl
          simp only [Act.put, List.getElem_toArray, List.getElem_cons_zero, List.getElem_cons_succ, List.setIfInBounds_toArray, List.set_cons_zero, List.set_cons_succ]
          refine anyL_take (i := 4) (v := ?vq19) rfl (by kernel_rfl) (by kernel_rfl) (by kernel_rfl) (by kernel_rfl) (fun _ _ _ h => h) (Or.inl ⟨by rfl, ?hq19⟩) (S0) ?_
          case hq19 => (intro w hSw; (try dsimp only at hSw); go_simp) <;> with_reducible rfl
          simp only [Act.put, List.getElem_toArray, List.getElem_cons_zero, List.getElem_cons_succ, List.setIfInBounds_toArray, List.set_cons_zero, List.set_cons_succ]
          refine anyL_take (i := 5) (v := ?vq20) rfl (by kernel_rfl) (by kernel_rfl) (by kernel_rfl) (by kernel_rfl) (fun _ _ _ h => h) (Or.inl ⟨by rfl, ?hq20⟩) (S0) ?_
          case hq20 => (intro w hSw; (try dsimp only at hSw); go_simp) <;> with_reducible rfl
          simp only [Act.put, List.getElem_toArray, List.getElem_cons_zero, List.getElem_cons_succ, List.setIfInBounds_toArray, List.set_cons_zero, List.set_cons_succ]
          refine anyL_take (i := 6) (v := ?vq21) rfl (by kernel_rfl) (by kernel_rfl) (by kernel_rfl) (by kernel_rfl) (fun _ _ _ h => h) (Or.inl ⟨by rfl, ?hq21⟩) (S0) ?_
          case hq21 => (intro w hSw; (try dsimp only at hSw); go_simp) <;> with_reducible rfl
          simp only [Act.put, List.getElem_toArray, List.getElem_cons_zero, List.getElem_cons_succ, List.setIfInBounds_toArray, List.set_cons_zero, List.set_cons_succ]
          refine anyL_take (i := 7) (v := ?vq22) rfl (by kernel_rfl) (by kernel_rfl) (by kernel_rfl) (by kernel_rfl) (fun _ _ _ h => h) (Or.inl ⟨by rfl, ?hq22⟩) (S0) ?_
          case hq22 => (intro w hSw; (try dsimp only at hSw); go_simp) <;> with_reducible rfl
          simp only [Act.put, List.getElem_toArray, List.getElem_cons_zero, List.getElem_cons_succ, List.setIfInBounds_toArray, List.set_cons_zero, List.set_cons_succ]
          refine anyL_take (i := 8) (v := ?vq23) rfl (by kernel_rfl) (by kernel_rfl) (by kernel_rfl) (by kernel_rfl) (fun _ _ _ h => h) (Or.inl ⟨by rfl, ?hq23⟩) (S0) ?_
          case hq23 => (intro w hSw; (try dsimp only at hSw); go_simp) <;> with_reducible rfl
          simp only [Act.put, List.getElem_toArray, List.getElem_cons_zero, List.getElem_cons_succ, List.setIfInBounds_toArray, List.set_cons_zero, List.set_cons_succ]
          refine anyL_take (i := 9) (v := ?vq24) rfl (by kernel_rfl) (by kernel_rfl) (by kernel_rfl) (by kernel_rfl) (fun _ _ _ h => h) (Or.inl ⟨by rfl, ?hq24⟩) (S0) ?_
          case hq24 => (intro w hSw; (try dsimp only at hSw); go_simp) <;> with_reducible rfl
          simp only [Act.put, List.getElem_toArray, List.getElem_cons_zero, List.getElem_cons_succ, List.setIfInBounds_toArray, List.set_cons_zero, List.set_cons_succ]
          refine anyL_take (i := 10) (v := ?vq25) rfl (by kernel_rfl) (by kernel_rfl) (by kernel_rfl) (by kernel_rfl) (fun _ _ _ h => h) (Or.inl ⟨by rfl, ?hq25⟩) (S0) ?_
          case hq25 => (intro w hSw; (try dsimp only at hSw); go_simp) <;> with_reducible rfl
          simp only [Act.put, List.getElem_toArray, List.getElem_cons_zero, List.getElem_cons_succ, List.setIfInBounds_toArray, List.set_cons_zero, List.set_cons_succ]
          refine anyL_take (i := 11) (v := ?vq26) rfl (by kernel_rfl) (by kernel_rfl) (by kernel_rfl) (by kernel_rfl) (fun _ _ _ h => h) (Or.inl ⟨by rfl, ?hq26⟩) (S0) ?_
          case hq26 => (intro w hSw; (try dsimp only at hSw); go_simp) <;> with_reducible rfl
          simp only [Act.put, List.getElem_toArray, List.getElem_cons_zero, List.getElem_cons_succ, List.setIfInBounds_toArray, List.set_cons_zero, List.set_cons_succ]
          refine anyL_take (i := 12) (v := ?vq27) rfl (by kernel_rfl) (by kernel_rfl) (by kernel_rfl) (by kernel_rfl) (fun _ _ _ h => h) (Or.inl ⟨by rfl, ?hq27⟩) (S0) ?_
          case hq27 => (intro w hSw; (try dsimp only at hSw); go_simp) <;> with_reducible rfl
          simp only [Act.put, List.getElem_toArray, List.getElem_cons_zero, List.getElem_cons_succ, List.setIfInBounds_toArray, List.set_cons_zero, List.set_cons_succ]
          refine anyL_take (i := 13) (v := ?vq28) rfl (by kernel_rfl) (by kernel_rfl) (by kernel_rfl) (by kernel_rfl) (fun _ _ _ h => h) (Or.inl ⟨by rfl, ?hq28⟩) (S0) ?_
          case hq28 => (intro w hSw; (try dsimp only at hSw); go_simp) <;> with_reducible rfl
          simp only [Act.put, List.getElem_toArray, List.getElem_cons_zero, List.getElem_cons_succ, List.setIfInBounds_toArray, List.set_cons_zero, List.set_cons_succ]
          refine anyL_take (i := 14) (v := ?vq29) rfl (by kernel_rfl) (by kernel_rfl) (by kernel_rfl) (by kernel_rfl) (fun _ _ _ h => h) (Or.inl ⟨by rfl, ?hq29⟩) (S0) ?_
          case hq29 => (intro w hSw; (try dsimp only at hSw); go_simp) <;> with_reducible rfl
          simp only [Act.put, List.getElem_toArray, List.getElem_cons_zero, List.getElem_cons_succ, List.setIfInBounds_toArray, List.set_cons_zero, List.set_cons_succ]
          refine anyL_done (by kernel_rfl) ?_ _
          go_wp2_with fail
          refine (unhide HE _ (unhide HBY)).mono ?_
          rintro y v1 ⟨rfl, rfl⟩
          dsimp only
          clear HE
          go_wp2_with fail
          go_roundw
          case rel => exact ⟨⟨_, rfl⟩, k + 1, T, by go_num, h1, rfl, hide ⟨hT.symm, unhide HRF, unhide HBY⟩⟩
          case measure => simp [intOf]; omega
      · rw [show toN ⟨3, xn, []⟩ = 0 by simp [toN], Nat.add_zero] at hto
        obtain rfl : t = T := by omega
        cases hin : inside m t with
        | true =>
          rw [hin] at HE HXR
          clear hin
          have HRF : Hid (R = false) := hide (by rw [unhide HXR]; rfl)
          clear HXR
          have HBY := HBX
          go_wp2_with fail
          refine (unhide HE _ (unhide HBY)).mono ?_
          rintro y v1 ⟨rfl, rfl⟩
          dsimp only
          clear HE
          go_wp2_with fail
          refine bodyPost_ret (results_tmp rfl _ _ _) rfl ⟨by rw [unhide HRF]; rfl, unhide HBY⟩
        | false =>
          rw [hin] at HE HXR
          clear hin
          have HRF : Hid (R = clnB m t (d.drop (k + 1))) := hide (by rw [unhide HXR]; rfl)
          clear HXR
          have HBY := HBX
          go_wp2_with fail
          refine (unhide HE _ (unhide HBY)).mono ?_
          rintro y v1 ⟨rfl, rfl⟩
          dsimp only
          clear HE
          go_wp2_with fail
          go_roundw
          case rel => exact ⟨⟨_, rfl⟩, k + 1, t, by go_num, h1, rfl, hide ⟨hT.symm, unhide HRF, unhide HBY⟩⟩
          case measure => simp [intOf]; omega
      · rw [show toN ⟨2, 0, xt⟩ = xt.length by simp [toN]] at hto
        have w2' : IntKind.i64.wrap ((t : Int) + IntKind.i64.wrap ((xt.length : Int))) = (T : Int) := cln_wrap hto (by omega)
        clear hn hle hto hmz
        cases hin : inside m T with
        | true =>
          rw [hin] at HE HXR
          clear hin
          have HRF : Hid (R = false) := hide (by rw [unhide HXR]; rfl)
          clear HXR
          have S0 : wr.drew.cell? ⟨g, off + k * 3 + 1, none⟩ = some (.int .i64 0) ∧ wr.drew.cell? ⟨g, off + k * 3 + 2, none⟩ = some (.string (strOfNums xt)) := ⟨e1, e2⟩
          have HBY := hide (below_dN (unhide HBX) 1)
          go_wp2_with fail
          refine regionL (S := fun w' => w'.cell? ⟨g, off + k * 3 + 1, none⟩ = some (.int .i64 0) ∧ w'.cell? ⟨g, off + k * 3 + 2, none⟩ = some (.string (strOfNums xt))) (fun _ => false) (by kernel_rfl) ?_
          refine anyL_take (i := 0) (v := ?vq30) rfl (by kernel_rfl) (by kernel_rfl) (by kernel_rfl) (by kernel_rfl) (fun _ _ _ h => h) (Or.inl ⟨by rfl, ?hq30⟩) (S0) ?_
          case hq30 => (intro w hSw; (try dsimp only at hSw); go_simp) <;> with_reducible rfl
          simp only [Act.put, List.getElem_toArray, List.getElem_cons_zero, List.setIfInBounds_toArray, List.set_cons_zero, List.set_cons_succ]
          refine anyL_take (i := 1) (v := ?vq31) rfl (by kernel_rfl) (by kernel_rfl) (by kernel_rfl) (by kernel_rfl) (fun _ _ _ h => h) (Or.inl ⟨by rfl, ?hq31⟩) (S0) ?_
          case hq31 => (intro w hSw; (try dsimp only at hSw); go_simp) <;> with_reducible rfl
          simp only [Act.put, List.getElem_toArray, List.getElem_cons_zero, List.getElem_cons_succ, List.setIfInBounds_toArray, List.set_cons_zero, List.set_cons_succ]
          refine anyL_take (i := 2) (v := ?vq32) rfl (by kernel_rfl) (by kernel_rfl) (by kernel_rfl) (by kernel_rfl) (fun _ _ _ h => h) (Or.inl ⟨by rfl, ?hq32⟩) (S0) ?_
          case hq32 => (intro w hSw; (try dsimp only at hSw); go_simp) <;> with_reducible rfl
          simp only [Act.put, List.getElem_toArray, List.getElem_cons_zero, List.getElem_cons_succ, List.setIfInBounds_toArray, List.set_cons_zero, List.set_cons_succ]
          refine anyL_take (i := 3) (v := ?vq33) rfl (by kernel_rfl) (by kernel_rfl) (by kernel_rfl) (by kernel_rfl) (fun _ _ _ h => h) (Or.inl ⟨by rfl, ?hq33⟩) (S0) ?_
          case hq33 => (intro w hSw; (try dsimp only at hSw); go_simp) <;> with_reducible rfl
          simp only [Act.put, List.getElem_toArray, List.getElem_cons_zero, List.getElem_cons_succ, List.setIfInBounds_toArray, List.set_cons_zero, List.set_cons_succ]
          refine anyL_take (i := 4) (v := ?vq34) rfl (by kernel_rfl) (by kernel_rfl) (by kernel_rfl) (by kernel_rfl) (fun _ _ _ h => h) (Or.inl ⟨by rfl, ?hq34⟩) (S0) ?_
          case hq34 => (intro w hSw; (try dsimp only at hSw); go_simp) <;> with_reducible rfl
          simp only [Act.put, List.getElem_toArray, List.getElem_cons_zero, List.getElem_cons_succ, List.setIfInBounds_toArray, List.set_cons_zero, List.set_cons_succ]
          refine anyL_take (i := 5) (v := ?vq35) rfl (by kernel_rfl) (by kernel_rfl) (by kernel_rfl) (by kernel_rfl) (fun _ _ _ h => h) (Or.inl ⟨by rfl, ?hq35⟩) (S0) ?_
          case hq35 => (intro w hSw; (try dsimp only at hSw); go_simp) <;> with_reducible rfl
          simp only [Act.put, List.getElem_toArray, List.getElem_cons_zero, List.getElem_cons_succ, List.setIfInBounds_toArray, List.set_cons_zero, List.set_cons_succ]
          refine anyL_take (i := 6) (v := ?vq36) rfl (by kernel_rfl) (by kernel_rfl) (by kernel_rfl) (by kernel_rfl) (fun _ _ _ h => h) (Or.inl ⟨by rfl, ?hq36⟩) (S0) ?_
          case hq36 => (intro w hSw; (try dsimp only at hSw); go_simp) <;> with_reducible rfl
          simp only [Act.put, List.getElem_toArray, List.getElem_cons_zero, List.getElem_cons_succ, List.setIfInBounds_toArray, List.set_cons_zero, List.set_cons_succ]
          refine anyL_take (i := 7) (v := ?vq37) rfl (by kernel_rfl) (by kernel_rfl) (by kernel_rfl) (by kernel_rfl) (fun _ _ _ h => h) (Or.inl ⟨by rfl, ?hq37⟩) (S0) ?_
          case hq37 => (intro w hSw; (try dsimp only at hSw); go_simp) <;> with_reducible rfl
          simp only [Act.put, List.getElem_toArray, List.getElem_cons_zero, List.getElem_cons_succ, List.setIfInBounds_toArray, List.set_cons_zero, List.set_cons_succ]
          refine anyL_take (i := 8) (v := ?vq38) rfl (by kernel_rfl) (by kernel_rfl) (by kernel_rfl) (by kernel_rfl) (fun _ _ _ h => h) (Or.inl ⟨by rfl, ?hq38⟩) (S0) ?_
          case hq38 => (intro w hSw; (try dsimp only at hSw); go_simp) <;> with_reducible rfl
          simp only [Act.put, List.getElem_toArray, List.getElem_cons_zero, List.getElem_cons_succ, List.setIfInBounds_toArray, List.set_cons_zero, List.set_cons_succ]
          refine anyL_take (i := 9) (v := ?vq39) rfl (by kernel_rfl) (by kernel_rfl) (by kernel_rfl) (by kernel_rfl) (fun _ _ _ h => h) (Or.inl ⟨by rfl, ?hq39⟩) (S0) ?_
          case hq39 => (intro w hSw; (try dsimp only at hSw); go_simp) <;> with_reducible rfl
          simp only [Act.put, List.getElem_toArray, List.getElem_cons_zero, List.getElem_cons_succ, List.setIfInBounds_toArray, List.set_cons_zero, List.set_cons_succ]
          refine anyL_take (i := 10) (v := ?vq40) rfl (by kernel_rfl) (by kernel_rfl) (by kernel_rfl) (by kernel_rfl) (fun _ _ _ h => h) (Or.inl ⟨by rfl, ?hq40⟩) (S0) ?_
          case hq40 => (intro w hSw; (try dsimp only at hSw); go_simp) <;> with_reducible rfl
          simp only [Act.put, List.getElem_toArray, List.getElem_cons_zero, List.getElem_cons_succ, List.setIfInBounds_toArray, List.set_cons_zero, List.set_cons_succ]
          refine anyL_take (i := 11) (v := ?vq41) rfl (by kernel_rfl) (by kernel_rfl) (by kernel_rfl) (by kernel_rfl) (fun _ _ _ h => h) (Or.inl ⟨by rfl, ?hq41⟩) (S0) ?_
          case hq41 => (intro w hSw; (try dsimp only at hSw); go_simp) <;> with_reducible rfl
          simp only [Act.put, List.getElem_toArray, List.getElem_cons_zero, List.getElem_cons_succ, List.setIfInBounds_toArray, List.set_cons_zero, List.set_cons_succ]
          refine anyL_take (i := 12) (v := ?vq42) rfl (by kernel_rfl) (by kernel_rfl) (by kernel_rfl) (by kernel_rfl) (fun _ _ _ h => h) (Or.inl ⟨by rfl, ?hq42⟩) (S0) ?_
          case hq42 => (intro w hSw; (try dsimp only at hSw); go_simp) <;> with_reducible rfl
          simp only [Act.put, List.getElem_toArray, List.getElem_cons_zero, List.getElem_cons_succ, List.setIfInBounds_toArray, List.set_cons_zero, List.set_cons_succ]
          refine anyL_take (i := 13) (v := ?vq43) rfl (by kernel_rfl) (by kernel_rfl) (by kernel_rfl) (by kernel_rfl) (fun _ _ _ h => h) (Or.inl ⟨by rfl, ?hq43⟩) (S0) ?_
          case hq43 => (intro w hSw; (try dsimp only at hSw); go_simp) <;> with_reducible rfl
          simp only [Act.put, List.getElem_toArray, List.getElem_cons_zero, List.getElem_cons_succ, List.setIfInBounds_toArray, List.set_cons_zero, List.set_cons_succ]
          refine anyL_take (i := 14) (v := ?vq44) rfl (by kernel_rfl) (by kernel_rfl) (by kernel_rfl) (by kernel_rfl) (fun _ _ _ h => h) (Or.inl ⟨by rfl, ?hq44⟩) (S0) ?_
          case hq44 => (intro w hSw; (try dsimp only at hSw); go_simp) <;> with_reducible rfl
          simp only [Act.put, List.getElem_toArray, List.getElem_cons_zero, List.getElem_cons_succ, List.setIfInBounds_toArray, List.set_cons_zero, List.set_cons_succ]
          refine anyL_done (by kernel_rfl) ?_ _
          go_wp2_with fail
          refine (unhide HE _ (unhide HBY)).mono ?_
          rintro y v1 ⟨rfl, rfl⟩
          dsimp only
          clear HE
          go_wp2_with fail
          refine bodyPost_ret (results_tmp rfl _ _ _) rfl ⟨by rw [unhide HRF]; rfl, unhide HBY⟩
        | false =>
          rw [hin] at HE HXR
          clear hin
          have HRF : Hid (R = clnB m T (d.drop (k + 1))) := hide (by rw [unhide HXR]; rfl)
          clear HXR
          have S0 : wr.drew.cell? ⟨g, off + k * 3 + 1, none⟩ = some (.int .i64 0) ∧ wr.drew.cell? ⟨g, off + k * 3 + 2, none⟩ = some (.string (strOfNums xt)) := ⟨e1, e2⟩
          have HBY := hide (below_dN (unhide HBX) 1)
          go_wp2_with fail
          refine regionL (S := fun w' => w'.cell? ⟨g, off + k * 3 + 1, none⟩ = some (.int .i64 0) ∧ w'.cell? ⟨g, off + k * 3 + 2, none⟩ = some (.string (strOfNums xt))) (fun _ => false) (by kernel_rfl) ?_
          refine anyL_take (i := 0) (v := ?vq45) rfl (by kernel_rfl) (by kernel_rfl) (by kernel_rfl) (by kernel_rfl) (fun _ _ _ h => h) (Or.inl ⟨by rfl, ?hq45⟩) (S0) ?_
          case hq45 => (intro w hSw; (try dsimp only at hSw); go_simp) <;> with_reducible rfl
          simp only [Act.put, List.getElem_toArray, List.getElem_cons_zero, List.setIfInBounds_toArray, List.set_cons_zero, List.set_cons_succ]
          refine anyL_take (i := 1) (v := ?vq46) rfl (by kernel_rfl) (by kernel_rfl) (by kernel_rfl) (by kernel_rfl) (fun _ _ _ h => h) (Or.inl ⟨by rfl, ?hq46⟩) (S0) ?_
          case hq46 => (intro w hSw; (try dsimp only at hSw); go_simp) <;> with_reducible rfl
          simp only [Act.put, List.getElem_toArray, List.getElem_cons_zero, List.getElem_cons_succ, List.setIfInBounds_toArray, List.set_cons_zero, List.set_cons_succ]
          refine anyL_take (i := 2) (v := ?vq47) rfl (by kernel_rfl) (by kernel_rfl) (by kernel_rfl) (by kernel_rfl) (fun _ _ _ h => h) (Or.inl ⟨by rfl, ?hq47⟩) (S0) ?_
          case hq47 => (intro w hSw; (try dsimp only at hSw); go_simp) <;> with_reducible rfl
          simp only [Act.put, List.getElem_toArray, List.getElem_cons_zero, List.getElem_cons_succ, List.setIfInBounds_toArray, List.set_cons_zero, List.set_cons_succ]
          refine anyL_take (i := 3) (v := ?vq48) rfl (by kernel_rfl) (by kernel_rfl) (by kernel_rfl) (by kernel_rfl) (fun _ _ _ h => h) (Or.inl ⟨by rfl, ?hq48⟩) (S0) ?_
          case hq48 => (intro w hSw; (try dsimp only at hSw); go_simp) <;> with_reducible rfl
          simp only [Act.put, List.getElem_toArray, List.getElem_cons_zero, List.getElem_cons_succ, List.setIfInBounds_toArray, List.set_cons_zero, List.set_cons_succ]
          refine anyL_take (i := 4) (v := ?vq49) rfl (by kernel_rfl) (by kernel_rfl) (by kernel_rfl) (by kernel_rfl) (fun _ _ _ h => h) (Or.inl ⟨by rfl, ?hq49⟩) (S0) ?_
          case hq49 => (intro w hSw; (try dsimp only at hSw); go_simp) <;> with_reducible rfl
          simp only [Act.put, List.getElem_toArray, List.getElem_cons_zero, List.getElem_cons_succ, List.setIfInBounds_toArray, List.set_cons_zero, List.set_cons_succ]
          refine anyL_take (i := 5) (v := ?vq50) rfl (by kernel_rfl) (by kernel_rfl) (by kernel_rfl) (by kernel_rfl) (fun _ _ _ h => h) (Or.inl ⟨by rfl, ?hq50⟩) (S0) ?_
          case hq50 => (intro w hSw; (try dsimp only at hSw); go_simp) <;> with_reducible rfl
          simp only [Act.put, List.getElem_toArray, List.getElem_cons_zero, List.getElem_cons_succ, List.setIfInBounds_toArray, List.set_cons_zero, List.set_cons_succ]
          refine anyL_take (i := 6) (v := ?vq51) rfl (by kernel_rfl) (by kernel_rfl) (by kernel_rfl) (by kernel_rfl) (fun _ _ _ h => h) (Or.inl ⟨by rfl, ?hq51⟩) (S0) ?_
          case hq51 => (intro w hSw; (try dsimp only at hSw); go_simp) <;> with_reducible rfl
          simp only [Act.put, List.getElem_toArray, List.getElem_cons_zero, List.getElem_cons_succ, List.setIfInBounds_toArray, List.set_cons_zero, List.set_cons_succ]
          refine anyL_take (i := 7) (v := ?vq52) rfl (by kernel_rfl) (by kernel_rfl) (by kernel_rfl) (by kernel_rfl) (fun _ _ _ h => h) (Or.inl ⟨by rfl, ?hq52⟩) (S0) ?_
          case hq52 => (intro w hSw; (try dsimp only at hSw); go_simp) <;> with_reducible rfl
          simp only [Act.put, List.getElem_toArray, List.getElem_cons_zero, List.getElem_cons_succ, List.setIfInBounds_toArray, List.set_cons_zero, List.set_cons_succ]
          refine anyL_take (i := 8) (v := ?vq53) rfl (by kernel_rfl) (by kernel_rfl) (by kernel_rfl) (by kernel_rfl) (fun _ _ _ h => h) (Or.inl ⟨by rfl, ?hq53⟩) (S0) ?_
          case hq53 => (intro w hSw; (try dsimp only at hSw); go_simp) <;> with_reducible rfl
          simp only [Act.put, List.getElem_toArray, List.getElem_cons_zero, List.getElem_cons_succ, List.setIfInBounds_toArray, List.set_cons_zero, List.set_cons_succ]
          refine anyL_take (i := 9) (v := ?vq54) rfl (by kernel_rfl) (by kernel_rfl) (by kernel_rfl) (by kernel_rfl) (fun _ _ _ h => h) (Or.inl ⟨by rfl, ?hq54⟩) (S0) ?_
          case hq54 => (intro w hSw; (try dsimp only at hSw); go_simp) <;> with_reducible rfl
          simp only [Act.put, List.getElem_toArray, List.getElem_cons_zero, List.getElem_cons_succ, List.setIfInBounds_toArray, List.set_cons_zero, List.set_cons_succ]
          refine anyL_take (i := 10) (v := ?vq55) rfl (by kernel_rfl) (by kernel_rfl) (by kernel_rfl) (by kernel_rfl) (fun _ _ _ h => h) (Or.inl ⟨by rfl, ?hq55⟩) (S0) ?_
          case hq55 => (intro w hSw; (try dsimp only at hSw); go_simp) <;> with_reducible rfl
          simp only [Act.put, List.getElem_toArray, List.getElem_cons_zero, List.getElem_cons_succ, List.setIfInBounds_toArray, List.set_cons_zero, List.set_cons_succ]
          refine anyL_take (i := 11) (v := ?vq56) rfl (by kernel_rfl) (by kernel_rfl) (by kernel_rfl) (by kernel_rfl) (fun _ _ _ h => h) (Or.inl ⟨by rfl, ?hq56⟩) (S0) ?_
          case hq56 => (intro w hSw; (try dsimp only at hSw); go_simp) <;> with_reducible rfl
          simp only [Act.put, List.getElem_toArray, List.getElem_cons_zero, List.getElem_cons_succ, List.setIfInBounds_toArray, List.set_cons_zero, List.set_cons_succ]
          refine anyL_take (i := 12) (v := ?vq57) rfl (by kernel_rfl) (by kernel_rfl) (by kernel_rfl) (by kernel_rfl) (fun _ _ _ h => h) (Or.inl ⟨by rfl, ?hq57⟩) (S0) ?_
          case hq57 => (intro w hSw; (try dsimp only at hSw); go_simp) <;> with_reducible rfl
          simp only [Act.put, List.getElem_toArray, List.getElem_cons_zero, List.getElem_cons_succ, List.setIfInBounds_toArray, List.set_cons_zero, List.set_cons_succ]
          refine anyL_take (i := 13) (v := ?vq58) rfl (by kernel_rfl) (by kernel_rfl) (by kernel_rfl) (by kernel_rfl) (fun _ _ _ h => h) (Or.inl ⟨by rfl, ?hq58⟩) (S0) ?_
          case hq58 => (intro w hSw; (try dsimp only at hSw); go_simp) <;> with_reducible rfl
          simp only [Act.put, List.getElem_toArray, List.getElem_cons_zero, List.getElem_cons_succ, List.setIfInBounds_toArray, List.set_cons_zero, List.set_cons_succ]
          refine anyL_take (i := 14) (v := ?vq59) rfl (by kernel_rfl) (by kernel_rfl) (by kernel_rfl) (by kernel_rfl) (fun _ _ _ h => h) (Or.inl ⟨by rfl, ?hq59⟩) (S0) ?_
          case hq59 => (intro w hSw; (try dsimp only at hSw); go_simp) <;> with_reducible rfl
          simp only [Act.put, List.getElem_toArray, List.getElem_cons_zero, List.getElem_cons_succ, List.setIfInBounds_toArray, List.set_cons_zero, List.set_cons_succ]
          refine anyL_done (by kernel_rfl) ?_ _
          go_wp2_with fail
          refine (unhide HE _ (unhide HBY)).mono ?_
          rintro y v1 ⟨rfl, rfl⟩
          dsimp only
          clear HE
          go_wp2_with fail
          go_roundw
          case rel => exact ⟨⟨_, rfl⟩, k + 1, T, by go_num, h1, rfl, hide ⟨hT.symm, unhide HRF, unhide HBY⟩⟩
          case measure => simp [intOf]; omega
    · obtain rfl : k = d.length := by omega
      have t1 : decide ((d.length : Int) < (d.length : Int)) = false := decide_eq_false (by omega)
      obtain ⟨hz0, hr, hbx⟩ := unhide HX
      have hr2 : ((t : Int) == (m.length : Int)) = R := by
        rw [hr, List.drop_eq_nil_of_le (Nat.le_refl _)]; unfold clnB
        rw [Bool.eq_iff_iff]; simp; omega
      have HBX := hide hbx
      have HR2 := hide hr2
      clear HX hr hbx hr2 hz0
      go_wp2_with fail
      exact bodyPost_ret (results_tmp rfl _ _ _) rfl ⟨by rw [← unhide HR2]; rfl, unhide HBX⟩
end Go.Proofs.YtkdnanlgkedjgaaDoor
end

section
namespace Go.Proofs.YtkdnanlgkedjgaaDoor
open Go.ChangeShapes Go.WideShapes Go.ChangeAt Go.RowKit
attribute [local go_sem] Oper.semAt_some

/-- what the loop over the pieces knows: where it stands, how many pieces lie between the places, whether a piece begins or ends at each -/
structure WhS where
  at_ : Nat
  n : Nat
  b : Bool
  e : Bool
def whS (lo hi : Nat) (s : WhS) (p : List Int) : WhS :=
  ⟨s.at_ + p.length, if decide (lo ≤ s.at_) && decide (s.at_ < hi) then s.n + 1 else s.n, s.b || decide (s.at_ + p.length = lo), s.e || decide (s.at_ + p.length = hi)⟩
def wh0 (lo hi : Nat) : WhS := ⟨0, 0, decide (lo = 0), decide (hi = 0)⟩
def whL (ps : List (List Int)) (lo hi : Nat) : WhS := ps.foldl (whS lo hi) (wh0 lo hi)
def whN (ps : List (List Int)) (lo hi : Nat) : Int := if (whL ps lo hi).b && (whL ps lo hi).e then ((whL ps lo hi).n : Int) else -1
theorem whL_up {ps : List (List Int)} {lo hi i : Nat} (h : i < ps.length) : whL (ps.take (i + 1)) lo hi = whS lo hi (whL (ps.take i) lo hi) (ps.getD i []) := by
  unfold whL
  rw [List.take_add_one, List.foldl_append]
  simp [List.getElem?_eq_getElem h]
theorem whL_at : ∀ (ps : List (List Int)) (s : WhS) (lo hi : Nat), (ps.foldl (whS lo hi) s).at_ = s.at_ + ps.flatten.length ∧ (ps.foldl (whS lo hi) s).n ≤ s.n + ps.length
  | [], s, lo, hi => ⟨rfl, Nat.le_refl _⟩
  | p :: ps, s, lo, hi => by
    have h := whL_at ps (whS lo hi s p) lo hi
    rw [List.foldl_cons, List.flatten_cons, List.length_append, List.length_cons]
    have e1 : (whS lo hi s p).at_ = s.at_ + p.length := rfl
    have e2 : (whS lo hi s p).n ≤ s.n + 1 := by unfold whS; dsimp only; split <;> omega
    rw [e1] at h
    exact ⟨by omega, by omega⟩
theorem whz0 (n : Nat) : Value.bool ((n : Int) == 0) = .bool (decide (n = 0)) := by
  congr 1; rw [Bool.eq_iff_iff]; simp
theorem take_flat (ps : List (List Int)) (i : Nat) : (ps.take i).flatten.length ≤ ps.flatten.length := by
  have h : ps.flatten = (ps.take i).flatten ++ (ps.drop i).flatten := by rw [← List.flatten_append, List.take_append_drop]
  rw [h, List.length_append]; omega
set_option maxRecDepth 100000 in
set_option maxHeartbeats 4000000 in
theorem RWhole_at (a : Option Addr) (c : Nat) (ps : List (List Int)) (lo hi : Nat) (w : World) (hA : IsTx w a ps) (hb : ∀ q ∈ ps, ByL q) (hl : ps.length ≤ 1048576) (hf : ps.flatten.length ≤ 1048576) :
    Calls Tryd.prog 35 #[.slice a ps.length c, .int .i64 (lo : Int), .int .i64 (hi : Int)] w fun e w' => e = .returned (.int .i64 (whN ps lo hi)) ∧ w' = w := by
  have HA := hide hA
  have HBy := hide hb
  have HF := hide hf
  clear hA hb hf
  go_enter Tryd.func35, Tryd.ntmps35
  go_wp2_with fail
  go_loopw [7, 8, 9, 10, 11] (fun v7 v8 v9 v10 v11 wx => ∃ (i : Nat) (s : WhS), i ≤ ps.length ∧ Hid (s = whL (ps.take i) lo hi) ∧ v7 = .int .i64 (s.at_ : Int) ∧ v8 = .int .i64 (s.n : Int) ∧ v9 = .bool s.b ∧ v10 = .bool s.e ∧ v11 = .int .i64 (i : Int) ∧ wx = w) (fun _ _ _ _ v11 _ => ps.length - (intOf v11).toNat)
  case atStart => exact ⟨0, wh0 lo hi, Nat.zero_le _, hide rfl, rfl, rfl, whz0 lo, whz0 hi, rfl, rfl⟩
  case round =>
    obtain ⟨i, s, hi1, HS, rfl, rfl, rfl, rfl, rfl, rfl⟩ := hrel
    have hs1 := whL_at (ps.take i) (wh0 lo hi) lo hi
    have hs2 := take_flat ps i
    have hs3 : s.at_ ≤ 1048576 ∧ s.n ≤ 1048576 := by
      have := unhide HF
      rw [unhide HS]
      unfold whL
      have q1 : (wh0 lo hi).at_ = 0 := rfl
      have q2 : (wh0 lo hi).n = 0 := rfl
      have q3 : (ps.take i).length ≤ ps.length := by rw [List.length_take]; omega
      omega
    clear hs1 hs2
    by_cases h1 : i < ps.length
    · have t1 := lt_int h1
      rcases unhide HA with h0 | ⟨g, off, rfl, hg, hc⟩
      · rw [h0] at h1; exact absurd h1 (Nat.not_lt_zero _)
      have cx := hc i h1
      have hsz := strOfNums_size (ps.getD i [])
      have HUP := hide (whL_up (lo := lo) (hi := hi) h1)
      have hpf : (ps.getD i []).length ≤ 1048576 := by
        have := unhide HF
        have h2 := take_flat ps (i + 1)
        have h3 : (ps.take (i + 1)).flatten.length = (ps.take i).flatten.length + (ps.getD i []).length := by
          rw [List.take_add_one, List.flatten_append, List.length_append, List.getElem?_eq_getElem h1]
          simp [List.getD, List.getElem?_eq_getElem h1]
        omega
      clear hc
      rw [← unhide HS] at HUP
      clear HS
      generalize ps.getD i [] = p at *
      obtain ⟨at_, n, b, e⟩ := s
      dsimp only at *
      generalize hpl : p.length = pl at *
      have e1 : IntKind.i64.wrap ((at_ : Int) + (pl : Int)) = (at_ : Int) + (pl : Int) := by rw [IntKind.wrap_i64]; omega
      have e2 : IntKind.i64.wrap ((n : Int) + 1) = (n : Int) + 1 := by rw [IntKind.wrap_i64]; omega
      have e3 : IntKind.i64.wrap ((i : Int) + 1) = (i : Int) + 1 := by rw [IntKind.wrap_i64]; omega
      have HU := hide (unhide HUP)
      unfold whS at HU
      dsimp only at HU
      rw [hpl] at HU
      clear HUP hpf hs3 hg
      obtain ⟨y1, hy1⟩ : ∃ y, (((at_ : Int) + (pl : Int)) == (lo : Int)) = y := ⟨_, rfl⟩
      obtain ⟨y2, hy2⟩ : ∃ y, (((at_ : Int) + (pl : Int)) == (hi : Int)) = y := ⟨_, rfl⟩
      rw [show decide (at_ + pl = lo) = y1 from by rw [← hy1, Bool.eq_iff_iff]; simp; omega, show decide (at_ + pl = hi) = y2 from by rw [← hy2, Bool.eq_iff_iff]; simp; omega] at HU
      by_cases q3 : lo ≤ at_ <;> by_cases q4 : at_ < hi <;> cases y1 <;> cases y2 <;> (
        go_wp2_with fail
        go_roundw
        case rel =>
          refine ⟨i + 1, whL (ps.take (i + 1)) lo hi, h1, hide rfl, ?_⟩
          rw [unhide HU]
          exact ⟨by go_num, by first | rfl | (simp [q3, q4]; done), by first | rfl | simp, by first | rfl | simp, by go_num, by first | rfl | trivial⟩
        case measure => simp [intOf]; omega)
    · obtain rfl : i = ps.length := by omega
      have t1 : decide ((ps.length : Int) < (ps.length : Int)) = false := decide_eq_false (by omega)
      have HR : Hid (whN ps lo hi = if s.b && s.e then (s.n : Int) else -1) := hide (by unfold whN; have := unhide HS; rw [List.take_length] at this; rw [← this])
      obtain ⟨at_, n, b, e⟩ := s
      dsimp only at *
      clear hs3 HS
      cases b <;> cases e <;> (
        go_wp2_with fail
        exact bodyPost_ret (results_tmp rfl _ _ _) rfl ⟨by rw [unhide HR]; rfl, rfl⟩)
end Go.Proofs.YtkdnanlgkedjgaaDoor
end

section
namespace Go.Proofs.YtkdnanlgkedjgaaDoor
open Go.ChangeShapes Go.WideShapes Go.ChangeAt Go.RowKit
attribute [local go_sem] Oper.semAt_some

theorem OkCut.lt_iff {l : List Int} {cs : List Nat} (h : OkCut l cs) {i j : Nat} (hi : i < cs.length) (hj : j < cs.length) : cs.getD i 0 < cs.getD j 0 ↔ i < j := by
  constructor
  · intro g
    rcases Nat.lt_or_ge i j with q | q
    · exact q
    · have := h.le q hi; omega
  · exact fun g => h.mono g hj
theorem OkCut.eq_iff {l : List Int} {cs : List Nat} (h : OkCut l cs) {i j : Nat} (hi : i < cs.length) (hj : j < cs.length) : cs.getD i 0 = cs.getD j 0 ↔ i = j := by
  constructor
  · intro g
    have a := h.lt_iff hi hj
    have b := h.lt_iff hj hi
    omega
  · rintro rfl; rfl
theorem whL_cut {l : List Int} {cs : List Nat} (h : OkCut l cs) {i j : Nat} (hij : i ≤ j) (hj : j < cs.length) : ∀ k, k < cs.length →
    whL ((cutP l cs).take k) (cs.getD i 0) (cs.getD j 0) = ⟨cs.getD k 0, min k j - min k i, decide (i ≤ k), decide (j ≤ k)⟩
  | 0, hk => by
    have e1 := h.eq_iff (i := i) (j := 0) (by omega) hk
    have e2 := h.eq_iff (i := j) (j := 0) hj hk
    rw [h.zero] at e1 e2
    unfold whL wh0
    simp only [List.take_zero, List.foldl_nil]
    have d1 : decide (cs.getD i 0 = 0) = decide (i ≤ 0) := decide_eq_decide.2 (by rw [e1]; omega)
    have d2 : decide (cs.getD j 0 = 0) = decide (j ≤ 0) := decide_eq_decide.2 (by rw [e2]; omega)
    rw [h.zero, d1, d2]
    simp
  | k + 1, hk => by
    have ih := whL_cut h hij hj k (by omega)
    have hc := cutP_get l cs k hk
    have hpl : k < (cutP l cs).length := by rw [cutP_len]; omega
    rw [whL_up hpl, ih]
    have hg : (cutP l cs).getD k [] = subL l (cs.getD k 0) (cs.getD (k + 1) 0) := by rw [List.getD_eq_getElem?_getD, hc]; rfl
    have hl := sub_len h (show k ≤ k + 1 by omega) hk
    have hle := h.le (show k ≤ k + 1 by omega) hk
    have i1 := h.lt_iff (i := k) (j := i) (by omega) (by omega)
    have i2 := h.lt_iff (i := k) (j := j) (by omega) hj
    have i3 := h.eq_iff (i := k + 1) (j := i) hk (by omega)
    have i4 := h.eq_iff (i := k + 1) (j := j) hk hj
    unfold whS
    dsimp only
    rw [hg, hl, show cs.getD k 0 + (cs.getD (k + 1) 0 - cs.getD k 0) = cs.getD (k + 1) 0 by omega]
    generalize cs.getD k 0 = ck at *
    generalize cs.getD (k + 1) 0 = ck1 at *
    generalize cs.getD i 0 = ci at *
    generalize cs.getD j 0 = cj at *
    have b1 : (decide (i ≤ k) || decide (ck1 = ci)) = decide (i ≤ k + 1) := by
      rw [Bool.eq_iff_iff]; simp only [Bool.or_eq_true, decide_eq_true_eq]; omega
    have b2 : (decide (j ≤ k) || decide (ck1 = cj)) = decide (j ≤ k + 1) := by
      rw [Bool.eq_iff_iff]; simp only [Bool.or_eq_true, decide_eq_true_eq]; omega
    rw [b1, b2]
    congr 1
    split
    · rename_i g
      simp only [Bool.and_eq_true, decide_eq_true_eq] at g
      omega
    · rename_i g
      simp only [Bool.and_eq_true, decide_eq_true_eq] at g
      omega
theorem whN_cut {l : List Int} {cs : List Nat} (h : OkCut l cs) {i j : Nat} (hij : i ≤ j) (hj : j < cs.length) : whN (cutP l cs) (cs.getD i 0) (cs.getD j 0) = ((j - i : Nat) : Int) := by
  have hp := h.pos
  have e := whL_cut h hij hj (cs.length - 1) (by omega)
  rw [List.take_of_length_le (by rw [cutP_len]; omega)] at e
  unfold whN
  rw [e]
  have h1 : i ≤ cs.length - 1 := by omega
  have h2 : j ≤ cs.length - 1 := by omega
  simp [h1, h2]
end Go.Proofs.YtkdnanlgkedjgaaDoor
end

section
namespace Go.Proofs.YtkdnanlgkedjgaaDoor
open Go.ChangeShapes Go.WideShapes Go.ChangeAt Go.RowKit
attribute [local go_sem] Oper.semAt_some

/-- what the loop over the operations knows -/
def PcI (l m : List Int) (d : List Dop) (N k p q n : Nat) : Prop := ∃ i j M, PcS l m (cutN l) (cutN m) i j M (d.drop k) ∧ i < (cutN l).length ∧ j < (cutN m).length ∧ p = (cutN l).getD i 0 ∧ q = (cutN m).getD j 0 ∧ n + M = N
theorem drop_getD {d : List Dop} {k : Nat} (h : k < d.length) : d.drop k = d.getD k opZ :: d.drop (k + 1) := by
  rw [List.drop_eq_getElem_cons h]; simp [List.getD, List.getElem?_eq_getElem h]
theorem pci_step {l m : List Int} {d : List Dop} {N k p q n : Nat} (h : PcI l m d N k p q n) (hk : k < d.length) : ∃ z : Nat,
    ((d.getD k opZ).k = 1 ∧ (d.getD k opZ).n = (z : Int) ∧ (d.getD k opZ).t = [] ∧ ∃ t : Nat, whN (cutP l (cutN l)) p (p + z) = (t : Int) ∧ whN (cutP m (cutN m)) q (q + z) = (t : Int) ∧ p + z ≤ l.length ∧ q + z ≤ m.length ∧ PcI l m d N (k + 1) (p + z) (q + z) n) ∨
    ((d.getD k opZ).k = 2 ∧ (d.getD k opZ).n = 0 ∧ (d.getD k opZ).t.length = z ∧ ∃ t : Nat, whN (cutP m (cutN m)) q (q + z) = (t : Int) ∧ q + z ≤ m.length ∧ n + t ≤ N ∧ PcI l m d N (k + 1) p (q + z) (n + t)) ∨
    ((d.getD k opZ).k = 3 ∧ (d.getD k opZ).n = (z : Int) ∧ (d.getD k opZ).t = [] ∧ ∃ t : Nat, whN (cutP l (cutN l)) p (p + z) = (t : Int) ∧ p + z ≤ l.length ∧ n + t ≤ N ∧ PcI l m d N (k + 1) (p + z) q (n + t)) := by
  obtain ⟨i, j, M, h1, h2, h3, rfl, rfl, h6⟩ := h
  rw [drop_getD hk] at h1
  rcases h1 with ⟨c1, c2, s, c3, c4, c5, c6, c7, c8⟩ | ⟨c1, c2, s, M', c3, c4, c5, c6, c7⟩ | ⟨c1, c2, s, M', c3, c4, c5, c6, c7⟩
  · have a1 := (cutN_ok l).le (show i ≤ i + s by omega) c4
    have a2 := (cutN_ok m).le (show j ≤ j + s by omega) c5
    have b1 := (cutN_ok l).at_le c4
    have b2 := (cutN_ok m).at_le c5
    have l1 := sub_len (cutN_ok l) (show i ≤ i + s by omega) c4
    have l2 := sub_len (cutN_ok m) (show j ≤ j + s by omega) c5
    rw [c7, l2] at l1
    have w1 := whN_cut (cutN_ok l) (show i ≤ i + s by omega) c4
    have w2 := whN_cut (cutN_ok m) (show j ≤ j + s by omega) c5
    have x1 : (cutN l).getD i 0 + ((cutN l).getD (i + s) 0 - (cutN l).getD i 0) = (cutN l).getD (i + s) 0 := by omega
    have x2 : (cutN m).getD j 0 + ((cutN l).getD (i + s) 0 - (cutN l).getD i 0) = (cutN m).getD (j + s) 0 := by omega
    refine ⟨_, .inl ⟨c1, c6, c2, s, by rw [x1, w1]; congr 1; omega, by rw [x2, w2]; congr 1; omega, by rw [x1]; exact b1, by rw [x2]; exact b2, i + s, j + s, M, c8, c4, c5, x1, x2, h6⟩⟩
  · have a2 := (cutN_ok m).le (show j ≤ j + s by omega) c4
    have b2 := (cutN_ok m).at_le c4
    have l2 := sub_len (cutN_ok m) (show j ≤ j + s by omega) c4
    have w2 := whN_cut (cutN_ok m) (show j ≤ j + s by omega) c4
    rw [← c5] at l2
    have x2 : (cutN m).getD j 0 + (d.getD k opZ).t.length = (cutN m).getD (j + s) 0 := by omega
    refine ⟨_, .inr (.inl ⟨c1, c2, rfl, s, by rw [x2, w2]; congr 1; omega, by rw [x2]; exact b2, by omega, i, j + s, M', c7, h2, c4, rfl, x2, by omega⟩)⟩
  · have a1 := (cutN_ok l).le (show i ≤ i + s by omega) c4
    have b1 := (cutN_ok l).at_le c4
    have w1 := whN_cut (cutN_ok l) (show i ≤ i + s by omega) c4
    have x1 : (cutN l).getD i 0 + ((cutN l).getD (i + s) 0 - (cutN l).getD i 0) = (cutN l).getD (i + s) 0 := by omega
    refine ⟨_, .inr (.inr ⟨c1, c5, c2, s, by rw [x1, w1]; congr 1; omega, by rw [x1]; exact b1, by omega, i + s, j, M', c7, c4, h3, x1, rfl, by omega⟩)⟩
set_option maxRecDepth 100000 in
set_option maxHeartbeats 8000000 in
theorem pieces19_at (a0 : Option Addr) (c0 : Nat) (l : List Int) (b0 : Option Addr) (d0 : Nat) (m : List Int) (a : Option Addr) (c : Nat) (d : List Dop) (N : Nat) (w : World) (hA : IsB w a0 c0 l) (hB : IsB w b0 d0 m) (h : IsO w a d) (zl : l.length ≤ 1048576) (zm : m.length ≤ 1048576) (hl : d.length ≤ 4611686018427387904) (hp : PcS l m (cutN l) (cutN m) 0 0 N d) (hN : N ≤ 1000000000) :
    Calls Tryd.prog 23 #[.slice a0 l.length c0, .slice b0 m.length d0, .slice a d.length c] w fun y w' => y = .returned (.tuple #[.int .i64 (N : Int), .bool true]) ∧ Below w.heap.size w w' := by
  have HO := hide h
  have HC1 := hide (RPieces_at a0 c0 l w hA zl)
  have HC2 := hide fun (X : World) (hX : Below w.heap.size w X) => RPieces_at b0 d0 m X (hB.below hX (Nat.le_refl _)) zm
  have HP0 : Hid (PcI l m d N 0 0 0 0) := hide ⟨0, 0, N, by simpa using hp, (cutN_ok l).pos, (cutN_ok m).pos, (cutN_ok l).zero.symm, (cutN_ok m).zero.symm, by omega⟩
  have n1 := cutP_cnt (cutN_ok l)
  have n2 := cutP_cnt (cutN_ok m)
  have m1 := (cutN_ok l).len
  have m2 := (cutN_ok m).len
  have HW1 := hide fun (a : Option Addr) (c : Nat) (X : World) (lo hi : Nat) (h : IsTx X a (cutP l (cutN l))) => RWhole_at a c (cutP l (cutN l)) lo hi X h (cut_byl hA.2.2.2 _) (by omega) (by rw [(cutN_ok l).flat]; exact zl)
  have HW2 := hide fun (a : Option Addr) (c : Nat) (X : World) (lo hi : Nat) (h : IsTx X a (cutP m (cutN m))) => RWhole_at a c (cutP m (cutN m)) lo hi X h (cut_byl hB.2.2.2 _) (by omega) (by rw [(cutN_ok m).flat]; exact zm)
  clear hA hB h hp n1 n2 m1 m2
  go_enter Tryd.func23, Tryd.ntmps23
  go_wp2_with fail
  refine (unhide HC1).mono ?_
  rintro e w1 ⟨v1, rfl, x1⟩
  obtain ⟨k1, y1, _⟩ := x1.row
  obtain ⟨a1, c1, rfl, i1⟩ := ra_txs y1
  dsimp only
  have HB1 := hide x1.b
  have HI1 := hide i1
  clear HC1 x1 y1 i1
  go_wp2_with fail
  refine (unhide HC2 w1 (unhide HB1)).mono ?_
  rintro e w2 ⟨v2, rfl, x2⟩
  obtain ⟨k2, y2, _⟩ := x2.row
  obtain ⟨a2, c2, rfl, i2⟩ := ra_txs y2
  dsimp only
  have HB2 := hide ((unhide HB1).trans (x2.b.mono (unhide HB1).size))
  have HI2 := hide i2
  have HI3 := hide ((unhide HI1).below x2.b (Nat.le_refl _))
  clear HC2 HB1 HI1 x2 y2 i2
  obtain ⟨NX, hNX⟩ : ∃ NX, NX = (cutP l (cutN l)).length := ⟨_, rfl⟩
  obtain ⟨NY, hNY⟩ : ∃ NY, NY = (cutP m (cutN m)).length := ⟨_, rfl⟩
  rw [← hNX] at HW1 ⊢
  rw [← hNY] at HW2 ⊢
  clear hNX hNY
  go_wp2_with fail
  go_loopw [10, 11, 12, 13, 14, 15] (fun v10 v11 v12 v13 v14 v15 wx => (∃ z, v14 = z) ∧ (∃ z, v15 = z) ∧ ∃ (k p q n : Nat), v13 = .int .i64 (k : Int) ∧ k ≤ d.length ∧ v10 = .int .i64 (p : Int) ∧ v11 = .int .i64 (q : Int) ∧ v12 = .int .i64 (n : Int) ∧ Hid (PcI l m d N k p q n ∧ Below w2.heap.size w2 wx)) (fun _ _ _ v13 _ _ _ => d.length - (intOf v13).toNat)
  case atStart => exact ⟨⟨_, rfl⟩, ⟨_, rfl⟩, 0, 0, 0, 0, rfl, Nat.zero_le _, rfl, rfl, rfl, hide ⟨unhide HP0, Below.refl _ _⟩⟩
  case round =>
    clear HP0
    obtain ⟨⟨z1, rfl⟩, ⟨z2, rfl⟩, k, p, q, n, rfl, hk, rfl, rfl, rfl, HX⟩ := hrel
    by_cases h1 : k < d.length
    · have t1 : decide ((k : Int) < (d.length : Int)) = true := decide_eq_true (by omega)
      have f1 : (k : Int) < (d.length : Int) := by omega
      obtain ⟨hpc, hbx⟩ := unhide HX
      have XB := (unhide HB2).trans (hbx.mono (unhide HB2).size)
      obtain ⟨g, off, rfl, hg, e0, e1, e2⟩ := ((unhide HO).below XB (Nat.le_refl _)).three h1
      have IX := hide ((unhide HI3).below (hbx.drew) (Nat.le_refl _))
      have IY := hide ((unhide HI2).below (hbx.drew) (Nat.le_refl _))
      have HBX := hide hbx.drew
      obtain ⟨sz, hcase⟩ := pci_step hpc h1
      clear hpc hbx XB HX hk hg
      generalize d.getD k opZ = x at *
      obtain ⟨xk, xn, xt⟩ := x
      dsimp only at e0 e1 e2 hcase
      have hsz := strOfNums_size xt
      rcases hcase with ⟨rfl, rfl, rfl, t, g1, g2, g3, g4, g5⟩ | ⟨rfl, rfl, g0, t, g1, g2, g3, g4⟩ | ⟨rfl, rfl, rfl, t, g1, g2, g3, g4⟩
      · have S0 : wr.drew.cell? ⟨g, off + k * 3 + 1, none⟩ = some (.int .i64 (sz : Int)) ∧ wr.drew.cell? ⟨g, off + k * 3 + 2, none⟩ = some (.string (strOfNums [])) := ⟨e1, e2⟩
        have W0 : IntKind.i64.wrap ((sz : Int)) = (sz : Int) := by rw [IntKind.wrap_i64]; omega
        have G0 : wr.drew.cell? ⟨g, off + k * 3, none⟩ = some (.int .i64 1) := e0
        have HG5 := hide g5
        clear g5
        go_wp2_with fail
        refine regionL (S := fun w' => w'.cell? ⟨g, off + k * 3 + 1, none⟩ = some (.int .i64 (sz : Int)) ∧ w'.cell? ⟨g, off + k * 3 + 2, none⟩ = some (.string (strOfNums []))) (fun _ => false) (by kernel_rfl) ?_
        refine anyL_take (i := 0) (v := ?vq0) rfl (by kernel_rfl) (by kernel_rfl) (by kernel_rfl) (by kernel_rfl) (fun _ _ _ h => h) (Or.inl ⟨by rfl, ?hq0⟩) (S0) ?_
        case hq0 => (intro w hSw; (try dsimp only at hSw); go_simp) <;> with_reducible rfl
        simp only [Act.put, List.getElem_toArray, List.getElem_cons_zero, List.setIfInBounds_toArray, List.set_cons_zero, List.set_cons_succ]
        refine anyL_take (i := 1) (v := ?vq1) rfl (by kernel_rfl) (by kernel_rfl) (by kernel_rfl) (by kernel_rfl) (fun _ _ _ h => h) (Or.inl ⟨by rfl, ?hq1⟩) (S0) ?_
        case hq1 => (intro w hSw; (try dsimp only at hSw); go_simp) <;> with_reducible rfl
        simp only [Act.put, List.getElem_toArray, List.getElem_cons_zero, List.getElem_cons_succ, List.setIfInBounds_toArray, List.set_cons_zero, List.set_cons_succ]
        refine anyL_take (i := 2) (v := ?vq2) rfl (by kernel_rfl) (by kernel_rfl) (by kernel_rfl) (by kernel_rfl) (fun _ _ _ h => h) (Or.inl ⟨by rfl, ?hq2⟩) (S0) ?_
        case hq2 => (intro w hSw; (try dsimp only at hSw); go_simp) <;> with_reducible rfl
        simp only [Act.put, List.getElem_toArray, List.getElem_cons_zero, List.getElem_cons_succ, List.setIfInBounds_toArray, List.set_cons_zero, List.set_cons_succ]
        refine anyL_take (i := 3) (v := ?vq3) rfl (by kernel_rfl) (by kernel_rfl) (by kernel_rfl) (by kernel_rfl) (fun _ _ _ h => h) (Or.inl ⟨by rfl, ?hq3⟩) (S0) ?_
        case hq3 => (intro w hSw; (try dsimp only at hSw); go_simp) <;> with_reducible rfl
        simp only [Act.put, List.getElem_toArray, List.getElem_cons_zero, List.getElem_cons_succ, List.setIfInBounds_toArray, List.set_cons_zero, List.set_cons_succ]
        refine anyL_take (i := 4) (v := ?vq4) rfl (by kernel_rfl) (by kernel_rfl) (by kernel_rfl) (by kernel_rfl) (fun _ _ _ h => h) (Or.inl ⟨by rfl, ?hq4⟩) (S0) ?_
        case hq4 => (intro w hSw; (try dsimp only at hSw); go_simp) <;> with_reducible rfl
        simp only [Act.put, List.getElem_toArray, List.getElem_cons_zero, List.getElem_cons_succ, List.setIfInBounds_toArray, List.set_cons_zero, List.set_cons_succ]
        refine anyL_take (i := 5) (v := ?vq5) rfl (by kernel_rfl) (by kernel_rfl) (by kernel_rfl) (by kernel_rfl) (fun _ _ _ h => h) (Or.inl ⟨by rfl, ?hq5⟩) (S0) ?_
        case hq5 => (intro w hSw; (try dsimp only at hSw); go_simp) <;> with_reducible rfl
        simp only [Act.put, List.getElem_toArray, List.getElem_cons_zero, List.getElem_cons_succ, List.setIfInBounds_toArray, List.set_cons_zero, List.set_cons_succ]
        refine anyL_take (i := 6) (v := ?vq6) rfl (by kernel_rfl) (by kernel_rfl) (by kernel_rfl) (by kernel_rfl) (fun _ _ _ h => h) (Or.inl ⟨by rfl, ?hq6⟩) (S0) ?_
        case hq6 => (intro w hSw; (try dsimp only at hSw); go_simp) <;> with_reducible rfl
        simp only [Act.put, List.getElem_toArray, List.getElem_cons_zero, List.getElem_cons_succ, List.setIfInBounds_toArray, List.set_cons_zero, List.set_cons_succ]
        refine anyL_take (i := 7) (v := ?vq7) rfl (by kernel_rfl) (by kernel_rfl) (by kernel_rfl) (by kernel_rfl) (fun _ _ _ h => h) (Or.inl ⟨by rfl, ?hq7⟩) (S0) ?_
        case hq7 => (intro w hSw; (try dsimp only at hSw); go_simp) <;> with_reducible rfl
        simp only [Act.put, List.getElem_toArray, List.getElem_cons_zero, List.getElem_cons_succ, List.setIfInBounds_toArray, List.set_cons_zero, List.set_cons_succ]
        refine anyL_take (i := 8) (v := ?vq8) rfl (by kernel_rfl) (by kernel_rfl) (by kernel_rfl) (by kernel_rfl) (fun _ _ _ h => h) (Or.inl ⟨by rfl, ?hq8⟩) (S0) ?_
        case hq8 => (intro w hSw; (try dsimp only at hSw); go_simp) <;> with_reducible rfl
        simp only [Act.put, List.getElem_toArray, List.getElem_cons_zero, List.getElem_cons_succ, List.setIfInBounds_toArray, List.set_cons_zero, List.set_cons_succ]
        refine anyL_take (i := 9) (v := ?vq9) rfl (by kernel_rfl) (by kernel_rfl) (by kernel_rfl) (by kernel_rfl) (fun _ _ _ h => h) (Or.inl ⟨by rfl, ?hq9⟩) (S0) ?_
        case hq9 => (intro w hSw; (try dsimp only at hSw); go_simp) <;> with_reducible rfl
        simp only [Act.put, List.getElem_toArray, List.getElem_cons_zero, List.getElem_cons_succ, List.setIfInBounds_toArray, List.set_cons_zero, List.set_cons_succ]
        refine anyL_take (i := 10) (v := ?vq10) rfl (by kernel_rfl) (by kernel_rfl) (by kernel_rfl) (by kernel_rfl) (fun _ _ _ h => h) (Or.inl ⟨by rfl, ?hq10⟩) (S0) ?_
        case hq10 => (intro w hSw; (try dsimp only at hSw); go_simp) <;> with_reducible rfl
        simp only [Act.put, List.getElem_toArray, List.getElem_cons_zero, List.getElem_cons_succ, List.setIfInBounds_toArray, List.set_cons_zero, List.set_cons_succ]
        refine anyL_take (i := 11) (v := ?vq11) rfl (by kernel_rfl) (by kernel_rfl) (by kernel_rfl) (by kernel_rfl) (fun _ _ _ h => h) (Or.inl ⟨by rfl, ?hq11⟩) (S0) ?_
        case hq11 => (intro w hSw; (try dsimp only at hSw); go_simp) <;> with_reducible rfl
        simp only [Act.put, List.getElem_toArray, List.getElem_cons_zero, List.getElem_cons_succ, List.setIfInBounds_toArray, List.set_cons_zero, List.set_cons_succ]
        refine anyL_take (i := 12) (v := ?vq12) rfl (by kernel_rfl) (by kernel_rfl) (by kernel_rfl) (by kernel_rfl) (fun _ _ _ h => h) (Or.inl ⟨by rfl, ?hq12⟩) (S0) ?_
        case hq12 => (intro w hSw; (try dsimp only at hSw); go_simp) <;> with_reducible rfl
        simp only [Act.put, List.getElem_toArray, List.getElem_cons_zero, List.getElem_cons_succ, List.setIfInBounds_toArray, List.set_cons_zero, List.set_cons_succ]
        refine anyL_done (by kernel_rfl) ?_ _
        clear W0 S0 e0 e1 e2 hsz
        generalize wr.drew = v0 at *
        have HH := hide (unhide HW1 a1 c1 v0 p (p + sz) (unhide IX))
        rw [g1] at HH
        simp only [Int.natCast_add] at HH
        clear g1
        go_wp2_with fail
        refine (unhide HH).mono ?_
        rintro y v0 ⟨rfl, rfl⟩
        dsimp only
        clear HH
        have HH := hide (unhide HW2 a2 c2 v0 q (q + sz) (unhide IY))
        rw [g2] at HH
        simp only [Int.natCast_add] at HH
        clear g2
        go_wp2_with fail
        refine (unhide HH).mono ?_
        rintro y v0 ⟨rfl, rfl⟩
        dsimp only
        clear HH
        have t3 : decide ((t : Int) < 0) = false := decide_eq_false (by omega)
        go_wp2_with fail
        go_roundw
        case rel => exact ⟨⟨_, rfl⟩, ⟨_, rfl⟩, k + 1, p + sz, q + sz, n, by go_num, h1, by go_num, by go_num, by go_num, hide ⟨unhide HG5, unhide HBX⟩⟩
        case measure => simp [intOf]; omega
      · have S0 : wr.drew.cell? ⟨g, off + k * 3 + 1, none⟩ = some (.int .i64 0) ∧ wr.drew.cell? ⟨g, off + k * 3 + 2, none⟩ = some (.string (strOfNums xt)) := ⟨e1, e2⟩
        rw [g0] at hsz
        have W0 : IntKind.i64.wrap ((sz : Int)) = (sz : Int) := by rw [IntKind.wrap_i64]; omega
        have G0 : wr.drew.cell? ⟨g, off + k * 3, none⟩ = some (.int .i64 2) := e0
        have HG5 := hide g4
        clear g4
        go_wp2_with fail
        refine regionL (S := fun w' => w'.cell? ⟨g, off + k * 3 + 1, none⟩ = some (.int .i64 0) ∧ w'.cell? ⟨g, off + k * 3 + 2, none⟩ = some (.string (strOfNums xt))) (fun _ => false) (by kernel_rfl) ?_
        refine anyL_take (i := 0) (v := ?vq13) rfl (by kernel_rfl) (by kernel_rfl) (by kernel_rfl) (by kernel_rfl) (fun _ _ _ h => h) (Or.inl ⟨by rfl, ?hq13⟩) (S0) ?_
        case hq13 => (intro w hSw; (try dsimp only at hSw); go_simp) <;> with_reducible rfl
        simp only [Act.put, List.getElem_toArray, List.getElem_cons_zero, List.setIfInBounds_toArray, List.set_cons_zero, List.set_cons_succ]
        refine anyL_take (i := 1) (v := ?vq14) rfl (by kernel_rfl) (by kernel_rfl) (by kernel_rfl) (by kernel_rfl) (fun _ _ _ h => h) (Or.inl ⟨by rfl, ?hq14⟩) (S0) ?_
        case hq14 => (intro w hSw; (try dsimp only at hSw); go_simp) <;> with_reducible rfl
        simp only [Act.put, List.getElem_toArray, List.getElem_cons_zero, List.getElem_cons_succ, List.setIfInBounds_toArray, List.set_cons_zero, List.set_cons_succ]
        refine anyL_take (i := 2) (v := ?vq15) rfl (by kernel_rfl) (by kernel_rfl) (by kernel_rfl) (by kernel_rfl) (fun _ _ _ h => h) (Or.inl ⟨by rfl, ?hq15⟩) (S0) ?_
        case hq15 => (intro w hSw; (try dsimp only at hSw); go_simp) <;> with_reducible rfl
        simp only [Act.put, List.getElem_toArray, List.getElem_cons_zero, List.getElem_cons_succ, List.setIfInBounds_toArray, List.set_cons_zero, List.set_cons_succ]
        refine anyL_take (i := 3) (v := ?vq16) rfl (by kernel_rfl) (by kernel_rfl) (by kernel_rfl) (by kernel_rfl) (fun _ _ _ h => h) (Or.inl ⟨by rfl, ?hq16⟩) (S0) ?_
        case hq16 => (intro w hSw; (try dsimp only at hSw); go_simp) <;> with_reducible rfl
        simp only [Act.put, List.getElem_toArray, List.getElem_cons_zero, List.getElem_cons_succ, List.setIfInBounds_toArray, List.set_cons_zero, List.set_cons_succ]
        refine anyL_take (i := 4) (v := ?vq17) rfl (by kernel_rfl) (by kernel_rfl) (by kernel_rfl) (by kernel_rfl) (fun _ _ _ h => h) (Or.inl ⟨by rfl, ?hq17⟩) (S0) ?_
        case hq17 => (intro w hSw; (try dsimp only at hSw); go_simp) <;> with_reducible rfl
        simp only [Act.put, List.getElem_toArray, List.getElem_cons_zero, List.getElem_cons_succ, List.setIfInBounds_toArray, List.set_cons_zero, List.set_cons_succ]
        refine anyL_take (i := 5) (v := ?vq18) rfl (by kernel_rfl) (by kernel_rfl) (by kernel_rfl) (by kernel_rfl) (fun _ _ _ h => h) (Or.inl ⟨by rfl, ?hq18⟩) (S0) ?_
        case hq18 => (intro w hSw; (try dsimp only at hSw); go_simp) <;> with_reducible rfl
        simp only [Act.put, List.getElem_toArray, List.getElem_cons_zero, List.getElem_cons_succ, List.setIfInBounds_toArray, List.set_cons_zero, List.set_cons_succ]
        refine anyL_take (i := 6) (v := ?vq19) rfl (by kernel_rfl) (by kernel_rfl) (by kernel_rfl) (by kernel_rfl) (fun _ _ _ h => h) (Or.inl ⟨by rfl, ?hq19⟩) (S0) ?_
        case hq19 => (intro w hSw; (try dsimp only at hSw); go_simp) <;> with_reducible rfl
        simp only [Act.put, List.getElem_toArray, List.getElem_cons_zero, List.getElem_cons_succ, List.setIfInBounds_toArray, List.set_cons_zero, List.set_cons_succ]
        refine anyL_take (i := 7) (v := ?vq20) rfl (by kernel_rfl) (by kernel_rfl) (by kernel_rfl) (by kernel_rfl) (fun _ _ _ h => h) (Or.inl ⟨by rfl, ?hq20⟩) (S0) ?_
        case hq20 => (intro w hSw; (try dsimp only at hSw); go_simp) <;> with_reducible rfl
        simp only [Act.put, List.getElem_toArray, List.getElem_cons_zero, List.getElem_cons_succ, List.setIfInBounds_toArray, List.set_cons_zero, List.set_cons_succ]
        refine anyL_take (i := 8) (v := ?vq21) rfl (by kernel_rfl) (by kernel_rfl) (by kernel_rfl) (by kernel_rfl) (fun _ _ _ h => h) (Or.inl ⟨by rfl, ?hq21⟩) (S0) ?_
        case hq21 => (intro w hSw; (try dsimp only at hSw); go_simp) <;> with_reducible rfl
        simp only [Act.put, List.getElem_toArray, List.getElem_cons_zero, List.getElem_cons_succ, List.setIfInBounds_toArray, List.set_cons_zero, List.set_cons_succ]
        refine anyL_take (i := 9) (v := ?vq22) rfl (by kernel_rfl) (by kernel_rfl) (by kernel_rfl) (by kernel_rfl) (fun _ _ _ h => h) (Or.inl ⟨by rfl, ?hq22⟩) (S0) ?_
        case hq22 => (intro w hSw; (try dsimp only at hSw); go_simp) <;> with_reducible rfl
        simp only [Act.put, List.getElem_toArray, List.getElem_cons_zero, List.getElem_cons_succ, List.setIfInBounds_toArray, List.set_cons_zero, List.set_cons_succ]
        refine anyL_take (i := 10) (v := ?vq23) rfl (by kernel_rfl) (by kernel_rfl) (by kernel_rfl) (by kernel_rfl) (fun _ _ _ h => h) (Or.inl ⟨by rfl, ?hq23⟩) (S0) ?_
        case hq23 => (intro w hSw; (try dsimp only at hSw); go_simp) <;> with_reducible rfl
        simp only [Act.put, List.getElem_toArray, List.getElem_cons_zero, List.getElem_cons_succ, List.setIfInBounds_toArray, List.set_cons_zero, List.set_cons_succ]
        refine anyL_take (i := 11) (v := ?vq24) rfl (by kernel_rfl) (by kernel_rfl) (by kernel_rfl) (by kernel_rfl) (fun _ _ _ h => h) (Or.inl ⟨by rfl, ?hq24⟩) (S0) ?_
        case hq24 => (intro w hSw; (try dsimp only at hSw); go_simp) <;> with_reducible rfl
        simp only [Act.put, List.getElem_toArray, List.getElem_cons_zero, List.getElem_cons_succ, List.setIfInBounds_toArray, List.set_cons_zero, List.set_cons_succ]
        refine anyL_take (i := 12) (v := ?vq25) rfl (by kernel_rfl) (by kernel_rfl) (by kernel_rfl) (by kernel_rfl) (fun _ _ _ h => h) (Or.inl ⟨by rfl, ?hq25⟩) (S0) ?_
        case hq25 => (intro w hSw; (try dsimp only at hSw); go_simp) <;> with_reducible rfl
        simp only [Act.put, List.getElem_toArray, List.getElem_cons_zero, List.getElem_cons_succ, List.setIfInBounds_toArray, List.set_cons_zero, List.set_cons_succ]
        refine anyL_done (by kernel_rfl) ?_ _
        clear W0 S0 e0 e1 e2 hsz
        generalize wr.drew = v0 at *
        have HH := hide (unhide HW2 a2 c2 v0 q (q + sz) (unhide IY))
        rw [g1] at HH
        simp only [Int.natCast_add] at HH
        clear g1
        go_wp2_with fail
        refine (unhide HH).mono ?_
        rintro y v0 ⟨rfl, rfl⟩
        dsimp only
        clear HH
        have t3 : decide ((t : Int) < 0) = false := decide_eq_false (by omega)
        go_wp2_with fail
        go_roundw
        case rel => exact ⟨⟨_, rfl⟩, ⟨_, rfl⟩, k + 1, p, q + sz, n + t, by go_num, h1, by go_num, by go_num, by go_num, hide ⟨unhide HG5, unhide HBX⟩⟩
        case measure => simp [intOf]; omega
      · have S0 : wr.drew.cell? ⟨g, off + k * 3 + 1, none⟩ = some (.int .i64 (sz : Int)) ∧ wr.drew.cell? ⟨g, off + k * 3 + 2, none⟩ = some (.string (strOfNums [])) := ⟨e1, e2⟩
        have W0 : IntKind.i64.wrap ((sz : Int)) = (sz : Int) := by rw [IntKind.wrap_i64]; omega
        have G0 : wr.drew.cell? ⟨g, off + k * 3, none⟩ = some (.int .i64 3) := e0
        have HG5 := hide g4
        clear g4
        go_wp2_with fail
        refine regionL (S := fun w' => w'.cell? ⟨g, off + k * 3 + 1, none⟩ = some (.int .i64 (sz : Int)) ∧ w'.cell? ⟨g, off + k * 3 + 2, none⟩ = some (.string (strOfNums []))) (fun _ => false) (by kernel_rfl) ?_
        refine anyL_take (i := 0) (v := ?vq26) rfl (by kernel_rfl) (by kernel_rfl) (by kernel_rfl) (by kernel_rfl) (fun _ _ _ h => h) (Or.inl ⟨by rfl, ?hq26⟩) (S0) ?_
        case hq26 => (intro w hSw; (try dsimp only at hSw); go_simp) <;> with_reducible rfl
        simp only [Act.put, List.getElem_toArray, List.getElem_cons_zero, List.setIfInBounds_toArray, List.set_cons_zero, List.set_cons_succ]
        refine anyL_take (i := 1) (v := ?vq27) rfl (by kernel_rfl) (by kernel_rfl) (by kernel_rfl) (by kernel_rfl) (fun _ _ _ h => h) (Or.inl ⟨by rfl, ?hq27⟩) (S0) ?_
        case hq27 => (intro w hSw; (try dsimp only at hSw); go_simp) <;> with_reducible rfl
        simp only [Act.put, List.getElem_toArray, List.getElem_cons_zero, List.getElem_cons_succ, List.setIfInBounds_toArray, List.set_cons_zero, List.set_cons_succ]
        refine anyL_take (i := 2) (v := ?vq28) rfl (by kernel_rfl) (by kernel_rfl) (by kernel_rfl) (by kernel_rfl) (fun _ _ _ h => h) (Or.inl ⟨by rfl, ?hq28⟩) (S0) ?_
        case hq28 => (intro w hSw; (try dsimp only at hSw); go_simp) <;> with_reducible rfl
        simp only [Act.put, List.getElem_toArray, List.getElem_cons_zero, List.getElem_cons_succ, List.setIfInBounds_toArray, List.set_cons_zero, List.set_cons_succ]
        refine anyL_take (i := 3) (v := ?vq29) rfl (by kernel_rfl) (by kernel_rfl) (by kernel_rfl) (by kernel_rfl) (fun _ _ _ h => h) (Or.inl ⟨by rfl, ?hq29⟩) (S0) ?_
        case hq29 => (intro w hSw; (try dsimp only at hSw); go_simp) <;> with_reducible rfl
        simp only [Act.put, List.getElem_toArray, List.getElem_cons_zero, List.getElem_cons_succ, List.setIfInBounds_toArray, List.set_cons_zero, List.set_cons_succ]
        refine anyL_take (i := 4) (v := ?vq30) rfl (by kernel_rfl) (by kernel_rfl) (by kernel_rfl) (by kernel_rfl) (fun _ _ _ h => h) (Or.inl ⟨by rfl, ?hq30⟩) (S0) ?_
        case hq30 => (intro w hSw; (try dsimp only at hSw); go_simp) <;> with_reducible rfl
        simp only [Act.put, List.getElem_toArray, List.getElem_cons_zero, List.getElem_cons_succ, List.setIfInBounds_toArray, List.set_cons_zero, List.set_cons_succ]
        refine anyL_take (i := 5) (v := ?vq31) rfl (by kernel_rfl) (by kernel_rfl) (by kernel_rfl) (by kernel_rfl) (fun _ _ _ h => h) (Or.inl ⟨by rfl, ?hq31⟩) (S0) ?_
        case hq31 => (intro w hSw; (try dsimp only at hSw); go_simp) <;> with_reducible rfl
        simp only [Act.put, List.getElem_toArray, List.getElem_cons_zero, List.getElem_cons_succ, List.setIfInBounds_toArray, List.set_cons_zero, List.set_cons_succ]
        refine anyL_take (i := 6) (v := ?vq32) rfl (by kernel_rfl) (by kernel_rfl) (by kernel_rfl) (by kernel_rfl) (fun _ _ _ h => h) (Or.inl ⟨by rfl, ?hq32⟩) (S0) ?_
        case hq32 => (intro w hSw; (try dsimp only at hSw); go_simp) <;> with_reducible rfl
        simp only [Act.put, List.getElem_toArray, List.getElem_cons_zero, List.getElem_cons_succ, List.setIfInBounds_toArray, List.set_cons_zero, List.set_cons_succ]
        refine anyL_take (i := 7) (v := ?vq33) rfl (by kernel_rfl) (by kernel_rfl) (by kernel_rfl) (by kernel_rfl) (fun _ _ _ h => h) (Or.inl ⟨by rfl, ?hq33⟩) (S0) ?_
        case hq33 => (intro w hSw; (try dsimp only at hSw); go_simp) <;> with_reducible rfl
        simp only [Act.put, List.getElem_toArray, List.getElem_cons_zero, List.getElem_cons_succ, List.setIfInBounds_toArray, List.set_cons_zero, List.set_cons_succ]
        refine anyL_take (i := 8) (v := ?vq34) rfl (by kernel_rfl) (by kernel_rfl) (by kernel_rfl) (by kernel_rfl) (fun _ _ _ h => h) (Or.inl ⟨by rfl, ?hq34⟩) (S0) ?_
        case hq34 => (intro w hSw; (try dsimp only at hSw); go_simp) <;> with_reducible rfl
        simp only [Act.put, List.getElem_toArray, List.getElem_cons_zero, List.getElem_cons_succ, List.setIfInBounds_toArray, List.set_cons_zero, List.set_cons_succ]
        refine anyL_take (i := 9) (v := ?vq35) rfl (by kernel_rfl) (by kernel_rfl) (by kernel_rfl) (by kernel_rfl) (fun _ _ _ h => h) (Or.inl ⟨by rfl, ?hq35⟩) (S0) ?_
        case hq35 => (intro w hSw; (try dsimp only at hSw); go_simp) <;> with_reducible rfl
        simp only [Act.put, List.getElem_toArray, List.getElem_cons_zero, List.getElem_cons_succ, List.setIfInBounds_toArray, List.set_cons_zero, List.set_cons_succ]
        refine anyL_take (i := 10) (v := ?vq36) rfl (by kernel_rfl) (by kernel_rfl) (by kernel_rfl) (by kernel_rfl) (fun _ _ _ h => h) (Or.inl ⟨by rfl, ?hq36⟩) (S0) ?_
        case hq36 => (intro w hSw; (try dsimp only at hSw); go_simp) <;> with_reducible rfl
        simp only [Act.put, List.getElem_toArray, List.getElem_cons_zero, List.getElem_cons_succ, List.setIfInBounds_toArray, List.set_cons_zero, List.set_cons_succ]
        refine anyL_take (i := 11) (v := ?vq37) rfl (by kernel_rfl) (by kernel_rfl) (by kernel_rfl) (by kernel_rfl) (fun _ _ _ h => h) (Or.inl ⟨by rfl, ?hq37⟩) (S0) ?_
        case hq37 => (intro w hSw; (try dsimp only at hSw); go_simp) <;> with_reducible rfl
        simp only [Act.put, List.getElem_toArray, List.getElem_cons_zero, List.getElem_cons_succ, List.setIfInBounds_toArray, List.set_cons_zero, List.set_cons_succ]
        refine anyL_take (i := 12) (v := ?vq38) rfl (by kernel_rfl) (by kernel_rfl) (by kernel_rfl) (by kernel_rfl) (fun _ _ _ h => h) (Or.inl ⟨by rfl, ?hq38⟩) (S0) ?_
        case hq38 => (intro w hSw; (try dsimp only at hSw); go_simp) <;> with_reducible rfl
        simp only [Act.put, List.getElem_toArray, List.getElem_cons_zero, List.getElem_cons_succ, List.setIfInBounds_toArray, List.set_cons_zero, List.set_cons_succ]
        refine anyL_done (by kernel_rfl) ?_ _
        clear W0 S0 e0 e1 e2 hsz
        generalize wr.drew = v0 at *
        have HH := hide (unhide HW1 a1 c1 v0 p (p + sz) (unhide IX))
        rw [g1] at HH
        simp only [Int.natCast_add] at HH
        clear g1
        go_wp2_with fail
        refine (unhide HH).mono ?_
        rintro y v0 ⟨rfl, rfl⟩
        dsimp only
        clear HH
        have t3 : decide ((t : Int) < 0) = false := decide_eq_false (by omega)
        go_wp2_with fail
        go_roundw
        case rel => exact ⟨⟨_, rfl⟩, ⟨_, rfl⟩, k + 1, p + sz, q, n + t, by go_num, h1, by go_num, by go_num, by go_num, hide ⟨unhide HG5, unhide HBX⟩⟩
        case measure => simp [intOf]; omega
    · obtain rfl : k = d.length := by omega
      have t1 : decide ((d.length : Int) < (d.length : Int)) = false := decide_eq_false (by omega)
      have hn : n = N := by
        obtain ⟨⟨i, j, M, q1, _, _, _, _, q2⟩, _⟩ := unhide HX
        rw [List.drop_length] at q1
        have := q1.2.2; omega
      subst hn
      have HBF := hide ((unhide HB2).trans ((unhide HX).2.mono (unhide HB2).size))
      clear HX
      go_wp2_with fail
      exact bodyPost_ret (results_tmp2 rfl _ _ _) rfl ⟨rfl, unhide HBF⟩
end Go.Proofs.YtkdnanlgkedjgaaDoor
end
