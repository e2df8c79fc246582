/- Layer 9's scripts: what a law's loop over the book's ropes keeps. · RopeAny: the law's function, and First of no function. · RopeAny's walk. · RopeAny: for every input the law returns true and every argument reads afterwards as it read before; conditions: the table of classes holds at the call what the program's text lays (the card ties it to that text). -/
import Derived.Test.YtpfjfgggacpdfaaGreatDoorRpD
import Derived.Test.YtpfjfgggacpdfaaGreatDoorLayL
import Derived.Below
import Derived.ChangeOld
import Derived.ShutString

section
namespace Go.Proofs.YtpfjfgggacpdfaaGreatDoor
open Go.ChangeShapes Go.WideShapes Go.ChangeAt Go.RowKit
attribute [local go_sem] Oper.semAt_some

theorem Bk.low {X : World} {B gB : Nat} {gs : List Nat} {os : List (Option Nd)} (h : Bk X B gB gs os) : Bk X 0 gB gs os := by
  obtain ⟨vr, vt, h1, h2, h3⟩ := h.c
  refine ⟨⟨vr, vt, h1, ⟨h2.1, ?_⟩, ⟨h3.1, ?_⟩⟩, h.n, h.r⟩
  · rcases h2.2 with h | ⟨g, cap, cur, e, _, h4⟩
    · exact Or.inl h
    · exact Or.inr ⟨g, cap, cur, e, Nat.zero_le _, h4⟩
  · rcases h3.2 with h | ⟨g, cap, cur, e, _, h4⟩
    · exact Or.inl h
    · exact Or.inr ⟨g, cap, cur, e, Nat.zero_le _, h4⟩
/-- what the law's loop keeps -/
structure SaI (w : World) (gT : Nat) (gs : List Nat) (os : List (Option Nd)) (X : World) : Prop where
  k : Bk X 0 gT gs os
  s : ∀ i, i < gs.length → (txtO (os.getD i none)).length ≤ 268435456
  b : Below w.heap.size w X

end Go.Proofs.YtpfjfgggacpdfaaGreatDoor
end

section
namespace Go.Proofs.YtpfjfgggacpdfaaGreatDoor
open Go.ChangeShapes Go.WideShapes Go.ChangeAt Go.RowKit
attribute [local go_sem] Oper.semAt_some

/-- a cell that is written over with what it holds -/
theorem Cb.same_set {W : World} {B : Nat} {t : TypeId} {v : Value} (h : Cb W B t v) : Below W.heap.size W (W.setCell ⟨B, 0, none⟩ v) := by
  have h0 := (Below.refl 0 W).setCell (p := ⟨B, 0, none⟩) (Nat.zero_le _) v
  obtain ⟨h1, h2, h3, h4, _⟩ := h0
  refine ⟨h1, h2, h3, h4, fun k _ => ?_⟩
  by_cases e : k = B
  · subst e
    exact (h.set v).trans (Eq.symm h)
  · exact Below.heap_setCell W ⟨B, 0, none⟩ v k e
def pA (k a : Int) (q : List Int) : Bool := if a = 0 then ((rnN q : Int) == k) else (Int.tmod (unN q) ((whN k 7 : Int) + 1) == 0) && decide ((0 : Int) < (q.length : Int))
theorem tmod8 (u : Int) (wh : Nat) (h : wh < 7) : -8 < Int.tmod u ((wh : Int) + 1) ∧ Int.tmod u ((wh : Int) + 1) < 8 := by
  have h1 := Int.natAbs_tmod u ((wh : Int) + 1)
  have h2 : u.natAbs % ((wh : Int) + 1).natAbs < ((wh : Int) + 1).natAbs := Nat.mod_lt _ (by omega)
  omega
theorem wrap7 (wh : Nat) (h : wh < 7) : IntKind.i64.wrap ((wh : Int) + 1) = (wh : Int) + 1 ∧ wrap64 ((wh : Int) + 1) = (wh : Int) + 1 ∧ ¬ (wh : Int) + 1 = 0 := ⟨by rw [IntKind.wrap_i64]; omega, by unfold wrap64; omega, by omega⟩
theorem wrap8 (q : Int) (h : -8 < q ∧ q < 8) : IntKind.i64.wrap q = q ∧ wrap64 q = q := ⟨by rw [IntKind.wrap_i64]; omega, by unfold wrap64; omega⟩
theorem size_strA (l : List Int) : (strOfNums l).size = l.length := by simp [strOfNums, ByteArray.size]

theorem which7_at (k : Int) (X : World) : Calls Tryz.prog 10 #[.int .i64 k, .int .i64 7] X fun y w' => y = .returned (.int .i64 (whN k 7 : Int)) ∧ w' = X := by
  have h := which9_at k 7 X (by omega) (by omega)
  rwa [show ((7 : Nat) : Int) = 7 from rfl] at h

set_option maxRecDepth 100000 in
set_option maxHeartbeats 8000000 in
theorem ra1_at (T : List Int) (m : Nat) (k a : Int) (gR gS ga gk : Nat) (w : World) (hml : m ≤ T.length) (hm : T.length ≤ 268435456) (hin : ∀ x ∈ T, 0 ≤ x ∧ x ≤ 255) (hR : Cb w gR 4 (.bool true)) (hS : w.cell? ⟨gS, 0, none⟩ = some (.string (strOfNums T))) (ha : w.cell? ⟨ga, 0, none⟩ = some (.int .i64 a)) (hk : w.cell? ⟨gk, 0, none⟩ = some (.int .i64 k)) :
    Calls Tryz.prog 8 #[weV (ofL (T.take m)), .pointer (some ⟨gR, 0, none⟩), .pointer (some ⟨gS, 0, none⟩), .pointer (some ⟨ga, 0, none⟩), .pointer (some ⟨gk, 0, none⟩)] w fun y w' => y = .returned (.bool (pA k a (T.take m))) ∧ Below w.heap.size w w' := by
  have hlm : (T.take m).length = m := by rw [List.length_take]; omega
  have HOf2 := hide fun (a : Option Addr) (c : Nat) (X : World) (hx : IsB X a c (T.take m)) => ROf_at a c (T.take m) X hx (by omega)
  have HTm := hide fun (X : World) => toBytes X (T.take m) (fun x hx => hin x (List.mem_of_mem_take hx)) (by omega)
  have eA := str_extract T 0 m
  rw [List.drop_zero, Nat.sub_zero] at eA
  have hw : weV (ofL (T.take m)) = .agg #[.int .i64 ((T.take m).length : Int), .int .i64 (rnN (T.take m) : Int), .int .i64 (unN (T.take m)), .int .i64 (endsN (T.take m)), .string (strOfNums ((T.take m).take 3)), .string (strOfNums (tail3 (T.take m)))] := rfl
  have HP : Hid (pA k a (T.take m) = if a = 0 then ((rnN (T.take m) : Int) == k) else (Int.tmod (unN (T.take m)) ((whN k 7 : Int) + 1) == 0) && decide ((0 : Int) < ((T.take m).length : Int))) := hide rfl
  rw [hw] at HOf2 ⊢
  rw [hlm] at HOf2 HTm HP ⊢
  clear hw
  generalize (rnN (T.take m) : Int) = r2 at *
  generalize unN (T.take m) = u2 at *
  generalize endsN (T.take m) = e2 at *
  generalize strOfNums ((T.take m).take 3) = h2 at *
  generalize strOfNums (tail3 (T.take m)) = t2 at *
  generalize strOfNums (T.take m) = Sm at HTm eA
  generalize pA k a (T.take m) = pv at *
  generalize T.take m = Lm at HOf2 HTm
  have hsz := size_strA T
  generalize strOfNums T = Si at *
  generalize hTl : T.length = tl at *
  clear hlm hin
  have b0 := (Below.refl w.heap.size w).alloc (Nat.le_refl _) (.cells #[.int .i64 (m : Int), .int .i64 r2, .int .i64 u2, .int .i64 e2, .string h2, .string t2] 36)
  have g0 := push_get w (.cells #[.int .i64 (m : Int), .int .i64 r2, .int .i64 u2, .int .i64 e2, .string h2, .string t2] 36)
  have hR := hR.on b0
  have hS := (b0.cell (p := ⟨gS, 0, none⟩) (lt_cell hS)).trans hS
  have ha := (b0.cell (p := ⟨ga, 0, none⟩) (lt_cell ha)).trans ha
  have hk := (b0.cell (p := ⟨gk, 0, none⟩) (lt_cell hk)).trans hk
  have HB := hide b0
  have t1 : (0 : Int) ≤ (m : Int) := by omega
  have t2' : (m : Int) ≤ (tl : Int) := by omega
  have t3 : decide ((0 : Int) ≤ (m : Int)) = true := decide_eq_true t1
  have t4 : decide ((m : Int) ≤ (tl : Int)) = true := decide_eq_true t2'
  clear b0
  go_enter Tryz.func8, Tryz.ntmps8
  go_upto_region 1 with fail
  generalize hgW : w.heap.size = gW at *
  generalize w.alloc (.cells #[.int .i64 (m : Int), .int .i64 r2, .int .i64 u2, .int .i64 e2, .string h2, .string t2] 36) = w0 at *
  obtain ⟨q0, _⟩ := cells6 g0
  have HSW := hide fun (Y : World) (hb : Below w0.heap.size w0 Y) => (show (fun w' : World => w'.cell? ⟨gR, 0, none⟩ = some (.bool true) ∧ w'.cell? ⟨gS, 0, none⟩ = some (.string Si) ∧ w'.cell? ⟨gW, 0, none⟩ = some (.int .i64 (m : Int)) ∧ w'.cell? ⟨gW, 1, none⟩ = some (.int .i64 r2) ∧ w'.cell? ⟨gW, 2, none⟩ = some (.int .i64 u2) ∧ w'.cell? ⟨gW, 3, none⟩ = some (.int .i64 e2) ∧ w'.cell? ⟨gW, 4, none⟩ = some (.string h2) ∧ w'.cell? ⟨gW, 5, none⟩ = some (.string t2)) Y from by
    obtain ⟨v0, v1, v2, v3, v4, v5, _⟩ := cells6 (bk9_on g0 hb)
    exact ⟨(hR.on hb).cell, (hb.cell (p := ⟨gS, 0, none⟩) (lt_cell hS)).trans hS, v0, v1, v2, v3, v4, v5⟩)
  have HCb := hide fun (Y : World) (hb : Below w0.heap.size w0 Y) => hR.on hb
  have HAK := hide fun (Y : World) (hb : Below w0.heap.size w0 Y) => And.intro ((hb.cell (p := ⟨ga, 0, none⟩) (lt_cell ha)).trans ha) ((hb.cell (p := ⟨gk, 0, none⟩) (lt_cell hk)).trans hk)
  have HG0 := hide fun (Y : World) (hb : Below w0.heap.size w0 Y) => bk9_on g0 hb
  have E0 : Below w0.heap.size w0 w0.drew := (Below.refl _ w0).drew
  clear hR hS ha hk g0
  go_upto_region 2 with fail
  refine regionL (S := fun w' => w'.cell? ⟨gR, 0, none⟩ = some (.bool true) ∧ w'.cell? ⟨gS, 0, none⟩ = some (.string Si) ∧ w'.cell? ⟨gW, 0, none⟩ = some (.int .i64 (m : Int)) ∧ w'.cell? ⟨gW, 1, none⟩ = some (.int .i64 r2) ∧ w'.cell? ⟨gW, 2, none⟩ = some (.int .i64 u2) ∧ w'.cell? ⟨gW, 3, none⟩ = some (.int .i64 e2) ∧ w'.cell? ⟨gW, 4, none⟩ = some (.string h2) ∧ w'.cell? ⟨gW, 5, none⟩ = some (.string t2)) (fun _ => false) (by kernel_rfl) ?_
  generalize w0.drew = z0 at *
  refine anyL_take (i := 0) (v := ?vra0) rfl (by kernel_rfl) (by kernel_rfl) (by kernel_rfl) (by kernel_rfl) (fun _ _ _ h => h) (Or.inl ⟨by rfl, ?hra0⟩) (unhide HSW _ E0) ?_
  case hra0 => (intro w hSw; (try dsimp only at hSw); go_simp) <;> with_reducible rfl
  simp only [Act.put, List.getElem_toArray, List.getElem_cons_zero, List.setIfInBounds_toArray, List.set_cons_zero, List.set_cons_succ]
  refine anyL_take (i := 1) (v := ?vra1) rfl (by kernel_rfl) (by kernel_rfl) (by kernel_rfl) (by kernel_rfl) (fun _ _ _ h => h) (Or.inl ⟨by rfl, ?hra1⟩) (unhide HSW _ E0) ?_
  case hra1 => (intro w hSw; (try dsimp only at hSw); go_simp) <;> with_reducible rfl
  simp only [Act.put, List.getElem_toArray, List.getElem_cons_zero, List.getElem_cons_succ, List.setIfInBounds_toArray, List.set_cons_zero, List.set_cons_succ]
  refine anyL_take (i := 2) (v := ?vra2) rfl (by kernel_rfl) (by kernel_rfl) (by kernel_rfl) (by kernel_rfl) (fun _ _ _ h => h) (Or.inl ⟨by rfl, ?hra2⟩) (unhide HSW _ E0) ?_
  case hra2 => (intro w hSw; (try dsimp only at hSw); go_simp) <;> with_reducible rfl
  simp only [Act.put, List.getElem_toArray, List.getElem_cons_zero, List.getElem_cons_succ, List.setIfInBounds_toArray, List.set_cons_zero, List.set_cons_succ]
  refine anyL_take (i := 3) (v := ?vra3) rfl (by kernel_rfl) (by kernel_rfl) (by kernel_rfl) (by kernel_rfl) (fun _ _ _ h => h) (Or.inl ⟨by rfl, ?hra3⟩) (unhide HSW _ E0) ?_
  case hra3 => (intro w hSw; (try dsimp only at hSw); go_simp) <;> with_reducible rfl
  simp only [Act.put, List.getElem_toArray, List.getElem_cons_zero, List.getElem_cons_succ, List.setIfInBounds_toArray, List.set_cons_zero, List.set_cons_succ]
  refine anyL_take (i := 4) (v := ?vra4) rfl (by kernel_rfl) (by kernel_rfl) (by kernel_rfl) (by kernel_rfl) (fun _ _ _ h => h) (Or.inl ⟨by rfl, ?hra4⟩) (unhide HSW _ E0) ?_
  case hra4 => (intro w hSw; (try dsimp only at hSw); go_simp) <;> with_reducible rfl
  simp only [Act.put, List.getElem_toArray, List.getElem_cons_zero, List.getElem_cons_succ, List.setIfInBounds_toArray, List.set_cons_zero, List.set_cons_succ]
  refine anyL_take (i := 5) (v := ?vra5) rfl (by kernel_rfl) (by kernel_rfl) (by kernel_rfl) (by kernel_rfl) (fun _ _ _ h => h) (Or.inl ⟨by rfl, ?hra5⟩) (unhide HSW _ E0) ?_
  case hra5 => (intro w hSw; (try dsimp only at hSw); go_simp) <;> with_reducible rfl
  simp only [Act.put, List.getElem_toArray, List.getElem_cons_zero, List.getElem_cons_succ, List.setIfInBounds_toArray, List.set_cons_zero, List.set_cons_succ]
  refine anyL_take (i := 6) (v := ?vra6) rfl (by kernel_rfl) (by kernel_rfl) (by kernel_rfl) (by kernel_rfl) (fun _ _ _ h => h) (Or.inl ⟨by rfl, ?hra6⟩) (unhide HSW _ E0) ?_
  case hra6 => (intro w hSw; (try dsimp only at hSw); go_simp) <;> with_reducible rfl
  simp only [Act.put, List.getElem_toArray, List.getElem_cons_zero, List.getElem_cons_succ, List.setIfInBounds_toArray, List.set_cons_zero, List.set_cons_succ]
  refine anyL_take (i := 7) (v := ?vra7) rfl (by kernel_rfl) (by kernel_rfl) (by kernel_rfl) (by kernel_rfl) (fun _ _ _ h => h) (Or.inl ⟨by rfl, ?hra7⟩) (unhide HSW _ E0) ?_
  case hra7 => (intro w hSw; (try dsimp only at hSw); go_simp) <;> with_reducible rfl
  simp only [Act.put, List.getElem_toArray, List.getElem_cons_zero, List.getElem_cons_succ, List.setIfInBounds_toArray, List.set_cons_zero, List.set_cons_succ]
  refine anyL_take (i := 8) (v := ?vra8) rfl (by kernel_rfl) (by kernel_rfl) (by kernel_rfl) (by kernel_rfl) (fun _ _ _ h => h) (Or.inl ⟨by rfl, ?hra8⟩) (unhide HSW _ E0) ?_
  case hra8 => (intro w hSw; (try dsimp only at hSw); go_simp) <;> with_reducible rfl
  simp only [Act.put, List.getElem_toArray, List.getElem_cons_zero, List.getElem_cons_succ, List.setIfInBounds_toArray, List.set_cons_zero, List.set_cons_succ]
  refine anyL_take (i := 9) (v := ?vra9) rfl (by kernel_rfl) (by kernel_rfl) (by kernel_rfl) (by kernel_rfl) (fun _ _ _ h => h) (Or.inl ⟨by rfl, ?hra9⟩) (unhide HSW _ E0) ?_
  case hra9 => (intro w hSw; (try dsimp only at hSw); go_simp) <;> with_reducible rfl
  simp only [Act.put, List.getElem_toArray, List.getElem_cons_zero, List.getElem_cons_succ, List.setIfInBounds_toArray, List.set_cons_zero, List.set_cons_succ]
  refine anyL_take (i := 10) (v := ?vra10) rfl (by kernel_rfl) (by kernel_rfl) (by kernel_rfl) (by kernel_rfl) (fun _ _ _ h => h) (Or.inl ⟨by rfl, ?hra10⟩) (unhide HSW _ E0) ?_
  case hra10 => (intro w hSw; (try dsimp only at hSw); go_simp) <;> with_reducible rfl
  simp only [Act.put, List.getElem_toArray, List.getElem_cons_zero, List.getElem_cons_succ, List.setIfInBounds_toArray, List.set_cons_zero, List.set_cons_succ]
  refine anyL_take (i := 11) (v := ?vra11) rfl (by kernel_rfl) (by kernel_rfl) (by kernel_rfl) (by kernel_rfl) (fun _ _ _ h => h) (Or.inl ⟨by rfl, ?hra11⟩) (unhide HSW _ E0) ?_
  case hra11 => (intro w hSw; (try dsimp only at hSw); go_simp) <;> with_reducible rfl
  simp only [Act.put, List.getElem_toArray, List.getElem_cons_zero, List.getElem_cons_succ, List.setIfInBounds_toArray, List.set_cons_zero, List.set_cons_succ]
  refine anyL_take (i := 12) (v := ?vra12) rfl (by kernel_rfl) (by kernel_rfl) (by kernel_rfl) (by kernel_rfl) (fun _ _ _ h => h) (Or.inl ⟨by rfl, ?hra12⟩) (unhide HSW _ E0) ?_
  case hra12 => (intro w hSw; (try dsimp only at hSw); go_simp) <;> with_reducible rfl
  simp only [Act.put, List.getElem_toArray, List.getElem_cons_zero, List.getElem_cons_succ, List.setIfInBounds_toArray, List.set_cons_zero, List.set_cons_succ]
  refine anyL_take (i := 13) (v := ?vra13) rfl (by kernel_rfl) (by kernel_rfl) (by kernel_rfl) (by kernel_rfl) (fun _ _ _ h => h) (Or.inl ⟨by rfl, ?hra13⟩) (unhide HSW _ E0) ?_
  case hra13 => (intro w hSw; (try dsimp only at hSw); go_simp) <;> with_reducible rfl
  simp only [Act.put, List.getElem_toArray, List.getElem_cons_zero, List.getElem_cons_succ, List.setIfInBounds_toArray, List.set_cons_zero, List.set_cons_succ]
  refine anyL_take (i := 14) (v := ?vra14) rfl (by kernel_rfl) (by kernel_rfl) (by kernel_rfl) (by kernel_rfl) (fun _ _ _ h => h) (Or.inl ⟨by rfl, ?hra14⟩) (unhide HSW _ E0) ?_
  case hra14 => (intro w hSw; (try dsimp only at hSw); go_simp) <;> with_reducible rfl
  simp only [Act.put, List.getElem_toArray, List.getElem_cons_zero, List.getElem_cons_succ, List.setIfInBounds_toArray, List.set_cons_zero, List.set_cons_succ]
  refine anyL_take (i := 15) (v := ?vra15) rfl (by kernel_rfl) (by kernel_rfl) (by kernel_rfl) (by kernel_rfl) (fun _ _ _ h => h) (Or.inl ⟨by rfl, ?hra15⟩) (unhide HSW _ E0) ?_
  case hra15 => (intro w hSw; (try dsimp only at hSw); go_simp) <;> with_reducible rfl
  simp only [Act.put, List.getElem_toArray, List.getElem_cons_zero, List.getElem_cons_succ, List.setIfInBounds_toArray, List.set_cons_zero, List.set_cons_succ]
  refine anyL_ready (rs := [16]) (by kernel_rfl) (by simp) ?_
  refine AllL.cons rfl (fun K hK => ?_) AllL.nil
  obtain ⟨c10, y10, r10, k10, x10, _⟩ := unhide HTm z0
  go_simp
  have E1 := E0.trans (x10.mono E0.size)
  have HO2 := hide (unhide HOf2 (some ⟨z0.heap.size, 0, none⟩) c10 y10 k10.1)
  refine unhide hK _ _ (fun _ => unhide HSW _ E1) ?_
  clear hK K r10 k10
  refine anyL_ready (rs := [17]) (by kernel_rfl) (by simp) ?_
  refine AllL.cons rfl (fun K hK => ?_) AllL.nil
  go_simp
  refine (unhide HO2).mono ?_
  rintro e y11 ⟨rfl, x11⟩
  have E2 := E1.trans (x11.mono E1.size)
  refine unhide hK _ _ (fun _ => unhide HSW _ E2) ?_
  clear hK K HO2
  refine anyL_take (i := 18) (v := ?vra16) rfl (by kernel_rfl) (by kernel_rfl) (by kernel_rfl) (by kernel_rfl) (fun _ _ _ h => h) (Or.inl ⟨by rfl, ?hra16⟩) (unhide HSW _ E2) ?_
  case hra16 => (intro w hSw; (try dsimp only at hSw); go_simp) <;> with_reducible rfl
  simp only [Act.put, List.getElem_toArray, List.getElem_cons_zero, List.getElem_cons_succ, List.setIfInBounds_toArray, List.set_cons_zero, List.set_cons_succ]
  refine anyL_take (i := 19) (v := ?vra17) rfl (by kernel_rfl) (by kernel_rfl) (by kernel_rfl) (by kernel_rfl) (fun _ _ _ h => h) (Or.inl ⟨by rfl, ?hra17⟩) (unhide HSW _ E2) ?_
  case hra17 => (intro w hSw; (try dsimp only at hSw); go_simp) <;> with_reducible rfl
  simp only [Act.put, List.getElem_toArray, List.getElem_cons_zero, List.getElem_cons_succ, List.setIfInBounds_toArray, List.set_cons_zero, List.set_cons_succ]
  refine anyL_ready (rs := [20]) (by kernel_rfl) (by simp) ?_
  refine AllL.cons rfl (fun K hK => ?_) AllL.nil
  have f2 := (unhide HCb _ E2).frozen
  have d2 := (unhide HCb _ E2).cell
  go_simp
  have E3 := E2.trans ((unhide HCb _ E2).same_set.mono E2.size)
  refine unhide hK _ _ (fun _ => unhide HSW _ E3) ?_
  clear hK K f2 d2
  refine anyL_done (by kernel_rfl) ?_ _
  have E3 : Below w0.heap.size w0 (y11.setCell ⟨gR, 0, none⟩ (.bool true)) := E3
  generalize y11.setCell ⟨gR, 0, none⟩ (.bool true) = v0 at *
  obtain ⟨ca, ck⟩ := unhide HAK v0 E3
  obtain ⟨_, q1, q2, _⟩ := cells6 (unhide HG0 v0 E3)
  clear HSW HCb HOf2 HTm q0 E0 E1 E2 eA
  have HX : Hid (Below w.heap.size w v0) := hide (by rw [hgW]; exact (unhide HB).trans (E3.mono (hgW ▸ (unhide HB).size)))
  by_cases a0 : a = 0
  · subst a0
    rw [if_pos rfl] at HP
    go_wp2_with fail
    go_ret
    refine ⟨?_, unhide HX⟩
    rw [unhide HP]
    rfl
  · have a0b : (a == 0) = false := by rw [beq_eq_false_iff_ne]; exact a0
    rw [if_neg a0] at HP
    have hwh := whN_lt k (n := 7) (by decide)
    have HWh := hide (which7_at k)
    generalize whN k 7 = wh at *
    obtain ⟨hw1, hw1', hz⟩ := wrap7 wh hwh
    have hzb : ((wh : Int) + 1 == 0) = false := by rw [beq_eq_false_iff_ne]; exact hz
    have hq : -8 < Int.tmod u2 ((wh : Int) + 1) ∧ Int.tmod u2 ((wh : Int) + 1) < 8 := by
      exact tmod8 u2 wh hwh
    obtain ⟨q, hqq⟩ : ∃ q, Int.tmod u2 ((wh : Int) + 1) = q := ⟨_, rfl⟩
    rw [hqq] at HP hq
    obtain ⟨hw2, hw2'⟩ := wrap8 q hq
    have HS5 := hide fun (Y : World) (hb : Below v0.heap.size v0 Y) => (show (fun w' : World => w'.cell? ⟨gW, 2, none⟩ = some (.int .i64 u2) ∧ w'.cell? ⟨gk, 0, none⟩ = some (.int .i64 k)) Y from ⟨(hb.cell (p := ⟨gW, 2, none⟩) (lt_cell q2)).trans q2, (hb.cell (p := ⟨gk, 0, none⟩) (lt_cell ck)).trans ck⟩)
    have E4 : Below v0.heap.size v0 v0.drew := (Below.refl _ v0).drew
    clear HG0 HAK hwh hq
    go_upto_region 5 with fail
    by_cases qz : q = 0
    · subst qz
      refine regionL (S := fun w' => w'.cell? ⟨gW, 2, none⟩ = some (.int .i64 u2) ∧ w'.cell? ⟨gk, 0, none⟩ = some (.int .i64 k)) (fun _ => false) (by kernel_rfl) ?_
      generalize v0.drew = z4 at *
      refine anyL_take (i := 0) (v := ?vrb18) rfl (by kernel_rfl) (by kernel_rfl) (by kernel_rfl) (by kernel_rfl) (fun _ _ _ h => h) (Or.inl ⟨by rfl, ?hrb18⟩) (unhide HS5 _ E4) ?_
      case hrb18 => (intro w hSw; (try dsimp only at hSw); go_simp) <;> with_reducible rfl
      simp only [Act.put, List.getElem_toArray, List.getElem_cons_zero, List.setIfInBounds_toArray, List.set_cons_zero, List.set_cons_succ]
      refine anyL_take (i := 1) (v := ?vrb19) rfl (by kernel_rfl) (by kernel_rfl) (by kernel_rfl) (by kernel_rfl) (fun _ _ _ h => h) (Or.inl ⟨by rfl, ?hrb19⟩) (unhide HS5 _ E4) ?_
      case hrb19 => (intro w hSw; (try dsimp only at hSw); go_simp) <;> with_reducible rfl
      simp only [Act.put, List.getElem_toArray, List.getElem_cons_zero, List.getElem_cons_succ, List.setIfInBounds_toArray, List.set_cons_zero, List.set_cons_succ]
      refine anyL_take (i := 2) (v := ?vrb20) rfl (by kernel_rfl) (by kernel_rfl) (by kernel_rfl) (by kernel_rfl) (fun _ _ _ h => h) (Or.inl ⟨by rfl, ?hrb20⟩) (unhide HS5 _ E4) ?_
      case hrb20 => (intro w hSw; (try dsimp only at hSw); go_simp) <;> with_reducible rfl
      simp only [Act.put, List.getElem_toArray, List.getElem_cons_zero, List.getElem_cons_succ, List.setIfInBounds_toArray, List.set_cons_zero, List.set_cons_succ]
      refine anyL_take (i := 3) (v := ?vrb21) rfl (by kernel_rfl) (by kernel_rfl) (by kernel_rfl) (by kernel_rfl) (fun _ _ _ h => h) (Or.inl ⟨by rfl, ?hrb21⟩) (unhide HS5 _ E4) ?_
      case hrb21 => (intro w hSw; (try dsimp only at hSw); go_simp) <;> with_reducible rfl
      simp only [Act.put, List.getElem_toArray, List.getElem_cons_zero, List.getElem_cons_succ, List.setIfInBounds_toArray, List.set_cons_zero, List.set_cons_succ]
      refine anyL_ready (rs := [4]) (by kernel_rfl) (by simp) ?_
      refine AllL.cons rfl (fun K hK => ?_) AllL.nil
      go_simp
      refine (unhide HWh _).mono ?_
      rintro e y5 ⟨rfl, rfl⟩
      refine unhide hK _ _ (fun _ => unhide HS5 _ E4) ?_
      clear hK K
      refine anyL_take (i := 5) (v := ?vrb22) rfl (by kernel_rfl) (by kernel_rfl) (by kernel_rfl) (by kernel_rfl) (fun _ _ _ h => h) (Or.inl ⟨by rfl, ?hrb22⟩) (unhide HS5 _ E4) ?_
      case hrb22 => (intro w hSw; (try dsimp only at hSw); go_simp) <;> with_reducible rfl
      simp only [Act.put, List.getElem_toArray, List.getElem_cons_zero, List.getElem_cons_succ, List.setIfInBounds_toArray, List.set_cons_zero, List.set_cons_succ]
      refine anyL_take (i := 6) (v := ?vrb23) rfl (by kernel_rfl) (by kernel_rfl) (by kernel_rfl) (by kernel_rfl) (fun _ _ _ h => h) (Or.inl ⟨by rfl, ?hrb23⟩) (unhide HS5 _ E4) ?_
      case hrb23 => (intro w hSw; (try dsimp only at hSw); go_simp) <;> with_reducible rfl
      simp only [Act.put, List.getElem_toArray, List.getElem_cons_zero, List.getElem_cons_succ, List.setIfInBounds_toArray, List.set_cons_zero, List.set_cons_succ]
      refine anyL_take (i := 7) (v := ?vrb24) rfl (by kernel_rfl) (by kernel_rfl) (by kernel_rfl) (by kernel_rfl) (fun _ _ _ h => h) (Or.inl ⟨by rfl, ?hrb24⟩) (unhide HS5 _ E4) ?_
      case hrb24 => (intro w hSw; (try dsimp only at hSw); go_simp) <;> with_reducible rfl
      simp only [Act.put, List.getElem_toArray, List.getElem_cons_zero, List.getElem_cons_succ, List.setIfInBounds_toArray, List.set_cons_zero, List.set_cons_succ]
      refine anyL_take (i := 8) (v := ?vrb25) rfl (by kernel_rfl) (by kernel_rfl) (by kernel_rfl) (by kernel_rfl) (fun _ _ _ h => h) (Or.inl ⟨by rfl, ?hrb25⟩) (unhide HS5 _ E4) ?_
      case hrb25 => (intro w hSw; (try dsimp only at hSw); go_simp) <;> with_reducible rfl
      simp only [Act.put, List.getElem_toArray, List.getElem_cons_zero, List.getElem_cons_succ, List.setIfInBounds_toArray, List.set_cons_zero, List.set_cons_succ]
      refine anyL_take (i := 9) (v := ?vrb26) rfl (by kernel_rfl) (by kernel_rfl) (by kernel_rfl) (by kernel_rfl) (fun _ _ _ h => h) (Or.inl ⟨by rfl, ?hrb26⟩) (unhide HS5 _ E4) ?_
      case hrb26 => (intro w hSw; (try dsimp only at hSw); go_simp) <;> with_reducible rfl
      simp only [Act.put, List.getElem_toArray, List.getElem_cons_zero, List.getElem_cons_succ, List.setIfInBounds_toArray, List.set_cons_zero, List.set_cons_succ]
      refine anyL_take (i := 10) (v := ?vrb27) rfl (by kernel_rfl) (by kernel_rfl) (by kernel_rfl) (by kernel_rfl) (fun _ _ _ h => h) (Or.inl ⟨by rfl, ?hrb27⟩) (unhide HS5 _ E4) ?_
      case hrb27 => (intro w hSw; (try dsimp only at hSw); go_simp) <;> with_reducible rfl
      simp only [Act.put, List.getElem_toArray, List.getElem_cons_zero, List.getElem_cons_succ, List.setIfInBounds_toArray, List.set_cons_zero, List.set_cons_succ]
      refine anyL_take (i := 11) (v := ?vrb28) rfl (by kernel_rfl) (by kernel_rfl) (by kernel_rfl) (by kernel_rfl) (fun _ _ _ h => h) (Or.inl ⟨by rfl, ?hrb28⟩) (unhide HS5 _ E4) ?_
      case hrb28 => (intro w hSw; (try dsimp only at hSw); go_simp) <;> with_reducible rfl
      simp only [Act.put, List.getElem_toArray, List.getElem_cons_zero, List.getElem_cons_succ, List.setIfInBounds_toArray, List.set_cons_zero, List.set_cons_succ]
      refine anyL_take (i := 12) (v := ?vrb29) rfl (by kernel_rfl) (by kernel_rfl) (by kernel_rfl) (by kernel_rfl) (fun _ _ _ h => h) (Or.inl ⟨by rfl, ?hrb29⟩) (unhide HS5 _ E4) ?_
      case hrb29 => (intro w hSw; (try dsimp only at hSw); go_simp) <;> with_reducible rfl
      simp only [Act.put, List.getElem_toArray, List.getElem_cons_zero, List.getElem_cons_succ, List.setIfInBounds_toArray, List.set_cons_zero, List.set_cons_succ]
      refine anyL_done (by kernel_rfl) ?_ _
      have HY := hide ((unhide HX).trans (E4.mono (unhide HX).size))
      clear HS5 E4
      go_wp2_with fail
      go_ret
      refine ⟨?_, unhide HY⟩
      rw [unhide HP]
      first | rfl | simp
    · have qzb : (q == 0) = false := by rw [beq_eq_false_iff_ne]; exact qz
      refine regionL (S := fun w' => w'.cell? ⟨gW, 2, none⟩ = some (.int .i64 u2) ∧ w'.cell? ⟨gk, 0, none⟩ = some (.int .i64 k)) (fun _ => false) (by kernel_rfl) ?_
      generalize v0.drew = z4 at *
      refine anyL_take (i := 0) (v := ?vrc30) rfl (by kernel_rfl) (by kernel_rfl) (by kernel_rfl) (by kernel_rfl) (fun _ _ _ h => h) (Or.inl ⟨by rfl, ?hrc30⟩) (unhide HS5 _ E4) ?_
      case hrc30 => (intro w hSw; (try dsimp only at hSw); go_simp) <;> with_reducible rfl
      simp only [Act.put, List.getElem_toArray, List.getElem_cons_zero, List.setIfInBounds_toArray, List.set_cons_zero, List.set_cons_succ]
      refine anyL_take (i := 1) (v := ?vrc31) rfl (by kernel_rfl) (by kernel_rfl) (by kernel_rfl) (by kernel_rfl) (fun _ _ _ h => h) (Or.inl ⟨by rfl, ?hrc31⟩) (unhide HS5 _ E4) ?_
      case hrc31 => (intro w hSw; (try dsimp only at hSw); go_simp) <;> with_reducible rfl
      simp only [Act.put, List.getElem_toArray, List.getElem_cons_zero, List.getElem_cons_succ, List.setIfInBounds_toArray, List.set_cons_zero, List.set_cons_succ]
      refine anyL_take (i := 2) (v := ?vrc32) rfl (by kernel_rfl) (by kernel_rfl) (by kernel_rfl) (by kernel_rfl) (fun _ _ _ h => h) (Or.inl ⟨by rfl, ?hrc32⟩) (unhide HS5 _ E4) ?_
      case hrc32 => (intro w hSw; (try dsimp only at hSw); go_simp) <;> with_reducible rfl
      simp only [Act.put, List.getElem_toArray, List.getElem_cons_zero, List.getElem_cons_succ, List.setIfInBounds_toArray, List.set_cons_zero, List.set_cons_succ]
      refine anyL_take (i := 3) (v := ?vrc33) rfl (by kernel_rfl) (by kernel_rfl) (by kernel_rfl) (by kernel_rfl) (fun _ _ _ h => h) (Or.inl ⟨by rfl, ?hrc33⟩) (unhide HS5 _ E4) ?_
      case hrc33 => (intro w hSw; (try dsimp only at hSw); go_simp) <;> with_reducible rfl
      simp only [Act.put, List.getElem_toArray, List.getElem_cons_zero, List.getElem_cons_succ, List.setIfInBounds_toArray, List.set_cons_zero, List.set_cons_succ]
      refine anyL_ready (rs := [4]) (by kernel_rfl) (by simp) ?_
      refine AllL.cons rfl (fun K hK => ?_) AllL.nil
      go_simp
      refine (unhide HWh _).mono ?_
      rintro e y5 ⟨rfl, rfl⟩
      refine unhide hK _ _ (fun _ => unhide HS5 _ E4) ?_
      clear hK K
      refine anyL_take (i := 5) (v := ?vrc34) rfl (by kernel_rfl) (by kernel_rfl) (by kernel_rfl) (by kernel_rfl) (fun _ _ _ h => h) (Or.inl ⟨by rfl, ?hrc34⟩) (unhide HS5 _ E4) ?_
      case hrc34 => (intro w hSw; (try dsimp only at hSw); go_simp) <;> with_reducible rfl
      simp only [Act.put, List.getElem_toArray, List.getElem_cons_zero, List.getElem_cons_succ, List.setIfInBounds_toArray, List.set_cons_zero, List.set_cons_succ]
      refine anyL_take (i := 6) (v := ?vrc35) rfl (by kernel_rfl) (by kernel_rfl) (by kernel_rfl) (by kernel_rfl) (fun _ _ _ h => h) (Or.inl ⟨by rfl, ?hrc35⟩) (unhide HS5 _ E4) ?_
      case hrc35 => (intro w hSw; (try dsimp only at hSw); go_simp) <;> with_reducible rfl
      simp only [Act.put, List.getElem_toArray, List.getElem_cons_zero, List.getElem_cons_succ, List.setIfInBounds_toArray, List.set_cons_zero, List.set_cons_succ]
      refine anyL_take (i := 7) (v := ?vrc36) rfl (by kernel_rfl) (by kernel_rfl) (by kernel_rfl) (by kernel_rfl) (fun _ _ _ h => h) (Or.inl ⟨by rfl, ?hrc36⟩) (unhide HS5 _ E4) ?_
      case hrc36 => (intro w hSw; (try dsimp only at hSw); go_simp) <;> with_reducible rfl
      simp only [Act.put, List.getElem_toArray, List.getElem_cons_zero, List.getElem_cons_succ, List.setIfInBounds_toArray, List.set_cons_zero, List.set_cons_succ]
      refine anyL_take (i := 8) (v := ?vrc37) rfl (by kernel_rfl) (by kernel_rfl) (by kernel_rfl) (by kernel_rfl) (fun _ _ _ h => h) (Or.inl ⟨by rfl, ?hrc37⟩) (unhide HS5 _ E4) ?_
      case hrc37 => (intro w hSw; (try dsimp only at hSw); go_simp) <;> with_reducible rfl
      simp only [Act.put, List.getElem_toArray, List.getElem_cons_zero, List.getElem_cons_succ, List.setIfInBounds_toArray, List.set_cons_zero, List.set_cons_succ]
      refine anyL_take (i := 9) (v := undef) rfl (by kernel_rfl) (by kernel_rfl) (by kernel_rfl) (by kernel_rfl) (fun _ _ _ h => h) (Or.inr ⟨by rfl, rfl⟩) (unhide HS5 _ E4) ?_
      simp only [Act.put, List.getElem_toArray, List.getElem_cons_zero, List.getElem_cons_succ, List.setIfInBounds_toArray, List.set_cons_zero, List.set_cons_succ]
      refine anyL_take (i := 10) (v := undef) rfl (by kernel_rfl) (by kernel_rfl) (by kernel_rfl) (by kernel_rfl) (fun _ _ _ h => h) (Or.inr ⟨by rfl, rfl⟩) (unhide HS5 _ E4) ?_
      simp only [Act.put, List.getElem_toArray, List.getElem_cons_zero, List.getElem_cons_succ, List.setIfInBounds_toArray, List.set_cons_zero, List.set_cons_succ]
      refine anyL_take (i := 11) (v := ?vrc40) rfl (by kernel_rfl) (by kernel_rfl) (by kernel_rfl) (by kernel_rfl) (fun _ _ _ h => h) (Or.inl ⟨by rfl, ?hrc40⟩) (unhide HS5 _ E4) ?_
      case hrc40 => (intro w hSw; (try dsimp only at hSw); go_simp) <;> with_reducible rfl
      simp only [Act.put, List.getElem_toArray, List.getElem_cons_zero, List.getElem_cons_succ, List.setIfInBounds_toArray, List.set_cons_zero, List.set_cons_succ]
      refine anyL_take (i := 12) (v := ?vrc41) rfl (by kernel_rfl) (by kernel_rfl) (by kernel_rfl) (by kernel_rfl) (fun _ _ _ h => h) (Or.inl ⟨by rfl, ?hrc41⟩) (unhide HS5 _ E4) ?_
      case hrc41 => (intro w hSw; (try dsimp only at hSw); go_simp) <;> with_reducible rfl
      simp only [Act.put, List.getElem_toArray, List.getElem_cons_zero, List.getElem_cons_succ, List.setIfInBounds_toArray, List.set_cons_zero, List.set_cons_succ]
      refine anyL_done (by kernel_rfl) ?_ _
      have HY := hide ((unhide HX).trans (E4.mono (unhide HX).size))
      clear HS5 E4
      go_wp2_with fail
      go_ret
      refine ⟨?_, unhide HY⟩
      rw [unhide HP, qzb]
      rfl
set_option maxRecDepth 100000 in
set_option maxHeartbeats 2000000 in
theorem FirstN9_at (g : Nat) (w : World) : Calls Tryz.prog 11 #[.pointer (some ⟨g, 0, none⟩), .nilFunc] w fun y w' => y = .returned (.int .i64 (-1)) ∧ w' = w := by
  have hfn : (binOp .eql 40 .nilFunc .nilFunc).run Tryz.prog w = .ok (.bool true) w := by kernel_rfl
  go_enter Tryz.func11, Tryz.ntmps11
  go_wp2_with fail
  go_ret
  exact ⟨rfl, rfl⟩

end Go.Proofs.YtpfjfgggacpdfaaGreatDoor
end

section
namespace Go.Proofs.YtpfjfgggacpdfaaGreatDoor
open Go.ChangeShapes Go.WideShapes Go.ChangeAt Go.RowKit
attribute [local go_sem] Oper.semAt_some

theorem fir_any {p : List Int → Bool} {T : List Int} {n : Int} (h : FirA p T n) : n = -1 ∨ ∃ m : Nat, n = (m : Int) ∧ m ≤ T.length ∧ p (T.take m) = true := by
  rcases h with ⟨h0, rfl⟩ | ⟨_, _, rfl⟩ | ⟨_, m, rfl, _, hl, _, hp⟩
  · exact Or.inr ⟨0, rfl, Nat.zero_le _, h0⟩
  · exact Or.inl rfl
  · exact Or.inr ⟨m, rfl, hl, hp⟩

set_option maxRecDepth 100000 in
set_option maxHeartbeats 8000000 in
theorem RopeAny_any (a0 : Option Addr) (cap : Nat) (cs : List Ac) (k a : Int) (w : World) (hA : IsAc w a0 cs) (hn : cs.length ≤ 2199023255488) (_hk : (Lit.int .i64 k).wf = true) (_ha : (Lit.int .i64 a).wf = true) (hW : Wt w) :
    Calls Tryz.prog 4 #[.slice a0 cs.length cap, .int .i64 k, .int .i64 a] w fun e w' => e = .returned (.bool true) ∧ Below w.heap.size w w' := by
  clear _hk _ha
  have b1 := (Below.refl w.heap.size w).alloc (Nat.le_refl _) (.cells #[.int .i64 k] 3)
  have b2 := b1.alloc b1.size (.cells #[.int .i64 a] 3)
  have ck : Cb ((w.alloc (.cells #[.int .i64 k] 3)).alloc (.cells #[.int .i64 a] 3)) w.heap.size 3 (.int .i64 k) := (Cb.new w _ _).alloc _
  have ca : Cb ((w.alloc (.cells #[.int .i64 k] 3)).alloc (.cells #[.int .i64 a] 3)) (w.heap.size + 1) 3 (.int .i64 a) := by
    have := Cb.new (w.alloc (.cells #[.int .i64 k] 3)) 3 (.int .i64 a)
    rwa [World.size_alloc] at this
  have hA := hA.on b2
  have hW := hW.below b2
  have HB0 := hide b2
  clear b1 b2
  go_enter Tryz.func4, Tryz.ntmps4
  go_upto_region 1 with fail
  generalize (w.alloc (.cells #[.int .i64 k] 3)).alloc (.cells #[.int .i64 a] 3) = w0 at *
  have HW := hide fun (X : World) (hx : Below w0.heap.size w0 X) => hW.below hx
  have HA := hide fun (X : World) (hx : Below w0.heap.size w0 X) => hA.on hx
  have HWk := hide (wakes9_at w0 hW)
  have HK := hide fun (X : World) (hx : Below w0.heap.size w0 X) => And.intro (ck.on hx).cell (ca.on hx).cell
  clear hW hA ck ca
  generalize hgk : w.heap.size = gk at *
  have HGK := hide hgk
  clear hgk
  go_wp2_with fail
  refine (unhide HWk).mono ?_
  rintro y w1 ⟨rfl, x1⟩
  dsimp only
  have HPl := hide (play9_at a0 cap cs w1 (unhide HA w1 x1) (by omega) (unhide HW w1 x1))
  clear HWk
  go_wp2_with fail
  refine (unhide HPl).mono ?_
  rintro y w2 ⟨gB, gs, os, vr, vt, rfl, h2, c2, hs2, hgl, _, x2⟩
  dsimp only
  have h3 := h2.copy c2
  have hrf : (∃ a k c, vr = .slice a k c) ∧ ∃ a k c, vt = .slice a k c := by
    obtain ⟨vr', vt', d1, d2, d3⟩ := h2.c
    have e := c2.symm.trans d1
    cases e
    obtain ⟨a1, c1, e1⟩ := row_len9 d2
    obtain ⟨a3, c3, e3⟩ := row_len9 d3
    exact ⟨⟨a1, _, c1, e1⟩, ⟨a3, _, c3, e3⟩⟩
  obtain ⟨⟨ra, rl, rc, rfl⟩, ta, tl, tc, rfl⟩ := hrf
  have x3 := (Below.refl w2.heap.size w2).alloc (Nat.le_refl _) (.cells #[.slice ra rl rc, .slice ta tl tc] 27)
  have D2 := x1.trans (x2.mono x1.size)
  have D3 := D2.trans (x3.mono D2.size)
  clear HPl h2 c2 x1 x2 x3 D2
  go_upto_region 6 with fail
  generalize hw3 : w2.alloc (.cells #[.slice ra rl rc, .slice ta tl tc] 27) = w3 at *
  generalize w2.heap.size = gT at *
  clear hw3
  have i0 : SaI w0 gT gs os w3 := ⟨h3.low, hs2, D3⟩
  obtain ⟨vr', vt', d1, d2, d3⟩ := h3.c
  obtain ⟨ra', rc', rfl⟩ := row_len9 d2
  obtain ⟨p0, _, _⟩ := cells2 d1
  clear d1 d2 d3 h3 D3
  go_wp2_with fail
  clear p0
  go_loopw [9, 10, 11, 12, 13, 26] (fun v9 v10 v11 v12 v13 v26 wx => (∃ z, v9 = z) ∧ (∃ z, v10 = z) ∧ (∃ z, v11 = z) ∧ (∃ z, v12 = z) ∧ (∃ z, v13 = z) ∧ ∃ i : Nat, v26 = .int .i64 (i : Int) ∧ i ≤ gs.length ∧ Hid (SaI w0 gT gs os wx)) (fun _ _ _ _ _ v26 _ => gs.length - (intOf v26).toNat)
  case atStart => exact ⟨⟨_, rfl⟩, ⟨_, rfl⟩, ⟨_, rfl⟩, ⟨_, rfl⟩, ⟨_, rfl⟩, 0, rfl, Nat.zero_le _, hide i0⟩
  case round =>
    clear i0
    obtain ⟨⟨z9, rfl⟩, ⟨z10, rfl⟩, ⟨z11, rfl⟩, ⟨z12, rfl⟩, ⟨z13, rfl⟩, i, rfl, hi, HI⟩ := hrel
    by_cases c : i < gs.length
    · have t1 : (i : Int) < (gs.length : Int) := by omega
      have hI := unhide HI
      obtain ⟨gr, rc, gt, tc, p0, p1, pc⟩ := hI.k.rows (by omega)
      obtain ⟨ci, cti⟩ := pc i c
      have hri := hI.k.r i c
      have hsi := hI.s i c
      generalize gs.getD i 0 = gi at *
      generalize os.getD i none = oi at *
      have hini : ∀ x ∈ txtO oi, 0 ≤ x ∧ x ≤ 255 := by obtain ⟨v, _, hv⟩ := hri.1; exact txt_in hv
      obtain ⟨Si, hSi⟩ : ∃ Si, Si = strOfNums (txtO oi) := ⟨_, rfl⟩
      rw [← hSi] at cti
      have HSi := hide hSi
      clear hSi pc
      have x5 := ((Below.refl wr.heap.size wr).alloc (Nat.le_refl _) (.cells #[.string Si] 9)).alloc (by simp) (.cells #[.bool true] 4)
      have cS : Cb ((wr.alloc (.cells #[.string Si] 9)).alloc (.cells #[.bool true] 4)) wr.heap.size 9 (.string Si) := (Cb.new wr _ _).alloc _
      have cR : Cb ((wr.alloc (.cells #[.string Si] 9)).alloc (.cells #[.bool true] 4)) (wr.heap.size + 1) 4 (.bool true) := by
        have := Cb.new (wr.alloc (.cells #[.string Si] 9)) 4 (.bool true)
        rwa [World.size_alloc] at this
      go_upto_region 12 with fail
      generalize (wr.alloc (.cells #[.string Si] 9)).alloc (.cells #[.bool true] 4) = w5 at *
      have B5 := hI.b.trans (x5.mono hI.b.size)
      have HIL : Hid (∀ Y, Below w5.heap.size w5 Y → SaI w0 gT gs os Y) := hide fun Y hb => ⟨hI.k.on (x5.trans (hb.mono x5.size)), hI.s, B5.trans (hb.mono B5.size)⟩
      have HRI := hide fun (Y : World) (hb : Below w5.heap.size w5 Y) => hri.1.on (x5.trans (hb.mono x5.size))
      have HC : Hid (∀ Y, Below w5.heap.size w5 Y → Y.cell? ⟨gT, 0, none⟩ = some (.slice (some ⟨gr, 0, none⟩) gs.length rc) ∧ Y.cell? ⟨gr, i, none⟩ = some (.pointer (some ⟨gi, 0, none⟩))) := hide fun Y hb => by
        have h := x5.trans (hb.mono x5.size)
        exact ⟨(h.cell (p := ⟨gT, 0, none⟩) (lt_cell p0)).trans p0, (h.cell (p := ⟨gr, i, none⟩) (lt_cell ci)).trans ci⟩
      generalize wr.heap.size = gS at *
      have HE : Hid (∀ (j : Nat) X, j ≤ (txtO oi).length → Below w5.heap.size w5 X → Calls Tryz.prog 8 #[weV (ofL ((txtO oi).take j)), .pointer (some ⟨gS + 1, 0, none⟩), .pointer (some ⟨gS, 0, none⟩), .pointer (some ⟨gk + 1, 0, none⟩), .pointer (some ⟨gk, 0, none⟩)] X fun y X' => y = .returned (.bool (pA k a ((txtO oi).take j))) ∧ Below X.heap.size X X') := hide fun j X hj hx => by
        obtain ⟨qk, qa⟩ := unhide HK X (B5.trans (hx.mono B5.size))
        exact ra1_at (txtO oi) j k a (gS + 1) gS (gk + 1) gk X hj hsi hini (cR.on hx) (by rw [(cS.on hx).cell, unhide HSi]) qa qk
      have eg := enters_of Tryz.func8 (by kernel_rfl) rfl
      have HFi := hide (First9_at (.pointer (some ⟨gi, 0, none⟩)) oi 8 #[.pointer (some ⟨gS + 1, 0, none⟩), .pointer (some ⟨gS, 0, none⟩), .pointer (some ⟨gk + 1, 0, none⟩), .pointer (some ⟨gk, 0, none⟩)] (pA k a) w5 (RoV.ro (unhide HRI w5 (Below.refl _ _))) hsi (unhide HW w5 B5) eg fun j X hj hx => by
        have e : (#[weV (ofL ((txtO oi).take j))] ++ #[Value.pointer (some ⟨gS + 1, 0, none⟩), .pointer (some ⟨gS, 0, none⟩), .pointer (some ⟨gk + 1, 0, none⟩), .pointer (some ⟨gk, 0, none⟩)] : Array Value) = #[weV (ofL ((txtO oi).take j)), .pointer (some ⟨gS + 1, 0, none⟩), .pointer (some ⟨gS, 0, none⟩), .pointer (some ⟨gk + 1, 0, none⟩), .pointer (some ⟨gk, 0, none⟩)] := by simp
        rw [e]
        exact unhide HE j X hj hx)
      have HCR := hide fun (Y : World) (hb : Below w5.heap.size w5 Y) => And.intro (cR.on hb).cell (cS.on hb).cell
      have hiw : IntKind.i64.wrap ((i : Int) + 1) = (i : Int) + 1 := by rw [IntKind.wrap_i64]; omega
      have hsz := size_strA (txtO oi)
      have hex := str_extract (txtO oi) 0
      rw [← unhide HSi] at hsz hex
      have HIN := hide hini
      have HSM := hide hsi
      clear hri hI HI hini hsi cR cS p1 cti x5 B5 HA HW HSi
      have p0 := (unhide HC w5 (Below.refl _ _)).1
      have ci := (unhide HC w5 (Below.refl _ _)).2
      generalize hTT : txtO oi = TT at *
      clear hTT
      go_wp2_with fail
      refine (unhide HFi).mono ?_
      rintro y w6 ⟨n, rfl, hf, x6⟩
      dsimp only
      clear p0 ci HFi
      obtain ⟨cR, cS⟩ := unhide HCR w6 x6
      obtain ⟨p0, ci⟩ := unhide HC w6 x6
      rcases fir_any hf with rfl | ⟨m, rfl, hml, hp⟩
      · have u1 : ¬ (TT.length : Int) < -1 := by omega
        have HI2 := hide (unhide HIL w6 x6)
        have HFN := hide (FirstN9_at gi w6)
        clear hf HIL HE HC HCR hex
        go_wp2_with fail
        refine (unhide HFN).mono ?_
        rintro y w7 ⟨rfl, rfl⟩
        dsimp only
        go_wp2_with fail
        go_roundw
        case rel => exact ⟨⟨_, rfl⟩, ⟨_, rfl⟩, ⟨_, rfl⟩, ⟨_, rfl⟩, ⟨_, rfl⟩, i + 1, by go_num, by omega, HI2⟩
        case measure =>
          show gs.length - ((i : Int) + 1).toNat < gs.length - (i : Int).toNat
          omega
      · have u1 : ¬ (TT.length : Int) < (m : Int) := by omega
        have u2 : ¬ (m : Int) < -1 := by omega
        have u3 : (0 : Int) ≤ (m : Int) := by omega
        have u4 : (m : Int) ≤ (TT.length : Int) := by omega
        have hm := unhide HSM
        have hlm : (TT.take m).length = m := by rw [List.length_take]; omega
        have eA := hex m
        rw [List.drop_zero, Nat.sub_zero] at eA
        obtain ⟨c7, w7, r7, k7, x7, _⟩ := toBytes w6 (TT.take m) (fun x hx => unhide HIN x (List.mem_of_mem_take hx)) (by omega)
        rw [hlm] at r7
        rw [← eA] at r7
        have HO2 := ROf_at (some ⟨w6.heap.size, 0, none⟩) c7 (TT.take m) w7 k7.1 (by omega)
        rw [hlm] at HO2
        have HO2 := hide HO2
        have D7 := x6.trans (x7.mono x6.size)
        clear hf hex k7 eA
        generalize hWv : weV (ofL (TT.take m)) = Wv at HO2
        go_wp2_with fail
        refine (unhide HO2).mono ?_
        rintro y w8 ⟨rfl, x8⟩
        dsimp only
        have D8 := D7.trans (x8.mono D7.size)
        have HE8 := unhide HE m w8 hml D8
        rw [hp, hWv] at HE8
        have HE8 := hide HE8
        clear HO2 r7 x7 x8
        go_wp2_with fail
        refine (unhide HE8).mono ?_
        rintro y w9 ⟨rfl, x9⟩
        dsimp only
        have D9 := D8.trans (x9.mono D8.size)
        have HI2 := hide (unhide HIL w9 D9)
        have HFN := hide (FirstN9_at gi w9)
        obtain ⟨p0, ci⟩ := unhide HC w9 D9
        clear HE8 HIL HE HC HCR x9 cR cS
        go_wp2_with fail
        refine (unhide HFN).mono ?_
        rintro y w10 ⟨rfl, rfl⟩
        dsimp only
        go_wp2_with fail
        go_roundw
        case rel => exact ⟨⟨_, rfl⟩, ⟨_, rfl⟩, ⟨_, rfl⟩, ⟨_, rfl⟩, ⟨_, rfl⟩, i + 1, by go_num, by omega, HI2⟩
        case measure =>
          show gs.length - ((i : Int) + 1).toNat < gs.length - (i : Int).toNat
          omega
    · have t1 : ¬ (i : Int) < (gs.length : Int) := by omega
      have HB := hide (unhide HI).b
      go_wp2_with fail
      refine bodyPost_ret (results_tmp rfl _ _ _) rfl ⟨rfl, by rw [unhide HGK]; exact (unhide HB0).trans ((unhide HB).mono (by rw [← unhide HGK]; exact (unhide HB0).size))⟩

end Go.Proofs.YtpfjfgggacpdfaaGreatDoor
end

section
namespace Go.Proofs.YtpfjfgggacpdfaaGreatDoor
open Go.ChangeShapes Go.WideShapes Go.ChangeAt Go.RowKit
open Go.ChangeMaps (open_string shut_string)

set_option maxRecDepth 100000 in
theorem ropeAny_contract (H : Type) (enc : TypeId × Value → H) (W : World) (base : Nat) (args : Array Value) (ds gs : List (DataW H)) (before : List MemPlace)
    (hval : ∀ (j : Nat) t v, Tryz.f4.params[j]? = some t → args[j]? = some v → Value.okWide Tryz.prog W .any base t v)
    (hW : DataW.Whole enc Tryz.prog Tryz.f4.params.toList Rows.ropeAnySpec.vars false W args.toList ds gs before) (hsz : (DataW.weightsEach Tryz.prog (Tryz.f4.params.toList ++ (OpenSpec.ofChange Rows.ropeAnySpec).bare.plain.varTypes Tryz.prog) (ds ++ gs)).all (· ≤ reachBytes) = true) (hL : laidMetH Tryz.prog Rows.ropeAnyRow.laid W) (hsh : W.ShapedOpen Tryz.prog) :
    Calls Tryz.prog 4 args W fun e W' => ∃ v, e = .returned v ∧ Rows.ropeAnySpec.post enc Tryz.prog Tryz.f4 false true false false W args v W' := by
  have hW' := hW
  obtain ⟨p, q, hA0, hV, rfl, _, _⟩ := hW
  have hA : DataW.TrodAll enc Tryz.prog W 0 (fun _ => true) true Tryz.f4.params.toList args.toList ds p := hA0
  rw [Tryz.params4] at hA hval hsz
  obtain ⟨v0, vs0, d0, ds0, p0, q0, hargs, rfl, rfl, h0, r0⟩ := trodAll_cons hA
  obtain ⟨v1, vs1, d1, ds1, p1, q1, rfl, rfl, rfl, h1, r1⟩ := trodAll_cons r0
  obtain ⟨v2, vs2, d2, ds2, p2, q2, rfl, rfl, rfl, h2, r2⟩ := trodAll_cons r1
  obtain ⟨rfl, rfl, rfl⟩ := trodAll_nil r2
  obtain rfl : args = #[v0, v1, v2] := by cases args; simp_all
  obtain ⟨rfl, rfl⟩ := trodVars_none hV
  obtain ⟨a0, len0, cap0, rfl⟩ := okWide_slice Tryz.underlying22 (hval 0 22 v0 rfl rfl)
  have k0 := h0
  have lt0 : ∀ x ∈ p0, x.block < W.heap.size := by obtain ⟨m, hm⟩ := k0; exact DataW.trod_lt m _ _ _ hm
  obtain ⟨l0, rfl, w0, u0⟩ := acts1_of_trod h0 hsz (j := 0) rfl rfl
  obtain ⟨x1, rfl, rfl, rfl, w1⟩ := open_int Tryz.underlying3 (hval 1 3 v1 rfl rfl) h1
  obtain ⟨x2, rfl, rfl, rfl, w2⟩ := open_int Tryz.underlying3 (hval 2 3 v2 rfl rfl) h2
  clear hA0
  refine (RopeAny_any a0 cap0 l0 x1 x2 W w0 u0 w1 w2 (wt_of hL hsh)).mono fun e W' ⟨he, bel⟩ => ?_
  subst he
  exact ⟨_, rfl, _, _, _, [], _, [], hW', trodAll_mk1 (shut_bool Tryz.underlying4 _), (trodAll_cons_mk (Below.trod laidOut (by kernel_rfl) (of_decide_eq_true (by kernel_rfl)) k0 bel lt0) (trodAll_cons_mk (shut_int Tryz.underlying3 w1) (trodAll_cons_mk (shut_int Tryz.underlying3 w2) trodAll_mk0))), rfl, bel.frame _, fun h => by cases h⟩

theorem ropeAny_met (os : Os) : laidMet Tryz.prog Rows.ropeAnyRow.laid ((laidWorldW os).forCall (fun _ _ => 0) ⟨#[], #[.slice none 0 0, .int .i64 0, .int .i64 0], []⟩).memory :=
  laidMet_of_run' 8 (by kernel_rfl) (by kernel_rfl)
theorem ropeAny_reads (os : Os) {H : Type} (enc : TypeId × Value → H) : ∃ places, DataW.whole enc Tryz.prog ((laidWorldW os).forCall (fun _ _ => 0) ⟨#[], #[.slice none 0 0, .int .i64 0, .int .i64 0], []⟩).memory Tryz.f4.params.toList Rows.ropeAnySpec.vars false (#[.slice none 0 0, .int .i64 0, .int .i64 0] : Array Value).toList 8 = some ([.nil, .lit (.int .i64 0), .lit (.int .i64 0)], [], places) :=
  ⟨[], by kernel_rfl⟩

set_option maxRecDepth 100000 in
theorem ropeAny_lifted (os : Os) (started : os.Started) (H : Type) (enc : TypeId × Value → H) (F : Stop.Interp) :
    ReturnsInHanded {} Tryz.checked os 4 .any ((OpenSpec.ofChange Rows.ropeAnySpec).preRow enc Tryz.prog Tryz.f4 Rows.ropeAnyRow.domain false Rows.ropeAnyRow.laid) (((OpenSpec.ofChange Rows.ropeAnySpec).at F).post enc Tryz.prog Tryz.f4 false true false false) := by
  obtain ⟨places, hx⟩ := ropeAny_reads os enc
  refine returnsInHanded_of_row (C := Tryz.checked) (s := OpenSpec.ofChange Rows.ropeAnySpec) own started (by kernel_rfl) Tryz.func4
    (witness_row_at (enc := enc) (C := Tryz.checked) false (laidWorldW os) #[.slice none 0 0, .int .i64 0, .int .i64 0] rfl (by kernel_rfl) (by kernel_rfl) (by kernel_rfl)
      (OpenSpec.preRow_of_cond 8 hx (by kernel_rfl) (fun k hk => by cases hk) (by kernel_rfl) (ropeAny_met os))) ?_
  intro W base args ds gs before hval hW _ _ hsz hL hsh _
  exact ropeAny_contract H enc W base args ds gs before hval hW hsz hL hsh

theorem ropeAny_said : Rows.RopeAnySaid :=
  OpenClaim.holds_of_cond 4 Tryz.f4 rfl rfl rfl rfl rfl rfl rfl ⟨rfl, rfl, rfl, rfl, rfl⟩ rfl rfl rfl rfl rfl (by kernel_rfl) Tryz.func4 (by kernel_rfl)
    (of_decide_eq_true (by kernel_rfl)) (by unfold Func.isWrapper; first | (rw [if_pos (by decide +kernel)]; kernel_rfl) | (rw [if_neg (by decide +kernel)]; exact ⟨rfl, rfl⟩))
    (fun os started H enc _ F => by rw [OpenClaim.pre_eq_preRow]; exact ropeAny_lifted os started H enc F)

theorem ropeAny_plain (f : FuncId) (fn : Func) (hf : Tryz.pinned.checked.prog.funcNamed "galley/galleylaw09.RopeAny" = some f) (hfn : Tryz.pinned.checked.prog.funcs[f]? = some fn) :
    true = Tryz.pinned.checked.prog.looks [] ∧ ∀ (j : Nat) t, fn.params[j]? = some t → Tryz.pinned.checked.prog.wantsStandIn t = false := by
  obtain rfl : f = 4 := Option.some.inj ((show Tryz.prog.funcNamed "galley/galleylaw09.RopeAny" = some 4 by kernel_rfl).symm.trans hf) |>.symm
  obtain rfl : fn = Tryz.f4 := (Option.some.inj (Tryz.func4.symm.trans hfn)).symm
  refine ⟨by kernel_rfl, fun j t ht => ?_⟩
  rw [Tryz.params4] at ht
  have hm := Array.mem_of_getElem? ht
  simp only [List.mem_toArray, List.mem_cons, List.not_mem_nil, or_false] at hm
  rcases hm with rfl | rfl | rfl
  · exact (show Tryz.prog.wantsStandIn 22 = false by kernel_rfl)
  · exact (show Tryz.prog.wantsStandIn 3 = false by kernel_rfl)
  · exact (show Tryz.prog.wantsStandIn 3 = false by kernel_rfl)

/-- the card -/
theorem ropeAny_card : Rows.RopeAnyCardSaid :=
  Claim7.holds_tied_plain_at .later [] _ _ _ _ ropeAny_said (fun _ h => by cases h) (by kernel_rfl) (fun _ h => by cases h) ropeAny_row_tie rfl ⟨rfl, rfl⟩ (by kernel_rfl) rfl ropeAny_plain (by kernel_rfl)

#print axioms ropeAny_card
end Go.Proofs.YtpfjfgggacpdfaaGreatDoor
end
