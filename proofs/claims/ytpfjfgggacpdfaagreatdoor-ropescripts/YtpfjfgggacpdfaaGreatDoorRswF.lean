/- Layer 9's scripts: what a law's loop over the book's ropes keeps. · RopeScripts: holds. · RopeScripts' walk. · RopeScripts: for every input the law returns true and every argument reads afterwards as it read before; conditions: the table of classes holds at the call what the program's text lays (the card ties it to that text). -/
import Derived.Test.YtpfjfgggacpdfaaGreatDoorRpD
import Derived.Test.YtpfjfgggacpdfaaGreatDoorLayL
import Derived.Below
import Derived.ChangeOld
import Derived.ShutString

section
namespace Go.Proofs.YtpfjfgggacpdfaaGreatDoor
open Go.ChangeShapes Go.WideShapes Go.ChangeAt Go.RowKit
attribute [local go_sem] Oper.semAt_some

theorem Bk.low {X : World} {B gB : Nat} {gs : List Nat} {os : List (Option Nd)} (h : Bk X B gB gs os) : Bk X 0 gB gs os := by
  obtain ⟨vr, vt, h1, h2, h3⟩ := h.c
  refine ⟨⟨vr, vt, h1, ⟨h2.1, ?_⟩, ⟨h3.1, ?_⟩⟩, h.n, h.r⟩
  · rcases h2.2 with h | ⟨g, cap, cur, e, _, h4⟩
    · exact Or.inl h
    · exact Or.inr ⟨g, cap, cur, e, Nat.zero_le _, h4⟩
  · rcases h3.2 with h | ⟨g, cap, cur, e, _, h4⟩
    · exact Or.inl h
    · exact Or.inr ⟨g, cap, cur, e, Nat.zero_le _, h4⟩
/-- what the law's loop keeps -/
structure SaI (w : World) (gT : Nat) (gs : List Nat) (os : List (Option Nd)) (X : World) : Prop where
  k : Bk X 0 gT gs os
  s : ∀ i, i < gs.length → (txtO (os.getD i none)).length ≤ 268435456
  b : Below w.heap.size w X

end Go.Proofs.YtpfjfgggacpdfaaGreatDoor
end

section
namespace Go.Proofs.YtpfjfgggacpdfaaGreatDoor
open Go.ChangeShapes Go.WideShapes Go.ChangeAt Go.RowKit
attribute [local go_sem] Oper.semAt_some

theorem size_strH (l : List Int) : (strOfNums l).size = l.length := by simp [strOfNums, ByteArray.size]

set_option maxRecDepth 100000 in
set_option maxHeartbeats 8000000 in
theorem holds9_at (g : Nat) (o : Option Nd) (lo hi : Int) (w : World) (h : IsRo w g o) (hm : (txtO o).length ≤ 268435456) (hW : Wt w) :
    Calls Tryz.prog 7 #[.pointer (some ⟨g, 0, none⟩), .string (strOfNums (txtO o)), .int .i64 lo, .int .i64 hi] w fun y w' => y = .returned (.bool true) ∧ Below w.heap.size w w' := by
  have hin : ∀ x ∈ txtO o, 0 ≤ x ∧ x ≤ 255 := by obtain ⟨v, _, hv⟩ := h; exact txt_in hv
  have HL := hide (Len9_at g o w h)
  have HT := hide fun (X : World) (hx : Below w.heap.size w X) => text9_at g o X (h.on hx) hm
  have HWe := hide fun (X : World) (hx : Below w.heap.size w X) => Weld9_at g o X (h.on hx)
  have HH := hide fun (X : World) (hx : Below w.heap.size w X) => h.on hx
  have HW := hide fun (X : World) (hx : Below w.heap.size w X) => hW.below hx
  have HOf := hide fun (a : Option Addr) (c : Nat) (X : World) (hx : IsB X a c (txtO o)) => ROf_at a c (txtO o) X hx hm
  rw [weq9] at HWe HOf
  generalize (szL (txtO o)).b = b1 at HWe HOf
  generalize (szL (txtO o)).r = r1 at HWe HOf
  generalize (szL (txtO o)).u = u1 at HWe HOf
  generalize (szL (txtO o)).e = e1 at HWe HOf
  generalize strOfNums (List.take 3 (txtO o)) = h1 at HWe HOf
  generalize strOfNums (tail3 (txtO o)) = t1 at HWe HOf
  have hsz := size_strH (txtO o)
  have HSx := hide (str_extract (txtO o))
  have HIN := hide hin
  have HTB := hide fun (X : World) => toBytes X (txtO o) hin (by omega)
  generalize strOfNums (txtO o) = Si at *
  clear h hW hin
  go_enter Tryz.func7, Tryz.ntmps7
  go_wp2_with fail
  refine (unhide HL).mono ?_
  rintro y w1 ⟨rfl, x1⟩
  dsimp only
  clear HL
  go_wp2_with fail
  refine (unhide HT w1 x1).mono ?_
  rintro y w2 ⟨rfl, x2⟩
  dsimp only
  have D2 := x1.trans (x2.mono x1.size)
  clear HT x1 x2
  go_wp2_with fail
  refine (unhide HWe w2 D2).mono ?_
  rintro y w3 ⟨rfl, x3⟩
  dsimp only
  have D3 := D2.trans (x3.mono D2.size)
  obtain ⟨c3, y4, r4, k4, x4, _⟩ := unhide HTB w3
  have HO1 := hide (unhide HOf (some ⟨w3.heap.size, 0, none⟩) c3 y4 k4.1)
  have D4 := D3.trans (x4.mono D3.size)
  clear HWe HOf k4 x3 x4 D2 D3 HTB
  go_wp2_with fail
  refine (unhide HO1).mono ?_
  rintro y w5 ⟨rfl, x5⟩
  dsimp only
  have D5 := D4.trans (x5.mono D4.size)
  clear HO1 r4 x5 D4
  have HSp := hide fun (X : World) => Span9_at ((txtO o).length : Int) lo hi _ rfl X
  by_cases cs : 0 ≤ lo ∧ lo ≤ hi ∧ hi ≤ ((txtO o).length : Int)
  · obtain ⟨m, rfl⟩ : ∃ m : Nat, lo = (m : Int) := ⟨lo.toNat, by omega⟩
    obtain ⟨p, rfl⟩ : ∃ p : Nat, hi = (p : Int) := ⟨hi.toNat, by omega⟩
    rw [decide_eq_true cs] at HSp
    have hmp : m ≤ p := by omega
    have hpl : p ≤ (txtO o).length := by omega
    have HBy := hide (BytesR9_at g o m p w5 (unhide HH w5 D5) hmp hpl hm)
    have hml : m ≤ (txtO o).length := by omega
    have HBr := hide fun (X : World) (hx : Below w.heap.size w X) => BeforeR9_at g o m X (unhide HH X hx) hml hm (unhide HW X hx)
    have HOf2 := hide fun (a : Option Addr) (c : Nat) (X : World) (hx : IsB X a c ((txtO o).take m)) => ROf_at a c ((txtO o).take m) X hx (by rw [List.length_take]; omega)
    have HTm := hide fun (X : World) => toBytes X ((txtO o).take m) (fun x hx => unhide HIN x (List.mem_of_mem_take hx)) (by rw [List.length_take]; omega)
    have eA := unhide HSx 0 m
    rw [List.drop_zero, Nat.sub_zero] at eA
    rw [weq9] at HBr HOf2
    generalize (szL ((txtO o).take m)).b = b2 at HBr HOf2
    generalize (szL ((txtO o).take m)).r = r2 at HBr HOf2
    generalize (szL ((txtO o).take m)).u = u2 at HBr HOf2
    generalize (szL ((txtO o).take m)).e = e2 at HBr HOf2
    generalize strOfNums (List.take 3 ((txtO o).take m)) = h2 at HBr HOf2
    generalize strOfNums (tail3 ((txtO o).take m)) = t2 at HBr HOf2
    generalize strOfNums ((txtO o).take m) = Sm at HTm eA
    have hlm : ((txtO o).take m).length = m := by rw [List.length_take]; omega
    rw [hlm] at HOf2 HTm
    generalize (txtO o).take m = Lm at HOf2 HTm
    clear hlm
    have hlen : (((txtO o).drop m).take (p - m)).length = p - m := by rw [List.length_take, List.length_drop]; omega
    have hsx := unhide HSx m p
    have HI2 : Hid (∀ x ∈ ((txtO o).drop m).take (p - m), 0 ≤ x ∧ x ≤ 255) := hide fun x hx => unhide HIN x (List.mem_of_mem_drop (List.mem_of_mem_take hx))
    generalize ((txtO o).drop m).take (p - m) = L2 at *
    have HLN := hide hlen
    clear hlen
    generalize hLn : (txtO o).length = ln at *
    have v1 : (m : Int) ≤ (p : Int) := by omega
    have v2 : (p : Int) ≤ (ln : Int) := by omega
    have v3 : (m : Int) ≤ (ln : Int) := by omega
    have v4 : ¬ (ln : Int) < (m : Int) := by omega
    go_wp2_with fail
    refine (unhide HBy).mono ?_
    rintro y w6 ⟨v, rfl, o6, x6⟩
    dsimp only
    have D6 := D5.trans (x6.mono D5.size)
    obtain ⟨va, vc, rfl, hi6⟩ := o6.isB (unhide HI2) (by have := unhide HLN; omega)
    have HCv : Hid (∀ X, Below w6.heap.size w6 X → (convert 38 9 (.slice va L2.length vc)).run Tryz.prog X = .ok (.string (strOfNums L2)) X) := hide fun X hx => str_bs X va vc L2 (hi6.below hx (Nat.le_refl _)).2.2.1
    generalize strOfNums L2 = Sx at *
    generalize L2.length = NN at *
    clear o6 x6 hi6 HBy
    go_wp2_with fail
    refine (unhide HSp w6).mono ?_
    rintro y w7 ⟨rfl, rfl⟩
    dsimp only
    have E0 : Below w7.heap.size w7 w7.drew := (Below.refl _ w7).drew
    have D7 := D6.trans (E0.mono D6.size)
    go_upto_region 7 with fail
    refine regionL (S := fun w' => (convert 38 9 (.slice va NN vc)).run Tryz.prog w' = .ok (.string Sx) w') (fun _ => false) (by kernel_rfl) ?_
    generalize w7.drew = y0 at *
    refine anyL_take (i := 0) (v := ?vho0) rfl (by kernel_rfl) (by kernel_rfl) (by kernel_rfl) (by kernel_rfl) (fun _ _ _ h => h) (Or.inl ⟨by rfl, ?hho0⟩) (unhide HCv _ E0) ?_
    case hho0 => (intro w hSw; (try dsimp only at hSw); go_simp) <;> with_reducible rfl
    simp only [Act.put, List.getElem_toArray, List.getElem_cons_zero, List.setIfInBounds_toArray, List.set_cons_zero, List.set_cons_succ]
    refine anyL_take (i := 1) (v := ?vho1) rfl (by kernel_rfl) (by kernel_rfl) (by kernel_rfl) (by kernel_rfl) (fun _ _ _ h => h) (Or.inl ⟨by rfl, ?hho1⟩) (unhide HCv _ E0) ?_
    case hho1 => (intro w hSw; (try dsimp only at hSw); go_simp) <;> with_reducible rfl
    simp only [Act.put, List.getElem_toArray, List.getElem_cons_zero, List.getElem_cons_succ, List.setIfInBounds_toArray, List.set_cons_zero, List.set_cons_succ]
    refine anyL_take (i := 2) (v := ?vho2) rfl (by kernel_rfl) (by kernel_rfl) (by kernel_rfl) (by kernel_rfl) (fun _ _ _ h => h) (Or.inl ⟨by rfl, ?hho2⟩) (unhide HCv _ E0) ?_
    case hho2 => (intro w hSw; (try dsimp only at hSw); go_simp) <;> with_reducible rfl
    simp only [Act.put, List.getElem_toArray, List.getElem_cons_zero, List.getElem_cons_succ, List.setIfInBounds_toArray, List.set_cons_zero, List.set_cons_succ]
    refine anyL_take (i := 3) (v := ?vho3) rfl (by kernel_rfl) (by kernel_rfl) (by kernel_rfl) (by kernel_rfl) (fun _ _ _ h => h) (Or.inl ⟨by rfl, ?hho3⟩) (unhide HCv _ E0) ?_
    case hho3 => (intro w hSw; (try dsimp only at hSw); go_simp) <;> with_reducible rfl
    simp only [Act.put, List.getElem_toArray, List.getElem_cons_zero, List.getElem_cons_succ, List.setIfInBounds_toArray, List.set_cons_zero, List.set_cons_succ]
    refine anyL_take (i := 4) (v := ?vho4) rfl (by kernel_rfl) (by kernel_rfl) (by kernel_rfl) (by kernel_rfl) (fun _ _ _ h => h) (Or.inl ⟨by rfl, ?hho4⟩) (unhide HCv _ E0) ?_
    case hho4 => (intro w hSw; (try dsimp only at hSw); go_simp) <;> with_reducible rfl
    simp only [Act.put, List.getElem_toArray, List.getElem_cons_zero, List.getElem_cons_succ, List.setIfInBounds_toArray, List.set_cons_zero, List.set_cons_succ]
    refine anyL_take (i := 5) (v := ?vho5) rfl (by kernel_rfl) (by kernel_rfl) (by kernel_rfl) (by kernel_rfl) (fun _ _ _ h => h) (Or.inl ⟨by rfl, ?hho5⟩) (unhide HCv _ E0) ?_
    case hho5 => (intro w hSw; (try dsimp only at hSw); go_simp) <;> with_reducible rfl
    simp only [Act.put, List.getElem_toArray, List.getElem_cons_zero, List.getElem_cons_succ, List.setIfInBounds_toArray, List.set_cons_zero, List.set_cons_succ]
    refine anyL_take (i := 6) (v := ?vho6) rfl (by kernel_rfl) (by kernel_rfl) (by kernel_rfl) (by kernel_rfl) (fun _ _ _ h => h) (Or.inl ⟨by rfl, ?hho6⟩) (unhide HCv _ E0) ?_
    case hho6 => (intro w hSw; (try dsimp only at hSw); go_simp) <;> with_reducible rfl
    simp only [Act.put, List.getElem_toArray, List.getElem_cons_zero, List.getElem_cons_succ, List.setIfInBounds_toArray, List.set_cons_zero, List.set_cons_succ]
    refine anyL_take (i := 7) (v := ?vho7) rfl (by kernel_rfl) (by kernel_rfl) (by kernel_rfl) (by kernel_rfl) (fun _ _ _ h => h) (Or.inl ⟨by rfl, ?hho7⟩) (unhide HCv _ E0) ?_
    case hho7 => (intro w hSw; (try dsimp only at hSw); go_simp) <;> with_reducible rfl
    simp only [Act.put, List.getElem_toArray, List.getElem_cons_zero, List.getElem_cons_succ, List.setIfInBounds_toArray, List.set_cons_zero, List.set_cons_succ]
    refine anyL_take (i := 8) (v := ?vho8) rfl (by kernel_rfl) (by kernel_rfl) (by kernel_rfl) (by kernel_rfl) (fun _ _ _ h => h) (Or.inl ⟨by rfl, ?hho8⟩) (unhide HCv _ E0) ?_
    case hho8 => (intro w hSw; (try dsimp only at hSw); go_simp) <;> with_reducible rfl
    simp only [Act.put, List.getElem_toArray, List.getElem_cons_zero, List.getElem_cons_succ, List.setIfInBounds_toArray, List.set_cons_zero, List.set_cons_succ]
    refine anyL_take (i := 9) (v := ?vho9) rfl (by kernel_rfl) (by kernel_rfl) (by kernel_rfl) (by kernel_rfl) (fun _ _ _ h => h) (Or.inl ⟨by rfl, ?hho9⟩) (unhide HCv _ E0) ?_
    case hho9 => (intro w hSw; (try dsimp only at hSw); go_simp) <;> with_reducible rfl
    simp only [Act.put, List.getElem_toArray, List.getElem_cons_zero, List.getElem_cons_succ, List.setIfInBounds_toArray, List.set_cons_zero, List.set_cons_succ]
    refine anyL_take (i := 10) (v := ?vho10) rfl (by kernel_rfl) (by kernel_rfl) (by kernel_rfl) (by kernel_rfl) (fun _ _ _ h => h) (Or.inl ⟨by rfl, ?hho10⟩) (unhide HCv _ E0) ?_
    case hho10 => (intro w hSw; (try dsimp only at hSw); go_simp) <;> with_reducible rfl
    simp only [Act.put, List.getElem_toArray, List.getElem_cons_zero, List.getElem_cons_succ, List.setIfInBounds_toArray, List.set_cons_zero, List.set_cons_succ]
    refine anyL_done (by kernel_rfl) ?_ _
    clear HCv E0
    have HBf := hide (unhide HBr y0 D7)
    go_wp2_with fail
    refine (unhide HBf).mono ?_
    rintro y w8 ⟨rfl, x8⟩
    dsimp only
    have D8 := D7.trans (x8.mono D7.size)
    have x9 := (Below.refl w8.heap.size w8).alloc (Nat.le_refl _) (.cells #[.int .i64 b2, .int .i64 r2, .int .i64 u2, .int .i64 e2, .string h2, .string t2] 36)
    have g9 := push_get w8 (.cells #[.int .i64 b2, .int .i64 r2, .int .i64 u2, .int .i64 e2, .string h2, .string t2] 36)
    have D9 := D8.trans (x9.mono D8.size)
    clear HBf x8 HBr
    go_upto_region 10 with fail
    generalize w8.heap.size = gW at *
    generalize w8.alloc (.cells #[.int .i64 b2, .int .i64 r2, .int .i64 u2, .int .i64 e2, .string h2, .string t2] 36) = w9 at *
    obtain ⟨q0, q1, q2, q3, q4, q5, _⟩ := cells6 g9
    have HSW := hide fun (Y : World) (hb : Below w9.heap.size w9 Y) => (show (fun w' : World => w'.cell? ⟨gW, 0, none⟩ = some (.int .i64 b2) ∧ w'.cell? ⟨gW, 1, none⟩ = some (.int .i64 r2) ∧ w'.cell? ⟨gW, 2, none⟩ = some (.int .i64 u2) ∧ w'.cell? ⟨gW, 3, none⟩ = some (.int .i64 e2) ∧ w'.cell? ⟨gW, 4, none⟩ = some (.string h2) ∧ w'.cell? ⟨gW, 5, none⟩ = some (.string t2)) Y from by
      obtain ⟨v0, v1, v2, v3, v4, v5, _⟩ := cells6 (bk9_on g9 hb)
      exact ⟨v0, v1, v2, v3, v4, v5⟩)
    have E0 : Below w9.heap.size w9 w9.drew := (Below.refl _ w9).drew
    clear x9 g9
    go_upto_region 12 with fail
    refine regionL (S := fun w' => w'.cell? ⟨gW, 0, none⟩ = some (.int .i64 b2) ∧ w'.cell? ⟨gW, 1, none⟩ = some (.int .i64 r2) ∧ w'.cell? ⟨gW, 2, none⟩ = some (.int .i64 u2) ∧ w'.cell? ⟨gW, 3, none⟩ = some (.int .i64 e2) ∧ w'.cell? ⟨gW, 4, none⟩ = some (.string h2) ∧ w'.cell? ⟨gW, 5, none⟩ = some (.string t2)) (fun _ => false) (by kernel_rfl) ?_
    generalize w9.drew = z0 at *
    refine anyL_take (i := 0) (v := ?vhp11) rfl (by kernel_rfl) (by kernel_rfl) (by kernel_rfl) (by kernel_rfl) (fun _ _ _ h => h) (Or.inl ⟨by rfl, ?hhp11⟩) (unhide HSW _ E0) ?_
    case hhp11 => (intro w hSw; (try dsimp only at hSw); go_simp) <;> with_reducible rfl
    simp only [Act.put, List.getElem_toArray, List.getElem_cons_zero, List.setIfInBounds_toArray, List.set_cons_zero, List.set_cons_succ]
    refine anyL_take (i := 1) (v := ?vhp12) rfl (by kernel_rfl) (by kernel_rfl) (by kernel_rfl) (by kernel_rfl) (fun _ _ _ h => h) (Or.inl ⟨by rfl, ?hhp12⟩) (unhide HSW _ E0) ?_
    case hhp12 => (intro w hSw; (try dsimp only at hSw); go_simp) <;> with_reducible rfl
    simp only [Act.put, List.getElem_toArray, List.getElem_cons_zero, List.getElem_cons_succ, List.setIfInBounds_toArray, List.set_cons_zero, List.set_cons_succ]
    refine anyL_take (i := 2) (v := ?vhp13) rfl (by kernel_rfl) (by kernel_rfl) (by kernel_rfl) (by kernel_rfl) (fun _ _ _ h => h) (Or.inl ⟨by rfl, ?hhp13⟩) (unhide HSW _ E0) ?_
    case hhp13 => (intro w hSw; (try dsimp only at hSw); go_simp) <;> with_reducible rfl
    simp only [Act.put, List.getElem_toArray, List.getElem_cons_zero, List.getElem_cons_succ, List.setIfInBounds_toArray, List.set_cons_zero, List.set_cons_succ]
    refine anyL_take (i := 3) (v := ?vhp14) rfl (by kernel_rfl) (by kernel_rfl) (by kernel_rfl) (by kernel_rfl) (fun _ _ _ h => h) (Or.inl ⟨by rfl, ?hhp14⟩) (unhide HSW _ E0) ?_
    case hhp14 => (intro w hSw; (try dsimp only at hSw); go_simp) <;> with_reducible rfl
    simp only [Act.put, List.getElem_toArray, List.getElem_cons_zero, List.getElem_cons_succ, List.setIfInBounds_toArray, List.set_cons_zero, List.set_cons_succ]
    refine anyL_take (i := 4) (v := ?vhp15) rfl (by kernel_rfl) (by kernel_rfl) (by kernel_rfl) (by kernel_rfl) (fun _ _ _ h => h) (Or.inl ⟨by rfl, ?hhp15⟩) (unhide HSW _ E0) ?_
    case hhp15 => (intro w hSw; (try dsimp only at hSw); go_simp) <;> with_reducible rfl
    simp only [Act.put, List.getElem_toArray, List.getElem_cons_zero, List.getElem_cons_succ, List.setIfInBounds_toArray, List.set_cons_zero, List.set_cons_succ]
    refine anyL_take (i := 5) (v := ?vhp16) rfl (by kernel_rfl) (by kernel_rfl) (by kernel_rfl) (by kernel_rfl) (fun _ _ _ h => h) (Or.inl ⟨by rfl, ?hhp16⟩) (unhide HSW _ E0) ?_
    case hhp16 => (intro w hSw; (try dsimp only at hSw); go_simp) <;> with_reducible rfl
    simp only [Act.put, List.getElem_toArray, List.getElem_cons_zero, List.getElem_cons_succ, List.setIfInBounds_toArray, List.set_cons_zero, List.set_cons_succ]
    refine anyL_take (i := 6) (v := ?vhp17) rfl (by kernel_rfl) (by kernel_rfl) (by kernel_rfl) (by kernel_rfl) (fun _ _ _ h => h) (Or.inl ⟨by rfl, ?hhp17⟩) (unhide HSW _ E0) ?_
    case hhp17 => (intro w hSw; (try dsimp only at hSw); go_simp) <;> with_reducible rfl
    simp only [Act.put, List.getElem_toArray, List.getElem_cons_zero, List.getElem_cons_succ, List.setIfInBounds_toArray, List.set_cons_zero, List.set_cons_succ]
    refine anyL_ready (rs := [7]) (by kernel_rfl) (by simp) ?_
    refine AllL.cons rfl (fun K hK => ?_) AllL.nil
    obtain ⟨c10, y10, r10, k10, x10, _⟩ := unhide HTm z0
    go_simp
    have E1 := E0.trans (x10.mono E0.size)
    have HO2 := hide (unhide HOf2 (some ⟨z0.heap.size, 0, none⟩) c10 y10 k10.1)
    refine unhide hK _ _ (fun _ => unhide HSW _ E1) ?_
    clear hK K r10 k10
    refine anyL_ready (rs := [8]) (by kernel_rfl) (by simp) ?_
    refine AllL.cons rfl (fun K hK => ?_) AllL.nil
    go_simp
    refine (unhide HO2).mono ?_
    rintro e y11 ⟨rfl, x11⟩
    have E2 := E1.trans (x11.mono E1.size)
    refine unhide hK _ _ (fun _ => unhide HSW _ E2) ?_
    clear hK K HO2
    refine anyL_take (i := 9) (v := ?vhp18) rfl (by kernel_rfl) (by kernel_rfl) (by kernel_rfl) (by kernel_rfl) (fun _ _ _ h => h) (Or.inl ⟨by rfl, ?hhp18⟩) (unhide HSW _ E2) ?_
    case hhp18 => (intro w hSw; (try dsimp only at hSw); go_simp) <;> with_reducible rfl
    simp only [Act.put, List.getElem_toArray, List.getElem_cons_zero, List.getElem_cons_succ, List.setIfInBounds_toArray, List.set_cons_zero, List.set_cons_succ]
    refine anyL_take (i := 10) (v := ?vhp19) rfl (by kernel_rfl) (by kernel_rfl) (by kernel_rfl) (by kernel_rfl) (fun _ _ _ h => h) (Or.inl ⟨by rfl, ?hhp19⟩) (unhide HSW _ E2) ?_
    case hhp19 => (intro w hSw; (try dsimp only at hSw); go_simp) <;> with_reducible rfl
    simp only [Act.put, List.getElem_toArray, List.getElem_cons_zero, List.getElem_cons_succ, List.setIfInBounds_toArray, List.set_cons_zero, List.set_cons_succ]
    refine anyL_take (i := 11) (v := ?vhp20) rfl (by kernel_rfl) (by kernel_rfl) (by kernel_rfl) (by kernel_rfl) (fun _ _ _ h => h) (Or.inl ⟨by rfl, ?hhp20⟩) (unhide HSW _ E2) ?_
    case hhp20 => (intro w hSw; (try dsimp only at hSw); go_simp) <;> with_reducible rfl
    simp only [Act.put, List.getElem_toArray, List.getElem_cons_zero, List.getElem_cons_succ, List.setIfInBounds_toArray, List.set_cons_zero, List.set_cons_succ]
    refine anyL_done (by kernel_rfl) ?_ _
    have HX := hide (D9.trans (E2.mono D9.size))
    clear HSW E0 E1 E2
    go_wp2_with fail
    refine bodyPost_ret (results_tmp rfl _ _ _) rfl ⟨rfl, unhide HX⟩
  · rw [decide_eq_false cs] at HSp
    have HBy := hide (BytesE9_at (.pointer (some ⟨g, 0, none⟩)) lo hi 2 w5 (by decide) (fun X hx => by
      have hs := span9_at g o lo hi X (unhide HH X (D5.trans (hx.mono D5.size)))
      rw [show spanE (txtO o).length lo hi = 2 by unfold spanE; rw [if_pos (by omega)]] at hs
      exact hs))
    by_cases cl : 0 ≤ lo ∧ lo ≤ ((txtO o).length : Int)
    · obtain ⟨m, rfl⟩ : ∃ m : Nat, lo = (m : Int) := ⟨lo.toNat, by omega⟩
      have hml : m ≤ (txtO o).length := by omega
      have HBr := hide fun (X : World) (hx : Below w.heap.size w X) => BeforeR9_at g o m X (unhide HH X hx) hml hm (unhide HW X hx)
      have HOf2 := hide fun (a : Option Addr) (c : Nat) (X : World) (hx : IsB X a c ((txtO o).take m)) => ROf_at a c ((txtO o).take m) X hx (by rw [List.length_take]; omega)
      have HTm := hide fun (X : World) => toBytes X ((txtO o).take m) (fun x hx => unhide HIN x (List.mem_of_mem_take hx)) (by rw [List.length_take]; omega)
      have eA := unhide HSx 0 m
      rw [List.drop_zero, Nat.sub_zero] at eA
      rw [weq9] at HBr HOf2
      generalize (szL ((txtO o).take m)).b = b2 at HBr HOf2
      generalize (szL ((txtO o).take m)).r = r2 at HBr HOf2
      generalize (szL ((txtO o).take m)).u = u2 at HBr HOf2
      generalize (szL ((txtO o).take m)).e = e2 at HBr HOf2
      generalize strOfNums (List.take 3 ((txtO o).take m)) = h2 at HBr HOf2
      generalize strOfNums (tail3 ((txtO o).take m)) = t2 at HBr HOf2
      generalize strOfNums ((txtO o).take m) = Sm at HTm eA
      have hlm : ((txtO o).take m).length = m := by rw [List.length_take]; omega
      rw [hlm] at HOf2 HTm
      generalize (txtO o).take m = Lm at HOf2 HTm
      clear hlm
      generalize hLn : (txtO o).length = ln at *
      have v3 : (m : Int) ≤ (ln : Int) := by omega
      have v4 : ¬ (ln : Int) < (m : Int) := by omega
      clear cs cl
      go_wp2_with fail
      refine (unhide HBy).mono ?_
      rintro y w6 ⟨rfl, x6⟩
      dsimp only
      have D6 := D5.trans (x6.mono D5.size)
      clear HBy x6
      go_wp2_with fail
      refine (unhide HSp w6).mono ?_
      rintro y w7 ⟨rfl, rfl⟩
      dsimp only
      have HBf := hide (unhide HBr w7 D6)
      go_wp2_with fail
      refine (unhide HBf).mono ?_
      rintro y w8 ⟨rfl, x8⟩
      dsimp only
      have D8 := D6.trans (x8.mono D6.size)
      have x9 := (Below.refl w8.heap.size w8).alloc (Nat.le_refl _) (.cells #[.int .i64 b2, .int .i64 r2, .int .i64 u2, .int .i64 e2, .string h2, .string t2] 36)
      have g9 := push_get w8 (.cells #[.int .i64 b2, .int .i64 r2, .int .i64 u2, .int .i64 e2, .string h2, .string t2] 36)
      have D9 := D8.trans (x9.mono D8.size)
      clear HBf x8 HBr
      go_upto_region 10 with fail
      generalize w8.heap.size = gW at *
      generalize w8.alloc (.cells #[.int .i64 b2, .int .i64 r2, .int .i64 u2, .int .i64 e2, .string h2, .string t2] 36) = w9 at *
      obtain ⟨q0, q1, q2, q3, q4, q5, _⟩ := cells6 g9
      have HSW := hide fun (Y : World) (hb : Below w9.heap.size w9 Y) => (show (fun w' : World => w'.cell? ⟨gW, 0, none⟩ = some (.int .i64 b2) ∧ w'.cell? ⟨gW, 1, none⟩ = some (.int .i64 r2) ∧ w'.cell? ⟨gW, 2, none⟩ = some (.int .i64 u2) ∧ w'.cell? ⟨gW, 3, none⟩ = some (.int .i64 e2) ∧ w'.cell? ⟨gW, 4, none⟩ = some (.string h2) ∧ w'.cell? ⟨gW, 5, none⟩ = some (.string t2)) Y from by
        obtain ⟨v0, v1, v2, v3, v4, v5, _⟩ := cells6 (bk9_on g9 hb)
        exact ⟨v0, v1, v2, v3, v4, v5⟩)
      have E0 : Below w9.heap.size w9 w9.drew := (Below.refl _ w9).drew
      clear x9 g9
      go_upto_region 12 with fail
      refine regionL (S := fun w' => w'.cell? ⟨gW, 0, none⟩ = some (.int .i64 b2) ∧ w'.cell? ⟨gW, 1, none⟩ = some (.int .i64 r2) ∧ w'.cell? ⟨gW, 2, none⟩ = some (.int .i64 u2) ∧ w'.cell? ⟨gW, 3, none⟩ = some (.int .i64 e2) ∧ w'.cell? ⟨gW, 4, none⟩ = some (.string h2) ∧ w'.cell? ⟨gW, 5, none⟩ = some (.string t2)) (fun _ => false) (by kernel_rfl) ?_
      generalize w9.drew = z0 at *
      refine anyL_take (i := 0) (v := ?vhp21) rfl (by kernel_rfl) (by kernel_rfl) (by kernel_rfl) (by kernel_rfl) (fun _ _ _ h => h) (Or.inl ⟨by rfl, ?hhp21⟩) (unhide HSW _ E0) ?_
      case hhp21 => (intro w hSw; (try dsimp only at hSw); go_simp) <;> with_reducible rfl
      simp only [Act.put, List.getElem_toArray, List.getElem_cons_zero, List.setIfInBounds_toArray, List.set_cons_zero, List.set_cons_succ]
      refine anyL_take (i := 1) (v := ?vhp22) rfl (by kernel_rfl) (by kernel_rfl) (by kernel_rfl) (by kernel_rfl) (fun _ _ _ h => h) (Or.inl ⟨by rfl, ?hhp22⟩) (unhide HSW _ E0) ?_
      case hhp22 => (intro w hSw; (try dsimp only at hSw); go_simp) <;> with_reducible rfl
      simp only [Act.put, List.getElem_toArray, List.getElem_cons_zero, List.getElem_cons_succ, List.setIfInBounds_toArray, List.set_cons_zero, List.set_cons_succ]
      refine anyL_take (i := 2) (v := ?vhp23) rfl (by kernel_rfl) (by kernel_rfl) (by kernel_rfl) (by kernel_rfl) (fun _ _ _ h => h) (Or.inl ⟨by rfl, ?hhp23⟩) (unhide HSW _ E0) ?_
      case hhp23 => (intro w hSw; (try dsimp only at hSw); go_simp) <;> with_reducible rfl
      simp only [Act.put, List.getElem_toArray, List.getElem_cons_zero, List.getElem_cons_succ, List.setIfInBounds_toArray, List.set_cons_zero, List.set_cons_succ]
      refine anyL_take (i := 3) (v := ?vhp24) rfl (by kernel_rfl) (by kernel_rfl) (by kernel_rfl) (by kernel_rfl) (fun _ _ _ h => h) (Or.inl ⟨by rfl, ?hhp24⟩) (unhide HSW _ E0) ?_
      case hhp24 => (intro w hSw; (try dsimp only at hSw); go_simp) <;> with_reducible rfl
      simp only [Act.put, List.getElem_toArray, List.getElem_cons_zero, List.getElem_cons_succ, List.setIfInBounds_toArray, List.set_cons_zero, List.set_cons_succ]
      refine anyL_take (i := 4) (v := ?vhp25) rfl (by kernel_rfl) (by kernel_rfl) (by kernel_rfl) (by kernel_rfl) (fun _ _ _ h => h) (Or.inl ⟨by rfl, ?hhp25⟩) (unhide HSW _ E0) ?_
      case hhp25 => (intro w hSw; (try dsimp only at hSw); go_simp) <;> with_reducible rfl
      simp only [Act.put, List.getElem_toArray, List.getElem_cons_zero, List.getElem_cons_succ, List.setIfInBounds_toArray, List.set_cons_zero, List.set_cons_succ]
      refine anyL_take (i := 5) (v := ?vhp26) rfl (by kernel_rfl) (by kernel_rfl) (by kernel_rfl) (by kernel_rfl) (fun _ _ _ h => h) (Or.inl ⟨by rfl, ?hhp26⟩) (unhide HSW _ E0) ?_
      case hhp26 => (intro w hSw; (try dsimp only at hSw); go_simp) <;> with_reducible rfl
      simp only [Act.put, List.getElem_toArray, List.getElem_cons_zero, List.getElem_cons_succ, List.setIfInBounds_toArray, List.set_cons_zero, List.set_cons_succ]
      refine anyL_take (i := 6) (v := ?vhp27) rfl (by kernel_rfl) (by kernel_rfl) (by kernel_rfl) (by kernel_rfl) (fun _ _ _ h => h) (Or.inl ⟨by rfl, ?hhp27⟩) (unhide HSW _ E0) ?_
      case hhp27 => (intro w hSw; (try dsimp only at hSw); go_simp) <;> with_reducible rfl
      simp only [Act.put, List.getElem_toArray, List.getElem_cons_zero, List.getElem_cons_succ, List.setIfInBounds_toArray, List.set_cons_zero, List.set_cons_succ]
      refine anyL_ready (rs := [7]) (by kernel_rfl) (by simp) ?_
      refine AllL.cons rfl (fun K hK => ?_) AllL.nil
      obtain ⟨c10, y10, r10, k10, x10, _⟩ := unhide HTm z0
      go_simp
      have E1 := E0.trans (x10.mono E0.size)
      have HO2 := hide (unhide HOf2 (some ⟨z0.heap.size, 0, none⟩) c10 y10 k10.1)
      refine unhide hK _ _ (fun _ => unhide HSW _ E1) ?_
      clear hK K r10 k10
      refine anyL_ready (rs := [8]) (by kernel_rfl) (by simp) ?_
      refine AllL.cons rfl (fun K hK => ?_) AllL.nil
      go_simp
      refine (unhide HO2).mono ?_
      rintro e y11 ⟨rfl, x11⟩
      have E2 := E1.trans (x11.mono E1.size)
      refine unhide hK _ _ (fun _ => unhide HSW _ E2) ?_
      clear hK K HO2
      refine anyL_take (i := 9) (v := ?vhp28) rfl (by kernel_rfl) (by kernel_rfl) (by kernel_rfl) (by kernel_rfl) (fun _ _ _ h => h) (Or.inl ⟨by rfl, ?hhp28⟩) (unhide HSW _ E2) ?_
      case hhp28 => (intro w hSw; (try dsimp only at hSw); go_simp) <;> with_reducible rfl
      simp only [Act.put, List.getElem_toArray, List.getElem_cons_zero, List.getElem_cons_succ, List.setIfInBounds_toArray, List.set_cons_zero, List.set_cons_succ]
      refine anyL_take (i := 10) (v := ?vhp29) rfl (by kernel_rfl) (by kernel_rfl) (by kernel_rfl) (by kernel_rfl) (fun _ _ _ h => h) (Or.inl ⟨by rfl, ?hhp29⟩) (unhide HSW _ E2) ?_
      case hhp29 => (intro w hSw; (try dsimp only at hSw); go_simp) <;> with_reducible rfl
      simp only [Act.put, List.getElem_toArray, List.getElem_cons_zero, List.getElem_cons_succ, List.setIfInBounds_toArray, List.set_cons_zero, List.set_cons_succ]
      refine anyL_take (i := 11) (v := ?vhp30) rfl (by kernel_rfl) (by kernel_rfl) (by kernel_rfl) (by kernel_rfl) (fun _ _ _ h => h) (Or.inl ⟨by rfl, ?hhp30⟩) (unhide HSW _ E2) ?_
      case hhp30 => (intro w hSw; (try dsimp only at hSw); go_simp) <;> with_reducible rfl
      simp only [Act.put, List.getElem_toArray, List.getElem_cons_zero, List.getElem_cons_succ, List.setIfInBounds_toArray, List.set_cons_zero, List.set_cons_succ]
      refine anyL_done (by kernel_rfl) ?_ _
      have HX := hide (D9.trans (E2.mono D9.size))
      clear HSW E0 E1 E2
      go_wp2_with fail
      refine bodyPost_ret (results_tmp rfl _ _ _) rfl ⟨rfl, unhide HX⟩
    · have HBf : Hid (∀ X, Below w.heap.size w X → Calls Tryz.prog 20 #[.pointer (some ⟨g, 0, none⟩), .int .i64 lo] X fun y w' => y = .returned (.tuple #[weV zeroWe, .int .i64 2]) ∧ Below X.heap.size X w') := hide fun X hx => BeforeE9_at (.pointer (some ⟨g, 0, none⟩)) 2 lo X (by decide) (fun Y hy => by
        have hs := span9_at g o 0 lo Y (unhide HH Y (hx.trans (hy.mono hx.size)))
        rw [show spanE (txtO o).length 0 lo = 2 by unfold spanE; rw [if_pos (by omega)]] at hs
        exact hs)
      generalize hLn : (txtO o).length = ln at *
      have hz : weV zeroWe = .agg #[.int .i64 0, .int .i64 0, .int .i64 0, .int .i64 0, .string ⟨#[]⟩, .string ⟨#[]⟩] := rfl
      rw [hz] at HBf
      go_wp2_with fail
      refine (unhide HBy).mono ?_
      rintro y w6 ⟨rfl, x6⟩
      dsimp only
      have D6 := D5.trans (x6.mono D5.size)
      clear HBy x6
      go_wp2_with fail
      refine (unhide HSp w6).mono ?_
      rintro y w7 ⟨rfl, rfl⟩
      dsimp only
      go_wp2_with fail
      refine (unhide HBf w7 D6).mono ?_
      rintro y w8 ⟨rfl, x8⟩
      dsimp only
      have D8 := D6.trans (x8.mono D6.size)
      have x9 := (Below.refl w8.heap.size w8).alloc (Nat.le_refl _) (.cells #[.int .i64 0, .int .i64 0, .int .i64 0, .int .i64 0, .string ⟨#[]⟩, .string ⟨#[]⟩] 36)
      have g9 := push_get w8 (.cells #[.int .i64 0, .int .i64 0, .int .i64 0, .int .i64 0, .string ⟨#[]⟩, .string ⟨#[]⟩] 36)
      have HX := hide (D8.trans (x9.mono D8.size))
      clear HBf x8 x9 D6 D8
      go_upto_region 10 with fail
      generalize w8.heap.size = gW at *
      generalize w8.alloc (.cells #[.int .i64 0, .int .i64 0, .int .i64 0, .int .i64 0, .string ⟨#[]⟩, .string ⟨#[]⟩] 36) = w9 at *
      obtain ⟨q0, q1, q2, q3, q4, q5, _⟩ := cells6 g9
      by_cases c1 : lo < 0
      · go_wp2_with fail
        refine bodyPost_ret (results_tmp rfl _ _ _) rfl ⟨rfl, unhide HX⟩
      · have v5 : (ln : Int) < lo := by omega
        go_wp2_with fail
        refine bodyPost_ret (results_tmp rfl _ _ _) rfl ⟨rfl, unhide HX⟩

end Go.Proofs.YtpfjfgggacpdfaaGreatDoor
end

section
namespace Go.Proofs.YtpfjfgggacpdfaaGreatDoor
open Go.ChangeShapes Go.WideShapes Go.ChangeAt Go.RowKit
attribute [local go_sem] Oper.semAt_some

set_option maxRecDepth 100000 in
set_option maxHeartbeats 8000000 in
theorem RopeScripts_any (a0 : Option Addr) (cap : Nat) (cs : List Ac) (lo hi : Int) (w : World) (hA : IsAc w a0 cs) (hn : cs.length ≤ 2199023255488) (_hk : (Lit.int .i64 lo).wf = true) (_ha : (Lit.int .i64 hi).wf = true) (hW : Wt w) :
    Calls Tryz.prog 3 #[.slice a0 cs.length cap, .int .i64 lo, .int .i64 hi] w fun e w' => e = .returned (.bool true) ∧ Below w.heap.size w w' := by
  clear _hk _ha
  have HW := hide fun (X : World) (hx : Below w.heap.size w X) => hW.below hx
  have HA := hide fun (X : World) (hx : Below w.heap.size w X) => hA.on hx
  have HWk := hide (wakes9_at w hW)
  clear hW hA
  go_enter Tryz.func3, Tryz.ntmps3
  go_wp2_with fail
  refine (unhide HWk).mono ?_
  rintro y w1 ⟨rfl, x1⟩
  dsimp only
  have HPl := hide (play9_at a0 cap cs w1 (unhide HA w1 x1) (by omega) (unhide HW w1 x1))
  clear HWk
  go_wp2_with fail
  refine (unhide HPl).mono ?_
  rintro y w2 ⟨gB, gs, os, vr, vt, rfl, h2, c2, hs2, hgl, _, x2⟩
  dsimp only
  have h3 := h2.copy c2
  have hrf : (∃ a k c, vr = .slice a k c) ∧ ∃ a k c, vt = .slice a k c := by
    obtain ⟨vr', vt', d1, d2, d3⟩ := h2.c
    have e := c2.symm.trans d1
    cases e
    obtain ⟨a1, c1, e1⟩ := row_len9 d2
    obtain ⟨a3, c3, e3⟩ := row_len9 d3
    exact ⟨⟨a1, _, c1, e1⟩, ⟨a3, _, c3, e3⟩⟩
  obtain ⟨⟨ra, rl, rc, rfl⟩, ta, tl, tc, rfl⟩ := hrf
  have x3 := (Below.refl w2.heap.size w2).alloc (Nat.le_refl _) (.cells #[.slice ra rl rc, .slice ta tl tc] 27)
  have D2 := x1.trans (x2.mono x1.size)
  have D3 := D2.trans (x3.mono D2.size)
  clear HPl h2 c2 x1 x2 x3 D2
  go_upto_region 6 with fail
  generalize hw3 : w2.alloc (.cells #[.slice ra rl rc, .slice ta tl tc] 27) = w3 at *
  generalize w2.heap.size = gT at *
  clear hw3
  have i0 : SaI w gT gs os w3 := ⟨h3.low, hs2, D3⟩
  obtain ⟨vr', vt', d1, d2, d3⟩ := h3.c
  obtain ⟨ra', rc', rfl⟩ := row_len9 d2
  obtain ⟨p0, _, _⟩ := cells2 d1
  clear d1 d2 d3 h3 D3
  go_wp2_with fail
  clear p0
  go_loopw [9, 22] (fun v9 v22 wx => (∃ z, v9 = z) ∧ ∃ i : Nat, v22 = .int .i64 (i : Int) ∧ i ≤ gs.length ∧ Hid (SaI w gT gs os wx)) (fun _ v22 _ => gs.length - (intOf v22).toNat)
  case atStart => exact ⟨⟨_, rfl⟩, 0, rfl, Nat.zero_le _, hide i0⟩
  case round =>
    clear i0
    obtain ⟨⟨z9, rfl⟩, i, rfl, hil, HI⟩ := hrel
    by_cases c : i < gs.length
    · have t1 : (i : Int) < (gs.length : Int) := by omega
      have hI := unhide HI
      obtain ⟨gr, rc, gt, tc, p0, p1, pc⟩ := hI.k.rows (by omega)
      obtain ⟨ci, cti⟩ := pc i c
      have hri := hI.k.r i c
      have hsi := hI.s i c
      generalize gs.getD i 0 = gi at *
      generalize os.getD i none = oi at *
      have HHo := hide fun (Y : World) (hb : Below wr.heap.size wr Y) => holds9_at gi oi lo hi Y (hri.1.on hb) hsi (unhide HW Y (hI.b.trans (hb.mono hI.b.size)))
      generalize strOfNums (txtO oi) = Si at *
      have HSW := hide fun (Y : World) (hb : Below wr.heap.size wr Y) => (show (fun w' : World => w'.cell? ⟨gT, 0, none⟩ = some (.slice (some ⟨gr, 0, none⟩) gs.length rc) ∧ w'.cell? ⟨gT, 1, none⟩ = some (.slice (some ⟨gt, 0, none⟩) gs.length tc) ∧ w'.cell? ⟨gr, i, none⟩ = some (.pointer (some ⟨gi, 0, none⟩)) ∧ w'.cell? ⟨gt, i, none⟩ = some (.string Si)) Y from ⟨(hb.cell (p := ⟨gT, 0, none⟩) (lt_cell p0)).trans p0, (hb.cell (p := ⟨gT, 1, none⟩) (lt_cell p1)).trans p1, (hb.cell (p := ⟨gr, i, none⟩) (lt_cell ci)).trans ci, (hb.cell (p := ⟨gt, i, none⟩) (lt_cell cti)).trans cti⟩)
      have HIL : Hid (∀ Y, Below wr.heap.size wr Y → SaI w gT gs os Y) := hide fun Y hb => ⟨hI.k.on hb, hI.s, hI.b.trans (hb.mono hI.b.size)⟩
      have D0 : Below wr.heap.size wr wr.drew := (Below.refl _ wr).drew
      have hiw : IntKind.i64.wrap ((i : Int) + 1) = (i : Int) + 1 := by rw [IntKind.wrap_i64]; omega
      clear pc hri hI HI hsi ci p0 p1 cti
      generalize hnn : gs.length = n at *
      go_upto_region 9 with fail
      refine regionL (S := fun w' => w'.cell? ⟨gT, 0, none⟩ = some (.slice (some ⟨gr, 0, none⟩) n rc) ∧ w'.cell? ⟨gT, 1, none⟩ = some (.slice (some ⟨gt, 0, none⟩) n tc) ∧ w'.cell? ⟨gr, i, none⟩ = some (.pointer (some ⟨gi, 0, none⟩)) ∧ w'.cell? ⟨gt, i, none⟩ = some (.string Si)) (fun _ => false) (by kernel_rfl) ?_
      generalize wr.drew = y0 at *
      refine anyL_take (i := 0) (v := ?vsw0) rfl (by kernel_rfl) (by kernel_rfl) (by kernel_rfl) (by kernel_rfl) (fun _ _ _ h => h) (Or.inl ⟨by rfl, ?hsw0⟩) (unhide HSW _ D0) ?_
      case hsw0 => (intro w hSw; (try dsimp only at hSw); go_simp) <;> with_reducible rfl
      simp only [Act.put, List.getElem_toArray, List.getElem_cons_zero, List.setIfInBounds_toArray, List.set_cons_zero, List.set_cons_succ]
      refine anyL_take (i := 1) (v := ?vsw1) rfl (by kernel_rfl) (by kernel_rfl) (by kernel_rfl) (by kernel_rfl) (fun _ _ _ h => h) (Or.inl ⟨by rfl, ?hsw1⟩) (unhide HSW _ D0) ?_
      case hsw1 => (intro w hSw; (try dsimp only at hSw); go_simp) <;> with_reducible rfl
      simp only [Act.put, List.getElem_toArray, List.getElem_cons_zero, List.getElem_cons_succ, List.setIfInBounds_toArray, List.set_cons_zero, List.set_cons_succ]
      refine anyL_take (i := 2) (v := ?vsw2) rfl (by kernel_rfl) (by kernel_rfl) (by kernel_rfl) (by kernel_rfl) (fun _ _ _ h => h) (Or.inl ⟨by rfl, ?hsw2⟩) (unhide HSW _ D0) ?_
      case hsw2 => (intro w hSw; (try dsimp only at hSw); go_simp) <;> with_reducible rfl
      simp only [Act.put, List.getElem_toArray, List.getElem_cons_zero, List.getElem_cons_succ, List.setIfInBounds_toArray, List.set_cons_zero, List.set_cons_succ]
      refine anyL_take (i := 3) (v := ?vsw3) rfl (by kernel_rfl) (by kernel_rfl) (by kernel_rfl) (by kernel_rfl) (fun _ _ _ h => h) (Or.inl ⟨by rfl, ?hsw3⟩) (unhide HSW _ D0) ?_
      case hsw3 => (intro w hSw; (try dsimp only at hSw); go_simp) <;> with_reducible rfl
      simp only [Act.put, List.getElem_toArray, List.getElem_cons_zero, List.getElem_cons_succ, List.setIfInBounds_toArray, List.set_cons_zero, List.set_cons_succ]
      refine anyL_take (i := 4) (v := ?vsw4) rfl (by kernel_rfl) (by kernel_rfl) (by kernel_rfl) (by kernel_rfl) (fun _ _ _ h => h) (Or.inl ⟨by rfl, ?hsw4⟩) (unhide HSW _ D0) ?_
      case hsw4 => (intro w hSw; (try dsimp only at hSw); go_simp) <;> with_reducible rfl
      simp only [Act.put, List.getElem_toArray, List.getElem_cons_zero, List.getElem_cons_succ, List.setIfInBounds_toArray, List.set_cons_zero, List.set_cons_succ]
      refine anyL_take (i := 5) (v := ?vsw5) rfl (by kernel_rfl) (by kernel_rfl) (by kernel_rfl) (by kernel_rfl) (fun _ _ _ h => h) (Or.inl ⟨by rfl, ?hsw5⟩) (unhide HSW _ D0) ?_
      case hsw5 => (intro w hSw; (try dsimp only at hSw); go_simp) <;> with_reducible rfl
      simp only [Act.put, List.getElem_toArray, List.getElem_cons_zero, List.getElem_cons_succ, List.setIfInBounds_toArray, List.set_cons_zero, List.set_cons_succ]
      refine anyL_take (i := 6) (v := ?vsw6) rfl (by kernel_rfl) (by kernel_rfl) (by kernel_rfl) (by kernel_rfl) (fun _ _ _ h => h) (Or.inl ⟨by rfl, ?hsw6⟩) (unhide HSW _ D0) ?_
      case hsw6 => (intro w hSw; (try dsimp only at hSw); go_simp) <;> with_reducible rfl
      simp only [Act.put, List.getElem_toArray, List.getElem_cons_zero, List.getElem_cons_succ, List.setIfInBounds_toArray, List.set_cons_zero, List.set_cons_succ]
      refine anyL_take (i := 7) (v := ?vsw7) rfl (by kernel_rfl) (by kernel_rfl) (by kernel_rfl) (by kernel_rfl) (fun _ _ _ h => h) (Or.inl ⟨by rfl, ?hsw7⟩) (unhide HSW _ D0) ?_
      case hsw7 => (intro w hSw; (try dsimp only at hSw); go_simp) <;> with_reducible rfl
      simp only [Act.put, List.getElem_toArray, List.getElem_cons_zero, List.getElem_cons_succ, List.setIfInBounds_toArray, List.set_cons_zero, List.set_cons_succ]
      refine anyL_take (i := 8) (v := ?vsw8) rfl (by kernel_rfl) (by kernel_rfl) (by kernel_rfl) (by kernel_rfl) (fun _ _ _ h => h) (Or.inl ⟨by rfl, ?hsw8⟩) (unhide HSW _ D0) ?_
      case hsw8 => (intro w hSw; (try dsimp only at hSw); go_simp) <;> with_reducible rfl
      simp only [Act.put, List.getElem_toArray, List.getElem_cons_zero, List.getElem_cons_succ, List.setIfInBounds_toArray, List.set_cons_zero, List.set_cons_succ]
      refine anyL_take (i := 9) (v := ?vsw9) rfl (by kernel_rfl) (by kernel_rfl) (by kernel_rfl) (by kernel_rfl) (fun _ _ _ h => h) (Or.inl ⟨by rfl, ?hsw9⟩) (unhide HSW _ D0) ?_
      case hsw9 => (intro w hSw; (try dsimp only at hSw); go_simp) <;> with_reducible rfl
      simp only [Act.put, List.getElem_toArray, List.getElem_cons_zero, List.getElem_cons_succ, List.setIfInBounds_toArray, List.set_cons_zero, List.set_cons_succ]
      refine anyL_take (i := 10) (v := ?vsw10) rfl (by kernel_rfl) (by kernel_rfl) (by kernel_rfl) (by kernel_rfl) (fun _ _ _ h => h) (Or.inl ⟨by rfl, ?hsw10⟩) (unhide HSW _ D0) ?_
      case hsw10 => (intro w hSw; (try dsimp only at hSw); go_simp) <;> with_reducible rfl
      simp only [Act.put, List.getElem_toArray, List.getElem_cons_zero, List.getElem_cons_succ, List.setIfInBounds_toArray, List.set_cons_zero, List.set_cons_succ]
      refine anyL_take (i := 11) (v := ?vsw11) rfl (by kernel_rfl) (by kernel_rfl) (by kernel_rfl) (by kernel_rfl) (fun _ _ _ h => h) (Or.inl ⟨by rfl, ?hsw11⟩) (unhide HSW _ D0) ?_
      case hsw11 => (intro w hSw; (try dsimp only at hSw); go_simp) <;> with_reducible rfl
      simp only [Act.put, List.getElem_toArray, List.getElem_cons_zero, List.getElem_cons_succ, List.setIfInBounds_toArray, List.set_cons_zero, List.set_cons_succ]
      refine anyL_ready (rs := [12]) (by kernel_rfl) (by simp) ?_
      refine AllL.cons rfl (fun K hK => ?_) AllL.nil
      go_simp
      refine (unhide HHo _ D0).mono ?_
      rintro e y1 ⟨rfl, x1⟩
      have D1 := D0.trans (x1.mono D0.size)
      refine unhide hK _ _ (fun _ => unhide HSW _ D1) ?_
      clear hK K x1
      refine anyL_take (i := 13) (v := ?vsw12) rfl (by kernel_rfl) (by kernel_rfl) (by kernel_rfl) (by kernel_rfl) (fun _ _ _ h => h) (Or.inl ⟨by rfl, ?hsw12⟩) (unhide HSW _ D1) ?_
      case hsw12 => (intro w hSw; (try dsimp only at hSw); go_simp) <;> with_reducible rfl
      simp only [Act.put, List.getElem_toArray, List.getElem_cons_zero, List.getElem_cons_succ, List.setIfInBounds_toArray, List.set_cons_zero, List.set_cons_succ]
      refine anyL_done (by kernel_rfl) ?_ _
      have HI2 := hide (unhide HIL _ D1)
      clear HSW HIL HHo D0 D1
      subst hnn
      go_wp2_with fail
      go_roundw
      case rel => exact ⟨⟨_, rfl⟩, i + 1, by go_num, by omega, HI2⟩
      case measure =>
        show gs.length - ((i : Int) + 1).toNat < gs.length - (i : Int).toNat
        omega
    · have t1 : ¬ (i : Int) < (gs.length : Int) := by omega
      have HB := hide (unhide HI).b
      go_wp2_with fail
      refine bodyPost_ret (results_tmp rfl _ _ _) rfl ⟨rfl, unhide HB⟩

end Go.Proofs.YtpfjfgggacpdfaaGreatDoor
end

section
namespace Go.Proofs.YtpfjfgggacpdfaaGreatDoor
open Go.ChangeShapes Go.WideShapes Go.ChangeAt Go.RowKit
open Go.ChangeMaps (open_string shut_string)

set_option maxRecDepth 100000 in
theorem ropeScripts_contract (H : Type) (enc : TypeId × Value → H) (W : World) (base : Nat) (args : Array Value) (ds gs : List (DataW H)) (before : List MemPlace)
    (hval : ∀ (j : Nat) t v, Tryz.f3.params[j]? = some t → args[j]? = some v → Value.okWide Tryz.prog W .any base t v)
    (hW : DataW.Whole enc Tryz.prog Tryz.f3.params.toList Rows.ropeScriptsSpec.vars false W args.toList ds gs before) (hsz : (DataW.weightsEach Tryz.prog (Tryz.f3.params.toList ++ (OpenSpec.ofChange Rows.ropeScriptsSpec).bare.plain.varTypes Tryz.prog) (ds ++ gs)).all (· ≤ reachBytes) = true) (hL : laidMetH Tryz.prog Rows.ropeScriptsRow.laid W) (hsh : W.ShapedOpen Tryz.prog) :
    Calls Tryz.prog 3 args W fun e W' => ∃ v, e = .returned v ∧ Rows.ropeScriptsSpec.post enc Tryz.prog Tryz.f3 false true false false W args v W' := by
  have hW' := hW
  obtain ⟨p, q, hA0, hV, rfl, _, _⟩ := hW
  have hA : DataW.TrodAll enc Tryz.prog W 0 (fun _ => true) true Tryz.f3.params.toList args.toList ds p := hA0
  rw [Tryz.params3] at hA hval hsz
  obtain ⟨v0, vs0, d0, ds0, p0, q0, hargs, rfl, rfl, h0, r0⟩ := trodAll_cons hA
  obtain ⟨v1, vs1, d1, ds1, p1, q1, rfl, rfl, rfl, h1, r1⟩ := trodAll_cons r0
  obtain ⟨v2, vs2, d2, ds2, p2, q2, rfl, rfl, rfl, h2, r2⟩ := trodAll_cons r1
  obtain ⟨rfl, rfl, rfl⟩ := trodAll_nil r2
  obtain rfl : args = #[v0, v1, v2] := by cases args; simp_all
  obtain ⟨rfl, rfl⟩ := trodVars_none hV
  obtain ⟨a0, len0, cap0, rfl⟩ := okWide_slice Tryz.underlying22 (hval 0 22 v0 rfl rfl)
  have k0 := h0
  have lt0 : ∀ x ∈ p0, x.block < W.heap.size := by obtain ⟨m, hm⟩ := k0; exact DataW.trod_lt m _ _ _ hm
  obtain ⟨l0, rfl, w0, u0⟩ := acts1_of_trod h0 hsz (j := 0) rfl rfl
  obtain ⟨x1, rfl, rfl, rfl, w1⟩ := open_int Tryz.underlying3 (hval 1 3 v1 rfl rfl) h1
  obtain ⟨x2, rfl, rfl, rfl, w2⟩ := open_int Tryz.underlying3 (hval 2 3 v2 rfl rfl) h2
  clear hA0
  refine (RopeScripts_any a0 cap0 l0 x1 x2 W w0 u0 w1 w2 (wt_of hL hsh)).mono fun e W' ⟨he, bel⟩ => ?_
  subst he
  exact ⟨_, rfl, _, _, _, [], _, [], hW', trodAll_mk1 (shut_bool Tryz.underlying4 _), (trodAll_cons_mk (Below.trod laidOut (by kernel_rfl) (of_decide_eq_true (by kernel_rfl)) k0 bel lt0) (trodAll_cons_mk (shut_int Tryz.underlying3 w1) (trodAll_cons_mk (shut_int Tryz.underlying3 w2) trodAll_mk0))), rfl, bel.frame _, fun h => by cases h⟩

theorem ropeScripts_met (os : Os) : laidMet Tryz.prog Rows.ropeScriptsRow.laid ((laidWorldW os).forCall (fun _ _ => 0) ⟨#[], #[.slice none 0 0, .int .i64 0, .int .i64 0], []⟩).memory :=
  laidMet_of_run' 8 (by kernel_rfl) (by kernel_rfl)
theorem ropeScripts_reads (os : Os) {H : Type} (enc : TypeId × Value → H) : ∃ places, DataW.whole enc Tryz.prog ((laidWorldW os).forCall (fun _ _ => 0) ⟨#[], #[.slice none 0 0, .int .i64 0, .int .i64 0], []⟩).memory Tryz.f3.params.toList Rows.ropeScriptsSpec.vars false (#[.slice none 0 0, .int .i64 0, .int .i64 0] : Array Value).toList 8 = some ([.nil, .lit (.int .i64 0), .lit (.int .i64 0)], [], places) :=
  ⟨[], by kernel_rfl⟩

set_option maxRecDepth 100000 in
theorem ropeScripts_lifted (os : Os) (started : os.Started) (H : Type) (enc : TypeId × Value → H) (F : Stop.Interp) :
    ReturnsInHanded {} Tryz.checked os 3 .any ((OpenSpec.ofChange Rows.ropeScriptsSpec).preRow enc Tryz.prog Tryz.f3 Rows.ropeScriptsRow.domain false Rows.ropeScriptsRow.laid) (((OpenSpec.ofChange Rows.ropeScriptsSpec).at F).post enc Tryz.prog Tryz.f3 false true false false) := by
  obtain ⟨places, hx⟩ := ropeScripts_reads os enc
  refine returnsInHanded_of_row (C := Tryz.checked) (s := OpenSpec.ofChange Rows.ropeScriptsSpec) own started (by kernel_rfl) Tryz.func3
    (witness_row_at (enc := enc) (C := Tryz.checked) false (laidWorldW os) #[.slice none 0 0, .int .i64 0, .int .i64 0] rfl (by kernel_rfl) (by kernel_rfl) (by kernel_rfl)
      (OpenSpec.preRow_of_cond 8 hx (by kernel_rfl) (fun k hk => by cases hk) (by kernel_rfl) (ropeScripts_met os))) ?_
  intro W base args ds gs before hval hW _ _ hsz hL hsh _
  exact ropeScripts_contract H enc W base args ds gs before hval hW hsz hL hsh

theorem ropeScripts_said : Rows.RopeScriptsSaid :=
  OpenClaim.holds_of_cond 3 Tryz.f3 rfl rfl rfl rfl rfl rfl rfl ⟨rfl, rfl, rfl, rfl, rfl⟩ rfl rfl rfl rfl rfl (by kernel_rfl) Tryz.func3 (by kernel_rfl)
    (of_decide_eq_true (by kernel_rfl)) (by unfold Func.isWrapper; first | (rw [if_pos (by decide +kernel)]; kernel_rfl) | (rw [if_neg (by decide +kernel)]; exact ⟨rfl, rfl⟩))
    (fun os started H enc _ F => by rw [OpenClaim.pre_eq_preRow]; exact ropeScripts_lifted os started H enc F)

theorem ropeScripts_plain (f : FuncId) (fn : Func) (hf : Tryz.pinned.checked.prog.funcNamed "galley/galleylaw09.RopeScripts" = some f) (hfn : Tryz.pinned.checked.prog.funcs[f]? = some fn) :
    true = Tryz.pinned.checked.prog.looks [] ∧ ∀ (j : Nat) t, fn.params[j]? = some t → Tryz.pinned.checked.prog.wantsStandIn t = false := by
  obtain rfl : f = 3 := Option.some.inj ((show Tryz.prog.funcNamed "galley/galleylaw09.RopeScripts" = some 3 by kernel_rfl).symm.trans hf) |>.symm
  obtain rfl : fn = Tryz.f3 := (Option.some.inj (Tryz.func3.symm.trans hfn)).symm
  refine ⟨by kernel_rfl, fun j t ht => ?_⟩
  rw [Tryz.params3] at ht
  have hm := Array.mem_of_getElem? ht
  simp only [List.mem_toArray, List.mem_cons, List.not_mem_nil, or_false] at hm
  rcases hm with rfl | rfl | rfl
  · exact (show Tryz.prog.wantsStandIn 22 = false by kernel_rfl)
  · exact (show Tryz.prog.wantsStandIn 3 = false by kernel_rfl)
  · exact (show Tryz.prog.wantsStandIn 3 = false by kernel_rfl)

/-- the card -/
theorem ropeScripts_card : Rows.RopeScriptsCardSaid :=
  Claim7.holds_tied_plain_at .later [] _ _ _ _ ropeScripts_said (fun _ h => by cases h) (by kernel_rfl) (fun _ h => by cases h) ropeScripts_row_tie rfl ⟨rfl, rfl⟩ (by kernel_rfl) rfl ropeScripts_plain (by kernel_rfl)

#print axioms ropeScripts_card
end Go.Proofs.YtpfjfgggacpdfaaGreatDoor
end
