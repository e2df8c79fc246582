/- DiffOwn's walk (written by wip/tools/dhc.py). · What the list of package-level variables gives: the table of classes holds its numbers; and a world for the witness. · DiffOwn: for every input the law returns true and every argument reads afterwards as it read before; conditions: the table of classes holds at the call what the program's text lays (the card ties it to that text). -/
import Derived.Test.YtkdnanlgkedjgabDoorDn48
import Derived.Test.YtkdnanlgkedjgabDoorCards
import Derived.Test.YtkdnanlgkedjgabDoorTie
import Derived.Test.YtkdnanlgkedjgabDoorDn02
import Derived.SizedLaws
import Derived.Deep.DeepHandedRow
import Derived.Lib.LaidTab
import Derived.Below
import Derived.ChangeOld
import Derived.ShutString

section
namespace Go.Proofs.YtkdnanlgkedjgabDoor
open Go.ChangeShapes Go.WideShapes Go.ChangeAt Go.RowKit
attribute [local go_sem] Oper.semAt_some

set_option maxRecDepth 100000 in
set_option maxHeartbeats 16000000 in
theorem DiffOwn_any (a0 : Option Addr) (c0 : Nat) (l : List Int) (b0 : Option Addr) (d0 : Nat) (m : List Int) (w : World) (hA : IsB w a0 c0 l) (hB : IsB w b0 d0 m) (hT : Tab w) :
    Calls Tryd.prog 4 #[.slice a0 l.length c0, .slice b0 m.length d0] w fun e w' => e = .returned (.bool true) ∧ Below w.heap.size w w' := by
  have HW := hide (wakes19_at w hT)
  have HA := hide hA
  have HB := hide hB
  have HT := hide hT
  have hbl : ByL l := hA.2.2.2
  have hbm : ByL m := hB.2.2.2
  have HLO1 := hide fun (X : World) => long19_at a0 l.length c0 b0 m.length d0 X
  clear hA hB hT
  go_enter Tryd.func4, Tryd.ntmps4
  go_wp2_with fail
  refine (unhide HW).mono ?_
  rintro e w1 ⟨rfl, hb1⟩
  dsimp only
  have H1 := hide hb1
  clear HW hb1
  go_wp2_with fail
  refine (unhide HLO1 w1).mono ?_
  rintro e w2 ⟨rfl, rfl⟩
  dsimp only
  by_cases hl1 : 700 < l.length ∨ 700 < m.length
  · rw [decide_eq_true hl1]
    go_wp2_with fail
    exact bodyPost_ret (results_tmp rfl _ _ _) rfl ⟨rfl, unhide H1⟩
  rw [decide_eq_false hl1]
  have hsz : l.length ≤ 700 ∧ m.length ≤ 700 := by omega
  have HCS : (cutS l).length ≤ 2049 ∧ (cutS m).length ≤ 2049 := ⟨cut_small (by omega), cut_small (by omega)⟩
  have HCN : (cutN l).length ≤ 2049 ∧ (cutN m).length ≤ 2049 := ⟨Nat.le_trans (cutN_ok l).len (by omega), Nat.le_trans (cutN_ok m).len (by omega)⟩
  have HLE := hide fun (a : Option Addr) (c : Nat) (b : Option Addr) (d : Nat) (X : World) (h1 : IsB X a c l) (h2 : IsB X b d m) (hx : Below w.heap.size w X) => (Least_at a c l b d m X h1 h2 ((unhide HT).below hx (unhide HT).size) (by omega) (by omega)).mono (R' := fun y X' => ∃ v, y = .returned (.tuple #[v, .int .i64 0]) ∧ X'.ownsRow X.heap.size 41 3 v (leastD l m (cutS l) (cutS m)).length (opsV (leastD l m (cutS l) (cutS m))) ∧ Below X.heap.size X X') (by
    rintro y X' ⟨hb, ⟨hno, _⟩ | ⟨_, _, v, rfl, ho⟩⟩
    · exact absurd HCS hno
    · exact ⟨v, rfl, ho, hb⟩)
  have HLI := hide fun (a : Option Addr) (c : Nat) (b : Option Addr) (d : Nat) (X : World) (h1 : IsB X a c l) (h2 : IsB X b d m) => (LinesD_at a c l b d m X h1 h2 (by omega) (by omega)).mono (R' := fun y X' => ∃ v, y = .returned (.tuple #[v, .int .i64 0]) ∧ X'.ownsRow X.heap.size 41 3 v (leastD l m (cutN l) (cutN m)).length (opsV (leastD l m (cutN l) (cutN m))) ∧ Below X.heap.size X X') (by
    rintro y X' ⟨hb, ⟨hno, _⟩ | ⟨_, _, v, rfl, ho⟩⟩
    · exact absurd HCN hno
    · exact ⟨v, rfl, ho, hb⟩)
  have HDI := hide fun (a : Option Addr) (c : Nat) (b : Option Addr) (d : Nat) (X : World) (h1 : IsB X a c l) (h2 : IsB X b d m) (hx : Below w.heap.size w X) => (Distance_at a c l b d m X h1 h2 ((unhide HT).below hx (unhide HT).size)).mono (R' := fun y X' => ∃ n, y = .returned (.tuple #[.int .i64 n, .int .i64 0]) ∧ Below X.heap.size X X') (by
    rintro y X' ⟨hb, ⟨hno, _⟩ | ⟨_, _, rfl⟩⟩
    · exact absurd HCS hno
    · exact ⟨_, rfl, hb⟩)
  obtain ⟨v1, f1, t1, -⟩ := least_all (m := m) (cutS_ok l) (cutS_ok m) (by omega) (by omega)
  obtain ⟨v2, f2, t2, -⟩ := least_all (m := m) (cutN_ok l) (cutN_ok m) (by omega) (by omega)
  have z1 := val_cnt v1
  have z2 := val_cnt v2
  rw [f1, t1] at z1
  rw [f2, t2] at z2
  have k1 := least_tb (m := m) (cutS_ok l) (cutS_ok m) hbm
  have k2 := least_tb (m := m) (cutN_ok l) (cutN_ok m) hbm
  clear v1 f1 t1 v2 f2 t2 HCS HCN hl1 HLO1
  generalize leastD l m (cutS l) (cutS m) = D1 at *
  generalize leastD l m (cutN l) (cutN m) = D2 at *
  have HDD := hide (And.intro (show D1.length ≤ 1400 by omega) (And.intro (show D2.length ≤ 1400 by omega) (And.intro k1 k2)))
  clear z1 z2 k1 k2
  have HSZ := hide hsz
  have HBY := hide (And.intro hbl hbm)
  have S1 := hide fun (p q : Option Addr) (c d : Nat) (X : World) (h1 : IsO X p D1) (h2 : IsO X q D1) => RSameD_at p c D1 q d D1 X h1 h2 (by have := (unhide HDD).1; omega) (by have := (unhide HDD).1; omega) (unhide HDD).2.2.1 (unhide HDD).2.2.1
  have S2 := hide fun (p q : Option Addr) (c d : Nat) (X : World) (h1 : IsO X p D2) (h2 : IsO X q D2) => RSameD_at p c D2 q d D2 X h1 h2 (by have := (unhide HDD).2.1; omega) (by have := (unhide HDD).2.1; omega) (unhide HDD).2.2.2 (unhide HDD).2.2.2
  rw [decide_eq_true rfl] at S1 S2
  clear hsz hbl hbm
  go_wp2_with fail
  refine (own19O_at a0 c0 l w2 ((unhide HA).below (unhide H1) (Nat.le_refl _))).mono ?_
  rintro e u3 ⟨v3, rfl, o3, hb3⟩
  dsimp only
  have GU3 := (unhide H1).trans (hb3.mono (unhide H1).size)
  obtain ⟨v', w3, r, o', b'⟩ := run_moreV (u3.alloc (.cells #[.int .u8 65, .int .u8 66] 5)) w2.heap.size v3 l [65, 66] (some ⟨u3.heap.size, 0, none⟩) 2 22 (World.ownsRow.alloc o3 _) (lit_isBD u3 [65, 66] (0, 0) (two_byl _ _ (by decide) (by decide)) (by decide)) (by decide) (by have := hb3.size; simp; omega) (by have := unhide HSZ; simp; omega)
  rw [show ([65, 66] : List Int).length = 2 from rfl] at r
  obtain ⟨gx, cx, hv', hgx, hltx, hcapx⟩ := o'.form (by simp)
  obtain ⟨nx, hnx'⟩ : ∃ n, n = (l ++ [65, 66]).length := ⟨_, rfl⟩
  rw [← hnx'] at hv'
  subst hv'
  have HLx := hide hnx'
  have bU3 : Below w2.heap.size w2 w3 := (hb3.alloc hb3.size (.cells #[.int .u8 65, .int .u8 66] 5)).trans b'
  have GX3 := hide ((unhide H1).trans (bU3.mono (unhide H1).size))
  have OX3 := hide o'
  have BX3 := hide bU3
  have R := hide r
  clear o3 hb3 GU3 r o' b' bU3 hnx'
  go_wp2_with (at_builtin; refine wpList_append_known rfl _ _ 22 22 rfl _ _ rfl rfl _ _ (unhide R) ?_)
  clear R
  have LX3 := hide hltx
  have HGX := hide hgx
  have HCX := hide hcapx
  clear hltx hgx hcapx
  refine (own19O_at b0 d0 m w3 ((unhide HB).below (unhide GX3) (Nat.le_refl _))).mono ?_
  rintro e u4 ⟨v4, rfl, o4, hb4⟩
  dsimp only
  have GU4 := (unhide GX3).trans (hb4.mono (unhide GX3).size)
  obtain ⟨v', w4, r, o', b'⟩ := run_moreV (u4.alloc (.cells #[.int .u8 67, .int .u8 68] 5)) w3.heap.size v4 m [67, 68] (some ⟨u4.heap.size, 0, none⟩) 2 22 (World.ownsRow.alloc o4 _) (lit_isBD u4 [67, 68] (0, 0) (two_byl _ _ (by decide) (by decide)) (by decide)) (by decide) (by have := hb4.size; simp; omega) (by have := unhide HSZ; simp; omega)
  rw [show ([67, 68] : List Int).length = 2 from rfl] at r
  obtain ⟨gy, cy, hv', hgy, hlty, hcapy⟩ := o'.form (by simp)
  obtain ⟨ny, hny'⟩ : ∃ n, n = (m ++ [67, 68]).length := ⟨_, rfl⟩
  rw [← hny'] at hv'
  subst hv'
  have HLy := hide hny'
  have bU4 : Below w3.heap.size w3 w4 := (hb4.alloc hb4.size (.cells #[.int .u8 67, .int .u8 68] 5)).trans b'
  have GX4 := hide ((unhide GX3).trans (bU4.mono (unhide GX3).size))
  have OX4 := hide o'
  have BX4 := hide bU4
  have R := hide r
  clear o4 hb4 GU4 r o' b' bU4 hny'
  go_wp2_with (at_builtin; refine wpList_append_known rfl _ _ 22 22 rfl _ _ rfl rfl _ _ (unhide R) ?_)
  clear R
  have hj : OwJ w w4 gx gy nx ny cx cy (l ++ [65, 66]) (m ++ [67, 68]) [] := by
    refine ⟨unhide GX4, (unhide HLx).symm, (unhide HLy).symm, ownr_low (ownr_below (unhide OX3) (unhide BX4)) (unhide H1).size, ownr_low (unhide OX4) (unhide GX3).size, fun q hq => (by cases hq), ?_⟩
    have h1 := unhide LX3
    simp [BlA]
    omega
  have HJ := hide hj
  have hnx : (l ++ [65, 66]).length = l.length + 2 := by simp
  have hny : (m ++ [67, 68]).length = m.length + 2 := by simp
  have hnx' := unhide HLx
  have hny' := unhide HLy
  have q1 : (l.length : Int) ≤ (cx : Int) := by have := unhide HCX; omega
  have q2 : (m.length : Int) ≤ (cy : Int) := by omega
  have q3 : l.length ≤ cx := by omega
  have q4 : m.length ≤ cy := by omega
  have q5 : (0 : Int) ≤ (l.length : Int) := by omega
  have q6 : (0 : Int) ≤ (m.length : Int) := by omega
  have HNN := hide (And.intro (hnx'.trans hnx) (hny'.trans hny))
  have HPX := hide fun (X : World) (Ly : List Int) (rs : List (Value × List Dop)) (h : OwJ w X gx gy nx ny cx cy (l ++ [65, 66]) Ly rs) => own_pre h.x (unhide HBY).1 (two_byl 65 66 (by decide) (by decide)) (by have := unhide HSZ; simp; omega)
  have HPY := hide fun (X : World) (Lx : List Int) (rs : List (Value × List Dop)) (h : OwJ w X gx gy nx ny cx cy Lx (m ++ [67, 68]) rs) => own_pre h.y (unhide HBY).2 (two_byl 67 68 (by decide) (by decide)) (by have := unhide HSZ; simp; omega)
  clear hj LX3 HGX HCX hlty hgy hcapy OX3 OX4 BX3 BX4 GX3 GX4 hnx hny hnx' hny' H1
  go_wp2_with fail
  refine regionL (S := fun _ => True) (fun _ => false) (by kernel_rfl) ?_
  have HKe5 := hide ((unhide HJ).below ((Below.refl w4.heap.size w4).drew))
  clear HJ
  generalize w4.drew = de5 at *
  refine anyL_take (i := 0) (v := ?vq0) rfl (by kernel_rfl) (by kernel_rfl) (by kernel_rfl) (by kernel_rfl) (fun _ _ _ h => h) (Or.inl ⟨by rfl, ?hq0⟩) (trivial) ?_
  case hq0 => (intro w hSw; (try dsimp only at hSw); go_simp) <;> with_reducible rfl
  simp only [Act.put, List.getElem_toArray, List.getElem_cons_zero, List.setIfInBounds_toArray, List.set_cons_zero, List.set_cons_succ]
  refine anyL_take (i := 1) (v := ?vq1) rfl (by kernel_rfl) (by kernel_rfl) (by kernel_rfl) (by kernel_rfl) (fun _ _ _ h => h) (Or.inl ⟨by rfl, ?hq1⟩) (trivial) ?_
  case hq1 => (intro w hSw; (try dsimp only at hSw); go_simp) <;> with_reducible rfl
  simp only [Act.put, List.getElem_toArray, List.getElem_cons_zero, List.getElem_cons_succ, List.setIfInBounds_toArray, List.set_cons_zero, List.set_cons_succ]
  refine anyL_take (i := 2) (v := ?vq2) rfl (by kernel_rfl) (by kernel_rfl) (by kernel_rfl) (by kernel_rfl) (fun _ _ _ h => h) (Or.inl ⟨by rfl, ?hq2⟩) (trivial) ?_
  case hq2 => (intro w hSw; (try dsimp only at hSw); go_simp) <;> with_reducible rfl
  simp only [Act.put, List.getElem_toArray, List.getElem_cons_zero, List.getElem_cons_succ, List.setIfInBounds_toArray, List.set_cons_zero, List.set_cons_succ]
  refine anyL_take (i := 3) (v := ?vq3) rfl (by kernel_rfl) (by kernel_rfl) (by kernel_rfl) (by kernel_rfl) (fun _ _ _ h => h) (Or.inl ⟨by rfl, ?hq3⟩) (trivial) ?_
  case hq3 => (intro w hSw; (try dsimp only at hSw); go_simp) <;> with_reducible rfl
  simp only [Act.put, List.getElem_toArray, List.getElem_cons_zero, List.getElem_cons_succ, List.setIfInBounds_toArray, List.set_cons_zero, List.set_cons_succ]
  refine anyL_take (i := 4) (v := ?vq4) rfl (by kernel_rfl) (by kernel_rfl) (by kernel_rfl) (by kernel_rfl) (fun _ _ _ h => h) (Or.inl ⟨by rfl, ?hq4⟩) (trivial) ?_
  case hq4 => (intro w hSw; (try dsimp only at hSw); go_simp) <;> with_reducible rfl
  simp only [Act.put, List.getElem_toArray, List.getElem_cons_zero, List.getElem_cons_succ, List.setIfInBounds_toArray, List.set_cons_zero, List.set_cons_succ]
  refine anyL_take (i := 5) (v := ?vq5) rfl (by kernel_rfl) (by kernel_rfl) (by kernel_rfl) (by kernel_rfl) (fun _ _ _ h => h) (Or.inl ⟨by rfl, ?hq5⟩) (trivial) ?_
  case hq5 => (intro w hSw; (try dsimp only at hSw); go_simp) <;> with_reducible rfl
  simp only [Act.put, List.getElem_toArray, List.getElem_cons_zero, List.getElem_cons_succ, List.setIfInBounds_toArray, List.set_cons_zero, List.set_cons_succ]
  refine anyL_take (i := 6) (v := ?vq6) rfl (by kernel_rfl) (by kernel_rfl) (by kernel_rfl) (by kernel_rfl) (fun _ _ _ h => h) (Or.inl ⟨by rfl, ?hq6⟩) (trivial) ?_
  case hq6 => (intro w hSw; (try dsimp only at hSw); go_simp) <;> with_reducible rfl
  simp only [Act.put, List.getElem_toArray, List.getElem_cons_zero, List.getElem_cons_succ, List.setIfInBounds_toArray, List.set_cons_zero, List.set_cons_succ]
  refine anyL_take (i := 7) (v := ?vq7) rfl (by kernel_rfl) (by kernel_rfl) (by kernel_rfl) (by kernel_rfl) (fun _ _ _ h => h) (Or.inl ⟨by rfl, ?hq7⟩) (trivial) ?_
  case hq7 => (intro w hSw; (try dsimp only at hSw); go_simp) <;> with_reducible rfl
  simp only [Act.put, List.getElem_toArray, List.getElem_cons_zero, List.getElem_cons_succ, List.setIfInBounds_toArray, List.set_cons_zero, List.set_cons_succ]
  refine anyL_ready (rs := [8]) (by kernel_rfl) (by simp) ?_
  refine AllL.cons rfl (fun K hK => ?_) AllL.nil
  go_simp
  refine (unhide HLE _ _ _ _ de5 (unhide HPX _ _ _ (unhide HKe5)) (unhide HPY _ _ _ (unhide HKe5)) (unhide HKe5).d).mono ?_
  rintro y e5 ⟨ve5, rfl, oe5, be5⟩
  obtain ⟨pe5, re5, rfl, -, -⟩ := own_isOE oe5
  have HJe5 := hide ((unhide HKe5).add be5 oe5)
  refine unhide hK _ _ (fun _ => trivial) ?_
  clear hK K oe5 be5 HKe5
  refine anyL_take (i := 9) (v := ?vq8) rfl (by kernel_rfl) (by kernel_rfl) (by kernel_rfl) (by kernel_rfl) (fun _ _ _ h => h) (Or.inl ⟨by rfl, ?hq8⟩) (trivial) ?_
  case hq8 => (intro w hSw; (try dsimp only at hSw); go_simp) <;> with_reducible rfl
  simp only [Act.put, List.getElem_toArray, List.getElem_cons_zero, List.getElem_cons_succ, List.setIfInBounds_toArray, List.set_cons_zero, List.set_cons_succ]
  refine anyL_take (i := 10) (v := ?vq9) rfl (by kernel_rfl) (by kernel_rfl) (by kernel_rfl) (by kernel_rfl) (fun _ _ _ h => h) (Or.inl ⟨by rfl, ?hq9⟩) (trivial) ?_
  case hq9 => (intro w hSw; (try dsimp only at hSw); go_simp) <;> with_reducible rfl
  simp only [Act.put, List.getElem_toArray, List.getElem_cons_zero, List.getElem_cons_succ, List.setIfInBounds_toArray, List.set_cons_zero, List.set_cons_succ]
  refine anyL_take (i := 11) (v := ?vq10) rfl (by kernel_rfl) (by kernel_rfl) (by kernel_rfl) (by kernel_rfl) (fun _ _ _ h => h) (Or.inl ⟨by rfl, ?hq10⟩) (trivial) ?_
  case hq10 => (intro w hSw; (try dsimp only at hSw); go_simp) <;> with_reducible rfl
  simp only [Act.put, List.getElem_toArray, List.getElem_cons_zero, List.getElem_cons_succ, List.setIfInBounds_toArray, List.set_cons_zero, List.set_cons_succ]
  refine anyL_take (i := 12) (v := ?vq11) rfl (by kernel_rfl) (by kernel_rfl) (by kernel_rfl) (by kernel_rfl) (fun _ _ _ h => h) (Or.inl ⟨by rfl, ?hq11⟩) (trivial) ?_
  case hq11 => (intro w hSw; (try dsimp only at hSw); go_simp) <;> with_reducible rfl
  simp only [Act.put, List.getElem_toArray, List.getElem_cons_zero, List.getElem_cons_succ, List.setIfInBounds_toArray, List.set_cons_zero, List.set_cons_succ]
  refine anyL_take (i := 13) (v := ?vq12) rfl (by kernel_rfl) (by kernel_rfl) (by kernel_rfl) (by kernel_rfl) (fun _ _ _ h => h) (Or.inl ⟨by rfl, ?hq12⟩) (trivial) ?_
  case hq12 => (intro w hSw; (try dsimp only at hSw); go_simp) <;> with_reducible rfl
  simp only [Act.put, List.getElem_toArray, List.getElem_cons_zero, List.getElem_cons_succ, List.setIfInBounds_toArray, List.set_cons_zero, List.set_cons_succ]
  refine anyL_done (by kernel_rfl) ?_ _
  go_wp2_with fail
  refine regionL (S := fun _ => True) (fun _ => false) (by kernel_rfl) ?_
  have HKe6 := hide ((unhide HJe5).below ((Below.refl e5.heap.size e5).drew))
  clear HJe5
  generalize e5.drew = de6 at *
  refine anyL_take (i := 0) (v := ?vq13) rfl (by kernel_rfl) (by kernel_rfl) (by kernel_rfl) (by kernel_rfl) (fun _ _ _ h => h) (Or.inl ⟨by rfl, ?hq13⟩) (trivial) ?_
  case hq13 => (intro w hSw; (try dsimp only at hSw); go_simp) <;> with_reducible rfl
  simp only [Act.put, List.getElem_toArray, List.getElem_cons_zero, List.setIfInBounds_toArray, List.set_cons_zero, List.set_cons_succ]
  refine anyL_take (i := 1) (v := ?vq14) rfl (by kernel_rfl) (by kernel_rfl) (by kernel_rfl) (by kernel_rfl) (fun _ _ _ h => h) (Or.inl ⟨by rfl, ?hq14⟩) (trivial) ?_
  case hq14 => (intro w hSw; (try dsimp only at hSw); go_simp) <;> with_reducible rfl
  simp only [Act.put, List.getElem_toArray, List.getElem_cons_zero, List.getElem_cons_succ, List.setIfInBounds_toArray, List.set_cons_zero, List.set_cons_succ]
  refine anyL_take (i := 2) (v := ?vq15) rfl (by kernel_rfl) (by kernel_rfl) (by kernel_rfl) (by kernel_rfl) (fun _ _ _ h => h) (Or.inl ⟨by rfl, ?hq15⟩) (trivial) ?_
  case hq15 => (intro w hSw; (try dsimp only at hSw); go_simp) <;> with_reducible rfl
  simp only [Act.put, List.getElem_toArray, List.getElem_cons_zero, List.getElem_cons_succ, List.setIfInBounds_toArray, List.set_cons_zero, List.set_cons_succ]
  refine anyL_take (i := 3) (v := ?vq16) rfl (by kernel_rfl) (by kernel_rfl) (by kernel_rfl) (by kernel_rfl) (fun _ _ _ h => h) (Or.inl ⟨by rfl, ?hq16⟩) (trivial) ?_
  case hq16 => (intro w hSw; (try dsimp only at hSw); go_simp) <;> with_reducible rfl
  simp only [Act.put, List.getElem_toArray, List.getElem_cons_zero, List.getElem_cons_succ, List.setIfInBounds_toArray, List.set_cons_zero, List.set_cons_succ]
  refine anyL_take (i := 4) (v := ?vq17) rfl (by kernel_rfl) (by kernel_rfl) (by kernel_rfl) (by kernel_rfl) (fun _ _ _ h => h) (Or.inl ⟨by rfl, ?hq17⟩) (trivial) ?_
  case hq17 => (intro w hSw; (try dsimp only at hSw); go_simp) <;> with_reducible rfl
  simp only [Act.put, List.getElem_toArray, List.getElem_cons_zero, List.getElem_cons_succ, List.setIfInBounds_toArray, List.set_cons_zero, List.set_cons_succ]
  refine anyL_take (i := 5) (v := ?vq18) rfl (by kernel_rfl) (by kernel_rfl) (by kernel_rfl) (by kernel_rfl) (fun _ _ _ h => h) (Or.inl ⟨by rfl, ?hq18⟩) (trivial) ?_
  case hq18 => (intro w hSw; (try dsimp only at hSw); go_simp) <;> with_reducible rfl
  simp only [Act.put, List.getElem_toArray, List.getElem_cons_zero, List.getElem_cons_succ, List.setIfInBounds_toArray, List.set_cons_zero, List.set_cons_succ]
  refine anyL_take (i := 6) (v := ?vq19) rfl (by kernel_rfl) (by kernel_rfl) (by kernel_rfl) (by kernel_rfl) (fun _ _ _ h => h) (Or.inl ⟨by rfl, ?hq19⟩) (trivial) ?_
  case hq19 => (intro w hSw; (try dsimp only at hSw); go_simp) <;> with_reducible rfl
  simp only [Act.put, List.getElem_toArray, List.getElem_cons_zero, List.getElem_cons_succ, List.setIfInBounds_toArray, List.set_cons_zero, List.set_cons_succ]
  refine anyL_take (i := 7) (v := ?vq20) rfl (by kernel_rfl) (by kernel_rfl) (by kernel_rfl) (by kernel_rfl) (fun _ _ _ h => h) (Or.inl ⟨by rfl, ?hq20⟩) (trivial) ?_
  case hq20 => (intro w hSw; (try dsimp only at hSw); go_simp) <;> with_reducible rfl
  simp only [Act.put, List.getElem_toArray, List.getElem_cons_zero, List.getElem_cons_succ, List.setIfInBounds_toArray, List.set_cons_zero, List.set_cons_succ]
  refine anyL_ready (rs := [8]) (by kernel_rfl) (by simp) ?_
  refine AllL.cons rfl (fun K hK => ?_) AllL.nil
  go_simp
  refine (unhide HLE _ _ _ _ de6 (unhide HPX _ _ _ (unhide HKe6)) (unhide HPY _ _ _ (unhide HKe6)) (unhide HKe6).d).mono ?_
  rintro y e6 ⟨ve6, rfl, oe6, be6⟩
  obtain ⟨pe6, re6, rfl, -, -⟩ := own_isOE oe6
  have HJe6 := hide ((unhide HKe6).add be6 oe6)
  refine unhide hK _ _ (fun _ => trivial) ?_
  clear hK K oe6 be6 HKe6
  refine anyL_take (i := 9) (v := ?vq21) rfl (by kernel_rfl) (by kernel_rfl) (by kernel_rfl) (by kernel_rfl) (fun _ _ _ h => h) (Or.inl ⟨by rfl, ?hq21⟩) (trivial) ?_
  case hq21 => (intro w hSw; (try dsimp only at hSw); go_simp) <;> with_reducible rfl
  simp only [Act.put, List.getElem_toArray, List.getElem_cons_zero, List.getElem_cons_succ, List.setIfInBounds_toArray, List.set_cons_zero, List.set_cons_succ]
  refine anyL_take (i := 10) (v := ?vq22) rfl (by kernel_rfl) (by kernel_rfl) (by kernel_rfl) (by kernel_rfl) (fun _ _ _ h => h) (Or.inl ⟨by rfl, ?hq22⟩) (trivial) ?_
  case hq22 => (intro w hSw; (try dsimp only at hSw); go_simp) <;> with_reducible rfl
  simp only [Act.put, List.getElem_toArray, List.getElem_cons_zero, List.getElem_cons_succ, List.setIfInBounds_toArray, List.set_cons_zero, List.set_cons_succ]
  refine anyL_take (i := 11) (v := ?vq23) rfl (by kernel_rfl) (by kernel_rfl) (by kernel_rfl) (by kernel_rfl) (fun _ _ _ h => h) (Or.inl ⟨by rfl, ?hq23⟩) (trivial) ?_
  case hq23 => (intro w hSw; (try dsimp only at hSw); go_simp) <;> with_reducible rfl
  simp only [Act.put, List.getElem_toArray, List.getElem_cons_zero, List.getElem_cons_succ, List.setIfInBounds_toArray, List.set_cons_zero, List.set_cons_succ]
  refine anyL_take (i := 12) (v := ?vq24) rfl (by kernel_rfl) (by kernel_rfl) (by kernel_rfl) (by kernel_rfl) (fun _ _ _ h => h) (Or.inl ⟨by rfl, ?hq24⟩) (trivial) ?_
  case hq24 => (intro w hSw; (try dsimp only at hSw); go_simp) <;> with_reducible rfl
  simp only [Act.put, List.getElem_toArray, List.getElem_cons_zero, List.getElem_cons_succ, List.setIfInBounds_toArray, List.set_cons_zero, List.set_cons_succ]
  refine anyL_take (i := 13) (v := ?vq25) rfl (by kernel_rfl) (by kernel_rfl) (by kernel_rfl) (by kernel_rfl) (fun _ _ _ h => h) (Or.inl ⟨by rfl, ?hq25⟩) (trivial) ?_
  case hq25 => (intro w hSw; (try dsimp only at hSw); go_simp) <;> with_reducible rfl
  simp only [Act.put, List.getElem_toArray, List.getElem_cons_zero, List.getElem_cons_succ, List.setIfInBounds_toArray, List.set_cons_zero, List.set_cons_succ]
  refine anyL_done (by kernel_rfl) ?_ _
  go_wp2_with fail
  refine regionL (S := fun _ => True) (fun _ => false) (by kernel_rfl) ?_
  have HKe7 := hide ((unhide HJe6).below ((Below.refl e6.heap.size e6).drew))
  clear HJe6
  generalize e6.drew = de7 at *
  refine anyL_take (i := 0) (v := ?vq26) rfl (by kernel_rfl) (by kernel_rfl) (by kernel_rfl) (by kernel_rfl) (fun _ _ _ h => h) (Or.inl ⟨by rfl, ?hq26⟩) (trivial) ?_
  case hq26 => (intro w hSw; (try dsimp only at hSw); go_simp) <;> with_reducible rfl
  simp only [Act.put, List.getElem_toArray, List.getElem_cons_zero, List.setIfInBounds_toArray, List.set_cons_zero, List.set_cons_succ]
  refine anyL_take (i := 1) (v := ?vq27) rfl (by kernel_rfl) (by kernel_rfl) (by kernel_rfl) (by kernel_rfl) (fun _ _ _ h => h) (Or.inl ⟨by rfl, ?hq27⟩) (trivial) ?_
  case hq27 => (intro w hSw; (try dsimp only at hSw); go_simp) <;> with_reducible rfl
  simp only [Act.put, List.getElem_toArray, List.getElem_cons_zero, List.getElem_cons_succ, List.setIfInBounds_toArray, List.set_cons_zero, List.set_cons_succ]
  refine anyL_take (i := 2) (v := ?vq28) rfl (by kernel_rfl) (by kernel_rfl) (by kernel_rfl) (by kernel_rfl) (fun _ _ _ h => h) (Or.inl ⟨by rfl, ?hq28⟩) (trivial) ?_
  case hq28 => (intro w hSw; (try dsimp only at hSw); go_simp) <;> with_reducible rfl
  simp only [Act.put, List.getElem_toArray, List.getElem_cons_zero, List.getElem_cons_succ, List.setIfInBounds_toArray, List.set_cons_zero, List.set_cons_succ]
  refine anyL_take (i := 3) (v := ?vq29) rfl (by kernel_rfl) (by kernel_rfl) (by kernel_rfl) (by kernel_rfl) (fun _ _ _ h => h) (Or.inl ⟨by rfl, ?hq29⟩) (trivial) ?_
  case hq29 => (intro w hSw; (try dsimp only at hSw); go_simp) <;> with_reducible rfl
  simp only [Act.put, List.getElem_toArray, List.getElem_cons_zero, List.getElem_cons_succ, List.setIfInBounds_toArray, List.set_cons_zero, List.set_cons_succ]
  refine anyL_take (i := 4) (v := ?vq30) rfl (by kernel_rfl) (by kernel_rfl) (by kernel_rfl) (by kernel_rfl) (fun _ _ _ h => h) (Or.inl ⟨by rfl, ?hq30⟩) (trivial) ?_
  case hq30 => (intro w hSw; (try dsimp only at hSw); go_simp) <;> with_reducible rfl
  simp only [Act.put, List.getElem_toArray, List.getElem_cons_zero, List.getElem_cons_succ, List.setIfInBounds_toArray, List.set_cons_zero, List.set_cons_succ]
  refine anyL_take (i := 5) (v := ?vq31) rfl (by kernel_rfl) (by kernel_rfl) (by kernel_rfl) (by kernel_rfl) (fun _ _ _ h => h) (Or.inl ⟨by rfl, ?hq31⟩) (trivial) ?_
  case hq31 => (intro w hSw; (try dsimp only at hSw); go_simp) <;> with_reducible rfl
  simp only [Act.put, List.getElem_toArray, List.getElem_cons_zero, List.getElem_cons_succ, List.setIfInBounds_toArray, List.set_cons_zero, List.set_cons_succ]
  refine anyL_take (i := 6) (v := ?vq32) rfl (by kernel_rfl) (by kernel_rfl) (by kernel_rfl) (by kernel_rfl) (fun _ _ _ h => h) (Or.inl ⟨by rfl, ?hq32⟩) (trivial) ?_
  case hq32 => (intro w hSw; (try dsimp only at hSw); go_simp) <;> with_reducible rfl
  simp only [Act.put, List.getElem_toArray, List.getElem_cons_zero, List.getElem_cons_succ, List.setIfInBounds_toArray, List.set_cons_zero, List.set_cons_succ]
  refine anyL_take (i := 7) (v := ?vq33) rfl (by kernel_rfl) (by kernel_rfl) (by kernel_rfl) (by kernel_rfl) (fun _ _ _ h => h) (Or.inl ⟨by rfl, ?hq33⟩) (trivial) ?_
  case hq33 => (intro w hSw; (try dsimp only at hSw); go_simp) <;> with_reducible rfl
  simp only [Act.put, List.getElem_toArray, List.getElem_cons_zero, List.getElem_cons_succ, List.setIfInBounds_toArray, List.set_cons_zero, List.set_cons_succ]
  refine anyL_ready (rs := [8]) (by kernel_rfl) (by simp) ?_
  refine AllL.cons rfl (fun K hK => ?_) AllL.nil
  go_simp
  refine (unhide HLI _ _ _ _ de7 (unhide HPX _ _ _ (unhide HKe7)) (unhide HPY _ _ _ (unhide HKe7))).mono ?_
  rintro y e7 ⟨ve7, rfl, oe7, be7⟩
  obtain ⟨pe7, re7, rfl, -, -⟩ := own_isOE oe7
  have HJe7 := hide ((unhide HKe7).add be7 oe7)
  refine unhide hK _ _ (fun _ => trivial) ?_
  clear hK K oe7 be7 HKe7
  refine anyL_take (i := 9) (v := ?vq34) rfl (by kernel_rfl) (by kernel_rfl) (by kernel_rfl) (by kernel_rfl) (fun _ _ _ h => h) (Or.inl ⟨by rfl, ?hq34⟩) (trivial) ?_
  case hq34 => (intro w hSw; (try dsimp only at hSw); go_simp) <;> with_reducible rfl
  simp only [Act.put, List.getElem_toArray, List.getElem_cons_zero, List.getElem_cons_succ, List.setIfInBounds_toArray, List.set_cons_zero, List.set_cons_succ]
  refine anyL_take (i := 10) (v := ?vq35) rfl (by kernel_rfl) (by kernel_rfl) (by kernel_rfl) (by kernel_rfl) (fun _ _ _ h => h) (Or.inl ⟨by rfl, ?hq35⟩) (trivial) ?_
  case hq35 => (intro w hSw; (try dsimp only at hSw); go_simp) <;> with_reducible rfl
  simp only [Act.put, List.getElem_toArray, List.getElem_cons_zero, List.getElem_cons_succ, List.setIfInBounds_toArray, List.set_cons_zero, List.set_cons_succ]
  refine anyL_take (i := 11) (v := ?vq36) rfl (by kernel_rfl) (by kernel_rfl) (by kernel_rfl) (by kernel_rfl) (fun _ _ _ h => h) (Or.inl ⟨by rfl, ?hq36⟩) (trivial) ?_
  case hq36 => (intro w hSw; (try dsimp only at hSw); go_simp) <;> with_reducible rfl
  simp only [Act.put, List.getElem_toArray, List.getElem_cons_zero, List.getElem_cons_succ, List.setIfInBounds_toArray, List.set_cons_zero, List.set_cons_succ]
  refine anyL_take (i := 12) (v := ?vq37) rfl (by kernel_rfl) (by kernel_rfl) (by kernel_rfl) (by kernel_rfl) (fun _ _ _ h => h) (Or.inl ⟨by rfl, ?hq37⟩) (trivial) ?_
  case hq37 => (intro w hSw; (try dsimp only at hSw); go_simp) <;> with_reducible rfl
  simp only [Act.put, List.getElem_toArray, List.getElem_cons_zero, List.getElem_cons_succ, List.setIfInBounds_toArray, List.set_cons_zero, List.set_cons_succ]
  refine anyL_take (i := 13) (v := ?vq38) rfl (by kernel_rfl) (by kernel_rfl) (by kernel_rfl) (by kernel_rfl) (fun _ _ _ h => h) (Or.inl ⟨by rfl, ?hq38⟩) (trivial) ?_
  case hq38 => (intro w hSw; (try dsimp only at hSw); go_simp) <;> with_reducible rfl
  simp only [Act.put, List.getElem_toArray, List.getElem_cons_zero, List.getElem_cons_succ, List.setIfInBounds_toArray, List.set_cons_zero, List.set_cons_succ]
  refine anyL_done (by kernel_rfl) ?_ _
  go_wp2_with fail
  refine regionL (S := fun _ => True) (fun _ => false) (by kernel_rfl) ?_
  have HKe8 := hide ((unhide HJe7).below ((Below.refl e7.heap.size e7).drew))
  clear HJe7
  generalize e7.drew = de8 at *
  refine anyL_take (i := 0) (v := ?vq39) rfl (by kernel_rfl) (by kernel_rfl) (by kernel_rfl) (by kernel_rfl) (fun _ _ _ h => h) (Or.inl ⟨by rfl, ?hq39⟩) (trivial) ?_
  case hq39 => (intro w hSw; (try dsimp only at hSw); go_simp) <;> with_reducible rfl
  simp only [Act.put, List.getElem_toArray, List.getElem_cons_zero, List.setIfInBounds_toArray, List.set_cons_zero, List.set_cons_succ]
  refine anyL_take (i := 1) (v := ?vq40) rfl (by kernel_rfl) (by kernel_rfl) (by kernel_rfl) (by kernel_rfl) (fun _ _ _ h => h) (Or.inl ⟨by rfl, ?hq40⟩) (trivial) ?_
  case hq40 => (intro w hSw; (try dsimp only at hSw); go_simp) <;> with_reducible rfl
  simp only [Act.put, List.getElem_toArray, List.getElem_cons_zero, List.getElem_cons_succ, List.setIfInBounds_toArray, List.set_cons_zero, List.set_cons_succ]
  refine anyL_take (i := 2) (v := ?vq41) rfl (by kernel_rfl) (by kernel_rfl) (by kernel_rfl) (by kernel_rfl) (fun _ _ _ h => h) (Or.inl ⟨by rfl, ?hq41⟩) (trivial) ?_
  case hq41 => (intro w hSw; (try dsimp only at hSw); go_simp) <;> with_reducible rfl
  simp only [Act.put, List.getElem_toArray, List.getElem_cons_zero, List.getElem_cons_succ, List.setIfInBounds_toArray, List.set_cons_zero, List.set_cons_succ]
  refine anyL_take (i := 3) (v := ?vq42) rfl (by kernel_rfl) (by kernel_rfl) (by kernel_rfl) (by kernel_rfl) (fun _ _ _ h => h) (Or.inl ⟨by rfl, ?hq42⟩) (trivial) ?_
  case hq42 => (intro w hSw; (try dsimp only at hSw); go_simp) <;> with_reducible rfl
  simp only [Act.put, List.getElem_toArray, List.getElem_cons_zero, List.getElem_cons_succ, List.setIfInBounds_toArray, List.set_cons_zero, List.set_cons_succ]
  refine anyL_take (i := 4) (v := ?vq43) rfl (by kernel_rfl) (by kernel_rfl) (by kernel_rfl) (by kernel_rfl) (fun _ _ _ h => h) (Or.inl ⟨by rfl, ?hq43⟩) (trivial) ?_
  case hq43 => (intro w hSw; (try dsimp only at hSw); go_simp) <;> with_reducible rfl
  simp only [Act.put, List.getElem_toArray, List.getElem_cons_zero, List.getElem_cons_succ, List.setIfInBounds_toArray, List.set_cons_zero, List.set_cons_succ]
  refine anyL_take (i := 5) (v := ?vq44) rfl (by kernel_rfl) (by kernel_rfl) (by kernel_rfl) (by kernel_rfl) (fun _ _ _ h => h) (Or.inl ⟨by rfl, ?hq44⟩) (trivial) ?_
  case hq44 => (intro w hSw; (try dsimp only at hSw); go_simp) <;> with_reducible rfl
  simp only [Act.put, List.getElem_toArray, List.getElem_cons_zero, List.getElem_cons_succ, List.setIfInBounds_toArray, List.set_cons_zero, List.set_cons_succ]
  refine anyL_take (i := 6) (v := ?vq45) rfl (by kernel_rfl) (by kernel_rfl) (by kernel_rfl) (by kernel_rfl) (fun _ _ _ h => h) (Or.inl ⟨by rfl, ?hq45⟩) (trivial) ?_
  case hq45 => (intro w hSw; (try dsimp only at hSw); go_simp) <;> with_reducible rfl
  simp only [Act.put, List.getElem_toArray, List.getElem_cons_zero, List.getElem_cons_succ, List.setIfInBounds_toArray, List.set_cons_zero, List.set_cons_succ]
  refine anyL_take (i := 7) (v := ?vq46) rfl (by kernel_rfl) (by kernel_rfl) (by kernel_rfl) (by kernel_rfl) (fun _ _ _ h => h) (Or.inl ⟨by rfl, ?hq46⟩) (trivial) ?_
  case hq46 => (intro w hSw; (try dsimp only at hSw); go_simp) <;> with_reducible rfl
  simp only [Act.put, List.getElem_toArray, List.getElem_cons_zero, List.getElem_cons_succ, List.setIfInBounds_toArray, List.set_cons_zero, List.set_cons_succ]
  refine anyL_ready (rs := [8]) (by kernel_rfl) (by simp) ?_
  refine AllL.cons rfl (fun K hK => ?_) AllL.nil
  go_simp
  refine (unhide HLI _ _ _ _ de8 (unhide HPX _ _ _ (unhide HKe8)) (unhide HPY _ _ _ (unhide HKe8))).mono ?_
  rintro y e8 ⟨ve8, rfl, oe8, be8⟩
  obtain ⟨pe8, re8, rfl, -, -⟩ := own_isOE oe8
  have HJe8 := hide ((unhide HKe8).add be8 oe8)
  refine unhide hK _ _ (fun _ => trivial) ?_
  clear hK K oe8 be8 HKe8
  refine anyL_take (i := 9) (v := ?vq47) rfl (by kernel_rfl) (by kernel_rfl) (by kernel_rfl) (by kernel_rfl) (fun _ _ _ h => h) (Or.inl ⟨by rfl, ?hq47⟩) (trivial) ?_
  case hq47 => (intro w hSw; (try dsimp only at hSw); go_simp) <;> with_reducible rfl
  simp only [Act.put, List.getElem_toArray, List.getElem_cons_zero, List.getElem_cons_succ, List.setIfInBounds_toArray, List.set_cons_zero, List.set_cons_succ]
  refine anyL_take (i := 10) (v := ?vq48) rfl (by kernel_rfl) (by kernel_rfl) (by kernel_rfl) (by kernel_rfl) (fun _ _ _ h => h) (Or.inl ⟨by rfl, ?hq48⟩) (trivial) ?_
  case hq48 => (intro w hSw; (try dsimp only at hSw); go_simp) <;> with_reducible rfl
  simp only [Act.put, List.getElem_toArray, List.getElem_cons_zero, List.getElem_cons_succ, List.setIfInBounds_toArray, List.set_cons_zero, List.set_cons_succ]
  refine anyL_take (i := 11) (v := ?vq49) rfl (by kernel_rfl) (by kernel_rfl) (by kernel_rfl) (by kernel_rfl) (fun _ _ _ h => h) (Or.inl ⟨by rfl, ?hq49⟩) (trivial) ?_
  case hq49 => (intro w hSw; (try dsimp only at hSw); go_simp) <;> with_reducible rfl
  simp only [Act.put, List.getElem_toArray, List.getElem_cons_zero, List.getElem_cons_succ, List.setIfInBounds_toArray, List.set_cons_zero, List.set_cons_succ]
  refine anyL_take (i := 12) (v := ?vq50) rfl (by kernel_rfl) (by kernel_rfl) (by kernel_rfl) (by kernel_rfl) (fun _ _ _ h => h) (Or.inl ⟨by rfl, ?hq50⟩) (trivial) ?_
  case hq50 => (intro w hSw; (try dsimp only at hSw); go_simp) <;> with_reducible rfl
  simp only [Act.put, List.getElem_toArray, List.getElem_cons_zero, List.getElem_cons_succ, List.setIfInBounds_toArray, List.set_cons_zero, List.set_cons_succ]
  refine anyL_take (i := 13) (v := ?vq51) rfl (by kernel_rfl) (by kernel_rfl) (by kernel_rfl) (by kernel_rfl) (fun _ _ _ h => h) (Or.inl ⟨by rfl, ?hq51⟩) (trivial) ?_
  case hq51 => (intro w hSw; (try dsimp only at hSw); go_simp) <;> with_reducible rfl
  simp only [Act.put, List.getElem_toArray, List.getElem_cons_zero, List.getElem_cons_succ, List.setIfInBounds_toArray, List.set_cons_zero, List.set_cons_succ]
  refine anyL_done (by kernel_rfl) ?_ _
  go_wp2_with fail
  refine regionL (S := fun _ => True) (fun _ => false) (by kernel_rfl) ?_
  have HKe9 := hide ((unhide HJe8).below ((Below.refl e8.heap.size e8).drew))
  clear HJe8
  generalize e8.drew = de9 at *
  refine anyL_take (i := 0) (v := ?vq52) rfl (by kernel_rfl) (by kernel_rfl) (by kernel_rfl) (by kernel_rfl) (fun _ _ _ h => h) (Or.inl ⟨by rfl, ?hq52⟩) (trivial) ?_
  case hq52 => (intro w hSw; (try dsimp only at hSw); go_simp) <;> with_reducible rfl
  simp only [Act.put, List.getElem_toArray, List.getElem_cons_zero, List.setIfInBounds_toArray, List.set_cons_zero, List.set_cons_succ]
  refine anyL_take (i := 1) (v := ?vq53) rfl (by kernel_rfl) (by kernel_rfl) (by kernel_rfl) (by kernel_rfl) (fun _ _ _ h => h) (Or.inl ⟨by rfl, ?hq53⟩) (trivial) ?_
  case hq53 => (intro w hSw; (try dsimp only at hSw); go_simp) <;> with_reducible rfl
  simp only [Act.put, List.getElem_toArray, List.getElem_cons_zero, List.getElem_cons_succ, List.setIfInBounds_toArray, List.set_cons_zero, List.set_cons_succ]
  refine anyL_take (i := 2) (v := ?vq54) rfl (by kernel_rfl) (by kernel_rfl) (by kernel_rfl) (by kernel_rfl) (fun _ _ _ h => h) (Or.inl ⟨by rfl, ?hq54⟩) (trivial) ?_
  case hq54 => (intro w hSw; (try dsimp only at hSw); go_simp) <;> with_reducible rfl
  simp only [Act.put, List.getElem_toArray, List.getElem_cons_zero, List.getElem_cons_succ, List.setIfInBounds_toArray, List.set_cons_zero, List.set_cons_succ]
  refine anyL_take (i := 3) (v := ?vq55) rfl (by kernel_rfl) (by kernel_rfl) (by kernel_rfl) (by kernel_rfl) (fun _ _ _ h => h) (Or.inl ⟨by rfl, ?hq55⟩) (trivial) ?_
  case hq55 => (intro w hSw; (try dsimp only at hSw); go_simp) <;> with_reducible rfl
  simp only [Act.put, List.getElem_toArray, List.getElem_cons_zero, List.getElem_cons_succ, List.setIfInBounds_toArray, List.set_cons_zero, List.set_cons_succ]
  refine anyL_take (i := 4) (v := ?vq56) rfl (by kernel_rfl) (by kernel_rfl) (by kernel_rfl) (by kernel_rfl) (fun _ _ _ h => h) (Or.inl ⟨by rfl, ?hq56⟩) (trivial) ?_
  case hq56 => (intro w hSw; (try dsimp only at hSw); go_simp) <;> with_reducible rfl
  simp only [Act.put, List.getElem_toArray, List.getElem_cons_zero, List.getElem_cons_succ, List.setIfInBounds_toArray, List.set_cons_zero, List.set_cons_succ]
  refine anyL_take (i := 5) (v := ?vq57) rfl (by kernel_rfl) (by kernel_rfl) (by kernel_rfl) (by kernel_rfl) (fun _ _ _ h => h) (Or.inl ⟨by rfl, ?hq57⟩) (trivial) ?_
  case hq57 => (intro w hSw; (try dsimp only at hSw); go_simp) <;> with_reducible rfl
  simp only [Act.put, List.getElem_toArray, List.getElem_cons_zero, List.getElem_cons_succ, List.setIfInBounds_toArray, List.set_cons_zero, List.set_cons_succ]
  refine anyL_take (i := 6) (v := ?vq58) rfl (by kernel_rfl) (by kernel_rfl) (by kernel_rfl) (by kernel_rfl) (fun _ _ _ h => h) (Or.inl ⟨by rfl, ?hq58⟩) (trivial) ?_
  case hq58 => (intro w hSw; (try dsimp only at hSw); go_simp) <;> with_reducible rfl
  simp only [Act.put, List.getElem_toArray, List.getElem_cons_zero, List.getElem_cons_succ, List.setIfInBounds_toArray, List.set_cons_zero, List.set_cons_succ]
  refine anyL_take (i := 7) (v := ?vq59) rfl (by kernel_rfl) (by kernel_rfl) (by kernel_rfl) (by kernel_rfl) (fun _ _ _ h => h) (Or.inl ⟨by rfl, ?hq59⟩) (trivial) ?_
  case hq59 => (intro w hSw; (try dsimp only at hSw); go_simp) <;> with_reducible rfl
  simp only [Act.put, List.getElem_toArray, List.getElem_cons_zero, List.getElem_cons_succ, List.setIfInBounds_toArray, List.set_cons_zero, List.set_cons_succ]
  refine anyL_ready (rs := [8]) (by kernel_rfl) (by simp) ?_
  refine AllL.cons rfl (fun K hK => ?_) AllL.nil
  go_simp
  refine (unhide HDI _ _ _ _ de9 (unhide HPX _ _ _ (unhide HKe9)) (unhide HPY _ _ _ (unhide HKe9)) (unhide HKe9).d).mono ?_
  rintro y e9 ⟨ne9, rfl, be9⟩
  have HJe9 := hide ((unhide HKe9).below be9)
  refine unhide hK _ _ (fun _ => trivial) ?_
  clear hK K be9 HKe9
  refine anyL_done (by kernel_rfl) ?_ _
  simp only [List.nil_append, List.cons_append] at HJe9
  obtain ⟨SA, hSA⟩ : ∃ SA, SA = strOfNums l := ⟨_, rfl⟩
  obtain ⟨SB, hSB⟩ : ∃ SB, SB = strOfNums m := ⟨_, rfl⟩
  obtain ⟨SX, hSX⟩ : ∃ SX, SX = strOfNums (l ++ [65, 66]) := ⟨_, rfl⟩
  obtain ⟨SY, hSY⟩ : ∃ SY, SY = strOfNums (m ++ [67, 68]) := ⟨_, rfl⟩
  have zA : SA.size ≤ 700 := by rw [hSA, strOfNums_size]; exact (unhide HSZ).1
  have zB : SB.size ≤ 700 := by rw [hSB, strOfNums_size]; exact (unhide HSZ).2
  have e2a : (⟨#[65, 66]⟩ : ByteArray).size = 2 := rfl
  have e2b : (⟨#[67, 68]⟩ : ByteArray).size = 2 := rfl
  have w2a : ¬ SA.size + (⟨#[65, 66]⟩ : ByteArray).size > 9223372036854775807 := by omega
  have w2b : ¬ SB.size + (⟨#[67, 68]⟩ : ByteArray).size > 9223372036854775807 := by omega
  have ex : SA ++ (⟨#[65, 66]⟩ : ByteArray) = SX := by rw [hSA, hSX, ← str_appE]; rfl
  have ey : SB ++ (⟨#[67, 68]⟩ : ByteArray) = SY := by rw [hSB, hSY, ← str_appE]; rfl
  have nx0 : (SX != SX) = false := by
    have : (SX == SX) = true := by
      rw [hSX, str_is (p := l ++ [65, 66]) (q := l ++ [65, 66])]
      · simp
      · exact fun x hx => (List.mem_append.1 hx).elim ((unhide HBY).1 x) (two_byl 65 66 (by decide) (by decide) x)
      · exact fun x hx => (List.mem_append.1 hx).elim ((unhide HBY).1 x) (two_byl 65 66 (by decide) (by decide) x)
    rw [bne, this]; rfl
  have ny0 : (SY != SY) = false := by
    have : (SY == SY) = true := by
      rw [hSY, str_is (p := m ++ [67, 68]) (q := m ++ [67, 68])]
      · simp
      · exact fun x hx => (List.mem_append.1 hx).elim ((unhide HBY).2 x) (two_byl 67 68 (by decide) (by decide) x)
      · exact fun x hx => (List.mem_append.1 hx).elim ((unhide HBY).2 x) (two_byl 67 68 (by decide) (by decide) x)
    rw [bne, this]; rfl
  have rx : (convert 22 9 (.slice (some ⟨gx, 0, none⟩) nx cx)).run Tryd.prog e9 = .ok (.string SX) e9 := by
    have h := str_bs e9 (some ⟨gx, 0, none⟩) cx (l ++ [65, 66]) (own_isBg (unhide HJe9).x (fun x hx => (List.mem_append.1 hx).elim ((unhide HBY).1 x) (two_byl 65 66 (by decide) (by decide) x)) (by have := unhide HSZ; simp; omega)).2.2.1
    rw [← unhide HLx, ← hSX] at h; exact h
  have ry : (convert 22 9 (.slice (some ⟨gy, 0, none⟩) ny cy)).run Tryd.prog e9 = .ok (.string SY) e9 := by
    have h := str_bs e9 (some ⟨gy, 0, none⟩) cy (m ++ [67, 68]) (own_isBg (unhide HJe9).y (fun x hx => (List.mem_append.1 hx).elim ((unhide HBY).2 x) (two_byl 67 68 (by decide) (by decide) x)) (by have := unhide HSZ; simp; omega)).2.2.1
    rw [← unhide HLy, ← hSY] at h; exact h
  have ra : (convert 22 9 (.slice a0 l.length c0)).run Tryd.prog e9 = .ok (.string SA) e9 := by rw [hSA]; exact str_bs e9 a0 c0 l ((unhide HA).below (unhide HJe9).d (Nat.le_refl _)).2.2.1
  have rb : (convert 22 9 (.slice b0 m.length d0)).run Tryd.prog e9 = .ok (.string SB) e9 := by rw [hSB]; exact str_bs e9 b0 d0 m ((unhide HB).below (unhide HJe9).d (Nat.le_refl _)).2.2.1
  have HS := hide (unhide S1 pe5 pe6 re5 re6 e9 (own_io ((unhide HJe9).r (.slice pe5 D1.length re5, D1) (by simp))) (own_io ((unhide HJe9).r (.slice pe6 D1.length re6, D1) (by simp))))
  clear hSA hSB hSX hSY HPX HPY q1 q2 q3 q4 q5 q6
  go_wp2_with fail
  clear rx ry ra rb ex ey nx0 ny0 zA zB e2a e2b w2a w2b
  refine (unhide HS).mono ?_
  rintro y f1 ⟨rfl, b1⟩
  dsimp only
  have HJf1 := hide ((unhide HJe9).below b1)
  have HS := hide (unhide S2 pe7 pe8 re7 re8 f1 (own_io ((unhide HJf1).r (.slice pe7 D2.length re7, D2) (by simp))) (own_io ((unhide HJf1).r (.slice pe8 D2.length re8, D2) (by simp))))
  clear HJe9 b1
  go_wp2_with fail
  refine (unhide HS).mono ?_
  rintro y f2 ⟨rfl, b2⟩
  dsimp only
  have HJf2 := hide ((unhide HJf1).below b2)
  clear HS HJf1 b2
  obtain ⟨vk, f3, r3, ok, bk⟩ := copy_op f2 pe6 re6 D1 24 (own_io ((unhide HJf2).r (.slice pe6 D1.length re6, D1) (by simp))) (own_some ((unhide HJf2).r (.slice pe6 D1.length re6, D1) (by simp))) (by have := (unhide HDD).1; omega)
  obtain ⟨pk, rk, rfl, -, -⟩ := own_isOE ok
  have HJf3 := hide ((unhide HJf2).add bk ok)
  simp only [List.cons_append, List.nil_append] at HJf3
  have R := hide r3
  clear HJf2 r3 ok bk
  obtain ⟨vq, f4, r4, oq, bq⟩ := copy_op f3 pe8 re8 D2 24 (own_io ((unhide HJf3).r (.slice pe8 D2.length re8, D2) (by simp))) (own_some ((unhide HJf3).r (.slice pe8 D2.length re8, D2) (by simp))) (by have := (unhide HDD).2.1; omega)
  obtain ⟨pq, rq, rfl, -, -⟩ := own_isOE oq
  have HJf4 := hide ((unhide HJf3).add bq oq)
  simp only [List.cons_append, List.nil_append] at HJf4
  have R4 := hide r4
  clear HJf3 r4 oq bq
  go_wp2_with (first | (at_builtin; refine wpList_append_known rfl _ _ 24 24 rfl _ _ rfl rfl _ _ (unhide R) ?_; clear R) | (at_builtin; refine wpList_append_known rfl _ _ 24 24 rfl _ _ rfl rfl _ _ (unhide R4) ?_; clear R4))
  have HS := hide (spoil_at pe5 re5 D1.length (opsV D1) w.heap.size f4 ((unhide HJf4).r (.slice pe5 D1.length re5, D1) (by simp)) (by have := (unhide HDD).1; omega))
  refine (unhide HS).mono ?_
  rintro y f5 ⟨rfl, k5⟩
  dsimp only
  have HJf5 := hide (OwJ.drop (A := []) (q := (.slice pe5 D1.length re5, D1)) (unhide HJf4) k5)
  simp only [List.nil_append] at HJf5
  clear HS HJf4 k5
  have HS := hide (spoil_at pe7 re7 D2.length (opsV D2) w.heap.size f5 ((unhide HJf5).r (.slice pe7 D2.length re7, D2) (by simp)) (by have := (unhide HDD).2.1; omega))
  go_wp2_with fail
  refine (unhide HS).mono ?_
  rintro y f6 ⟨rfl, k6⟩
  dsimp only
  have HJf6 := hide (OwJ.drop (A := [(.slice pe6 D1.length re6, D1)]) (q := (.slice pe7 D2.length re7, D2)) (unhide HJf5) k6)
  simp only [List.cons_append, List.nil_append] at HJf6
  clear HS HJf5 k6
  obtain ⟨RS, hRS⟩ : ∃ RS, RS = [(Value.slice pe6 D1.length re6, D1), (Value.slice pe8 D2.length re8, D2), (Value.slice pk D1.length rk, D1), (Value.slice pq D2.length rq, D2)] := ⟨_, rfl⟩
  rw [← hRS] at HJf6
  have HRS := hide hRS
  have z9 : nx ≤ 1000 ∧ ny ≤ 1000 := by have := unhide HNN; have := unhide HSZ; omega
  have HZ := hide z9
  clear hRS z9
  go_wp2_with fail
  go_loopw [17, 131] (fun v1 v3 wx => (∃ z, v1 = z) ∧ ∃ k : Nat, v3 = .int .i64 (k : Int) ∧ k ≤ nx ∧ Hid (∃ Lx Ly, OwJ w wx gx gy nx ny cx cy Lx Ly RS)) (fun _ v3 _ => nx - (intOf v3).toNat)
  case atStart => exact ⟨⟨_, rfl⟩, 0, rfl, Nat.zero_le _, hide ⟨_, _, unhide HJf6⟩⟩
  case round =>
    clear HJf6
    obtain ⟨⟨z, rfl⟩, k, rfl, hk, HX⟩ := hrel
    by_cases h1 : k < nx
    · have t1 : decide ((k : Int) < (nx : Int)) = true := decide_eq_true (by omega)
      have f1' : (k : Int) < (nx : Int) := by omega
      obtain ⟨Lx, Ly, hj⟩ := unhide HX
      obtain ⟨c1', z1⟩ := Own.cell hj.x k (by rw [hj.hx]; exact h1)
      obtain ⟨y1, c1⟩ := Option.isSome_iff_exists.1 c1'
      have HN : Hid (∃ Lx Ly, OwJ w (wr.setCell ⟨gx, k, none⟩ (.int .u8 42)) gx gy nx ny cx cy Lx Ly RS) := hide ⟨_, _, hj.setx k 42⟩
      have e3 : IntKind.i64.wrap ((k : Int) + 1) = (k : Int) + 1 := by have := unhide HZ; rw [IntKind.wrap_i64]; omega
      clear HX hj c1' hk
      go_wp2_with fail
      go_roundw
      case rel => exact ⟨⟨_, rfl⟩, k + 1, by go_num, h1, HN⟩
      case measure => simp [intOf]; omega
    · obtain rfl : k = nx := by omega
      have t1 : decide ((k : Int) < (k : Int)) = false := decide_eq_false (by omega)
      clear h1 hk
      go_wp2_with fail
      go_loopw [18, 140] (fun v1 v3 wx => (∃ z, v1 = z) ∧ ∃ j : Nat, v3 = .int .i64 (j : Int) ∧ j ≤ ny ∧ Hid (∃ Lx Ly, OwJ w wx gx gy k ny cx cy Lx Ly RS)) (fun _ v3 _ => ny - (intOf v3).toNat)
      case atStart => exact ⟨⟨_, rfl⟩, 0, rfl, Nat.zero_le _, HX⟩
      case round =>
        clear HX
        obtain ⟨⟨z, rfl⟩, j, rfl, hj', HX⟩ := hrel
        by_cases h2 : j < ny
        · have t2 : decide ((j : Int) < (ny : Int)) = true := decide_eq_true (by omega)
          have f2' : (j : Int) < (ny : Int) := by omega
          obtain ⟨Lx, Ly, hj⟩ := unhide HX
          obtain ⟨c1', z1⟩ := Own.cell hj.y j (by rw [hj.hy]; exact h2)
          obtain ⟨y1, c1⟩ := Option.isSome_iff_exists.1 c1'
          have HN : Hid (∃ Lx Ly, OwJ w (wr.setCell ⟨gy, j, none⟩ (.int .u8 43)) gx gy k ny cx cy Lx Ly RS) := hide ⟨_, _, hj.sety j 43⟩
          have e3 : IntKind.i64.wrap ((j : Int) + 1) = (j : Int) + 1 := by have := unhide HZ; rw [IntKind.wrap_i64]; omega
          clear HX hj c1' hj'
          go_wp2_with fail
          go_roundw
          case rel => exact ⟨⟨_, rfl⟩, j + 1, by go_num, h2, HN⟩
          case measure => simp [intOf]; omega
        · obtain rfl : j = ny := by omega
          have t2 : decide ((j : Int) < (j : Int)) = false := decide_eq_false (by omega)
          obtain ⟨Lx, Ly, hj⟩ := unhide HX
          rw [unhide HRS] at hj
          have J0 := hide hj
          clear HX hj h2 hj' HRS
          go_wp2_with fail
          refine (own19_at a0 c0 l wr ((unhide HA).below (unhide J0).d (Nat.le_refl _))).mono ?_
          rintro e g1a ⟨p1a, s1a, rfl, i1a, b1a⟩
          dsimp only
          have J1a := hide ((unhide J0).below b1a)
          have I1a := hide i1a
          clear J0 i1a b1a
          go_wp2_with fail
          refine (own19_at b0 d0 m g1a ((unhide HB).below (unhide J1a).d (Nat.le_refl _))).mono ?_
          rintro e g2a ⟨p2a, s2a, rfl, i2a, b2a⟩
          dsimp only
          have J2a := hide ((unhide J1a).below b2a)
          have I2a := hide i2a
          have I3a := hide ((unhide I1a).below b2a (Nat.le_refl _))
          clear J1a I1a i2a b2a
          go_wp2_with fail
          refine (unhide HLE _ _ _ _ g2a (unhide I3a) (unhide I2a) (unhide J2a).d).mono ?_
          rintro y g3 ⟨vg, rfl, og, bg⟩
          obtain ⟨pg, rg, rfl, -, -⟩ := own_isOE og
          dsimp only
          have J3 := hide ((unhide J2a).add bg og)
          simp only [List.cons_append, List.nil_append] at J3
          clear J2a I2a I3a og bg
          go_wp2_with fail
          refine (own19_at a0 c0 l g3 ((unhide HA).below (unhide J3).d (Nat.le_refl _))).mono ?_
          rintro e g1b ⟨p1b, s1b, rfl, i1b, b1b⟩
          dsimp only
          have J1b := hide ((unhide J3).below b1b)
          have I1b := hide i1b
          clear J3 i1b b1b
          go_wp2_with fail
          refine (own19_at b0 d0 m g1b ((unhide HB).below (unhide J1b).d (Nat.le_refl _))).mono ?_
          rintro e g2b ⟨p2b, s2b, rfl, i2b, b2b⟩
          dsimp only
          have J2b := hide ((unhide J1b).below b2b)
          have I2b := hide i2b
          have I3b := hide ((unhide I1b).below b2b (Nat.le_refl _))
          clear J1b I1b i2b b2b
          go_wp2_with fail
          refine (unhide HLI _ _ _ _ g2b (unhide I3b) (unhide I2b)).mono ?_
          rintro y g4 ⟨vh, rfl, oh, bh⟩
          obtain ⟨ph, rh, rfl, -, -⟩ := own_isOE oh
          dsimp only
          have J4 := hide ((unhide J2b).add bh oh)
          simp only [List.cons_append, List.nil_append] at J4
          clear J2b I2b I3b oh bh
          have HS := hide (unhide S1 pe6 pk re6 rk g4 (own_io ((unhide J4).r (.slice pe6 D1.length re6, D1) (by simp))) (own_io ((unhide J4).r (.slice pk D1.length rk, D1) (by simp))))
          go_wp2_with fail
          refine (unhide HS).mono ?_
          rintro y h1 ⟨rfl, b1⟩
          dsimp only
          have J5 := hide ((unhide J4).below b1)
          have HS := hide (unhide S2 pe8 pq re8 rq h1 (own_io ((unhide J5).r (.slice pe8 D2.length re8, D2) (by simp))) (own_io ((unhide J5).r (.slice pq D2.length rq, D2) (by simp))))
          clear J4 b1
          go_wp2_with fail
          refine (unhide HS).mono ?_
          rintro y h2 ⟨rfl, b2⟩
          dsimp only
          have J6 := hide ((unhide J5).below b2)
          have HS := hide (unhide S1 pg pk rg rk h2 (own_io ((unhide J6).r (.slice pg D1.length rg, D1) (by simp))) (own_io ((unhide J6).r (.slice pk D1.length rk, D1) (by simp))))
          clear J5 b2
          go_wp2_with fail
          refine (unhide HS).mono ?_
          rintro y h3 ⟨rfl, b3⟩
          dsimp only
          have J7 := hide ((unhide J6).below b3)
          have HS := hide (unhide S2 ph pq rh rq h3 (own_io ((unhide J7).r (.slice ph D2.length rh, D2) (by simp))) (own_io ((unhide J7).r (.slice pq D2.length rq, D2) (by simp))))
          clear J6 b3
          go_wp2_with fail
          refine (unhide HS).mono ?_
          rintro y h4 ⟨rfl, b4⟩
          dsimp only
          have J8 := hide ((unhide J7).below b4).d
          clear J7 b4 HS
          go_wp2_with fail
          exact bodyPost_ret (results_tmp rfl _ _ _) rfl ⟨rfl, unhide J8⟩
end Go.Proofs.YtkdnanlgkedjgabDoor
end

section
namespace Go.Proofs.YtkdnanlgkedjgabDoor
open Go.ChangeShapes Go.WideShapes Go.ChangeAt Go.RowKit

def tab : List Int := (List.range 245).map fun (i : Nat) => cls (i : Int)
theorem laid_eq : (Rows.laid_galley_octet_classes : DataW Unit) = Lib.tabData .u8 tab := by kernel_rfl
theorem ownC : ownKnob Tryd.prog.godebug = none := by kernel_rfl
theorem gTab : Tryd.prog.globalNamed "galley/octet.classes" = some 0 := by kernel_rfl
theorem gTabType : (Tryd.prog.globals[0]?).map (·.type) = some 135 := by kernel_rfl
theorem cellsTab : Tryd.prog.cellsOf 135 = 245 := by kernel_rfl
theorem cellsByte : Tryd.prog.cellsOf 5 = 1 := by kernel_rfl

theorem tab_of_laid {W : World} (h : laidMetH Tryd.prog [("galley/octet.classes", Rows.laid_galley_octet_classes)] W) : Tab W := by
  rw [laid_eq] at h
  have t := Lib.tabIs_of_head (rest := []) gTab gTabType Tryd.underlying135 Tryd.underlying5 cellsByte cellsTab h
  intro b h0 h1
  have hl : tab.length = 245 := by simp [tab]
  have := t.cell gTab b.toNat (by rw [hl]; omega)
  rw [this]
  have hb : b.toNat < 245 := by omega
  have e : tab.getD b.toNat 0 = cls b := by
    simp [tab, List.getD, hb, Int.toNat_of_nonneg h0]
  rw [e]

noncomputable def laidWorld (os : Os) : World :=
  { World.holding Tryd.prog os ⟨#[], #[], []⟩ with heap := (World.holding Tryd.prog os ⟨#[], #[], []⟩).heap.modify 0 fun
      | .cells _ t frozen => .cells (tab.map (Value.int .u8)).toArray t frozen
      | o => o }

theorem laidOut : laidOutB Tryd.prog = true := by kernel_rfl

/-- a []byte that came in reads as these bytes -/
theorem row_of_trod {H : Type} {enc : TypeId × Value → H} {W : World} {a0 : Option Addr} {len0 cap0 : Nat} {d0 : DataW H} {p0 : List MemPlace}
    (h0 : DataW.Trod enc Tryd.prog W 0 (fun _ => true) true 22 (Value.slice a0 len0 cap0) d0 p0)
    {ts : List TypeId} {ds : List (DataW H)} {j : Nat} (hsz : (DataW.weightsEach Tryd.prog ts ds).all (· ≤ reachBytes) = true) (ht : ts[j]? = some 22) (hd : ds[j]? = some d0) :
    ∃ l : List Int, len0 = l.length ∧ IsB W a0 cap0 l := by
  obtain ⟨fuel, hf⟩ := h0
  rcases open_ints Tryd.underlying22 Tryd.underlying5 (by kernel_rfl) hf with ⟨hcs, _⟩ | ⟨x, l, c, zs, hcs, _, hl, hm, hz, hx, hcell, hwz⟩
  · simp [Value.cells] at hcs
    obtain ⟨rfl, rfl, rfl⟩ := hcs
    exact ⟨[], rfl, by simp, by simp, Or.inl rfl, by simp⟩
  · simp [Value.cells] at hcs
    obtain ⟨rfl, rfl, rfl⟩ := hcs
    simp only [Prod.mk.injEq] at hx
    obtain ⟨rfl, _⟩ := hx
    have hz' : zs.length = cap0 := by simpa using hz
    have hs := sized_slice hsz ht hd Tryd.underlying22
    rw [show Tryd.prog.bytesOf 5 = 1 by kernel_rfl] at hs
    have hr : reachBytes = 140737488351232 := rfl
    simp [lits] at hs
    have hlen : (zs.take len0).length = len0 := by simp; omega
    have hby : ∀ x ∈ zs, 0 ≤ x ∧ x ≤ 255 := fun n hn => bounds_u8 (hwz n hn)
    refine ⟨zs.take len0, hlen.symm, by rw [hlen]; omega, by rw [hlen]; omega, ?_, fun y hy => hby y (List.mem_of_mem_take hy)⟩
    rcases Nat.eq_zero_or_pos len0 with h0 | h0
    · subst h0; exact Or.inl rfl
    · obtain ⟨b, off, spot⟩ := x
      have hspot : spot = none := by simpa [Addr.add] using World.cell?_spot (hcell 0 (by omega))
      subst hspot
      refine Or.inr ⟨b, off, rfl, fun i hi => ?_⟩
      rw [hlen] at hi
      have e : (zs.take len0).getD i 0 = zs.getD i 0 := by simp [List.getD, hi]
      rw [e]
      have hc := hcell i (by omega)
      rw [Addr.add_lit] at hc
      refine ⟨hc, ?_⟩
      have := hby (zs[i]'(by omega)) (List.getElem_mem _)
      simpa [List.getD, List.getElem?_eq_getElem (show i < zs.length by omega)] using this

end Go.Proofs.YtkdnanlgkedjgabDoor
end

section
namespace Go.Proofs.YtkdnanlgkedjgabDoor
open Go.ChangeShapes Go.WideShapes Go.ChangeAt Go.RowKit
open Go.ChangeMaps (open_string shut_string)

set_option maxRecDepth 100000 in
theorem diffOwn_contract (H : Type) (enc : TypeId × Value → H) (W : World) (base : Nat) (args : Array Value) (ds gs : List (DataW H)) (before : List MemPlace)
    (hval : ∀ (j : Nat) t v, Tryd.f4.params[j]? = some t → args[j]? = some v → Value.okWide Tryd.prog W .any base t v)
    (hW : DataW.Whole enc Tryd.prog Tryd.f4.params.toList Rows.diffOwnSpec.vars false W args.toList ds gs before) (hsz : (DataW.weightsEach Tryd.prog (Tryd.f4.params.toList ++ (OpenSpec.ofChange Rows.diffOwnSpec).bare.plain.varTypes Tryd.prog) (ds ++ gs)).all (· ≤ reachBytes) = true) (hL : laidMetH Tryd.prog Rows.diffOwnRow.laid W) :
    Calls Tryd.prog 4 args W fun e W' => ∃ v, e = .returned v ∧ Rows.diffOwnSpec.post enc Tryd.prog Tryd.f4 false true false false W args v W' := by
  have hW' := hW
  obtain ⟨p, q, hA0, hV, rfl, _, _⟩ := hW
  have hA : DataW.TrodAll enc Tryd.prog W 0 (fun _ => true) true Tryd.f4.params.toList args.toList ds p := hA0
  rw [Tryd.params4] at hA hval hsz
  obtain ⟨v0, vs0, d0, ds0, p0, q0, hargs, rfl, rfl, h0, r0⟩ := trodAll_cons hA
  obtain ⟨v1, vs1, d1, ds1, p1, q1, rfl, rfl, rfl, h1, r1⟩ := trodAll_cons r0
  obtain ⟨rfl, rfl, rfl⟩ := trodAll_nil r1
  obtain rfl : args = #[v0, v1] := by cases args; simp_all
  obtain ⟨rfl, rfl⟩ := trodVars_none hV
  obtain ⟨a0, len0, cap0, rfl⟩ := okWide_slice Tryd.underlying22 (hval 0 22 v0 rfl rfl)
  have k0 := h0
  have lt0 : ∀ x ∈ p0, x.block < W.heap.size := by obtain ⟨m, hm⟩ := k0; exact DataW.trod_lt m _ _ _ hm
  obtain ⟨l0, rfl, w0⟩ := row_of_trod h0 hsz (j := 0) rfl rfl
  obtain ⟨a1, len1, cap1, rfl⟩ := okWide_slice Tryd.underlying22 (hval 1 22 v1 rfl rfl)
  have k1 := h1
  have lt1 : ∀ x ∈ p1, x.block < W.heap.size := by obtain ⟨m, hm⟩ := k1; exact DataW.trod_lt m _ _ _ hm
  obtain ⟨l1, rfl, w1⟩ := row_of_trod h1 hsz (j := 1) rfl rfl
  clear hA0
  refine (DiffOwn_any a0 cap0 l0 a1 cap1 l1 W w0 w1 (tab_of_laid hL)).mono fun e W' ⟨he, bel⟩ => ?_
  subst he
  exact ⟨_, rfl, _, _, _, [], _, [], hW', trodAll_mk1 (shut_bool Tryd.underlying4 _), (trodAll_cons_mk (Below.trod laidOut (by kernel_rfl) (of_decide_eq_true (by kernel_rfl)) k0 bel lt0) (trodAll_cons_mk (Below.trod laidOut (by kernel_rfl) (of_decide_eq_true (by kernel_rfl)) k1 bel lt1) trodAll_mk0)), rfl, bel.frame _, fun h => by cases h⟩

theorem diffOwn_met (os : Os) : laidMet Tryd.prog Rows.diffOwnRow.laid ((laidWorld os).forCall (fun _ _ => 0) ⟨#[], #[.slice none 0 0, .slice none 0 0], []⟩).memory :=
  laidMet_of_run' 8 (by kernel_rfl) (by kernel_rfl)
theorem diffOwn_reads (os : Os) {H : Type} (enc : TypeId × Value → H) : ∃ places, DataW.whole enc Tryd.prog ((laidWorld os).forCall (fun _ _ => 0) ⟨#[], #[.slice none 0 0, .slice none 0 0], []⟩).memory Tryd.f4.params.toList Rows.diffOwnSpec.vars false (#[.slice none 0 0, .slice none 0 0] : Array Value).toList 8 = some ([.nil, .nil], [], places) :=
  ⟨[], by kernel_rfl⟩

set_option maxRecDepth 100000 in
theorem diffOwn_lifted (os : Os) (started : os.Started) (H : Type) (enc : TypeId × Value → H) (F : Stop.Interp) :
    ReturnsInHanded {} Tryd.checked os 4 .any ((OpenSpec.ofChange Rows.diffOwnSpec).preRow enc Tryd.prog Tryd.f4 Rows.diffOwnRow.domain false Rows.diffOwnRow.laid) (((OpenSpec.ofChange Rows.diffOwnSpec).at F).post enc Tryd.prog Tryd.f4 false true false false) := by
  obtain ⟨places, hx⟩ := diffOwn_reads os enc
  refine returnsInHanded_of_row (C := Tryd.checked) (s := OpenSpec.ofChange Rows.diffOwnSpec) ownC started (by kernel_rfl) Tryd.func4
    (witness_row_at (enc := enc) (C := Tryd.checked) false (laidWorld os) #[.slice none 0 0, .slice none 0 0] rfl (by kernel_rfl) (by kernel_rfl) (by kernel_rfl)
      (OpenSpec.preRow_of_cond 8 hx (by kernel_rfl) (fun k hk => by cases hk) (by kernel_rfl) (diffOwn_met os))) ?_
  intro W base args ds gs before hval hW _ _ hsz hL _ _
  exact diffOwn_contract H enc W base args ds gs before hval hW hsz hL

theorem diffOwn_said : Rows.DiffOwnSaid :=
  OpenClaim.holds_of_cond 4 Tryd.f4 rfl rfl rfl rfl rfl rfl rfl ⟨rfl, rfl, rfl, rfl, rfl⟩ rfl rfl rfl rfl rfl (by kernel_rfl) Tryd.func4 (by kernel_rfl)
    (of_decide_eq_true (by kernel_rfl)) (by unfold Func.isWrapper; first | (rw [if_pos (by decide +kernel)]; kernel_rfl) | (rw [if_neg (by decide +kernel)]; exact ⟨rfl, rfl⟩))
    (fun os started H enc _ F => by rw [OpenClaim.pre_eq_preRow]; exact diffOwn_lifted os started H enc F)

theorem diffOwn_plain (f : FuncId) (fn : Func) (hf : Tryd.pinned.checked.prog.funcNamed "galley/galleylaw19.DiffOwn" = some f) (hfn : Tryd.pinned.checked.prog.funcs[f]? = some fn) :
    false = Tryd.pinned.checked.prog.looks [] ∧ ∀ (j : Nat) t, fn.params[j]? = some t → Tryd.pinned.checked.prog.wantsStandIn t = false := by
  obtain rfl : f = 4 := Option.some.inj ((show Tryd.prog.funcNamed "galley/galleylaw19.DiffOwn" = some 4 by kernel_rfl).symm.trans hf) |>.symm
  obtain rfl : fn = Tryd.f4 := (Option.some.inj (Tryd.func4.symm.trans hfn)).symm
  refine ⟨by kernel_rfl, fun j t ht => ?_⟩
  rw [Tryd.params4] at ht
  obtain rfl : t = 22 := by simpa using Array.mem_of_getElem? ht
  exact (show Tryd.prog.wantsStandIn 22 = false by kernel_rfl)

/-- the card -/
theorem diffOwn_card : Rows.DiffOwnCardSaid :=
  Claim7.holds_tied_plain_at .later [] _ _ _ _ diffOwn_said (fun _ h => by cases h) (by kernel_rfl) (fun _ h => by cases h) diffOwn_row_tie rfl ⟨rfl, rfl⟩ (by kernel_rfl) rfl diffOwn_plain (by kernel_rfl)

#print axioms diffOwn_card
end Go.Proofs.YtkdnanlgkedjgabDoor
end
