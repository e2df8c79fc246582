/- Layer 15: the law's do: one call, of the program and of the document (written by wip/tools/mkv.py). -/
import Derived.Test.YtfllomlighlejaaMo45

namespace Go.Proofs.Ytfllomlighlejaa
open Go.ChangeShapes Go.WideShapes Go.ChangeAt Go.RowKit
attribute [local go_sem] Oper.semAt_some

set_option maxRecDepth 100000 in
set_option maxHeartbeats 8000000 in
theorem do_at (g : Nat) (n : Int) (L : List Mk) (a : Option Addr) (c : Nat) (D : List Mk) (kd : Int) (x : Mk) (ad : Option Addr) (cd : Nat) (d : List Dop) (X : World) (hS : StM X g n L a D) (ho : IsO X ad d) (hz : d = [] ∨ ∃ q, ad = some q) (hdl : d.length * 32 ≤ 140737488355328) (ht : txD d ≤ 1099511627776) :
    Calls Try.prog 22 #[.pointer (some ⟨g, 0, none⟩), msV n a D.length c, acV kd x ad d.length cd] X fun y X' => ∃ g' n' L' a' c' D', y = .returned (.tuple #[.pointer (some ⟨g', 0, none⟩), msV n' a' (List.length D') c', .bool true]) ∧ StM X' g' n' L' a' D' ∧ Below X.heap.size X X' := by
  have hDl : D.length ≤ 1048576 := Nat.le_trans hS.l (by omega)
  have HS := hide hS
  have HSt := hide fun (Y : World) (hY : Below X.heap.size X Y) => hS.m.below hY (Nat.le_refl _)
  have HKt := hide fun (Y : World) (hY : Below X.heap.size X Y) => hS.k.below hY (Nat.le_refl _)
  have HOt := hide fun (Y : World) (hY : Below X.heap.size X Y) => ho.below hY (Nat.le_refl _)
  have HRf := refM_perm (n := n) hS.r x
  have HGt := hS.r.get x.n
  have HPut := hide (hS.r.put x)
  have HDel := hide (hS.r.del x.n)
  have HMov := hide fun (S : List Mk) (hp : S.Perm L) => hS.r.mov (mvM d) (mvM_n d) hp
  have HUn := hide ((hS.r.u).perm hS.r.p)
  have HPp := hide fun (h0 : refM n D x = 0) => hS.p.put ⟨(refM_ok h0).1, (refM_ok h0).2.1⟩
  have HPl := hide fun (h0 : refM n D x = 0) => put_len x (refM_ok h0).2.2 hS.l
  have HDp := hide (hS.p.del x.n)
  have HDl := hide (Nat.le_trans (del_sub x.n D).length_le hS.l)
  have HMp := hide fun (hv : valB d = true) (hf : (frD d : Int) = n) => (show InP (toD d) (movM (mvM d) D) from InP.mov (by rw [hf]; exact hS.p) hv)
  have HMl := hide (show (movM (mvM d) D).length ≤ 1024 by rw [mov_len]; exact hS.l)
  have HCP := hide fun (Y : World) (hY : Below X.heap.size X Y) => copy_op Y ad cd d 24 (ho.below hY (Nat.le_refl _)) hz hdl
  have hdl2 : d.length ≤ 4611686018427387904 := by omega
  obtain ⟨xn, xp, xg⟩ := x
  unfold msV acV
  dsimp only at HGt ⊢
  have HRb := hide (Below.refl X.heap.size X)
  have k4 := (((Cls.new X 29 #[.int .i64 n, .slice a D.length c]).alloc (.cells #[.int .i64 kd, .string xn, .int .i64 xp, .int .i64 xg, .slice ad d.length cd] 64)).alloc (.cells #[.int .i64 0, .slice none 0 0] 29)).alloc (.cells #[.int .i64 0, .slice none 0 0] 29)
  have k5 := ((Cls.new (X.alloc (.cells #[.int .i64 n, .slice a D.length c] 29)) 64 #[.int .i64 kd, .string xn, .int .i64 xp, .int .i64 xg, .slice ad d.length cd]).alloc (.cells #[.int .i64 0, .slice none 0 0] 29)).alloc (.cells #[.int .i64 0, .slice none 0 0] 29)
  have k7 := (Cls.new ((X.alloc (.cells #[.int .i64 n, .slice a D.length c] 29)).alloc (.cells #[.int .i64 kd, .string xn, .int .i64 xp, .int .i64 xg, .slice ad d.length cd] 64)) 29 #[.int .i64 0, .slice none 0 0]).alloc (.cells #[.int .i64 0, .slice none 0 0] 29)
  have k11 := Cls.new (((X.alloc (.cells #[.int .i64 n, .slice a D.length c] 29)).alloc (.cells #[.int .i64 kd, .string xn, .int .i64 xp, .int .i64 xg, .slice ad d.length cd] 64)).alloc (.cells #[.int .i64 0, .slice none 0 0] 29)) 29 #[.int .i64 0, .slice none 0 0]
  have b1 := (Below.refl X.heap.size X).alloc (Nat.le_refl _) (.cells #[.int .i64 n, .slice a D.length c] 29)
  have b2 := b1.alloc b1.size (.cells #[.int .i64 kd, .string xn, .int .i64 xp, .int .i64 xg, .slice ad d.length cd] 64)
  have b3 := b2.alloc b2.size (.cells #[.int .i64 0, .slice none 0 0] 29)
  have b4 := b3.alloc b3.size (.cells #[.int .i64 0, .slice none 0 0] 29)
  rw [World.size_alloc] at k5
  rw [World.size_alloc, World.size_alloc] at k7
  rw [World.size_alloc, World.size_alloc, World.size_alloc] at k11
  have HK := hide (And.intro k4 (And.intro k5 (And.intro k7 k11)))
  have HB := hide b4
  clear hS ho hz hdl HRb k4 k5 k7 k11 b1 b2 b3 b4
  by_cases hk : kd = 1
  · subst hk
    by_cases hg : getM xn D = none
    · go_enter Try.func22, Try.ntmps22
      go_upto_region 5 with fail
      generalize (((X.alloc (.cells #[.int .i64 n, .slice a D.length c] 29)).alloc (.cells #[.int .i64 1, .string xn, .int .i64 xp, .int .i64 xg, .slice ad d.length cd] 64)).alloc (.cells #[.int .i64 0, .slice none 0 0] 29)).alloc (.cells #[.int .i64 0, .slice none 0 0] 29) = w0 at *
      generalize hB1 : X.heap.size + 1 = B1 at *
      generalize hB2 : B1 + 1 = B2 at *
      generalize hB3 : B2 + 1 = B3 at *
      have HNE : Hid ((X.heap.size ≠ B1 ∧ X.heap.size ≠ B2 ∧ X.heap.size ≠ B3 ∧ B1 ≠ B2 ∧ B1 ≠ B3 ∧ B2 ≠ B3) ∧ X.heap.size ≤ B1 ∧ X.heap.size ≤ B2 ∧ X.heap.size ≤ B3) := hide (by omega)
      clear hB1 hB2 hB3
      have a0 := ((unhide HK).2.1.cell 0).trans rfl
      have a1 := ((unhide HK).2.1.cell 1).trans rfl
      have a2 := ((unhide HK).2.1.cell 2).trans rfl
      have a3 := ((unhide HK).2.1.cell 3).trans rfl
      have a4 := ((unhide HK).2.1.cell 4).trans rfl
      have HC1 := hide (MDropE_at g n L xn w0 (unhide HSt w0 (unhide HB)) (HGt.trans hg))
      go_wp2_with fail
      refine (unhide HC1).mono ?_
      rintro y w1 ⟨rfl, x1⟩
      dsimp only
      obtain ⟨k4, k5, k7, k11⟩ := unhide HK
      have k4 := k4.below x1 k4.lt
      have k5 := k5.below x1 k5.lt
      have k7 := k7.below x1 k7.lt
      have k11 := k11.below x1 k11.lt
      have hb1 := (unhide HB).trans (x1.mono (unhide HB).size)
      clear HK HB
      have HB := hide hb1
      have HK := hide (And.intro k4 (And.intro k5 (And.intro k7 k11)))
      clear a0 a1 a2 a3 a4 x1
      obtain ⟨c0, c1⟩ := k4.two
      have a0 := (k5.cell 0).trans rfl
      have a1 := (k5.cell 1).trans rfl
      have a2 := (k5.cell 2).trans rfl
      have a3 := (k5.cell 3).trans rfl
      have a4 := (k5.cell 4).trans rfl
      obtain ⟨y0, y1⟩ := k11.two
      have f0 := k11.frozen 0
      have f1 := k11.frozen 1
      have HC2 := hide (RDrop_all n a c D xn w1 (unhide HKt w1 hb1) hDl)
      unfold msV at HC2
      clear HC1 k4 k5 k7 k11 hb1
      go_wp2_with fail
      refine (unhide HC2).mono ?_
      rintro y w2 h2
      rcases h2 with ⟨_, rfl, x2⟩ | ⟨h0, _⟩
      rotate_left
      · rw [hg] at h0; cases h0
      dsimp only
      obtain ⟨k4, k5, k7, k11⟩ := unhide HK
      have k4 := k4.below x2 k4.lt
      have k5 := k5.below x2 k5.lt
      have k7 := k7.below x2 k7.lt
      have k11 := k11.below x2 k11.lt
      have hb2 := (unhide HB).trans (x2.mono (unhide HB).size)
      clear HK HB
      have HB := hide hb2
      have HK := hide (And.intro k4 (And.intro k5 (And.intro k7 k11)))
      clear a0 a1 a2 a3 a4 c0 c1 y0 y1 f0 f1 x2
      obtain ⟨c0, c1⟩ := k4.two
      have a0 := (k5.cell 0).trans rfl
      have a1 := (k5.cell 1).trans rfl
      have a2 := (k5.cell 2).trans rfl
      have a3 := (k5.cell 3).trans rfl
      have a4 := (k5.cell 4).trans rfl
      obtain ⟨y0, y1⟩ := k11.two
      have f0 := k11.frozen 0
      have f1 := k11.frozen 1
      clear HC2
      have kz := k11.put2 (.int .i64 n) (.slice a D.length c) hb2 (unhide HNE).2.2.2
      obtain ⟨j0, j1⟩ := kz.1.two
      have k4z := k4.apart2 (unhide HNE).1.2.2.1 (.int .i64 n) (.slice a D.length c)
      have k7z := k7.apart2 (unhide HNE).1.2.2.2.2.2 (.int .i64 n) (.slice a D.length c)
      have HBz := hide kz.2
      have HKz := hide (And.intro k4z (And.intro k7z kz.1))
      clear k4 k5 k7 k11 hb2 kz k4z k7z HK HB
      go_upto_region 17 with fail
      clear j0 j1 f0 f1 y0 y1 c0 c1 a0 a1 a2 a3 a4
      generalize (w2.setCell ⟨B3, 0, none⟩ (.int .i64 n)).setCell ⟨B3, 1, none⟩ (.slice a D.length c) = wz at *
      have HSz : Hid (wz.drew.cell? ⟨X.heap.size, 0, none⟩ = some (.int .i64 n) ∧ wz.drew.cell? ⟨X.heap.size, 1, none⟩ = some (.slice a D.length c)) := hide ((unhide HKz).1.two)
      have kS : Cls wz.drew X.heap.size 29 #[.int .i64 n, .slice a D.length c] := (unhide HKz).1
      have HSy : Hid (((wz.drew.setCell ⟨B2, 0, none⟩ (.int .i64 n)).setCell ⟨B2, 1, none⟩ (.slice a D.length c)).cell? ⟨X.heap.size, 0, none⟩ = some (.int .i64 n) ∧ ((wz.drew.setCell ⟨B2, 0, none⟩ (.int .i64 n)).setCell ⟨B2, 1, none⟩ (.slice a D.length c)).cell? ⟨X.heap.size, 1, none⟩ = some (.slice a D.length c)) := hide (kS.apart2 (unhide HNE).1.2.1 (.int .i64 n) (.slice a D.length c)).two
      clear kS
      have m7 : Cls wz.drew B2 29 #[.int .i64 0, .slice none 0 0] := (unhide HKz).2.1
      have hbz := (unhide HBz).drew
      have q7 := m7.put2 (.int .i64 n) (.slice a D.length c) hbz (unhide HNE).2.2.1
      obtain ⟨r0, r1⟩ := q7.1.two
      have HB9 := hide q7.2
      have f0 := m7.frozen 0
      have f1 := m7.frozen 1
      obtain ⟨y0, y1⟩ := m7.two
      clear hbz q7 HKz HBz
      refine regionL (S := fun z => z.cell? ⟨X.heap.size, 0, none⟩ = some (.int .i64 n) ∧ z.cell? ⟨X.heap.size, 1, none⟩ = some (.slice a D.length c)) (fun _ => false) (by kernel_rfl) ?_
      generalize wz.drew = zz at *
      refine anyL_take (i := 0) (v := ?vd00) rfl (by kernel_rfl) (by kernel_rfl) (by kernel_rfl) (by kernel_rfl) (fun _ _ _ h => h) (Or.inl ⟨by rfl, ?hd00⟩) (unhide HSz) ?_
      case hd00 => (intro w hSw; (try dsimp only at hSw); go_simp) <;> with_reducible rfl
      simp only [Act.put, List.getElem_toArray, List.getElem_cons_zero, List.setIfInBounds_toArray, List.set_cons_zero, List.set_cons_succ]
      refine anyL_take (i := 1) (v := ?vd01) rfl (by kernel_rfl) (by kernel_rfl) (by kernel_rfl) (by kernel_rfl) (fun _ _ _ h => h) (Or.inl ⟨by rfl, ?hd01⟩) (unhide HSz) ?_
      case hd01 => (intro w hSw; (try dsimp only at hSw); go_simp) <;> with_reducible rfl
      simp only [Act.put, List.getElem_toArray, List.getElem_cons_zero, List.getElem_cons_succ, List.setIfInBounds_toArray, List.set_cons_zero, List.set_cons_succ]
      refine anyL_take (i := 2) (v := ?vd02) rfl (by kernel_rfl) (by kernel_rfl) (by kernel_rfl) (by kernel_rfl) (fun _ _ _ h => h) (Or.inl ⟨by rfl, ?hd02⟩) (unhide HSz) ?_
      case hd02 => (intro w hSw; (try dsimp only at hSw); go_simp) <;> with_reducible rfl
      simp only [Act.put, List.getElem_toArray, List.getElem_cons_zero, List.getElem_cons_succ, List.setIfInBounds_toArray, List.set_cons_zero, List.set_cons_succ]
      refine anyL_ready (rs := [3]) (by kernel_rfl) (by simp) ?_
      refine AllL.cons rfl (fun K hK => ?_) AllL.nil
      go_simp
      clear m7
      refine unhide hK _ _ (fun _ => unhide HSy) ?_
      clear hK K
      refine anyL_take (i := 4) (v := ?vd03) rfl (by kernel_rfl) (by kernel_rfl) (by kernel_rfl) (by kernel_rfl) (fun _ _ _ h => h) (Or.inl ⟨by rfl, ?hd03⟩) (unhide HSy) ?_
      case hd03 => (intro w hSw; (try dsimp only at hSw); go_simp) <;> with_reducible rfl
      simp only [Act.put, List.getElem_toArray, List.getElem_cons_zero, List.getElem_cons_succ, List.setIfInBounds_toArray, List.set_cons_zero, List.set_cons_succ]
      refine anyL_done (by kernel_rfl) ?_ _
      go_wp2_with fail
      refine bodyPost_ret (v := .tuple #[.pointer (some ⟨g, 0, none⟩), .agg #[.int .i64 n, .slice a D.length c], .bool true]) (by simp [results, Try.results22, go_sem, r0, r1]) rfl ?_
      exact ⟨g, n, L, a, c, D, rfl, (unhide HS).below (unhide HB9), unhide HB9⟩
    · have hg : (getM xn D).isSome = true := by
        cases hq : getM xn D with
        | none => exact absurd hq hg
        | some z => rfl
      go_enter Try.func22, Try.ntmps22
      go_upto_region 5 with fail
      generalize (((X.alloc (.cells #[.int .i64 n, .slice a D.length c] 29)).alloc (.cells #[.int .i64 1, .string xn, .int .i64 xp, .int .i64 xg, .slice ad d.length cd] 64)).alloc (.cells #[.int .i64 0, .slice none 0 0] 29)).alloc (.cells #[.int .i64 0, .slice none 0 0] 29) = w0 at *
      generalize hB1 : X.heap.size + 1 = B1 at *
      generalize hB2 : B1 + 1 = B2 at *
      generalize hB3 : B2 + 1 = B3 at *
      have HNE : Hid ((X.heap.size ≠ B1 ∧ X.heap.size ≠ B2 ∧ X.heap.size ≠ B3 ∧ B1 ≠ B2 ∧ B1 ≠ B3 ∧ B2 ≠ B3) ∧ X.heap.size ≤ B1 ∧ X.heap.size ≤ B2 ∧ X.heap.size ≤ B3) := hide (by omega)
      clear hB1 hB2 hB3
      have a0 := ((unhide HK).2.1.cell 0).trans rfl
      have a1 := ((unhide HK).2.1.cell 1).trans rfl
      have a2 := ((unhide HK).2.1.cell 2).trans rfl
      have a3 := ((unhide HK).2.1.cell 3).trans rfl
      have a4 := ((unhide HK).2.1.cell 4).trans rfl
      obtain ⟨mx, hmx⟩ : ∃ mx, getM xn L = some mx := by rw [HGt]; exact Option.isSome_iff_exists.1 hg
      have HC1 := hide (MDrop_at g n L xn w0 (unhide HSt w0 (unhide HB)) mx hmx)
      clear hmx
      go_wp2_with fail
      refine (unhide HC1).mono ?_
      rintro y w1 ⟨g', rfl, m1, x1⟩
      dsimp only
      have HM0 := hide m1
      clear m1
      obtain ⟨k4, k5, k7, k11⟩ := unhide HK
      have k4 := k4.below x1 k4.lt
      have k5 := k5.below x1 k5.lt
      have k7 := k7.below x1 k7.lt
      have k11 := k11.below x1 k11.lt
      have hb1 := (unhide HB).trans (x1.mono (unhide HB).size)
      clear HK HB
      have HB := hide hb1
      have HK := hide (And.intro k4 (And.intro k5 (And.intro k7 k11)))
      clear a0 a1 a2 a3 a4 x1
      obtain ⟨c0, c1⟩ := k4.two
      have a0 := (k5.cell 0).trans rfl
      have a1 := (k5.cell 1).trans rfl
      have a2 := (k5.cell 2).trans rfl
      have a3 := (k5.cell 3).trans rfl
      have a4 := (k5.cell 4).trans rfl
      obtain ⟨y0, y1⟩ := k11.two
      have f0 := k11.frozen 0
      have f1 := k11.frozen 1
      have HC2 := hide (RDrop_all n a c D xn w1 (unhide HKt w1 hb1) hDl)
      unfold msV at HC2
      clear HC1 k4 k5 k7 k11 hb1
      go_wp2_with fail
      refine (unhide HC2).mono ?_
      rintro y w2 h2
      rcases h2 with ⟨h0, _⟩ | ⟨_, v2, rfl, o2, x2⟩
      · rw [h0] at hg; cases hg
      dsimp only
      have HM1 := hide ((unhide HM0).below x2 (Nat.le_refl _))
      clear HM0
      obtain ⟨av, cv, hvv, _⟩ := rowD_form o2
      subst hvv
      obtain ⟨k4, k5, k7, k11⟩ := unhide HK
      have k4 := k4.below x2 k4.lt
      have k5 := k5.below x2 k5.lt
      have k7 := k7.below x2 k7.lt
      have k11 := k11.below x2 k11.lt
      have hb2 := (unhide HB).trans (x2.mono (unhide HB).size)
      clear HK HB
      have HB := hide hb2
      have HK := hide (And.intro k4 (And.intro k5 (And.intro k7 k11)))
      clear a0 a1 a2 a3 a4 c0 c1 y0 y1 f0 f1 x2
      obtain ⟨c0, c1⟩ := k4.two
      have a0 := (k5.cell 0).trans rfl
      have a1 := (k5.cell 1).trans rfl
      have a2 := (k5.cell 2).trans rfl
      have a3 := (k5.cell 3).trans rfl
      have a4 := (k5.cell 4).trans rfl
      obtain ⟨y0, y1⟩ := k11.two
      have f0 := k11.frozen 0
      have f1 := k11.frozen 1
      clear HC2
      have kz := k11.put2 (.int .i64 n) (.slice av (List.length (delM xn D)) cv) hb2 (unhide HNE).2.2.2
      obtain ⟨j0, j1⟩ := kz.1.two
      have k4z := k4.apart2 (unhide HNE).1.2.2.1 (.int .i64 n) (.slice av (List.length (delM xn D)) cv)
      have k7z := k7.apart2 (unhide HNE).1.2.2.2.2.2 (.int .i64 n) (.slice av (List.length (delM xn D)) cv)
      have mz := (unhide HM1).put2 k11 (.int .i64 n) (.slice av (List.length (delM xn D)) cv)
      have oz := row_put2 o2 k11 (.int .i64 n) (.slice av (List.length (delM xn D)) cv)
      have HMz := hide mz
      have HOz := hide oz
      clear mz oz o2
      have HBz := hide kz.2
      have HKz := hide (And.intro k4z (And.intro k7z kz.1))
      clear k4 k5 k7 k11 hb2 kz k4z k7z HK HB
      go_upto_region 18 with fail
      clear j0 j1 f0 f1 y0 y1 c0 c1 a0 a1 a2 a3 a4
      generalize (w2.setCell ⟨B3, 0, none⟩ (.int .i64 n)).setCell ⟨B3, 1, none⟩ (.slice av (List.length (delM xn D)) cv) = wz at *
      have HSz : Hid (wz.drew.cell? ⟨B3, 0, none⟩ = some (.int .i64 n) ∧ wz.drew.cell? ⟨B3, 1, none⟩ = some ((.slice av (List.length (delM xn D)) cv))) := hide ((unhide HKz).2.2.two)
      have kS : Cls wz.drew B3 29 #[.int .i64 n, (.slice av (List.length (delM xn D)) cv)] := (unhide HKz).2.2
      have HSy : Hid (((wz.drew.setCell ⟨B2, 0, none⟩ (.int .i64 n)).setCell ⟨B2, 1, none⟩ (.slice av (List.length (delM xn D)) cv)).cell? ⟨B3, 0, none⟩ = some (.int .i64 n) ∧ ((wz.drew.setCell ⟨B2, 0, none⟩ (.int .i64 n)).setCell ⟨B2, 1, none⟩ (.slice av (List.length (delM xn D)) cv)).cell? ⟨B3, 1, none⟩ = some ((.slice av (List.length (delM xn D)) cv))) := hide (kS.apart2 (Ne.symm (unhide HNE).1.2.2.2.2.2) (.int .i64 n) (.slice av (List.length (delM xn D)) cv)).two
      clear kS
      have m7 : Cls wz.drew B2 29 #[.int .i64 0, .slice none 0 0] := (unhide HKz).2.1
      have hbz := (unhide HBz).drew
      have q7 := m7.put2 (.int .i64 n) (.slice av (List.length (delM xn D)) cv) hbz (unhide HNE).2.2.1
      obtain ⟨r0, r1⟩ := q7.1.two
      have HB9 := hide q7.2
      have mz := ((unhide HMz).below (Below.refl _ _).drew (Nat.le_refl _)).put2 m7 (.int .i64 n) (.slice av (List.length (delM xn D)) cv)
      have oz := row_put2 (W := wz.drew) (unhide HOz) m7 (.int .i64 n) (.slice av (List.length (delM xn D)) cv)
      obtain ⟨ax, cx, ex, ix, _⟩ := own_isK oz
      injection ex with ex1 ex2 ex3
      subst ex1 ex3
      have HFin := hide (StM.mk mz ix (unhide HDel) (unhide HDp) (unhide HDl) ((unhide HS).q) (own_typ oz))
      clear mz oz ix HMz HOz
      have f0 := m7.frozen 0
      have f1 := m7.frozen 1
      obtain ⟨y0, y1⟩ := m7.two
      clear hbz q7 HKz HBz
      refine regionL (S := fun z => z.cell? ⟨B3, 0, none⟩ = some (.int .i64 n) ∧ z.cell? ⟨B3, 1, none⟩ = some ((.slice av (List.length (delM xn D)) cv))) (fun _ => false) (by kernel_rfl) ?_
      generalize wz.drew = zz at *
      refine anyL_take (i := 0) (v := ?vd14) rfl (by kernel_rfl) (by kernel_rfl) (by kernel_rfl) (by kernel_rfl) (fun _ _ _ h => h) (Or.inl ⟨by rfl, ?hd14⟩) (unhide HSz) ?_
      case hd14 => (intro w hSw; (try dsimp only at hSw); go_simp) <;> with_reducible rfl
      simp only [Act.put, List.getElem_toArray, List.getElem_cons_zero, List.setIfInBounds_toArray, List.set_cons_zero, List.set_cons_succ]
      refine anyL_take (i := 1) (v := ?vd15) rfl (by kernel_rfl) (by kernel_rfl) (by kernel_rfl) (by kernel_rfl) (fun _ _ _ h => h) (Or.inl ⟨by rfl, ?hd15⟩) (unhide HSz) ?_
      case hd15 => (intro w hSw; (try dsimp only at hSw); go_simp) <;> with_reducible rfl
      simp only [Act.put, List.getElem_toArray, List.getElem_cons_zero, List.getElem_cons_succ, List.setIfInBounds_toArray, List.set_cons_zero, List.set_cons_succ]
      refine anyL_take (i := 2) (v := ?vd16) rfl (by kernel_rfl) (by kernel_rfl) (by kernel_rfl) (by kernel_rfl) (fun _ _ _ h => h) (Or.inl ⟨by rfl, ?hd16⟩) (unhide HSz) ?_
      case hd16 => (intro w hSw; (try dsimp only at hSw); go_simp) <;> with_reducible rfl
      simp only [Act.put, List.getElem_toArray, List.getElem_cons_zero, List.getElem_cons_succ, List.setIfInBounds_toArray, List.set_cons_zero, List.set_cons_succ]
      refine anyL_ready (rs := [3]) (by kernel_rfl) (by simp) ?_
      refine AllL.cons rfl (fun K hK => ?_) AllL.nil
      go_simp
      clear m7
      refine unhide hK _ _ (fun _ => unhide HSy) ?_
      clear hK K
      refine anyL_take (i := 4) (v := ?vd17) rfl (by kernel_rfl) (by kernel_rfl) (by kernel_rfl) (by kernel_rfl) (fun _ _ _ h => h) (Or.inl ⟨by rfl, ?hd17⟩) (unhide HSy) ?_
      case hd17 => (intro w hSw; (try dsimp only at hSw); go_simp) <;> with_reducible rfl
      simp only [Act.put, List.getElem_toArray, List.getElem_cons_zero, List.getElem_cons_succ, List.setIfInBounds_toArray, List.set_cons_zero, List.set_cons_succ]
      refine anyL_done (by kernel_rfl) ?_ _
      go_wp2_with fail
      refine bodyPost_ret (v := .tuple #[.pointer (some ⟨g', 0, none⟩), .agg #[.int .i64 n, (.slice av (List.length (delM xn D)) cv)], .bool true]) (by simp [results, Try.results22, go_sem, r0, r1]) rfl ?_
      exact ⟨g', n, (delM xn L), av, cv, (delM xn D), rfl, unhide HFin, unhide HB9⟩
  by_cases hk2 : kd = 2
  · subst hk2
    clear hk
    cases hv : valB d with
    | false =>
      have HV := hide hv
      clear hv
      go_enter Try.func22, Try.ntmps22
      go_upto_region 5 with fail
      generalize (((X.alloc (.cells #[.int .i64 n, .slice a D.length c] 29)).alloc (.cells #[.int .i64 2, .string xn, .int .i64 xp, .int .i64 xg, .slice ad d.length cd] 64)).alloc (.cells #[.int .i64 0, .slice none 0 0] 29)).alloc (.cells #[.int .i64 0, .slice none 0 0] 29) = w0 at *
      generalize hB1 : X.heap.size + 1 = B1 at *
      generalize hB2 : B1 + 1 = B2 at *
      generalize hB3 : B2 + 1 = B3 at *
      have HNE : Hid ((X.heap.size ≠ B1 ∧ X.heap.size ≠ B2 ∧ X.heap.size ≠ B3 ∧ B1 ≠ B2 ∧ B1 ≠ B3 ∧ B2 ≠ B3) ∧ X.heap.size ≤ B1 ∧ X.heap.size ≤ B2 ∧ X.heap.size ≤ B3) := hide (by omega)
      clear hB1 hB2 hB3
      have a0 := ((unhide HK).2.1.cell 0).trans rfl
      have a1 := ((unhide HK).2.1.cell 1).trans rfl
      have a2 := ((unhide HK).2.1.cell 2).trans rfl
      have a3 := ((unhide HK).2.1.cell 3).trans rfl
      have a4 := ((unhide HK).2.1.cell 4).trans rfl
      obtain ⟨vc, wc, rc, oc, xc⟩ := unhide HCP w0 (unhide HB)
      obtain ⟨ac, cc, hvc, ic, _⟩ := own_isO oc
      subst hvc
      have R := hide rc
      have hbc := (unhide HB).trans (xc.mono (unhide HB).size)
      have HXc := hide xc
      have a4' := (((unhide HK).2.1.alloc (.cells #[] 50)).cell 4).trans rfl
      have HC1 := hide (MBehV_at g ac cc d wc ic hdl2 (unhide HV))
      clear rc oc xc ic hbc
      go_wp2_with (at_builtin; refine wpList_append_known rfl _ _ 24 24 rfl _ _ rfl rfl _ _ (unhide R) ?_; clear R)
      refine (unhide HC1).mono ?_
      rintro y w1 ⟨rfl, x1⟩
      dsimp only
      have x1 : Below w0.heap.size w0 w1 := (unhide HXc).trans (x1.mono (unhide HXc).size)
      clear HXc a4'
      obtain ⟨k4, k5, k7, k11⟩ := unhide HK
      have k4 := k4.below x1 k4.lt
      have k5 := k5.below x1 k5.lt
      have k7 := k7.below x1 k7.lt
      have k11 := k11.below x1 k11.lt
      have hb1 := (unhide HB).trans (x1.mono (unhide HB).size)
      clear HK HB
      have HB := hide hb1
      have HK := hide (And.intro k4 (And.intro k5 (And.intro k7 k11)))
      clear a0 a1 a2 a3 a4 x1
      obtain ⟨c0, c1⟩ := k4.two
      have a0 := (k5.cell 0).trans rfl
      have a1 := (k5.cell 1).trans rfl
      have a2 := (k5.cell 2).trans rfl
      have a3 := (k5.cell 3).trans rfl
      have a4 := (k5.cell 4).trans rfl
      obtain ⟨y0, y1⟩ := k11.two
      have f0 := k11.frozen 0
      have f1 := k11.frozen 1
      have HC2 := hide (RBeh_all n a c D ad cd d w1 (unhide HKt w1 hb1) hDl (unhide HOt w1 hb1) hdl2 ht)
      unfold msV at HC2
      clear HC1 k4 k5 k7 k11 hb1
      go_wp2_with fail
      refine (unhide HC2).mono ?_
      rintro y w2 h2
      rcases h2 with ⟨_, rfl, x2⟩ | ⟨h0, _⟩ | ⟨h0, _⟩
      rotate_left
      · rw [unhide HV] at h0; cases h0
      · rw [unhide HV] at h0; cases h0
      dsimp only
      obtain ⟨k4, k5, k7, k11⟩ := unhide HK
      have k4 := k4.below x2 k4.lt
      have k5 := k5.below x2 k5.lt
      have k7 := k7.below x2 k7.lt
      have k11 := k11.below x2 k11.lt
      have hb2 := (unhide HB).trans (x2.mono (unhide HB).size)
      clear HK HB
      have HB := hide hb2
      have HK := hide (And.intro k4 (And.intro k5 (And.intro k7 k11)))
      clear a0 a1 a2 a3 a4 c0 c1 y0 y1 f0 f1 x2
      obtain ⟨c0, c1⟩ := k4.two
      have a0 := (k5.cell 0).trans rfl
      have a1 := (k5.cell 1).trans rfl
      have a2 := (k5.cell 2).trans rfl
      have a3 := (k5.cell 3).trans rfl
      have a4 := (k5.cell 4).trans rfl
      obtain ⟨y0, y1⟩ := k11.two
      have f0 := k11.frozen 0
      have f1 := k11.frozen 1
      clear HC2
      have kz := k11.put2 (.int .i64 n) (.slice a D.length c) hb2 (unhide HNE).2.2.2
      obtain ⟨j0, j1⟩ := kz.1.two
      have k4z := k4.apart2 (unhide HNE).1.2.2.1 (.int .i64 n) (.slice a D.length c)
      have k7z := k7.apart2 (unhide HNE).1.2.2.2.2.2 (.int .i64 n) (.slice a D.length c)
      have HBz := hide kz.2
      have HKz := hide (And.intro k4z (And.intro k7z kz.1))
      clear k4 k5 k7 k11 hb2 kz k4z k7z HK HB
      go_upto_region 17 with fail
      clear j0 j1 f0 f1 y0 y1 c0 c1 a0 a1 a2 a3 a4
      generalize (w2.setCell ⟨B3, 0, none⟩ (.int .i64 n)).setCell ⟨B3, 1, none⟩ (.slice a D.length c) = wz at *
      have HSz : Hid (wz.drew.cell? ⟨X.heap.size, 0, none⟩ = some (.int .i64 n) ∧ wz.drew.cell? ⟨X.heap.size, 1, none⟩ = some (.slice a D.length c)) := hide ((unhide HKz).1.two)
      have kS : Cls wz.drew X.heap.size 29 #[.int .i64 n, .slice a D.length c] := (unhide HKz).1
      have HSy : Hid (((wz.drew.setCell ⟨B2, 0, none⟩ (.int .i64 n)).setCell ⟨B2, 1, none⟩ (.slice a D.length c)).cell? ⟨X.heap.size, 0, none⟩ = some (.int .i64 n) ∧ ((wz.drew.setCell ⟨B2, 0, none⟩ (.int .i64 n)).setCell ⟨B2, 1, none⟩ (.slice a D.length c)).cell? ⟨X.heap.size, 1, none⟩ = some (.slice a D.length c)) := hide (kS.apart2 (unhide HNE).1.2.1 (.int .i64 n) (.slice a D.length c)).two
      clear kS
      have m7 : Cls wz.drew B2 29 #[.int .i64 0, .slice none 0 0] := (unhide HKz).2.1
      have hbz := (unhide HBz).drew
      have q7 := m7.put2 (.int .i64 n) (.slice a D.length c) hbz (unhide HNE).2.2.1
      obtain ⟨r0, r1⟩ := q7.1.two
      have HB9 := hide q7.2
      have f0 := m7.frozen 0
      have f1 := m7.frozen 1
      obtain ⟨y0, y1⟩ := m7.two
      clear hbz q7 HKz HBz
      refine regionL (S := fun z => z.cell? ⟨X.heap.size, 0, none⟩ = some (.int .i64 n) ∧ z.cell? ⟨X.heap.size, 1, none⟩ = some (.slice a D.length c)) (fun _ => false) (by kernel_rfl) ?_
      generalize wz.drew = zz at *
      refine anyL_take (i := 0) (v := ?vd08) rfl (by kernel_rfl) (by kernel_rfl) (by kernel_rfl) (by kernel_rfl) (fun _ _ _ h => h) (Or.inl ⟨by rfl, ?hd08⟩) (unhide HSz) ?_
      case hd08 => (intro w hSw; (try dsimp only at hSw); go_simp) <;> with_reducible rfl
      simp only [Act.put, List.getElem_toArray, List.getElem_cons_zero, List.setIfInBounds_toArray, List.set_cons_zero, List.set_cons_succ]
      refine anyL_take (i := 1) (v := ?vd09) rfl (by kernel_rfl) (by kernel_rfl) (by kernel_rfl) (by kernel_rfl) (fun _ _ _ h => h) (Or.inl ⟨by rfl, ?hd09⟩) (unhide HSz) ?_
      case hd09 => (intro w hSw; (try dsimp only at hSw); go_simp) <;> with_reducible rfl
      simp only [Act.put, List.getElem_toArray, List.getElem_cons_zero, List.getElem_cons_succ, List.setIfInBounds_toArray, List.set_cons_zero, List.set_cons_succ]
      refine anyL_take (i := 2) (v := ?vd010) rfl (by kernel_rfl) (by kernel_rfl) (by kernel_rfl) (by kernel_rfl) (fun _ _ _ h => h) (Or.inl ⟨by rfl, ?hd010⟩) (unhide HSz) ?_
      case hd010 => (intro w hSw; (try dsimp only at hSw); go_simp) <;> with_reducible rfl
      simp only [Act.put, List.getElem_toArray, List.getElem_cons_zero, List.getElem_cons_succ, List.setIfInBounds_toArray, List.set_cons_zero, List.set_cons_succ]
      refine anyL_ready (rs := [3]) (by kernel_rfl) (by simp) ?_
      refine AllL.cons rfl (fun K hK => ?_) AllL.nil
      go_simp
      clear m7
      refine unhide hK _ _ (fun _ => unhide HSy) ?_
      clear hK K
      refine anyL_take (i := 4) (v := ?vd011) rfl (by kernel_rfl) (by kernel_rfl) (by kernel_rfl) (by kernel_rfl) (fun _ _ _ h => h) (Or.inl ⟨by rfl, ?hd011⟩) (unhide HSy) ?_
      case hd011 => (intro w hSw; (try dsimp only at hSw); go_simp) <;> with_reducible rfl
      simp only [Act.put, List.getElem_toArray, List.getElem_cons_zero, List.getElem_cons_succ, List.setIfInBounds_toArray, List.set_cons_zero, List.set_cons_succ]
      refine anyL_done (by kernel_rfl) ?_ _
      go_wp2_with fail
      refine bodyPost_ret (v := .tuple #[.pointer (some ⟨g, 0, none⟩), .agg #[.int .i64 n, .slice a D.length c], .bool true]) (by simp [results, Try.results22, go_sem, r0, r1]) rfl ?_
      exact ⟨g, n, L, a, c, D, rfl, (unhide HS).below (unhide HB9), unhide HB9⟩
    | true =>
      have HV := hide hv
      clear hv
      by_cases hf : (frD d : Int) = n
      · have HF := hide hf
        clear hf
        go_enter Try.func22, Try.ntmps22
        go_upto_region 5 with fail
        generalize (((X.alloc (.cells #[.int .i64 n, .slice a D.length c] 29)).alloc (.cells #[.int .i64 2, .string xn, .int .i64 xp, .int .i64 xg, .slice ad d.length cd] 64)).alloc (.cells #[.int .i64 0, .slice none 0 0] 29)).alloc (.cells #[.int .i64 0, .slice none 0 0] 29) = w0 at *
        generalize hB1 : X.heap.size + 1 = B1 at *
        generalize hB2 : B1 + 1 = B2 at *
        generalize hB3 : B2 + 1 = B3 at *
        have HNE : Hid ((X.heap.size ≠ B1 ∧ X.heap.size ≠ B2 ∧ X.heap.size ≠ B3 ∧ B1 ≠ B2 ∧ B1 ≠ B3 ∧ B2 ≠ B3) ∧ X.heap.size ≤ B1 ∧ X.heap.size ≤ B2 ∧ X.heap.size ≤ B3) := hide (by omega)
        clear hB1 hB2 hB3
        have a0 := ((unhide HK).2.1.cell 0).trans rfl
        have a1 := ((unhide HK).2.1.cell 1).trans rfl
        have a2 := ((unhide HK).2.1.cell 2).trans rfl
        have a3 := ((unhide HK).2.1.cell 3).trans rfl
        have a4 := ((unhide HK).2.1.cell 4).trans rfl
        obtain ⟨vc, wc, rc, oc, xc⟩ := unhide HCP w0 (unhide HB)
        obtain ⟨ac, cc, hvc, ic, _⟩ := own_isO oc
        subst hvc
        have R := hide rc
        have hbc := (unhide HB).trans (xc.mono (unhide HB).size)
        have HXc := hide xc
        have a4' := (((unhide HK).2.1.alloc (.cells #[] 50)).cell 4).trans rfl
        have HC1 := hide (MBeh_at g n L ac cc d wc (unhide HSt wc hbc) ic hdl2 (unhide HV) (unhide HF) (unhide HUn))
        clear rc oc xc ic hbc
        go_wp2_with (at_builtin; refine wpList_append_known rfl _ _ 24 24 rfl _ _ rfl rfl _ _ (unhide R) ?_; clear R)
        refine (unhide HC1).mono ?_
        rintro y w1 ⟨g', S, rfl, hp, m1, x1⟩
        dsimp only
        have x1 : Below w0.heap.size w0 w1 := (unhide HXc).trans (x1.mono (unhide HXc).size)
        clear HXc a4'
        have HM0 := hide m1
        have HPm := hide hp
        clear m1 hp
        obtain ⟨k4, k5, k7, k11⟩ := unhide HK
        have k4 := k4.below x1 k4.lt
        have k5 := k5.below x1 k5.lt
        have k7 := k7.below x1 k7.lt
        have k11 := k11.below x1 k11.lt
        have hb1 := (unhide HB).trans (x1.mono (unhide HB).size)
        clear HK HB
        have HB := hide hb1
        have HK := hide (And.intro k4 (And.intro k5 (And.intro k7 k11)))
        clear a0 a1 a2 a3 a4 x1
        obtain ⟨c0, c1⟩ := k4.two
        have a0 := (k5.cell 0).trans rfl
        have a1 := (k5.cell 1).trans rfl
        have a2 := (k5.cell 2).trans rfl
        have a3 := (k5.cell 3).trans rfl
        have a4 := (k5.cell 4).trans rfl
        obtain ⟨y0, y1⟩ := k11.two
        have f0 := k11.frozen 0
        have f1 := k11.frozen 1
        have HC2 := hide (RBeh_all n a c D ad cd d w1 (unhide HKt w1 hb1) hDl (unhide HOt w1 hb1) hdl2 ht)
        unfold msV at HC2
        clear HC1 k4 k5 k7 k11 hb1
        go_wp2_with fail
        refine (unhide HC2).mono ?_
        rintro y w2 h2
        rcases h2 with ⟨h0, _⟩ | ⟨_, h0, _⟩ | ⟨_, _, v2, rfl, o2, x2⟩
        · rw [unhide HV] at h0; cases h0
        · exact absurd (unhide HF) h0
        dsimp only
        have HM1 := hide ((unhide HM0).below x2 (Nat.le_refl _))
        clear HM0
        obtain ⟨av, cv, hvv, _⟩ := rowD_form o2
        subst hvv
        obtain ⟨k4, k5, k7, k11⟩ := unhide HK
        have k4 := k4.below x2 k4.lt
        have k5 := k5.below x2 k5.lt
        have k7 := k7.below x2 k7.lt
        have k11 := k11.below x2 k11.lt
        have hb2 := (unhide HB).trans (x2.mono (unhide HB).size)
        clear HK HB
        have HB := hide hb2
        have HK := hide (And.intro k4 (And.intro k5 (And.intro k7 k11)))
        clear a0 a1 a2 a3 a4 c0 c1 y0 y1 f0 f1 x2
        obtain ⟨c0, c1⟩ := k4.two
        have a0 := (k5.cell 0).trans rfl
        have a1 := (k5.cell 1).trans rfl
        have a2 := (k5.cell 2).trans rfl
        have a3 := (k5.cell 3).trans rfl
        have a4 := (k5.cell 4).trans rfl
        obtain ⟨y0, y1⟩ := k11.two
        have f0 := k11.frozen 0
        have f1 := k11.frozen 1
        clear HC2
        have kz := k11.put2 (.int .i64 (toD d : Int)) (.slice av (List.length (movM (mvM d) D)) cv) hb2 (unhide HNE).2.2.2
        obtain ⟨j0, j1⟩ := kz.1.two
        have k4z := k4.apart2 (unhide HNE).1.2.2.1 (.int .i64 (toD d : Int)) (.slice av (List.length (movM (mvM d) D)) cv)
        have k7z := k7.apart2 (unhide HNE).1.2.2.2.2.2 (.int .i64 (toD d : Int)) (.slice av (List.length (movM (mvM d) D)) cv)
        have mz := (unhide HM1).put2 k11 (.int .i64 (toD d : Int)) (.slice av (List.length (movM (mvM d) D)) cv)
        have oz := row_put2 o2 k11 (.int .i64 (toD d : Int)) (.slice av (List.length (movM (mvM d) D)) cv)
        have HMz := hide mz
        have HOz := hide oz
        clear mz oz o2
        have HBz := hide kz.2
        have HKz := hide (And.intro k4z (And.intro k7z kz.1))
        clear k4 k5 k7 k11 hb2 kz k4z k7z HK HB
        go_upto_region 18 with fail
        clear j0 j1 f0 f1 y0 y1 c0 c1 a0 a1 a2 a3 a4
        generalize (w2.setCell ⟨B3, 0, none⟩ (.int .i64 (toD d : Int))).setCell ⟨B3, 1, none⟩ (.slice av (List.length (movM (mvM d) D)) cv) = wz at *
        have HSz : Hid (wz.drew.cell? ⟨B3, 0, none⟩ = some (.int .i64 (toD d : Int)) ∧ wz.drew.cell? ⟨B3, 1, none⟩ = some ((.slice av (List.length (movM (mvM d) D)) cv))) := hide ((unhide HKz).2.2.two)
        have kS : Cls wz.drew B3 29 #[.int .i64 (toD d : Int), (.slice av (List.length (movM (mvM d) D)) cv)] := (unhide HKz).2.2
        have HSy : Hid (((wz.drew.setCell ⟨B2, 0, none⟩ (.int .i64 (toD d : Int))).setCell ⟨B2, 1, none⟩ (.slice av (List.length (movM (mvM d) D)) cv)).cell? ⟨B3, 0, none⟩ = some (.int .i64 (toD d : Int)) ∧ ((wz.drew.setCell ⟨B2, 0, none⟩ (.int .i64 (toD d : Int))).setCell ⟨B2, 1, none⟩ (.slice av (List.length (movM (mvM d) D)) cv)).cell? ⟨B3, 1, none⟩ = some ((.slice av (List.length (movM (mvM d) D)) cv))) := hide (kS.apart2 (Ne.symm (unhide HNE).1.2.2.2.2.2) (.int .i64 (toD d : Int)) (.slice av (List.length (movM (mvM d) D)) cv)).two
        clear kS
        have m7 : Cls wz.drew B2 29 #[.int .i64 0, .slice none 0 0] := (unhide HKz).2.1
        have hbz := (unhide HBz).drew
        have q7 := m7.put2 (.int .i64 (toD d : Int)) (.slice av (List.length (movM (mvM d) D)) cv) hbz (unhide HNE).2.2.1
        obtain ⟨r0, r1⟩ := q7.1.two
        have HB9 := hide q7.2
        have mz := ((unhide HMz).below (Below.refl _ _).drew (Nat.le_refl _)).put2 m7 (.int .i64 (toD d : Int)) (.slice av (List.length (movM (mvM d) D)) cv)
        have oz := row_put2 (W := wz.drew) (unhide HOz) m7 (.int .i64 (toD d : Int)) (.slice av (List.length (movM (mvM d) D)) cv)
        obtain ⟨ax, cx, ex, ix, _⟩ := own_isK oz
        injection ex with ex1 ex2 ex3
        subst ex1 ex3
        have HFin := hide (StM.mk mz ix (unhide HMov S (unhide HPm)) (unhide HMp (unhide HV) (unhide HF)) (unhide HMl) (toD_q (unhide HV)) (own_typ oz))
        clear mz oz ix HMz HOz
        have f0 := m7.frozen 0
        have f1 := m7.frozen 1
        obtain ⟨y0, y1⟩ := m7.two
        clear hbz q7 HKz HBz
        refine regionL (S := fun z => z.cell? ⟨B3, 0, none⟩ = some (.int .i64 (toD d : Int)) ∧ z.cell? ⟨B3, 1, none⟩ = some ((.slice av (List.length (movM (mvM d) D)) cv))) (fun _ => false) (by kernel_rfl) ?_
        generalize wz.drew = zz at *
        refine anyL_take (i := 0) (v := ?vd112) rfl (by kernel_rfl) (by kernel_rfl) (by kernel_rfl) (by kernel_rfl) (fun _ _ _ h => h) (Or.inl ⟨by rfl, ?hd112⟩) (unhide HSz) ?_
        case hd112 => (intro w hSw; (try dsimp only at hSw); go_simp) <;> with_reducible rfl
        simp only [Act.put, List.getElem_toArray, List.getElem_cons_zero, List.setIfInBounds_toArray, List.set_cons_zero, List.set_cons_succ]
        refine anyL_take (i := 1) (v := ?vd113) rfl (by kernel_rfl) (by kernel_rfl) (by kernel_rfl) (by kernel_rfl) (fun _ _ _ h => h) (Or.inl ⟨by rfl, ?hd113⟩) (unhide HSz) ?_
        case hd113 => (intro w hSw; (try dsimp only at hSw); go_simp) <;> with_reducible rfl
        simp only [Act.put, List.getElem_toArray, List.getElem_cons_zero, List.getElem_cons_succ, List.setIfInBounds_toArray, List.set_cons_zero, List.set_cons_succ]
        refine anyL_take (i := 2) (v := ?vd114) rfl (by kernel_rfl) (by kernel_rfl) (by kernel_rfl) (by kernel_rfl) (fun _ _ _ h => h) (Or.inl ⟨by rfl, ?hd114⟩) (unhide HSz) ?_
        case hd114 => (intro w hSw; (try dsimp only at hSw); go_simp) <;> with_reducible rfl
        simp only [Act.put, List.getElem_toArray, List.getElem_cons_zero, List.getElem_cons_succ, List.setIfInBounds_toArray, List.set_cons_zero, List.set_cons_succ]
        refine anyL_ready (rs := [3]) (by kernel_rfl) (by simp) ?_
        refine AllL.cons rfl (fun K hK => ?_) AllL.nil
        go_simp
        clear m7
        refine unhide hK _ _ (fun _ => unhide HSy) ?_
        clear hK K
        refine anyL_take (i := 4) (v := ?vd115) rfl (by kernel_rfl) (by kernel_rfl) (by kernel_rfl) (by kernel_rfl) (fun _ _ _ h => h) (Or.inl ⟨by rfl, ?hd115⟩) (unhide HSy) ?_
        case hd115 => (intro w hSw; (try dsimp only at hSw); go_simp) <;> with_reducible rfl
        simp only [Act.put, List.getElem_toArray, List.getElem_cons_zero, List.getElem_cons_succ, List.setIfInBounds_toArray, List.set_cons_zero, List.set_cons_succ]
        refine anyL_done (by kernel_rfl) ?_ _
        go_wp2_with fail
        refine bodyPost_ret (v := .tuple #[.pointer (some ⟨g', 0, none⟩), .agg #[.int .i64 (toD d : Int), (.slice av (List.length (movM (mvM d) D)) cv)], .bool true]) (by simp [results, Try.results22, go_sem, r0, r1]) rfl ?_
        exact ⟨g', (toD d : Int), (S.map (mvM d)), av, cv, (movM (mvM d) D), rfl, unhide HFin, unhide HB9⟩
      · have HF := hide hf
        clear hf
        go_enter Try.func22, Try.ntmps22
        go_upto_region 5 with fail
        generalize (((X.alloc (.cells #[.int .i64 n, .slice a D.length c] 29)).alloc (.cells #[.int .i64 2, .string xn, .int .i64 xp, .int .i64 xg, .slice ad d.length cd] 64)).alloc (.cells #[.int .i64 0, .slice none 0 0] 29)).alloc (.cells #[.int .i64 0, .slice none 0 0] 29) = w0 at *
        generalize hB1 : X.heap.size + 1 = B1 at *
        generalize hB2 : B1 + 1 = B2 at *
        generalize hB3 : B2 + 1 = B3 at *
        have HNE : Hid ((X.heap.size ≠ B1 ∧ X.heap.size ≠ B2 ∧ X.heap.size ≠ B3 ∧ B1 ≠ B2 ∧ B1 ≠ B3 ∧ B2 ≠ B3) ∧ X.heap.size ≤ B1 ∧ X.heap.size ≤ B2 ∧ X.heap.size ≤ B3) := hide (by omega)
        clear hB1 hB2 hB3
        have a0 := ((unhide HK).2.1.cell 0).trans rfl
        have a1 := ((unhide HK).2.1.cell 1).trans rfl
        have a2 := ((unhide HK).2.1.cell 2).trans rfl
        have a3 := ((unhide HK).2.1.cell 3).trans rfl
        have a4 := ((unhide HK).2.1.cell 4).trans rfl
        obtain ⟨vc, wc, rc, oc, xc⟩ := unhide HCP w0 (unhide HB)
        obtain ⟨ac, cc, hvc, ic, _⟩ := own_isO oc
        subst hvc
        have R := hide rc
        have hbc := (unhide HB).trans (xc.mono (unhide HB).size)
        have HXc := hide xc
        have a4' := (((unhide HK).2.1.alloc (.cells #[] 50)).cell 4).trans rfl
        have HC1 := hide (MBehF_at g n L ac cc d wc (unhide HSt wc hbc) ic hdl2 (unhide HV) (unhide HF))
        clear rc oc xc ic hbc
        go_wp2_with (at_builtin; refine wpList_append_known rfl _ _ 24 24 rfl _ _ rfl rfl _ _ (unhide R) ?_; clear R)
        refine (unhide HC1).mono ?_
        rintro y w1 ⟨rfl, x1⟩
        dsimp only
        have x1 : Below w0.heap.size w0 w1 := (unhide HXc).trans (x1.mono (unhide HXc).size)
        clear HXc a4'
        obtain ⟨k4, k5, k7, k11⟩ := unhide HK
        have k4 := k4.below x1 k4.lt
        have k5 := k5.below x1 k5.lt
        have k7 := k7.below x1 k7.lt
        have k11 := k11.below x1 k11.lt
        have hb1 := (unhide HB).trans (x1.mono (unhide HB).size)
        clear HK HB
        have HB := hide hb1
        have HK := hide (And.intro k4 (And.intro k5 (And.intro k7 k11)))
        clear a0 a1 a2 a3 a4 x1
        obtain ⟨c0, c1⟩ := k4.two
        have a0 := (k5.cell 0).trans rfl
        have a1 := (k5.cell 1).trans rfl
        have a2 := (k5.cell 2).trans rfl
        have a3 := (k5.cell 3).trans rfl
        have a4 := (k5.cell 4).trans rfl
        obtain ⟨y0, y1⟩ := k11.two
        have f0 := k11.frozen 0
        have f1 := k11.frozen 1
        have HC2 := hide (RBeh_all n a c D ad cd d w1 (unhide HKt w1 hb1) hDl (unhide HOt w1 hb1) hdl2 ht)
        unfold msV at HC2
        clear HC1 k4 k5 k7 k11 hb1
        go_wp2_with fail
        refine (unhide HC2).mono ?_
        rintro y w2 h2
        rcases h2 with ⟨h0, _⟩ | ⟨_, _, rfl, x2⟩ | ⟨_, h0, _⟩
        · rw [unhide HV] at h0; cases h0
        rotate_left
        · exact absurd h0 (unhide HF)
        dsimp only
        obtain ⟨k4, k5, k7, k11⟩ := unhide HK
        have k4 := k4.below x2 k4.lt
        have k5 := k5.below x2 k5.lt
        have k7 := k7.below x2 k7.lt
        have k11 := k11.below x2 k11.lt
        have hb2 := (unhide HB).trans (x2.mono (unhide HB).size)
        clear HK HB
        have HB := hide hb2
        have HK := hide (And.intro k4 (And.intro k5 (And.intro k7 k11)))
        clear a0 a1 a2 a3 a4 c0 c1 y0 y1 f0 f1 x2
        obtain ⟨c0, c1⟩ := k4.two
        have a0 := (k5.cell 0).trans rfl
        have a1 := (k5.cell 1).trans rfl
        have a2 := (k5.cell 2).trans rfl
        have a3 := (k5.cell 3).trans rfl
        have a4 := (k5.cell 4).trans rfl
        obtain ⟨y0, y1⟩ := k11.two
        have f0 := k11.frozen 0
        have f1 := k11.frozen 1
        clear HC2
        have kz := k11.put2 (.int .i64 n) (.slice a D.length c) hb2 (unhide HNE).2.2.2
        obtain ⟨j0, j1⟩ := kz.1.two
        have k4z := k4.apart2 (unhide HNE).1.2.2.1 (.int .i64 n) (.slice a D.length c)
        have k7z := k7.apart2 (unhide HNE).1.2.2.2.2.2 (.int .i64 n) (.slice a D.length c)
        have HBz := hide kz.2
        have HKz := hide (And.intro k4z (And.intro k7z kz.1))
        clear k4 k5 k7 k11 hb2 kz k4z k7z HK HB
        go_upto_region 17 with fail
        clear j0 j1 f0 f1 y0 y1 c0 c1 a0 a1 a2 a3 a4
        generalize (w2.setCell ⟨B3, 0, none⟩ (.int .i64 n)).setCell ⟨B3, 1, none⟩ (.slice a D.length c) = wz at *
        have HSz : Hid (wz.drew.cell? ⟨X.heap.size, 0, none⟩ = some (.int .i64 n) ∧ wz.drew.cell? ⟨X.heap.size, 1, none⟩ = some (.slice a D.length c)) := hide ((unhide HKz).1.two)
        have kS : Cls wz.drew X.heap.size 29 #[.int .i64 n, .slice a D.length c] := (unhide HKz).1
        have HSy : Hid (((wz.drew.setCell ⟨B2, 0, none⟩ (.int .i64 n)).setCell ⟨B2, 1, none⟩ (.slice a D.length c)).cell? ⟨X.heap.size, 0, none⟩ = some (.int .i64 n) ∧ ((wz.drew.setCell ⟨B2, 0, none⟩ (.int .i64 n)).setCell ⟨B2, 1, none⟩ (.slice a D.length c)).cell? ⟨X.heap.size, 1, none⟩ = some (.slice a D.length c)) := hide (kS.apart2 (unhide HNE).1.2.1 (.int .i64 n) (.slice a D.length c)).two
        clear kS
        have m7 : Cls wz.drew B2 29 #[.int .i64 0, .slice none 0 0] := (unhide HKz).2.1
        have hbz := (unhide HBz).drew
        have q7 := m7.put2 (.int .i64 n) (.slice a D.length c) hbz (unhide HNE).2.2.1
        obtain ⟨r0, r1⟩ := q7.1.two
        have HB9 := hide q7.2
        have f0 := m7.frozen 0
        have f1 := m7.frozen 1
        obtain ⟨y0, y1⟩ := m7.two
        clear hbz q7 HKz HBz
        refine regionL (S := fun z => z.cell? ⟨X.heap.size, 0, none⟩ = some (.int .i64 n) ∧ z.cell? ⟨X.heap.size, 1, none⟩ = some (.slice a D.length c)) (fun _ => false) (by kernel_rfl) ?_
        generalize wz.drew = zz at *
        refine anyL_take (i := 0) (v := ?vd08) rfl (by kernel_rfl) (by kernel_rfl) (by kernel_rfl) (by kernel_rfl) (fun _ _ _ h => h) (Or.inl ⟨by rfl, ?hd08⟩) (unhide HSz) ?_
        case hd08 => (intro w hSw; (try dsimp only at hSw); go_simp) <;> with_reducible rfl
        simp only [Act.put, List.getElem_toArray, List.getElem_cons_zero, List.setIfInBounds_toArray, List.set_cons_zero, List.set_cons_succ]
        refine anyL_take (i := 1) (v := ?vd09) rfl (by kernel_rfl) (by kernel_rfl) (by kernel_rfl) (by kernel_rfl) (fun _ _ _ h => h) (Or.inl ⟨by rfl, ?hd09⟩) (unhide HSz) ?_
        case hd09 => (intro w hSw; (try dsimp only at hSw); go_simp) <;> with_reducible rfl
        simp only [Act.put, List.getElem_toArray, List.getElem_cons_zero, List.getElem_cons_succ, List.setIfInBounds_toArray, List.set_cons_zero, List.set_cons_succ]
        refine anyL_take (i := 2) (v := ?vd010) rfl (by kernel_rfl) (by kernel_rfl) (by kernel_rfl) (by kernel_rfl) (fun _ _ _ h => h) (Or.inl ⟨by rfl, ?hd010⟩) (unhide HSz) ?_
        case hd010 => (intro w hSw; (try dsimp only at hSw); go_simp) <;> with_reducible rfl
        simp only [Act.put, List.getElem_toArray, List.getElem_cons_zero, List.getElem_cons_succ, List.setIfInBounds_toArray, List.set_cons_zero, List.set_cons_succ]
        refine anyL_ready (rs := [3]) (by kernel_rfl) (by simp) ?_
        refine AllL.cons rfl (fun K hK => ?_) AllL.nil
        go_simp
        clear m7
        refine unhide hK _ _ (fun _ => unhide HSy) ?_
        clear hK K
        refine anyL_take (i := 4) (v := ?vd011) rfl (by kernel_rfl) (by kernel_rfl) (by kernel_rfl) (by kernel_rfl) (fun _ _ _ h => h) (Or.inl ⟨by rfl, ?hd011⟩) (unhide HSy) ?_
        case hd011 => (intro w hSw; (try dsimp only at hSw); go_simp) <;> with_reducible rfl
        simp only [Act.put, List.getElem_toArray, List.getElem_cons_zero, List.getElem_cons_succ, List.setIfInBounds_toArray, List.set_cons_zero, List.set_cons_succ]
        refine anyL_done (by kernel_rfl) ?_ _
        go_wp2_with fail
        refine bodyPost_ret (v := .tuple #[.pointer (some ⟨g, 0, none⟩), .agg #[.int .i64 n, .slice a D.length c], .bool true]) (by simp [results, Try.results22, go_sem, r0, r1]) rfl ?_
        exact ⟨g, n, L, a, c, D, rfl, (unhide HS).below (unhide HB9), unhide HB9⟩
  by_cases hg : refM n D ⟨xn, xp, xg⟩ ≠ 0
  · have t1 : (kd == 1) = false := by simpa using hk
    have t2 : (kd == 2) = false := by simpa using hk2
    obtain ⟨ER, HER⟩ : ∃ ER, Hid (ER = refM n D ⟨xn, xp, xg⟩) := ⟨_, hide rfl⟩
    have e3 : ¬ ER = 0 := by rw [unhide HER]; exact hg
    have e1 : (ER != 0) = true := by simpa using e3
    have e2 : (ER == 0) = false := by simpa using e3
    have HG0 := hide hg
    clear hg
    go_enter Try.func22, Try.ntmps22
    go_upto_region 5 with fail
    generalize (((X.alloc (.cells #[.int .i64 n, .slice a D.length c] 29)).alloc (.cells #[.int .i64 kd, .string xn, .int .i64 xp, .int .i64 xg, .slice ad d.length cd] 64)).alloc (.cells #[.int .i64 0, .slice none 0 0] 29)).alloc (.cells #[.int .i64 0, .slice none 0 0] 29) = w0 at *
    generalize hB1 : X.heap.size + 1 = B1 at *
    generalize hB2 : B1 + 1 = B2 at *
    generalize hB3 : B2 + 1 = B3 at *
    have HNE : Hid ((X.heap.size ≠ B1 ∧ X.heap.size ≠ B2 ∧ X.heap.size ≠ B3 ∧ B1 ≠ B2 ∧ B1 ≠ B3 ∧ B2 ≠ B3) ∧ X.heap.size ≤ B1 ∧ X.heap.size ≤ B2 ∧ X.heap.size ≤ B3) := hide (by omega)
    clear hB1 hB2 hB3
    have a0 := ((unhide HK).2.1.cell 0).trans rfl
    have a1 := ((unhide HK).2.1.cell 1).trans rfl
    have a2 := ((unhide HK).2.1.cell 2).trans rfl
    have a3 := ((unhide HK).2.1.cell 3).trans rfl
    have a4 := ((unhide HK).2.1.cell 4).trans rfl
    have HC1 := hide (MSetE_at g n L ⟨xn, xp, xg⟩ w0 (unhide HSt w0 (unhide HB)) (by rw [HRf]; exact unhide HG0))
    rw [HRf, ← unhide HER] at HC1
    unfold mkV at HC1
    dsimp only at HC1
    go_wp2_with fail
    refine (unhide HC1).mono ?_
    rintro y w1 ⟨rfl, x1⟩
    dsimp only
    obtain ⟨k4, k5, k7, k11⟩ := unhide HK
    have k4 := k4.below x1 k4.lt
    have k5 := k5.below x1 k5.lt
    have k7 := k7.below x1 k7.lt
    have k11 := k11.below x1 k11.lt
    have hb1 := (unhide HB).trans (x1.mono (unhide HB).size)
    clear HK HB
    have HB := hide hb1
    have HK := hide (And.intro k4 (And.intro k5 (And.intro k7 k11)))
    clear a0 a1 a2 a3 a4 x1
    obtain ⟨c0, c1⟩ := k4.two
    have a0 := (k5.cell 0).trans rfl
    have a1 := (k5.cell 1).trans rfl
    have a2 := (k5.cell 2).trans rfl
    have a3 := (k5.cell 3).trans rfl
    have a4 := (k5.cell 4).trans rfl
    obtain ⟨y0, y1⟩ := k11.two
    have f0 := k11.frozen 0
    have f1 := k11.frozen 1
    have HC2 := hide (RSet_all n a c D ⟨xn, xp, xg⟩ w1 (unhide HKt w1 hb1) hDl)
    unfold msV at HC2
    unfold mkV at HC2
    dsimp only at HC2
    rw [← unhide HER] at HC2
    clear HC1 k4 k5 k7 k11 hb1
    go_wp2_with fail
    refine (unhide HC2).mono ?_
    rintro y w2 h2
    rcases h2 with ⟨_, rfl, x2⟩ | ⟨h0, _⟩
    rotate_left
    · exact absurd h0 e3
    dsimp only
    obtain ⟨k4, k5, k7, k11⟩ := unhide HK
    have k4 := k4.below x2 k4.lt
    have k5 := k5.below x2 k5.lt
    have k7 := k7.below x2 k7.lt
    have k11 := k11.below x2 k11.lt
    have hb2 := (unhide HB).trans (x2.mono (unhide HB).size)
    clear HK HB
    have HB := hide hb2
    have HK := hide (And.intro k4 (And.intro k5 (And.intro k7 k11)))
    clear a0 a1 a2 a3 a4 c0 c1 y0 y1 f0 f1 x2
    obtain ⟨c0, c1⟩ := k4.two
    have a0 := (k5.cell 0).trans rfl
    have a1 := (k5.cell 1).trans rfl
    have a2 := (k5.cell 2).trans rfl
    have a3 := (k5.cell 3).trans rfl
    have a4 := (k5.cell 4).trans rfl
    obtain ⟨y0, y1⟩ := k11.two
    have f0 := k11.frozen 0
    have f1 := k11.frozen 1
    clear HC2
    have kz := k11.put2 (.int .i64 n) (.slice a D.length c) hb2 (unhide HNE).2.2.2
    obtain ⟨j0, j1⟩ := kz.1.two
    have k4z := k4.apart2 (unhide HNE).1.2.2.1 (.int .i64 n) (.slice a D.length c)
    have k7z := k7.apart2 (unhide HNE).1.2.2.2.2.2 (.int .i64 n) (.slice a D.length c)
    have HBz := hide kz.2
    have HKz := hide (And.intro k4z (And.intro k7z kz.1))
    clear k4 k5 k7 k11 hb2 kz k4z k7z HK HB
    go_upto_region 17 with fail
    clear j0 j1 f0 f1 y0 y1 c0 c1 a0 a1 a2 a3 a4
    generalize (w2.setCell ⟨B3, 0, none⟩ (.int .i64 n)).setCell ⟨B3, 1, none⟩ (.slice a D.length c) = wz at *
    have HSz : Hid (wz.drew.cell? ⟨X.heap.size, 0, none⟩ = some (.int .i64 n) ∧ wz.drew.cell? ⟨X.heap.size, 1, none⟩ = some (.slice a D.length c)) := hide ((unhide HKz).1.two)
    have kS : Cls wz.drew X.heap.size 29 #[.int .i64 n, .slice a D.length c] := (unhide HKz).1
    have HSy : Hid (((wz.drew.setCell ⟨B2, 0, none⟩ (.int .i64 n)).setCell ⟨B2, 1, none⟩ (.slice a D.length c)).cell? ⟨X.heap.size, 0, none⟩ = some (.int .i64 n) ∧ ((wz.drew.setCell ⟨B2, 0, none⟩ (.int .i64 n)).setCell ⟨B2, 1, none⟩ (.slice a D.length c)).cell? ⟨X.heap.size, 1, none⟩ = some (.slice a D.length c)) := hide (kS.apart2 (unhide HNE).1.2.1 (.int .i64 n) (.slice a D.length c)).two
    clear kS
    have m7 : Cls wz.drew B2 29 #[.int .i64 0, .slice none 0 0] := (unhide HKz).2.1
    have hbz := (unhide HBz).drew
    have q7 := m7.put2 (.int .i64 n) (.slice a D.length c) hbz (unhide HNE).2.2.1
    obtain ⟨r0, r1⟩ := q7.1.two
    have HB9 := hide q7.2
    have f0 := m7.frozen 0
    have f1 := m7.frozen 1
    obtain ⟨y0, y1⟩ := m7.two
    clear hbz q7 HKz HBz
    refine regionL (S := fun z => z.cell? ⟨X.heap.size, 0, none⟩ = some (.int .i64 n) ∧ z.cell? ⟨X.heap.size, 1, none⟩ = some (.slice a D.length c)) (fun _ => false) (by kernel_rfl) ?_
    generalize wz.drew = zz at *
    refine anyL_take (i := 0) (v := ?vd016) rfl (by kernel_rfl) (by kernel_rfl) (by kernel_rfl) (by kernel_rfl) (fun _ _ _ h => h) (Or.inl ⟨by rfl, ?hd016⟩) (unhide HSz) ?_
    case hd016 => (intro w hSw; (try dsimp only at hSw); go_simp) <;> with_reducible rfl
    simp only [Act.put, List.getElem_toArray, List.getElem_cons_zero, List.setIfInBounds_toArray, List.set_cons_zero, List.set_cons_succ]
    refine anyL_take (i := 1) (v := ?vd017) rfl (by kernel_rfl) (by kernel_rfl) (by kernel_rfl) (by kernel_rfl) (fun _ _ _ h => h) (Or.inl ⟨by rfl, ?hd017⟩) (unhide HSz) ?_
    case hd017 => (intro w hSw; (try dsimp only at hSw); go_simp) <;> with_reducible rfl
    simp only [Act.put, List.getElem_toArray, List.getElem_cons_zero, List.getElem_cons_succ, List.setIfInBounds_toArray, List.set_cons_zero, List.set_cons_succ]
    refine anyL_take (i := 2) (v := ?vd018) rfl (by kernel_rfl) (by kernel_rfl) (by kernel_rfl) (by kernel_rfl) (fun _ _ _ h => h) (Or.inl ⟨by rfl, ?hd018⟩) (unhide HSz) ?_
    case hd018 => (intro w hSw; (try dsimp only at hSw); go_simp) <;> with_reducible rfl
    simp only [Act.put, List.getElem_toArray, List.getElem_cons_zero, List.getElem_cons_succ, List.setIfInBounds_toArray, List.set_cons_zero, List.set_cons_succ]
    refine anyL_ready (rs := [3]) (by kernel_rfl) (by simp) ?_
    refine AllL.cons rfl (fun K hK => ?_) AllL.nil
    go_simp
    clear m7
    refine unhide hK _ _ (fun _ => unhide HSy) ?_
    clear hK K
    refine anyL_take (i := 4) (v := ?vd019) rfl (by kernel_rfl) (by kernel_rfl) (by kernel_rfl) (by kernel_rfl) (fun _ _ _ h => h) (Or.inl ⟨by rfl, ?hd019⟩) (unhide HSy) ?_
    case hd019 => (intro w hSw; (try dsimp only at hSw); go_simp) <;> with_reducible rfl
    simp only [Act.put, List.getElem_toArray, List.getElem_cons_zero, List.getElem_cons_succ, List.setIfInBounds_toArray, List.set_cons_zero, List.set_cons_succ]
    refine anyL_done (by kernel_rfl) ?_ _
    go_wp2_with fail
    refine bodyPost_ret (v := .tuple #[.pointer (some ⟨g, 0, none⟩), .agg #[.int .i64 n, .slice a D.length c], .bool true]) (by simp [results, Try.results22, go_sem, r0, r1]) rfl ?_
    exact ⟨g, n, L, a, c, D, rfl, (unhide HS).below (unhide HB9), unhide HB9⟩
  · have t1 : (kd == 1) = false := by simpa using hk
    have t2 : (kd == 2) = false := by simpa using hk2
    have hg := Classical.not_not.1 hg
    have h00 := hg
    go_enter Try.func22, Try.ntmps22
    go_upto_region 5 with fail
    generalize (((X.alloc (.cells #[.int .i64 n, .slice a D.length c] 29)).alloc (.cells #[.int .i64 kd, .string xn, .int .i64 xp, .int .i64 xg, .slice ad d.length cd] 64)).alloc (.cells #[.int .i64 0, .slice none 0 0] 29)).alloc (.cells #[.int .i64 0, .slice none 0 0] 29) = w0 at *
    generalize hB1 : X.heap.size + 1 = B1 at *
    generalize hB2 : B1 + 1 = B2 at *
    generalize hB3 : B2 + 1 = B3 at *
    have HNE : Hid ((X.heap.size ≠ B1 ∧ X.heap.size ≠ B2 ∧ X.heap.size ≠ B3 ∧ B1 ≠ B2 ∧ B1 ≠ B3 ∧ B2 ≠ B3) ∧ X.heap.size ≤ B1 ∧ X.heap.size ≤ B2 ∧ X.heap.size ≤ B3) := hide (by omega)
    clear hB1 hB2 hB3
    have a0 := ((unhide HK).2.1.cell 0).trans rfl
    have a1 := ((unhide HK).2.1.cell 1).trans rfl
    have a2 := ((unhide HK).2.1.cell 2).trans rfl
    have a3 := ((unhide HK).2.1.cell 3).trans rfl
    have a4 := ((unhide HK).2.1.cell 4).trans rfl
    have HC1 := hide (MSet_at g n L ⟨xn, xp, xg⟩ w0 (unhide HSt w0 (unhide HB)) (by rw [HRf]; exact hg))
    unfold mkV at HC1
    dsimp only at HC1
    go_wp2_with fail
    refine (unhide HC1).mono ?_
    rintro y w1 ⟨g', rfl, m1, x1⟩
    dsimp only
    have HM0 := hide m1
    clear m1
    obtain ⟨k4, k5, k7, k11⟩ := unhide HK
    have k4 := k4.below x1 k4.lt
    have k5 := k5.below x1 k5.lt
    have k7 := k7.below x1 k7.lt
    have k11 := k11.below x1 k11.lt
    have hb1 := (unhide HB).trans (x1.mono (unhide HB).size)
    clear HK HB
    have HB := hide hb1
    have HK := hide (And.intro k4 (And.intro k5 (And.intro k7 k11)))
    clear a0 a1 a2 a3 a4 x1
    obtain ⟨c0, c1⟩ := k4.two
    have a0 := (k5.cell 0).trans rfl
    have a1 := (k5.cell 1).trans rfl
    have a2 := (k5.cell 2).trans rfl
    have a3 := (k5.cell 3).trans rfl
    have a4 := (k5.cell 4).trans rfl
    obtain ⟨y0, y1⟩ := k11.two
    have f0 := k11.frozen 0
    have f1 := k11.frozen 1
    have HC2 := hide (RSet_all n a c D ⟨xn, xp, xg⟩ w1 (unhide HKt w1 hb1) hDl)
    unfold msV at HC2
    unfold mkV at HC2
    dsimp only at HC2
    clear HC1 k4 k5 k7 k11 hb1
    go_wp2_with fail
    refine (unhide HC2).mono ?_
    rintro y w2 h2
    rcases h2 with ⟨h0, _⟩ | ⟨_, v2, rfl, o2, x2⟩
    · exact absurd hg h0
    dsimp only
    have HM1 := hide ((unhide HM0).below x2 (Nat.le_refl _))
    clear HM0
    obtain ⟨av, cv, hvv, _⟩ := rowD_form o2
    subst hvv
    obtain ⟨k4, k5, k7, k11⟩ := unhide HK
    have k4 := k4.below x2 k4.lt
    have k5 := k5.below x2 k5.lt
    have k7 := k7.below x2 k7.lt
    have k11 := k11.below x2 k11.lt
    have hb2 := (unhide HB).trans (x2.mono (unhide HB).size)
    clear HK HB
    have HB := hide hb2
    have HK := hide (And.intro k4 (And.intro k5 (And.intro k7 k11)))
    clear a0 a1 a2 a3 a4 c0 c1 y0 y1 f0 f1 x2
    obtain ⟨c0, c1⟩ := k4.two
    have a0 := (k5.cell 0).trans rfl
    have a1 := (k5.cell 1).trans rfl
    have a2 := (k5.cell 2).trans rfl
    have a3 := (k5.cell 3).trans rfl
    have a4 := (k5.cell 4).trans rfl
    obtain ⟨y0, y1⟩ := k11.two
    have f0 := k11.frozen 0
    have f1 := k11.frozen 1
    clear HC2
    have kz := k11.put2 (.int .i64 n) (.slice av (List.length (insM ⟨xn, xp, xg⟩ (delM xn D))) cv) hb2 (unhide HNE).2.2.2
    obtain ⟨j0, j1⟩ := kz.1.two
    have k4z := k4.apart2 (unhide HNE).1.2.2.1 (.int .i64 n) (.slice av (List.length (insM ⟨xn, xp, xg⟩ (delM xn D))) cv)
    have k7z := k7.apart2 (unhide HNE).1.2.2.2.2.2 (.int .i64 n) (.slice av (List.length (insM ⟨xn, xp, xg⟩ (delM xn D))) cv)
    have mz := (unhide HM1).put2 k11 (.int .i64 n) (.slice av (List.length (insM ⟨xn, xp, xg⟩ (delM xn D))) cv)
    have oz := row_put2 o2 k11 (.int .i64 n) (.slice av (List.length (insM ⟨xn, xp, xg⟩ (delM xn D))) cv)
    have HMz := hide mz
    have HOz := hide oz
    clear mz oz o2
    have HBz := hide kz.2
    have HKz := hide (And.intro k4z (And.intro k7z kz.1))
    clear k4 k5 k7 k11 hb2 kz k4z k7z HK HB
    go_upto_region 18 with fail
    clear j0 j1 f0 f1 y0 y1 c0 c1 a0 a1 a2 a3 a4
    generalize (w2.setCell ⟨B3, 0, none⟩ (.int .i64 n)).setCell ⟨B3, 1, none⟩ (.slice av (List.length (insM ⟨xn, xp, xg⟩ (delM xn D))) cv) = wz at *
    have HSz : Hid (wz.drew.cell? ⟨B3, 0, none⟩ = some (.int .i64 n) ∧ wz.drew.cell? ⟨B3, 1, none⟩ = some ((.slice av (List.length (insM ⟨xn, xp, xg⟩ (delM xn D))) cv))) := hide ((unhide HKz).2.2.two)
    have kS : Cls wz.drew B3 29 #[.int .i64 n, (.slice av (List.length (insM ⟨xn, xp, xg⟩ (delM xn D))) cv)] := (unhide HKz).2.2
    have HSy : Hid (((wz.drew.setCell ⟨B2, 0, none⟩ (.int .i64 n)).setCell ⟨B2, 1, none⟩ (.slice av (List.length (insM ⟨xn, xp, xg⟩ (delM xn D))) cv)).cell? ⟨B3, 0, none⟩ = some (.int .i64 n) ∧ ((wz.drew.setCell ⟨B2, 0, none⟩ (.int .i64 n)).setCell ⟨B2, 1, none⟩ (.slice av (List.length (insM ⟨xn, xp, xg⟩ (delM xn D))) cv)).cell? ⟨B3, 1, none⟩ = some ((.slice av (List.length (insM ⟨xn, xp, xg⟩ (delM xn D))) cv))) := hide (kS.apart2 (Ne.symm (unhide HNE).1.2.2.2.2.2) (.int .i64 n) (.slice av (List.length (insM ⟨xn, xp, xg⟩ (delM xn D))) cv)).two
    clear kS
    have m7 : Cls wz.drew B2 29 #[.int .i64 0, .slice none 0 0] := (unhide HKz).2.1
    have hbz := (unhide HBz).drew
    have q7 := m7.put2 (.int .i64 n) (.slice av (List.length (insM ⟨xn, xp, xg⟩ (delM xn D))) cv) hbz (unhide HNE).2.2.1
    obtain ⟨r0, r1⟩ := q7.1.two
    have HB9 := hide q7.2
    have mz := ((unhide HMz).below (Below.refl _ _).drew (Nat.le_refl _)).put2 m7 (.int .i64 n) (.slice av (List.length (insM ⟨xn, xp, xg⟩ (delM xn D))) cv)
    have oz := row_put2 (W := wz.drew) (unhide HOz) m7 (.int .i64 n) (.slice av (List.length (insM ⟨xn, xp, xg⟩ (delM xn D))) cv)
    obtain ⟨ax, cx, ex, ix, _⟩ := own_isK oz
    injection ex with ex1 ex2 ex3
    subst ex1 ex3
    have HFin := hide (StM.mk mz ix (unhide HPut) (unhide HPp h00) (unhide HPl h00) ((unhide HS).q) (own_typ oz))
    clear mz oz ix HMz HOz
    have f0 := m7.frozen 0
    have f1 := m7.frozen 1
    obtain ⟨y0, y1⟩ := m7.two
    clear hbz q7 HKz HBz
    refine regionL (S := fun z => z.cell? ⟨B3, 0, none⟩ = some (.int .i64 n) ∧ z.cell? ⟨B3, 1, none⟩ = some ((.slice av (List.length (insM ⟨xn, xp, xg⟩ (delM xn D))) cv))) (fun _ => false) (by kernel_rfl) ?_
    generalize wz.drew = zz at *
    refine anyL_take (i := 0) (v := ?vd120) rfl (by kernel_rfl) (by kernel_rfl) (by kernel_rfl) (by kernel_rfl) (fun _ _ _ h => h) (Or.inl ⟨by rfl, ?hd120⟩) (unhide HSz) ?_
    case hd120 => (intro w hSw; (try dsimp only at hSw); go_simp) <;> with_reducible rfl
    simp only [Act.put, List.getElem_toArray, List.getElem_cons_zero, List.setIfInBounds_toArray, List.set_cons_zero, List.set_cons_succ]
    refine anyL_take (i := 1) (v := ?vd121) rfl (by kernel_rfl) (by kernel_rfl) (by kernel_rfl) (by kernel_rfl) (fun _ _ _ h => h) (Or.inl ⟨by rfl, ?hd121⟩) (unhide HSz) ?_
    case hd121 => (intro w hSw; (try dsimp only at hSw); go_simp) <;> with_reducible rfl
    simp only [Act.put, List.getElem_toArray, List.getElem_cons_zero, List.getElem_cons_succ, List.setIfInBounds_toArray, List.set_cons_zero, List.set_cons_succ]
    refine anyL_take (i := 2) (v := ?vd122) rfl (by kernel_rfl) (by kernel_rfl) (by kernel_rfl) (by kernel_rfl) (fun _ _ _ h => h) (Or.inl ⟨by rfl, ?hd122⟩) (unhide HSz) ?_
    case hd122 => (intro w hSw; (try dsimp only at hSw); go_simp) <;> with_reducible rfl
    simp only [Act.put, List.getElem_toArray, List.getElem_cons_zero, List.getElem_cons_succ, List.setIfInBounds_toArray, List.set_cons_zero, List.set_cons_succ]
    refine anyL_ready (rs := [3]) (by kernel_rfl) (by simp) ?_
    refine AllL.cons rfl (fun K hK => ?_) AllL.nil
    go_simp
    clear m7
    refine unhide hK _ _ (fun _ => unhide HSy) ?_
    clear hK K
    refine anyL_take (i := 4) (v := ?vd123) rfl (by kernel_rfl) (by kernel_rfl) (by kernel_rfl) (by kernel_rfl) (fun _ _ _ h => h) (Or.inl ⟨by rfl, ?hd123⟩) (unhide HSy) ?_
    case hd123 => (intro w hSw; (try dsimp only at hSw); go_simp) <;> with_reducible rfl
    simp only [Act.put, List.getElem_toArray, List.getElem_cons_zero, List.getElem_cons_succ, List.setIfInBounds_toArray, List.set_cons_zero, List.set_cons_succ]
    refine anyL_done (by kernel_rfl) ?_ _
    go_wp2_with fail
    refine bodyPost_ret (v := .tuple #[.pointer (some ⟨g', 0, none⟩), .agg #[.int .i64 n, (.slice av (List.length (insM ⟨xn, xp, xg⟩ (delM xn D))) cv)], .bool true]) (by simp [results, Try.results22, go_sem, r0, r1]) rfl ?_
    exact ⟨g', n, (putM ⟨xn, xp, xg⟩ L), av, cv, (insM ⟨xn, xp, xg⟩ (delM xn D)), rfl, unhide HFin, unhide HB9⟩
end Go.Proofs.Ytfllomlighlejaa
