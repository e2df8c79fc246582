/- Layer 7: the contract of lines' At. · SeekBytes' walk. -/
import Derived.Test.YteamaneompijkaaGreatDoorSl32
import Derived.Test.YteamaneompijkaaGreatDoorSl45

section
namespace Go.Proofs.YteamaneompijkaaGreatDoor
open Go.ChangeShapes Go.WideShapes Go.ChangeAt Go.RowKit
attribute [local go_sem] Oper.semAt_some

theorem nbr_some {l : List Int} {k : Int} {e : Ln} (h : nbr l k = some e) : ∃ i, i < (LN l).length ∧ e = (LN l).getD i z4 ∧ k = (i : Int) := by
  unfold nbr at h
  split at h
  · rename_i hk
    exact ⟨k.toNat, by omega, (Option.some.inj h).symm, by omega⟩
  · cases h
set_option maxRecDepth 100000 in
set_option maxHeartbeats 4000000 in
theorem AtL_at (a0 : Option Addr) (cap : Nat) (l : List Int) (line col r m : Int) (w : World) (hB : IsB w a0 cap l) (hT : Tab w) :
    Calls Tryz.prog 38 #[.slice a0 l.length cap, .agg #[.int .i64 line, .int .i64 col], .int .i64 r, .int .i64 m] w fun y w' =>
      y = .returned (.tuple #[.int .i64 (atP l line col r m : Int), .int .i64 (atR l line col r m)]) ∧ Below w.heap.size w w' := by
  have kS := Cls.new w 24 #[.int .i64 line, .int .i64 col]
  have b0 := (Below.refl w.heap.size w).alloc (Nat.le_refl _) (.cells #[.int .i64 line, .int .i64 col] 24)
  have hT0 := hT.below b0 hT.size
  go_enter Tryz.func38, Tryz.ntmps38
  go_wp2_with fail
  generalize w.alloc (.cells #[.int .i64 line, .int .i64 col] 24) = w0 at *
  refine (known_at r m w0 hT0).mono ?_
  rintro y w1 ⟨rfl, b1⟩
  have b01 := b0.trans (b1.mono b0.size)
  have kS1 := kS.below b1 kS.lt
  have hB1 := hB.below b01 (Nat.le_refl _)
  have hT1 := hT.below b01 hT.size
  clear kS hT0 b1 b0
  have HB := hide (And.intro hB hT)
  clear hB hT
  cases hr : (isRu r && isRu m) with
  | false =>
    have HV : Hid (atP l line col r m = 0 ∧ atR l line col r m = 3) := hide (by unfold atP atR; rw [hr]; exact ⟨rfl, rfl⟩)
    have hk : knR r m = 3 := by unfold knR; rw [hr]; rfl
    rw [hk]
    go_wp2_with fail
    refine bodyPost_ret (results_tmp2 rfl _ _ _) rfl ?_
    rw [(unhide HV).1, (unhide HV).2]
    exact ⟨rfl, b01⟩
  | true =>
    have hk : knR r m = 0 := by unfold knR; rw [hr]; rfl
    rw [hk]
    have c0 := kS1.cell 0
    simp only [List.getElem?_toArray, List.getElem?_cons_zero] at c0
    go_wp2_with fail
    refine (number_at a0 cap l line w1 hB1).mono ?_
    rintro y w2 ⟨rfl, b2⟩
    have b02 := b01.trans (b2.mono b01.size)
    have kS2 := kS1.below b2 kS1.lt
    clear kS1 hB1 hT1 b2 b01 c0
    cases hn : nbr l line with
    | none =>
      have HV : Hid (atP l line col r m = 0 ∧ atR l line col r m = 2) := hide (by unfold atP atR; rw [hr, hn]; exact ⟨rfl, rfl⟩)
      unfold nbV lnV
      have b3 := b02.alloc (o := .cells #[.int .i64 0, .int .i64 0, .int .i64 0] 140) b02.size
      have hz : (z4.2.1 : Int) = 0 ∧ (z4.2.2.1 : Int) = 0 ∧ (z4.2.2.2 : Int) = 0 := ⟨rfl, rfl, rfl⟩
      rw [hz.1, hz.2.1, hz.2.2]
      clear hz
      go_wp2_with fail
      refine bodyPost_ret (results_tmp2 rfl _ _ _) rfl ?_
      rw [(unhide HV).1, (unhide HV).2]
      exact ⟨rfl, b3⟩
    | some e =>
      obtain ⟨i, hi, hie, hik⟩ := nbr_some hn
      have hF := LN_at l hi
      have hL := lst_edge hi
      rw [← hie] at hF hL
      obtain ⟨L1, L2, L3, L4, L5⟩ := hL
      have N1 := hF.2.2.nl
      have N2 := hF.2.2.cn
      have N3 := hF.2.2.sc
      clear hF hie hik hi L1
      unfold nbV lnV
      have kL := Cls.new w2 140 #[.int .i64 (e.2.1 : Int), .int .i64 (e.2.2.1 : Int), .int .i64 (e.2.2.2 : Int)]
      have b3 := b02.alloc (o := .cells #[.int .i64 (e.2.1 : Int), .int .i64 (e.2.2.1 : Int), .int .i64 (e.2.2.2 : Int)] 140) b02.size
      have kS3 := kS2.alloc (.cells #[.int .i64 (e.2.1 : Int), .int .i64 (e.2.2.1 : Int), .int .i64 (e.2.2.2 : Int)] 140)
      have c1 := kS3.cell 1
      simp only [List.getElem?_toArray, List.getElem?_cons_zero, List.getElem?_cons_succ] at c1
      by_cases hc : col < 0
      · have HV : Hid (atP l line col r m = 0 ∧ atR l line col r m = 2) := hide (by unfold atP atR; rw [hr, hn]; simp only [if_true]; rw [if_pos hc, if_pos hc]; exact ⟨rfl, rfl⟩)
        have q1 : decide (col < 0) = true := decide_eq_true hc
        clear hc hn
        go_wp2_with fail
        refine bodyPost_ret (results_tmp2 rfl _ _ _) rfl ?_
        rw [(unhide HV).1, (unhide HV).2]
        exact ⟨rfl, b3⟩
      · have q1 : decide (col < 0) = false := decide_eq_false hc
        have hv : atR l line col r m = (if toR r col 1 m (EE (cutL l e.2.1 (lst e))) = 2 ∧ m ≠ 3 then 0 else toR r col 1 m (EE (cutL l e.2.1 (lst e)))) ∧ atP l line col r m = (if toR r col 1 m (EE (cutL l e.2.1 (lst e))) = 2 ∧ m ≠ 3 then e.2.2.1 else if toR r col 1 m (EE (cutL l e.2.1 (lst e))) = 0 then e.2.1 + toP r col 1 m (EE (cutL l e.2.1 (lst e))) else 0) := by
          unfold atP atR; rw [hr, hn]; simp only [if_true]; rw [if_neg hc, if_neg hc]; exact ⟨rfl, rfl⟩
        clear hc hn
        go_wp2_with fail
        clear c1
        have HS : Hid ((fun w' : World => (w'.cell? ⟨w2.heap.size, 0, none⟩ = some (.int .i64 (e.2.1 : Int)) ∧ w'.cell? ⟨w2.heap.size, 1, none⟩ = some (.int .i64 (e.2.2.1 : Int)) ∧ w'.cell? ⟨w2.heap.size, 2, none⟩ = some (.int .i64 (e.2.2.2 : Int))) ∧ w'.cell? ⟨w.heap.size, 1, none⟩ = some (.int .i64 col)) (w2.alloc (.cells #[.int .i64 (e.2.1 : Int), .int .i64 (e.2.2.1 : Int), .int .i64 (e.2.2.2 : Int)] 140)).drew) := hide ⟨⟨(kL.cell 0).trans rfl, (kL.cell 1).trans rfl, (kL.cell 2).trans rfl⟩, (kS3.cell 1).trans rfl⟩
        refine regionL (S := fun w' => (w'.cell? ⟨w2.heap.size, 0, none⟩ = some (.int .i64 (e.2.1 : Int)) ∧ w'.cell? ⟨w2.heap.size, 1, none⟩ = some (.int .i64 (e.2.2.1 : Int)) ∧ w'.cell? ⟨w2.heap.size, 2, none⟩ = some (.int .i64 (e.2.2.2 : Int))) ∧ w'.cell? ⟨w.heap.size, 1, none⟩ = some (.int .i64 col)) (fun _ => false) (by kernel_rfl) ?_
        have b4 : Below w.heap.size w (w2.alloc (.cells #[.int .i64 (e.2.1 : Int), .int .i64 (e.2.2.1 : Int), .int .i64 (e.2.2.2 : Int)] 140)).drew := b3.trans (ch_drew (N := w.heap.size) (n := 0) _).1
        have kL : Cls (w2.alloc (.cells #[.int .i64 (e.2.1 : Int), .int .i64 (e.2.2.1 : Int), .int .i64 (e.2.2.2 : Int)] 140)).drew _ _ _ := kL
        have kS3 : Cls (w2.alloc (.cells #[.int .i64 (e.2.1 : Int), .int .i64 (e.2.2.1 : Int), .int .i64 (e.2.2.2 : Int)] 140)).drew _ _ _ := kS3
        clear b3 b02 kS2
        generalize (w2.alloc (.cells #[.int .i64 (e.2.1 : Int), .int .i64 (e.2.2.1 : Int), .int .i64 (e.2.2.2 : Int)] 140)).drew = w4 at *
        generalize w2.heap.size = gL at *
        refine anyL_take (i := 0) (v := ?v0) rfl (by kernel_rfl) (by kernel_rfl) (by kernel_rfl) (by kernel_rfl) (fun _ _ _ h => h) (Or.inl ⟨by rfl, ?h0⟩) (unhide HS) ?_
        case h0 => (intro w hSw; (try dsimp only at hSw); go_simp) <;> with_reducible rfl
        simp only [Act.put, List.getElem_toArray, List.getElem_cons_zero, List.setIfInBounds_toArray, List.set_cons_zero, List.set_cons_succ]
        refine anyL_take (i := 1) (v := ?v1) rfl (by kernel_rfl) (by kernel_rfl) (by kernel_rfl) (by kernel_rfl) (fun _ _ _ h => h) (Or.inl ⟨by rfl, ?h1⟩) (unhide HS) ?_
        case h1 => (intro w hSw; (try dsimp only at hSw); go_simp) <;> with_reducible rfl
        simp only [Act.put, List.getElem_toArray, List.getElem_cons_zero, List.getElem_cons_succ, List.setIfInBounds_toArray, List.set_cons_zero, List.set_cons_succ]
        refine anyL_take (i := 2) (v := ?v2) rfl (by kernel_rfl) (by kernel_rfl) (by kernel_rfl) (by kernel_rfl) (fun _ _ _ h => h) (Or.inl ⟨by rfl, ?h2⟩) (unhide HS) ?_
        case h2 => (intro w hSw; (try dsimp only at hSw); go_simp) <;> with_reducible rfl
        simp only [Act.put, List.getElem_toArray, List.getElem_cons_zero, List.getElem_cons_succ, List.setIfInBounds_toArray, List.set_cons_zero, List.set_cons_succ]
        refine anyL_take (i := 3) (v := ?v3) rfl (by kernel_rfl) (by kernel_rfl) (by kernel_rfl) (by kernel_rfl) (fun _ _ _ h => h) (Or.inl ⟨by rfl, ?h3⟩) (unhide HS) ?_
        case h3 => (intro w hSw; (try dsimp only at hSw); go_simp) <;> with_reducible rfl
        simp only [Act.put, List.getElem_toArray, List.getElem_cons_zero, List.getElem_cons_succ, List.setIfInBounds_toArray, List.set_cons_zero, List.set_cons_succ]
        refine anyL_take (i := 6) (v := ?v6) rfl (by kernel_rfl) (by kernel_rfl) (by kernel_rfl) (by kernel_rfl) (fun _ _ _ h => h) (Or.inl ⟨by rfl, ?h6⟩) (unhide HS) ?_
        case h6 => (intro w hSw; (try dsimp only at hSw); go_simp) <;> with_reducible rfl
        simp only [Act.put, List.getElem_toArray, List.getElem_cons_zero, List.getElem_cons_succ, List.setIfInBounds_toArray, List.set_cons_zero, List.set_cons_succ]
        refine anyL_take (i := 7) (v := ?v7) rfl (by kernel_rfl) (by kernel_rfl) (by kernel_rfl) (by kernel_rfl) (fun _ _ _ h => h) (Or.inl ⟨by rfl, ?h7⟩) (unhide HS) ?_
        case h7 => (intro w hSw; (try dsimp only at hSw); go_simp) <;> with_reducible rfl
        simp only [Act.put, List.getElem_toArray, List.getElem_cons_zero, List.getElem_cons_succ, List.setIfInBounds_toArray, List.set_cons_zero, List.set_cons_succ]
        refine anyL_take (i := 8) (v := ?v8) rfl (by kernel_rfl) (by kernel_rfl) (by kernel_rfl) (by kernel_rfl) (fun _ _ _ h => h) (Or.inl ⟨by rfl, ?h8⟩) (unhide HS) ?_
        case h8 => (intro w hSw; (try dsimp only at hSw); go_simp) <;> with_reducible rfl
        simp only [Act.put, List.getElem_toArray, List.getElem_cons_zero, List.getElem_cons_succ, List.setIfInBounds_toArray, List.set_cons_zero, List.set_cons_succ]
        refine anyL_take (i := 9) (v := ?v9) rfl (by kernel_rfl) (by kernel_rfl) (by kernel_rfl) (by kernel_rfl) (fun _ _ _ h => h) (Or.inl ⟨by rfl, ?h9⟩) (unhide HS) ?_
        case h9 => (intro w hSw; (try dsimp only at hSw); go_simp) <;> with_reducible rfl
        simp only [Act.put, List.getElem_toArray, List.getElem_cons_zero, List.getElem_cons_succ, List.setIfInBounds_toArray, List.set_cons_zero, List.set_cons_succ]
        refine anyL_ready (rs := [4]) (by kernel_rfl) (by simp) ?_
        refine AllL.cons rfl (fun K hK => ?_) AllL.nil
        go_simp
        have hla := last_at e w4 (by have := (unhide HB).1.2.1; omega) (by have := (unhide HB).1.2.1; omega)
        unfold lnV at hla
        refine hla.mono ?_
        rintro y w5 ⟨rfl, b5⟩
        have b05 := b4.trans (b5.mono b4.size)
        have kL5 := kL.below b5 kL.lt
        have kS5 := kS3.below b5 kS3.lt
        have HS5 : Hid ((fun w' : World => (w'.cell? ⟨gL, 0, none⟩ = some (.int .i64 (e.2.1 : Int)) ∧ w'.cell? ⟨gL, 1, none⟩ = some (.int .i64 (e.2.2.1 : Int)) ∧ w'.cell? ⟨gL, 2, none⟩ = some (.int .i64 (e.2.2.2 : Int))) ∧ w'.cell? ⟨w.heap.size, 1, none⟩ = some (.int .i64 col)) w5) := hide ⟨⟨(kL5.cell 0).trans rfl, (kL5.cell 1).trans rfl, (kL5.cell 2).trans rfl⟩, (kS5.cell 1).trans rfl⟩
        refine unhide hK _ _ (fun _ => unhide HS5) ?_
        clear hK K hla kL kS3 HS b4 b5
        have hB5 := (unhide HB).1.below (b05) (Nat.le_refl _)
        have hT5 := (unhide HB).2.below (b05) (unhide HB).2.size
        have hcap := hB5.1
        have hlen := hB5.2.1
        have hLn : (cutL l e.2.1 (lst e)).length = lst e - e.2.1 := by unfold cutL; simp; omega
        have hTo := To_at _ _ (cutL l e.2.1 (lst e)) r col 1 m w5 ((hB5.takeR (n := lst e)).loR (n := e.2.1)) hT5
        rw [hLn] at hTo
        have hP : toR r col 1 m (EE (cutL l e.2.1 (lst e))) = 0 → toP r col 1 m (EE (cutL l e.2.1 (lst e))) ≤ 2 * l.length := fun _ => by
          have hml : ∀ x ∈ cutL l e.2.1 (lst e), 0 ≤ x ∧ x ≤ 255 := fun x hx => hB5.2.2.2 x (List.mem_of_mem_take (List.mem_of_mem_drop hx))
          have h1 := toP_le hml r col 1 m
          rw [hLn] at h1
          omega
        generalize toR r col 1 m (EE (cutL l e.2.1 (lst e))) = T at *
        generalize toP r col 1 m (EE (cutL l e.2.1 (lst e))) = Pt at *
        have HV := hide hv
        clear hB5 hT5 hLn hv
        generalize lst e = ls at *
        by_cases hcx : cap = e.2.1
        · have HTo := hide (by have := hTo; rw [if_pos hcx] at this; exact this)
          have hlc : ls = cap := by omega
          have HX : Hid (cap = e.2.1) := hide hcx
          clear hTo
          have sub0 : cap - e.2.1 = 0 := by omega
          have sub1 : ls - e.2.1 = 0 := by omega
          rw [sub0, sub1] at HTo
          refine anyL_take (i := 5) (v := ?vp5) rfl (by kernel_rfl) (by kernel_rfl) (by kernel_rfl) (by kernel_rfl) (fun _ _ _ h => h) (Or.inl ⟨by rfl, ?hp5⟩) (unhide HS5) ?_
          case hp5 => (intro w hSw; (try dsimp only at hSw); go_simp) <;> with_reducible rfl
          simp only [Act.put, List.getElem_toArray, List.getElem_cons_zero, List.getElem_cons_succ, List.setIfInBounds_toArray, List.set_cons_zero, List.set_cons_succ]
          refine anyL_ready (rs := [10]) (by kernel_rfl) (by simp) ?_
          refine AllL.cons rfl (fun K hK => ?_) AllL.nil
          go_simp
          refine (unhide HTo).mono ?_
          rintro y w6 ⟨rfl, b6⟩
          have b06 := b05.trans (b6.mono b05.size)
          have kL6 := kL5.below b6 kL5.lt
          have kS6 := kS5.below b6 kS5.lt
          have HS6 : Hid ((fun w' : World => (w'.cell? ⟨gL, 0, none⟩ = some (.int .i64 (e.2.1 : Int)) ∧ w'.cell? ⟨gL, 1, none⟩ = some (.int .i64 (e.2.2.1 : Int)) ∧ w'.cell? ⟨gL, 2, none⟩ = some (.int .i64 (e.2.2.2 : Int))) ∧ w'.cell? ⟨w.heap.size, 1, none⟩ = some (.int .i64 col)) w6) := hide ⟨⟨(kL6.cell 0).trans rfl, (kL6.cell 1).trans rfl, (kL6.cell 2).trans rfl⟩, (kS6.cell 1).trans rfl⟩
          refine unhide hK _ _ (fun _ => unhide HS6) ?_
          clear hK K HTo kL5 kS5 HS5 b6 b05
          refine anyL_take (i := 11) (v := ?vp11) rfl (by kernel_rfl) (by kernel_rfl) (by kernel_rfl) (by kernel_rfl) (fun _ _ _ h => h) (Or.inl ⟨by rfl, ?hp11⟩) (unhide HS6) ?_
          case hp11 => (intro w hSw; (try dsimp only at hSw); go_simp) <;> with_reducible rfl
          simp only [Act.put, List.getElem_toArray, List.getElem_cons_zero, List.getElem_cons_succ, List.setIfInBounds_toArray, List.set_cons_zero, List.set_cons_succ]
          refine anyL_take (i := 12) (v := ?vp12) rfl (by kernel_rfl) (by kernel_rfl) (by kernel_rfl) (by kernel_rfl) (fun _ _ _ h => h) (Or.inl ⟨by rfl, ?hp12⟩) (unhide HS6) ?_
          case hp12 => (intro w hSw; (try dsimp only at hSw); go_simp) <;> with_reducible rfl
          simp only [Act.put, List.getElem_toArray, List.getElem_cons_zero, List.getElem_cons_succ, List.setIfInBounds_toArray, List.set_cons_zero, List.set_cons_succ]
          refine anyL_take (i := 13) (v := ?vp13) rfl (by kernel_rfl) (by kernel_rfl) (by kernel_rfl) (by kernel_rfl) (fun _ _ _ h => h) (Or.inl ⟨by rfl, ?hp13⟩) (unhide HS6) ?_
          case hp13 => (intro w hSw; (try dsimp only at hSw); go_simp) <;> with_reducible rfl
          simp only [Act.put, List.getElem_toArray, List.getElem_cons_zero, List.getElem_cons_succ, List.setIfInBounds_toArray, List.set_cons_zero, List.set_cons_succ]
          refine anyL_take (i := 14) (v := ?vp14) rfl (by kernel_rfl) (by kernel_rfl) (by kernel_rfl) (by kernel_rfl) (fun _ _ _ h => h) (Or.inl ⟨by rfl, ?hp14⟩) (unhide HS6) ?_
          case hp14 => (intro w hSw; (try dsimp only at hSw); go_simp) <;> with_reducible rfl
          simp only [Act.put, List.getElem_toArray, List.getElem_cons_zero, List.getElem_cons_succ, List.setIfInBounds_toArray, List.set_cons_zero, List.set_cons_succ]
          refine anyL_take (i := 15) (v := ?vp15) rfl (by kernel_rfl) (by kernel_rfl) (by kernel_rfl) (by kernel_rfl) (fun _ _ _ h => h) (Or.inl ⟨by rfl, ?hp15⟩) (unhide HS6) ?_
          case hp15 => (intro w hSw; (try dsimp only at hSw); go_simp) <;> with_reducible rfl
          simp only [Act.put, List.getElem_toArray, List.getElem_cons_zero, List.getElem_cons_succ, List.setIfInBounds_toArray, List.set_cons_zero, List.set_cons_succ]
          refine anyL_done (by kernel_rfl) ?_ _
          have x0 := (unhide HS6).1.1
          have x1 := (unhide HS6).1.2.1
          by_cases t1 : T = 2 ∧ m ≠ 3
          · have q1 : (T == 2) = true := by simpa using t1.1
            have q2 : (m != 3) = true := by simpa using t1.2
            have HV2 : Hid (atP l line col r m = e.2.2.1 ∧ atR l line col r m = 0) := hide (by have := unhide HV; rw [if_pos t1, if_pos t1] at this; exact ⟨this.2, this.1⟩)
            clear t1
            go_wp2_with fail
            refine bodyPost_ret (results_tmp2 rfl _ _ _) rfl ?_
            rw [(unhide HV2).1, (unhide HV2).2]
            exact ⟨rfl, b06⟩
          · have HV1 : Hid (atP l line col r m = (if T = 0 then e.2.1 + Pt else 0) ∧ atR l line col r m = T) := hide (by have := unhide HV; rw [if_neg t1, if_neg t1] at this; exact ⟨this.2, this.1⟩)
            have hor : (T == 2) = false ∨ (T == 2) = true ∧ (m != 3) = false := by
              by_cases h : T = 2
              · exact Or.inr ⟨by simpa using h, by simpa using fun h2 => t1 ⟨h, h2⟩⟩
              · exact Or.inl (by simpa using h)
            clear t1
            by_cases t2 : T = 0
            · have hp := hP t2
              have hw : wrap64 ((e.2.1 : Int) + (Pt : Int)) = (e.2.1 : Int) + (Pt : Int) := wrap_nat _ _ (by omega)
              have HV2 : Hid (atP l line col r m = e.2.1 + Pt ∧ atR l line col r m = 0) := hide (by have := unhide HV1; rw [if_pos t2] at this; exact ⟨this.1, by rw [this.2, t2]⟩)
              subst t2
              clear hor
              go_wp2_with fail
              refine bodyPost_ret (results_tmp2 rfl _ _ _) rfl ?_
              rw [(unhide HV2).1, (unhide HV2).2]
              exact ⟨by simp, b06⟩
            · have q3 : (T != 0) = true := by simpa using t2
              have HV2 : Hid (atP l line col r m = 0 ∧ atR l line col r m = T) := hide (by have := unhide HV1; rw [if_neg t2] at this; exact this)
              clear t2 hP
              rcases hor with q1 | ⟨q1, q2⟩
              all_goals
                go_wp2_with fail
                refine bodyPost_ret (results_tmp2 rfl _ _ _) rfl ?_
                rw [(unhide HV2).1, (unhide HV2).2]
                exact ⟨rfl, b06⟩
        · have HTo := hide (by have := hTo; rw [if_neg hcx] at this; exact this)
          have hlc : ls ≤ cap := by omega
          clear hTo
          refine anyL_take (i := 5) (v := ?vn5) rfl (by kernel_rfl) (by kernel_rfl) (by kernel_rfl) (by kernel_rfl) (fun _ _ _ h => h) (Or.inl ⟨by rfl, ?hn5⟩) (unhide HS5) ?_
          case hn5 => (intro w hSw; (try dsimp only at hSw); go_simp) <;> with_reducible rfl
          simp only [Act.put, List.getElem_toArray, List.getElem_cons_zero, List.getElem_cons_succ, List.setIfInBounds_toArray, List.set_cons_zero, List.set_cons_succ]
          refine anyL_ready (rs := [10]) (by kernel_rfl) (by simp) ?_
          refine AllL.cons rfl (fun K hK => ?_) AllL.nil
          go_simp
          refine (unhide HTo).mono ?_
          rintro y w6 ⟨rfl, b6⟩
          have b06 := b05.trans (b6.mono b05.size)
          have kL6 := kL5.below b6 kL5.lt
          have kS6 := kS5.below b6 kS5.lt
          have HS6 : Hid ((fun w' : World => (w'.cell? ⟨gL, 0, none⟩ = some (.int .i64 (e.2.1 : Int)) ∧ w'.cell? ⟨gL, 1, none⟩ = some (.int .i64 (e.2.2.1 : Int)) ∧ w'.cell? ⟨gL, 2, none⟩ = some (.int .i64 (e.2.2.2 : Int))) ∧ w'.cell? ⟨w.heap.size, 1, none⟩ = some (.int .i64 col)) w6) := hide ⟨⟨(kL6.cell 0).trans rfl, (kL6.cell 1).trans rfl, (kL6.cell 2).trans rfl⟩, (kS6.cell 1).trans rfl⟩
          refine unhide hK _ _ (fun _ => unhide HS6) ?_
          clear hK K HTo kL5 kS5 HS5 b6 b05
          refine anyL_take (i := 11) (v := ?vn11) rfl (by kernel_rfl) (by kernel_rfl) (by kernel_rfl) (by kernel_rfl) (fun _ _ _ h => h) (Or.inl ⟨by rfl, ?hn11⟩) (unhide HS6) ?_
          case hn11 => (intro w hSw; (try dsimp only at hSw); go_simp) <;> with_reducible rfl
          simp only [Act.put, List.getElem_toArray, List.getElem_cons_zero, List.getElem_cons_succ, List.setIfInBounds_toArray, List.set_cons_zero, List.set_cons_succ]
          refine anyL_take (i := 12) (v := ?vn12) rfl (by kernel_rfl) (by kernel_rfl) (by kernel_rfl) (by kernel_rfl) (fun _ _ _ h => h) (Or.inl ⟨by rfl, ?hn12⟩) (unhide HS6) ?_
          case hn12 => (intro w hSw; (try dsimp only at hSw); go_simp) <;> with_reducible rfl
          simp only [Act.put, List.getElem_toArray, List.getElem_cons_zero, List.getElem_cons_succ, List.setIfInBounds_toArray, List.set_cons_zero, List.set_cons_succ]
          refine anyL_take (i := 13) (v := ?vn13) rfl (by kernel_rfl) (by kernel_rfl) (by kernel_rfl) (by kernel_rfl) (fun _ _ _ h => h) (Or.inl ⟨by rfl, ?hn13⟩) (unhide HS6) ?_
          case hn13 => (intro w hSw; (try dsimp only at hSw); go_simp) <;> with_reducible rfl
          simp only [Act.put, List.getElem_toArray, List.getElem_cons_zero, List.getElem_cons_succ, List.setIfInBounds_toArray, List.set_cons_zero, List.set_cons_succ]
          refine anyL_take (i := 14) (v := ?vn14) rfl (by kernel_rfl) (by kernel_rfl) (by kernel_rfl) (by kernel_rfl) (fun _ _ _ h => h) (Or.inl ⟨by rfl, ?hn14⟩) (unhide HS6) ?_
          case hn14 => (intro w hSw; (try dsimp only at hSw); go_simp) <;> with_reducible rfl
          simp only [Act.put, List.getElem_toArray, List.getElem_cons_zero, List.getElem_cons_succ, List.setIfInBounds_toArray, List.set_cons_zero, List.set_cons_succ]
          refine anyL_take (i := 15) (v := ?vn15) rfl (by kernel_rfl) (by kernel_rfl) (by kernel_rfl) (by kernel_rfl) (fun _ _ _ h => h) (Or.inl ⟨by rfl, ?hn15⟩) (unhide HS6) ?_
          case hn15 => (intro w hSw; (try dsimp only at hSw); go_simp) <;> with_reducible rfl
          simp only [Act.put, List.getElem_toArray, List.getElem_cons_zero, List.getElem_cons_succ, List.setIfInBounds_toArray, List.set_cons_zero, List.set_cons_succ]
          refine anyL_done (by kernel_rfl) ?_ _
          have x0 := (unhide HS6).1.1
          have x1 := (unhide HS6).1.2.1
          by_cases t1 : T = 2 ∧ m ≠ 3
          · have q1 : (T == 2) = true := by simpa using t1.1
            have q2 : (m != 3) = true := by simpa using t1.2
            have HV2 : Hid (atP l line col r m = e.2.2.1 ∧ atR l line col r m = 0) := hide (by have := unhide HV; rw [if_pos t1, if_pos t1] at this; exact ⟨this.2, this.1⟩)
            clear t1
            go_wp2_with fail
            refine bodyPost_ret (results_tmp2 rfl _ _ _) rfl ?_
            rw [(unhide HV2).1, (unhide HV2).2]
            exact ⟨rfl, b06⟩
          · have HV1 : Hid (atP l line col r m = (if T = 0 then e.2.1 + Pt else 0) ∧ atR l line col r m = T) := hide (by have := unhide HV; rw [if_neg t1, if_neg t1] at this; exact ⟨this.2, this.1⟩)
            have hor : (T == 2) = false ∨ (T == 2) = true ∧ (m != 3) = false := by
              by_cases h : T = 2
              · exact Or.inr ⟨by simpa using h, by simpa using fun h2 => t1 ⟨h, h2⟩⟩
              · exact Or.inl (by simpa using h)
            clear t1
            by_cases t2 : T = 0
            · have hp := hP t2
              have hw : wrap64 ((e.2.1 : Int) + (Pt : Int)) = (e.2.1 : Int) + (Pt : Int) := wrap_nat _ _ (by omega)
              have HV2 : Hid (atP l line col r m = e.2.1 + Pt ∧ atR l line col r m = 0) := hide (by have := unhide HV1; rw [if_pos t2] at this; exact ⟨this.1, by rw [this.2, t2]⟩)
              subst t2
              clear hor
              go_wp2_with fail
              refine bodyPost_ret (results_tmp2 rfl _ _ _) rfl ?_
              rw [(unhide HV2).1, (unhide HV2).2]
              exact ⟨by simp, b06⟩
            · have q3 : (T != 0) = true := by simpa using t2
              have HV2 : Hid (atP l line col r m = 0 ∧ atR l line col r m = T) := hide (by have := unhide HV1; rw [if_neg t2] at this; exact this)
              clear t2 hP
              rcases hor with q1 | ⟨q1, q2⟩
              all_goals
                go_wp2_with fail
                refine bodyPost_ret (results_tmp2 rfl _ _ _) rfl ?_
                rw [(unhide HV2).1, (unhide HV2).2]
                exact ⟨rfl, b06⟩

end Go.Proofs.YteamaneompijkaaGreatDoor
end

section
namespace Go.Proofs.YteamaneompijkaaGreatDoor
open Go.ChangeShapes Go.WideShapes Go.ChangeAt Go.RowKit
attribute [local go_sem] Oper.semAt_some

set_option maxRecDepth 100000 in
theorem neqW10 (i0 i1 i2 i3 i4 i5 i6 : Int) (w : World) : (binOp .neq 61 (.agg #[.int .i64 i0, .int .i64 i1, .int .i64 i2, .int .i64 i3, .int .i64 i4, .int .i64 i5, .int .i64 i6]) (.agg #[.int .i64 i0, .int .i64 i1, .int .i64 i2, .int .i64 i3, .int .i64 i4, .int .i64 i5, .int .i64 i6])).run Tryz.prog w = .ok (.bool false) w := by simp [go_sem]
theorem whV_form (T : List Int) (p : Int) : ∃ i0 i1 i2 i3 i4 i5 i6 e : Int, whV T p = .tuple #[.agg #[.int .i64 i0, .int .i64 i1, .int .i64 i2, .int .i64 i3, .int .i64 i4, .int .i64 i5, .int .i64 i6], .int .i64 e] := by
  unfold whV
  split
  · exact ⟨_, _, _, _, _, _, _, _, rfl⟩
  · exact ⟨_, _, _, _, _, _, _, _, rfl⟩
attribute [local go_sem] neqW10
theorem cls7 {Y : World} {g : Nat} {t : TypeId} {x0 x1 x2 x3 x4 x5 x6 : Value} (h : Cls Y g t #[x0, x1, x2, x3, x4, x5, x6]) : Y.cell? ⟨g, 0, none⟩ = some x0 ∧ Y.cell? ⟨g, 1, none⟩ = some x1 ∧ Y.cell? ⟨g, 2, none⟩ = some x2 ∧ Y.cell? ⟨g, 3, none⟩ = some x3 ∧ Y.cell? ⟨g, 4, none⟩ = some x4 ∧ Y.cell? ⟨g, 5, none⟩ = some x5 ∧ Y.cell? ⟨g, 6, none⟩ = some x6 :=
  ⟨(h.cell 0).trans rfl, (h.cell 1).trans rfl, (h.cell 2).trans rfl, (h.cell 3).trans rfl, (h.cell 4).trans rfl, (h.cell 5).trans rfl, (h.cell 6).trans rfl⟩
end Go.Proofs.YteamaneompijkaaGreatDoor
end
