/- Layer 7: lines.all's iterator. -/
import Derived.Test.YtkdnanlgkedjgabDoorDn19

namespace Go.Proofs.YtkdnanlgkedjgabDoor
open Go.ChangeShapes Go.WideShapes Go.ChangeAt Go.RowKit
attribute [local go_sem] Oper.semAt_some

def lnMu (B n : Nat) (w : World) : Nat := match w.cell? ⟨B, 2, none⟩ with | some (.int _ x) => n - x.toNat | _ => 0
theorem lnMu_of {B n s : Nat} {w : World} (h : w.cell? ⟨B, 2, none⟩ = some (.int .i64 (s : Int))) : lnMu B n w = n - s := by unfold lnMu; rw [h]; simp
theorem ctn_is {l : List Int} {s i : Nat} (h1 : ∀ j, j < i → isNl (l.getD (s + j) 0) = false) (h2 : s + i < l.length) (h3 : isNl (l.getD (s + i) 0) = true) : ctn l s = s + i := by
  have hs : s ≤ l.length := by omega
  rcases Nat.lt_trichotomy (ctn l s) (s + i) with h | h | h
  · have hle := ctn_le l s
    have := ctn_nl (l := l) (s := s) (by omega)
    have h4 := h1 (ctn l s - s) (by omega)
    rw [show s + (ctn l s - s) = ctn l s by omega, this] at h4
    cases h4
  · exact h
  · have := ctn_no (l := l) (s := s) (j := s + i) (by omega) h hs
    rw [this] at h3
    cases h3
theorem ctn_end {l : List Int} {s : Nat} (hs : s ≤ l.length) (h1 : ∀ j, j < l.length - s → isNl (l.getD (s + j) 0) = false) : ¬ ctn l s < l.length := fun h => by
  have hle := ctn_le l s
  have := ctn_nl h
  have h4 := h1 (ctn l s - s) (by omega)
  rw [show s + (ctn l s - s) = ctn l s by omega, this] at h4
  cases h4
theorem lt_int {a b : Nat} (h : a < b) : decide ((a : Int) < (b : Int)) = true := decide_eq_true (by omega)
theorem ge_int {a b : Nat} (h : ¬ a < b) : decide ((a : Int) < (b : Int)) = false := decide_eq_false (by omega)

/-- what the iterator's outer loop keeps -/
structure LnI (l : List Int) (q : Nat → Prop) (J : List Ln → World → Prop) (W : World) (k s : Nat) (pre : List Ln) (wr : World) : Prop where
  sp : LN l = pre ++ lnR l k s
  sl : s ≤ l.length
  j : J pre wr
  kb : KQ q W wr
  c : ∃ x y, Cls wr W.heap.size 114 #[.int .i64 x, .int .i64 y, .int .i64 (s : Int)]

set_option maxRecDepth 100000 in
set_option maxHeartbeats 4000000 in
theorem all1_L (Bn : Nat) (q : Nat → Prop) (a0 : Option Addr) (cap : Nat) (l : List Int) (w : World) (hBw : w.cell? ⟨Bn, 0, none⟩ = some (.slice a0 l.length cap)) (hIw : IsB w a0 cap l)
    (qB : q Bn) (qb : ∀ g off, l ≠ [] → a0 = some ⟨g, off, none⟩ → q g) :
    SeqQ Tryd.prog 77 #[.pointer (some ⟨Bn, 0, none⟩)] encL q 1 (LN l) w := by
  intro lo J Jx W hW hJ hJx hY h0 m
  have hBn : W.cell? ⟨Bn, 0, none⟩ = some (.slice a0 l.length cap) := (hW.cell (p := ⟨Bn, 0, none⟩) (cell_lt hBw)).trans hBw
  have hI := hIw.below hW (Nat.le_refl _)
  clear hW hBw hIw
  refine callsIn_wide.2 ((callsIn_wide (n := 3)).1 ?_)
  have hBq := cell_lt hBn
  refine callsIn_of_wp Tryd.func77 rfl trivial ?_ rfl
  simp only [Tryd.ntmps77, List.size_toArray, List.length_cons, List.length_nil, Nat.reduceAdd, Nat.reduceSub, Array.replicate_succ, Array.replicate_zero, List.push_toArray, List.append_toArray, List.nil_append, List.cons_append]
  refine wpIn_wide.2 (wp_scope_straight ((wpIn_wide (n := 3)).1 ?_))
  have kL := Cls.new W 114 #[.int .i64 0, .int .i64 0, .int .i64 0]
  have i0 : LnI l q J W 0 0 [] (W.alloc (.cells #[.int .i64 0, .int .i64 0, .int .i64 0] 114)) :=
    ⟨rfl, Nat.zero_le _, hJ _ _ _ h0 (ch_below ((Below.refl _ W).alloc (Nat.le_refl _) _) (Nat.le_refl _)), KQ.all ((Below.refl _ W).alloc (Nat.le_refl _) _), 0, 0, kL⟩
  gi_wp2_with fail
  refine wpIn_label ?_
  gi_wp2_with fail
  gi_loopw [4] (fun v4 wr => ∃ (k s : Nat) (pre : List Ln), v4 = .int .i64 (k : Int) ∧ LnI l q J W k s pre wr) (fun _ wr => lnMu W.heap.size l.length wr)
  case atStart => exact ⟨0, 0, [], rfl, i0⟩
  case round =>
    obtain ⟨k, s, pre, rfl, hi⟩ := hrel
    obtain ⟨x, y, hc⟩ := hi.c
    have c2 := hc.cell 2
    have c0 := hc.cell 0
    have f0 := hc.frozen 0
    have cB := kq_cell hi.kb qB hBn
    have p1 := hc.set 0 (.int .i64 (s : Int))
    have cB1 : (wr.setCell ⟨W.heap.size, 0, none⟩ (.int .i64 (s : Int))).cell? ⟨Bn, 0, none⟩ = some (.slice a0 l.length cap) := ((setCell_below (N := W.heap.size) wr ⟨W.heap.size, 0, none⟩ (.int .i64 (s : Int)) (Nat.le_refl _)).cell (p := ⟨Bn, 0, none⟩) hBq).trans cB
    have d0 := p1.cell 0
    simp only [List.getElem?_toArray, List.getElem?_cons_zero, List.getElem?_cons_succ, List.setIfInBounds_toArray, List.set_cons_zero] at c0 c2 d0 p1
    have kb1 := hi.kb.next (setCell_below (N := W.heap.size) wr ⟨W.heap.size, 0, none⟩ (.int .i64 (s : Int)) (Nat.le_refl _))
    have j1 := hJ _ _ _ hi.j (ch_set wr ⟨W.heap.size, 0, none⟩ (.int .i64 (s : Int)) (Nat.le_refl _) (Nat.lt_succ_self _))
    have hI1 := hI.kq kb1 qb
    have hsl := hi.sl
    have hcap := hI.1
    have hlen := hI.2.1
    have HSP := hide hi.sp
    have HC2 := hide c2
    by_cases hs : s < l.length
    · obtain ⟨g, off, rfl⟩ := hI.someB (by omega)
      have hcs : ¬ cap = s := by omega
      clear hi hc cB
      gi_wp2_with fail
      generalize hw1 : wr.setCell ⟨W.heap.size, 0, none⟩ (.int .i64 (s : Int)) = w1 at *
      clear hw1 c0 c2 f0
      gi_loop [17] (fun v => ∃ i : Nat, v = .int .i64 (i : Int) ∧ i ≤ l.length - s ∧ Hid (∀ j, j < i → isNl (l.getD (s + j) 0) = false)) (fun v => l.length - s - (intOf v).toNat)
      case atStart => exact ⟨0, rfl, Nat.zero_le _, hide (fun j hj => absurd hj (Nat.not_lt_zero _))⟩
      case round =>
        obtain ⟨i, rfl, hi, hno⟩ := hrel
        by_cases hlt : i < l.length - s
        · have t1 := lt_int hlt
          have cx := hI1.byteAt (i := s + i) (by omega)
          rw [← Nat.add_assoc] at cx
          have hlt2 : s + i < l.length := by omega
          by_cases hx : isNl (l.getD (s + i) 0) = true
          · have hct := ctn_is (unhide hno) hlt2 hx
            have hxv := nl_val hx
            have hor : (l.getD (s + i) 0 != 13) = false ∨ (l.getD (s + i) 0 != 13) = true ∧ (l.getD (s + i) 0 != 10) = false := by
              rcases hxv with h | h
              · exact Or.inl (by simpa using h)
              · exact Or.inr ⟨by rw [h]; rfl, by simpa using h⟩
            obtain ⟨c, hcE⟩ : ∃ c, c = s + i := ⟨_, rfl⟩
            have hcI : (s : Int) + (i : Int) = (c : Int) := by omega
            have hcl : c < l.length := by omega
            have hcle : c ≤ l.length := by omega
            rw [← hcE] at hct
            have hpre : LN l = (pre ++ [((k, s, c, nxt l c) : Ln)]) ++ lnR l (k + 1) (nxt l c) := by rw [unhide HSP, lnR_cons (by omega), hct]; simp
            have HPR := hide hpre
            have HNX : Hid (nxt l c ≤ l.length ∧ s < nxt l c) := hide ⟨nxt_len hcl, by have := nxt_gt l c; omega⟩
            have hwr : wrap64 ((s : Int) + (i : Int)) = (s : Int) + (i : Int) := wrap_nat s i (by omega)
            have d1 := p1.cell 1
            have g1 := p1.frozen 1
            simp only [List.getElem?_toArray, List.getElem?_cons_zero, List.getElem?_cons_succ] at d1
            have HCI := hide hcI
            clear hpre hct hx hxv hi hcI hcE
            generalize l.getD (s + i) 0 = x at *
            rcases hor with q1 | ⟨q1, q2⟩
            all_goals
              gi_wp2_with fail
              rw [unhide HCI]
              have hcs2 : ¬ cap = c := by omega
              have p2 := p1.set 1 (.int .i64 (c : Int))
              have b2 := setCell_below (N := W.heap.size) w1 ⟨W.heap.size, 1, none⟩ (.int .i64 (c : Int)) (Nat.le_refl _)
              have kb2 := kb1.next b2
              have j2 := hJ _ _ _ j1 (ch_set w1 ⟨W.heap.size, 1, none⟩ (.int .i64 (c : Int)) (Nat.le_refl _) (Nat.lt_succ_self _))
              have cB2 := (b2.cell (p := ⟨Bn, 0, none⟩) hBq).trans cB1
              have hI2 := hI.kq kb2 qb
              simp only [List.setIfInBounds_toArray, List.set_cons_zero, List.set_cons_succ] at p2
              generalize w1.setCell ⟨W.heap.size, 1, none⟩ (.int .i64 (c : Int)) = w2 at *
              have e1 := p2.cell 1
              simp only [List.getElem?_toArray, List.getElem?_cons_zero, List.getElem?_cons_succ] at e1
              have HS : Hid (w2.drew.cell? ⟨W.heap.size, 1, none⟩ = some (.int .i64 (c : Int)) ∧ w2.drew.cell? ⟨Bn, 0, none⟩ = some (.slice (some ⟨g, off, none⟩) l.length cap)) := hide ⟨e1, cB2⟩
              have p2 : Cls w2.drew _ _ _ := p2
              have kb2 : KQ q W w2.drew := kb2
              have j2 : J pre w2.drew := hJ _ _ _ j2 (ch_drew w2)
              have hI2 : IsB w2.drew (some ⟨g, off, none⟩) cap l := hI2
              clear e1 cB2 b2 hI1 cx cB1 p1 kb1 j1 d0 d1 g1
              refine wpIn_wide.2 (regionL (S := fun w' => w'.cell? ⟨W.heap.size, 1, none⟩ = some (.int .i64 (c : Int)) ∧ w'.cell? ⟨Bn, 0, none⟩ = some (.slice (some ⟨g, off, none⟩) l.length cap)) (fun i => i == 9) (by kernel_rfl) ?_)
              generalize w2.drew = w3 at *
              refine anyL_take (i := 0) (v := ?v0) rfl (by kernel_rfl) (by kernel_rfl) (by kernel_rfl) (by kernel_rfl) (fun _ _ _ h => h) (Or.inl ⟨by rfl, ?h0⟩) (unhide HS) ?_
              case h0 => (intro w hSw; (try dsimp only at hSw); go_simp) <;> with_reducible rfl
              simp only [Act.put, List.getElem_toArray, List.getElem_cons_zero, List.setIfInBounds_toArray, List.set_cons_zero, List.set_cons_succ]
              refine anyL_take (i := 1) (v := ?v1) rfl (by kernel_rfl) (by kernel_rfl) (by kernel_rfl) (by kernel_rfl) (fun _ _ _ h => h) (Or.inl ⟨by rfl, ?h1⟩) (unhide HS) ?_
              case h1 => (intro w hSw; (try dsimp only at hSw); go_simp) <;> with_reducible rfl
              simp only [Act.put, List.getElem_toArray, List.getElem_cons_zero, List.getElem_cons_succ, List.setIfInBounds_toArray, List.set_cons_zero, List.set_cons_succ]
              refine anyL_take (i := 2) (v := ?v2) rfl (by kernel_rfl) (by kernel_rfl) (by kernel_rfl) (by kernel_rfl) (fun _ _ _ h => h) (Or.inl ⟨by rfl, ?h2⟩) (unhide HS) ?_
              case h2 => (intro w hSw; (try dsimp only at hSw); go_simp) <;> with_reducible rfl
              simp only [Act.put, List.getElem_toArray, List.getElem_cons_zero, List.getElem_cons_succ, List.setIfInBounds_toArray, List.set_cons_zero, List.set_cons_succ]
              refine anyL_take (i := 3) (v := ?v3) rfl (by kernel_rfl) (by kernel_rfl) (by kernel_rfl) (by kernel_rfl) (fun _ _ _ h => h) (Or.inl ⟨by rfl, ?h3⟩) (unhide HS) ?_
              case h3 => (intro w hSw; (try dsimp only at hSw); go_simp) <;> with_reducible rfl
              simp only [Act.put, List.getElem_toArray, List.getElem_cons_zero, List.getElem_cons_succ, List.setIfInBounds_toArray, List.set_cons_zero, List.set_cons_succ]
              refine anyL_take (i := 4) (v := ?v4) rfl (by kernel_rfl) (by kernel_rfl) (by kernel_rfl) (by kernel_rfl) (fun _ _ _ h => h) (Or.inl ⟨by rfl, ?h4⟩) (unhide HS) ?_
              case h4 => (intro w hSw; (try dsimp only at hSw); go_simp) <;> with_reducible rfl
              simp only [Act.put, List.getElem_toArray, List.getElem_cons_zero, List.getElem_cons_succ, List.setIfInBounds_toArray, List.set_cons_zero, List.set_cons_succ]
              refine anyL_take (i := 5) (v := ?v5) rfl (by kernel_rfl) (by kernel_rfl) (by kernel_rfl) (by kernel_rfl) (fun _ _ _ h => h) (Or.inl ⟨by rfl, ?h5⟩) (unhide HS) ?_
              case h5 => (intro w hSw; (try dsimp only at hSw); go_simp) <;> with_reducible rfl
              simp only [Act.put, List.getElem_toArray, List.getElem_cons_zero, List.getElem_cons_succ, List.setIfInBounds_toArray, List.set_cons_zero, List.set_cons_succ]
              refine anyL_ready (rs := [6]) (by kernel_rfl) (by simp) ?_
              refine AllL.cons rfl (fun K hK => ?_) AllL.nil
              go_simp
              have hIB := hI2.loR (n := c)
              rw [if_neg hcs2] at hIB
              have hdl : (l.drop (c)).length = l.length - (c) := by simp
              have hIC : IsB w3 (some ⟨g, off + c, none⟩) (cap - c) (l.drop c) := by simpa [Addr.add_lit] using hIB
              have hew := endWidth_at _ _ (l.drop c) w3 hIC (by rw [hdl]; omega)
              rw [hdl] at hew
              refine hew.mono ?_
              rintro y w4 ⟨rfl, rfl⟩
              refine unhide hK _ _ (fun _ => unhide HS) ?_
              clear hK K hew hIB hIC hdl
              have hbn : c + edw (l.drop c) ≤ 9223372036854775807 := by have := (edw_pos (l.drop c)).2; omega
              have HW3 := hide (wrap_nat c (edw (l.drop c)) hbn)
              have HW4 := hide (wrap_i c (edw (l.drop c)) hbn)
              clear hbn
              refine anyL_take (i := 7) (v := ?v7) rfl (by kernel_rfl) (by kernel_rfl) (by kernel_rfl) (by kernel_rfl) (fun _ _ _ h => h) (Or.inl ⟨by rfl, ?h7⟩) (unhide HS) ?_
              case h7 => (intro w hSw; (try dsimp only at hSw); go_simp) <;> with_reducible rfl
              simp only [Act.put, List.getElem_toArray, List.getElem_cons_zero, List.getElem_cons_succ, List.setIfInBounds_toArray, List.set_cons_zero, List.set_cons_succ]
              refine anyL_take (i := 8) (v := ?v8) rfl (by kernel_rfl) (by kernel_rfl) (by kernel_rfl) (by kernel_rfl) (fun _ _ _ h => h) (Or.inl ⟨by rfl, ?h8⟩) (unhide HS) ?_
              case h8 => (intro w hSw; (try dsimp only at hSw); go_simp) <;> with_reducible rfl
              simp only [Act.put, List.getElem_toArray, List.getElem_cons_zero, List.getElem_cons_succ, List.setIfInBounds_toArray, List.set_cons_zero, List.set_cons_succ]
              have e2 := p2.cell 2
              have f2 := p2.frozen 2
              simp only [List.getElem?_toArray, List.getElem?_cons_zero, List.getElem?_cons_succ] at e2
              refine anyL_ready (rs := [9]) (by kernel_rfl) (by simp) ?_
              refine AllL.cons rfl (fun K hK => ?_) AllL.nil
              go_simp
              refine unhide hK _ _ (fun h => absurd h (by decide)) ?_
              clear hK K
              rw [unhide HW4]
              refine anyL_done (by kernel_rfl) ?_ _
              have hnn : (c : Int) + (edw (l.drop c) : Int) = ((nxt l c : Nat) : Int) := by unfold nxt; omega
              rw [hnn]
              have r1 := p2.set 2 (.int .i64 ((nxt l c : Nat) : Int))
              have b4 := setCell_below (N := W.heap.size) w4 ⟨W.heap.size, 2, none⟩ (.int .i64 ((nxt l c : Nat) : Int)) (Nat.le_refl _)
              have kb4 := kb2.next b4
              have j4 := hJ _ _ _ j2 (ch_set w4 ⟨W.heap.size, 2, none⟩ (.int .i64 ((nxt l c : Nat) : Int)) (Nat.le_refl _) (Nat.lt_succ_self _))
              simp only [List.setIfInBounds_toArray, List.set_cons_zero, List.set_cons_succ] at r1
              clear e2 f2 HS p2 kb2 j2 b4 hI2 hnn HW3 HW4
              generalize w4.setCell ⟨W.heap.size, 2, none⟩ (.int .i64 ((nxt l c : Nat) : Int)) = w5 at *
              clear hI hBn kL i0 h0 hwr
              have hz5 : W.heap.size + 1 ≤ w5.heap.size := r1.lt
              obtain ⟨fn, tmps, assign, body, hy, hR⟩ := hY pre (k, s, c, nxt l c) w5 2 ⟨_, (unhide HPR).symm⟩ j4 hz5
              simp only [encL, lnV] at hy
              have c0 := r1.cell 0
              have c1 := r1.cell 1
              have c2 := r1.cell 2
              simp only [List.getElem?_toArray, List.getElem?_cons_zero, List.getElem?_cons_succ] at c0 c1 c2
              have hkk : wrap64 ((k : Int) + 1) = (k : Int) + 1 := by
                refine wrap_nat k 1 ?_
                have h1 := congrArg List.length (unhide HSP)
                have h2 := LN_len l
                have h3 := (pre_num (l := l) (pre := pre) (x := (k, s, c, nxt l c)) ⟨_, (unhide HPR).symm⟩)
                have h4 : k = pre.length := h3.1
                omega
              have HKK := hide hkk
              gi_wp2_with fail
              refine hR.mono ?_
              clear hy c0 c1 c2 hR
              rintro e w6 ⟨hk6, (⟨rfl, hJ6⟩ | ⟨rfl, hJx6⟩)⟩
              · have r6 := r1.same (hk6.2 _ (Or.inr ⟨Nat.le_refl _, Nat.lt_succ_self _⟩) r1.lt)
                have kb6 : KQ q W w6 := kb4.trans (hk6.weak (fun _ h => Or.inl h))
                gi_wp2_with fail
                go_roundw
                case rel => exact ⟨k + 1, nxt l c, _, by go_num, unhide HPR, (unhide HNX).1, hJ6, kb6, _, _, r6⟩
                case measure =>
                  rw [lnMu_of (unhide HC2), lnMu_of (s := nxt l c) ((r6.cell 2).trans rfl)]
                  have := unhide HNX
                  omega
              · gi_wp2_with fail
                (try simp only [Exit.noGoto]); refine bodyPost_end (results_none rfl _ _ _) rfl ?_
                exact ⟨⟨_, rfl⟩, .inr ⟨_, ⟨_, (unhide HPR).symm⟩, hJx6⟩⟩
          · have q1 : (l.getD (s + i) 0 != 13) = true ∧ (l.getD (s + i) 0 != 10) = true := by
              have : ¬ (l.getD (s + i) 0 = 13 ∨ l.getD (s + i) 0 = 10) := fun h => hx (by unfold isNl; rcases h with h | h <;> rw [h] <;> rfl)
              constructor
              · simp only [bne_iff_ne, ne_eq]; exact fun h => this (Or.inl h)
              · simp only [bne_iff_ne, ne_eq]; exact fun h => this (Or.inr h)
            obtain ⟨q1, q2⟩ := q1
            have HN2 : Hid (∀ j, j < i + 1 → isNl (l.getD (s + j) 0) = false) := hide (fun j hj => by
              by_cases h : j = i
              · subst h; simpa using hx
              · exact unhide hno j (by omega))
            clear hx
            generalize l.getD (s + i) 0 = x at *
            gi_wp2_with fail
            go_round
            case rel => exact ⟨i + 1, by go_num, by omega, HN2⟩
            case measure => simp [intOf]; omega
        · obtain rfl : i = l.length - s := by omega
          have t1 := ge_int hlt
          have HNO := hno
          clear hno hi
          have e1 : LN l = pre ++ [((k, s, l.length, l.length) : Ln)] := by rw [unhide HSP, lnR_last (ctn_end hsl (unhide HNO))]
          have hz1 : W.heap.size + 1 ≤ w1.heap.size := p1.lt
          obtain ⟨fn, tmps, assign, body, hy, hR⟩ := hY pre (k, s, l.length, l.length) w1 2 ⟨[], by rw [e1]; simp⟩ j1 (by omega)
          have HE1 := hide e1
          clear e1
          simp only [encL, lnV] at hy
          gi_wp2_with fail
          refine hR.mono ?_
          rintro e w3 ⟨hk3, (⟨rfl, hJ3⟩ | ⟨rfl, hJx3⟩)⟩
          · gi_wp2
            (try simp only [Exit.noGoto]); refine bodyPost_end (results_none rfl _ _ _) rfl ?_
            exact ⟨⟨_, rfl⟩, .inl (by rw [unhide HE1]; exact hJ3)⟩
          · gi_wp2
            (try simp only [Exit.noGoto]); refine bodyPost_end (results_none rfl _ _ _) rfl ?_
            exact ⟨⟨_, rfl⟩, .inr ⟨_, by rw [unhide HE1]; exact List.prefix_refl _, hJx3⟩⟩
    · obtain rfl : s = l.length := by omega
      have HNO : Hid (∀ j, j < l.length - l.length → isNl (l.getD (l.length + j) 0) = false) := hide (fun j hj => by omega)
      have t0 : l.length - l.length = 0 := Nat.sub_self _
      have HT0 := hide t0
      clear hi hc cB
      by_cases hcs : cap = l.length
      · subst hcs
        gi_wp2_with fail
        generalize hw1 : wr.setCell ⟨W.heap.size, 0, none⟩ (.int .i64 (l.length : Int)) = w1 at *
        clear hw1 c0 c2 f0
        gi_loop [17] (fun v => v = .int .i64 0) (fun _ => 0)
        case atStart => rfl
        case round =>
          subst hrel
          have e1 : LN l = pre ++ [((k, l.length, l.length, l.length) : Ln)] := by rw [unhide HSP, lnR_last (ctn_end hsl (unhide HNO))]
          have hz1 : W.heap.size + 1 ≤ w1.heap.size := p1.lt
          obtain ⟨fn, tmps, assign, body, hy, hR⟩ := hY pre (k, l.length, l.length, l.length) w1 2 ⟨[], by rw [e1]; simp⟩ j1 (by omega)
          have HE1 := hide e1
          clear e1
          simp only [encL, lnV] at hy
          gi_wp2_with fail
          refine hR.mono ?_
          rintro e w3 ⟨hk3, (⟨rfl, hJ3⟩ | ⟨rfl, hJx3⟩)⟩
          · gi_wp2
            (try simp only [Exit.noGoto]); refine bodyPost_end (results_none rfl _ _ _) rfl ?_
            exact ⟨⟨_, rfl⟩, .inl (by rw [unhide HE1]; exact hJ3)⟩
          · gi_wp2
            (try simp only [Exit.noGoto]); refine bodyPost_end (results_none rfl _ _ _) rfl ?_
            exact ⟨⟨_, rfl⟩, .inr ⟨_, by rw [unhide HE1]; exact List.prefix_refl _, hJx3⟩⟩
      · gi_wp2_with fail
        generalize hw1 : wr.setCell ⟨W.heap.size, 0, none⟩ (.int .i64 (l.length : Int)) = w1 at *
        clear hw1 c0 c2 f0
        gi_loop [17] (fun v => v = .int .i64 0) (fun _ => 0)
        case atStart => rfl
        case round =>
          subst hrel
          have e1 : LN l = pre ++ [((k, l.length, l.length, l.length) : Ln)] := by rw [unhide HSP, lnR_last (ctn_end hsl (unhide HNO))]
          have hz1 : W.heap.size + 1 ≤ w1.heap.size := p1.lt
          obtain ⟨fn, tmps, assign, body, hy, hR⟩ := hY pre (k, l.length, l.length, l.length) w1 2 ⟨[], by rw [e1]; simp⟩ j1 (by omega)
          have HE1 := hide e1
          clear e1
          simp only [encL, lnV] at hy
          gi_wp2_with fail
          refine hR.mono ?_
          rintro e w3 ⟨hk3, (⟨rfl, hJ3⟩ | ⟨rfl, hJx3⟩)⟩
          · gi_wp2
            (try simp only [Exit.noGoto]); refine bodyPost_end (results_none rfl _ _ _) rfl ?_
            exact ⟨⟨_, rfl⟩, .inl (by rw [unhide HE1]; exact hJ3)⟩
          · gi_wp2
            (try simp only [Exit.noGoto]); refine bodyPost_end (results_none rfl _ _ _) rfl ?_
            exact ⟨⟨_, rfl⟩, .inr ⟨_, by rw [unhide HE1]; exact List.prefix_refl _, hJx3⟩⟩

end Go.Proofs.YtkdnanlgkedjgabDoor
