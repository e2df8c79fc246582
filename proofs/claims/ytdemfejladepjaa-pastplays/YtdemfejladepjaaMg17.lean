/- Layer 17: the document's past, its lists of steps. Written by wip/tools/pva.py. -/
import Derived.Test.YtdemfejladepjaaMg16
import Derived.Test.YtdemfejladepjaaMg15

namespace Go.Proofs.Ytdemfejladepjaa
open Go.ChangeShapes Go.WideShapes Go.ChangeAt Go.RowKit
attribute [local go_sem] Oper.semAt_some

/-- a list of the document's steps -/
def RD (X : World) (v : Value) (l : List (Int × ByteArray)) (k : Option Nat) : Prop := RA X 2 v l.length (stI l) k
theorem RD.kpf {F : Nat → Prop} {X Y : World} {v : Value} {l : List (Int × ByteArray)} {k : Option Nat} (h : RD X v l k) (b : KpF F X Y) (hF : ∀ g, k = some g → ¬ F g) : RD Y v l k := RA.kpf h b hF
theorem RD.below {X Y : World} {v : Value} {l : List (Int × ByteArray)} {k : Option Nat} (h : RD X v l k) (b : Below X.heap.size X Y) : RD Y v l k := RA.kpf (F := fun _ => False) h (KpF.of b) (fun _ _ e => e)
theorem RD.val {X : World} {v : Value} {l : List (Int × ByteArray)} {k : Option Nat} (h : RD X v l k) : ∃ a c, v = .slice a l.length c := by
  rcases RA.val h with ⟨e, e2, _⟩ | ⟨g, off, cap, e, _⟩
  · exact ⟨none, 0, by rw [e, e2]⟩
  · exact ⟨_, _, e⟩
set_option maxRecDepth 100000 in
theorem appD {X : World} {v v2 : Value} {l l2 : List (Int × ByteArray)} {k k2 : Option Nat} (h : RD X v l k) (h2 : RD X v2 l2 k2) (h0 : v = .slice none 0 0 → 0 < l2.length) (hn : l.length + l2.length ≤ 1000000) :
    ∃ v' Y k', (Builtin.append_ #[42, 42] 42 #[v, v2]).run Try.prog X = .ok v' Y ∧ RD Y v' (l ++ l2) k' ∧ KpF (fun b => k = some b) X Y ∧ (k' = k ∧ k ≠ none ∨ k' = some X.heap.size) := by
  obtain ⟨v', Y, k', hr, h5, h6, h7⟩ := RA.pushN (P := Try.prog) h 42 42 82 _ _ 24 Try.underlying42 rfl rfl rfl rfl rfl v2 l2.length (stI l2) (RA.src h2 Try.underlying42 (stI_one l2)) h0 (by omega) (by omega)
  refine ⟨v', Y, k', hr, ?_, h6, h7⟩
  unfold RD
  rw [List.length_append, show stI (l ++ l2) = stI l ++ stI l2 by simp [stI]]
  exact h5
set_option maxRecDepth 100000 in
theorem pushD {X : World} {v : Value} {l : List (Int × ByteArray)} {k : Option Nat} (h : RD X v l k) (s : Int) (w : ByteArray) (hn : l.length ≤ 1000000) :
    ∃ v' Y k', (Builtin.append_ #[42, 42] 42 #[v, .slice (some ⟨X.heap.size, 0, none⟩) 1 1]).run Try.prog (X.alloc (.cells #[.int .i64 s, .string w] 82)) = .ok v' Y ∧ RD Y v' (l ++ [(s, w)]) k' ∧
      KpF (fun b => k = some b) X Y ∧ (k' = k ∧ k ≠ none ∨ ∃ h, k' = some h ∧ X.heap.size ≤ h) := by
  have h1 := RA.allocd h (.cells #[.int .i64 s, .string w] 82)
  obtain ⟨v', Y, k', hr, h2, h3, h4⟩ := h1.push (P := Try.prog) 42 42 82 _ _ 24 Try.underlying42 rfl rfl rfl rfl rfl ⟨X.heap.size, 0, none⟩ 1 [.int .i64 s, .string w] rfl (fun j u hj => by
      rw [Addr.add_lit, Nat.zero_add]
      refine (World.cell?_alloc_mark X _ _ (0, 0) j).trans ?_
      rw [List.getElem?_toArray]; exact hj) (fun u hu => by
      simp only [List.mem_cons, List.not_mem_nil, or_false] at hu
      rcases hu with rfl | rfl <;> rfl) (by omega) (by omega)
  refine ⟨v', Y, k', hr, ?_, ((KpF.alloc _ X _).trans h3 (fun _ _ e => e)), ?_⟩
  · unfold RD
    rw [stI_app, List.length_append]
    exact h2
  · rcases h4 with h4 | h4
    · exact .inl h4
    · exact .inr ⟨_, h4, by simp⟩
theorem keepP_fit {α : Type} {m : Int} {l : List (α × ByteArray)} {x : α × ByteArray} (h : (l.length : Int) + 1 ≤ m) : keepP m l x = l ++ [x] := by unfold keepP; rw [if_neg (by omega)]
theorem keepP_full {α : Type} {m : Int} {l : List (α × ByteArray)} {x : α × ByteArray} (h : ¬ (l.length : Int) + 1 ≤ m) : keepP m l x = (l ++ [x]).drop 1 := by unfold keepP; rw [if_pos (by omega)]
set_option maxRecDepth 100000 in
set_option maxHeartbeats 4000000 in
theorem more_at (X : World) (v : Value) (l : List (Int × ByteArray)) (k : Option Nat) (h : RD X v l k) (s : Int) (w : ByteArray) (m : Int) (hm : (l.length : Int) ≤ m) (hm2 : m ≤ 4096) :
    Calls Try.prog 49 #[v, .agg #[.int .i64 s, .string w], .int .i64 m] X fun y Y => ∃ v' k', y = .returned v' ∧ RD Y v' (keepP m l (s, w)) k' ∧ (∀ i, k' = some i → X.heap.size ≤ i) ∧ Below X.heap.size X Y := by
  have hl : l.length ≤ 4096 := by omega
  obtain ⟨va, vc, rfl⟩ := h.val
  have HB0 := hide (((Below.refl X.heap.size X).alloc (Nat.le_refl _) (.cells #[.int .i64 s, .string w] 82)).alloc (by simp) (.cells #[] 82))
  have HK0 := hide ((Cls.new X 82 #[.int .i64 s, .string w]).alloc (.cells #[] 82))
  have e0 : RD ((X.alloc (.cells #[.int .i64 s, .string w] 82)).alloc (.cells #[] 82)) (.slice (some ⟨X.heap.size + 1, 0, none⟩) 0 0) [] (some (X.heap.size + 1)) := RA.bare rfl (by simp) 0 rfl
  obtain ⟨v1, Y1, k1, hr1, h11, h12, h13⟩ := appD e0 (h.kpf (F := fun _ => False) (((KpF.alloc _ X _)).trans (KpF.alloc _ _ _) (fun _ _ e => e)) (fun _ _ e => e)) (fun e => by cases e) (by simp; omega)
  rw [List.nil_append] at h11
  have R1 := hide hr1
  have hk1 : ∀ i, k1 = some i → X.heap.size ≤ i := fun i e => by
    rcases h13 with ⟨e1, _⟩ | e1
    · rw [e1] at e; cases e; omega
    · rw [e1] at e; cases e; simp; omega
  have HB1 := hide ((unhide HB0).trans (h12.below (B := X.heap.size) (unhide HB0).size (fun i e => by cases e; omega)))
  have HK1 := hide ((unhide HK0).kpf h12 (fun e => by injection e with e; omega))
  have H11 := hide h11
  have HK := hide hk1
  have HM := hide hm
  have HL := hide hl
  have HM2 := hide hm2
  clear h e0 hr1 h11 h12 h13 hk1 HB0 HK0 hm hm2 hl
  go_enter Try.func49, Try.ntmps49
  go_upto_region 2 with (at_builtin; refine wpList_append_known rfl _ _ 42 42 rfl _ _ rfl rfl _ _ (unhide R1) ?_; clear R1)
  have c0 : Y1.cell? ⟨X.heap.size, 0, none⟩ = some (.int .i64 s) := ((unhide HK1).cell 0).trans rfl
  have c1 : Y1.cell? ⟨X.heap.size, 1, none⟩ = some (.string w) := ((unhide HK1).cell 1).trans rfl
  obtain ⟨v2, Y2, k2, hr2, h21, h22, h23⟩ := pushD (unhide H11) s w (by have := unhide HL; omega)
  have R2 := hide hr2
  have hk2 : ∀ i, k2 = some i → X.heap.size ≤ i := fun i e => by
    rcases h23 with ⟨e1, _⟩ | ⟨j, e1, hj⟩
    · exact unhide HK i (e1 ▸ e)
    · rw [e1] at e; cases e; exact Nat.le_trans (unhide HB1).size hj
  have HB2 := hide ((unhide HB1).trans (h22.below (B := X.heap.size) (unhide HB1).size (fun i e => unhide HK i e)))
  have HK2 := hide hk2
  obtain ⟨g, off, cap, rfl, hkg, hg, hcap, j1, j2⟩ := RA.form h21 (by simp)
  clear j1 j2
  have H21 := hide h21
  rw [show (l ++ [(s, w)]).length = l.length + 1 by simp] at hcap H21
  rw [show (l ++ [(s, w)]).length = l.length + 1 by simp] at R2
  have HLL := hide (show (stI (l ++ [(s, w)])).drop 2 = stI ((l ++ [(s, w)]).drop 1) from fm_drop _ 2 (fun _ => rfl) _)
  clear hr2 h21 h22 h23 hk2 HK1 HB1 H11 HK
  have HKF : Hid ((l.length : Int) + 1 ≤ m → keepP m l (s, w) = l ++ [(s, w)]) := hide fun h => keepP_fit h
  have HKG : Hid (¬ (l.length : Int) + 1 ≤ m → keepP m l (s, w) = (l ++ [(s, w)]).drop 1) := hide fun h => keepP_full h
  have HDL : Hid (((l ++ [(s, w)]).drop 1).length = l.length) := hide (by simp)
  generalize l.length = N at *
  go_upto_region 3 with (at_builtin; refine wpList_append_known rfl _ _ 42 42 rfl _ _ rfl rfl _ _ (unhide R2) ?_; clear R2)
  have tc : ¬ ((N : Int) + 1 > cap) := by omega
  have tc0 : ¬ ((0 : Int) > cap) := by omega
  by_cases hf : (N : Int) + 1 ≤ m
  · have HR := hide (show RD Y2 (.slice (some ⟨g, off, none⟩) (N + 1) cap) (keepP m l (s, w)) k2 from by rw [unhide HKF hf]; exact unhide H21)
    have hw : wrap64 ((N : Int) + 1 - m) = (N : Int) + 1 - m := by unfold wrap64; have := unhide HL; have := unhide HM2; omega
    have hmx : max (0 : Int) ((N : Int) + 1 - m) = 0 := by omega
    clear hf HM HL HM2 HLL HKF HKG H21 HDL
    go_wp2_with fail
    exact bodyPost_ret (results_tmp (t := 6) rfl _ _ _) rfl ⟨_, rfl, _, unhide HR, unhide HK2, unhide HB2⟩
  · have hmN : m = N := by have := unhide HM; omega
    have rt := RA.tail (by have := unhide H21; unfold RD at this; rw [show (l ++ [(s, w)]).length = N + 1 by have := unhide HDL; simp at this ⊢; exact this] at this; exact this)
    have HR := hide (show RD Y2 (.slice (some ⟨g, off + 2, none⟩) N (cap - 1)) (keepP m l (s, w)) k2 from by rw [unhide HKG hf]; unfold RD; rw [unhide HDL, ← unhide HLL]; exact rt)
    have HR0 : Hid (cap = 1 → RD Y2 (.slice (some ⟨g, off, none⟩) N 0) (keepP m l (s, w)) k2) := hide fun hc => by
      have h0 : N = 0 := by omega
      rw [unhide HKG hf, List.eq_nil_of_length_eq_zero ((unhide HDL).trans h0), h0]
      exact RA.bare hkg hg off rfl
    have hw : wrap64 ((N : Int) + 1 - m) = (N : Int) + 1 - m := by unfold wrap64; omega
    have hmx : max (0 : Int) ((N : Int) + 1 - m) = 1 := by omega
    clear hmN
    clear hf HM HL HM2 HLL HKF HKG H21 HDL rt
    have t1 : ¬ ((1 : Int) > cap) := by omega
    go_wp2_with fail
    all_goals first
      | exact bodyPost_ret (results_tmp (t := 6) rfl _ _ _) rfl ⟨_, rfl, _, unhide HR, unhide HK2, unhide HB2⟩
      | exact bodyPost_ret (results_tmp (t := 6) rfl _ _ _) rfl ⟨_, rfl, _, unhide HR0 (by omega), unhide HK2, unhide HB2⟩
      | trace_state
set_option maxRecDepth 100000 in
set_option maxHeartbeats 4000000 in
theorem less_at (X : World) (v : Value) (Q : List (Int × ByteArray)) (x : Int × ByteArray) (k : Option Nat) (h : RD X v (Q ++ [x]) k) (hl : Q.length ≤ 4096) :
    Calls Try.prog 52 #[v] X fun y Y => ∃ v' k', y = .returned v' ∧ RD Y v' Q k' ∧ (∀ i, k' = some i → X.heap.size ≤ i) ∧ Below X.heap.size X Y := by
  have hz : (Q ++ [x]).length = Q.length + 1 := by simp
  unfold RD at h
  rw [hz] at h
  obtain ⟨g, off, cap, rfl, hkg, hg, hcap, j1, j2⟩ := RA.form h (by omega)
  clear j1 j2
  have hf := RA.front h
  have hx : (stI (Q ++ [x])).take (Q.length * 2) = stI Q := by
    have := fm_take (fun x : Int × ByteArray => ([.int .i64 x.1, .string x.2] : List Value)) 2 (fun _ => rfl) Q.length (Q ++ [x])
    rw [List.take_left] at this
    exact this
  rw [hx] at hf
  have HB0 := hide ((Below.refl X.heap.size X).alloc (Nat.le_refl _) (.cells #[] 82))
  have e0 : RD (X.alloc (.cells #[] 82)) (.slice (some ⟨X.heap.size, 0, none⟩) 0 0) [] (some X.heap.size) := RA.bare rfl (by simp) 0 rfl
  obtain ⟨v1, Y1, k1, hr1, h11, h12, h13⟩ := appD e0 (RD.kpf (F := fun _ => False) (show RD X _ Q k from hf) (KpF.alloc _ X _) (fun _ _ e => e)) (fun e => by cases e) (by simp; omega)
  rw [List.nil_append] at h11
  have R1 := hide hr1
  have hk1 : ∀ i, k1 = some i → X.heap.size ≤ i := fun i e => by
    rcases h13 with ⟨e1, _⟩ | e1
    · rw [e1] at e; cases e; omega
    · rw [e1] at e; cases e; simp
  have HB1 := hide ((unhide HB0).trans (h12.below (B := X.heap.size) (unhide HB0).size (fun i e => by cases e; omega)))
  have H11 := hide h11
  have HK := hide hk1
  generalize Q.length = N at *
  have w1 : wrap64 ((N : Int) + 1 - 1) = N := by unfold wrap64; omega
  have w2 : wrap64 (N : Int) = N := by unfold wrap64; omega
  have tc : ¬ ((N : Int) > cap) := by omega
  have tc' : (N : Int) ≤ cap := by omega
  have tn : N ≤ cap := by omega
  clear h hf e0 hr1 h11 h12 h13 hk1 HB0 hl hz hx
  go_enter Try.func52, Try.ntmps52
  go_wp2_with (at_builtin; refine wpList_append_known rfl _ _ 42 42 rfl _ _ rfl rfl _ _ (unhide R1) ?_; clear R1)
  exact bodyPost_ret (results_tmp (t := 2) rfl _ _ _) rfl ⟨_, rfl, _, unhide H11, unhide HK, unhide HB1⟩
set_option maxRecDepth 100000 in
set_option maxHeartbeats 4000000 in
theorem RWords_at (X : World) (v : Value) (l : List (Int × ByteArray)) (k : Option Nat) (h : RD X v l k) (hl : l.length ≤ 4096) :
    Calls Try.prog 19 #[v] X fun y Y => ∃ v' k', y = .returned v' ∧ RS Y v' (l.reverse.map (·.2)) k' ∧ (∀ g, k' = some g → X.heap.size ≤ g) ∧ Below X.heap.size X Y := by
  obtain ⟨a, c, rfl⟩ := h.val
  obtain ⟨LW, hLW⟩ : ∃ LW, LW = l.reverse.map (·.2) := ⟨_, rfl⟩
  rw [← hLW]
  have HLW := hide hLW
  clear hLW
  have HW : Hid (∀ Z, Below X.heap.size X Z → ∀ i (hi : i < l.length), ∃ g off, a = some ⟨g, off, none⟩ ∧ Z.cell? ⟨g, off + i * 2 + 1, none⟩ = some (.string l[i].2)) := hide fun Z hZ i hi => by
    obtain ⟨g, off, cap, e, hk, hg, _, _, hc⟩ := RA.form h (by omega)
    cases e
    refine ⟨g, off, rfl, ?_⟩
    rw [hZ.cell (p := ⟨g, off + i * 2 + 1, none⟩) hg, Nat.add_assoc, hc _ (idx_lt (by omega) hi)]
    exact stI_get1 l i hi
  have HS : Hid (RS X (.slice none 0 0) ((l.drop l.length).reverse.map (·.2)) none ∧ ∀ g, (none : Option Nat) = some g → X.heap.size ≤ g) := hide ⟨by rw [List.drop_length]; exact RA.nil _ _, fun _ e => (nomatch e)⟩
  have HB := hide (Below.refl X.heap.size X)
  have HL := hide hl
  have w1 : wrap64 ((l.length : Int) - 1) = (l.length : Int) - 1 := by unfold wrap64; omega
  clear h hl
  go_enter Try.func19, Try.ntmps19
  go_wp2_with fail
  go_loopw [3, 4] (fun v3 v4 wx => (∃ vl, v3 = vl ∧ Hid (∃ m : Nat, v4 = .int .i64 ((m : Int) - 1) ∧ m ≤ l.length ∧ ∃ kk, RS wx vl ((l.drop m).reverse.map (·.2)) kk ∧ ∀ g, kk = some g → X.heap.size ≤ g)) ∧ (∃ i : Int, v4 = .int .i64 i) ∧ Hid (Below X.heap.size X wx)) (fun _ v4 _ => (intOf v4 + 1).toNat)
  case atStart => exact ⟨⟨_, rfl, hide ⟨l.length, by first | rfl | rw [w1], Nat.le_refl _, none, unhide HS⟩⟩, ⟨_, rfl⟩, HB⟩
  case round =>
    obtain ⟨⟨vl, rfl, HS2⟩, ⟨i, rfl⟩, HB2⟩ := hrel
    obtain ⟨m, hm1, hm2, kk, hs, hkk⟩ := unhide HS2
    injection hm1 with _ hm1
    subst hm1
    cases m with
    | zero =>
      have e0 : ((0 : Nat) : Int) - 1 = -1 := rfl
      rw [e0]
      have HR : Hid (RS wr u3 LW kk) := hide (by rw [unhide HLW]; simpa using hs)
      have HKK := hide hkk
      clear HS2 hs hkk HS HW w1
      go_wp2_with fail
      exact bodyPost_ret (results_tmp (t := 2) rfl _ _ _) rfl ⟨_, rfl, _, unhide HR, unhide HKK, unhide HB2⟩
    | succ r =>
      have e0 : ((r + 1 : Nat) : Int) - 1 = (r : Int) := by omega
      rw [e0]
      have hr : r < l.length := hm2
      obtain ⟨g, off, rfl, hc⟩ := unhide HW wr (unhide HB2) r hr
      obtain ⟨v', Z, k', hrun, h5, h6, h7⟩ := pushW hs l[r].2 (by simp; have := unhide HL; omega)
      have R1 := hide hrun
      have HN : Hid (∃ m : Nat, Value.int .i64 ((r : Int) - 1) = .int .i64 ((m : Int) - 1) ∧ m ≤ l.length ∧ ∃ kk, RS Z v' ((l.drop m).reverse.map (·.2)) kk ∧ ∀ g, kk = some g → X.heap.size ≤ g) := hide ⟨r, rfl, by omega, k', by
        rw [List.drop_eq_getElem_cons hr, List.reverse_cons, List.map_append]; exact h5, fun i e => by
        rcases h7 with ⟨e1, _⟩ | ⟨j, e1, hj⟩
        · exact hkk i (e1 ▸ e)
        · rw [e1] at e; cases e; have := (unhide HB2).size; omega⟩
      have HB3 := hide ((unhide HB2).trans (h6.below (B := X.heap.size) (unhide HB2).size (fun i e => hkk i e)))
      have w2 : wrap64 ((r : Int) - 1) = (r : Int) - 1 := by have := unhide HL; unfold wrap64; omega
      have t1 : decide ((r : Int) ≥ 0) = true := decide_eq_true (by omega)
      have t1' : decide (0 ≤ (r : Int)) = true := decide_eq_true (by omega)
      have hri : (r : Int) < (l.length : Int) := by omega
      generalize l[r].2 = wd at *
      clear HS2 hs hrun h5 h6 h7 hkk HS HW w1 HB2
      go_wp2_with (at_builtin; refine wpList_append_known rfl _ _ 51 51 rfl _ _ rfl rfl _ _ (unhide R1) ?_; clear R1)
      go_roundw
      case rel => rw [w2]; exact ⟨⟨_, rfl, HN⟩, ⟨_, rfl⟩, HB3⟩
      case measure => rw [w2]; simp [intOf]
end Go.Proofs.Ytdemfejladepjaa
