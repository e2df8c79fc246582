/- Contracts of bytes.Clone, step.Back and of the iterator that Back answers: the steps with their places, from the last on. -/
import Derived.Test.YtbkageelholpeaaDoorIts
import Derived.Test.YtbkageelholpeaaDoorCopy
namespace Go.Proofs.YtbkageelholpeaaDoor
open Go.ChangeShapes Go.WideShapes Go.ChangeAt Go.RowKit
attribute [local go_sem] Oper.semAt_some

theorem eqnil_none (n c : Nat) (w : World) : (binOp .eql 22 (.slice none n c) (.slice none 0 0)).run Tryd.prog w = .ok (.bool true) w := by kernel_rfl
theorem eqnil_some (a : Addr) (n c : Nat) (w : World) : (binOp .eql 22 (.slice (some a) n c) (.slice none 0 0)).run Tryd.prog w = .ok (.bool false) w := by kernel_rfl
theorem Clone_at (a0 : Option Addr) (cap : Nat) (l : List Int) (w : World) (hB : IsB w a0 cap l) :
    Calls Tryd.prog 17 #[.slice a0 l.length cap] w fun e w' => ∃ a' c', e = .returned (.slice a' l.length c') ∧ IsB w' a' c' l ∧ Below w.heap.size w w' := by
  cases a0 with
  | none =>
    obtain rfl : l = [] := by
      rcases hB.2.2.1 with h | ⟨g, off, h, _⟩
      · exact h
      · cases h
    have hq := eqnil_none
    go_enter Tryd.func17, Tryd.ntmps17
    go_wp2
    go_ret
    exact ⟨none, 0, rfl, ⟨Nat.le_refl _, by simp, Or.inl rfl, hB.2.2.2⟩, Below.refl _ _⟩
  | some a =>
    obtain ⟨a1, c1, w1, r1, x1, y1, z1⟩ := run_copy w (some a) cap l 22 hB
    have R1 := hide r1
    clear r1
    have hq := eqnil_some
    go_enter Tryd.func17, Tryd.ntmps17
    go_wp2_with (at_builtin; refine wpList_append_known rfl _ _ 22 22 rfl _ _ rfl rfl _ _ (unhide R1) ?_)
    go_ret
    exact ⟨a1, c1, rfl, ⟨x1, hB.2.1, y1, hB.2.2.2⟩, z1⟩

theorem Back_at (a0 : Option Addr) (cap : Nat) (l : List Int) (w : World) (hB : IsB w a0 cap l) :
    Calls Tryd.prog 6 #[.slice a0 l.length cap] w fun e w' => ∃ g a' c', e = .returned (.func (.func 18) #[] #[.pointer (some ⟨g, 0, none⟩)]) ∧ g < w'.heap.size ∧ w'.cell? ⟨g, 0, none⟩ = some (.slice a' l.length c') ∧ IsB w' a' c' l ∧ Below w.heap.size w w' := by
  go_enter Tryd.func6, Tryd.ntmps6
  go_wp2_with (go_at_call 17; refine (Clone_at a0 cap l w hB).mono ?_; rintro e w1 ⟨a1, c1, rfl, b1, x1⟩)
  go_ret
  exact ⟨w1.heap.size, a1, c1, rfl, by simp, (World.cell?_alloc_mark w1 _ _ (0, 0) 0).trans rfl, b1.below ((Below.refl w1.heap.size w1).alloc (Nat.le_refl _) _) (Nat.le_refl _), x1.alloc x1.size _⟩

/-- the step that ends at an edge -/
theorem prev_edge {l : List Int} {p : Nat} (he : inside l p = false) (hp : 0 < p) (hl : p ≤ l.length) : flr l (p - 1) < p ∧ inside l (flr l (p - 1)) = false ∧ flr l (p - 1) + wid (l.drop (flr l (p - 1))) = p := by
  have h1 := flr_le l (p - 1)
  have h2 := flr_edge l (p - 1)
  refine ⟨by omega, h2, ?_⟩
  generalize hq : flr l (p - 1) = q at *
  have hql : q < l.length := by omega
  have hw := wid_pos hql
  have h3 : p - 1 < q + wid (l.drop q) := by
    cases hi : inside l (p - 1) with
    | true => have := (flr_wid hi).2; rwa [hq] at this
    | false => have := flr_eq hi; omega
  rcases Nat.lt_or_ge p (q + wid (l.drop q)) with h | h
  · have := edge_between (l := l) (p := q) (k := p - q) (by omega) (by omega) hql
    rw [show q + (p - q) = p by omega, he] at this
    cases this
  · omega
theorem spots_suffix {l : List Int} : ∀ (n p : Nat), p ≤ n → p ≤ l.length → inside l p = false → ∃ A, spots l 0 = A ++ spots l p
  | 0, p, h, _, _ => by
    obtain rfl : p = 0 := by omega
    exact ⟨[], rfl⟩
  | n + 1, p, h, hl, he => by
    rcases Nat.eq_zero_or_pos p with rfl | hp
    · exact ⟨[], rfl⟩
    · obtain ⟨h1, h2, h3⟩ := prev_edge he hp hl
      obtain ⟨A, hA⟩ := spots_suffix n (flr l (p - 1)) (by omega) (by omega) h2
      refine ⟨A ++ [flr l (p - 1)], ?_⟩
      rw [hA, spots_cons (by omega : flr l (p - 1) < l.length), h3]
      simp
theorem lng_cut {x : List Int} (h : lng x ≠ 0) : lng (x.take (wid x)) = lng x ∧ first (x.take (wid x)) = first x := by
  cases x with
  | nil => simp [lng] at h
  | cons a r =>
    obtain ⟨h1, h2, _⟩ := need_of_lng h
    have hn : (need a).toNat = lng (a :: r) := by omega
    obtain ⟨m, hm⟩ : ∃ m, lng (a :: r) = m + 1 := ⟨lng (a :: r) - 1, by omega⟩
    have e : ((a :: r).take (wid (a :: r))) = a :: r.take m := by rw [h2, hm]; rfl
    have e2 : (a :: r.take m).take (need a).toNat = (a :: r).take (need a).toNat := by
      rw [hn, hm, List.take_succ_cons, List.take_succ_cons, List.take_take, Nat.min_self]
    rw [e]
    exact ⟨by simp only [lng, e2], by simp only [first, e2]⟩
theorem stp_cut (x : List Int) (hx : 0 < x.length) : stp (x.take (wid x)) = stp x := by
  by_cases h : lng x = 0
  · cases x with
    | nil => cases hx
    | cons a r =>
      have hw : wid (a :: r) = 1 := by rw [wid_lng, if_pos h]
      rw [hw, stp_bad' h]
      by_cases h2 : lng [a] = 0
      · exact stp_bad' h2
      · exfalso
        obtain ⟨h3, _, _⟩ := need_of_lng h2
        have h4 := lng_len [a]
        have hn : need a = 1 := by simp at h4; omega
        apply h2
        have : lng (a :: r) = 1 := by
          simp only [lng, hn]
          show (if whole [a] = true then 1 else 0) = 1
          rw [whole_one hn, if_pos rfl]
        omega
  · obtain ⟨h1, h2⟩ := lng_cut h
    have hw : wid (x.take (wid x)) = wid x := by unfold wid; rw [show (first x).2 = wid x from rfl, h2]; rfl
    unfold stp
    rw [h2, hw]
    unfold whl
    rw [h1]

theorem first_part (g off cap q n : Nat) (l : List Int) (w : World) (hn : n ≤ l.length) (h0 : q + wid (l.drop q) = n) (hq : q < l.length) (hm : l.length ≤ maxLen) (hcap : l.length ≤ cap) (hL : Lies w g off l) (hT : Tab w) :
    Calls Tryd.prog 20 #[.slice (some ⟨g, off + q, none⟩) (n - q) (cap - q)] w fun e w' => e = .returned (stp (l.drop q)) ∧ Below w.heap.size w w' := by
  have hw := wid_pos hq
  have hlen : ((l.drop q).take (wid (l.drop q))).length = n - q := by rw [List.length_take, List.length_drop]; omega
  have := first_at g (off + q) (cap - q) ((l.drop q).take (wid (l.drop q))) w (by omega) (by omega) (by omega) ((hL.drop q).take _) hT
  rwa [hlen, stp_cut _ (by rw [List.length_drop]; omega)] at this

set_option maxRecDepth 100000 in
set_option maxHeartbeats 1000000 in
theorem back1_in (lo Bn n₀ : Nat) (l : List Int) (a0 : Option Addr) (cap : Nat) (J Jx : List Nat → World → Prop) (W : World) (hJ : AbidesFrom W.heap.size J)
    (hY : ∀ pre x W1, J pre W1 → pre.length < (spots l 0).reverse.length → YieldAt Fence.wide (2 - 1) Tryd.prog lo (encS l x) W1 fun e W' =>
      (e = .returned (.bool true) ∧ J (pre ++ [x]) W' ∧ Kp n₀ W1 W') ∨ (e = .returned (.bool false) ∧ Jx (pre ++ [x]) W'))
    (hBn : W.cell? ⟨Bn, 0, none⟩ = some (.slice a0 l.length cap)) (hBl : Bn < n₀) (hn : n₀ ≤ W.heap.size) (h0n : 0 < n₀) (hT : Tab W) (hB : ∀ W', Below n₀ W W' → IsB W' a0 cap l) (h0 : J [] W) :
    CallsIn Fence.wide 2 Tryd.prog 18 #[.func (.yield lo) #[] #[], .pointer (some ⟨Bn, 0, none⟩)] W fun e W' => (∃ v, e = .returned v) ∧
      ((∃ ys, ys = (spots l 0).reverse ∧ J ys W') ∨ (∃ pre, pre <+: (spots l 0).reverse ∧ Jx pre W')) := by
  have hBW := hB W (Below.refl _ _)
  have hl' := hBW.2.1
  have hcl := hBW.1
  refine callsIn_of_wp Tryd.func18 rfl trivial ?_ rfl
  simp only [Tryd.ntmps18, List.size_toArray, List.length_cons, List.length_nil, Nat.reduceAdd, Nat.reduceSub, Array.replicate_succ, Array.replicate_zero, List.push_toArray, List.append_toArray, List.nil_append, List.cons_append]
  gi_wp2
  gi_loopw [3] (fun v wr => ∃ p : Nat, v = .int .i64 p ∧ p ≤ l.length ∧ inside l p = false ∧ J (spots l p).reverse wr ∧ Below n₀ W wr) (fun v _ => (intOf v).toNat)
  case atStart => exact ⟨l.length, rfl, Nat.le_refl _, edge_len l, by rw [spots_end (by omega)]; exact h0, Below.refl _ _⟩
  case round =>
    obtain ⟨p, rfl, hpl, he, hJs, hbw⟩ := hrel
    rcases Nat.eq_zero_or_pos p with rfl | hp
    · gi_wp2
      go_end0
      exact ⟨⟨_, rfl⟩, .inl ⟨_, rfl, hJs⟩⟩
    · obtain ⟨h1, h2, h3⟩ := prev_edge he hp hpl
      obtain ⟨A, hA⟩ := spots_suffix (l := l) _ (flr l (p - 1)) (Nat.le_refl _) (by omega) h2
      have hsc := spots_cons (l := l) (p := flr l (p - 1)) (by omega)
      rw [h3] at hsc
      have hpm : (p : Int) - 1 = ((p - 1 : Nat) : Int) := by omega
      generalize hq : flr l (p - 1) = q at *
      have HQ := hide hq
      have HSC := hide hsc
      have HA := hide hA
      have HH2 := hide h2
      have hpp : (0 : Int) < (p : Int) := by omega
      generalize hpm1 : p - 1 = m at *
      have HPM := hide hpm1
      clear hq hsc hA h2 he hpm1
      have hBr := hB wr hbw
      have hTr := hT.below hbw h0n
      have hcr : wr.cell? ⟨Bn, 0, none⟩ = some (.slice a0 l.length cap) := (hbw.cell (p := ⟨Bn, 0, none⟩) hBl).trans hBn
      gi_wp2_with fail
      refine ⟨trivial, ?_⟩
      refine (callsIn_wide.2 (floor_at a0 cap m l wr (by omega) hBr hTr)).mono ?_
      rw [unhide HQ]
      rintro e w1 ⟨rfl, x1⟩
      have hJ1 := hJ _ wr w1 none hJs (grown_below none x1) (fun r e => by cases e)
      have b1 := hbw.trans (x1.mono (Nat.le_trans hn hbw.size))
      have hB1 := hB w1 b1
      have hT1 := hT.below b1 h0n
      have hc1 : w1.cell? ⟨Bn, 0, none⟩ = some (.slice a0 l.length cap) := (b1.cell (p := ⟨Bn, 0, none⟩) hBl).trans hBn
      clear hBr hTr hcr hJs x1
      obtain ⟨g, off, rfl, hL, hg⟩ := hB1.2.2.1.lies (by omega)
      have hqc : ¬ cap = q := by omega
      have q1 : q ≤ p := by omega
      have q2 : p ≤ cap := by omega
      gi_wp2_with fail
      refine ⟨trivial, ?_⟩
      refine (callsIn_wide.2 (first_part g off cap q p l w1 hpl h3 (by omega) (by unfold maxLen; omega) hcl hL hT1)).mono ?_
      unfold stp stepV
      rintro e w2 ⟨rfl, x2⟩
      have hJ2 := hJ _ w1 w2 none hJ1 (grown_below none x2) (fun r e => by cases e)
      have b2 := b1.trans (x2.mono (Nat.le_trans hn b1.size))
      obtain ⟨fn, tmps, assign, body, hy, hR⟩ := hY (spots l p).reverse q w2 hJ2 (by rw [unhide HA, unhide HSC]; simp)
      unfold encS at hy
      clear hc1 hT1 hJ1 hB1 hL b1 x2
      gi_wp2_with fail
      refine hR.mono ?_
      rintro e w3 (⟨rfl, hJ3, hk3⟩ | ⟨rfl, hJx3⟩)
      · gi_wp2
        go_roundw
        case rel => exact ⟨q, rfl, by omega, unhide HH2, by rw [unhide HSC]; simpa using hJ3, b2.trans hk3.1⟩
        case measure => simp [intOf]; omega
      · gi_wp2
        refine bodyPost_ret (results_none rfl _ _ _) rfl ?_
        exact ⟨⟨_, rfl⟩, .inr ⟨(spots l p).reverse ++ [q], ⟨A.reverse, by rw [unhide HA, unhide HSC]; simp⟩, hJx3⟩⟩

theorem back_stops (Bn n₀ : Nat) (l : List Int) (a0 : Option Addr) (cap : Nat) (w : World) (hBn : w.cell? ⟨Bn, 0, none⟩ = some (.slice a0 l.length cap)) (hBl : Bn < n₀) (hn : n₀ = w.heap.size) (hT : Tab w) (h0n : 0 < n₀) (hB : IsB w a0 cap l) :
    SeqStopsK Fence.wide 2 Tryd.prog 18 #[.pointer (some ⟨Bn, 0, none⟩)] (encS l) (Kp n₀) (fun ys => ys = (spots l 0).reverse) (fun pre => pre <+: (spots l 0).reverse) (spots l 0).reverse.length w := fun lo J Jx W hW hJ _ hY h0 =>
  back1_in lo Bn n₀ l a0 cap J Jx W hJ hY ((hW.cell (p := ⟨Bn, 0, none⟩) (by rw [← hn]; exact hBl)).trans hBn) hBl (by rw [hn]; exact hW.size) h0n (hT.below hW hT.size) (fun W' h => hB.below (hW.trans (by rw [← hn]; exact h)) (Nat.le_refl _)) h0

end Go.Proofs.YtbkageelholpeaaDoor
