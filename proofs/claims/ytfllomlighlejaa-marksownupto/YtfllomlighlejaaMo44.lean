/- Layer 15, the document's: Set, Drop, Behind (written by wip/tools/mkt.py). -/
import Derived.Test.YtfllomlighlejaaMo38
import Derived.Test.YtfllomlighlejaaMo43

namespace Go.Proofs.Ytfllomlighlejaa
open Go.ChangeShapes Go.WideShapes Go.ChangeAt Go.RowKit
attribute [local go_sem] Oper.semAt_some

theorem Cls.two {W : World} {B : Nat} {t : TypeId} {a b : Value} (h : Cls W B t #[a, b]) : W.cell? ⟨B, 0, none⟩ = some a ∧ W.cell? ⟨B, 1, none⟩ = some b := ⟨(h.cell 0).trans rfl, (h.cell 1).trans rfl⟩
/-- a struct of two cells stored -/
theorem Cls.put2 {W : World} {B N : Nat} {t : TypeId} {a b : Value} {X : World} (h : Cls W B t #[a, b]) (u v : Value) (hb : Below N X W) (hN : N ≤ B) :
    Cls ((W.setCell ⟨B, 0, none⟩ u).setCell ⟨B, 1, none⟩ v) B t #[u, v] ∧ Below N X ((W.setCell ⟨B, 0, none⟩ u).setCell ⟨B, 1, none⟩ v) := by
  refine ⟨(h.set 0 u).set 1 v, ?_⟩
  exact (hb.setCell (p := ⟨B, 0, none⟩) hN u).setCell (p := ⟨B, 1, none⟩) hN v
set_option maxRecDepth 100000 in
set_option maxHeartbeats 1000000 in
theorem RLensM_at (a : Option Addr) (c : Nat) (d : List Dop) (w : World) (h : IsO w a d) (hl : d.length ≤ 4611686018427387904) (hv : valB d = true) :
    Calls Try.prog 8 #[.slice a d.length c] w fun y w' => y = .returned (.tuple #[.int .i64 (frD d : Int), .int .i64 (toD d : Int)]) ∧ Below w.heap.size w w' := by
  have hnn := (valB_nn hv).2
  have HL := hide (lens14_at a c d w h hl (val_PlO hv) (by omega) (by omega))
  clear h hl hv hnn
  go_enter Try.func8, Try.ntmps8
  go_wp2_with fail
  refine (unhide HL).mono ?_
  rintro y w1 ⟨rfl, x1⟩
  dsimp only
  clear HL
  go_wp2_with fail
  refine bodyPost_ret (results_tmp2 rfl _ _ _) rfl ⟨rfl, x1⟩
set_option maxRecDepth 100000 in
set_option maxHeartbeats 4000000 in
theorem RSet_all (n : Int) (a : Option Addr) (c : Nat) (l : List Mk) (x : Mk) (X : World) (h : IsK X a l) (hl : l.length ≤ 1048576) :
    Calls Try.prog 35 #[msV n a l.length c, mkV x] X fun y X' => (refM n l x ≠ 0 ∧ y = .returned (.tuple #[msV n a l.length c, .int .i64 (refM n l x)]) ∧ Below X.heap.size X X') ∨ (refM n l x = 0 ∧ ∃ v, y = .returned (.tuple #[.agg #[.int .i64 n, v], .int .i64 0]) ∧ X'.ownsRow X.heap.size 42 3 v (insM x (delM x.n l)).length (mksV (insM x (delM x.n l))) ∧ Below X.heap.size X X') := by
  have HFd := hide fun (Y : World) (hY : Below X.heap.size X Y) => RFind_at n a c l x.n Y (h.below hY (Nat.le_refl _)) hl
  have HWo := hide fun (Y : World) (hY : Below X.heap.size X Y) => RWithout_at a c l (fdM x.n l) Y (h.below hY (Nat.le_refl _)) hl
  rw [wo_find] at HWo
  have HPu := hide fun (Y : World) (a2 : Option Addr) (c2 : Nat) (hY : IsK Y a2 (delM x.n l)) => RPut_at a2 c2 (delM x.n l) x Y hY (Nat.le_trans (del_sub x.n l).length_le hl)
  obtain ⟨fv, hfv, hfn⟩ : ∃ fv : Int, fdM x.n l = fv ∧ ((getM x.n l).isSome = decide (0 ≤ fv)) := by
    refine ⟨_, rfl, ?_⟩
    unfold fdM getM
    cases atM x.n l 0 with
    | none => rfl
    | some y => simp
  rw [hfv] at HFd HWo
  have HD : Hid (delM x.n l = delM x.n l) := hide rfl
  generalize hD : delM x.n l = D at *
  have hrf : refM n l x = if x.n.size < 1 ∨ 64 < x.n.size then 6 else if x.p < 0 ∨ n < x.p ∨ ¬ (x.g = 1 ∨ x.g = 2) then 2 else if decide (0 ≤ fv) = false ∧ 1024 ≤ l.length then 121 else 0 := by
    unfold refM; rw [hfn]
  rw [hrf]
  clear h hD HD hfv hfn hrf
  obtain ⟨N, hN⟩ : ∃ N, N = l.length := ⟨_, rfl⟩
  rw [← hN] at hl HFd HWo ⊢
  clear hN
  obtain ⟨R0, hR0⟩ : ∃ R0, R0 = insM x D := ⟨_, rfl⟩
  rw [← hR0] at HPu ⊢
  clear hR0
  obtain ⟨xn, xp, xg⟩ := x
  unfold mkV at HPu ⊢
  unfold msV at HFd ⊢
  dsimp only at HPu HFd ⊢
  have k2 := ((Cls.new X 29 #[.int .i64 n, .slice a N c]).alloc (.cells #[.string xn, .int .i64 xp, .int .i64 xg] 42)).alloc (.cells #[.int .i64 0, .slice none 0 0] 29)
  have k3 := (Cls.new (X.alloc (.cells #[.int .i64 n, .slice a N c] 29)) 42 #[.string xn, .int .i64 xp, .int .i64 xg]).alloc (.cells #[.int .i64 0, .slice none 0 0] 29)
  have k4 := Cls.new ((X.alloc (.cells #[.int .i64 n, .slice a N c] 29)).alloc (.cells #[.string xn, .int .i64 xp, .int .i64 xg] 42)) 29 #[.int .i64 0, .slice none 0 0]
  have b1 := (Below.refl X.heap.size X).alloc (Nat.le_refl _) (.cells #[.int .i64 n, .slice a N c] 29)
  have b2 := b1.alloc b1.size (.cells #[.string xn, .int .i64 xp, .int .i64 xg] 42)
  have b3 := b2.alloc b2.size (.cells #[.int .i64 0, .slice none 0 0] 29)
  rw [World.size_alloc] at k3
  rw [World.size_alloc, World.size_alloc] at k4
  have HK := hide (And.intro k2 (And.intro k3 k4))
  have HB := hide b3
  obtain ⟨c0, c1⟩ := k2.two
  have d0 := (k3.cell 0).trans rfl
  have d1 := (k3.cell 1).trans rfl
  have d2 := (k3.cell 2).trans rfl
  have f0 := k4.frozen 0
  have f1 := k4.frozen 1
  obtain ⟨z0, z1⟩ := k4.two
  obtain ⟨r0, r1⟩ := (Cls.new ((X.alloc (.cells #[.int .i64 n, .slice a N c] 29)).alloc (.cells #[.string xn, .int .i64 xp, .int .i64 xg] 42)) 29 #[.int .i64 n, .slice a N c]).two
  rw [World.size_alloc, World.size_alloc] at r0 r1
  have HB9 := hide (b2.alloc b2.size (.cells #[.int .i64 n, .slice a N c] 29))
  clear k2 k3 k4 b1 b2 b3
  obtain ⟨sz, hsz⟩ : ∃ sz : Nat, xn.size = sz := ⟨_, rfl⟩
  rw [hsz]
  by_cases e1 : sz < 1
  · rw [if_pos (.inl e1)]
    have t1 : decide ((sz : Int) < 1) = true := decide_eq_true (by omega)
    refine Calls.mono ?_ (fun y X' (hh : y = .returned (.tuple #[.agg #[.int .i64 n, .slice a N c], .int .i64 6]) ∧ Below X.heap.size X X') => .inl ⟨by decide, hh⟩)
    clear HFd HWo HPu HK HB e1
    go_enter Try.func35, Try.ntmps35
    go_wp2_with fail
    refine bodyPost_ret (v := .tuple #[.agg #[.int .i64 n, .slice a N c], .int .i64 6]) (by simp [results, Try.results35, go_sem, r0, r1]) rfl ⟨rfl, unhide HB9⟩
  have t1 : decide ((sz : Int) < 1) = false := decide_eq_false (by omega)
  have t1' : ¬ (sz : Int) < 1 := by omega
  by_cases e2 : 64 < sz
  · rw [if_pos (.inr e2)]
    have t2 : decide ((sz : Int) > 64) = true := decide_eq_true (by omega)
    have t2' : decide ((64 : Int) < (sz : Int)) = true := decide_eq_true (by omega)
    have t2'' : decide (64 < sz) = true := decide_eq_true e2
    refine Calls.mono ?_ (fun y X' (hh : y = .returned (.tuple #[.agg #[.int .i64 n, .slice a N c], .int .i64 6]) ∧ Below X.heap.size X X') => .inl ⟨by decide, hh⟩)
    clear HFd HWo HPu HK HB e1 e2 t1'
    go_enter Try.func35, Try.ntmps35
    go_wp2_with fail
    refine bodyPost_ret (v := .tuple #[.agg #[.int .i64 n, .slice a N c], .int .i64 6]) (by simp [results, Try.results35, go_sem, r0, r1]) rfl ⟨rfl, unhide HB9⟩
  have t2 : decide ((sz : Int) > 64) = false := decide_eq_false (by omega)
  have t2' : decide ((64 : Int) < (sz : Int)) = false := decide_eq_false (by omega)
  have t2'' : decide (64 < sz) = false := decide_eq_false e2
  rw [if_neg (show ¬ (sz < 1 ∨ 64 < sz) by omega)]
  clear e1 e2 t1'
  by_cases e3 : xp < 0
  · rw [if_pos (.inl e3)]
    have t3 : decide (xp < 0) = true := decide_eq_true e3
    refine Calls.mono ?_ (fun y X' (hh : y = .returned (.tuple #[.agg #[.int .i64 n, .slice a N c], .int .i64 2]) ∧ Below X.heap.size X X') => .inl ⟨by decide, hh⟩)
    clear HFd HWo HPu HK HB e3
    go_enter Try.func35, Try.ntmps35
    go_wp2_with fail
    refine bodyPost_ret (v := .tuple #[.agg #[.int .i64 n, .slice a N c], .int .i64 2]) (by simp [results, Try.results35, go_sem, r0, r1]) rfl ⟨rfl, unhide HB9⟩
  have t3 : decide (xp < 0) = false := decide_eq_false e3
  by_cases e4 : n < xp
  · rw [if_pos (.inr (.inl e4))]
    have t4 : decide (xp > n) = true := decide_eq_true e4
    have t4' : decide (n < xp) = true := decide_eq_true e4
    refine Calls.mono ?_ (fun y X' (hh : y = .returned (.tuple #[.agg #[.int .i64 n, .slice a N c], .int .i64 2]) ∧ Below X.heap.size X X') => .inl ⟨by decide, hh⟩)
    clear HFd HWo HPu HK HB e3 e4
    go_enter Try.func35, Try.ntmps35
    go_wp2_with fail
    refine bodyPost_ret (v := .tuple #[.agg #[.int .i64 n, .slice a N c], .int .i64 2]) (by simp [results, Try.results35, go_sem, r0, r1]) rfl ⟨rfl, unhide HB9⟩
  have t4 : decide (xp > n) = false := decide_eq_false e4
  have t4' : decide (n < xp) = false := decide_eq_false e4
  by_cases e5 : ¬ (xg = 1 ∨ xg = 2)
  · rw [if_pos (.inr (.inr e5))]
    have t5 : (xg != 1) = true := by simp; omega
    have t6 : (xg != 2) = true := by simp; omega
    refine Calls.mono ?_ (fun y X' (hh : y = .returned (.tuple #[.agg #[.int .i64 n, .slice a N c], .int .i64 2]) ∧ Below X.heap.size X X') => .inl ⟨by decide, hh⟩)
    clear HFd HWo HPu HK HB e3 e4 e5
    go_enter Try.func35, Try.ntmps35
    go_wp2_with fail
    refine bodyPost_ret (v := .tuple #[.agg #[.int .i64 n, .slice a N c], .int .i64 2]) (by simp [results, Try.results35, go_sem, r0, r1]) rfl ⟨rfl, unhide HB9⟩
  rw [if_neg (show ¬ (xp < 0 ∨ n < xp ∨ ¬ (xg = 1 ∨ xg = 2)) by omega)]
  have HG : Hid (∀ P : Prop, (xg = 1 → P) → (xg = 2 → P) → P) := hide fun P h1 h2 => by
    rcases Classical.not_not.1 e5 with e | e
    · exact h1 e
    · exact h2 e
  have t5 : ((xg != 1) && (xg != 2)) = false := by
    rcases Classical.not_not.1 e5 with e | e <;> subst e <;> rfl
  have HM : Hid (∀ (w1 : World), Below X.heap.size X w1 → w1.cell? ⟨X.heap.size, 0, none⟩ = some (.int .i64 n) → True) := hide fun _ _ _ => trivial
  clear e3 e4 HM HB9 r0 r1 z0 z1 f0 f1
  refine unhide HG _ (fun hg1 => ?_) (fun hg2 => ?_)
  · subst hg1
    clear HG
    by_cases ef : fv < 0
    · have t7 : decide (fv < 0) = true := decide_eq_true ef
      by_cases en : 1024 ≤ N
      · rw [if_pos ⟨decide_eq_false (by omega), en⟩]
        have t8 : decide ((N : Int) ≥ 1024) = true := decide_eq_true (by omega)
        have t8' : decide ((1024 : Int) ≤ (N : Int)) = true := decide_eq_true (by omega)
        have t8'' : decide (1024 ≤ N) = true := decide_eq_true en
        clear ef en HWo HPu
        have HC1 := hide (unhide HFd _ (unhide HB))
        clear HFd
        go_enter Try.func35, Try.ntmps35
        go_wp2_with fail
        refine (unhide HC1).mono ?_
        rintro y w1 ⟨rfl, x1⟩
        dsimp only
        obtain ⟨k2, k3, k4⟩ := unhide HK
        have k2 := k2.below x1 k2.lt
        have k3 := k3.below x1 k3.lt
        have k4 := k4.below x1 k4.lt
        have hb1 := (unhide HB).trans (x1.mono (unhide HB).size)
        have HB1 := hide hb1
        have HK1 := hide (And.intro k2 (And.intro k3 k4))
        clear HC1 HK HB x1 c0 c1 d0 d1 d2
        obtain ⟨c0, c1⟩ := k2.two
        have d0 := (k3.cell 0).trans rfl
        have d1 := (k3.cell 1).trans rfl
        have d2 := (k3.cell 2).trans rfl
        have k9 := (k4.put2 (.int .i64 n) (.slice a N c) hb1 (show X.heap.size ≤ X.heap.size + 1 + 1 by omega))
        obtain ⟨r0, r1⟩ := k9.1.two
        have HB9 := hide k9.2
        have f0 := k4.frozen 0
        have f1 := k4.frozen 1
        obtain ⟨z0, z1⟩ := k4.two
        clear k9 k2 k3 k4 hb1 HK1 HB1
        go_wp2_with fail
        refine bodyPost_ret (v := .tuple #[.agg #[.int .i64 n, .slice a N c], .int .i64 121]) (by simp [results, Try.results35, go_sem, r0, r1]) rfl (.inl ⟨by decide, rfl, unhide HB9⟩)
      · have t8 : decide ((N : Int) ≥ 1024) = false := decide_eq_false (by omega)
        have t8' : decide ((1024 : Int) ≤ (N : Int)) = false := decide_eq_false (by omega)
        have t8'' : decide (1024 ≤ N) = false := decide_eq_false en
        rw [if_neg (by omega)]
        clear ef en
        have HC1 := hide (unhide HFd _ (unhide HB))
        clear HFd
        go_enter Try.func35, Try.ntmps35
        go_wp2_with fail
        refine (unhide HC1).mono ?_
        rintro y w1 ⟨rfl, x1⟩
        dsimp only
        obtain ⟨k2, k3, k4⟩ := unhide HK
        have k2 := k2.below x1 k2.lt
        have k3 := k3.below x1 k3.lt
        have k4 := k4.below x1 k4.lt
        have hb1 := (unhide HB).trans (x1.mono (unhide HB).size)
        have HB1 := hide hb1
        have HK1 := hide (And.intro k2 (And.intro k3 k4))
        clear HC1 HK HB x1 c0 c1 d0 d1 d2
        obtain ⟨c0, c1⟩ := k2.two
        have d0 := (k3.cell 0).trans rfl
        have d1 := (k3.cell 1).trans rfl
        have d2 := (k3.cell 2).trans rfl
        have HC2 := hide (unhide HWo w1 hb1)
        clear k2 k3 k4 hb1 HWo
        go_wp2_with fail
        refine (unhide HC2).mono ?_
        rintro y w2 ⟨v2, rfl, o2, x2⟩
        dsimp only
        obtain ⟨k2, k3, k4⟩ := unhide HK1
        have k2 := k2.below x2 k2.lt
        have k3 := k3.below x2 k3.lt
        have k4 := k4.below x2 k4.lt
        have hb2 := (unhide HB1).trans (x2.mono (unhide HB1).size)
        have HB2 := hide hb2
        have HK2 := hide (And.intro k2 (And.intro k3 k4))
        obtain ⟨a2, cc2, rfl, i2, _⟩ := own_isK o2
        clear HC2 HK1 HB1 x2 c0 c1 d0 d1 d2 o2
        have d0 := (k3.cell 0).trans rfl
        have d1 := (k3.cell 1).trans rfl
        have d2 := (k3.cell 2).trans rfl
        have HC3 := hide (unhide HPu w2 a2 cc2 i2)
        clear k2 k3 k4 hb2 HPu i2
        go_wp2_with fail
        refine (unhide HC3).mono ?_
        rintro y w3 ⟨v3, rfl, o3, x3⟩
        dsimp only
        obtain ⟨k2, k3, k4⟩ := unhide HK2
        have k2 := k2.below x3 k2.lt
        have k4 := k4.below x3 k4.lt
        have hb3 := (unhide HB2).trans (x3.mono (unhide HB2).size)
        obtain ⟨c0, c1⟩ := k2.two
        obtain ⟨av, cv, hv3, _⟩ := rowD_form o3
        subst hv3
        have o3' := rowD_base o3 (unhide HB2).size
        have k9 := (k4.put2 (.int .i64 n) (.slice av R0.length cv) hb3 (show X.heap.size ≤ X.heap.size + 1 + 1 by omega))
        obtain ⟨r0, r1⟩ := k9.1.two
        have HB9 := hide k9.2
        have HO9 : Hid (((w3.setCell ⟨X.heap.size + 1 + 1, 0, none⟩ (.int .i64 n)).setCell ⟨X.heap.size + 1 + 1, 1, none⟩ (.slice av R0.length cv)).ownsRow X.heap.size 42 3 (.slice av R0.length cv) R0.length (mksV R0)) := hide (rowD_on o3' fun G hG => by
          have hne : G ≠ X.heap.size + 1 + 1 := fun e => by
            obtain ⟨_, cur, hc⟩ := rowD_block o3' hG
            unfold Cls at k4
            rw [e, k4] at hc
            cases hc
          rw [Below.heap_setCell _ ⟨X.heap.size + 1 + 1, 1, none⟩ _ G hne, Below.heap_setCell _ ⟨X.heap.size + 1 + 1, 0, none⟩ _ G hne])
        have f0 := k4.frozen 0
        have f1 := k4.frozen 1
        obtain ⟨z0, z1⟩ := k4.two
        clear HC3 HK2 HB2 x3 d0 d1 d2 o3 o3' k2 k3 k4 k9 hb3
        go_wp2_with fail
        refine bodyPost_ret (v := .tuple #[.agg #[.int .i64 n, .slice av R0.length cv], .int .i64 0]) (by simp [results, Try.results35, go_sem, r0, r1]) rfl (.inr ⟨by first | trivial | rfl, _, rfl, unhide HO9, unhide HB9⟩)
    · have t7 : decide (fv < 0) = false := decide_eq_false ef
      rw [if_neg (fun hh => by have := hh.1; simp at this; omega)]
      clear ef
      have HC1 := hide (unhide HFd _ (unhide HB))
      clear HFd
      go_enter Try.func35, Try.ntmps35
      go_wp2_with fail
      refine (unhide HC1).mono ?_
      rintro y w1 ⟨rfl, x1⟩
      dsimp only
      obtain ⟨k2, k3, k4⟩ := unhide HK
      have k2 := k2.below x1 k2.lt
      have k3 := k3.below x1 k3.lt
      have k4 := k4.below x1 k4.lt
      have hb1 := (unhide HB).trans (x1.mono (unhide HB).size)
      have HB1 := hide hb1
      have HK1 := hide (And.intro k2 (And.intro k3 k4))
      clear HC1 HK HB x1 c0 c1 d0 d1 d2
      obtain ⟨c0, c1⟩ := k2.two
      have d0 := (k3.cell 0).trans rfl
      have d1 := (k3.cell 1).trans rfl
      have d2 := (k3.cell 2).trans rfl
      have HC2 := hide (unhide HWo w1 hb1)
      clear k2 k3 k4 hb1 HWo
      go_wp2_with fail
      refine (unhide HC2).mono ?_
      rintro y w2 ⟨v2, rfl, o2, x2⟩
      dsimp only
      obtain ⟨k2, k3, k4⟩ := unhide HK1
      have k2 := k2.below x2 k2.lt
      have k3 := k3.below x2 k3.lt
      have k4 := k4.below x2 k4.lt
      have hb2 := (unhide HB1).trans (x2.mono (unhide HB1).size)
      have HB2 := hide hb2
      have HK2 := hide (And.intro k2 (And.intro k3 k4))
      obtain ⟨a2, cc2, rfl, i2, _⟩ := own_isK o2
      clear HC2 HK1 HB1 x2 c0 c1 d0 d1 d2 o2
      have d0 := (k3.cell 0).trans rfl
      have d1 := (k3.cell 1).trans rfl
      have d2 := (k3.cell 2).trans rfl
      have HC3 := hide (unhide HPu w2 a2 cc2 i2)
      clear k2 k3 k4 hb2 HPu i2
      go_wp2_with fail
      refine (unhide HC3).mono ?_
      rintro y w3 ⟨v3, rfl, o3, x3⟩
      dsimp only
      obtain ⟨k2, k3, k4⟩ := unhide HK2
      have k2 := k2.below x3 k2.lt
      have k4 := k4.below x3 k4.lt
      have hb3 := (unhide HB2).trans (x3.mono (unhide HB2).size)
      obtain ⟨c0, c1⟩ := k2.two
      obtain ⟨av, cv, hv3, _⟩ := rowD_form o3
      subst hv3
      have o3' := rowD_base o3 (unhide HB2).size
      have k9 := (k4.put2 (.int .i64 n) (.slice av R0.length cv) hb3 (show X.heap.size ≤ X.heap.size + 1 + 1 by omega))
      obtain ⟨r0, r1⟩ := k9.1.two
      have HB9 := hide k9.2
      have HO9 : Hid (((w3.setCell ⟨X.heap.size + 1 + 1, 0, none⟩ (.int .i64 n)).setCell ⟨X.heap.size + 1 + 1, 1, none⟩ (.slice av R0.length cv)).ownsRow X.heap.size 42 3 (.slice av R0.length cv) R0.length (mksV R0)) := hide (rowD_on o3' fun G hG => by
        have hne : G ≠ X.heap.size + 1 + 1 := fun e => by
          obtain ⟨_, cur, hc⟩ := rowD_block o3' hG
          unfold Cls at k4
          rw [e, k4] at hc
          cases hc
        rw [Below.heap_setCell _ ⟨X.heap.size + 1 + 1, 1, none⟩ _ G hne, Below.heap_setCell _ ⟨X.heap.size + 1 + 1, 0, none⟩ _ G hne])
      have f0 := k4.frozen 0
      have f1 := k4.frozen 1
      obtain ⟨z0, z1⟩ := k4.two
      clear HC3 HK2 HB2 x3 d0 d1 d2 o3 o3' k2 k3 k4 k9 hb3
      go_wp2_with fail
      refine bodyPost_ret (v := .tuple #[.agg #[.int .i64 n, .slice av R0.length cv], .int .i64 0]) (by simp [results, Try.results35, go_sem, r0, r1]) rfl (.inr ⟨by first | trivial | rfl, _, rfl, unhide HO9, unhide HB9⟩)
  · subst hg2
    clear HG
    by_cases ef : fv < 0
    · have t7 : decide (fv < 0) = true := decide_eq_true ef
      by_cases en : 1024 ≤ N
      · rw [if_pos ⟨decide_eq_false (by omega), en⟩]
        have t8 : decide ((N : Int) ≥ 1024) = true := decide_eq_true (by omega)
        have t8' : decide ((1024 : Int) ≤ (N : Int)) = true := decide_eq_true (by omega)
        have t8'' : decide (1024 ≤ N) = true := decide_eq_true en
        clear ef en HWo HPu
        have HC1 := hide (unhide HFd _ (unhide HB))
        clear HFd
        go_enter Try.func35, Try.ntmps35
        go_wp2_with fail
        refine (unhide HC1).mono ?_
        rintro y w1 ⟨rfl, x1⟩
        dsimp only
        obtain ⟨k2, k3, k4⟩ := unhide HK
        have k2 := k2.below x1 k2.lt
        have k3 := k3.below x1 k3.lt
        have k4 := k4.below x1 k4.lt
        have hb1 := (unhide HB).trans (x1.mono (unhide HB).size)
        have HB1 := hide hb1
        have HK1 := hide (And.intro k2 (And.intro k3 k4))
        clear HC1 HK HB x1 c0 c1 d0 d1 d2
        obtain ⟨c0, c1⟩ := k2.two
        have d0 := (k3.cell 0).trans rfl
        have d1 := (k3.cell 1).trans rfl
        have d2 := (k3.cell 2).trans rfl
        have k9 := (k4.put2 (.int .i64 n) (.slice a N c) hb1 (show X.heap.size ≤ X.heap.size + 1 + 1 by omega))
        obtain ⟨r0, r1⟩ := k9.1.two
        have HB9 := hide k9.2
        have f0 := k4.frozen 0
        have f1 := k4.frozen 1
        obtain ⟨z0, z1⟩ := k4.two
        clear k9 k2 k3 k4 hb1 HK1 HB1
        go_wp2_with fail
        refine bodyPost_ret (v := .tuple #[.agg #[.int .i64 n, .slice a N c], .int .i64 121]) (by simp [results, Try.results35, go_sem, r0, r1]) rfl (.inl ⟨by decide, rfl, unhide HB9⟩)
      · have t8 : decide ((N : Int) ≥ 1024) = false := decide_eq_false (by omega)
        have t8' : decide ((1024 : Int) ≤ (N : Int)) = false := decide_eq_false (by omega)
        have t8'' : decide (1024 ≤ N) = false := decide_eq_false en
        rw [if_neg (by omega)]
        clear ef en
        have HC1 := hide (unhide HFd _ (unhide HB))
        clear HFd
        go_enter Try.func35, Try.ntmps35
        go_wp2_with fail
        refine (unhide HC1).mono ?_
        rintro y w1 ⟨rfl, x1⟩
        dsimp only
        obtain ⟨k2, k3, k4⟩ := unhide HK
        have k2 := k2.below x1 k2.lt
        have k3 := k3.below x1 k3.lt
        have k4 := k4.below x1 k4.lt
        have hb1 := (unhide HB).trans (x1.mono (unhide HB).size)
        have HB1 := hide hb1
        have HK1 := hide (And.intro k2 (And.intro k3 k4))
        clear HC1 HK HB x1 c0 c1 d0 d1 d2
        obtain ⟨c0, c1⟩ := k2.two
        have d0 := (k3.cell 0).trans rfl
        have d1 := (k3.cell 1).trans rfl
        have d2 := (k3.cell 2).trans rfl
        have HC2 := hide (unhide HWo w1 hb1)
        clear k2 k3 k4 hb1 HWo
        go_wp2_with fail
        refine (unhide HC2).mono ?_
        rintro y w2 ⟨v2, rfl, o2, x2⟩
        dsimp only
        obtain ⟨k2, k3, k4⟩ := unhide HK1
        have k2 := k2.below x2 k2.lt
        have k3 := k3.below x2 k3.lt
        have k4 := k4.below x2 k4.lt
        have hb2 := (unhide HB1).trans (x2.mono (unhide HB1).size)
        have HB2 := hide hb2
        have HK2 := hide (And.intro k2 (And.intro k3 k4))
        obtain ⟨a2, cc2, rfl, i2, _⟩ := own_isK o2
        clear HC2 HK1 HB1 x2 c0 c1 d0 d1 d2 o2
        have d0 := (k3.cell 0).trans rfl
        have d1 := (k3.cell 1).trans rfl
        have d2 := (k3.cell 2).trans rfl
        have HC3 := hide (unhide HPu w2 a2 cc2 i2)
        clear k2 k3 k4 hb2 HPu i2
        go_wp2_with fail
        refine (unhide HC3).mono ?_
        rintro y w3 ⟨v3, rfl, o3, x3⟩
        dsimp only
        obtain ⟨k2, k3, k4⟩ := unhide HK2
        have k2 := k2.below x3 k2.lt
        have k4 := k4.below x3 k4.lt
        have hb3 := (unhide HB2).trans (x3.mono (unhide HB2).size)
        obtain ⟨c0, c1⟩ := k2.two
        obtain ⟨av, cv, hv3, _⟩ := rowD_form o3
        subst hv3
        have o3' := rowD_base o3 (unhide HB2).size
        have k9 := (k4.put2 (.int .i64 n) (.slice av R0.length cv) hb3 (show X.heap.size ≤ X.heap.size + 1 + 1 by omega))
        obtain ⟨r0, r1⟩ := k9.1.two
        have HB9 := hide k9.2
        have HO9 : Hid (((w3.setCell ⟨X.heap.size + 1 + 1, 0, none⟩ (.int .i64 n)).setCell ⟨X.heap.size + 1 + 1, 1, none⟩ (.slice av R0.length cv)).ownsRow X.heap.size 42 3 (.slice av R0.length cv) R0.length (mksV R0)) := hide (rowD_on o3' fun G hG => by
          have hne : G ≠ X.heap.size + 1 + 1 := fun e => by
            obtain ⟨_, cur, hc⟩ := rowD_block o3' hG
            unfold Cls at k4
            rw [e, k4] at hc
            cases hc
          rw [Below.heap_setCell _ ⟨X.heap.size + 1 + 1, 1, none⟩ _ G hne, Below.heap_setCell _ ⟨X.heap.size + 1 + 1, 0, none⟩ _ G hne])
        have f0 := k4.frozen 0
        have f1 := k4.frozen 1
        obtain ⟨z0, z1⟩ := k4.two
        clear HC3 HK2 HB2 x3 d0 d1 d2 o3 o3' k2 k3 k4 k9 hb3
        go_wp2_with fail
        refine bodyPost_ret (v := .tuple #[.agg #[.int .i64 n, .slice av R0.length cv], .int .i64 0]) (by simp [results, Try.results35, go_sem, r0, r1]) rfl (.inr ⟨by first | trivial | rfl, _, rfl, unhide HO9, unhide HB9⟩)
    · have t7 : decide (fv < 0) = false := decide_eq_false ef
      rw [if_neg (fun hh => by have := hh.1; simp at this; omega)]
      clear ef
      have HC1 := hide (unhide HFd _ (unhide HB))
      clear HFd
      go_enter Try.func35, Try.ntmps35
      go_wp2_with fail
      refine (unhide HC1).mono ?_
      rintro y w1 ⟨rfl, x1⟩
      dsimp only
      obtain ⟨k2, k3, k4⟩ := unhide HK
      have k2 := k2.below x1 k2.lt
      have k3 := k3.below x1 k3.lt
      have k4 := k4.below x1 k4.lt
      have hb1 := (unhide HB).trans (x1.mono (unhide HB).size)
      have HB1 := hide hb1
      have HK1 := hide (And.intro k2 (And.intro k3 k4))
      clear HC1 HK HB x1 c0 c1 d0 d1 d2
      obtain ⟨c0, c1⟩ := k2.two
      have d0 := (k3.cell 0).trans rfl
      have d1 := (k3.cell 1).trans rfl
      have d2 := (k3.cell 2).trans rfl
      have HC2 := hide (unhide HWo w1 hb1)
      clear k2 k3 k4 hb1 HWo
      go_wp2_with fail
      refine (unhide HC2).mono ?_
      rintro y w2 ⟨v2, rfl, o2, x2⟩
      dsimp only
      obtain ⟨k2, k3, k4⟩ := unhide HK1
      have k2 := k2.below x2 k2.lt
      have k3 := k3.below x2 k3.lt
      have k4 := k4.below x2 k4.lt
      have hb2 := (unhide HB1).trans (x2.mono (unhide HB1).size)
      have HB2 := hide hb2
      have HK2 := hide (And.intro k2 (And.intro k3 k4))
      obtain ⟨a2, cc2, rfl, i2, _⟩ := own_isK o2
      clear HC2 HK1 HB1 x2 c0 c1 d0 d1 d2 o2
      have d0 := (k3.cell 0).trans rfl
      have d1 := (k3.cell 1).trans rfl
      have d2 := (k3.cell 2).trans rfl
      have HC3 := hide (unhide HPu w2 a2 cc2 i2)
      clear k2 k3 k4 hb2 HPu i2
      go_wp2_with fail
      refine (unhide HC3).mono ?_
      rintro y w3 ⟨v3, rfl, o3, x3⟩
      dsimp only
      obtain ⟨k2, k3, k4⟩ := unhide HK2
      have k2 := k2.below x3 k2.lt
      have k4 := k4.below x3 k4.lt
      have hb3 := (unhide HB2).trans (x3.mono (unhide HB2).size)
      obtain ⟨c0, c1⟩ := k2.two
      obtain ⟨av, cv, hv3, _⟩ := rowD_form o3
      subst hv3
      have o3' := rowD_base o3 (unhide HB2).size
      have k9 := (k4.put2 (.int .i64 n) (.slice av R0.length cv) hb3 (show X.heap.size ≤ X.heap.size + 1 + 1 by omega))
      obtain ⟨r0, r1⟩ := k9.1.two
      have HB9 := hide k9.2
      have HO9 : Hid (((w3.setCell ⟨X.heap.size + 1 + 1, 0, none⟩ (.int .i64 n)).setCell ⟨X.heap.size + 1 + 1, 1, none⟩ (.slice av R0.length cv)).ownsRow X.heap.size 42 3 (.slice av R0.length cv) R0.length (mksV R0)) := hide (rowD_on o3' fun G hG => by
        have hne : G ≠ X.heap.size + 1 + 1 := fun e => by
          obtain ⟨_, cur, hc⟩ := rowD_block o3' hG
          unfold Cls at k4
          rw [e, k4] at hc
          cases hc
        rw [Below.heap_setCell _ ⟨X.heap.size + 1 + 1, 1, none⟩ _ G hne, Below.heap_setCell _ ⟨X.heap.size + 1 + 1, 0, none⟩ _ G hne])
      have f0 := k4.frozen 0
      have f1 := k4.frozen 1
      obtain ⟨z0, z1⟩ := k4.two
      clear HC3 HK2 HB2 x3 d0 d1 d2 o3 o3' k2 k3 k4 k9 hb3
      go_wp2_with fail
      refine bodyPost_ret (v := .tuple #[.agg #[.int .i64 n, .slice av R0.length cv], .int .i64 0]) (by simp [results, Try.results35, go_sem, r0, r1]) rfl (.inr ⟨by first | trivial | rfl, _, rfl, unhide HO9, unhide HB9⟩)
end Go.Proofs.Ytfllomlighlejaa
