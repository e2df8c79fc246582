/- SeekLong: both sides, and the places that are looked at. -/
import Derived.Test.YteamaneompijkaaGreatDoorSl46
import Derived.Test.YteamaneompijkaaGreatDoorSl48

namespace Go.Proofs.YteamaneompijkaaGreatDoor
open Go.ChangeShapes Go.WideShapes Go.ChangeAt Go.RowKit
attribute [local go_sem] Oper.semAt_some

theorem own_keepG {W W' : World} {B : Nat} {v : Value} {l : List Int} {row : Option Nat} (h : Own W B v l) (hg : W.grownBy W' row) (hne : v.ownBlock = none ∨ v.ownBlock ≠ row) : Own W' B v l := by
  obtain ⟨h1, h2⟩ := h
  refine ⟨h1, ?_⟩
  rcases h2 with h2 | ⟨g, cap, cur, rfl, hB, hc, h3⟩
  · exact Or.inl h2
  · have hlt : g < W.heap.size := by
      rcases Nat.lt_or_ge g W.heap.size with e | e
      · exact e
      · rw [Array.getElem?_eq_none e] at hc; cases hc
    exact Or.inr ⟨g, cap, cur, rfl, hB, (hg.block g hlt (by simpa [Value.ownBlock] using hne)).trans hc, h3⟩
/-- both sides as they grow -/
structure TwO (w0 : World) (x y : Nat) (va vb : Value) (X : World) : Prop where
  ex : ∃ la lb, Own X w0.heap.size va la ∧ Own X w0.heap.size vb lb ∧ la.length = x ∧ lb.length = y ∧ (∀ z ∈ la, 0 ≤ z ∧ z ≤ 255) ∧ (∀ z ∈ lb, 0 ≤ z ∧ z ≤ 255)
  ne : vb.ownBlock = none ∨ vb.ownBlock ≠ va.ownBlock
  d : Below w0.heap.size w0 X
theorem TwO.left {w0 X : World} {x y : Nat} {va vb : Value} {a0 : Option Addr} {cap : Nat} {m : List Int} (h : TwO w0 x y va vb X) (hm : IsB X a0 cap m) (hb : x + m.length ≤ 268435456) :
    ∃ v' W', (Builtin.append_ #[30, 30] 30 #[va, .slice a0 m.length cap]).run Tryz.prog X = .ok v' W' ∧ TwO w0 (x + m.length) y v' vb W' := by
  obtain ⟨⟨la, lb, h1, h2, h3, h4, h5, h6⟩, hne, hd⟩ := h
  obtain ⟨v', W', r1, r2, r3, r4, r5⟩ := appG 30 h1 hd.size hm (by omega)
  have hlt : ∀ k, vb.ownBlock = some k → k < X.heap.size := fun k e => (World.ownsRow.lt h2 k e).2
  refine ⟨v', W', r1, ⟨la ++ m, lb, r2, own_keepG h2 r4 hne, by rw [List.length_append]; omega, h4, fun z hz => ?_, h6⟩, ?_, hd.trans r3⟩
  · rcases List.mem_append.1 hz with e | e
    · exact h5 z e
    · exact hm.2.2.2 z e
  · rcases r5 with e | e
    · rw [e]; exact hne
    · rw [e]
      rcases hvb : vb.ownBlock with _ | k
      · exact Or.inl rfl
      · refine Or.inr fun e2 => ?_
        have := hlt k hvb
        simp only [Option.some.injEq] at e2
        omega
theorem TwO.right {w0 X : World} {x y : Nat} {va vb : Value} {a0 : Option Addr} {cap : Nat} {m : List Int} (h : TwO w0 x y va vb X) (hm : IsB X a0 cap m) (hb : y + m.length ≤ 268435456) :
    ∃ v' W', (Builtin.append_ #[30, 30] 30 #[vb, .slice a0 m.length cap]).run Tryz.prog X = .ok v' W' ∧ TwO w0 x (y + m.length) va v' W' := by
  obtain ⟨⟨la, lb, h1, h2, h3, h4, h5, h6⟩, hne, hd⟩ := h
  obtain ⟨v', W', r1, r2, r3, r4, r5⟩ := appG 30 h2 hd.size hm (by omega)
  have hlt : ∀ k, va.ownBlock = some k → k < X.heap.size := fun k e => (World.ownsRow.lt h1 k e).2
  have hne' : va.ownBlock = none ∨ va.ownBlock ≠ vb.ownBlock := by
    rcases hva : va.ownBlock with _ | k
    · exact Or.inl rfl
    · refine Or.inr fun e => ?_
      rcases hne with e2 | e2
      · rw [← e] at e2; cases e2
      · exact e2 (by rw [← e, hva])
  refine ⟨v', W', r1, ⟨la, lb ++ m, own_keepG h1 r4 hne', r2, h3, by rw [List.length_append]; omega, h5, fun z hz => ?_⟩, ?_, hd.trans r3⟩
  · rcases List.mem_append.1 hz with e | e
    · exact h6 z e
    · exact hm.2.2.2 z e
  · rcases r5 with e | e
    · rw [e]
      rcases hvb : vb.ownBlock with _ | k
      · exact Or.inl rfl
      · refine Or.inr fun e2 => ?_
        rcases hne with e3 | e3
        · rw [hvb] at e3; cases e3
        · exact e3 (by rw [hvb, e2])
    · rw [e]
      refine Or.inr fun e2 => ?_
      have := hlt _ e2.symm
      omega
theorem TwO.start (w0 : World) : TwO w0 0 0 (.slice none 0 0) (.slice none 0 0) w0 :=
  ⟨⟨[], [], ⟨rfl, Or.inl ⟨rfl, rfl⟩⟩, ⟨rfl, Or.inl ⟨rfl, rfl⟩⟩, rfl, rfl, by simp, by simp⟩, Or.inl rfl, Below.refl _ _⟩
theorem bad_arith {t : Int} {N H L : Nat} (hH : H ≤ 140737488351232) (hL : L ≤ 140737488351232) (h0 : ¬ t < 0) (h1 : ¬ t > 10000) (h2 : ¬ (N : Int) > 10000) :
    wrap64 (t * (N : Int)) = t * (N : Int) ∧ wrap64 (t * (N : Int) + (H : Int)) = t * (N : Int) + (H : Int) ∧ wrap64 (t * (N : Int) + (L : Int)) = t * (N : Int) + (L : Int) := by
  obtain ⟨n, rfl⟩ : ∃ n : Nat, t = (n : Int) := ⟨t.toNat, by omega⟩
  have hp : n * N ≤ 10000 * 10000 := Nat.mul_le_mul (by omega) (by omega)
  have hc : (n : Int) * (N : Int) = ((n * N : Nat) : Int) := by push_cast; rfl
  rw [hc]
  exact ⟨wrap_in _ (by omega) (by omega), wrap_in _ (by omega) (by omega), wrap_in _ (by omega) (by omega)⟩
theorem bad_no {t : Int} {N H L : Nat} (c0 : ¬ t < 0) (c1 : ¬ 10000 < t) (c2 : ¬ 10000 < (N : Int)) (c3 : ¬ 10000 < t * (N : Int) + (H : Int)) (c4 : ¬ 10000 < t * (N : Int) + (L : Int)) : ∃ n : Nat, t = (n : Int) ∧ n ≤ 10000 ∧ N ≤ 10000 ∧ n * N + H ≤ 10000 ∧ n * N + L ≤ 10000 := by
  obtain ⟨n, rfl⟩ : ∃ n : Nat, t = (n : Int) := ⟨t.toNat, by omega⟩
  have hc : (n : Int) * (N : Int) = ((n * N : Nat) : Int) := by push_cast; rfl
  rw [hc] at c3 c4
  exact ⟨n, rfl, by omega, by omega, by omega, by omega⟩
theorem cells5S {Y : World} {g : Nat} {t : TypeId} {x0 x1 x2 x3 x4 : Value} (h : Cls Y g t #[x0, x1, x2, x3, x4]) : Y.cell? ⟨g, 0, none⟩ = some x0 ∧ Y.cell? ⟨g, 1, none⟩ = some x1 ∧ Y.cell? ⟨g, 2, none⟩ = some x2 ∧ Y.cell? ⟨g, 3, none⟩ = some x3 ∧ Y.cell? ⟨g, 4, none⟩ = some x4 :=
  ⟨(h.cell 0).trans rfl, (h.cell 1).trans rfl, (h.cell 2).trans rfl, (h.cell 3).trans rfl, (h.cell 4).trans rfl⟩
/-- what both sides are -/
def SidV (w w' : World) (y : Ending) : Prop := (y = .returned (.tuple #[.slice none 0 0, .slice none 0 0, .bool false]) ∨ ∃ a c la b d lb, y = .returned (.tuple #[.slice a la.length c, .slice b lb.length d, .bool true]) ∧ IsN w' a c la ∧ IsN w' b d lb ∧ la.length ≤ 10000 ∧ lb.length ≤ 10000) ∧ Below w.heap.size w w'
theorem sid_of {w w0 X : World} {x y : Nat} {va vb : Value} (h : TwO w0 x y va vb X) (hx : x ≤ 10000) (hy : y ≤ 10000) (hw : Below w.heap.size w w0) : SidV w X (.returned (.tuple #[va, vb, .bool true])) := by
  obtain ⟨⟨la, lb, h1, h2, h3, h4, h5, h6⟩, hne, hd⟩ := h
  obtain ⟨a, c, rfl, hA⟩ := own_isNS h1 h5 (by omega)
  obtain ⟨b, d, rfl, hB⟩ := own_isNS h2 h6 (by omega)
  exact ⟨Or.inr ⟨a, c, la, b, d, lb, rfl, hA, hB, by omega, by omega⟩, hw.trans (hd.mono hw.size)⟩
set_option maxRecDepth 100000 in
set_option maxHeartbeats 8000000 in
theorem Sides_of (fA : Option Addr) (fC N : Nat) (t : Int) (hA : Option Addr) (hC H : Nat) (tA : Option Addr) (tC L : Nat) (at' : Int) (fl hd tl : List Int) (w : World) (hN : N = fl.length) (hH : H = hd.length) (hL : L = tl.length)
    (h1 : IsB w fA fC fl) (h2 : IsB w hA hC hd) (h3 : IsB w tA tC tl) (hHb : H ≤ 140737488351232) (hLb : L ≤ 140737488351232) :
    Calls Tryz.prog 11 #[.agg #[.slice fA N fC, .int .i64 t, .slice hA H hC, .slice tA L tC, .int .i64 at']] w fun y w' => SidV w w' y := by
  have b0 := (Below.refl w.heap.size w).alloc (Nat.le_refl _) (.cells #[.slice fA N fC, .int .i64 t, .slice hA H hC, .slice tA L tC, .int .i64 at'] 38)
  have K0 := Cls.new w 38 #[.slice fA N fC, .int .i64 t, .slice hA H hC, .slice tA L tC, .int .i64 at']
  have HI := hide fun (X : World) (hx : Below w.heap.size w X) => And.intro (h1.below hx (Nat.le_refl _)) (And.intro (h2.below hx (Nat.le_refl _)) (h3.below hx (Nat.le_refl _)))
  have HN := hide (And.intro hN (And.intro hH hL))
  have HHL := hide (And.intro hHb hLb)
  clear h1 h2 h3 hN hH hL hHb hLb
  go_enter Tryz.func11, Tryz.ntmps11
  go_upto_region 1 with fail
  generalize w.alloc (.cells #[.slice fA N fC, .int .i64 t, .slice hA H hC, .slice tA L tC, .int .i64 at'] 38) = w0 at *
  obtain ⟨gX, hgX⟩ : ∃ gX, gX = w.heap.size := ⟨_, rfl⟩
  rw [← hgX] at K0
  rw [← hgX]
  have HX : Hid (∀ X, Below w0.heap.size w0 X → X.cell? ⟨gX, 0, none⟩ = some (.slice fA N fC) ∧ X.cell? ⟨gX, 1, none⟩ = some (.int .i64 t) ∧ X.cell? ⟨gX, 2, none⟩ = some (.slice hA H hC) ∧ X.cell? ⟨gX, 3, none⟩ = some (.slice tA L tC) ∧ X.cell? ⟨gX, 4, none⟩ = some (.int .i64 at')) := hide fun X hx => cells5S (K0.below hx K0.lt)
  have HB0 := hide b0
  have HT : Hid (∀ X, Below w0.heap.size w0 X → Below w.heap.size w X) := hide fun X hx => (unhide HB0).trans (hx.mono (unhide HB0).size)
  clear K0 b0 hgX
  obtain ⟨q0, q1, q2, q3, q4⟩ := unhide HX w0 (Below.refl _ _)
  go_cut [47] (fun cv wx => wx = w0 ∧ (cv = .bool true ∨ (cv = .bool false ∧ ∃ n : Nat, t = (n : Int) ∧ n ≤ 10000 ∧ N ≤ 10000 ∧ n * N + H ≤ 10000 ∧ n * N + L ≤ 10000)))
  case first =>
    by_cases c0 : t < 0
    · have d0 : decide (t < 0) = true := decide_eq_true c0
      go_wp2_with fail
      go_meet
      exact ⟨rfl, Or.inl rfl⟩
    · have d0 : decide (t < 0) = false := decide_eq_false c0
      by_cases c1 : 10000 < t
      · have d1 : decide (10000 < t) = true := decide_eq_true c1
        go_wp2_with fail
        go_meet
        exact ⟨rfl, Or.inl rfl⟩
      · have d1 : decide (10000 < t) = false := decide_eq_false c1
        by_cases c2 : 10000 < (N : Int)
        · have d2 : decide (10000 < (N : Int)) = true := decide_eq_true c2
          go_wp2_with fail
          go_meet
          exact ⟨rfl, Or.inl rfl⟩
        · have d2 : decide (10000 < (N : Int)) = false := decide_eq_false c2
          obtain ⟨a1, a2, a3⟩ := bad_arith (unhide HHL).1 (unhide HHL).2 c0 c1 c2
          by_cases c3 : 10000 < t * (N : Int) + (H : Int)
          · have d3 : decide (10000 < t * (N : Int) + (H : Int)) = true := decide_eq_true c3
            go_wp2_with fail
            go_meet
            exact ⟨rfl, Or.inl rfl⟩
          · have d3 : decide (10000 < t * (N : Int) + (H : Int)) = false := decide_eq_false c3
            by_cases c4 : 10000 < t * (N : Int) + (L : Int)
            · have d4 : decide (10000 < t * (N : Int) + (L : Int)) = true := decide_eq_true c4
              go_wp2_with fail
              go_meet
              exact ⟨rfl, Or.inl rfl⟩
            · have d4 : decide (10000 < t * (N : Int) + (L : Int)) = false := decide_eq_false c4
              have HY := hide (bad_no c0 c1 c2 c3 c4)
              go_wp2_with fail
              go_meet
              exact ⟨rfl, Or.inr ⟨rfl, unhide HY⟩⟩
  case rest =>
    obtain ⟨hwz, hcv⟩ := hcut
    subst hwz
    obtain ⟨w0, hw0⟩ : ∃ w0, w0 = wc := ⟨_, rfl⟩
    subst hw0
    clear q0 q1 q2 q3 q4
    rcases hcv with rfl | ⟨rfl, n, rfl, hn, hNb, hnH, hnL⟩
    · go_wp2_with fail
      refine bodyPost_ret (v := .tuple #[.slice none 0 0, .slice none 0 0, .bool false]) (by simp [results, Tryz.results11, go_sem]) rfl ?_
      exact ⟨Or.inl rfl, unhide HT _ (Below.refl _ _)⟩
    · obtain ⟨q0, q1, q2, q3, q4⟩ := unhide HX w0 (Below.refl _ _)
      obtain ⟨v6, W6, r6, z6⟩ := (TwO.start w0).right (m := tl) (unhide HI _ (unhide HT _ (Below.refl _ _))).2.2 (by have := unhide HN; omega)
      rw [← (unhide HN).2.2, Nat.zero_add] at z6
      rw [← (unhide HN).2.2] at r6
      have R6 := hide r6
      have HZ := hide z6
      have HA := hide (And.intro hn (And.intro hNb (And.intro hnH hnL)))
      clear r6 z6 hn hNb hnH hnL
      go_wp2_with (at_builtin; refine wpList_append_known rfl _ _ 30 30 rfl _ _ rfl rfl _ _ (unhide R6) ?_)
      clear R6 q0 q1 q2 q3 q4
      go_loopw [5, 6, 7] (fun v5 v6 v7 wz => ∃ (k : Nat), v7 = .int .i64 (k : Int) ∧ k ≤ n ∧ Hid (TwO w0 (k * N) (L + k * N) v5 v6 wz)) (fun _ _ v7 _ => n - (intOf v7).toNat)
      case atStart => exact ⟨0, rfl, Nat.zero_le _, hide (by rw [Nat.zero_mul, Nat.add_zero]; exact unhide HZ)⟩
      case round =>
        clear HZ
        obtain ⟨k, rfl, hk, HI1⟩ := hrel
        have hz := unhide HI1
        have HD := hide hz.d
        obtain ⟨q0, q1, q2, q3, q4⟩ := unhide HX wr hz.d
        by_cases c : k < n
        · have t1 : (k : Int) < (n : Int) := by omega
          have d1 : decide ((k : Int) < (n : Int)) = true := decide_eq_true t1
          have hbd : k * N + N ≤ 268435456 ∧ L + k * N + N ≤ 268435456 := by
            obtain ⟨e1, e2, e3, e4⟩ := unhide HA
            have : k * N ≤ 10000 * 10000 := Nat.mul_le_mul (by omega) e2
            omega
          obtain ⟨va, W1, r1, z1⟩ := hz.left (m := fl) (unhide HI _ (unhide HT _ hz.d)).1 (by have := unhide HN; omega)
          obtain ⟨p0, p1, p2, p3, p4⟩ := unhide HX W1 z1.d
          obtain ⟨vb, W2, r2, z2⟩ := z1.right (m := fl) (unhide HI _ (unhide HT _ z1.d)).1 (by have := unhide HN; omega)
          rw [← (unhide HN).1] at r1 r2
          have hst : TwO w0 ((k + 1) * N) (L + (k + 1) * N) va vb W2 := by
            rw [← (unhide HN).1] at z2
            rw [Nat.add_mul, Nat.one_mul, ← Nat.add_assoc]
            exact z2
          have R1 := hide r1
          have R2 := hide r2
          have HS := hide hst
          have wk : wrap64 ((k : Int) + 1) = (k : Int) + 1 := wrap_in _ (by omega) (by have := unhide HA; omega)
          clear r1 r2 z1 z2 hst hz hbd
          go_wp2_with (first | (at_builtin; refine wpList_append_known rfl _ _ 30 30 rfl _ _ rfl rfl _ _ (unhide R1) ?_; clear R1) | (at_builtin; refine wpList_append_known rfl _ _ 30 30 rfl _ _ rfl rfl _ _ (unhide R2) ?_; clear R2))
          go_roundw
          case rel => exact ⟨k + 1, by rw [wk]; push_cast; rfl, by omega, HS⟩
          case measure => rw [wk]; simp only [intOf]; omega
        · have t1 : ¬ (k : Int) < (n : Int) := by omega
          have d1 : decide ((k : Int) < (n : Int)) = false := decide_eq_false t1
          have hkk : k = n := by omega
          subst hkk
          obtain ⟨va, W1, r1, z1⟩ := hz.left (m := hd) (unhide HI _ (unhide HT _ hz.d)).2.1 (by have := unhide HN; have := unhide HA; omega)
          rw [← (unhide HN).2.1] at r1 z1
          have R1 := hide r1
          have HS := hide (sid_of z1 (by have := unhide HA; omega) (by have := unhide HA; omega) (unhide HB0))
          clear r1 z1 hz
          go_wp2_with (at_builtin; refine wpList_append_known rfl _ _ 30 30 rfl _ _ rfl rfl _ _ (unhide R1) ?_)
          refine bodyPost_ret (v := .tuple #[va, u6, .bool true]) (by simp [results, Tryz.results11, go_sem]) rfl ?_
          exact unhide HS

set_option maxRecDepth 100000 in
theorem info_intL : ∃ i, Tryz.prog.info? 3 = some i ∧ i.zero = some (.int .i64 0) ∧ i.size = 1 ∧ i.bytes = 8 := by
  refine ⟨_, rfl, ?_, ?_, ?_⟩ <;> rfl
theorem push_intL (W : World) (B n : Nat) (v : Value) (xs : List Value) (x : Int) (ty : TypeId) (h : W.ownsRow B 3 1 v n xs) (hn : n ≤ 4194304) (hB : B ≤ W.heap.size) :
    ∃ g c W', (Builtin.append_ #[41, 41] ty #[v, .slice (some ⟨W.heap.size, 0, none⟩) 1 1]).run Tryz.prog (W.alloc (.cells #[.int .i64 x] 3)) = .ok (.slice (some ⟨g, 0, none⟩) (n + 1) c) W' ∧
      W'.ownsRow B 3 1 (.slice (some ⟨g, 0, none⟩) (n + 1) c) (n + 1) (xs ++ [.int .i64 x]) ∧ Below B W W' := by
  obtain ⟨i, hi, hz, hs, hby⟩ := info_intL
  have hr := World.ownsRow.alloc h (.cells #[.int .i64 x] 3)
  obtain ⟨g, c, W', hrun, ho, hg, _, _⟩ := run_append_lies (P := Tryz.prog) (W.alloc (.cells #[.int .i64 x] 3)) 41 ty B 3 i (.int .i64 0) 1 8 Tryz.underlying41 hi hz hs hby rfl (by decide)
    v n xs hr ⟨W.heap.size, 0, none⟩ 1 1 [.int .i64 x] rfl
    (fun j u hj => by
      cases j with
      | zero => simp at hj; subst hj; rw [Addr.add_lit]; exact (World.cell?_alloc_mark W _ _ (0, 0) 0).trans rfl
      | succ j => simp at hj)
    (fun u hu => by simp at hu; subst hu; rfl) (by decide) (by unfold maxLen; omega) (by omega) (by simp; omega) _ rfl
  exact ⟨g, c, W', hrun, ho, ((Below.refl B W).alloc hB _).grown hg (by simp; omega) (fun k hk => (hr.lt k hk).1)⟩
/-- a list of numbers, as it grows -/
structure PlO (w0 : World) (v : Value) (X : World) : Prop where
  ex : ∃ ns : List Int, X.ownsRow w0.heap.size 3 1 v ns.length (ns.map fun z => .int .i64 z) ∧ ns.length ≤ 4000
  d : Below w0.heap.size w0 X
theorem PlO.start (w0 : World) : PlO w0 (.slice none 0 0) w0 := ⟨⟨[], ⟨rfl, Or.inl ⟨rfl, rfl⟩⟩, by simp⟩, Below.refl _ _⟩
theorem PlO.push {w0 X : World} {v : Value} (h : PlO w0 v X) (z : Int) (n : Nat) (hn : ∃ ns : List Int, X.ownsRow w0.heap.size 3 1 v ns.length (ns.map fun z => .int .i64 z) ∧ ns.length ≤ n) (hb : n ≤ 3000) :
    ∃ v' W', (Builtin.append_ #[41, 41] 41 #[v, .slice (some ⟨X.heap.size, 0, none⟩) 1 1]).run Tryz.prog (X.alloc (.cells #[.int .i64 z] 3)) = .ok v' W' ∧ PlO w0 v' W' ∧ ∃ ns : List Int, W'.ownsRow w0.heap.size 3 1 v' ns.length (ns.map fun z => .int .i64 z) ∧ ns.length ≤ n + 1 := by
  obtain ⟨ns, ho, hl⟩ := hn
  obtain ⟨g, c, W', r, o, b⟩ := push_intL X w0.heap.size ns.length v _ z 41 ho (by omega) h.d.size
  have o' : W'.ownsRow w0.heap.size 3 1 (.slice (some ⟨g, 0, none⟩) (ns.length + 1) c) (ns ++ [z]).length ((ns ++ [z]).map fun z => .int .i64 z) := by
    rw [List.length_append, List.map_append]
    exact o
  exact ⟨_, W', r, ⟨⟨ns ++ [z], o', by rw [List.length_append, List.length_singleton]; omega⟩, h.d.trans b⟩, ns ++ [z], o', by rw [List.length_append, List.length_singleton]; omega⟩
/-- what Places answers -/
def PlcV (w w' : World) (y : Ending) : Prop := ∃ (n : Nat) (a : Option Addr) (c : Nat), y = .returned (.slice a n c) ∧ n ≤ 4000 ∧ (∀ k, k < n → ∃ g z, a = some ⟨g, 0, none⟩ ∧ g < w'.heap.size ∧ w'.cell? ⟨g, k, none⟩ = some (.int .i64 z)) ∧ Below w.heap.size w w'
theorem plc_of {w w0 X : World} {v : Value} (h : PlO w0 v X) (hw : Below w.heap.size w w0) : PlcV w X (.returned v) := by
  obtain ⟨⟨ns, ho, hl⟩, hd⟩ := h
  have hb := hw.trans (hd.mono hw.size)
  have hlt := World.ownsRow.lt ho
  have hc := fun g (e : v.ownBlock = some g) => World.ownsRow.cells ho e
  rcases ho.2 with ⟨rfl, h0⟩ | ⟨g, cap, cur, rfl, _, hg, _⟩
  · exact ⟨0, none, 0, rfl, by omega, fun k hk => absurd hk (Nat.not_lt_zero _), hb⟩
  · refine ⟨ns.length, _, cap, rfl, hl, fun k hk => ⟨g, ns.getD k 0, rfl, (hlt g rfl).2, ?_⟩, hb⟩
    have e : (ns.map fun z => Value.int .i64 z)[k]? = some (.int .i64 (ns.getD k 0)) := by
      rw [List.getElem?_map, List.getElem?_eq_getElem hk, List.getD_eq_getElem?_getD, List.getElem?_eq_getElem hk]; rfl
    have := hc g rfl k _ e
    rw [Addr.add_lit, Nat.zero_add] at this
    exact this
theorem pl_arith {d : Int} (h1 : -1 ≤ d) (h2 : d ≤ 2) : wrap64 (d + 1) = d + 1 ∧ (d ≤ 1 → decide (d ≤ 1) = true) ∧ (¬ d ≤ 1 → decide (d ≤ 1) = false) :=
  ⟨wrap_in _ (by omega) (by omega), fun h => decide_eq_true h, fun h => decide_eq_false h⟩
set_option maxRecDepth 100000 in
set_option maxHeartbeats 8000000 in
theorem Places_of (fA : Option Addr) (fC N : Nat) (t : Int) (hA : Option Addr) (hC H : Nat) (tA : Option Addr) (tC L : Nat) (at' j n : Int) (w : World) :
    Calls Tryz.prog 12 #[.agg #[.slice fA N fC, .int .i64 t, .slice hA H hC, .slice tA L tC, .int .i64 at'], .int .i64 j, .int .i64 n] w fun y w' => PlcV w w' y := by
  have b0 := (Below.refl w.heap.size w).alloc (Nat.le_refl _) (.cells #[.slice fA N fC, .int .i64 t, .slice hA H hC, .slice tA L tC, .int .i64 at'] 38)
  have K0 := Cls.new w 38 #[.slice fA N fC, .int .i64 t, .slice hA H hC, .slice tA L tC, .int .i64 at']
  go_enter Tryz.func12, Tryz.ntmps12
  go_upto_region 1 with fail
  generalize w.alloc (.cells #[.slice fA N fC, .int .i64 t, .slice hA H hC, .slice tA L tC, .int .i64 at'] 38) = w0 at *
  obtain ⟨gX, hgX⟩ : ∃ gX, gX = w.heap.size := ⟨_, rfl⟩
  rw [← hgX] at K0
  rw [← hgX]
  have HX : Hid (∀ X, Below w0.heap.size w0 X → X.cell? ⟨gX, 4, none⟩ = some (.int .i64 at')) := hide fun X hx => (cells5S (K0.below hx K0.lt)).2.2.2.2
  have HB0 := hide b0
  have hst := PlO.start w0
  have HS := hide (And.intro hst (show ∃ ns : List Int, w0.ownsRow w0.heap.size 3 1 (.slice none 0 0) ns.length (ns.map fun z => .int .i64 z) ∧ ns.length ≤ ((-1 : Int) + 1).toNat from ⟨[], ⟨rfl, Or.inl ⟨rfl, rfl⟩⟩, Nat.le_refl _⟩))
  clear K0 b0 hgX hst
  go_wp2_with fail
  go_loopw [7, 8] (fun v7 v8 wz => ∃ (d : Int), v8 = .int .i64 d ∧ -1 ≤ d ∧ d ≤ 2 ∧ Hid (PlO w0 v7 wz ∧ ∃ ns : List Int, wz.ownsRow w0.heap.size 3 1 v7 ns.length (ns.map fun z => .int .i64 z) ∧ ns.length ≤ (d + 1).toNat)) (fun _ v8 _ => (2 - intOf v8).toNat)
  case atStart => exact ⟨-1, rfl, by decide, by decide, HS⟩
  case round =>
    clear HS
    obtain ⟨d, rfl, hd1, hd2, HI⟩ := hrel
    obtain ⟨a1, a2, a3⟩ := pl_arith hd1 hd2
    by_cases c : d ≤ 1
    · have d1 := a2 c
      obtain ⟨v', W', r, o, on⟩ := (unhide HI).1.push (wrap64 (j + d)) _ (unhide HI).2 (by omega)
      have hon : ∃ ns : List Int, W'.ownsRow w0.heap.size 3 1 v' ns.length (ns.map fun z => .int .i64 z) ∧ ns.length ≤ (d + 1 + 1).toNat := by
        obtain ⟨ns, h1, h2⟩ := on
        exact ⟨ns, h1, by omega⟩
      have R1 := hide r
      have HS := hide (And.intro o hon)
      clear r o on hon a2 a3
      go_wp2_with (at_builtin; refine wpList_append_known rfl _ _ 41 41 rfl _ _ rfl rfl _ _ (unhide R1) ?_)
      go_roundw
      case rel => exact ⟨d + 1, rfl, by omega, by omega, HS⟩
      case measure => simp only [intOf]; omega
    · have d1 := a3 c
      have q4 := unhide HX wr (unhide HI).1.d
      clear a2 a3
      by_cases h1 : 0 ≤ at'
      · have e1 : decide (0 ≤ at') = true := decide_eq_true h1
        by_cases h2 : at' ≤ n
        · have e2 : decide (at' ≤ n) = true := decide_eq_true h2
          obtain ⟨v', W', r, o, on⟩ := (unhide HI).1.push at' _ (unhide HI).2 (by omega)
          have R1 := hide r
          have HS := hide (plc_of o (unhide HB0))
          clear r o on
          go_wp2_with (at_builtin; refine wpList_append_known rfl _ _ 41 41 rfl _ _ rfl rfl _ _ (unhide R1) ?_)
          refine bodyPost_ret (results_tmp rfl _ _ _) rfl ?_
          exact unhide HS
        · have e2 : decide (at' ≤ n) = false := decide_eq_false h2
          have HS := hide (plc_of (unhide HI).1 (unhide HB0))
          go_wp2_with fail
          refine bodyPost_ret (results_tmp rfl _ _ _) rfl ?_
          exact unhide HS
      · have e1 : decide (0 ≤ at') = false := decide_eq_false h1
        have HS := hide (plc_of (unhide HI).1 (unhide HB0))
        go_wp2_with fail
        refine bodyPost_ret (results_tmp rfl _ _ _) rfl ?_
        exact unhide HS

end Go.Proofs.YteamaneompijkaaGreatDoor
