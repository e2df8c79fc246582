/- Layer 9's scripts: what a law's loop over the book's ropes keeps. · Layer 9: how high a balanced tree is; galleyref09.Digits. · RopeDepth's walk. · RopeDepth: for every input the law returns true and every argument reads afterwards as it read before; conditions: the table of classes holds at the call what the program's text lays (the card ties it to that text). -/
import Derived.Test.YtcodpkmhpplamaaGreatDoorRpD
import Derived.Test.YtcodpkmhpplamaaGreatDoorLayL
import Derived.Below
import Derived.ChangeOld
import Derived.ShutString

section
namespace Go.Proofs.YtcodpkmhpplamaaGreatDoor
open Go.ChangeShapes Go.WideShapes Go.ChangeAt Go.RowKit
attribute [local go_sem] Oper.semAt_some

theorem Bk.low {X : World} {B gB : Nat} {gs : List Nat} {os : List (Option Nd)} (h : Bk X B gB gs os) : Bk X 0 gB gs os := by
  obtain ⟨vr, vt, h1, h2, h3⟩ := h.c
  refine ⟨⟨vr, vt, h1, ⟨h2.1, ?_⟩, ⟨h3.1, ?_⟩⟩, h.n, h.r⟩
  · rcases h2.2 with h | ⟨g, cap, cur, e, _, h4⟩
    · exact Or.inl h
    · exact Or.inr ⟨g, cap, cur, e, Nat.zero_le _, h4⟩
  · rcases h3.2 with h | ⟨g, cap, cur, e, _, h4⟩
    · exact Or.inl h
    · exact Or.inr ⟨g, cap, cur, e, Nat.zero_le _, h4⟩
/-- what the law's loop keeps -/
structure SaI (w : World) (gT : Nat) (gs : List Nat) (os : List (Option Nd)) (X : World) : Prop where
  k : Bk X 0 gT gs os
  s : ∀ i, i < gs.length → (txtO (os.getD i none)).length ≤ 268435456
  b : Below w.heap.size w X

end Go.Proofs.YtcodpkmhpplamaaGreatDoor
end

section
namespace Go.Proofs.YtcodpkmhpplamaaGreatDoor
open Go.ChangeShapes Go.WideShapes Go.ChangeAt Go.RowKit
attribute [local go_sem] Oper.semAt_some

theorem bal_bytes {W : World} : ∀ {t : Nd} {v : Value}, IsNd W v t → Bal t → 2 ^ ((t.high - 1) / 2) ≤ t.txt.length
  | .tip l, _, ⟨_, _, _, h, _⟩, _ => by simp [Nd.high, Nd.txt]; omega
  | .fork a b, _, ⟨_, _, _, _, _, h1, h2⟩, hb => by
    rw [bal_fork] at hb
    have ha := bal_bytes h1 hb.2.2.1
    have hc := bal_bytes h2 hb.2.2.2
    have p1 := high_pos a
    have p2 := high_pos b
    show 2 ^ ((max a.high b.high + 1 - 1) / 2) ≤ (a.txt ++ b.txt).length
    rw [List.length_append]
    by_cases hm : max a.high b.high ≤ 1
    · rw [show (max a.high b.high + 1 - 1) / 2 = 0 by omega]
      have := h1.pos
      omega
    · obtain ⟨k, hk⟩ : ∃ k, (max a.high b.high + 1 - 1) / 2 = k + 1 := ⟨(max a.high b.high + 1 - 1) / 2 - 1, by omega⟩
      rw [hk, Nat.pow_succ]
      have e1 : k ≤ (a.high - 1) / 2 := by omega
      have e2 : k ≤ (b.high - 1) / 2 := by omega
      have f1 := Nat.pow_le_pow_right (n := 2) (by decide) e1
      have f2 := Nat.pow_le_pow_right (n := 2) (by decide) e2
      omega
/-- how many binary digits -/
def dig (n : Nat) : Nat := if n = 0 then 0 else dig (n / 2) + 1
termination_by n
decreasing_by omega
theorem dig_zero : dig 0 = 0 := by unfold dig; rfl
theorem dig_pos {n : Nat} (h : 0 < n) : dig n = dig (n / 2) + 1 := by rw [dig, if_neg (by omega)]
theorem dig_pow : ∀ (k n : Nat), n ≤ k → n < 2 ^ dig n := by
  intro k
  induction k with
  | zero => intro n h; obtain rfl : n = 0 := by omega
            rw [dig_zero]; decide
  | succ k ih =>
    intro n h
    by_cases h0 : n = 0
    · subst h0; rw [dig_zero]; decide
    · rw [dig_pos (by omega), Nat.pow_succ]
      have := ih (n / 2) (by omega)
      omega
theorem dig_le : ∀ (k n : Nat), n ≤ k → dig n ≤ n := by
  intro k
  induction k with
  | zero => intro n h; obtain rfl : n = 0 := by omega
            rw [dig_zero]; omega
  | succ k ih =>
    intro n h
    by_cases h0 : n = 0
    · subst h0; rw [dig_zero]; omega
    · rw [dig_pos (by omega)]
      have := ih (n / 2) (by omega)
      omega
theorem high_dig {W : World} {t : Nd} {v : Value} (h : IsNd W v t) (hb : Bal t) : t.high ≤ 2 * dig t.txt.length := by
  have h1 := bal_bytes h hb
  have h2 := dig_pow _ t.txt.length (Nat.le_refl _)
  have h3 : 2 ^ ((t.high - 1) / 2) < 2 ^ dig t.txt.length := Nat.lt_of_le_of_lt h1 h2
  have h4 := (Nat.pow_lt_pow_iff_right (a := 2) (by decide)).1 h3
  omega
set_option maxRecDepth 100000 in
set_option maxHeartbeats 2000000 in
theorem Digits9_at (n : Nat) (w : World) (hn : n ≤ 9223372036854775807) : Calls Tryz.prog 8 #[.int .i64 (n : Int)] w fun y w' => y = .returned (.int .i64 (dig n : Int)) ∧ w' = w := by
  have HD := hide (dig_le n n (Nat.le_refl _))
  go_enter Tryz.func8, Tryz.ntmps8
  go_wp2_with fail
  go_loop [0, 3] (fun v0 v3 => ∃ m k : Nat, v0 = .int .i64 (m : Int) ∧ v3 = .int .i64 (k : Int) ∧ Hid (k + dig m = dig n) ∧ m ≤ n) (fun v0 _ => (intOf v0).toNat)
  case atStart => exact ⟨n, 0, rfl, rfl, hide (by omega), Nat.le_refl _⟩
  case round =>
    obtain ⟨m, k, rfl, rfl, h1, h2⟩ := hrel
    by_cases c : 0 < m
    · have t1 : (0 : Int) < (m : Int) := by omega
      obtain ⟨q, hq⟩ : ∃ q, q = m / 2 := ⟨_, rfl⟩
      have hq1 : Int.tdiv (m : Int) 2 = (q : Int) := by rw [Int.tdiv_eq_ediv_of_nonneg (by omega)]; omega
      have hqx : wrap64 (q : Int) = (q : Int) := by unfold wrap64; omega
      have hd : k + 1 + dig q = dig n := by have := unhide h1; rw [dig_pos c, ← hq] at this; omega
      have hkn : k ≤ n := by have := unhide h1; have := unhide HD; omega
      have hkw : IntKind.i64.wrap ((k : Int) + 1) = (k : Int) + 1 := by rw [IntKind.wrap_i64]; have := unhide HD; omega
      have HD2 := hide hd
      have HQ := hide hq
      clear hd hq h1
      go_wp2_with fail
      go_round
      case rel => exact ⟨q, k + 1, by go_num, by go_num, unhide HD2, by have := unhide HQ; omega⟩
      case measure =>
        rw [hqx]
        show (q : Int).toNat < (m : Int).toNat
        have := unhide HQ
        omega
    · have t1 : ¬ (0 : Int) < (m : Int) := by omega
      obtain rfl : m = 0 := by omega
      have hk : k = dig n := by have := unhide h1; rw [dig_zero] at this; omega
      have HK := hide hk
      clear hk h1
      go_wp2_with fail
      go_ret
      exact ⟨by rw [← unhide HK]; rfl, rfl⟩

end Go.Proofs.YtcodpkmhpplamaaGreatDoor
end

section
namespace Go.Proofs.YtcodpkmhpplamaaGreatDoor
open Go.ChangeShapes Go.WideShapes Go.ChangeAt Go.RowKit
attribute [local go_sem] Oper.semAt_some

theorem highO_all {X : World} {g : Nat} {o : Option Nd} (h : IsRo X g o) (hb : BalO o) : highO o ≤ 2 * dig (txtO o).length ∧ ((txtO o).length = 0 → highO o = 0) ∧ (0 < (txtO o).length → 1 ≤ highO o) := by
  obtain ⟨v, _, hv⟩ := h
  cases o with
  | none => exact ⟨Nat.zero_le _, fun _ => rfl, fun h => absurd h (by decide)⟩
  | some t =>
    refine ⟨high_dig hv hb, fun h0 => ?_, fun _ => high_pos t⟩
    have h1 := high_txt hv
    have h2 := high_pos t
    have h3 : t.txt.length = 0 := h0
    omega
theorem size_str9 (l : List Int) : (strOfNums l).size = l.length := by simp [strOfNums, ByteArray.size]

set_option maxRecDepth 100000 in
set_option maxHeartbeats 8000000 in
theorem RopeDepth_any (a0 : Option Addr) (cap : Nat) (cs : List Ac) (w : World) (hA : IsAc w a0 cs) (hn : cs.length ≤ 2199023255488) (hW : Wt w) :
    Calls Tryz.prog 3 #[.slice a0 cs.length cap] w fun e w' => e = .returned (.bool true) ∧ Below w.heap.size w w' := by
  have HW := hide fun (X : World) (hx : Below w.heap.size w X) => hW.below hx
  have HA := hide fun (X : World) (hx : Below w.heap.size w X) => hA.on hx
  have HWk := hide (wakes9_at w hW)
  clear hW hA
  go_enter Tryz.func3, Tryz.ntmps3
  go_wp2_with fail
  refine (unhide HWk).mono ?_
  rintro y w1 ⟨rfl, x1⟩
  dsimp only
  have HPl := hide (play9_at a0 cap cs w1 (unhide HA w1 x1) (by omega) (unhide HW w1 x1))
  clear HWk
  go_wp2_with fail
  refine (unhide HPl).mono ?_
  rintro y w2 ⟨gB, gs, os, vr, vt, rfl, h2, c2, hs2, hgl, _, x2⟩
  dsimp only
  have h3 := h2.copy c2
  have hrf : (∃ a k c, vr = .slice a k c) ∧ ∃ a k c, vt = .slice a k c := by
    obtain ⟨vr', vt', d1, d2, d3⟩ := h2.c
    have e := c2.symm.trans d1
    cases e
    obtain ⟨a1, c1, e1⟩ := row_len9 d2
    obtain ⟨a3, c3, e3⟩ := row_len9 d3
    exact ⟨⟨a1, _, c1, e1⟩, ⟨a3, _, c3, e3⟩⟩
  obtain ⟨⟨ra, rl, rc, rfl⟩, ta, tl, tc, rfl⟩ := hrf
  have x3 := (Below.refl w2.heap.size w2).alloc (Nat.le_refl _) (.cells #[.slice ra rl rc, .slice ta tl tc] 27)
  have D2 := x1.trans (x2.mono x1.size)
  have D3 := D2.trans (x3.mono D2.size)
  clear HPl h2 c2 x1 x2 x3 D2
  go_upto_region 6 with fail
  generalize hw3 : w2.alloc (.cells #[.slice ra rl rc, .slice ta tl tc] 27) = w3 at *
  generalize w2.heap.size = gT at *
  clear hw3
  have i0 : SaI w gT gs os w3 := ⟨h3.low, hs2, D3⟩
  obtain ⟨vr', vt', d1, d2, d3⟩ := h3.c
  obtain ⟨ra', rc', rfl⟩ := row_len9 d2
  obtain ⟨p0, _, _⟩ := cells2 d1
  clear d1 d2 d3 h3 D3
  go_wp2_with fail
  clear p0
  go_loopw [5, 6, 19] (fun v5 v6 v19 wx => (∃ z, v5 = z) ∧ (∃ z, v6 = z) ∧ ∃ i : Nat, v19 = .int .i64 (i : Int) ∧ i ≤ gs.length ∧ Hid (SaI w gT gs os wx)) (fun _ _ v19 _ => gs.length - (intOf v19).toNat)
  case atStart => exact ⟨⟨_, rfl⟩, ⟨_, rfl⟩, 0, rfl, Nat.zero_le _, hide i0⟩
  case round =>
    clear i0
    obtain ⟨⟨z5, rfl⟩, ⟨z6, rfl⟩, i, rfl, hi, HI⟩ := hrel
    by_cases c : i < gs.length
    · have t1 : (i : Int) < (gs.length : Int) := by omega
      have hI := unhide HI
      obtain ⟨gr, rc, gt, tc, p0, p1, pc⟩ := hI.k.rows (by omega)
      obtain ⟨ci, cti⟩ := pc i c
      have hri := hI.k.r i c
      have hsi := hI.s i c
      generalize gs.getD i 0 = gi at *
      generalize os.getD i none = oi at *
      have hh := highO_all hri.1 hri.2
      have HD := hide (Depth9_at gi oi wr hri.1)
      have hsz := size_str9 (txtO oi)
      generalize strOfNums (txtO oi) = Si at *
      have hdl := dig_le _ (txtO oi).length (Nat.le_refl _)
      generalize hLn : (txtO oi).length = ln at *
      generalize highO oi = hg at *
      have HDg := hide fun (X : World) => Digits9_at ln X (by omega)
      generalize dig ln = dg at *
      have HIL : Hid (∀ Y, Below wr.heap.size wr Y → SaI w gT gs os Y) := hide fun Y hb => ⟨hI.k.on hb, hI.s, hI.b.trans (hb.mono hI.b.size)⟩
      have HC : Hid (∀ Y, Below wr.heap.size wr Y → Y.cell? ⟨gT, 1, none⟩ = some (.slice (some ⟨gt, 0, none⟩) gs.length tc) ∧ Y.cell? ⟨gt, i, none⟩ = some (.string Si)) := hide fun Y hb => ⟨(hb.cell (p := ⟨gT, 1, none⟩) (lt_cell p1)).trans p1, (hb.cell (p := ⟨gt, i, none⟩) (lt_cell cti)).trans cti⟩
      clear pc hri hI HI p1 cti
      go_wp2_with fail
      refine (unhide HD).mono ?_
      rintro y w5 ⟨rfl, x5⟩
      dsimp only
      obtain ⟨p1, cti⟩ := unhide HC w5 x5
      have HI := hide (unhide HIL w5 x5)
      have hiw : IntKind.i64.wrap ((i : Int) + 1) = (i : Int) + 1 := by rw [IntKind.wrap_i64]; omega
      clear HD HC HIL p0 ci
      by_cases e0 : ln = 0
      · obtain rfl : hg = 0 := hh.2.1 e0
        subst e0
        go_wp2_with fail
        go_roundw
        case rel => exact ⟨⟨_, rfl⟩, ⟨_, rfl⟩, i + 1, by go_num, by omega, HI⟩
        case measure =>
          show gs.length - ((i : Int) + 1).toNat < gs.length - (i : Int).toNat
          omega
      · have t2 : ((ln : Int) == 0) = false := by rw [beq_eq_false_iff_ne]; omega
        have t3 : decide ((0 : Int) < (ln : Int)) = true := decide_eq_true (by omega)
        have t4 : decide ((hg : Int) < 1) = false := decide_eq_false (by have := hh.2.2 (by omega); omega)
        have t5 : IntKind.i64.wrap (2 * (dg : Int)) = 2 * (dg : Int) := by rw [IntKind.wrap_i64]; omega
        have t6 : IntKind.i64.wrap (2 * (dg : Int) + 4) = 2 * (dg : Int) + 4 := by rw [IntKind.wrap_i64]; omega
        have t7 : decide (2 * (dg : Int) + 4 < (hg : Int)) = false := decide_eq_false (by have := hh.1; omega)
        have t8 : (0 : Int) < (ln : Int) := by omega
        have t9 : ¬ (hg : Int) < 1 := by have := hh.2.2 (by omega); omega
        have t10 : ¬ 2 * (dg : Int) + 4 < (hg : Int) := by have := hh.1; omega
        have t11 : 0 < ln := by omega
        clear hh hdl
        go_wp2_with fail
        refine (unhide HDg w5).mono ?_
        rintro y w6 ⟨rfl, rfl⟩
        dsimp only
        go_wp2_with fail
        go_roundw
        case rel => exact ⟨⟨_, rfl⟩, ⟨_, rfl⟩, i + 1, by go_num, by omega, HI⟩
        case measure =>
          show gs.length - ((i : Int) + 1).toNat < gs.length - (i : Int).toNat
          omega
    · have t1 : ¬ (i : Int) < (gs.length : Int) := by omega
      have HB := hide (unhide HI).b
      go_wp2_with fail
      refine bodyPost_ret (results_tmp rfl _ _ _) rfl ⟨rfl, unhide HB⟩

end Go.Proofs.YtcodpkmhpplamaaGreatDoor
end

section
namespace Go.Proofs.YtcodpkmhpplamaaGreatDoor
open Go.ChangeShapes Go.WideShapes Go.ChangeAt Go.RowKit
open Go.ChangeMaps (open_string shut_string)

set_option maxRecDepth 100000 in
theorem ropeDepth_contract (H : Type) (enc : TypeId × Value → H) (W : World) (base : Nat) (args : Array Value) (ds gs : List (DataW H)) (before : List MemPlace)
    (hval : ∀ (j : Nat) t v, Tryz.f3.params[j]? = some t → args[j]? = some v → Value.okWide Tryz.prog W .any base t v)
    (hW : DataW.Whole enc Tryz.prog Tryz.f3.params.toList Rows.ropeDepthSpec.vars false W args.toList ds gs before) (hsz : (DataW.weightsEach Tryz.prog (Tryz.f3.params.toList ++ (OpenSpec.ofChange Rows.ropeDepthSpec).bare.plain.varTypes Tryz.prog) (ds ++ gs)).all (· ≤ reachBytes) = true) (hL : laidMetH Tryz.prog Rows.ropeDepthRow.laid W) (hsh : W.ShapedOpen Tryz.prog) :
    Calls Tryz.prog 3 args W fun e W' => ∃ v, e = .returned v ∧ Rows.ropeDepthSpec.post enc Tryz.prog Tryz.f3 false true false false W args v W' := by
  have hW' := hW
  obtain ⟨p, q, hA0, hV, rfl, _, _⟩ := hW
  have hA : DataW.TrodAll enc Tryz.prog W 0 (fun _ => true) true Tryz.f3.params.toList args.toList ds p := hA0
  rw [Tryz.params3] at hA hval hsz
  obtain ⟨v0, vs0, d0, ds0, p0, q0, hargs, rfl, rfl, h0, r0⟩ := trodAll_cons hA
  obtain ⟨rfl, rfl, rfl⟩ := trodAll_nil r0
  obtain rfl : args = #[v0] := by cases args; simp_all
  obtain ⟨rfl, rfl⟩ := trodVars_none hV
  obtain ⟨a0, len0, cap0, rfl⟩ := okWide_slice Tryz.underlying22 (hval 0 22 v0 rfl rfl)
  have k0 := h0
  have lt0 : ∀ x ∈ p0, x.block < W.heap.size := by obtain ⟨m, hm⟩ := k0; exact DataW.trod_lt m _ _ _ hm
  obtain ⟨l0, rfl, w0, u0⟩ := acts1_of_trod h0 hsz (j := 0) rfl rfl
  clear hA0
  refine (RopeDepth_any a0 cap0 l0 W w0 u0 (wt_of hL hsh)).mono fun e W' ⟨he, bel⟩ => ?_
  subst he
  exact ⟨_, rfl, _, _, _, [], _, [], hW', trodAll_mk1 (shut_bool Tryz.underlying4 _), (trodAll_cons_mk (Below.trod laidOut (by kernel_rfl) (of_decide_eq_true (by kernel_rfl)) k0 bel lt0) trodAll_mk0), rfl, bel.frame _, fun h => by cases h⟩

theorem ropeDepth_met (os : Os) : laidMet Tryz.prog Rows.ropeDepthRow.laid ((laidWorldW os).forCall (fun _ _ => 0) ⟨#[], #[.slice none 0 0], []⟩).memory :=
  laidMet_of_run' 8 (by kernel_rfl) (by kernel_rfl)
theorem ropeDepth_reads (os : Os) {H : Type} (enc : TypeId × Value → H) : ∃ places, DataW.whole enc Tryz.prog ((laidWorldW os).forCall (fun _ _ => 0) ⟨#[], #[.slice none 0 0], []⟩).memory Tryz.f3.params.toList Rows.ropeDepthSpec.vars false (#[.slice none 0 0] : Array Value).toList 8 = some ([.nil], [], places) :=
  ⟨[], by kernel_rfl⟩

set_option maxRecDepth 100000 in
theorem ropeDepth_lifted (os : Os) (started : os.Started) (H : Type) (enc : TypeId × Value → H) (F : Stop.Interp) :
    ReturnsInHanded {} Tryz.checked os 3 .any ((OpenSpec.ofChange Rows.ropeDepthSpec).preRow enc Tryz.prog Tryz.f3 Rows.ropeDepthRow.domain false Rows.ropeDepthRow.laid) (((OpenSpec.ofChange Rows.ropeDepthSpec).at F).post enc Tryz.prog Tryz.f3 false true false false) := by
  obtain ⟨places, hx⟩ := ropeDepth_reads os enc
  refine returnsInHanded_of_row (C := Tryz.checked) (s := OpenSpec.ofChange Rows.ropeDepthSpec) own started (by kernel_rfl) Tryz.func3
    (witness_row_at (enc := enc) (C := Tryz.checked) false (laidWorldW os) #[.slice none 0 0] rfl (by kernel_rfl) (by kernel_rfl) (by kernel_rfl)
      (OpenSpec.preRow_of_cond 8 hx (by kernel_rfl) (fun k hk => by cases hk) (by kernel_rfl) (ropeDepth_met os))) ?_
  intro W base args ds gs before hval hW _ _ hsz hL hsh _
  exact ropeDepth_contract H enc W base args ds gs before hval hW hsz hL hsh

theorem ropeDepth_said : Rows.RopeDepthSaid :=
  OpenClaim.holds_of_cond 3 Tryz.f3 rfl rfl rfl rfl rfl rfl rfl ⟨rfl, rfl, rfl, rfl, rfl⟩ rfl rfl rfl rfl rfl (by kernel_rfl) Tryz.func3 (by kernel_rfl)
    (of_decide_eq_true (by kernel_rfl)) (by unfold Func.isWrapper; first | (rw [if_pos (by decide +kernel)]; kernel_rfl) | (rw [if_neg (by decide +kernel)]; exact ⟨rfl, rfl⟩))
    (fun os started H enc _ F => by rw [OpenClaim.pre_eq_preRow]; exact ropeDepth_lifted os started H enc F)

theorem ropeDepth_plain (f : FuncId) (fn : Func) (hf : Tryz.pinned.checked.prog.funcNamed "galley/galleylaw09.RopeDepth" = some f) (hfn : Tryz.pinned.checked.prog.funcs[f]? = some fn) :
    true = Tryz.pinned.checked.prog.looks [] ∧ ∀ (j : Nat) t, fn.params[j]? = some t → Tryz.pinned.checked.prog.wantsStandIn t = false := by
  obtain rfl : f = 3 := Option.some.inj ((show Tryz.prog.funcNamed "galley/galleylaw09.RopeDepth" = some 3 by kernel_rfl).symm.trans hf) |>.symm
  obtain rfl : fn = Tryz.f3 := (Option.some.inj (Tryz.func3.symm.trans hfn)).symm
  refine ⟨by kernel_rfl, fun j t ht => ?_⟩
  rw [Tryz.params3] at ht
  obtain rfl : t = 22 := by simpa using Array.mem_of_getElem? ht
  exact (show Tryz.prog.wantsStandIn 22 = false by kernel_rfl)

/-- the card -/
theorem ropeDepth_card : Rows.RopeDepthCardSaid :=
  Claim7.holds_tied_plain_at .later [] _ _ _ _ ropeDepth_said (fun _ h => by cases h) (by kernel_rfl) (fun _ h => by cases h) ropeDepth_row_tie rfl ⟨rfl, rfl⟩ (by kernel_rfl) rfl ropeDepth_plain (by kernel_rfl)

#print axioms ropeDepth_card
end Go.Proofs.YtcodpkmhpplamaaGreatDoor
end
