/- Layer 14: Chain (written by wip/tools/sgd.py). · Layer 14: rows of lists; the document's SameAll (written by wip/tools/sge.py). · Layer 14: chains in plain words: both ways round meet (ShiftChains). -/
import Derived.Test.YtjjdgfjlpkhgcaaMg27

section
namespace Go.Proofs.Ytjjdgfjlpkhgcaa
open Go.ChangeShapes Go.WideShapes Go.ChangeAt Go.RowKit
attribute [local go_sem] Oper.semAt_some

theorem eqnil_noneD (n c : Nat) (w : World) : (binOp .eql 24 (.slice none n c) (.slice none 0 0)).run Try.prog w = .ok (.bool true) w := by kernel_rfl
theorem eqnil_someD (a : Addr) (n c : Nat) (w : World) : (binOp .eql 24 (.slice (some a) n c) (.slice none 0 0)).run Try.prog w = .ok (.bool false) w := by kernel_rfl
set_option maxRecDepth 100000 in
theorem clone_at (a : Option Addr) (c : Nat) (d : List Dop) (w : World) (h : IsO w a d) (hb : d.length * 32 ≤ 140737488355328) :
    Calls Try.prog 68 #[.slice a d.length c] w fun y w' => ∃ v, y = .returned v ∧ w'.ownsRow w.heap.size 34 3 v d.length (opsV d) ∧ Below w.heap.size w w' := by
  cases a with
  | none =>
    have hd : d = [] := by
      rcases h with h | ⟨_, _, h, _⟩
      · exact h
      · cases h
    subst hd
    clear h hb
    have hq := eqnil_noneD
    go_enter Try.func68, Try.ntmps68
    go_wp2_with fail
    refine bodyPost_ret (results_tmp rfl _ _ _) rfl ⟨.slice none 0 0, rfl, row_nilD _ _, Below.refl _ _⟩
  | some p =>
    obtain ⟨v', w', hr, ho, hbb⟩ := copy_op w (some p) c d 24 h (.inr ⟨p, rfl⟩) hb
    have R2 := hide hr
    have HO := hide ho
    have HB := hide hbb
    clear hr ho hbb h hb
    have hq := eqnil_someD
    go_enter Try.func68, Try.ntmps68
    go_wp2_with (at_builtin; refine wpList_append_known rfl _ _ 24 24 rfl _ _ rfl rfl _ _ (unhide R2) ?_; clear R2)
    refine bodyPost_ret (results_tmp rfl _ _ _) rfl ⟨v', rfl, unhide HO, unhide HB⟩
set_option maxRecDepth 100000 in
set_option maxHeartbeats 4000000 in
theorem BothR_at (a : Option Addr) (c : Nat) (d : List Dop) (a' : Option Addr) (c' : Nat) (e : List Dop) (w : World) (h : IsO w a d ∧ d.length ≤ c) (h' : IsO w a' e ∧ e.length ≤ c') (ht : ∀ o ∈ d, o.t.length ≤ 140737488355328) (ht' : ∀ o ∈ e, o.t.length ≤ 140737488355328) (hl : d.length ≤ 4611686018427387904) (hl' : e.length ≤ 4611686018427387904) :
    Calls Try.prog 29 #[.slice a d.length c, .slice a' e.length c'] w fun y w' => ∃ v2 v3, y = .returned (.tuple #[v2, v3, .int .i64 (boE d e)]) ∧ w'.ownsRow w.heap.size 34 3 v2 (boA d e).length (opsV (boA d e)) ∧ w'.ownsRow w.heap.size 34 3 v3 (boB d e).length (opsV (boB d e)) ∧ Below w.heap.size w w' := by
  have H1 := hide (Over_at a' c' e a c d true w h'.1 h.1 h'.2 h.2 ht' hl' hl)
  have H2 := hide fun (X : World) (hX : Below w.heap.size w X) => Over_at a c d a' c' e false X (h.1.below hX (Nat.le_refl _)) (h'.1.below hX (Nat.le_refl _)) h.2 h'.2 ht hl hl'
  obtain ⟨E1, hE1⟩ : ∃ E1, E1 = ovE e d true := ⟨_, rfl⟩
  obtain ⟨E2, hE2⟩ : ∃ E2, E2 = ovE d e false := ⟨_, rfl⟩
  obtain ⟨L1, hL1⟩ : ∃ L1, L1 = ovD e d true := ⟨_, rfl⟩
  obtain ⟨L2, hL2⟩ : ∃ L2, L2 = ovD d e false := ⟨_, rfl⟩
  have hbE : boE d e = if E1 = 0 then E2 else E1 := by unfold boE; rw [hE1, hE2]
  have hbA : boA d e = if (if E1 = 0 then E2 else E1) = 0 then L1 else [] := by unfold boA; rw [hbE, hL1]
  have hbB : boB d e = if (if E1 = 0 then E2 else E1) = 0 then L2 else [] := by unfold boB; rw [hbE, hL2]
  rw [hbE, hbA, hbB]
  rw [← hE1, ← hL1] at H1
  rw [← hE2, ← hL2] at H2
  clear h h' ht ht' hl hl' hE1 hE2 hL1 hL2 hbE hbA hbB
  by_cases e1 : E1 = 0
  · subst e1
    simp only [if_true]
    by_cases e2 : E2 = 0
    · subst e2
      simp only [if_true]
      go_enter Try.func29, Try.ntmps29
      go_wp2_with fail
      refine (unhide H1).mono ?_
      rintro y w1 ⟨v2, rfl, i2, x1⟩
      dsimp only
      have HX1 := hide x1
      have HI := hide i2
      have HC := hide (unhide H2 w1 x1)
      clear H1 H2 i2 x1
      go_wp2_with fail
      refine (unhide HC).mono ?_
      rintro y w2 ⟨v3, rfl, i3, x2⟩
      dsimp only
      have HI2 := hide (And.intro (rowD_below (unhide HI) x2 (Nat.le_refl _)) (own_lower i3 (unhide HX1).size))
      have HX2 := hide ((unhide HX1).trans (x2.mono (unhide HX1).size))
      clear HC HI HX1 i3 x2
      go_wp2_with fail
      refine bodyPost_ret (results_tmp3 rfl _ _) rfl ⟨_, _, rfl, (unhide HI2).1, (unhide HI2).2, unhide HX2⟩
    · have t2 : (E2 != 0) = true := by simpa using e2
      have t2' : (E2 == 0) = false := by simpa using e2
      rw [if_neg e2, if_neg e2]
      go_enter Try.func29, Try.ntmps29
      go_wp2_with fail
      refine (unhide H1).mono ?_
      rintro y w1 ⟨v2, rfl, _, x1⟩
      dsimp only
      have HX1 := hide x1
      have HC := hide (unhide H2 w1 x1)
      clear H1 H2 x1
      go_wp2_with fail
      refine (unhide HC).mono ?_
      rintro y w2 ⟨v3, rfl, _, x2⟩
      dsimp only
      have HX2 := hide ((unhide HX1).trans (x2.mono (unhide HX1).size))
      clear HC HX1 x2 e2
      go_wp2_with fail
      refine bodyPost_ret (results_tmp3 rfl _ _) rfl ⟨.slice none 0 0, .slice none 0 0, rfl, row_nilD _ _, row_nilD _ _, unhide HX2⟩
  · have t1 : (E1 != 0) = true := by simpa using e1
    have t1' : (E1 == 0) = false := by simpa using e1
    rw [if_neg e1, if_neg e1, if_neg e1]
    go_enter Try.func29, Try.ntmps29
    go_wp2_with fail
    refine (unhide H1).mono ?_
    rintro y w1 ⟨v2, rfl, _, x1⟩
    dsimp only
    have HX1 := hide x1
    clear H1 H2 x1 e1
    go_wp2_with fail
    refine bodyPost_ret (results_tmp3 rfl _ _) rfl ⟨.slice none 0 0, .slice none 0 0, rfl, row_nilD _ _, row_nilD _ _, unhide HX1⟩
/-- a chain in plain words -/
def preL (L : List (List Dop)) (q : (List Dop × List (List Dop)) × Int) : (List Dop × List (List Dop)) × Int := if q.2 = 0 then ((q.1.1, L ++ q.1.2), 0) else q
def chL : List (List Dop) → List Dop → (List Dop × List (List Dop)) × Int
  | [], b => ((b, []), 0)
  | a :: r, b => if boE a b = 0 then preL [boA a b] (chL r (boB a b)) else (([], []), boE a b)
theorem pre_pre (L : List (List Dop)) (x : List Dop) (q : (List Dop × List (List Dop)) × Int) : preL L (preL [x] q) = preL (L ++ [x]) q := by
  unfold preL
  by_cases h : q.2 = 0
  · simp [h]
  · simp [h]
def cnQ (ds : List Dl) (e : List Dop) : (List Dop × List (List Dop)) × Int := if lkE ds e = 0 then chL (ds.map (·.d)) e else (([], []), lkE ds e)
/-- the delta and the list so far, in rows of the call's own -/
structure ChM (w X : World) (v1 v8 : Value) (b : List Dop) (L : List (List Dop)) : Prop where
  b : X.ownsRow w.heap.size 34 3 v1 b.length (opsV b)
  l : ∃ vs : List Value, X.ownsRow w.heap.size 24 1 v8 L.length vs ∧ vs.length = L.length ∧ ∀ i, i < L.length → X.ownsRow w.heap.size 34 3 (vs.getD i undef) (L.getD i []).length (opsV (L.getD i []))
  d : Below w.heap.size w X
theorem ChM.nil (w X : World) (h : Below w.heap.size w X) : ChM w X (.slice none 0 0) (.slice none 0 0) [] [] := ⟨row_nilD _ _, ⟨[], World.ownsRow_nil _ _ _ _, rfl, fun i hi => by simp at hi⟩, h⟩
theorem ChM.on {w X Y : World} {v1 v8 : Value} {b : List Dop} {L : List (List Dop)} (h : ChM w X v1 v8 b L) (hb : Below X.heap.size X Y) : ChM w Y v1 v8 b L := by
  obtain ⟨vs, h1, h2, h3⟩ := h.l
  exact ⟨rowD_below h.b hb (Nat.le_refl _), ⟨vs, rowD_below h1 hb (Nat.le_refl _), h2, fun i hi => rowD_below (h3 i hi) hb (Nat.le_refl _)⟩, h.d.trans (hb.mono h.d.size)⟩
set_option maxRecDepth 100000 in
theorem info_dl : ∃ i, Try.prog.info? 24 = some i ∧ i.zero = some (.slice none 0 0) ∧ i.size = 1 ∧ i.bytes = 24 := by
  refine ⟨_, rfl, ?_, ?_, ?_⟩ <;> rfl
/-- one more list -/
theorem ChM.push {w X : World} {v1 v8 v2 v3 : Value} {b x y : List Dop} {L : List (List Dop)} (h : ChM w X v1 v8 b L) (hx : X.ownsRow w.heap.size 34 3 v2 x.length (opsV x)) (hy : X.ownsRow w.heap.size 34 3 v3 y.length (opsV y)) (hl : (L.length + 1) * 24 ≤ 140737488355328) :
    ∃ v' W', (Builtin.append_ #[57, 57] 57 #[v8, .slice (some ⟨X.heap.size, 0, none⟩) 1 1]).run Try.prog (X.alloc (.cells #[v2] 24)) = .ok v' W' ∧ ChM w W' v3 v' y (L ++ [x]) := by
  obtain ⟨vs, h1, h2, h3⟩ := h.l
  obtain ⟨i, hi, hz, hs, hby⟩ := info_dl
  have hr := World.ownsRow.alloc h1 (.cells #[v2] 24)
  have kN := Cls.new X 24 #[v2]
  have hone : v2.oneCell' = true := by rcases hx.2 with ⟨rfl, _⟩ | ⟨_, _, _, rfl, _⟩ <;> rfl
  obtain ⟨g, k, W', hrun, ho, hg, _, _⟩ := run_append_lies (P := Try.prog) (X.alloc (.cells #[v2] 24)) 57 57 w.heap.size 24 i (.slice none 0 0) 1 24 Try.underlying57 hi hz hs hby rfl (by decide)
    v8 L.length vs hr ⟨X.heap.size, 0, none⟩ 1 1 [v2] rfl
    (fun j u hj => by
      rw [Addr.add_lit, Nat.zero_add]
      exact (kN.cell j).trans (by simpa using hj))
    (fun u hu => by
      have e : u = v2 := by simpa using hu
      rw [e]; exact hone) (by decide) (by unfold maxLen; omega) (by omega) (by simp; have := h.d.size; omega) _ rfl
  have ha := World.grownBy_alloc X (.cells #[v2] 24) none
  have keep : ∀ {v : Value} {n : Nat} {xs : List Value}, X.ownsRow w.heap.size 34 3 v n xs → W'.ownsRow w.heap.size 34 3 v n xs := fun {v n xs} hv => rowD_on hv fun G hG => by
    obtain ⟨_, cur, hc⟩ := rowD_block hv hG
    have hlt := (Array.getElem?_eq_some_iff.1 hc).1
    have e1 := ha.block G hlt (by simp)
    rw [← e1]
    refine hg.block G (Nat.lt_of_lt_of_le hlt ha.size) fun e => ?_
    obtain ⟨_, cur8, hc8⟩ := rowD_block h1 e.symm
    exact typeD_ne hc hc8 (by decide) rfl
  refine ⟨_, W', hrun, keep hy, ⟨vs ++ [v2], ?_, by simp [h2], fun i hi => ?_⟩, (h.d.alloc h.d.size _).grown hg (by simp; have := h.d.size; omega) (fun k hk => (hr.lt k hk).1)⟩
  · rw [List.length_append, List.length_singleton]; exact ho
  · rw [List.length_append, List.length_singleton] at hi
    rcases Nat.lt_or_ge i L.length with hlt | hge
    · rw [show (vs ++ [v2]).getD i undef = vs.getD i undef by simp [List.getD, List.getElem?_append_left (show i < vs.length by omega)], show (L ++ [x]).getD i [] = L.getD i [] by simp [List.getD, List.getElem?_append_left hlt]]
      exact keep (h3 i hlt)
    · obtain rfl : i = L.length := by omega
      rw [show (vs ++ [v2]).getD L.length undef = v2 by rw [← h2]; simp [List.getD], show (L ++ [x]).getD L.length [] = x by simp [List.getD]]
      exact keep hx
theorem val_tl {d : List Dop} (hv : valB d = true) : ∀ o ∈ d, o.t.length ≤ 140737488355328 := fun o ho => by
  have h1 := (val_rdK hv).s o ho
  have h2 := (szO_i ((val_rdK hv).p o ho)).1
  have h3 := pln_n ((val_rdK hv).p o ho)
  omega
theorem lk_val {ds : List Dl} {e : List Dop} (h : lkE ds e = 0) : valB e = true := by
  unfold lkE at h
  split at h
  · rename_i h1; exact h1
  · cases h
set_option maxRecDepth 100000 in
set_option maxHeartbeats 4000000 in
theorem Chain_at (G cc : Nat) (ds : List Dl) (a' : Option Addr) (c' : Nat) (e : List Dop) (w : World) (h : IsDs w w G ds) (h' : IsO w a' e) (hl : ds.length * 24 ≤ 140737488355328) (hl' : e.length * 32 ≤ 140737488355328) (hds : ∀ x ∈ ds, x.d.length ≤ 4611686018427387904 ∧ x.d.length ≤ x.c) :
    Calls Try.prog 28 #[.slice (some ⟨G, 0, none⟩) ds.length cc, .slice a' e.length c'] w fun y w' => ∃ v1 v8, y = .returned (.tuple #[v1, v8, .int .i64 (cnQ ds e).2]) ∧ ChM w w' v1 v8 (cnQ ds e).1.1 (cnQ ds e).1.2 := by
  have HLK := hide (linked_at G cc ds a' c' e w w h h' (Below.refl _ _) (by omega) (by omega) (fun x hx => (hds x hx).1))
  obtain ⟨Q, hQ⟩ : ∃ Q, Q = cnQ ds e := ⟨_, rfl⟩
  rw [← hQ]
  unfold cnQ at hQ
  by_cases hE : lkE ds e = 0
  · rw [hE] at HLK
    rw [if_pos hE] at hQ
    have HVE := hide (lk_val hE)
    have HCL := hide fun (X : World) (hX : Below w.heap.size w X) => clone_at a' c' e X (h'.below hX (Nat.le_refl _)) hl'
    have HH := hide fun (Y : World) (hY : Below w.heap.size w Y) => h.on hY
    have HDS := hide hds
    have HQ := hide hQ
    clear h h' hl' hds hE hQ
    go_enter Try.func28, Try.ntmps28
    go_wp2_with fail
    refine (unhide HLK).mono ?_
    rintro y w1 ⟨rfl, x1⟩
    dsimp only
    have HX1 := hide x1
    have HC1 := hide (unhide HCL w1 x1)
    clear HLK HCL x1
    go_wp2_with fail
    refine (unhide HC1).mono ?_
    rintro y w2 ⟨v1, rfl, o1, x2⟩
    dsimp only
    have HM0 : Hid (ChM w w2 v1 (.slice none 0 0) e []) := hide ⟨own_lower o1 (unhide HX1).size, ⟨[], World.ownsRow_nil _ _ _ _, rfl, fun i hi => by simp at hi⟩, (unhide HX1).trans (x2.mono (unhide HX1).size)⟩
    clear HC1 HX1 o1 x2
    go_wp2_with fail
    go_loopw [1, 8, 10, 11, 12, 13, 24, 28] (fun v1 v8 v10 v11 v12 v13 v24 v28 wx => ((∃ z, v10 = z) ∧ (∃ z, v11 = z) ∧ (∃ z, v12 = z) ∧ (∃ z, v13 = z) ∧ (∃ z, v28 = z)) ∧ ∃ (k : Nat) (b : List Dop) (L : List (List Dop)), v24 = .int .i64 (k : Int) ∧ k ≤ ds.length ∧ Hid (ChM w wx v1 v8 b L ∧ valB b = true ∧ L.length = k ∧ Q = preL L (chL ((ds.drop k).map (·.d)) b))) (fun _ _ _ _ _ _ v24 _ _ => ds.length - (intOf v24).toNat)
    case atStart => exact ⟨⟨⟨_, rfl⟩, ⟨_, rfl⟩, ⟨_, rfl⟩, ⟨_, rfl⟩, ⟨_, rfl⟩⟩, ⟨0, e, [], rfl, Nat.zero_le _, hide ⟨unhide HM0, unhide HVE, rfl, by
      rw [unhide HQ, List.drop_zero]
      unfold preL
      split
      · rename_i hz; rw [List.nil_append, ← hz]
      · rfl⟩⟩⟩
    case round =>
      clear HM0 HVE HQ
      obtain ⟨⟨⟨z1, rfl⟩, ⟨z2, rfl⟩, ⟨z3, rfl⟩, ⟨z4, rfl⟩, ⟨z5, rfl⟩⟩, ⟨k, b, L, rfl, hk, HI⟩⟩ := hrel
      by_cases hlt : k < ds.length
      · have s1 : decide ((k : Int) < (ds.length : Int)) = true := decide_eq_true (by omega)
        have s1' : (k : Int) < (ds.length : Int) := by omega
        obtain ⟨hm, hvb, hlk, hQ⟩ := unhide HI
        have hS := unhide HH wr hm.d
        have q0 := hS.c k hlt
        obtain ⟨hO, hT⟩ := hS.o k hlt
        obtain ⟨hd1, hd2⟩ := unhide HDS _ (mem_dl hlt)
        obtain ⟨a5, c5, hv5, i5, l5⟩ := own_isOC hm.b
        have HBO := hide (BothR_at (ds.getD k dlZ).a (ds.getD k dlZ).c (ds.getD k dlZ).d a5 c5 b wr ⟨hO.below hm.d (Nat.le_refl _), hd2⟩ ⟨i5, l5⟩ hT (val_tl hvb) hd1 (by have := val_len hvb; omega))
        rw [drop_dl hlt, List.map_cons] at hQ
        simp only [chL] at hQ
        have HM := hide hm
        clear HI hS hO hT hd1 hd2 i5 l5 hm hk
        generalize ds.getD k dlZ = x at *
        obtain ⟨xa, xc, d⟩ := x
        dsimp only at q0 HBO hQ
        subst hv5
        by_cases hE : boE d b = 0
        · rw [if_pos hE, pre_pre] at hQ
          rw [hE] at HBO
          have hv2 : valB (boB d b) = true := by
            obtain ⟨_, o2, _, eB⟩ := bo_ok hE
            rw [eB]; exact o2.v
          have HQ2 := hide (And.intro hv2 hQ)
          clear hE hv2 hQ hvb
          generalize boA d b = XA at *
          generalize boB d b = YB at *
          go_wp2_with fail
          refine (unhide HBO).mono ?_
          rintro y w3 ⟨v2, v3, rfl, o2, o3, x3⟩
          dsimp only
          obtain ⟨a6, c6, rfl, _, _⟩ := own_isOC o2
          obtain ⟨a7, c7, rfl, _, _⟩ := own_isOC o3
          have hm3 := (unhide HM).on x3
          have hwl := (unhide HM).d.size
          obtain ⟨v', W', r2, m2⟩ := hm3.push (own_lower o2 hwl) (own_lower o3 hwl) (by omega)
          have R2 := hide r2
          have HM2 := hide m2
          clear HBO HM o2 o3 x3 hm3 hwl r2 m2 q0
          go_wp2_with (at_builtin; refine wpList_append_known rfl _ _ 57 57 rfl _ _ rfl rfl _ _ (unhide R2) ?_; clear R2)
          go_roundw
          case rel => exact ⟨⟨⟨_, rfl⟩, ⟨_, rfl⟩, ⟨_, rfl⟩, ⟨_, rfl⟩, ⟨_, rfl⟩⟩, ⟨k + 1, YB, L ++ [XA], by go_num, hlt, hide ⟨unhide HM2, (unhide HQ2).1, by simp [hlk], (unhide HQ2).2⟩⟩⟩
          case measure => simp [intOf]; omega
        · rw [if_neg hE] at hQ
          have hQ' : Q = (([], []), boE d b) := by rw [hQ]; unfold preL; rw [if_neg hE]
          have HQ2 := hide hQ'
          generalize boE d b = E at *
          have t1 : (E != 0) = true := by simpa using hE
          have t1' : (E == 0) = false := by simpa using hE
          clear hE hQ hQ' hvb
          go_wp2_with fail
          refine (unhide HBO).mono ?_
          rintro y w3 ⟨v2, v3, rfl, _, _, x3⟩
          dsimp only
          have HB := hide ((unhide HM).d.trans (x3.mono (unhide HM).d.size))
          clear HBO HM x3 q0
          go_wp2_with fail
          have hQ := unhide HQ2
          subst hQ
          refine bodyPost_ret (results_tmp3 rfl _ _) rfl ⟨_, _, rfl, ChM.nil _ _ (unhide HB)⟩
      · obtain rfl : k = ds.length := by omega
        have s1 : decide ((ds.length : Int) < (ds.length : Int)) = false := by simp
        obtain ⟨hm, _, _, hQ⟩ := unhide HI
        rw [List.drop_length] at hQ
        simp only [List.map_nil, chL] at hQ
        have hQ' : Q = ((b, L), 0) := by rw [hQ]; simp [preL]
        have HM := hide hm
        have HQ2 := hide hQ'
        clear HI hm hQ hQ' hk hlt
        go_wp2_with fail
        have hQ := unhide HQ2
        subst hQ
        refine bodyPost_ret (results_tmp3 rfl _ _) rfl ⟨_, _, rfl, unhide HM⟩
  · rw [if_neg hE] at hQ
    subst hQ
    dsimp only
    generalize lkE ds e = E at *
    have t1 : (E != 0) = true := by simpa using hE
    have t1' : (E == 0) = false := by simpa using hE
    clear h h' hl hl' hds hE
    go_enter Try.func28, Try.ntmps28
    go_wp2_with fail
    refine (unhide HLK).mono ?_
    rintro y w1 ⟨rfl, x1⟩
    dsimp only
    have HX1 := hide x1
    clear HLK x1
    go_wp2_with fail
    refine bodyPost_ret (results_tmp3 rfl _ _) rfl ⟨_, _, rfl, ChM.nil _ _ (unhide HX1)⟩

end Go.Proofs.Ytjjdgfjlpkhgcaa
end

section
namespace Go.Proofs.Ytjjdgfjlpkhgcaa
open Go.ChangeShapes Go.WideShapes Go.ChangeAt Go.RowKit
attribute [local go_sem] Oper.semAt_some

theorem ch_isDs {w X : World} {v1 v8 : Value} {b : List Dop} {L : List (List Dop)} (h : ChM w X v1 v8 b L) (hne : L ≠ []) (ht : ∀ d ∈ L, ∀ o ∈ d, o.t.length ≤ 140737488355328) : ∃ G c ds, v8 = .slice (some ⟨G, 0, none⟩) L.length c ∧ ds.map (·.d) = L ∧ IsDs X X G ds := by
  obtain ⟨vs, h1, h2, h3⟩ := h.l
  have hpos : 0 < L.length := List.length_pos_iff.2 hne
  obtain ⟨G, c, hv, hG, hlt⟩ := h1.form hpos
  have each : ∀ i, i < L.length → ∃ x : Dl, vs.getD i undef = .slice x.a x.d.length x.c ∧ x.d = L.getD i [] ∧ IsO X x.a x.d := fun i hi => by
    obtain ⟨a, c, e1, e2, _⟩ := own_isOC (h3 i hi)
    exact ⟨⟨a, c, L.getD i []⟩, e1, rfl, e2⟩
  let f : Nat → Dl := fun i => if hi : i < L.length then Classical.choose (each i hi) else dlZ
  have hf : ∀ i, i < L.length → vs.getD i undef = .slice (f i).a (f i).d.length (f i).c ∧ (f i).d = L.getD i [] ∧ IsO X (f i).a (f i).d := fun i hi => by
    have := Classical.choose_spec (each i hi)
    simp only [f, hi, dif_pos]
    exact this
  have hget : ∀ i, i < L.length → ((List.range L.length).map f).getD i dlZ = f i := fun i hi => by simp [List.getD, hi]
  refine ⟨G, c, (List.range L.length).map f, hv, ?_, ⟨fun i hi => ?_, fun i hi => ?_, hlt⟩⟩
  · apply List.ext_getElem?
    intro i
    rcases Nat.lt_or_ge i L.length with hi | hi
    · have := (hf i hi).2.1
      simp [hi, this, List.getD]
    · simp [hi]
  · have hi' : i < L.length := by simpa using hi
    rw [hget i hi', ← (hf i hi').1]
    rw [hv] at h1
    have hc := World.ownsRow.cells h1 rfl i (vs.getD i undef) (by simp [List.getD, List.getElem?_eq_getElem (show i < vs.length by omega)])
    rw [Addr.add_lit, Nat.zero_add] at hc
    exact hc
  · have hi' : i < L.length := by simpa using hi
    rw [hget i hi']
    refine ⟨(hf i hi').2.2, ?_⟩
    rw [(hf i hi').2.1]
    refine ht _ ?_
    simp [List.getD, List.getElem?_eq_getElem hi']
set_option maxRecDepth 100000 in
set_option maxHeartbeats 4000000 in
theorem RSameAll_at (G cc G' cc' : Nat) (ds ds' : List Dl) (w X : World) (h : IsDs w X G ds) (h' : IsDs w X G' ds') (hd : Below w.heap.size w X) (he : ds.map (·.d) = ds'.map (·.d)) (hl : ds.length ≤ 1099511627776) (hb : ∀ x ∈ ds, x.d.length ≤ 4611686018427387904 ∧ ∀ o ∈ x.d, TbD o) :
    Calls Try.prog 33 #[.slice (some ⟨G, 0, none⟩) ds.length cc, .slice (some ⟨G', 0, none⟩) ds'.length cc'] X fun y X' => y = .returned (.bool true) ∧ Below X.heap.size X X' := by
  have hlen : ds.length = ds'.length := by have := congrArg List.length he; simpa using this
  have HH := hide fun (Y : World) (hY : Below X.heap.size X Y) => h.on hY
  have HH' := hide fun (Y : World) (hY : Below X.heap.size X Y) => h'.on hY
  have HW := hide fun (Y : World) (hY : Below X.heap.size X Y) => hd.trans (hY.mono hd.size)
  have HE : Hid (∀ k, k < ds.length → (ds'.getD k dlZ).d = (ds.getD k dlZ).d) := hide fun k hk => by
    have h1 := congrArg (fun l => l[k]?) he
    simp [List.getElem?_eq_getElem hk, List.getElem?_eq_getElem (show k < ds'.length by omega)] at h1
    simp [List.getD, List.getElem?_eq_getElem hk, List.getElem?_eq_getElem (show k < ds'.length by omega), h1]
  have HB := hide hb
  rw [← hlen]
  have HLN := hide hlen
  clear h h' hd he hb hlen
  go_enter Try.func33, Try.ntmps33
  go_wp2_with fail
  go_loopw [5] (fun v5 wx => ∃ k : Nat, v5 = .int .i64 (k : Int) ∧ k ≤ ds.length ∧ Hid (Below X.heap.size X wx)) (fun v5 _ => ds.length - (intOf v5).toNat)
  case atStart => exact ⟨0, rfl, Nat.zero_le _, hide (Below.refl _ _)⟩
  case round =>
    obtain ⟨k, rfl, hk, HI⟩ := hrel
    by_cases hlt : k < ds.length
    · have s1 : decide ((k : Int) < (ds.length : Int)) = true := decide_eq_true (by omega)
      have s1' : (k : Int) < (ds.length : Int) := by omega
      have hlt' : k < ds'.length := by rw [← unhide HLN]; exact hlt
      have HSQ := hide fun (Y : World) (hY : Below X.heap.size X Y) => And.intro ((unhide HH Y hY).c k hlt) ((unhide HH' Y hY).c k hlt')
      have hBD := (unhide HI).drew
      have hO := ((unhide HH wr.drew hBD).o k hlt).1.below (unhide HW wr.drew hBD) (Nat.le_refl _)
      have hO' := ((unhide HH' wr.drew hBD).o k hlt').1.below (unhide HW wr.drew hBD) (Nat.le_refl _)
      have hdd := unhide HE k hlt
      obtain ⟨b1, b2⟩ := unhide HB _ (mem_dl hlt)
      rw [hdd] at hO' HSQ
      have HC1 := hide (RSame14_at (ds.getD k dlZ).a (ds.getD k dlZ).c (ds.getD k dlZ).d (ds'.getD k dlZ).a (ds'.getD k dlZ).c (ds.getD k dlZ).d wr.drew hO hO' b1 b1 b2 b2)
      simp only [decide_true] at HC1
      have HS0 := hide (unhide HSQ wr.drew hBD)
      have HBD := hide hBD
      clear hO hO' hdd b1 b2 hlt' hBD HI hk
      generalize ds.getD k dlZ = x at *
      generalize ds'.getD k dlZ = y at *
      obtain ⟨xa, xc, d⟩ := x
      obtain ⟨ya, yc, d2⟩ := y
      dsimp only at HSQ HC1 HS0
      go_upto_region 6 with fail
      refine regionL (S := fun w' => w'.cell? ⟨G, k, none⟩ = some (.slice xa d.length xc) ∧ w'.cell? ⟨G', k, none⟩ = some (.slice ya d.length yc)) (fun _ => false) (by kernel_rfl) ?_
      refine anyL_take (i := 0) (v := ?vrz0) rfl (by kernel_rfl) (by kernel_rfl) (by kernel_rfl) (by kernel_rfl) (fun _ _ _ h => h) (Or.inl ⟨by rfl, ?hrz0⟩) (unhide HS0) ?_
      case hrz0 => (intro w hSw; (try dsimp only at hSw); go_simp) <;> with_reducible rfl
      simp only [Act.put, List.getElem_toArray, List.getElem_cons_zero, List.setIfInBounds_toArray, List.set_cons_zero, List.set_cons_succ]
      refine anyL_take (i := 1) (v := ?vrz1) rfl (by kernel_rfl) (by kernel_rfl) (by kernel_rfl) (by kernel_rfl) (fun _ _ _ h => h) (Or.inl ⟨by rfl, ?hrz1⟩) (unhide HS0) ?_
      case hrz1 => (intro w hSw; (try dsimp only at hSw); go_simp) <;> with_reducible rfl
      simp only [Act.put, List.getElem_toArray, List.getElem_cons_zero, List.getElem_cons_succ, List.setIfInBounds_toArray, List.set_cons_zero, List.set_cons_succ]
      refine anyL_take (i := 2) (v := ?vrz2) rfl (by kernel_rfl) (by kernel_rfl) (by kernel_rfl) (by kernel_rfl) (fun _ _ _ h => h) (Or.inl ⟨by rfl, ?hrz2⟩) (unhide HS0) ?_
      case hrz2 => (intro w hSw; (try dsimp only at hSw); go_simp) <;> with_reducible rfl
      simp only [Act.put, List.getElem_toArray, List.getElem_cons_zero, List.getElem_cons_succ, List.setIfInBounds_toArray, List.set_cons_zero, List.set_cons_succ]
      refine anyL_take (i := 3) (v := ?vrz3) rfl (by kernel_rfl) (by kernel_rfl) (by kernel_rfl) (by kernel_rfl) (fun _ _ _ h => h) (Or.inl ⟨by rfl, ?hrz3⟩) (unhide HS0) ?_
      case hrz3 => (intro w hSw; (try dsimp only at hSw); go_simp) <;> with_reducible rfl
      simp only [Act.put, List.getElem_toArray, List.getElem_cons_zero, List.getElem_cons_succ, List.setIfInBounds_toArray, List.set_cons_zero, List.set_cons_succ]
      refine anyL_take (i := 4) (v := ?vrz4) rfl (by kernel_rfl) (by kernel_rfl) (by kernel_rfl) (by kernel_rfl) (fun _ _ _ h => h) (Or.inl ⟨by rfl, ?hrz4⟩) (unhide HS0) ?_
      case hrz4 => (intro w hSw; (try dsimp only at hSw); go_simp) <;> with_reducible rfl
      simp only [Act.put, List.getElem_toArray, List.getElem_cons_zero, List.getElem_cons_succ, List.setIfInBounds_toArray, List.set_cons_zero, List.set_cons_succ]
      refine anyL_take (i := 5) (v := ?vrz5) rfl (by kernel_rfl) (by kernel_rfl) (by kernel_rfl) (by kernel_rfl) (fun _ _ _ h => h) (Or.inl ⟨by rfl, ?hrz5⟩) (unhide HS0) ?_
      case hrz5 => (intro w hSw; (try dsimp only at hSw); go_simp) <;> with_reducible rfl
      simp only [Act.put, List.getElem_toArray, List.getElem_cons_zero, List.getElem_cons_succ, List.setIfInBounds_toArray, List.set_cons_zero, List.set_cons_succ]
      refine anyL_take (i := 6) (v := ?vrz6) rfl (by kernel_rfl) (by kernel_rfl) (by kernel_rfl) (by kernel_rfl) (fun _ _ _ h => h) (Or.inl ⟨by rfl, ?hrz6⟩) (unhide HS0) ?_
      case hrz6 => (intro w hSw; (try dsimp only at hSw); go_simp) <;> with_reducible rfl
      simp only [Act.put, List.getElem_toArray, List.getElem_cons_zero, List.getElem_cons_succ, List.setIfInBounds_toArray, List.set_cons_zero, List.set_cons_succ]
      refine anyL_take (i := 7) (v := ?vrz7) rfl (by kernel_rfl) (by kernel_rfl) (by kernel_rfl) (by kernel_rfl) (fun _ _ _ h => h) (Or.inl ⟨by rfl, ?hrz7⟩) (unhide HS0) ?_
      case hrz7 => (intro w hSw; (try dsimp only at hSw); go_simp) <;> with_reducible rfl
      simp only [Act.put, List.getElem_toArray, List.getElem_cons_zero, List.getElem_cons_succ, List.setIfInBounds_toArray, List.set_cons_zero, List.set_cons_succ]
      refine anyL_ready (rs := [8]) (by kernel_rfl) (by simp) ?_
      refine AllL.cons rfl (fun K hK => ?_) AllL.nil
      go_simp
      refine (unhide HC1).mono ?_
      rintro yy v1 ⟨rfl, x1⟩
      have HI1 := hide ((unhide HBD).trans (x1.mono (unhide HBD).size))
      have HS1 := hide (unhide HSQ v1 (unhide HI1))
      clear HC1 x1
      refine unhide hK _ _ (fun _ => unhide HS1) ?_
      clear hK K
      refine anyL_take (i := 9) (v := ?vrz8) rfl (by kernel_rfl) (by kernel_rfl) (by kernel_rfl) (by kernel_rfl) (fun _ _ _ h => h) (Or.inl ⟨by rfl, ?hrz8⟩) (unhide HS1) ?_
      case hrz8 => (intro w hSw; (try dsimp only at hSw); go_simp) <;> with_reducible rfl
      simp only [Act.put, List.getElem_toArray, List.getElem_cons_zero, List.getElem_cons_succ, List.setIfInBounds_toArray, List.set_cons_zero, List.set_cons_succ]
      refine anyL_done (by kernel_rfl) ?_ _
      clear HS0 HSQ HBD
      go_wp2_with fail
      go_roundw
      case rel => exact ⟨k + 1, by go_num, hlt, HI1⟩
      case measure => simp [intOf]; omega
    · obtain rfl : k = ds.length := by omega
      have s1 : decide ((ds.length : Int) < (ds.length : Int)) = false := by simp
      clear hk hlt
      go_wp2_with fail
      refine bodyPost_ret (results_tmp rfl _ _ _) rfl ⟨rfl, unhide HI⟩

end Go.Proofs.Ytjjdgfjlpkhgcaa
end

section
namespace Go.Proofs.Ytjjdgfjlpkhgcaa
open Go.ChangeShapes Go.WideShapes Go.ChangeAt Go.RowKit

theorem two_asc {P Q R : List Dop} (hP : valB P = true) (hQ : valB Q = true) (hR : valB R = true) (h1 : toD P = frD Q) (h2 : toD Q = frD R) : cmD (cmD P Q) R = cmD P (cmD Q R) := by
  have t1 := two_ok hP hQ h1
  have t2 := two_ok hQ hR h2
  have t3 := two_ok t1.v hR (by rw [t1.t]; exact h2)
  have t4 := two_ok hP t2.v (by rw [t2.f]; exact h1)
  rw [t3.d, t4.d]
  refine canA_congr ?_
  rw [t1.a, t2.a]
  have e1 : nfA (cmpA (nfA (cmpA (dA P) (dA Q))) (dA R)) = nfA (cmpA (cmpA (dA P) (dA Q)) (dA R)) := cmp_nf_left _ _
  have e2 : nfA (cmpA (dA P) (nfA (cmpA (dA Q) (dA R)))) = nfA (cmpA (dA P) (cmpA (dA Q) (dA R))) := cmp_nf_right _ _
  rw [e1, e2, cmp_assoc _ _ _ _ (Nat.le_refl _) t1.q t2.q]
/-- what holds between two rounds: all so far is 'one', b behind it is 'bk', and the other way round is 'two' -/
structure ChRd (one bk two : List Dop) : Prop where
  v : valB one = true
  vb : valB bk = true
  q : toD one = frD bk
  m : cmD one bk = two
theorem ChRd.two {one bk two : List Dop} (h : ChRd one bk two) : TwoD one bk ∧ cmE one bk = 0 ∧ cmD one bk = two ∧ valB two = true :=
  have t := two_ok h.v h.vb h.q
  ⟨t, t.e, h.m, by rw [← h.m]; exact t.v⟩
/-- the first delta -/
theorem ch_first {a b : List Dop} (h : boE a b = 0) : ChRd a (boB a b) (cmD b (boA a b)) ∧ cmE b (boA a b) = 0 ∧ valB (boA a b) = true := by
  obtain ⟨o1, o2, eA, eB⟩ := bo_ok h
  obtain ⟨t1, t2, hm⟩ := bo_meet h
  exact ⟨⟨o2.v1, by rw [eB]; exact o2.v, by rw [eB]; exact o2.fr.symm, hm⟩, t2.e, by rw [eA]; exact o1.v⟩
/-- one more -/
theorem ch_next {one bk two a : List Dop} (h : ChRd one bk two) (hE : boE a bk = 0) : ChRd (cmD one a) (boB a bk) (cmD two (boA a bk)) ∧ cmE one a = 0 ∧ cmE two (boA a bk) = 0 ∧ valB (boA a bk) = true := by
  obtain ⟨o1, o2, eA, eB⟩ := bo_ok hE
  obtain ⟨t1, t2, hm⟩ := bo_meet hE
  have vA : valB (boA a bk) = true := by rw [eA]; exact o1.v
  have vB : valB (boB a bk) = true := by rw [eB]; exact o2.v
  have fA : toD bk = frD (boA a bk) := by rw [eA]; exact o1.fr.symm
  have fB : toD a = frD (boB a bk) := by rw [eB]; exact o2.fr.symm
  have fa : toD one = frD a := by rw [h.q]; exact o2.q.symm
  have u1 := two_ok h.v o2.v1 fa
  have u2 := two_ok h.v h.vb h.q
  have u3 := two_ok u2.v vA (by rw [u2.t]; exact fA)
  rw [← h.m]
  refine ⟨⟨u1.v, vB, by rw [u1.t]; exact fB, ?_⟩, u1.e, u3.e, vA⟩
  rw [two_asc h.v o2.v1 vB fa fB, two_asc h.v h.vb vA h.q fA, hm]
/-- a chain that is taken, taken apart -/
theorem ch_cons {a : List Dop} {r : List (List Dop)} {b : List Dop} (h : (chL (a :: r) b).2 = 0) : boE a b = 0 ∧ (chL r (boB a b)).2 = 0 ∧ (chL (a :: r) b).1 = ((chL r (boB a b)).1.1, boA a b :: (chL r (boB a b)).1.2) := by
  simp only [chL] at h ⊢
  split at h
  · rename_i h1
    rw [if_pos h1]
    unfold preL at h ⊢
    by_cases h2 : (chL r (boB a b)).2 = 0
    · rw [if_pos h2]; exact ⟨h1, h2, rfl⟩
    · rw [if_neg h2] at h; exact absurd h h2
  · rename_i h1
    exact absurd h h1
theorem ch_len : ∀ (r : List (List Dop)) (b : List Dop), (chL r b).2 = 0 → (chL r b).1.2.length = r.length
  | [], _, _ => rfl
  | a :: r, b, h => by
    obtain ⟨_, h2, h3⟩ := ch_cons h
    rw [h3]
    simp [ch_len r _ h2]
/-- a chain that is refused answers nothing -/
theorem ch_no : ∀ (r : List (List Dop)) (b : List Dop), (chL r b).2 ≠ 0 → (chL r b).1 = ([], [])
  | [], _, h => absurd rfl h
  | a :: r, b, h => by
    simp only [chL] at h ⊢
    split
    · rename_i h1
      rw [if_pos h1] at h
      have h2 : (chL r (boB a b)).2 ≠ 0 := by
        intro h2
        unfold preL at h
        rw [if_pos h2] at h
        exact h rfl
      unfold preL
      rw [if_neg h2]
      exact ch_no r _ h2
    · rfl
theorem cn_no {ds : List Dl} {e : List Dop} (h : (cnQ ds e).2 ≠ 0) : (cnQ ds e).1 = ([], []) := by
  unfold cnQ at h ⊢
  split
  · rename_i h1
    rw [if_pos h1] at h
    exact ch_no _ _ h
  · rfl
theorem cn_ok {ds : List Dl} {e : List Dop} (h : (cnQ ds e).2 = 0) : lkE ds e = 0 ∧ cnQ ds e = chL (ds.map (·.d)) e := by
  unfold cnQ at h ⊢
  split at h
  · rename_i h1
    exact ⟨h1, by rw [if_pos h1]⟩
  · rename_i h1
    exact absurd h h1

end Go.Proofs.Ytjjdgfjlpkhgcaa
end
