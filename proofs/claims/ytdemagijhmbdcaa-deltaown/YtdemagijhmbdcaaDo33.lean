/- Layer 13: the document's Compose (written by wip/tools/drk.py). -/
import Derived.Test.YtdemagijhmbdcaaDo32

namespace Go.Proofs.Ytdemagijhmbdcaa
open Go.ChangeShapes Go.WideShapes Go.ChangeAt Go.RowKit
attribute [local go_sem] Oper.semAt_some

def lenV : Value → Nat
  | .slice _ n _ => n
  | _ => 0
/-- the list that is written, and the rest of a -/
structure CoM (w : World) (BR gR : Nat) (X : World) (v5 : Value) (a6 : Option Addr) (c6 : Nat) (r : List Dop) (acc : List Atm) : Prop where
  o : X.ownsRow BR 34 3 v5 (canA acc).length (opsV (canA acc))
  k : r = [] ∨ ∃ off, a6 = some ⟨gR, off, none⟩ ∧ IsRs w.heap.size X gR off r ∧ gR < BR
  c : r.length ≤ c6
  l : BR ≤ X.heap.size
  d : Below w.heap.size w X
theorem CoM.on {w : World} {BR gR : Nat} {X Y : World} {v5 : Value} {a6 : Option Addr} {c6 : Nat} {r : List Dop} {acc : List Atm} (h : CoM w BR gR X v5 a6 c6 r acc) (hb : Below X.heap.size X Y) : CoM w BR gR Y v5 a6 c6 r acc := by
  refine ⟨rowD_below h.o hb (Nat.le_refl _), ?_, h.c, by have := h.l; have := hb.size; omega, h.d.trans (hb.mono h.d.size)⟩
  rcases h.k with h1 | ⟨off, e, h1, h2⟩
  · exact .inl h1
  · exact .inr ⟨off, e, h1.same (hb.block gR h1.lt), h2⟩
theorem CoM.cut {w : World} {BR gR off : Nat} {X : World} {v5 : Value} {c6 : Nat} {o : Dop} {r : List Dop} {acc : List Atm} (h : CoM w BR gR X v5 (some ⟨gR, off, none⟩) c6 (o :: r) acc) : CoM w BR gR X v5 (if c6 = 1 then some ⟨gR, off, none⟩ else some ⟨gR, off + 3, none⟩) (c6 - 1) r acc := by
  have hc := h.c
  simp only [List.length_cons] at hc
  refine ⟨h.o, ?_, by omega, h.l, h.d⟩
  cases r with
  | nil => exact .inl rfl
  | cons q r' =>
    simp only [List.length_cons] at hc
    rcases h.k with h1 | ⟨off', e, h1, h2⟩
    · cases h1
    · cases e
      rw [if_neg (by omega)]
      exact .inr ⟨_, rfl, h1.tl, h2⟩
theorem CoM.set {w : World} {BR gR off : Nat} {X : World} {v5 : Value} {c6 : Nat} {o o' : Dop} {r : List Dop} {acc : List Atm} (h : CoM w BR gR X v5 (some ⟨gR, off, none⟩) c6 (o :: r) acc) (j : Nat) (u : Value) (hj : j < 3) (he : (opL o).set j u = opL o') : CoM w BR gR (X.setCell ⟨gR, off + j, none⟩ u) v5 (some ⟨gR, off, none⟩) c6 (o' :: r) acc := by
  have hl := h.l
  rcases h.k with h1 | ⟨off', e, h1, h2⟩
  · cases h1
  · cases e
    refine ⟨rowD_on h.o fun G hG => ?_, .inr ⟨off, rfl, h1.set j u hj he, h2⟩, h.c, by rw [setCell_size]; exact hl, h.d.setCell (p := ⟨gR, off + j, none⟩) h1.b u⟩
    have := (rowD_block h.o hG).1
    exact Below.heap_setCell X ⟨gR, off + j, none⟩ u G (show G ≠ gR by omega)
theorem CoM.add {w : World} {BR gR : Nat} {X : World} {v5 : Value} {a6 : Option Addr} {c6 : Nat} {r : List Dop} {acc : List Atm} (h : CoM w BR gR X v5 a6 c6 r acc) (ha : acc.length ≤ 536870912) (x : Dop) (hk : x.k = 1 ∨ x.k = 2 ∨ x.k = 3) (hn : x.k ≠ 2 → 1 ≤ x.n ∧ x.n ≤ 536870912) (ht : x.k = 2 → x.t ≠ [] ∧ x.t.length ≤ 536870912) :
    Calls Try.prog 51 #[v5, .int .i64 x.k, .int .i64 (if x.k = 2 then 0 else x.n), .string (strOfNums (if x.k = 2 then x.t else []))] X fun y X' => ∃ v', y = .returned v' ∧ CoM w BR gR X' v' a6 c6 r (acc ++ opA x) ∧ Below X.heap.size X X' := by
  obtain ⟨a5, c5, rfl, i5, l5⟩ := own_isOC h.o
  have e := add_op (u := acc) (x := x) hk (fun h2 => by have := hn h2; omega)
  have hno : ¬ noD x.k (if x.k = 2 then 0 else x.n) (if x.k = 2 then x.t else []) := fun q => by
    rcases q with ⟨q1, q2⟩ | ⟨q1, q2⟩
    · rw [if_pos q1] at q2; exact (ht q1).1 q2
    · rw [if_neg q1] at q2; have := (hn q1).1; omega
  have ok : AdOk (canA acc) (if x.k = 2 then 0 else x.n) (if x.k = 2 then x.t else []) := adok_feed (by omega) (by split <;> rename_i h2 <;> first | omega | (have := hn h2; omega)) (by split <;> rename_i h2 <;> first | (have := (ht h2).2; omega) | simp)
  refine (RAddG_at a5 c5 (canA acc) x.k _ _ X i5 l5 ok hno).mono fun y X' ⟨v', e1, o1, b1⟩ => ⟨v', e1, ?_, b1⟩
  have h2 := h.on b1
  have e2 : addD (canA acc) x.k (if x.k = 2 then 0 else x.n) (if x.k = 2 then x.t else []) = canA (acc ++ opA x) := e
  rw [e2] at o1
  exact ⟨own_lower o1 h.l, h2.k, h2.c, h2.l, h2.d⟩
theorem CoM.hd {w : World} {BR gR off : Nat} {X : World} {v5 : Value} {c6 : Nat} {o : Dop} {r : List Dop} {acc : List Atm} (h : CoM w BR gR X v5 (some ⟨gR, off, none⟩) c6 (o :: r) acc) : (X.cell? ⟨gR, off, none⟩ = some (.int .i64 o.k) ∧ X.cell? ⟨gR, off + 1, none⟩ = some (.int .i64 o.n) ∧ X.cell? ⟨gR, off + 2, none⟩ = some (.string (strOfNums o.t))) ∧ ∀ j, X.frozen? ⟨gR, j, none⟩ = false := by
  rcases h.k with h1 | ⟨off', e, h1, _⟩
  · cases h1
  · cases e; exact h1.hd
theorem runR_out (kt : Int) (s : Nat) (h : kt = 1 ∨ kt = 3) : opA (⟨kt, (s : Int), []⟩ : Dop) = outT 1 kt [] s := by
  rcases h with rfl | rfl <;> simp [opA, outT]
theorem CoK.allD {C : List Atm} {o : Dop} {r : List Dop} {acc : List Atm} (h : CoK C (o :: r) [] acc) : o.k = 3 := by
  have hP := (h.p o (by simp)).1
  have hq := h.q
  rw [dA_cons, to_app] at hq
  have h0 : frA [] = 0 := rfl
  rw [h0] at hq
  have hk := hP
  rcases hk with ⟨h1 | h1, h2, h3⟩ | ⟨h1, h2, h3⟩
  · rw [show opA o = List.replicate o.n.toNat .k by simp [opA, h1], (fr_rep_k _).2] at hq; omega
  · exact h1
  · rw [show opA o = o.t.map .p by simp [opA, h1], (fr_map_p _).2] at hq
    exact absurd (List.length_eq_zero_iff.1 (by omega)) h3
theorem CoK.cnt {C : List Atm} : ∀ {r : List Dop} {acc : List Atm}, CoK C r [] acc → r.length + acc.length ≤ C.length
  | [], _, h => by have := h.len; simp; exact this
  | o :: r, acc, h => by
    have h1 := (h.drop h.allD).cnt
    have h2 := (szO_k (h.p o (by simp)).1 (by rw [h.allD]; decide)).2.2
    simp only [List.length_cons, List.length_append, List.length_replicate] at h1 ⊢
    omega
theorem CoK.fin {C : List Atm} {acc : List Atm} (h : CoK C [] [] acc) : nfA acc = nfA C := by
  have := h.e
  rwa [show cmpA (dA []) [] = [] from rfl, List.append_nil] at this
theorem IsRs.nth {B : Nat} {X : World} {g off : Nat} {r : List Dop} (h : IsRs B X g off r) {k : Nat} (hk : k < r.length) : X.cell? ⟨g, off + k * 3, none⟩ = some (.int .i64 (r.getD k opZ).k) ∧ X.cell? ⟨g, off + k * 3 + 1, none⟩ = some (.int .i64 (r.getD k opZ).n) ∧ X.cell? ⟨g, off + k * 3 + 2, none⟩ = some (.string (strOfNums (r.getD k opZ).t)) := by
  obtain ⟨cs, h1, h2⟩ := h.c
  have e : ∀ j, j < 3 → X.cell? ⟨g, off + (k * 3 + j), none⟩ = (opL (r.getD k opZ))[j]? := fun j hj => by
    simp only [World.cell?, h1]
    rw [← opsV_get r k j hk hj]
    exact h2 (k * 3 + j) (by omega)
  exact ⟨e 0 (by decide), e 1 (by decide), e 2 (by decide)⟩
theorem take_okD {t : List Int} {s : Nat} (h1 : 1 ≤ s) (h2 : s ≤ t.length) (h3 : s ≤ 536870912) : t.take s ≠ [] ∧ (t.take s).length ≤ 536870912 := by
  have : (t.take s).length = s := by rw [List.length_take]; omega
  refine ⟨fun e => ?_, by omega⟩
  rw [e] at this
  simp at this
  omega
theorem drop_neD {t : List Int} {s : Nat} (h : s < t.length) : (t.drop s).isEmpty = false := by
  have : (t.drop s).length = t.length - s := List.length_drop
  cases hd : t.drop s with
  | nil => rw [hd] at this; simp at this; omega
  | cons a b => rfl
theorem outT_pk (t : List Int) (s : Nat) : outT 2 1 t s = t.map .p := rfl
theorem outT_pd (t : List Int) (s : Nat) : outT 2 3 t s = [] := rfl
set_option maxRecDepth 100000 in
set_option maxHeartbeats 8000000 in
theorem RComposeD_at (a : Option Addr) (c : Nat) (d : List Dop) (a' : Option Addr) (c' : Nat) (e : List Dop) (w : World) (h : IsO w a d) (h' : IsO w a' e) (hv : valB d = true) (hv' : valB e = true) (hf : toD d = frD e) :
    Calls Try.prog 20 #[.slice a d.length c, .slice a' e.length c'] w fun y w' => ∃ a2 c2, y = .returned (.slice a2 (cmD d e).length c2) ∧ IsO w' a2 (cmD d e) ∧ Below w.heap.size w w' := by
  have two := two_ok hv hv' hf
  obtain ⟨s1, s2, s3, s4⟩ := cmp_sizes hv hv' hf
  obtain ⟨C, hC⟩ : ∃ C, C = cmpA (dA d) (dA e) := ⟨_, rfl⟩
  have HCM : Hid (∀ acc, nfA acc = nfA C → canA acc = cmD d e) := hide fun acc hacc => by rw [two.d, ← hC]; exact canA_congr hacc
  have HK0 : Hid (CoK C d (dA (e.drop 0)) []) := hide ⟨by rw [hC]; rfl, s1, fun o ho => ⟨(val_rdK hv).p o ho, (val_rdK hv).s o ho⟩⟩
  have HCL : Hid (C.length ≤ 536870912) := hide (by rw [hC]; exact s4)
  have HVE := hide fun (o : Dop) (ho : o ∈ e) => And.intro ((val_rdK hv').p o ho) ((val_rdK hv').s o ho)
  have HO := hide fun (X : World) (hx : Below w.heap.size w X) => h'.below hx (Nat.le_refl _)
  have hel := val_len hv'
  have hdl := val_len hv
  obtain ⟨v6, w2, r2, o2, b2⟩ := copy_op w a c d 24 h h.some (by omega)
  obtain ⟨BR, hBR⟩ : ∃ BR, BR = w2.heap.size := ⟨_, rfl⟩
  have HM0 : Hid (∃ gR a6 c6, v6 = .slice a6 d.length c6 ∧ CoM w BR gR w2 (.slice none 0 0) a6 c6 d []) := hide (by
    rcases o2.2 with ⟨rfl, h0⟩ | ⟨g, cc, cur, rfl, hg, hcur, hn, _, hsz, htk⟩
    · obtain rfl : d = [] := List.length_eq_zero_iff.1 h0
      exact ⟨0, none, 0, rfl, World.ownsRow_nil _ _ _ _, .inl rfl, Nat.le_refl _, by omega, b2⟩
    · refine ⟨g, _, cc, rfl, World.ownsRow_nil _ _ _ _, .inr ⟨0, rfl, ⟨⟨cur, hcur, fun j hj => ?_⟩, hg⟩, by rw [hBR]; exact (Array.getElem?_eq_some_iff.1 hcur).1⟩, hn, by omega, b2⟩
      rw [← htk, Nat.zero_add, List.getElem?_take, if_pos hj]
      simp)
  have R2 := hide r2
  clear h h' hv hv' hf two s1 s2 s3 s4 hC r2 o2 b2 hBR
  obtain ⟨gR, a6, c6, hv6, hM0⟩ := unhide HM0
  subst hv6
  have HM := hide hM0
  clear HM0 hM0
  go_enter Try.func20, Try.ntmps20
  go_wp2_with (at_builtin; refine wpList_append_known rfl _ _ 24 24 rfl _ _ rfl rfl _ _ (unhide R2) ?_; clear R2)
  go_loopw [5, 6, 7, 8, 9, 10] (fun v5 v6 v7 v8 v9 v10 wx => ((∃ z, v8 = z) ∧ (∃ z, v9 = z) ∧ (∃ z, v10 = z)) ∧ (∃ (i c6 : Nat) (a6 : Option Addr) (r : List Dop) (acc : List Atm), v7 = .int .i64 (i : Int) ∧ v6 = .slice a6 r.length c6 ∧ i ≤ e.length ∧ Hid (CoM w BR gR wx v5 a6 c6 r acc ∧ CoK C r (dA (e.drop i)) acc))) (fun _ _ v7 _ _ _ _ => e.length - (intOf v7).toNat)
  case atStart => exact ⟨⟨⟨_, rfl⟩, ⟨_, rfl⟩, ⟨_, rfl⟩⟩, ⟨0, c6, a6, d, [], rfl, rfl, Nat.zero_le _, hide ⟨unhide HM, unhide HK0⟩⟩⟩
  case round =>
    clear HM HK0
    obtain ⟨⟨⟨z1, rfl⟩, ⟨z2, rfl⟩, ⟨z3, rfl⟩⟩, ⟨i, c6, a6, r, acc, rfl, rfl, hi, HI⟩⟩ := hrel
    by_cases hlt : i < e.length
    · have t1 : decide ((i : Int) < (e.length : Int)) = true := decide_eq_true (by omega)
      have t1' : (i : Int) < (e.length : Int) := by omega
      obtain ⟨g, off, hga, hg, q0, q1, q2⟩ := (unhide HO wr (unhide HI).1.d).three hlt
      have hpl := unhide HVE _ (getD_memD hlt)
      have hdr : e.drop i = e.getD i opZ :: e.drop (i + 1) := by
        rw [List.drop_eq_getElem_cons hlt]; simp [List.getD, List.getElem?_eq_getElem hlt]
      have hco := (unhide HI).2
      rw [hdr, dA_cons] at hco
      have hal : acc.length ≤ 536870912 := by have := hco.len; have := unhide HCL; omega
      have HXX : Hid (∀ X, Below w.heap.size w X → X.cell? ⟨g, off + i * 3, none⟩ = some (.int .i64 (e.getD i opZ).k) ∧ X.cell? ⟨g, off + i * 3 + 1, none⟩ = some (.int .i64 (e.getD i opZ).n) ∧ X.cell? ⟨g, off + i * 3 + 2, none⟩ = some (.string (strOfNums (e.getD i opZ).t))) := hide fun X hX => by
        obtain ⟨g2, o2, he, _, q0, q1, q2⟩ := (unhide HO X hX).three hlt
        rw [hga] at he
        cases he
        exact ⟨q0, q1, q2⟩
      subst hga
      have hsz := hpl.2
      have HPL := hide hpl.1
      clear hdr hpl hg hi
      generalize e.getD i opZ = x at *
      obtain ⟨xk, xn, xt⟩ := x
      dsimp only at q0 q1 q2 HXX
      by_cases hx2 : xk = 2
      · subst hx2
        obtain ⟨p1, p2, p3⟩ := szO_p (unhide HPL) rfl
        dsimp only at p1 p2 p3
        have eo : opA (⟨2, xn, xt⟩ : Dop) = xt.map .p := by simp [opA]
        rw [eo] at hco
        have HC1 := hide ((unhide HI).1.add hal ⟨2, 0, xt⟩ (.inr (.inl rfl)) (fun h => absurd rfl h) (fun _ => ⟨p3, by dsimp only; omega⟩))
        simp only [if_true] at HC1
        rw [show opA (⟨2, 0, xt⟩ : Dop) = xt.map .p by simp [opA]] at HC1
        have HK := hide hco.put
        clear HI hco eo p1 p2 p3 HPL hsz hal HXX
        generalize strOfNums xt = st at *
        go_wp2_with fail
        refine (unhide HC1).mono ?_
        rintro y v1 ⟨v', rfl, m1, _⟩
        dsimp only
        have HM1 := hide m1
        clear HC1 m1
        go_wp2_with fail
        go_roundw
        case rel => exact ⟨⟨⟨_, rfl⟩, ⟨_, rfl⟩, ⟨_, rfl⟩⟩, ⟨i + 1, c6, a6, r, acc ++ xt.map .p, by go_num, rfl, hlt, hide ⟨unhide HM1, unhide HK⟩⟩⟩
        case measure => simp [intOf]; omega
      · have s2 : (xk == 2) = false := by simpa using hx2
        obtain ⟨p1, p2, p3⟩ := szO_k (unhide HPL) hx2
        dsimp only at p1 p2 p3
        have hkt : xk = 1 ∨ xk = 3 := by rcases unhide HPL with ⟨h1, _⟩ | ⟨h1, _⟩; exact h1; exact absurd h1 hx2
        obtain ⟨n0, rfl⟩ : ∃ n0 : Nat, xn = (n0 : Int) := ⟨xn.toNat, by omega⟩
        have eo : opA (⟨xk, (n0 : Int), xt⟩ : Dop) = runR xk [] n0 := by
          rcases hkt with rfl | rfl <;> simp [opA, runR]
        rw [eo] at hco
        have hn0 : n0 ≤ 536870912 := by rw [p1] at hsz; simpa using hsz
        have HS := hide (And.intro (unhide HI).1 hco)
        have HKT := hide hkt
        clear HI hco eo p1 p2 p3 HPL hsz hal hkt
        go_wp2_with fail
        clear q0 q1 q2 s2
        go_loopw [5, 6, 8, 9, 10] (fun v5 v6 v8 v9 v10 wx => ((∃ z, v9 = z) ∧ (∃ z, v10 = z)) ∧ (∃ (n c6 : Nat) (a6 : Option Addr) (r : List Dop) (acc : List Atm), v8 = .int .i64 (n : Int) ∧ v6 = .slice a6 r.length c6 ∧ n ≤ 536870912 ∧ Hid (CoM w BR gR wx v5 a6 c6 r acc ∧ CoK C r (runR xk [] n ++ dA (e.drop (i + 1))) acc))) (fun _ v6 v8 _ _ _ => lenV v6 + (intOf v8).toNat)
        case atStart => exact ⟨⟨⟨_, rfl⟩, ⟨_, rfl⟩⟩, ⟨n0, c6, a6, r, acc, rfl, rfl, hn0, HS⟩⟩
        case round =>
          clear HS
          obtain ⟨⟨⟨z1, rfl⟩, ⟨z2, rfl⟩⟩, ⟨n, c6, a6, r, acc, rfl, rfl, hnb, HI⟩⟩ := hrel
          by_cases hn : 0 < n
          · have t2 : decide ((n : Int) > 0) = true := decide_eq_true (by omega)
            have t2' : decide ((0 : Int) < (n : Int)) = true := decide_eq_true (by omega)
            have t2'' : decide (0 < n) = true := decide_eq_true hn
            have hco := (unhide HI).2
            have hal : acc.length ≤ 536870912 := by have := hco.len; have := unhide HCL; omega
            obtain ⟨o, r', rfl⟩ : ∃ o r', r = o :: r' := by
              cases r with
              | nil =>
                have h1 := hco.q
                have h2 := run_sizes xk [] n (fun h => by have := unhide HKT; omega)
                rw [fr_app] at h1
                have h3 : toA (dA ([] : List Dop)) = 0 := rfl
                rcases unhide HKT with k1 | k1
                · have := (h2.1 k1).1; omega
                · have := (h2.2.2 k1).1; omega
              | cons o r' => exact ⟨o, r', rfl⟩
            obtain ⟨of6, ha6, hrs, hgR⟩ : ∃ off, a6 = some ⟨gR, off, none⟩ ∧ IsRs w.heap.size wr gR off (o :: r') ∧ gR < BR := by
              rcases (unhide HI).1.k with h1 | h1
              · cases h1
              · exact h1
            subst ha6
            obtain ⟨⟨c0, c1, c2⟩, fz⟩ := hrs.hd
            have hcl := (unhide HI).1.c
            have hpl := hco.p o (by simp)
            have hM0 := (unhide HI).1.on (Y := wr.alloc (.cells #[.int .i64 o.k, .int .i64 o.n, .string (strOfNums o.t)] 34)) ((Below.refl _ _).alloc (Nat.le_refl _) _)
            have HM0 := hide hM0
            have HCO := hide hco
            have kN := Cls.new wr 34 #[.int .i64 o.k, .int .i64 o.n, .string (strOfNums o.t)]
            have HKN := hide kN
            obtain ⟨d0, d1, d2⟩ := three_nwD wr (.int .i64 o.k) (.int .i64 o.n) (.string (strOfNums o.t)) (t := 34)
            have hlen : (o :: r').length = r'.length + 1 := rfl
            have hl1 : 0 < (o :: r').length := by simp
            have hl1' : (0 : Int) < ((o :: r').length : Int) := by rw [hlen]; omega
            clear HI hco hM0 kN hrs fz
            obtain ⟨ok, on, ot⟩ := o
            dsimp only at c0 c1 c2 d0 d1 d2 HKN
            by_cases hk3 : ok = 3
            · subst hk3
              obtain ⟨p1, p2, p3⟩ := szO_k hpl.1 (by dsimp only; decide)
              dsimp only at p1 p2 p3
              subst p2
              have hob : on ≤ 536870912 := by have := hpl.2; omega
              have HC1 := hide ((unhide HM0).add hal ⟨3, on, []⟩ (.inr (.inr rfl)) (fun _ => ⟨p3, hob⟩) (fun h => by cases h))
              simp only [show ¬ ((3 : Int) = 2) by decide, if_false] at HC1
              rw [show strOfNums [] = (⟨#[]⟩ : ByteArray) from rfl, show opA (⟨3, on, []⟩ : Dop) = List.replicate on.toNat .d by simp [opA]] at HC1
              have HK := hide ((unhide HCO).drop rfl)
              dsimp only at HK
              rw [show strOfNums [] = (⟨#[]⟩ : ByteArray) from rfl] at *
              clear HM0 HCO HKN hpl hal p1 p3 hob HXX HKT hgR
              go_upto_region 11 with fail
              clear c0 c1 c2
              generalize wr.alloc (.cells #[.int .i64 3, .int .i64 on, .string ⟨#[]⟩] 34) = v0 at *
              generalize wr.heap.size = gb at *
              go_wp2_with fail
              refine (unhide HC1).mono ?_
              rintro y v1 ⟨v', rfl, m1, _⟩
              dsimp only
              have HM1 := hide m1.cut
              clear HC1 m1 d0 d1 d2
              by_cases hc1 : c6 = 1
              · subst hc1
                obtain rfl : r' = [] := List.length_eq_zero_iff.1 (by simp only [List.length_cons] at hcl; omega)
                simp only [if_true, Nat.sub_self] at HM1
                simp only [List.length_cons, List.length_nil, Nat.zero_add] at *
                go_wp2_with fail
                go_roundw
                case rel => exact ⟨⟨⟨_, rfl⟩, ⟨_, rfl⟩⟩, ⟨n, 0, _, [], _, rfl, rfl, hnb, hide ⟨unhide HM1, unhide HK⟩⟩⟩
                case measure => simp [intOf, lenV]
              · simp only [if_neg hc1] at HM1
                rw [hlen] at *
                generalize hL : r'.length + 1 = L at *
                go_wp2_with fail
                go_roundw
                case rel => exact ⟨⟨⟨_, rfl⟩, ⟨_, rfl⟩⟩, ⟨n, c6 - 1, _, r', _, rfl, by rw [show L - 1 = r'.length by omega], hnb, hide ⟨unhide HM1, unhide HK⟩⟩⟩
                case measure => simp [intOf, lenV]; omega
            · have s3 : (ok == 3) = false := by simpa using hk3
              have hkk : ok = 1 ∨ ok = 2 := by rcases hpl.1 with ⟨h1 | h1, _⟩ | ⟨h1, _⟩ <;> dsimp only at h1 <;> omega
              have hSi := szO_i hpl.1
              have hSb := hpl.2
              obtain ⟨S, hS⟩ : ∃ S, S = szO (⟨ok, on, ot⟩ : Dop) := ⟨_, rfl⟩
              rw [← hS] at hSi hSb
              dsimp only at hSi
              have w14 : wrap64 (on + (ot.length : Int)) = (S : Int) := by rw [hSi.1]; exact wrapD _ (by omega) (by omega)
              have hsz := strOfNums_size ot
              obtain ⟨sv, hsv⟩ : ∃ sv, sv = min S n := ⟨_, rfl⟩
              have hsb : 1 ≤ sv ∧ sv ≤ S ∧ sv ≤ n := by omega
              have HK := hide ((unhide HCO).both hkk (unhide HKT) (s := sv) (by rw [hsv, hS]) hn)
              dsimp only at HK
              have w23 : wrap64 ((n : Int) - (sv : Int)) = ((n - sv : Nat) : Int) := by rw [wrapD _ (by omega) (by omega)]; omega
              have HW := hide (And.intro w14 w23)
              have HSI := hide hSi
              have HSE := hide hS
              have HPL := hide hpl.1
              have HSV := hide hsv
              have HSB := hide hsb
              clear HCO w14 w23 hSi hS hpl hsv hsb
              go_upto_region 11 with fail
              clear c0 c1 c2
              generalize hv0 : wr.alloc (.cells #[.int .i64 ok, .int .i64 on, .string (strOfNums ot)] 34) = v0 at *
              clear hv0
              generalize wr.heap.size = gb at *
              rcases hkk with rfl | rfl
              · obtain ⟨p1, p2, p3⟩ := szO_k (unhide HPL) (by dsimp only; decide)
                dsimp only at p1 p2 p3
                subst p2
                have hon : on = (S : Int) := by have := (unhide HSI).1; simpa using this.symm
                subst hon
                have HC1 := hide ((unhide HM0).add hal ⟨xk, (sv : Int), []⟩ (by have := unhide HKT; dsimp only; omega) (fun _ => by have := unhide HSB; dsimp only; omega) (fun h => by have := unhide HKT; dsimp only at h; omega))
                dsimp only at HC1
                rw [if_neg (by have := unhide HKT; omega), if_neg (by have := unhide HKT; omega), runR_out xk sv (unhide HKT)] at HC1
                simp only [List.take_nil] at HK
                rw [show strOfNums [] = (⟨#[]⟩ : ByteArray) from rfl] at *
                obtain ⟨z0, _, _⟩ := unhide HXX v0 (unhide HM0).d
                have HKN2 := hide fun (V : World) (hV : Below v0.heap.size v0 V) => (unhide HKN).below hV (unhide HKN).lt
                clear HM0 HXX HKN hal p1 p3 HPL
                by_cases hgt : n < S
                · obtain rfl : n = sv := by have := unhide HSV; omega
                  have g1 : decide ((S : Int) > (n : Int)) = true := decide_eq_true (by omega)
                  have g2 : decide ((n : Int) < (S : Int)) = true := decide_eq_true (by omega)
                  have g3 : decide (n < S) = true := decide_eq_true hgt
                  have HW19 : Hid (wrap64 ((S : Int) - (n : Int)) = ((S - n : Nat) : Int)) := hide (by have := hSb; rw [wrapD _ (by omega) (by omega)]; omega)
                  have HG5 : Hid ((((S - n : Nat) : Int) == 0) = false) := hide (by simp; omega)
                  have HCR : Hid (cutR (⟨1, (S : Int), []⟩ : Dop) r' n = ⟨1, ((S - n : Nat) : Int), []⟩ :: r') := hide (by unfold cutR; rw [← unhide HSE, if_neg (by omega)]; simp only [cutO, if_true]; congr 2; omega)
                  rw [unhide HCR] at HK
                  have hfin : n - n ≤ 536870912 := by omega
                  have HNS : Hid (S ≤ n ∨ n < S) := hide (by omega)
                  have w14 : wrap64 (S : Int) = (S : Int) := wrapD _ (by omega) (by omega)
                  have w14' : wrap64 ((S : Int) + 0) = (S : Int) := by rw [Int.add_zero]; exact w14
                  clear HCR HSV HSB HSI HSE hgt s3 hsz hSb HNS
                  go_wp2_with fail
                  refine (unhide HC1).mono ?_
                  rintro y v1 ⟨v', rfl, m1, x1⟩
                  dsimp only
                  have kb := unhide HKN2 v1 x1
                  have e1 : v1.cell? ⟨gb, 1, none⟩ = some (.int .i64 (S : Int)) := kb.cell 1
                  obtain ⟨⟨y0, y1, y2⟩, yf⟩ := m1.hd
                  have yf1 := yf (of6 + 1)
                  have m2 := m1.set (o' := ⟨1, ((S - n : Nat) : Int), []⟩) 1 (.int .i64 ((S - n : Nat) : Int)) (by decide) rfl
                  obtain ⟨⟨n0', n1, n2⟩, _⟩ := m2.hd
                  have HN := hide (And.intro n0' (And.intro n1 n2))
                  have HM2 := hide m2
                  have w19 := unhide HW19
                  dsimp only at y0 y1 y2
                  clear HC1 m1 m2 x1 kb HKN2 d0 d1 d2 z0 n0' n1 n2 yf HW19 w14' g1 g2 g3
                  go_upto_region 23 with fail
                  generalize v1.setCell ⟨gR, of6 + 1, none⟩ (.int .i64 ((S - n : Nat) : Int)) = v2 at *
                  clear e1 y0 y1 y2 yf1
                  obtain ⟨n0', n1, n2⟩ := unhide HN
                  dsimp only at n0' n1 n2
                  rw [show strOfNums [] = (⟨#[]⟩ : ByteArray) from rfl] at n2
                  clear HN
                  have w23 := (unhide HW).2
                  clear HW
                  have g5 := unhide HG5
                  generalize S - n = Sn at *
                  go_wp2_with fail
                  go_roundw
                  case rel => exact ⟨⟨⟨_, rfl⟩, ⟨_, rfl⟩⟩, ⟨n - n, c6, _, ⟨1, (Sn : Int), []⟩ :: r', _, by first | rfl | rw [w23] | simp, rfl, hfin, hide ⟨unhide HM2, unhide HK⟩⟩⟩
                  case measure => simp [intOf, lenV]; omega
                · obtain rfl : S = sv := by have := unhide HSV; omega
                  have g1 : decide ((S : Int) > (n : Int)) = false := decide_eq_false (by omega)
                  have g2 : decide ((n : Int) < (S : Int)) = false := decide_eq_false (by omega)
                  have g3 : decide (n < S) = false := decide_eq_false hgt
                  have HW19 : Hid (wrap64 ((S : Int) - (S : Int)) = 0) := hide (by have := hSb; rw [wrapD _ (by omega) (by omega)]; omega)
                  have HCR : Hid (cutR (⟨1, (S : Int), []⟩ : Dop) r' S = r') := hide (by unfold cutR; rw [← unhide HSE, if_pos rfl])
                  rw [unhide HCR] at HK
                  have hfin : n - S ≤ 536870912 := by omega
                  have HNS : Hid (S ≤ n ∨ n < S) := hide (by omega)
                  have w14 : wrap64 (S : Int) = (S : Int) := wrapD _ (by omega) (by omega)
                  have w14' : wrap64 ((S : Int) + 0) = (S : Int) := by rw [Int.add_zero]; exact w14
                  clear HCR HSV HSB HSI HSE hgt s3 hsz hSb HNS
                  go_wp2_with fail
                  refine (unhide HC1).mono ?_
                  rintro y v1 ⟨v', rfl, m1, x1⟩
                  dsimp only
                  have kb := unhide HKN2 v1 x1
                  have e1 : v1.cell? ⟨gb, 1, none⟩ = some (.int .i64 (S : Int)) := kb.cell 1
                  obtain ⟨⟨y0, y1, y2⟩, yf⟩ := m1.hd
                  have yf1 := yf (of6 + 1)
                  have m2 := m1.set (o' := ⟨1, 0, []⟩) 1 (.int .i64 0) (by decide) rfl
                  obtain ⟨⟨n0', n1, n2⟩, _⟩ := m2.hd
                  have HN := hide (And.intro n0' (And.intro n1 n2))
                  have HM2 := hide m2
                  have w19 := unhide HW19
                  dsimp only at y0 y1 y2
                  clear HC1 m1 m2 x1 kb HKN2 d0 d1 d2 z0 n0' n1 n2 yf HW19 w14' g1 g2 g3
                  go_upto_region 23 with fail
                  generalize v1.setCell ⟨gR, of6 + 1, none⟩ (.int .i64 0) = v2 at *
                  clear e1 y0 y1 y2 yf1
                  obtain ⟨n0', n1, n2⟩ := unhide HN
                  dsimp only at n0' n1 n2
                  have hE0 := str_empD []
                  rw [List.isEmpty_nil] at hE0
                  generalize strOfNums [] = st0 at n2 hE0
                  clear HN
                  have w23 := (unhide HW).2
                  clear HW
                  have HM3 := hide (unhide HM2).cut
                  generalize hnS : n - S = nS at *
                  by_cases hc1 : c6 = 1
                  · subst hc1
                    obtain rfl : r' = [] := List.length_eq_zero_iff.1 (by simp only [List.length_cons] at hcl; omega)
                    simp only [if_true, Nat.sub_self] at HM3
                    simp only [List.length_cons, List.length_nil, Nat.zero_add] at *
                    go_wp2_with fail
                    go_roundw
                    case rel => exact ⟨⟨⟨_, rfl⟩, ⟨_, rfl⟩⟩, ⟨nS, 0, _, [], _, by first | rfl | rw [w23] | simp, rfl, hfin, hide ⟨unhide HM3, unhide HK⟩⟩⟩
                    case measure => simp [intOf, lenV]; omega
                  · simp only [if_neg hc1] at HM3
                    rw [hlen] at *
                    generalize hL : r'.length + 1 = L at *
                    go_wp2_with fail
                    go_roundw
                    case rel => exact ⟨⟨⟨_, rfl⟩, ⟨_, rfl⟩⟩, ⟨nS, c6 - 1, _, r', _, by first | rfl | rw [w23] | simp, by rw [show L - 1 = r'.length by omega], hfin, hide ⟨unhide HM3, unhide HK⟩⟩⟩
                    case measure => simp [intOf, lenV]; omega
              · obtain ⟨p1, p2, p3⟩ := szO_p (unhide HPL) rfl
                dsimp only at p1 p2 p3
                subst p2
                have hSl : S = ot.length := (unhide HSE).trans p1
                obtain ⟨z0, _, _⟩ := unhide HXX v0 (unhide HM0).d
                have HKN2 := hide fun (V : World) (hV : Below v0.heap.size v0 V) => (unhide HKN).below hV (unhide HKN).lt
                have hsz2 : (strOfNums ot).size = S := by rw [hsz, hSl]
                have w14 : wrap64 (S : Int) = (S : Int) := wrapD _ (by omega) (by omega)
                have w14' : wrap64 (0 + (S : Int)) = (S : Int) := by rw [Int.zero_add]; exact w14
                have hT : ot.take sv ≠ [] ∧ (ot.take sv).length ≤ 536870912 := take_okD (unhide HSB).1 (by rw [← hSl]; exact (unhide HSB).2.1) (Nat.le_trans (unhide HSB).2.1 hSb)
                clear HXX HKN HPL HSI p1 s3 hsz
                by_cases hgt : n < S
                · obtain rfl : n = sv := by rw [unhide HSV]; exact (Nat.min_eq_right (Nat.le_of_lt hgt)).symm
                  have g1 : decide ((S : Int) > (n : Int)) = true := decide_eq_true (Int.ofNat_lt.2 hgt)
                  have g2 : decide ((n : Int) < (S : Int)) = true := decide_eq_true (Int.ofNat_lt.2 hgt)
                  have g3 : decide (n < S) = true := decide_eq_true hgt
                  have HCR : Hid (cutR (⟨2, 0, ot⟩ : Dop) r' n = ⟨2, 0, ot.drop n⟩ :: r') := hide (by unfold cutR; rw [← unhide HSE, if_neg (Nat.ne_of_lt hgt)]; rfl)
                  rw [unhide HCR] at HK
                  have hy1 : (strOfNums ot).extract 0 n = strOfNums (ot.take n) := by rw [str_extract]; rfl
                  have hy2 : (strOfNums ot).extract n S = strOfNums (ot.drop n) := by rw [str_extract, List.take_of_length_le (by rw [List.length_drop, ← hSl]; exact Nat.le_refl _)]
                  have hE0 : (strOfNums (ot.drop n)).toList.isEmpty = false := by rw [str_empD]; exact drop_neD (by rw [← hSl]; exact hgt)
                  have hfin : n - n ≤ 536870912 := by rw [Nat.sub_self]; exact Nat.zero_le _
                  have hnS2 : n ≤ S := Nat.le_of_lt hgt
                  clear HCR HSV HSB HSE hSb hSl p3
                  rcases unhide HKT with rfl | rfl
                  · have HC1 := hide ((unhide HM0).add hal ⟨2, 0, ot.take n⟩ (.inr (.inl rfl)) (fun h => absurd rfl h) (fun _ => ⟨hT.1, hT.2⟩))
                    simp only [if_true] at HC1
                    rw [show opA (⟨2, 0, ot.take n⟩ : Dop) = (ot.take n).map .p by simp [opA]] at HC1
                    rw [outT_pk] at HK
                    clear HM0 hT
                    have HCL6 := hide hcl
                    go_upto_region 21 with fail
                    clear t1 t1' t2 t2' t2'' g1 g2 g3 w14 w14' hk3 hlt hel hdl hn0 hnb hal hcl
                    go_wp2_with fail
                    refine (unhide HC1).mono ?_
                    rintro y v1 ⟨v', rfl, m1, x1⟩
                    dsimp only
                    have kb := unhide HKN2 v1 x1
                    have e2 : v1.cell? ⟨gb, 2, none⟩ = some (.string (strOfNums ot)) := kb.cell 2
                    clear HC1 x1 kb d0 d1 d2 z0
                    obtain ⟨⟨y0, y1, y2⟩, yf⟩ := m1.hd
                    have yf2 := yf (of6 + 2)
                    have m2 := m1.set (o' := ⟨2, 0, ot.drop n⟩) 2 (.string (strOfNums (ot.drop n))) (by decide) rfl
                    obtain ⟨⟨n0', n1, n2⟩, _⟩ := m2.hd
                    have HN := hide (And.intro n0' (And.intro n1 n2))
                    have HM2 := hide m2
                    dsimp only at y0 y1 y2
                    clear m1 m2 HKN2 n0' n1 n2 yf
                    go_upto_region 23 with fail
                    generalize v1.setCell ⟨gR, of6 + 2, none⟩ (.string (strOfNums (ot.drop n))) = v2 at *
                    clear e2 y0 y1 y2 yf2 hy1 hy2
                    obtain ⟨n0', n1, n2⟩ := unhide HN
                    dsimp only at n0' n1 n2
                    clear HN
                    have w23 := (unhide HW).2
                    clear HW
                    generalize strOfNums (ot.drop n) = st0 at n2 hE0
                    clear hsz2
                    go_wp2_with fail
                    go_roundw
                    case rel => exact ⟨⟨⟨_, rfl⟩, ⟨_, rfl⟩⟩, ⟨n - n, c6, _, ⟨2, 0, ot.drop n⟩ :: r', _, by first | rfl | rw [w23] | simp, rfl, hfin, hide ⟨unhide HM2, unhide HK⟩⟩⟩
                    case measure => simp [intOf, lenV]; omega
                  · rw [outT_pd, List.append_nil] at HK
                    have m1 := unhide HM0
                    clear HM0 hT
                    obtain ⟨⟨y0, y1, y2⟩, yf⟩ := m1.hd
                    have yf2 := yf (of6 + 2)
                    have m2 := m1.set (o' := ⟨2, 0, ot.drop n⟩) 2 (.string (strOfNums (ot.drop n))) (by decide) rfl
                    obtain ⟨⟨n0', n1, n2⟩, _⟩ := m2.hd
                    have HN := hide (And.intro n0' (And.intro n1 n2))
                    have HM2 := hide m2
                    dsimp only at y0 y1 y2
                    clear m1 m2 HKN2 n0' n1 n2 yf
                    have HCL6 := hide hcl
                    go_upto_region 22 with fail
                    clear t1 t1' t2 t2' t2'' g1 g2 g3 w14 w14' hk3 hlt hel hdl hn0 hnb hal hcl
                    go_upto_region 23 with fail
                    generalize v0.setCell ⟨gR, of6 + 2, none⟩ (.string (strOfNums (ot.drop n))) = v2 at *
                    clear d0 d1 d2 z0 y0 y1 y2 yf2 hy1 hy2
                    obtain ⟨n0', n1, n2⟩ := unhide HN
                    dsimp only at n0' n1 n2
                    clear HN
                    have w23 := (unhide HW).2
                    clear HW
                    generalize strOfNums (ot.drop n) = st0 at n2 hE0
                    clear hsz2
                    go_wp2_with fail
                    go_roundw
                    case rel => exact ⟨⟨⟨_, rfl⟩, ⟨_, rfl⟩⟩, ⟨n - n, c6, _, ⟨2, 0, ot.drop n⟩ :: r', _, by first | rfl | rw [w23] | simp, rfl, hfin, hide ⟨unhide HM2, unhide HK⟩⟩⟩
                    case measure => simp [intOf, lenV]; omega
                · obtain rfl : S = sv := by rw [unhide HSV]; exact (Nat.min_eq_left (Nat.le_of_not_lt hgt)).symm
                  have g1 : decide ((S : Int) > (n : Int)) = false := decide_eq_false (fun h => hgt (Int.ofNat_lt.1 h))
                  have g2 : decide ((n : Int) < (S : Int)) = false := decide_eq_false (fun h => hgt (Int.ofNat_lt.1 h))
                  have g3 : decide (n < S) = false := decide_eq_false hgt
                  have HCR : Hid (cutR (⟨2, 0, ot⟩ : Dop) r' S = r') := hide (by unfold cutR; rw [← unhide HSE, if_pos rfl])
                  rw [unhide HCR] at HK
                  have hy1 : (strOfNums ot).extract 0 S = strOfNums (ot.take S) := by rw [str_extract]; rfl
                  have hy2 : (strOfNums ot).extract S S = strOfNums [] := by rw [str_extract, Nat.sub_self, List.take_zero]
                  have hE0 := str_empD []
                  rw [List.isEmpty_nil] at hE0
                  have hfin : n - S ≤ 536870912 := Nat.le_trans (Nat.sub_le _ _) hnb
                  have hnS2 : S ≤ S := Nat.le_refl _
                  clear HCR HSV HSB HSE hSb hSl p3 hgt
                  rcases unhide HKT with rfl | rfl
                  · have HC1 := hide ((unhide HM0).add hal ⟨2, 0, ot.take S⟩ (.inr (.inl rfl)) (fun h => absurd rfl h) (fun _ => ⟨hT.1, hT.2⟩))
                    simp only [if_true] at HC1
                    rw [show opA (⟨2, 0, ot.take S⟩ : Dop) = (ot.take S).map .p by simp [opA]] at HC1
                    rw [outT_pk] at HK
                    clear HM0 hT
                    have HCL6 := hide hcl
                    go_upto_region 15 with fail
                    rw [w14]
                    go_upto_region 21 with fail
                    clear t1 t1' t2 t2' t2'' g1 g2 g3 w14 w14' hk3 hlt hel hdl hn0 hnb hal hcl
                    go_wp2_with fail
                    refine (unhide HC1).mono ?_
                    rintro y v1 ⟨v', rfl, m1, x1⟩
                    dsimp only
                    have kb := unhide HKN2 v1 x1
                    have e2 : v1.cell? ⟨gb, 2, none⟩ = some (.string (strOfNums ot)) := kb.cell 2
                    clear HC1 x1 kb d0 d1 d2 z0
                    obtain ⟨⟨y0, y1, y2⟩, yf⟩ := m1.hd
                    have yf2 := yf (of6 + 2)
                    have m2 := m1.set (o' := ⟨2, 0, []⟩) 2 (.string ByteArray.empty) (by decide) rfl
                    obtain ⟨⟨n0', n1, n2⟩, _⟩ := m2.hd
                    have HN := hide (And.intro n0' (And.intro n1 n2))
                    have HM2 := hide m2
                    dsimp only at y0 y1 y2
                    clear m1 m2 HKN2 n0' n1 n2 yf
                    go_upto_region 23 with fail
                    generalize v1.setCell ⟨gR, of6 + 2, none⟩ (.string ByteArray.empty) = v2 at *
                    clear e2 y0 y1 y2 yf2 hy1 hy2
                    obtain ⟨n0', n1, n2⟩ := unhide HN
                    dsimp only at n0' n1 n2
                    clear HN
                    have w23 := (unhide HW).2
                    clear HW
                    generalize strOfNums [] = st0 at n2 hE0
                    have HM3 := hide (unhide HM2).cut
                    generalize hnS : n - S = nS at *
                    clear hsz2
                    by_cases hc1 : c6 = 1
                    · subst hc1
                      obtain rfl : r' = [] := List.length_eq_zero_iff.1 (by have hcl := unhide HCL6; simp only [List.length_cons] at hcl; omega)
                      simp only [if_true, Nat.sub_self] at HM3
                      simp only [List.length_cons, List.length_nil, Nat.zero_add] at *
                      go_wp2_with fail
                      go_roundw
                      case rel => exact ⟨⟨⟨_, rfl⟩, ⟨_, rfl⟩⟩, ⟨nS, 0, _, [], _, by first | rfl | rw [w23] | simp, rfl, hfin, hide ⟨unhide HM3, unhide HK⟩⟩⟩
                      case measure => simp [intOf, lenV]; omega
                    · simp only [if_neg hc1] at HM3
                      rw [hlen] at *
                      generalize hL : r'.length + 1 = L at *
                      go_wp2_with fail
                      go_roundw
                      case rel => exact ⟨⟨⟨_, rfl⟩, ⟨_, rfl⟩⟩, ⟨nS, c6 - 1, _, r', _, by first | rfl | rw [w23] | simp, by rw [show L - 1 = r'.length by omega], hfin, hide ⟨unhide HM3, unhide HK⟩⟩⟩
                      case measure => simp [intOf, lenV]; omega
                  · rw [outT_pd, List.append_nil] at HK
                    have m1 := unhide HM0
                    clear HM0 hT
                    obtain ⟨⟨y0, y1, y2⟩, yf⟩ := m1.hd
                    have yf2 := yf (of6 + 2)
                    have m2 := m1.set (o' := ⟨2, 0, []⟩) 2 (.string ByteArray.empty) (by decide) rfl
                    obtain ⟨⟨n0', n1, n2⟩, _⟩ := m2.hd
                    have HN := hide (And.intro n0' (And.intro n1 n2))
                    have HM2 := hide m2
                    dsimp only at y0 y1 y2
                    clear m1 m2 HKN2 n0' n1 n2 yf
                    have HCL6 := hide hcl
                    go_upto_region 15 with fail
                    rw [w14]
                    go_upto_region 22 with fail
                    clear t1 t1' t2 t2' t2'' g1 g2 g3 w14 w14' hk3 hlt hel hdl hn0 hnb hal hcl
                    go_upto_region 23 with fail
                    generalize v0.setCell ⟨gR, of6 + 2, none⟩ (.string ByteArray.empty) = v2 at *
                    clear d0 d1 d2 z0 y0 y1 y2 yf2 hy1 hy2
                    obtain ⟨n0', n1, n2⟩ := unhide HN
                    dsimp only at n0' n1 n2
                    clear HN
                    have w23 := (unhide HW).2
                    clear HW
                    generalize strOfNums [] = st0 at n2 hE0
                    have HM3 := hide (unhide HM2).cut
                    generalize hnS : n - S = nS at *
                    clear hsz2
                    by_cases hc1 : c6 = 1
                    · subst hc1
                      obtain rfl : r' = [] := List.length_eq_zero_iff.1 (by have hcl := unhide HCL6; simp only [List.length_cons] at hcl; omega)
                      simp only [if_true, Nat.sub_self] at HM3
                      simp only [List.length_cons, List.length_nil, Nat.zero_add] at *
                      go_wp2_with fail
                      go_roundw
                      case rel => exact ⟨⟨⟨_, rfl⟩, ⟨_, rfl⟩⟩, ⟨nS, 0, _, [], _, by first | rfl | rw [w23] | simp, rfl, hfin, hide ⟨unhide HM3, unhide HK⟩⟩⟩
                      case measure => simp [intOf, lenV]; omega
                    · simp only [if_neg hc1] at HM3
                      rw [hlen] at *
                      generalize hL : r'.length + 1 = L at *
                      go_wp2_with fail
                      go_roundw
                      case rel => exact ⟨⟨⟨_, rfl⟩, ⟨_, rfl⟩⟩, ⟨nS, c6 - 1, _, r', _, by first | rfl | rw [w23] | simp, by rw [show L - 1 = r'.length by omega], hfin, hide ⟨unhide HM3, unhide HK⟩⟩⟩
                      case measure => simp [intOf, lenV]; omega
          · obtain rfl : n = 0 := by omega
            have HK := hide (unhide HI).2
            have HM1 := hide (unhide HI).1
            rw [show runR xk [] 0 ++ dA (e.drop (i + 1)) = dA (e.drop (i + 1)) by rcases unhide HKT with rfl | rfl <;> rfl] at HK
            clear HI HXX HKT
            go_wp2_with fail
            go_roundw
            case rel => exact ⟨⟨⟨_, rfl⟩, ⟨_, rfl⟩, ⟨_, rfl⟩⟩, ⟨i + 1, c6, a6, r, acc, by go_num, rfl, hlt, hide ⟨unhide HM1, unhide HK⟩⟩⟩
            case measure => simp [intOf]; omega
    · --@last
      obtain rfl : i = e.length := by omega
      have t1 : decide ((e.length : Int) < (e.length : Int)) = false := by simp
      have hk0 := (unhide HI).2
      rw [List.drop_length, show dA ([] : List Dop) = [] from rfl] at hk0
      have HS := hide (And.intro (unhide HI).1 hk0)
      have hrl : r.length ≤ 536870912 := by have := hk0.cnt; have := unhide HCL; omega
      clear HI hk0 hlt hi HVE HO
      go_upto_region 27 with fail
      go_loopw [5, 11] (fun v5 v11 wx => ∃ (j : Nat) (acc : List Atm), v11 = .int .i64 (j : Int) ∧ j ≤ r.length ∧ Hid (CoM w BR gR wx v5 a6 c6 r acc ∧ CoK C (r.drop j) [] acc)) (fun _ v11 _ => r.length - (intOf v11).toNat)
      case atStart => exact ⟨0, acc, rfl, Nat.zero_le _, HS⟩
      case round =>
        clear HS t1
        obtain ⟨j, acc, rfl, hj, HI⟩ := hrel
        by_cases hlj : j < r.length
        · have t2 : decide ((j : Int) < (r.length : Int)) = true := decide_eq_true (by omega)
          have t2' : (j : Int) < (r.length : Int) := by omega
          obtain ⟨of6, ha6, hrs, hgR⟩ : ∃ off, a6 = some ⟨gR, off, none⟩ ∧ IsRs w.heap.size wr gR off r ∧ gR < BR := by
            rcases (unhide HI).1.k with h1 | h1
            · rw [h1] at hlj; simp at hlj
            · exact h1
          subst ha6
          have hdr : r.drop j = r.getD j opZ :: r.drop (j + 1) := by
            rw [List.drop_eq_getElem_cons hlj]; simp [List.getD, List.getElem?_eq_getElem hlj]
          have hco := (unhide HI).2
          rw [hdr] at hco
          have hal : acc.length ≤ 536870912 := by have := hco.len; have := unhide HCL; omega
          have HSQ := hide fun (X : World) (hX : Below wr.heap.size wr X) => (hrs.same (hX.block gR hrs.lt)).nth hlj
          have hk3 := hco.allD
          have hpl := hco.p _ (List.mem_cons_self ..)
          have hm0 := (unhide HI).1.on (Below.refl wr.heap.size wr).drew
          clear hdr HI hrs
          generalize r.getD j opZ = x at *
          obtain ⟨xk, xn, xt⟩ := x
          dsimp only at hk3 HSQ
          subst hk3
          obtain ⟨p1, p2, p3⟩ := szO_k hpl.1 (by dsimp only; decide)
          dsimp only at p1 p2 p3
          subst p2
          have hob : xn ≤ 536870912 := by have := hpl.2; omega
          have HC1 := hide (hm0.add hal ⟨3, xn, []⟩ (.inr (.inr rfl)) (fun _ => ⟨p3, hob⟩) (fun h => by cases h))
          simp only [show ¬ ((3 : Int) = 2) by decide, if_false] at HC1
          rw [show opA (⟨3, xn, []⟩ : Dop) = List.replicate xn.toNat .d by simp [opA]] at HC1
          have HK := hide (hco.drop rfl)
          dsimp only at HK
          have HS0 := hide (unhide HSQ wr.drew (Below.refl wr.heap.size wr).drew)
          have HDD := hide (Below.refl wr.heap.size wr).drew
          clear hm0 hco hal hpl p1 p3 hob
          generalize strOfNums [] = st at *
          go_upto_region 29 with fail
          refine regionL (S := fun w' => w'.cell? ⟨gR, of6 + j * 3, none⟩ = some (.int .i64 3) ∧ w'.cell? ⟨gR, of6 + j * 3 + 1, none⟩ = some (.int .i64 xn) ∧ w'.cell? ⟨gR, of6 + j * 3 + 2, none⟩ = some (.string st)) (fun _ => false) (by kernel_rfl) ?_
          refine anyL_take (i := 0) (v := ?vrc0) rfl (by kernel_rfl) (by kernel_rfl) (by kernel_rfl) (by kernel_rfl) (fun _ _ _ h => h) (Or.inl ⟨by rfl, ?hrc0⟩) (unhide HS0) ?_
          case hrc0 => (intro w hSw; (try dsimp only at hSw); go_simp) <;> with_reducible rfl
          simp only [Act.put, List.getElem_toArray, List.getElem_cons_zero, List.setIfInBounds_toArray, List.set_cons_zero, List.set_cons_succ]
          refine anyL_take (i := 1) (v := ?vrc1) rfl (by kernel_rfl) (by kernel_rfl) (by kernel_rfl) (by kernel_rfl) (fun _ _ _ h => h) (Or.inl ⟨by rfl, ?hrc1⟩) (unhide HS0) ?_
          case hrc1 => (intro w hSw; (try dsimp only at hSw); go_simp) <;> with_reducible rfl
          simp only [Act.put, List.getElem_toArray, List.getElem_cons_zero, List.getElem_cons_succ, List.setIfInBounds_toArray, List.set_cons_zero, List.set_cons_succ]
          refine anyL_take (i := 2) (v := ?vrc2) rfl (by kernel_rfl) (by kernel_rfl) (by kernel_rfl) (by kernel_rfl) (fun _ _ _ h => h) (Or.inl ⟨by rfl, ?hrc2⟩) (unhide HS0) ?_
          case hrc2 => (intro w hSw; (try dsimp only at hSw); go_simp) <;> with_reducible rfl
          simp only [Act.put, List.getElem_toArray, List.getElem_cons_zero, List.getElem_cons_succ, List.setIfInBounds_toArray, List.set_cons_zero, List.set_cons_succ]
          refine anyL_take (i := 3) (v := ?vrc3) rfl (by kernel_rfl) (by kernel_rfl) (by kernel_rfl) (by kernel_rfl) (fun _ _ _ h => h) (Or.inl ⟨by rfl, ?hrc3⟩) (unhide HS0) ?_
          case hrc3 => (intro w hSw; (try dsimp only at hSw); go_simp) <;> with_reducible rfl
          simp only [Act.put, List.getElem_toArray, List.getElem_cons_zero, List.getElem_cons_succ, List.setIfInBounds_toArray, List.set_cons_zero, List.set_cons_succ]
          refine anyL_take (i := 4) (v := ?vrc4) rfl (by kernel_rfl) (by kernel_rfl) (by kernel_rfl) (by kernel_rfl) (fun _ _ _ h => h) (Or.inl ⟨by rfl, ?hrc4⟩) (unhide HS0) ?_
          case hrc4 => (intro w hSw; (try dsimp only at hSw); go_simp) <;> with_reducible rfl
          simp only [Act.put, List.getElem_toArray, List.getElem_cons_zero, List.getElem_cons_succ, List.setIfInBounds_toArray, List.set_cons_zero, List.set_cons_succ]
          refine anyL_take (i := 5) (v := ?vrc5) rfl (by kernel_rfl) (by kernel_rfl) (by kernel_rfl) (by kernel_rfl) (fun _ _ _ h => h) (Or.inl ⟨by rfl, ?hrc5⟩) (unhide HS0) ?_
          case hrc5 => (intro w hSw; (try dsimp only at hSw); go_simp) <;> with_reducible rfl
          simp only [Act.put, List.getElem_toArray, List.getElem_cons_zero, List.getElem_cons_succ, List.setIfInBounds_toArray, List.set_cons_zero, List.set_cons_succ]
          refine anyL_take (i := 6) (v := ?vrc6) rfl (by kernel_rfl) (by kernel_rfl) (by kernel_rfl) (by kernel_rfl) (fun _ _ _ h => h) (Or.inl ⟨by rfl, ?hrc6⟩) (unhide HS0) ?_
          case hrc6 => (intro w hSw; (try dsimp only at hSw); go_simp) <;> with_reducible rfl
          simp only [Act.put, List.getElem_toArray, List.getElem_cons_zero, List.getElem_cons_succ, List.setIfInBounds_toArray, List.set_cons_zero, List.set_cons_succ]
          refine anyL_take (i := 7) (v := ?vrc7) rfl (by kernel_rfl) (by kernel_rfl) (by kernel_rfl) (by kernel_rfl) (fun _ _ _ h => h) (Or.inl ⟨by rfl, ?hrc7⟩) (unhide HS0) ?_
          case hrc7 => (intro w hSw; (try dsimp only at hSw); go_simp) <;> with_reducible rfl
          simp only [Act.put, List.getElem_toArray, List.getElem_cons_zero, List.getElem_cons_succ, List.setIfInBounds_toArray, List.set_cons_zero, List.set_cons_succ]
          refine anyL_take (i := 8) (v := ?vrc8) rfl (by kernel_rfl) (by kernel_rfl) (by kernel_rfl) (by kernel_rfl) (fun _ _ _ h => h) (Or.inl ⟨by rfl, ?hrc8⟩) (unhide HS0) ?_
          case hrc8 => (intro w hSw; (try dsimp only at hSw); go_simp) <;> with_reducible rfl
          simp only [Act.put, List.getElem_toArray, List.getElem_cons_zero, List.getElem_cons_succ, List.setIfInBounds_toArray, List.set_cons_zero, List.set_cons_succ]
          refine anyL_take (i := 9) (v := ?vrc9) rfl (by kernel_rfl) (by kernel_rfl) (by kernel_rfl) (by kernel_rfl) (fun _ _ _ h => h) (Or.inl ⟨by rfl, ?hrc9⟩) (unhide HS0) ?_
          case hrc9 => (intro w hSw; (try dsimp only at hSw); go_simp) <;> with_reducible rfl
          simp only [Act.put, List.getElem_toArray, List.getElem_cons_zero, List.getElem_cons_succ, List.setIfInBounds_toArray, List.set_cons_zero, List.set_cons_succ]
          refine anyL_take (i := 10) (v := ?vrc10) rfl (by kernel_rfl) (by kernel_rfl) (by kernel_rfl) (by kernel_rfl) (fun _ _ _ h => h) (Or.inl ⟨by rfl, ?hrc10⟩) (unhide HS0) ?_
          case hrc10 => (intro w hSw; (try dsimp only at hSw); go_simp) <;> with_reducible rfl
          simp only [Act.put, List.getElem_toArray, List.getElem_cons_zero, List.getElem_cons_succ, List.setIfInBounds_toArray, List.set_cons_zero, List.set_cons_succ]
          refine anyL_take (i := 11) (v := ?vrc11) rfl (by kernel_rfl) (by kernel_rfl) (by kernel_rfl) (by kernel_rfl) (fun _ _ _ h => h) (Or.inl ⟨by rfl, ?hrc11⟩) (unhide HS0) ?_
          case hrc11 => (intro w hSw; (try dsimp only at hSw); go_simp) <;> with_reducible rfl
          simp only [Act.put, List.getElem_toArray, List.getElem_cons_zero, List.getElem_cons_succ, List.setIfInBounds_toArray, List.set_cons_zero, List.set_cons_succ]
          refine anyL_take (i := 12) (v := ?vrc12) rfl (by kernel_rfl) (by kernel_rfl) (by kernel_rfl) (by kernel_rfl) (fun _ _ _ h => h) (Or.inl ⟨by rfl, ?hrc12⟩) (unhide HS0) ?_
          case hrc12 => (intro w hSw; (try dsimp only at hSw); go_simp) <;> with_reducible rfl
          simp only [Act.put, List.getElem_toArray, List.getElem_cons_zero, List.getElem_cons_succ, List.setIfInBounds_toArray, List.set_cons_zero, List.set_cons_succ]
          refine anyL_take (i := 13) (v := ?vrc13) rfl (by kernel_rfl) (by kernel_rfl) (by kernel_rfl) (by kernel_rfl) (fun _ _ _ h => h) (Or.inl ⟨by rfl, ?hrc13⟩) (unhide HS0) ?_
          case hrc13 => (intro w hSw; (try dsimp only at hSw); go_simp) <;> with_reducible rfl
          simp only [Act.put, List.getElem_toArray, List.getElem_cons_zero, List.getElem_cons_succ, List.setIfInBounds_toArray, List.set_cons_zero, List.set_cons_succ]
          refine anyL_take (i := 14) (v := ?vrc14) rfl (by kernel_rfl) (by kernel_rfl) (by kernel_rfl) (by kernel_rfl) (fun _ _ _ h => h) (Or.inl ⟨by rfl, ?hrc14⟩) (unhide HS0) ?_
          case hrc14 => (intro w hSw; (try dsimp only at hSw); go_simp) <;> with_reducible rfl
          simp only [Act.put, List.getElem_toArray, List.getElem_cons_zero, List.getElem_cons_succ, List.setIfInBounds_toArray, List.set_cons_zero, List.set_cons_succ]
          refine anyL_take (i := 15) (v := ?vrc15) rfl (by kernel_rfl) (by kernel_rfl) (by kernel_rfl) (by kernel_rfl) (fun _ _ _ h => h) (Or.inl ⟨by rfl, ?hrc15⟩) (unhide HS0) ?_
          case hrc15 => (intro w hSw; (try dsimp only at hSw); go_simp) <;> with_reducible rfl
          simp only [Act.put, List.getElem_toArray, List.getElem_cons_zero, List.getElem_cons_succ, List.setIfInBounds_toArray, List.set_cons_zero, List.set_cons_succ]
          refine anyL_ready (rs := [16]) (by kernel_rfl) (by simp) ?_
          refine AllL.cons rfl (fun K hK => ?_) AllL.nil
          go_simp
          refine (unhide HC1).mono ?_
          rintro y v1 ⟨v', rfl, m1, x1⟩
          have HS1 := hide (unhide HSQ v1 ((unhide HDD).trans (x1.mono (unhide HDD).size)))
          have HM1 := hide m1
          clear HC1 m1 x1
          refine unhide hK _ _ (fun _ => unhide HS1) ?_
          clear hK K
          refine anyL_take (i := 17) (v := ?vrc16) rfl (by kernel_rfl) (by kernel_rfl) (by kernel_rfl) (by kernel_rfl) (fun _ _ _ h => h) (Or.inl ⟨by rfl, ?hrc16⟩) (unhide HS1) ?_
          case hrc16 => (intro w hSw; (try dsimp only at hSw); go_simp) <;> with_reducible rfl
          simp only [Act.put, List.getElem_toArray, List.getElem_cons_zero, List.getElem_cons_succ, List.setIfInBounds_toArray, List.set_cons_zero, List.set_cons_succ]
          refine anyL_done (by kernel_rfl) ?_ _
          clear HS0 HSQ
          go_wp2_with fail
          go_roundw
          case rel => exact ⟨j + 1, _, by go_num, hlj, hide ⟨unhide HM1, unhide HK⟩⟩
          case measure => simp [intOf]; omega
        · obtain rfl : j = r.length := by omega
          have t2 : decide ((r.length : Int) < (r.length : Int)) = false := by simp
          have hk := (unhide HI).2
          rw [List.drop_length] at hk
          have hcm := unhide HCM acc hk.fin
          have ho := (unhide HI).1.o
          rw [hcm] at ho
          obtain ⟨a5, c5, rfl, i5, _⟩ := own_isOC ho
          have HR := hide (And.intro i5 (unhide HI).1.d)
          clear HI hk hcm ho i5 hj hlj
          go_wp2_with fail
          refine bodyPost_ret (results_tmp rfl _ _ _) rfl ⟨_, _, rfl, (unhide HR).1, (unhide HR).2⟩

end Go.Proofs.Ytdemagijhmbdcaa
