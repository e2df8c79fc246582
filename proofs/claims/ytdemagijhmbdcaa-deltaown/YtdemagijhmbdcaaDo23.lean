/- Layer 13: plain: one delta's atoms behind the other's, run by run; the reader. -/
import Derived.Test.YtdemagijhmbdcaaDo20
import Derived.Test.YtdemagijhmbdcaaDo22
import Derived.Test.YtdemagijhmbdcaaDo08
import Derived.BigQuiet

namespace Go.Proofs.Ytdemagijhmbdcaa
open Go.ChangeShapes Go.WideShapes Go.ChangeAt Go.RowKit
attribute [local go_sem] Oper.semAt_some

theorem cmp_drops : ∀ (n : Nat) (a b : List Atm), cmpA (List.replicate n .d ++ a) b = List.replicate n .d ++ cmpA a b
  | 0, _, _ => by simp
  | n + 1, a, b => by rw [List.replicate_succ, List.cons_append, List.cons_append]; simp only [cmpA]; rw [cmp_drops n a b]
theorem cmp_puts : ∀ (t : List Int) (a b : List Atm), (∀ x, a.head? = some x → x ≠ .d) → cmpA a (t.map .p ++ b) = t.map .p ++ cmpA a b
  | [], _, _, _ => by simp
  | x :: t, a, b, h => by
    rw [List.map_cons, List.cons_append, List.cons_append, ← cmp_puts t a b h]
    cases a with
    | nil => simp only [cmpA, putsA]
    | cons y a => cases y with
      | d => exact absurd rfl (h _ rfl)
      | k => simp only [cmpA, thrA]
      | p z => simp only [cmpA, thrA]
theorem cmp_kk : ∀ (n : Nat) (a b : List Atm), cmpA (List.replicate n .k ++ a) (List.replicate n .k ++ b) = List.replicate n .k ++ cmpA a b
  | 0, _, _ => by simp
  | n + 1, a, b => by rw [List.replicate_succ, List.cons_append, List.cons_append, List.cons_append]; simp only [cmpA, thrA]; rw [cmp_kk n a b]
theorem cmp_kd : ∀ (n : Nat) (a b : List Atm), cmpA (List.replicate n .k ++ a) (List.replicate n .d ++ b) = List.replicate n .d ++ cmpA a b
  | 0, _, _ => by simp
  | n + 1, a, b => by rw [List.replicate_succ, List.replicate_succ, List.cons_append, List.cons_append, List.cons_append]; simp only [cmpA, thrA]; rw [cmp_kd n a b]
theorem cmp_pk : ∀ (t : List Int) (a b : List Atm), cmpA (t.map .p ++ a) (List.replicate t.length .k ++ b) = t.map .p ++ cmpA a b
  | [], _, _ => by simp
  | x :: t, a, b => by rw [List.map_cons, List.length_cons, List.replicate_succ, List.cons_append, List.cons_append, List.cons_append]; simp only [cmpA, thrA]; rw [cmp_pk t a b]
theorem cmp_pd : ∀ (t : List Int) (a b : List Atm), cmpA (t.map .p ++ a) (List.replicate t.length .d ++ b) = cmpA a b
  | [], _, _ => by simp
  | x :: t, a, b => by rw [List.map_cons, List.length_cons, List.replicate_succ, List.cons_append, List.cons_append]; simp only [cmpA, thrA]; rw [cmp_pd t a b]
theorem len_frto : ∀ u : List Atm, u.length ≤ frA u + toA u
  | [] => by simp
  | .k :: u => by have := len_frto u; simp only [List.length_cons, frA, toA]; omega
  | .d :: u => by have := len_frto u; simp only [List.length_cons, frA, toA]; omega
  | .p x :: u => by have := len_frto u; simp only [List.length_cons, frA, toA]; omega
theorem fr_rep_k : ∀ n, frA (List.replicate n .k) = n ∧ toA (List.replicate n .k) = n
  | 0 => ⟨rfl, rfl⟩
  | n + 1 => by have := fr_rep_k n; rw [List.replicate_succ]; simp only [frA, toA]; omega
theorem fr_rep_d : ∀ n, frA (List.replicate n .d) = n ∧ toA (List.replicate n .d) = 0
  | 0 => ⟨rfl, rfl⟩
  | n + 1 => by have := fr_rep_d n; rw [List.replicate_succ]; simp only [frA, toA]; omega
theorem fr_map_p : ∀ t : List Int, frA (t.map .p) = 0 ∧ toA (t.map .p) = t.length
  | [] => ⟨rfl, rfl⟩
  | x :: t => by have := fr_map_p t; rw [List.map_cons]; simp only [frA, toA, List.length_cons]; omega
theorem frA_dA : ∀ {d : List Dop}, (∀ o ∈ d, o.k = 1 ∨ o.k = 2 ∨ o.k = 3) → frA (dA d) = frD d ∧ toA (dA d) = toD d
  | [], _ => ⟨rfl, rfl⟩
  | o :: d, h => by
    have ih := frA_dA (d := d) (fun q hq => h q (by simp [hq]))
    have e1 : frD (o :: d) = frN o + frD d := by simp [frD]
    have e2 : toD (o :: d) = toN o + toD d := by simp [toD]
    rw [dA_cons, fr_app, to_app, e1, e2, ih.1, ih.2]
    rcases h o (by simp) with h1 | h1 | h1
    · have := fr_rep_k o.n.toNat; simp [opA, frN, toN, h1, this]
    · have := fr_map_p o.t; simp [opA, frN, toN, h1, this]
    · have := fr_rep_d o.n.toNat; simp [opA, frN, toN, h1, this]
/-- how many atoms an operation has -/
def szO (o : Dop) : Nat := (opA o).length
theorem szO_k {o : Dop} (h : Pln o) (hk : o.k ≠ 2) : szO o = o.n.toNat ∧ o.t = [] ∧ 1 ≤ o.n := by
  rcases h with ⟨h1 | h1, h2, h3⟩ | ⟨h1, _⟩
  · exact ⟨by simp [szO, opA, h1], h3, h2⟩
  · exact ⟨by simp [szO, opA, h1], h3, h2⟩
  · exact absurd h1 hk
theorem szO_p {o : Dop} (h : Pln o) (hk : o.k = 2) : szO o = o.t.length ∧ o.n = 0 ∧ o.t ≠ [] := by
  rcases h with ⟨h1, _⟩ | ⟨h1, h2, h3⟩
  · omega
  · exact ⟨by simp [szO, opA, h1], h2, h3⟩
theorem szO_i {o : Dop} (h : Pln o) : (szO o : Int) = o.n + o.t.length ∧ 1 ≤ szO o := by
  by_cases hk : o.k = 2
  · obtain ⟨h1, h2, h3⟩ := szO_p h hk
    have := List.length_pos_iff.2 h3
    omega
  · obtain ⟨h1, h2, h3⟩ := szO_k h hk
    rw [h2]; simp; omega
/-- what a reader has ahead -/
def remA (r : List Dop) (u : Nat) : List Atm := (dA r).drop u
structure RdK (r : List Dop) (u : Nat) : Prop where
  p : ∀ o ∈ r, Pln o
  s : ∀ o ∈ r, szO o ≤ 536870912
  u : (r = [] ∧ u = 0) ∨ ∃ o r', r = o :: r' ∧ u < szO o
def kdR : List Dop → Int
  | [] => 0
  | o :: _ => o.k
def lfR : List Dop → Nat → Nat
  | [], _ => 0
  | o :: _, u => szO o - u
def tkR : List Dop → Nat → Nat → List Dop × Nat
  | [], _, _ => ([], 0)
  | o :: r, u, n => if u + n = szO o then (r, 0) else (o :: r, u + n)
def txR : List Dop → Nat → Nat → List Int
  | [], _, _ => []
  | o :: _, u, n => if o.k = 2 then (o.t.drop u).take n else []
/-- the run of n atoms that comes next -/
def runR (k : Int) (t : List Int) (n : Nat) : List Atm := if k = 1 then List.replicate n .k else if k = 2 then t.map .p else List.replicate n .d
theorem rem_cons {o : Dop} {r : List Dop} {u : Nat} (h : u < szO o) : remA (o :: r) u = (opA o).drop u ++ dA r := by
  unfold remA szO at *
  rw [dA_cons, List.drop_append_of_le_length (by omega)]
theorem rem_run {o : Dop} {r : List Dop} {u n : Nat} (h : RdK (o :: r) u) (hn : 1 ≤ n ∧ n ≤ lfR (o :: r) u) : remA (o :: r) u = runR o.k (txR (o :: r) u n) n ++ remA (tkR (o :: r) u n).1 (tkR (o :: r) u n).2 ∧ RdK (tkR (o :: r) u n).1 (tkR (o :: r) u n).2 ∧ (o.k = 2 → (txR (o :: r) u n).length = n) := by
  obtain ⟨hp, hs, hu⟩ := h
  have hu' : u < szO o := by
    rcases hu with ⟨h, _⟩ | ⟨o', r', h, hlt⟩
    · cases h
    · cases h; exact hlt
  clear hu
  have hP := hp o (by simp)
  simp only [lfR] at hn
  rw [rem_cons hu']
  have e : (opA o).drop u = runR o.k (txR (o :: r) u n) n ++ (opA o).drop (u + n) := by
    by_cases hk : o.k = 2
    · obtain ⟨h1, h2, h3⟩ := szO_p hP hk
      simp only [opA, runR, txR, hk, show ¬ ((2 : Int) = 1) by decide, if_false, if_true]
      rw [← List.map_drop, ← List.map_drop, ← List.map_append]
      congr 1
      rw [← List.drop_drop, List.take_append_drop]
    · obtain ⟨h1, h2, h3⟩ := szO_k hP hk
      by_cases hk1 : o.k = 1
      · simp only [opA, runR, hk1, if_true, List.drop_replicate]
        rw [List.replicate_append_replicate]; congr 1; omega
      · simp only [opA, runR, hk1, hk, if_false, List.drop_replicate]
        rw [List.replicate_append_replicate]; congr 1; omega
  have e3 : o.k = 2 → (txR (o :: r) u n).length = n := fun hk => by
    obtain ⟨h1, h2, h3⟩ := szO_p hP hk
    simp only [txR, hk, if_true, List.length_take, List.length_drop]; omega
  rw [show tkR (o :: r) u n = if u + n = szO o then (r, 0) else (o :: r, u + n) from rfl]
  by_cases hc : u + n = szO o
  · rw [if_pos hc]
    refine ⟨?_, ⟨fun q hq => hp q (by simp [hq]), fun q hq => hs q (by simp [hq]), ?_⟩, e3⟩
    · rw [e, hc, show (opA o).drop (szO o) = [] by simp [szO], List.append_nil]; simp [remA]
    · dsimp only
      cases r with
      | nil => exact .inl ⟨rfl, rfl⟩
      | cons q r' => exact .inr ⟨q, r', rfl, by have := (szO_i (hp q (by simp))).2; omega⟩
  · rw [if_neg hc]
    refine ⟨?_, ⟨hp, hs, .inr ⟨o, r, rfl, by dsimp only; omega⟩⟩, e3⟩
    dsimp only
    rw [rem_cons (by omega), ← List.append_assoc, ← e]
theorem rdK_hd {o : Dop} {r : List Dop} {u : Nat} (h : RdK (o :: r) u) : u < szO o := by
  rcases h.u with ⟨h, _⟩ | ⟨o', r', h, hlt⟩
  · cases h
  · cases h; exact hlt
/-- a reader in memory: it reads operations that came in -/
structure IsRd (w X : World) (g : Nat) (r : List Dop) (u : Nat) : Prop where
  c : ∃ a c, Cls X g 83 #[.slice a r.length c, .int .i64 (u : Int)] ∧ IsO w a r ∧ r.length ≤ c
  z : w.heap.size ≤ g
  k : RdK r u
theorem IsRd.same {w X Y : World} {g : Nat} {r : List Dop} {u : Nat} (h : IsRd w X g r u) (hs : Y.heap[g]? = X.heap[g]?) : IsRd w Y g r u := by
  obtain ⟨a, c, h1, h2⟩ := h.c
  exact ⟨⟨a, c, h1.same hs, h2⟩, h.z, h.k⟩
theorem IsRd.lt {w X : World} {g : Nat} {r : List Dop} {u : Nat} (h : IsRd w X g r u) : g < X.heap.size := by obtain ⟨a, c, h1, _⟩ := h.c; exact h1.lt
theorem IsO.tail {W : World} {a : Option Addr} {c : Nat} {o : Dop} {r : List Dop} (h : IsO W a (o :: r)) (hc : (o :: r).length ≤ c) : IsO W (if c = 1 then a else a.map (·.add 3)) r := by
  cases r with
  | nil => exact .inl rfl
  | cons q r' =>
    rcases h with h | ⟨g, off, rfl, hg, hL⟩
    · cases h
    · simp only [List.length_cons] at hc
      rw [if_neg (by omega)]
      refine .inr ⟨g, off + 3, by simp [Addr.add_lit], hg, fun k hk => ?_⟩
      have := hL (k + 1) (by simpa using hk)
      simp only [List.getD_cons_succ] at this
      rw [show off + 3 + k * 3 = off + (k + 1) * 3 by omega]
      exact this
set_option maxRecDepth 100000 in
theorem rkind_at (w X : World) (g : Nat) (r : List Dop) (u : Nat) (h : IsRd w X g r u) (hd : Below w.heap.size w X) :
    Calls Try.prog 53 #[.pointer (some ⟨g, 0, none⟩)] X fun y X' => y = .returned (.int .i64 (kdR r)) ∧ X' = X := by
  obtain ⟨a, c, h1, h2, h3⟩ := h.c
  have c0 : X.cell? ⟨g, 0, none⟩ = some (.slice a r.length c) := h1.cell 0
  cases r with
  | nil =>
    simp only [kdR]
    clear h h1 h2 h3 hd
    go_enter Try.func53, Try.ntmps53
    go_wp2_with fail
    refine bodyPost_ret (results_tmp rfl _ _ _) rfl ⟨rfl, rfl⟩
  | cons o r' =>
    obtain ⟨ga, off, rfl, _, q0, q1, q2⟩ := (h2.below hd (Nat.le_refl _)).three (k := 0) (by simp)
    simp only [Nat.zero_mul, Nat.add_zero, List.getD_cons_zero] at q0 q1 q2
    have t1 : (((o :: r').length : Int) == 0) = false := by simp; omega
    have t2 : (((o :: r').length) == 0) = false := by simp
    have t3 : (0 : Int) < ((o :: r').length : Int) := by rw [List.length_cons]; omega
    have t4 : 0 < (o :: r').length := by simp
    simp only [kdR]
    clear h h1 h2 h3 hd q1 q2
    generalize (o :: r').length = N at *
    generalize o.k = ok at *
    go_enter Try.func53, Try.ntmps53
    go_wp2_with fail
    refine bodyPost_ret (results_tmp rfl _ _ _) rfl ⟨rfl, rfl⟩
set_option maxRecDepth 100000 in
theorem rleft_at (w X : World) (g : Nat) (a : Option Addr) (c : Nat) (o : Dop) (r : List Dop) (u : Nat) (h1 : Cls X g 83 #[.slice a (o :: r).length c, .int .i64 (u : Int)]) (h2 : IsO w a (o :: r)) (hp : Pln o) (hs : szO o ≤ 536870912) (hu : u ≤ szO o) (hd : Below w.heap.size w X) :
    Calls Try.prog 54 #[.pointer (some ⟨g, 0, none⟩)] X fun y X' => y = .returned (.int .i64 ((szO o - u : Nat) : Int)) ∧ ∃ n, X' = X.drewN n := by
  have c0 : X.cell? ⟨g, 0, none⟩ = some (.slice a (o :: r).length c) := h1.cell 0
  have c1 : X.cell? ⟨g, 1, none⟩ = some (.int .i64 (u : Int)) := h1.cell 1
  obtain ⟨ga, off, rfl, _, q0, q1, q2⟩ := (h2.below hd (Nat.le_refl _)).three (k := 0) (by simp)
  simp only [Nat.zero_mul, Nat.add_zero, List.getD_cons_zero] at q0 q1 q2
  have hz := (szO_i hp).1
  have hsz := strOfNums_size o.t
  have t3 : (0 : Int) < ((o :: r).length : Int) := by rw [List.length_cons]; omega
  have t4 : 0 < (o :: r).length := by simp
  obtain ⟨N, hN⟩ : ∃ N : Nat, N = szO o - u := ⟨_, rfl⟩
  have w1 : wrap64 (o.n + (o.t.length : Int)) = (szO o : Int) := by rw [← hz]; exact wrapD _ (by omega) (by omega)
  have w2 : wrap64 ((szO o : Int) - (u : Int)) = (N : Int) := by rw [hN, wrapD _ (by omega) (by omega)]; omega
  rw [← hN]
  clear h1 h2 hd q0 hz hp hs hu hN
  generalize (o :: r).length = L at *
  generalize o.n = on at *
  generalize o.t.length = ol at *
  generalize strOfNums o.t = st at *
  generalize szO o = S at *
  go_enter Try.func54, Try.ntmps54
  go_upto_region 1 with fail
  go_quiet (fail)
  go_wp2_with fail
  try rw [w2]
  refine bodyPost_ret (results_tmp rfl _ _ _) rfl ⟨rfl, _, rfl⟩

/-- what take leaves alone -/
def Alone (g : Nat) (X Y : World) : Prop := Below g X Y ∧ ∀ i, i ≠ g → Y.heap[i]? = X.heap[i]?
theorem Alone.refl (g : Nat) (X : World) : Alone g X X := ⟨Below.refl _ _, fun _ _ => rfl⟩
theorem Alone.drewN {g : Nat} {X Y : World} (h : Alone g X Y) (n : Nat) : Alone g X (Y.drewN n) := ⟨below_drewN h.1 n, fun i hi => by rw [← h.2 i hi]; exact (below_drewN (Below.refl (i + 1) Y) n).block i (by omega)⟩
theorem Alone.set {g : Nat} {X Y : World} (h : Alone g X Y) (j : Nat) (v : Value) : Alone g X (Y.setCell ⟨g, j, none⟩ v) := ⟨h.1.setCell (p := ⟨g, j, none⟩) (Nat.le_refl _) v, fun i hi => (Below.heap_setCell Y ⟨g, j, none⟩ v i hi).trans (h.2 i hi)⟩
theorem Alone.trans {g : Nat} {X Y Z : World} (h : Alone g X Y) (h' : Alone g Y Z) : Alone g X Z := ⟨h.1.trans h'.1, fun i hi => (h'.2 i hi).trans (h.2 i hi)⟩
set_option maxRecDepth 100000 in
set_option maxHeartbeats 2000000 in
theorem rtake_at (w X : World) (g : Nat) (o : Dop) (r : List Dop) (u n : Nat) (h : IsRd w X g (o :: r) u) (hn : 1 ≤ n ∧ n ≤ lfR (o :: r) u) (hd : Below w.heap.size w X) :
    Calls Try.prog 55 #[.pointer (some ⟨g, 0, none⟩), .int .i64 (n : Int)] X fun y X' => y = .returned (.string (strOfNums (txR (o :: r) u n))) ∧ IsRd w X' g (tkR (o :: r) u n).1 (tkR (o :: r) u n).2 ∧ Alone g X X' := by
  have hK := (rem_run h.k hn).2.1
  have HK := hide (rkind_at w X g (o :: r) u h hd)
  simp only [kdR] at HK
  have hz := h.z
  have hP := h.k.p o (by simp)
  have hS := h.k.s o (by simp)
  have hu := rdK_hd h.k
  simp only [lfR] at hn
  obtain ⟨a, c, h1, h2, h3⟩ := h.c
  obtain ⟨ga, off, rfl, _, _⟩ := h2.three (k := 0) (by simp)
  have h2t := h2.tail h3
  rw [Option.map_some, Addr.add_lit] at h2t
  have mid : ∀ Y, Alone g X Y → Cls Y g 83 #[.slice (some ⟨ga, off, none⟩) (o :: r).length c, .int .i64 (u : Int)] → Cls (Y.setCell ⟨g, 1, none⟩ (.int .i64 ((u + n : Nat) : Int))) g 83 #[.slice (some ⟨ga, off, none⟩) (o :: r).length c, .int .i64 ((u + n : Nat) : Int)] := fun Y _ hY => hY.set 1 _
  have HL := hide fun (Y : World) (hY : Cls Y g 83 #[.slice (some ⟨ga, off, none⟩) (o :: r).length c, .int .i64 ((u + n : Nat) : Int)]) (hb : Below w.heap.size w Y) => rleft_at w Y g (some ⟨ga, off, none⟩) c o r (u + n) hY h2 hP hS (by omega) hb
  have HEND : Hid (∀ Y, Cls Y g 83 #[.slice (some ⟨ga, off, none⟩) (o :: r).length c, .int .i64 ((u + n : Nat) : Int)] → (u + n = szO o → IsRd w ((Y.setCell ⟨g, 0, none⟩ (.slice (if c = 1 then some ⟨ga, off, none⟩ else some ⟨ga, off + 3, none⟩) ((o :: r).length - 1) (c - 1))).setCell ⟨g, 1, none⟩ (.int .i64 0)) g (tkR (o :: r) u n).1 (tkR (o :: r) u n).2) ∧ (¬ u + n = szO o → IsRd w Y g (tkR (o :: r) u n).1 (tkR (o :: r) u n).2)) := hide fun Y hY => by
    have e : tkR (o :: r) u n = if u + n = szO o then (r, 0) else (o :: r, u + n) := rfl
    rw [e] at hK ⊢
    constructor
    · intro hc
      rw [if_pos hc] at hK ⊢
      have k2 := (hY.set 0 (.slice (if c = 1 then some ⟨ga, off, none⟩ else some ⟨ga, off + 3, none⟩) ((o :: r).length - 1) (c - 1))).set 1 (.int .i64 0)
      refine ⟨⟨_, c - 1, ?_, h2t, by simp only [List.length_cons] at h3; dsimp only; omega⟩, hz, hK⟩
      simpa using k2
    · intro hc
      rw [if_neg hc] at hK ⊢
      exact ⟨⟨_, c, hY, h2, h3⟩, hz, hK⟩
  have HTX : Hid (∀ k2 : o.k = 2, txR (o :: r) u n = (o.t.drop u).take n) := hide fun k2 => by simp only [txR, k2, if_true]
  have HTN : Hid (∀ k2 : ¬ o.k = 2, txR (o :: r) u n = []) := hide fun k2 => by simp only [txR, k2, if_false]
  have HSZ : Hid (o.k = 2 → szO o = o.t.length) := hide fun k2 => (szO_p hP k2).1
  have HDX : Hid (∀ Y, Alone g X Y → Below w.heap.size w Y) := hide fun Y hY => hd.trans (hY.1.mono hz)
  have H1 := hide h1
  have HO := hide h2
  have e1 : wrap64 ((u : Int) + (n : Int)) = ((u + n : Nat) : Int) := by rw [wrapD _ (by omega) (by omega)]; omega
  have hc1 : (o :: r).length ≤ c := h3
  have hL1 : 1 ≤ (o :: r).length := by simp
  have HZT : Hid ((u + n = szO o → (((szO o - (u + n) : Nat) : Int) == 0) = true) ∧ (¬ u + n = szO o → (((szO o - (u + n) : Nat) : Int) == 0) = false)) := hide ⟨fun hc => by rw [hc, Nat.sub_self]; rfl, fun hc => by simp; omega⟩
  have hun : u + n ≤ szO o := by omega
  clear hK h h1 h2 h3 h2t hz hP hS hu hd hn
  generalize hU : u + n = un at *
  have hb2 : u ≤ un := by omega
  have HU := hide hU
  clear hU
  have HO3 := hide fun (Y : World) (hY : Below w.heap.size w Y) => ((unhide HO).below hY (Nat.le_refl _)).three (k := 0) (by simp)
  clear HO
  generalize (o :: r).length = L at *
  by_cases hk2 : o.k = 2
  · have t1 : (o.k == 2) = true := by simpa using hk2
    have hT := unhide HTX hk2
    have hS2 := unhide HSZ hk2
    have c0 : X.cell? ⟨g, 0, none⟩ = some (.slice (some ⟨ga, off, none⟩) L c) := (unhide H1).cell 0
    have c1 : X.cell? ⟨g, 1, none⟩ = some (.int .i64 (u : Int)) := (unhide H1).cell 1
    obtain ⟨ga', off', ha, _, q0, q1, q2⟩ := unhide HO3 X (unhide HDX X (Alone.refl _ _))
    cases ha
    simp only [Nat.zero_mul, Nat.add_zero, List.getD_cons_zero] at q0 q1 q2
    have hex : (strOfNums o.t).extract u un = strOfNums (txR (o :: r) u n) := by rw [str_extract, ← unhide HU, Nat.add_sub_cancel_left, hT]
    have hsz := strOfNums_size o.t
    have t3 : (0 : Int) < (L : Int) := by omega
    have t4 : 0 < L := by omega
    have b1 : un ≤ (strOfNums o.t).size := by omega
    clear hT hS2 HTX HTN HSZ q0 q1 hk2 HO3
    generalize strOfNums (txR (o :: r) u n) = sx at *
    generalize strOfNums o.t = st at *
    go_enter Try.func55, Try.ntmps55
    go_wp2_with fail
    refine (unhide HK).mono ?_
    rintro y X' ⟨rfl, hX⟩
    subst hX
    dsimp only
    clear HK
    go_upto_region 3 with fail
    go_quiet (fail)
    have HA2 := hide ((Alone.refl g X').drewN nq)
    have HC2 : Hid (Cls (X'.drewN nq) g 83 #[.slice (some ⟨ga, off, none⟩) L c, .int .i64 (u : Int)]) := hide ((unhide H1).below (below_drewN (Below.refl X'.heap.size X') nq) (unhide H1).lt)
    generalize X'.drewN nq = Y at *
    clear c0 c1 q2 hex hsz t3 t4 b1
    have c1' : Y.cell? ⟨g, 1, none⟩ = some (.int .i64 (u : Int)) := (unhide HC2).cell 1
    have f1' := (unhide HC2).frozen 1
    have HC3 := hide (mid Y (unhide HA2) (unhide HC2))
    have HA3 := hide ((unhide HA2).set 1 (.int .i64 (un : Int)))
    clear mid HC2 HA2
    go_upto_region 5 with fail
    generalize Y.setCell ⟨g, 1, none⟩ (.int .i64 (un : Int)) = Z at *
    clear c1' f1' e1
    have HL3 := hide (unhide HL Z (unhide HC3) (unhide HDX Z (unhide HA3)))
    clear HL
    go_wp2_with fail
    refine (unhide HL3).mono ?_
    rintro y Z' ⟨rfl, mq, rfl⟩
    dsimp only
    have HA4 := hide ((unhide HA3).drewN mq)
    have HC4 : Hid (Cls (Z.drewN mq) g 83 #[.slice (some ⟨ga, off, none⟩) L c, .int .i64 (un : Int)]) := hide ((unhide HC3).below (below_drewN (Below.refl Z.heap.size Z) mq) (unhide HC3).lt)
    clear HL3 HC3 HA3
    generalize Z.drewN mq = Z2 at *
    obtain ⟨hE1, hE2⟩ := unhide HEND Z2 (unhide HC4)
    by_cases hc : un = szO o
    · have t5 := (unhide HZT).1 hc
      have HR := hide (hE1 hc)
      have d0 : Z2.cell? ⟨g, 0, none⟩ = some (.slice (some ⟨ga, off, none⟩) L c) := (unhide HC4).cell 0
      have g0 := (unhide HC4).frozen 0
      have k2 := (unhide HC4).set 0 (.slice (if c = 1 then some ⟨ga, off, none⟩ else some ⟨ga, off + 3, none⟩) (L - 1) (c - 1))
      have d1 : (Z2.setCell ⟨g, 0, none⟩ (.slice (if c = 1 then some ⟨ga, off, none⟩ else some ⟨ga, off + 3, none⟩) (L - 1) (c - 1))).cell? ⟨g, 1, none⟩ = some (.int .i64 (un : Int)) := k2.cell 1
      have g1 := k2.frozen 1
      have HA5 := hide (((unhide HA4).set 0 (.slice (if c = 1 then some ⟨ga, off, none⟩ else some ⟨ga, off + 3, none⟩) (L - 1) (c - 1))).set 1 (.int .i64 0))
      clear hE1 hE2 HC4 HA4 k2 hc HEND HZT
      by_cases hc1' : c = 1
      · subst hc1'
        obtain rfl : L = 1 := by omega
        simp only [if_true, Nat.sub_self] at HR HA5 d1 g1
        go_wp2_with fail
        refine bodyPost_ret (results_tmp rfl _ _ _) rfl ⟨rfl, unhide HR, unhide HA5⟩
      · simp only [if_neg hc1'] at HR HA5 d1 g1
        go_wp2_with fail
        refine bodyPost_ret (results_tmp rfl _ _ _) rfl ⟨rfl, unhide HR, unhide HA5⟩
    · have t5 := (unhide HZT).2 hc
      have HR := hide (hE2 hc)
      clear hE1 hE2 HC4 hc HEND HZT
      go_wp2_with fail
      refine bodyPost_ret (results_tmp rfl _ _ _) rfl ⟨rfl, unhide HR, unhide HA4⟩
  · have t1 : (o.k == 2) = false := by simpa using hk2
    have hT := unhide HTN hk2
    have hse : strOfNums (txR (o :: r) u n) = (⟨#[]⟩ : ByteArray) := by rw [hT]; rfl
    rw [hse]
    have HA2 := hide (Alone.refl g X)
    have HC2 := H1
    clear hT HTX HTN HSZ hk2 HO3 hse
    go_enter Try.func55, Try.ntmps55
    go_wp2_with fail
    refine (unhide HK).mono ?_
    rintro y X' ⟨rfl, hX⟩
    subst hX
    dsimp only
    clear HK
    have c1' : X'.cell? ⟨g, 1, none⟩ = some (.int .i64 (u : Int)) := (unhide HC2).cell 1
    have f1' := (unhide HC2).frozen 1
    have HC3 := hide (mid X' (unhide HA2) (unhide HC2))
    have HA3 := hide ((unhide HA2).set 1 (.int .i64 (un : Int)))
    clear mid HC2 HA2
    go_upto_region 5 with fail
    generalize X'.setCell ⟨g, 1, none⟩ (.int .i64 (un : Int)) = Z at *
    clear c1' f1' e1
    have HL3 := hide (unhide HL Z (unhide HC3) (unhide HDX Z (unhide HA3)))
    clear HL
    go_wp2_with fail
    refine (unhide HL3).mono ?_
    rintro y Z' ⟨rfl, mq, rfl⟩
    dsimp only
    have HA4 := hide ((unhide HA3).drewN mq)
    have HC4 : Hid (Cls (Z.drewN mq) g 83 #[.slice (some ⟨ga, off, none⟩) L c, .int .i64 (un : Int)]) := hide ((unhide HC3).below (below_drewN (Below.refl Z.heap.size Z) mq) (unhide HC3).lt)
    clear HL3 HC3 HA3
    generalize Z.drewN mq = Z2 at *
    obtain ⟨hE1, hE2⟩ := unhide HEND Z2 (unhide HC4)
    by_cases hc : un = szO o
    · have t5 := (unhide HZT).1 hc
      have HR := hide (hE1 hc)
      have d0 : Z2.cell? ⟨g, 0, none⟩ = some (.slice (some ⟨ga, off, none⟩) L c) := (unhide HC4).cell 0
      have g0 := (unhide HC4).frozen 0
      have k2 := (unhide HC4).set 0 (.slice (if c = 1 then some ⟨ga, off, none⟩ else some ⟨ga, off + 3, none⟩) (L - 1) (c - 1))
      have d1 : (Z2.setCell ⟨g, 0, none⟩ (.slice (if c = 1 then some ⟨ga, off, none⟩ else some ⟨ga, off + 3, none⟩) (L - 1) (c - 1))).cell? ⟨g, 1, none⟩ = some (.int .i64 (un : Int)) := k2.cell 1
      have g1 := k2.frozen 1
      have HA5 := hide (((unhide HA4).set 0 (.slice (if c = 1 then some ⟨ga, off, none⟩ else some ⟨ga, off + 3, none⟩) (L - 1) (c - 1))).set 1 (.int .i64 0))
      clear hE1 hE2 HC4 HA4 k2 hc HEND HZT
      by_cases hc1' : c = 1
      · subst hc1'
        obtain rfl : L = 1 := by omega
        simp only [if_true, Nat.sub_self] at HR HA5 d1 g1
        go_wp2_with fail
        refine bodyPost_ret (results_tmp rfl _ _ _) rfl ⟨rfl, unhide HR, unhide HA5⟩
      · simp only [if_neg hc1'] at HR HA5 d1 g1
        go_wp2_with fail
        refine bodyPost_ret (results_tmp rfl _ _ _) rfl ⟨rfl, unhide HR, unhide HA5⟩
    · have t5 := (unhide HZT).2 hc
      have HR := hide (hE2 hc)
      clear hE1 hE2 HC4 hc HEND HZT
      go_wp2_with fail
      refine bodyPost_ret (results_tmp rfl _ _ _) rfl ⟨rfl, unhide HR, unhide HA4⟩

end Go.Proofs.Ytdemagijhmbdcaa
