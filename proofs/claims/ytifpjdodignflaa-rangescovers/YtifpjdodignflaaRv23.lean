/- Layer 13, the document's Lens. · Layer 13: plain: one delta's atoms behind the other's, run by run; the reader. -/
import Derived.Test.YtifpjdodignflaaRv22
import Derived.Test.YtifpjdodignflaaRv20
import Derived.Test.YtifpjdodignflaaRv05
import Derived.BigQuiet

section
namespace Go.Proofs.Ytifpjdodignflaa
open Go.ChangeShapes Go.WideShapes Go.ChangeAt Go.RowKit
attribute [local go_sem] Oper.semAt_some

theorem apL_kinds : ∀ (m : Int) (d : List Dop), apL m d = true → ∀ o ∈ d, o.k = 1 ∨ o.k = 2 ∨ o.k = 3
  | _, [], _, o, ho => by cases ho
  | m, x :: r, h, o, ho => by
    simp only [apL, Bool.and_eq_true] at h
    rcases List.mem_cons.1 ho with rfl | ho
    · rcases kind_cases o.k with h1 | h1 | h1 | ⟨_, _, _, _, _, _, h1⟩
      · exact .inl h1
      · exact .inr (.inl h1)
      · exact .inr (.inr h1)
      · rw [h1] at h; simp [apB] at h
    · exact apL_kinds _ r h.2 o ho
theorem valB_k {d : List Dop} (h : valB d = true) : ∀ o ∈ d, o.k = 1 ∨ o.k = 2 ∨ o.k = 3 := by
  unfold valB at h
  simp only [Bool.and_eq_true] at h
  exact apL_kinds 7 d h.2.1
/-- what a valid delta's operations are -/
theorem valB_op {d : List Dop} (h : valB d = true) {o : Dop} (ho : o ∈ d) : ((o.k = 1 ∨ o.k = 3) ∧ 1 ≤ o.n ∧ o.t = []) ∨ (o.k = 2 ∧ o.n = 0 ∧ o.t ≠ []) := by
  have hk := valB_k h o ho
  unfold valB at h
  simp only [Bool.and_eq_true] at h
  have hp := List.all_eq_true.1 h.1 o ho
  unfold plB at hp
  rcases hk with h1 | h1 | h1
  · simp [h1] at hp; exact .inl ⟨.inl h1, hp.2, hp.1⟩
  · simp [h1] at hp; exact .inr ⟨h1, hp.2, hp.1⟩
  · simp [h1] at hp; exact .inl ⟨.inr h1, hp.2, hp.1⟩
structure LeI (d : List Dop) (k f t : Nat) : Prop where
  ef : f = frD (d.take k)
  et : t = toD (d.take k)
  z : f ≤ 268435456 ∧ t ≤ 268435456
set_option maxRecDepth 100000 in
set_option maxHeartbeats 4000000 in
theorem RLens_at (a : Option Addr) (c : Nat) (d : List Dop) (w : World) (h : IsO w a d) (hl : d.length ≤ 4611686018427387904) (hv : valB d = true) :
    Calls Try.prog 44 #[.slice a d.length c] w fun y w' => y = .returned (.tuple #[.int .i64 (frD d : Int), .int .i64 (toD d : Int)]) ∧ Below w.heap.size w w' := by
  have HO := hide fun (X : World) (hx : Below w.heap.size w X) => h.below hx (Nat.le_refl _)
  have HV := hide hv
  obtain ⟨L, E, hL, hE⟩ : ∃ L E, L = frD d ∧ E = toD d := ⟨_, _, rfl, rfl⟩
  rw [← hL, ← hE]
  have HLE := hide (And.intro hL hE)
  clear h hv hL hE
  go_enter Try.func44, Try.ntmps44
  go_wp2_with fail
  go_loopw [4, 5, 6, 17] (fun v4 v5 v6 v17 wx => (∃ z, v17 = z) ∧ (∃ (k f t : Nat), v6 = .int .i64 (k : Int) ∧ v4 = .int .i64 (f : Int) ∧ v5 = .int .i64 (t : Int) ∧ k ≤ d.length ∧ Hid (LeI d k f t)) ∧ Hid (Below w.heap.size w wx)) (fun _ _ v6 _ _ => d.length - (intOf v6).toNat)
  case atStart => exact ⟨⟨_, rfl⟩, ⟨0, 0, 0, rfl, rfl, rfl, Nat.zero_le _, hide ⟨rfl, rfl, by omega⟩⟩, hide (Below.refl _ _)⟩
  case round =>
    obtain ⟨⟨z1, rfl⟩, ⟨k, f, t, rfl, rfl, rfl, hk, HI⟩, HB⟩ := hrel
    by_cases hlt : k < d.length
    · have t1 : decide ((k : Int) < (d.length : Int)) = true := decide_eq_true (by omega)
      obtain ⟨g, off, rfl, hg, c0, c1, c2⟩ := (unhide HO wr (unhide HB)).three hlt
      have hx := valB_op (unhide HV) (getD_memD hlt)
      have hz := (unhide HI).z
      have hz2 := (valB_nn (unhide HV)).2
      have hfr := frD_take d hlt
      have hto := toD_take d hlt
      have hle := frD_le d (k + 1)
      rw [← (unhide HI).ef] at hfr
      rw [← (unhide HI).et] at hto
      have HNX : Hid (∀ F T : Nat, F = frD (d.take (k + 1)) → T = toD (d.take (k + 1)) → F ≤ 268435456 ∧ T ≤ 268435456 → LeI d (k + 1) F T) := hide fun F T h1 h2 h3 => ⟨h1, h2, h3⟩
      clear HI hk
      generalize frD (d.take (k + 1)) = F' at *
      generalize toD (d.take (k + 1)) = T' at *
      generalize d.getD k opZ = x at *
      obtain ⟨xk, xn, xt⟩ := x
      dsimp only at c0 c1 c2 hx
      have hsz := strOfNums_size xt
      have HN2 := hide (unhide HNX F' T' rfl rfl (by omega))
      rcases hx with ⟨rfl | rfl, hn, rfl⟩ | ⟨rfl, rfl, hn⟩
      · obtain ⟨m, rfl⟩ : ∃ m : Nat, xn = (m : Int) := ⟨xn.toNat, by omega⟩
        rw [show frN ⟨1, (m : Int), []⟩ = m by simp [frN]] at hfr
        rw [show toN ⟨1, (m : Int), []⟩ = m by simp [toN]] at hto
        obtain ⟨w1, w2, w3⟩ := ca_k hz.1 (by omega) hfr
        obtain ⟨w4, w5, w6⟩ := ca_k hz.2 (by omega) hto
        clear hfr hto hz hz2 hle hn HNX hsz
        go_wp2_with fail
        go_roundw
        case rel => exact ⟨⟨_, rfl⟩, ⟨k + 1, F', T', by go_num, by first | rfl | rw [w1], by first | rfl | rw [w1] | rw [w4], hlt, HN2⟩, HB⟩
        case measure => simp [intOf]; omega
      · obtain ⟨m, rfl⟩ : ∃ m : Nat, xn = (m : Int) := ⟨xn.toNat, by omega⟩
        rw [show frN ⟨3, (m : Int), []⟩ = m by simp [frN]] at hfr
        rw [show toN ⟨3, (m : Int), []⟩ = 0 by simp [toN]] at hto
        obtain ⟨w1, w2, w3⟩ := ca_k hz.1 (by omega) hfr
        obtain rfl : T' = t := by omega
        clear hfr hto hz hz2 hle hn HNX hsz
        go_wp2_with fail
        go_roundw
        case rel => exact ⟨⟨_, rfl⟩, ⟨k + 1, F', T', by go_num, by first | rfl | rw [w1], by first | rfl | rw [w1] | rw [w4], hlt, HN2⟩, HB⟩
        case measure => simp [intOf]; omega
      · rw [show frN ⟨2, 0, xt⟩ = 0 by simp [frN]] at hfr
        rw [show toN ⟨2, 0, xt⟩ = xt.length by simp [toN]] at hto
        obtain rfl : F' = f := by omega
        obtain ⟨w1, w2, w3⟩ := ca_k hz.2 (by omega) hto
        clear hfr hto hz hz2 hle hn HNX
        go_wp2_with fail
        go_roundw
        case rel => exact ⟨⟨_, rfl⟩, ⟨k + 1, F', T', by go_num, by first | rfl | rw [w1], by first | rfl | rw [w1] | rw [w4], hlt, HN2⟩, HB⟩
        case measure => simp [intOf]; omega
    · obtain rfl : k = d.length := by omega
      have t1 : decide ((d.length : Int) < (d.length : Int)) = false := decide_eq_false (by omega)
      obtain ⟨rfl, rfl⟩ : f = L ∧ t = E := by
        have h1 := (unhide HI).ef
        have h2 := (unhide HI).et
        rw [List.take_length] at h1 h2
        exact ⟨h1.trans (unhide HLE).1.symm, h2.trans (unhide HLE).2.symm⟩
      clear HI hk
      go_wp2_with fail
      refine bodyPost_ret (results_tmp2 rfl _ _ _) rfl ⟨rfl, unhide HB⟩

end Go.Proofs.Ytifpjdodignflaa
end

section
namespace Go.Proofs.Ytifpjdodignflaa
open Go.ChangeShapes Go.WideShapes Go.ChangeAt Go.RowKit
attribute [local go_sem] Oper.semAt_some

theorem cmp_drops : ∀ (n : Nat) (a b : List Atm), cmpA (List.replicate n .d ++ a) b = List.replicate n .d ++ cmpA a b
  | 0, _, _ => by simp
  | n + 1, a, b => by rw [List.replicate_succ, List.cons_append, List.cons_append]; simp only [cmpA]; rw [cmp_drops n a b]
theorem cmp_puts : ∀ (t : List Int) (a b : List Atm), (∀ x, a.head? = some x → x ≠ .d) → cmpA a (t.map .p ++ b) = t.map .p ++ cmpA a b
  | [], _, _, _ => by simp
  | x :: t, a, b, h => by
    rw [List.map_cons, List.cons_append, List.cons_append, ← cmp_puts t a b h]
    cases a with
    | nil => simp only [cmpA, putsA]
    | cons y a => cases y with
      | d => exact absurd rfl (h _ rfl)
      | k => simp only [cmpA, thrA]
      | p z => simp only [cmpA, thrA]
theorem cmp_kk : ∀ (n : Nat) (a b : List Atm), cmpA (List.replicate n .k ++ a) (List.replicate n .k ++ b) = List.replicate n .k ++ cmpA a b
  | 0, _, _ => by simp
  | n + 1, a, b => by rw [List.replicate_succ, List.cons_append, List.cons_append, List.cons_append]; simp only [cmpA, thrA]; rw [cmp_kk n a b]
theorem cmp_kd : ∀ (n : Nat) (a b : List Atm), cmpA (List.replicate n .k ++ a) (List.replicate n .d ++ b) = List.replicate n .d ++ cmpA a b
  | 0, _, _ => by simp
  | n + 1, a, b => by rw [List.replicate_succ, List.replicate_succ, List.cons_append, List.cons_append, List.cons_append]; simp only [cmpA, thrA]; rw [cmp_kd n a b]
theorem cmp_pk : ∀ (t : List Int) (a b : List Atm), cmpA (t.map .p ++ a) (List.replicate t.length .k ++ b) = t.map .p ++ cmpA a b
  | [], _, _ => by simp
  | x :: t, a, b => by rw [List.map_cons, List.length_cons, List.replicate_succ, List.cons_append, List.cons_append, List.cons_append]; simp only [cmpA, thrA]; rw [cmp_pk t a b]
theorem cmp_pd : ∀ (t : List Int) (a b : List Atm), cmpA (t.map .p ++ a) (List.replicate t.length .d ++ b) = cmpA a b
  | [], _, _ => by simp
  | x :: t, a, b => by rw [List.map_cons, List.length_cons, List.replicate_succ, List.cons_append, List.cons_append]; simp only [cmpA, thrA]; rw [cmp_pd t a b]
theorem len_frto : ∀ u : List Atm, u.length ≤ frA u + toA u
  | [] => by simp
  | .k :: u => by have := len_frto u; simp only [List.length_cons, frA, toA]; omega
  | .d :: u => by have := len_frto u; simp only [List.length_cons, frA, toA]; omega
  | .p x :: u => by have := len_frto u; simp only [List.length_cons, frA, toA]; omega
theorem fr_rep_k : ∀ n, frA (List.replicate n .k) = n ∧ toA (List.replicate n .k) = n
  | 0 => ⟨rfl, rfl⟩
  | n + 1 => by have := fr_rep_k n; rw [List.replicate_succ]; simp only [frA, toA]; omega
theorem fr_rep_d : ∀ n, frA (List.replicate n .d) = n ∧ toA (List.replicate n .d) = 0
  | 0 => ⟨rfl, rfl⟩
  | n + 1 => by have := fr_rep_d n; rw [List.replicate_succ]; simp only [frA, toA]; omega
theorem fr_map_p : ∀ t : List Int, frA (t.map .p) = 0 ∧ toA (t.map .p) = t.length
  | [] => ⟨rfl, rfl⟩
  | x :: t => by have := fr_map_p t; rw [List.map_cons]; simp only [frA, toA, List.length_cons]; omega
theorem frA_dA : ∀ {d : List Dop}, (∀ o ∈ d, o.k = 1 ∨ o.k = 2 ∨ o.k = 3) → frA (dA d) = frD d ∧ toA (dA d) = toD d
  | [], _ => ⟨rfl, rfl⟩
  | o :: d, h => by
    have ih := frA_dA (d := d) (fun q hq => h q (by simp [hq]))
    have e1 : frD (o :: d) = frN o + frD d := by simp [frD]
    have e2 : toD (o :: d) = toN o + toD d := by simp [toD]
    rw [dA_cons, fr_app, to_app, e1, e2, ih.1, ih.2]
    rcases h o (by simp) with h1 | h1 | h1
    · have := fr_rep_k o.n.toNat; simp [opA, frN, toN, h1, this]
    · have := fr_map_p o.t; simp [opA, frN, toN, h1, this]
    · have := fr_rep_d o.n.toNat; simp [opA, frN, toN, h1, this]
/-- how many atoms an operation has -/
def szO (o : Dop) : Nat := (opA o).length
theorem szO_k {o : Dop} (h : Pln o) (hk : o.k ≠ 2) : szO o = o.n.toNat ∧ o.t = [] ∧ 1 ≤ o.n := by
  rcases h with ⟨h1 | h1, h2, h3⟩ | ⟨h1, _⟩
  · exact ⟨by simp [szO, opA, h1], h3, h2⟩
  · exact ⟨by simp [szO, opA, h1], h3, h2⟩
  · exact absurd h1 hk
theorem szO_p {o : Dop} (h : Pln o) (hk : o.k = 2) : szO o = o.t.length ∧ o.n = 0 ∧ o.t ≠ [] := by
  rcases h with ⟨h1, _⟩ | ⟨h1, h2, h3⟩
  · omega
  · exact ⟨by simp [szO, opA, h1], h2, h3⟩
theorem szO_i {o : Dop} (h : Pln o) : (szO o : Int) = o.n + o.t.length ∧ 1 ≤ szO o := by
  by_cases hk : o.k = 2
  · obtain ⟨h1, h2, h3⟩ := szO_p h hk
    have := List.length_pos_iff.2 h3
    omega
  · obtain ⟨h1, h2, h3⟩ := szO_k h hk
    rw [h2]; simp; omega
/-- what a reader has ahead -/
def remA (r : List Dop) (u : Nat) : List Atm := (dA r).drop u
structure RdK (r : List Dop) (u : Nat) : Prop where
  p : ∀ o ∈ r, Pln o
  s : ∀ o ∈ r, szO o ≤ 536870912
  u : (r = [] ∧ u = 0) ∨ ∃ o r', r = o :: r' ∧ u < szO o
def kdR : List Dop → Int
  | [] => 0
  | o :: _ => o.k
def lfR : List Dop → Nat → Nat
  | [], _ => 0
  | o :: _, u => szO o - u
def tkR : List Dop → Nat → Nat → List Dop × Nat
  | [], _, _ => ([], 0)
  | o :: r, u, n => if u + n = szO o then (r, 0) else (o :: r, u + n)
def txR : List Dop → Nat → Nat → List Int
  | [], _, _ => []
  | o :: _, u, n => if o.k = 2 then (o.t.drop u).take n else []
/-- the run of n atoms that comes next -/
def runR (k : Int) (t : List Int) (n : Nat) : List Atm := if k = 1 then List.replicate n .k else if k = 2 then t.map .p else List.replicate n .d
theorem rem_cons {o : Dop} {r : List Dop} {u : Nat} (h : u < szO o) : remA (o :: r) u = (opA o).drop u ++ dA r := by
  unfold remA szO at *
  rw [dA_cons, List.drop_append_of_le_length (by omega)]
theorem rem_run {o : Dop} {r : List Dop} {u n : Nat} (h : RdK (o :: r) u) (hn : 1 ≤ n ∧ n ≤ lfR (o :: r) u) : remA (o :: r) u = runR o.k (txR (o :: r) u n) n ++ remA (tkR (o :: r) u n).1 (tkR (o :: r) u n).2 ∧ RdK (tkR (o :: r) u n).1 (tkR (o :: r) u n).2 ∧ (o.k = 2 → (txR (o :: r) u n).length = n) := by
  obtain ⟨hp, hs, hu⟩ := h
  have hu' : u < szO o := by
    rcases hu with ⟨h, _⟩ | ⟨o', r', h, hlt⟩
    · cases h
    · cases h; exact hlt
  clear hu
  have hP := hp o (by simp)
  simp only [lfR] at hn
  rw [rem_cons hu']
  have e : (opA o).drop u = runR o.k (txR (o :: r) u n) n ++ (opA o).drop (u + n) := by
    by_cases hk : o.k = 2
    · obtain ⟨h1, h2, h3⟩ := szO_p hP hk
      simp only [opA, runR, txR, hk, show ¬ ((2 : Int) = 1) by decide, if_false, if_true]
      rw [← List.map_drop, ← List.map_drop, ← List.map_append]
      congr 1
      rw [← List.drop_drop, List.take_append_drop]
    · obtain ⟨h1, h2, h3⟩ := szO_k hP hk
      by_cases hk1 : o.k = 1
      · simp only [opA, runR, hk1, if_true, List.drop_replicate]
        rw [List.replicate_append_replicate]; congr 1; omega
      · simp only [opA, runR, hk1, hk, if_false, List.drop_replicate]
        rw [List.replicate_append_replicate]; congr 1; omega
  have e3 : o.k = 2 → (txR (o :: r) u n).length = n := fun hk => by
    obtain ⟨h1, h2, h3⟩ := szO_p hP hk
    simp only [txR, hk, if_true, List.length_take, List.length_drop]; omega
  rw [show tkR (o :: r) u n = if u + n = szO o then (r, 0) else (o :: r, u + n) from rfl]
  by_cases hc : u + n = szO o
  · rw [if_pos hc]
    refine ⟨?_, ⟨fun q hq => hp q (by simp [hq]), fun q hq => hs q (by simp [hq]), ?_⟩, e3⟩
    · rw [e, hc, show (opA o).drop (szO o) = [] by simp [szO], List.append_nil]; simp [remA]
    · dsimp only
      cases r with
      | nil => exact .inl ⟨rfl, rfl⟩
      | cons q r' => exact .inr ⟨q, r', rfl, by have := (szO_i (hp q (by simp))).2; omega⟩
  · rw [if_neg hc]
    refine ⟨?_, ⟨hp, hs, .inr ⟨o, r, rfl, by dsimp only; omega⟩⟩, e3⟩
    dsimp only
    rw [rem_cons (by omega), ← List.append_assoc, ← e]
theorem rdK_hd {o : Dop} {r : List Dop} {u : Nat} (h : RdK (o :: r) u) : u < szO o := by
  rcases h.u with ⟨h, _⟩ | ⟨o', r', h, hlt⟩
  · cases h
  · cases h; exact hlt
theorem IsO.tail {W : World} {a : Option Addr} {c : Nat} {o : Dop} {r : List Dop} (h : IsO W a (o :: r)) (hc : (o :: r).length ≤ c) : IsO W (if c = 1 then a else a.map (·.add 3)) r := by
  cases r with
  | nil => exact .inl rfl
  | cons q r' =>
    rcases h with h | ⟨g, off, rfl, hg, hL⟩
    · cases h
    · simp only [List.length_cons] at hc
      rw [if_neg (by omega)]
      refine .inr ⟨g, off + 3, by simp [Addr.add_lit], hg, fun k hk => ?_⟩
      have := hL (k + 1) (by simpa using hk)
      simp only [List.getD_cons_succ] at this
      rw [show off + 3 + k * 3 = off + (k + 1) * 3 by omega]
      exact this
/-- what take leaves alone -/
def Alone (g : Nat) (X Y : World) : Prop := Below g X Y ∧ ∀ i, i ≠ g → Y.heap[i]? = X.heap[i]?
theorem Alone.refl (g : Nat) (X : World) : Alone g X X := ⟨Below.refl _ _, fun _ _ => rfl⟩
theorem Alone.drewN {g : Nat} {X Y : World} (h : Alone g X Y) (n : Nat) : Alone g X (Y.drewN n) := ⟨below_drewN h.1 n, fun i hi => by rw [← h.2 i hi]; exact (below_drewN (Below.refl (i + 1) Y) n).block i (by omega)⟩
theorem Alone.set {g : Nat} {X Y : World} (h : Alone g X Y) (j : Nat) (v : Value) : Alone g X (Y.setCell ⟨g, j, none⟩ v) := ⟨h.1.setCell (p := ⟨g, j, none⟩) (Nat.le_refl _) v, fun i hi => (Below.heap_setCell Y ⟨g, j, none⟩ v i hi).trans (h.2 i hi)⟩
theorem Alone.trans {g : Nat} {X Y Z : World} (h : Alone g X Y) (h' : Alone g Y Z) : Alone g X Z := ⟨h.1.trans h'.1, fun i hi => (h'.2 i hi).trans (h.2 i hi)⟩
end Go.Proofs.Ytifpjdodignflaa
end
