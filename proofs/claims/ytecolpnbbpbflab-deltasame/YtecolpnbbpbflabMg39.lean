/- Layer 13: DeltaSame's walk (written by wip/tools/dsn.py). -/
import Derived.Test.YtecolpnbbpbflabMg37
import Derived.Test.YtecolpnbbpbflabMg38
import Derived.Deep.Upon
import Derived.Laws.OwnMore

namespace Go.Proofs.Ytecolpnbbpbflab
open Go.ChangeShapes Go.WideShapes Go.ChangeAt Go.RowKit
attribute [local go_sem] Oper.semAt_some

/-- append(v, e...): v a list of one's own -/
theorem app_op (w : World) (B : Nat) (v : Value) (d : List Dop) (a0 : Option Addr) (cap : Nat) (e : List Dop) (ty : TypeId) (hv : w.ownsRow B 39 3 v d.length (opsV d)) (h : IsO w a0 e) (hb : (d.length + e.length) * 32 ≤ 140737488355328) (hB : B ≤ w.heap.size) :
    ∃ v' w', (Builtin.append_ #[24, 24] ty #[v, .slice a0 e.length cap]).run Try.prog w = .ok v' w' ∧
      w'.ownsRow B 39 3 v' (d ++ e).length (opsV (d ++ e)) ∧ w.grownBy w' v.ownBlock ∧ Below B w w' := by
  obtain ⟨i, hi, hzz, hs, hby⟩ := info_op
  by_cases he : e = []
  · subst he
    rw [List.append_nil]
    have hsrc : Src Try.prog i.size 24 (.slice a0 0 cap) 0 [] w := by
      cases a0 with
      | none => exact Src.ofNil _ Try.underlying24 cap
      | some x => exact Src.ofSlice _ Try.underlying24 x 0 cap [] (by simp) (fun j u h => by simp at h) (fun u h => by cases h)
    refine ⟨v, w, ?_, hv, ⟨rfl, rfl, rfl, Nat.le_refl _, fun _ _ _ => rfl⟩, Below.refl _ _⟩
    rcases hv.2 with ⟨rfl, _⟩ | ⟨g, c, cur, rfl, _, _, hc, _⟩
    · exact run_append_nothing (P := Try.prog) w 24 24 ty 39 i Try.underlying24 hi none 0 0 (Nat.le_refl _) _ hsrc
    · exact run_append_nothing (P := Try.prog) w 24 24 ty 39 i Try.underlying24 hi _ _ _ hc _ hsrc
  · rcases h with h | ⟨g, off, rfl, hg, hL⟩
    · exact absurd h he
    obtain ⟨v', w', hr, ho, hgr, _⟩ := run_append_own (P := Try.prog) w B 24 ty 39 i (.agg #[.int .i64 0, .int .i64 0, .string ⟨#[]⟩]) 3 32 Try.underlying24 hi hzz hs hby rfl (by decide)
      v d.length (opsV d) hv ⟨g, off, none⟩ e.length cap (opsV e) (opsV_len e)
      (fun j u hj => by
        have hjl : j < (opsV e).length := (List.getElem?_eq_some_iff.1 hj).1
        rw [opsV_len] at hjl
        have hk : j / 3 < e.length := by omega
        have q := opsV_get e (j / 3) (j % 3) hk (by omega)
        rw [show j / 3 * 3 + j % 3 = j by omega, hj] at q
        obtain ⟨c0, c1, c2⟩ := hL (j / 3) hk
        rw [Addr.add_lit]
        have hm : j % 3 = 0 ∨ j % 3 = 1 ∨ j % 3 = 2 := by omega
        rcases hm with hm | hm | hm
        · rw [hm] at q; rw [show off + j = off + j / 3 * 3 by omega]; exact c0.trans q.symm
        · rw [hm] at q; rw [show off + j = off + j / 3 * 3 + 1 by omega]; exact c1.trans q.symm
        · rw [hm] at q; rw [show off + j = off + j / 3 * 3 + 2 by omega]; exact c2.trans q.symm)
      (fun u hu => by obtain ⟨x, _, hx⟩ := List.mem_flatMap.1 hu; exact opL_cell hx) (by unfold maxLen; omega) hb hB
    refine ⟨v', w', hr, by rw [List.length_append, opsV_app]; exact ho, hgr, (Below.refl B w).grown hgr hB (fun k e => (hv.lt k e).1)⟩
theorem made_u8D (n : Nat) : (madeCells (Value.int .u8 0).cells (n * 1)).toList = (List.replicate n (0 : Int)).map (Value.int .u8) := by
  apply List.ext_getElem?
  intro i
  simp only [madeCells, Nat.mul_one, Array.toList_map, Array.toList_range, List.getElem?_map, List.map_replicate]
  rcases Nat.lt_or_ge i n with h | h
  · rw [List.getElem?_range h, List.getElem?_replicate, if_pos h]
    simp [Value.cells]
    simp [Nat.mod_one]
  · rw [List.getElem?_eq_none (by simpa using h), List.getElem?_replicate, if_neg (by omega)]
    rfl
theorem make_fullD (w : World) (n : Nat) (hn : n ≤ 5000) : ∃ w', (Instr.makeSlice 22 (.int .i64 (n : Int)) (.int .i64 (n : Int))).run Try.prog w = .ok (.slice (some ⟨w.heap.size, 0, none⟩) n n) w' ∧
    Own w' w.heap.size (.slice (some ⟨w.heap.size, 0, none⟩) n n) (List.replicate n 0) ∧ Below w.heap.size w w' := by
  obtain ⟨i, hi, hz, hs, hby⟩ := info_u8
  obtain ⟨w', h1, h2, h3⟩ := run_make_full (P := Try.prog) w w.heap.size 22 5 i _ 1 Try.underlying22 hi hz hs .i64 .i64 n (by rw [hby]; omega) (by unfold maxLen; omega) (Nat.le_refl _)
  rw [made_u8D] at h2
  exact ⟨w', h1, by unfold Own; rw [List.length_replicate]; exact h2, (Below.refl _ w).grown h3 (Nat.le_refl _) (fun k e => by cases e)⟩
theorem un_set {n i : Nat} (h : i < n) : (unT 0 i ++ List.replicate (n - i) (0 : Int)).set i (128 + (i : Int)) = unT 0 (i + 1) ++ List.replicate (n - (i + 1)) 0 := by
  rw [unT_sn, Nat.zero_add, show n - i = (n - (i + 1)) + 1 by omega, List.replicate_succ, List.set_append_right _ _ (by rw [unT_len]; exact Nat.le_refl _), unT_len, Nat.sub_self, List.set_cons_zero]
  simp
/-- Valid, Changes, Of, Canon in plain lists -/
theorem ChangesO_at (a : Option Addr) (c : Nat) (d : List Dop) (w : World) (h : IsO w a d) (hl : d.length ≤ 4611686018427387904) :
    Calls Try.prog 17 #[.slice a d.length c] w fun y w' => ∃ a' c', y = .returned (.tuple #[.slice a' (chD d).1.length c', .int .i64 (chD d).2]) ∧ IsO w' a' (chD d).1 ∧ Below w.heap.size w w' :=
  (Changes_at a c d w h hl).mono fun y w' ⟨v, e, ho, x⟩ => by
    obtain ⟨a', c', rfl, hi, _⟩ := own_isOC ho
    exact ⟨a', c', e, hi, x⟩
theorem OfO_at (a : Option Addr) (c : Nat) (n : Int) (cs : List Dop) (E : Int) (w : World) (h : IsO w a cs) (hl : cs.length ≤ 4398046511104) (hE : ErrC n cs E) :
    Calls Try.prog 18 #[.int .i64 n, .slice a cs.length c] w fun y w' => ∃ a' c', y = .returned (.tuple #[.slice a' (ofD n cs E).1.length c', .int .i64 (ofD n cs E).2]) ∧ IsO w' a' (ofD n cs E).1 ∧ Below w.heap.size w w' :=
  (Of_atD a c n cs E w h hl hE).mono fun y w' ⟨v, e, ho, x⟩ => by
    obtain ⟨a', c', rfl, hi, _⟩ := own_isOC ho
    exact ⟨a', c', e, hi, x⟩
theorem CanonO_at (a : Option Addr) (c : Nat) (d : List Dop) (w : World) (h : IsO w a d) (hl : d.length ≤ 4611686018427387904) :
    Calls Try.prog 16 #[.slice a d.length c] w fun y w' => ∃ a' c', y = .returned (.tuple #[.slice a' (canD d).1.length c', .int .i64 (canD d).2]) ∧ IsO w' a' (canD d).1 ∧ Below w.heap.size w w' :=
  (Canon_at a c d w h hl).mono fun y w' ⟨v, e, ho, x⟩ => by
    obtain ⟨a', c', rfl, hi, _⟩ := own_isOC ho
    exact ⟨a', c', e, hi, x⟩
theorem canD_val {d : List Dop} (hv : valB d = true) (h : Can d) : canD d = (d, 0) := by
  have hk := (valB_nn hv).2
  have h1 : d.all knB = true := List.all_eq_true.2 fun o ho => by
    rcases h.p o ho with ⟨q | q, q2, _⟩ | ⟨q, q2, _⟩ <;> simp [knB, q] <;> omega
  have h2 : lonB d = false := decide_eq_false (by omega)
  unfold canD
  rw [h1, h2, canA_id h]
  rfl
theorem pln_tl {d : List Dop} (hv : valB d = true) : ∀ o ∈ d, o.t.length ≤ 536870912 := fun o ho => by
  have h1 := (val_rdK hv).s o ho
  have h2 := (szO_i ((val_rdK hv).p o ho)).1
  have h3 := pln_n ((val_rdK hv).p o ho)
  omega
theorem fitD_can (d : List Dop) (n : Nat) : Can (fitD d n) := canA_can _
set_option maxRecDepth 100000 in
set_option maxHeartbeats 8000000 in
theorem DeltaSame_any (n : Int) (a1 : Option Addr) (c1 : Nat) (x : List Dop) (a2 : Option Addr) (c2 : Nat) (y : List Dop) (w : World) (_hn : (Lit.int .i64 n).wf = true) (hx : IsO w a1 x) (_hzx : x = [] ∨ ∃ q, a1 = some q) (_hlx : x.length * 32 ≤ 140737488355328) (htx : ∀ o ∈ x, TbD o ∧ o.t.length ≤ 140737488355328) (hy : IsO w a2 y) (_hzy : y = [] ∨ ∃ q, a2 = some q) (_hly : y.length * 32 ≤ 140737488355328) (hty : ∀ o ∈ y, TbD o ∧ o.t.length ≤ 140737488355328) :
    Calls Try.prog 4 #[.int .i64 n, .slice a1 x.length c1, .slice a2 y.length c2] w fun y w' => y = .returned (.bool true) ∧ Below w.heap.size w w' := by
  have HAw := hide (awake13_at w)
  by_cases hneg : n < 0
  · have t1 : decide (n < 0) = true := decide_eq_true hneg
    clear hx hy htx hty _hzx _hlx _hzy _hly _hn hneg
    go_enter Try.func4, Try.ntmps4
    go_wp2_with fail
    refine (unhide HAw).mono ?_
    rintro yy w1 ⟨rfl, x1⟩
    dsimp only
    clear HAw
    go_wp2_with fail
    refine bodyPost_ret (results_tmp rfl _ _ _) rfl ⟨rfl, x1⟩
  have t1 : decide (n < 0) = false := decide_eq_false hneg
  by_cases hbig : n > 120
  · have t2 : decide (n > 120) = true := decide_eq_true hbig
    have t3 : decide (120 < n) = true := decide_eq_true hbig
    clear hx hy htx hty _hzx _hlx _hzy _hly _hn hneg hbig
    go_enter Try.func4, Try.ntmps4
    go_wp2_with fail
    refine (unhide HAw).mono ?_
    rintro yy w1 ⟨rfl, x1⟩
    dsimp only
    clear HAw
    go_wp2_with fail
    refine bodyPost_ret (results_tmp rfl _ _ _) rfl ⟨rfl, x1⟩
  obtain ⟨n0, rfl⟩ : ∃ n0 : Nat, n = (n0 : Int) := ⟨n.toNat, by omega⟩
  have hn0 : n0 ≤ 120 := by omega
  have t2 : decide ((n0 : Int) > 120) = false := decide_eq_false hbig
  have t3 : decide ((120 : Int) < (n0 : Int)) = false := decide_eq_false hbig
  have t4 : decide (120 < n0) = false := decide_eq_false (by omega)
  clear hneg hbig _hn
  have HSh := hide fun (X : World) (hX : Below w.heap.size w X) => short_at none 0 0 X.heap.size 2 [⟨a1, c1, x⟩, ⟨a2, c2, y⟩] w (X.alloc (.cells #[.slice a1 x.length c1, .slice a2 y.length c2] 24)) (by
    have kN := Cls.new X 24 #[.slice a1 x.length c1, .slice a2 y.length c2]
    refine ⟨fun i hi => ?_, fun i hi => ?_, kN.lt⟩
    · match i with
      | 0 => exact kN.cell 0
      | 1 => exact kN.cell 1
      | i + 2 => simp at hi; omega
    · match i with
      | 0 => exact ⟨hx, fun o ho => (htx o ho).2⟩
      | 1 => exact ⟨hy, fun o ho => (hty o ho).2⟩
      | i + 2 => simp at hi; omega) (hX.alloc hX.size _) (by simp)
  have HALL : Hid (ShD x → ShD y → ∃ A B cs : List Dop, ∃ P Q : List Int, ((∀ X, Below w.heap.size w X → Calls Try.prog 8 #[.slice a1 x.length c1, .int .i64 (n0 : Int)] X fun y X' => ∃ a' c', y = .returned (.slice a' A.length c') ∧ IsO X' a' A ∧ Below X.heap.size X X') ∧
      (∀ X, Below w.heap.size w X → Calls Try.prog 8 #[.slice a2 y.length c2, .int .i64 (n0 : Int)] X fun y X' => ∃ a' c', y = .returned (.slice a' B.length c') ∧ IsO X' a' B ∧ Below X.heap.size X X') ∧
      (∀ X a3 c3, IsO X a3 A → Calls Try.prog 16 #[.slice a3 A.length c3] X fun y X' => ∃ a' c', y = .returned (.tuple #[.slice a' A.length c', .int .i64 0]) ∧ IsO X' a' A ∧ Below X.heap.size X X') ∧
      (∀ X a3 c3, IsO X a3 A → Calls Try.prog 17 #[.slice a3 A.length c3] X fun y X' => ∃ a' c', y = .returned (.tuple #[.slice a' cs.length c', .int .i64 0]) ∧ IsO X' a' cs ∧ Below X.heap.size X X') ∧
      (∀ X a3 c3, IsO X a3 cs → Calls Try.prog 18 #[.int .i64 (n0 : Int), .slice a3 cs.length c3] X fun y X' => ∃ a' c', y = .returned (.tuple #[.slice a' A.length c', .int .i64 0]) ∧ IsO X' a' A ∧ Below X.heap.size X X') ∧
      (∀ X a3 c3 a4 c4, IsO X a3 A → IsO X a4 A → Calls Try.prog 13 #[.slice a3 A.length c3, .slice a4 A.length c4] X fun y X' => y = .returned (.bool true) ∧ Below X.heap.size X X') ∧
      (∀ X a3 c3, IsO X a3 A → Calls Try.prog 19 #[.slice a3 A.length c3] X fun y X' => y = .returned (.bool true) ∧ Below X.heap.size X X') ∧
      (∀ X a3 c3 a4 c4, IsB X a3 c3 (unT 0 n0) → IsO X a4 A → Calls Try.prog 9 #[.slice a3 n0 c3, .slice a4 A.length c4] X fun y X' => ∃ a' c', y = .returned (.tuple #[.slice a' P.length c', .int .i64 0]) ∧ IsB X' a' c' P ∧ Below X.heap.size X X') ∧
      (∀ X a3 c3 a4 c4, IsB X a3 c3 (unT 0 n0) → IsO X a4 B → Calls Try.prog 9 #[.slice a3 n0 c3, .slice a4 B.length c4] X fun y X' => ∃ a' c', y = .returned (.tuple #[.slice a' Q.length c', .int .i64 0]) ∧ IsB X' a' c' Q ∧ Below X.heap.size X X') ∧
      (∀ X a3 c3 a4 c4, IsO X a3 A → IsO X a4 B → Calls Try.prog 13 #[.slice a3 A.length c3, .slice a4 B.length c4] X fun y X' => y = .returned (.bool (decide (A = B))) ∧ Below X.heap.size X X') ∧
      ((∀ o ∈ A ++ B, ∀ z ∈ o.t, z < 128) → (P = Q ↔ A = B)) ∧ (∀ o ∈ A ++ B, TbD o ∧ o.t.length ≤ 536870912) ∧
      A.length * 32 ≤ 140737488355328 ∧ B.length * 32 ≤ 140737488355328 ∧ (A.length + B.length) * 32 ≤ 140737488355328)) := hide fun sx sy => by
    have kx : ∀ o ∈ x, (o.k = 1 ∨ o.k = 2 ∨ o.k = 3) ∧ TbD o ∧ o.t.length ≤ 140737488355328 := fun o ho => ⟨sx.2.1 o ho, htx o ho⟩
    have ky : ∀ o ∈ y, (o.k = 1 ∨ o.k = 2 ∨ o.k = 3) ∧ TbD o ∧ o.t.length ≤ 140737488355328 := fun o ho => ⟨sy.2.1 o ho, hty o ho⟩
    have hsx := sx.2.2
    have hsy := sy.2.2
    have hlx := sx.1
    have hly := sy.1
    obtain ⟨vA, fA, tA, bA⟩ := fitD_ok (n := n0) kx (by omega)
    obtain ⟨vB, fB, tB, bB⟩ := fitD_ok (n := n0) ky (by omega)
    have cA := fitD_can x n0
    have cB := fitD_can y n0
    have eA : fitD x n0 = fitD x n0 := rfl
    obtain ⟨q1, q2, q3, q4⟩ := of_changes vA cA fA
    have sA := val_small vA
    have sB := val_small vB
    have lA := val_len vA
    have lB := val_len vB
    have dA' := pln_tl vA
    have dB' := pln_tl vB
    have uT := unT_len n0 0
    have uA : frD (fitD x n0) = (unT 0 n0).length := by rw [uT]; exact fA
    have uB : frD (fitD y n0) = (unT 0 n0).length := by rw [uT]; exact fB
    refine ⟨fitD x n0, fitD y n0, (runL (fitD x n0)).2, apD (unT 0 n0) (fitD x n0), apD (unT 0 n0) (fitD y n0), ⟨?_, ?_, ?_, ?_, ?_, ?_, ?_, ?_, ?_, ?_, ?_, ?_, sA.2, sB.2, by omega⟩⟩
    · exact fun X hX => (fit_at a1 c1 x n0 X (hx.below hX (Nat.le_refl _)) (by omega) (by omega) kx).mono fun y X' ⟨a', c', e, h1, _, h2⟩ => ⟨a', c', e, h1, h2⟩
    · exact fun X hX => (fit_at a2 c2 y n0 X (hy.below hX (Nat.le_refl _)) (by omega) (by omega) ky).mono fun y X' ⟨a', c', e, h1, _, h2⟩ => ⟨a', c', e, h1, h2⟩
    · intro X a3 c3 h1
      have := CanonO_at a3 c3 _ X h1 sA.1
      rw [canD_val vA cA] at this
      exact this
    · intro X a3 c3 h1
      have := ChangesO_at a3 c3 _ X h1 sA.1
      rw [q1] at this
      exact this
    · intro X a3 c3 h1
      have := OfO_at a3 c3 (n0 : Int) _ 0 X h1 (by omega) q2
      rw [q3] at this
      exact this
    · intro X a3 c3 a4 c4 h1 h2
      have := same13_at a3 c3 _ a4 c4 _ X h1 h2 sA.1 sA.1 bA bA
      simpa using this
    · intro X a3 c3 h1
      have := Valid_atD a3 c3 _ X h1 sA.1
      rw [vA] at this
      exact this
    · intro X a3 c3 a4 c4 h1 h2
      have := ApplyB_at a3 c3 _ a4 c4 _ X h1 h2 sA.1 bA
      rw [fit_zero vA uA, ap_zero vA uA, uT] at this
      exact this
    · intro X a3 c3 a4 c4 h1 h2
      have := ApplyB_at a3 c3 _ a4 c4 _ X h1 h2 sB.1 bB
      rw [fit_zero vB uB, ap_zero vB uB, uT] at this
      exact this
    · intro X a3 c3 a4 c4 h1 h2
      exact same13_at a3 c3 _ a4 c4 _ X h1 h2 sA.1 sB.1 bA bB
    · exact fun hz => un_inj vA cA fA vB cB fB (fun o ho => hz o (by simp [ho])) (fun o ho => hz o (by simp [ho]))
    · intro o ho
      rcases List.mem_append.1 ho with ho | ho
      · exact ⟨bA o ho, dA' o ho⟩
      · exact ⟨bB o ho, dB' o ho⟩
  clear hx hy htx hty _hzx _hlx _hzy _hly
  go_enter Try.func4, Try.ntmps4
  go_wp2_with fail
  refine (unhide HAw).mono ?_
  rintro yy w1 ⟨rfl, x1⟩
  dsimp only
  have HX1 := hide x1
  have HS1 := hide (unhide HSh w1 x1)
  simp only [List.length_cons, List.length_nil] at HS1
  have HXa := hide (x1.alloc x1.size (.cells #[.slice a1 x.length c1, .slice a2 y.length c2] 24))
  clear HAw HSh x1
  go_upto_region 3 with fail
  generalize hv1 : w1.alloc (.cells #[.slice a1 x.length c1, .slice a2 y.length c2] 24) = v1 at HS1 HXa
  go_wp2_with fail
  clear hv1
  refine (unhide HS1).mono ?_
  rintro yy w2 ⟨r, rfl, hr, x2⟩
  dsimp only
  have HX2 := hide ((unhide HXa).trans (x2.mono (unhide HXa).size))
  have HR := hide hr
  clear HS1 HX1 HXa x2 hr t1 t2 t3 t4
  cases r with
  | false =>
    clear HR HALL
    go_wp2_with fail
    refine bodyPost_ret (results_tmp rfl _ _ _) rfl ⟨rfl, unhide HX2⟩
  | true =>
    obtain ⟨_, hsh⟩ := unhide HR rfl
    have sx : ShD x := hsh 0 (by simp)
    have sy : ShD y := hsh 1 (by simp)
    obtain ⟨A, B, cs, P, Q, f1, f2, k1, k2, k3, k4, k5, p1, p2, k6, un, tb, lA, lB, lAB⟩ := unhide HALL sx sy
    have HF1 := hide f1
    have HF2 := hide f2
    have HCN := hide fun (X : World) (_ : Below w.heap.size w X) => k1 X
    have HCH := hide fun (X : World) (_ : Below w.heap.size w X) => k2 X
    have HOF := hide fun (X : World) (_ : Below w.heap.size w X) => k3 X
    have HSA := hide fun (X : World) (_ : Below w.heap.size w X) => k4 X
    have HVL := hide fun (X : World) (_ : Below w.heap.size w X) => k5 X
    have HPA := hide fun (X : World) => p1 X
    have HPB := hide fun (X : World) => p2 X
    have HSB := hide fun (X : World) => k6 X
    have HOA := hide fun (X : World) (_ : Below w.heap.size w X) (a3 : Option Addr) (c3 : Nat) (h3 : IsO X a3 A) => own13H a3 c3 A X h3 lA
    have HOB := hide fun (X : World) (a3 : Option Addr) (c3 : Nat) (h3 : IsO X a3 B) => own13H a3 c3 B X h3 lB
    have HOQ := hide fun (X : World) (a3 : Option Addr) (c3 : Nat) (h3 : IsO X a3 A) => own13H a3 c3 A X h3 lA
    have HUN := hide un
    have HTB := hide tb
    have HAB := hide (And.intro lA lAB)
    clear HR HALL hsh sx sy f1 f2 k1 k2 k3 k4 k5 k6 p1 p2 un tb lA lB lAB
    have HC3 := hide (unhide HF1 w2 (unhide HX2))
    go_wp2_with fail
    refine (unhide HC3).mono ?_
    rintro y w3 ⟨a3', c3', rfl, i3, x3⟩
    dsimp only
    have HX3 := hide ((unhide HX2).trans (x3.mono (unhide HX2).size))
    have A__3 := hide (i3)
    clear HC3 HX2 x3  i3 HF1
    have HC4 := hide (unhide HF2 w3 (unhide HX3))
    go_wp2_with fail
    refine (unhide HC4).mono ?_
    rintro y w4 ⟨a4', c4', rfl, i4, x4⟩
    dsimp only
    have HX4 := hide ((unhide HX3).trans (x4.mono (unhide HX3).size))
    have A__4 := hide ((unhide A__3).below x4 (Nat.le_refl _))
    have B__4 := hide (i4)
    clear HC4 HX3 x4 A__3 i4 HF2
    have HC5 := hide (unhide HOA w4 (unhide HX4) a3' c3' (unhide A__4))
    go_wp2_with fail
    refine (unhide HC5).mono ?_
    rintro y w5 ⟨a5', c5', rfl, ⟨i5, l5⟩, x5⟩
    dsimp only
    have HX5 := hide ((unhide HX4).trans (x5.mono (unhide HX4).size))
    have A__5 := hide ((unhide A__4).below x5 (Nat.le_refl _))
    have B__5 := hide ((unhide B__4).below x5 (Nat.le_refl _))
    have o_5 := hide (i5)
    clear HC5 HX4 x5 A__4 B__4 i5 l5
    have HC6 := hide (unhide HCN w5 (unhide HX5) a5' c5' (unhide o_5))
    go_wp2_with fail
    refine (unhide HC6).mono ?_
    rintro y w6 ⟨a6', c6', rfl, i6, x6⟩
    dsimp only
    have HX6 := hide ((unhide HX5).trans (x6.mono (unhide HX5).size))
    have A__6 := hide ((unhide A__5).below x6 (Nat.le_refl _))
    have B__6 := hide ((unhide B__5).below x6 (Nat.le_refl _))
    have o_6 := hide ((unhide o_5).below x6 (Nat.le_refl _))
    have C__6 := hide (i6)
    clear HC6 HX5 x6 A__5 B__5 o_5 i6 HCN
    clear o_6
    have HC7 := hide (unhide HOA w6 (unhide HX6) a3' c3' (unhide A__6))
    go_wp2_with fail
    refine (unhide HC7).mono ?_
    rintro y w7 ⟨a7', c7', rfl, ⟨i7, l7⟩, x7⟩
    dsimp only
    have HX7 := hide ((unhide HX6).trans (x7.mono (unhide HX6).size))
    have A__7 := hide ((unhide A__6).below x7 (Nat.le_refl _))
    have B__7 := hide ((unhide B__6).below x7 (Nat.le_refl _))
    have C__7 := hide ((unhide C__6).below x7 (Nat.le_refl _))
    have o_7 := hide (i7)
    clear HC7 HX6 x7 A__6 B__6 C__6 i7 l7
    have HC8 := hide (unhide HCH w7 (unhide HX7) a7' c7' (unhide o_7))
    go_wp2_with fail
    refine (unhide HC8).mono ?_
    rintro y w8 ⟨a8', c8', rfl, i8, x8⟩
    dsimp only
    have HX8 := hide ((unhide HX7).trans (x8.mono (unhide HX7).size))
    have A__8 := hide ((unhide A__7).below x8 (Nat.le_refl _))
    have B__8 := hide ((unhide B__7).below x8 (Nat.le_refl _))
    have C__8 := hide ((unhide C__7).below x8 (Nat.le_refl _))
    have o_8 := hide ((unhide o_7).below x8 (Nat.le_refl _))
    have K__8 := hide (i8)
    clear HC8 HX7 x8 A__7 B__7 C__7 o_7 i8 HCH
    clear o_8
    have HC9 := hide (unhide HOF w8 (unhide HX8) a8' c8' (unhide K__8))
    go_wp2_with fail
    refine (unhide HC9).mono ?_
    rintro y w9 ⟨a9', c9', rfl, i9, x9⟩
    dsimp only
    have HX9 := hide ((unhide HX8).trans (x9.mono (unhide HX8).size))
    have A__9 := hide ((unhide A__8).below x9 (Nat.le_refl _))
    have B__9 := hide ((unhide B__8).below x9 (Nat.le_refl _))
    have C__9 := hide ((unhide C__8).below x9 (Nat.le_refl _))
    have K__9 := hide ((unhide K__8).below x9 (Nat.le_refl _))
    have D__9 := hide (i9)
    clear HC9 HX8 x9 A__8 B__8 C__8 K__8 i9 HOF
    clear K__9
    have HC10 := hide (unhide HSA w9 (unhide HX9) a6' c6' a3' c3' (unhide C__9) (unhide A__9))
    go_wp2_with fail
    refine (unhide HC10).mono ?_
    rintro y w10 ⟨rfl, x10⟩
    dsimp only
    have HX10 := hide ((unhide HX9).trans (x10.mono (unhide HX9).size))
    have A__10 := hide ((unhide A__9).below x10 (Nat.le_refl _))
    have B__10 := hide ((unhide B__9).below x10 (Nat.le_refl _))
    have C__10 := hide ((unhide C__9).below x10 (Nat.le_refl _))
    have D__10 := hide ((unhide D__9).below x10 (Nat.le_refl _))
    clear HC10 HX9 x10 A__9 B__9 C__9 D__9 
    clear C__10
    have HC11 := hide (unhide HSA w10 (unhide HX10) a9' c9' a3' c3' (unhide D__10) (unhide A__10))
    go_wp2_with fail
    refine (unhide HC11).mono ?_
    rintro y w11 ⟨rfl, x11⟩
    dsimp only
    have HX11 := hide ((unhide HX10).trans (x11.mono (unhide HX10).size))
    have A__11 := hide ((unhide A__10).below x11 (Nat.le_refl _))
    have B__11 := hide ((unhide B__10).below x11 (Nat.le_refl _))
    have D__11 := hide ((unhide D__10).below x11 (Nat.le_refl _))
    clear HC11 HX10 x11 A__10 B__10 D__10 
    clear D__11
    have HC12 := hide (unhide HOA w11 (unhide HX11) a3' c3' (unhide A__11))
    go_wp2_with fail
    refine (unhide HC12).mono ?_
    rintro y w12 ⟨a12', c12', rfl, ⟨i12, l12⟩, x12⟩
    dsimp only
    have HX12 := hide ((unhide HX11).trans (x12.mono (unhide HX11).size))
    have A__12 := hide ((unhide A__11).below x12 (Nat.le_refl _))
    have B__12 := hide ((unhide B__11).below x12 (Nat.le_refl _))
    have o_12 := hide (i12)
    clear HC12 HX11 x12 A__11 B__11 i12 l12
    have HC13 := hide (unhide HVL w12 (unhide HX12) a12' c12' (unhide o_12))
    go_wp2_with fail
    refine (unhide HC13).mono ?_
    rintro y w13 ⟨rfl, x13⟩
    dsimp only
    have HX13 := hide ((unhide HX12).trans (x13.mono (unhide HX12).size))
    have A__13 := hide ((unhide A__12).below x13 (Nat.le_refl _))
    have B__13 := hide ((unhide B__12).below x13 (Nat.le_refl _))
    have o_13 := hide ((unhide o_12).below x13 (Nat.le_refl _))
    clear HC13 HX12 x13 A__12 B__12 o_12 HVL
    clear o_13
    clear HSA HOA
    have HAA := hide fun (X : World) (hX : Below w13.heap.size w13 X) => (unhide A__13).below hX (Nat.le_refl _)
    have HBA := hide fun (X : World) (hX : Below w13.heap.size w13 X) => (unhide B__13).below hX (Nat.le_refl _)
    have HXA := hide fun (X : World) (hX : Below w13.heap.size w13 X) => (unhide HX13).trans (hX.mono (unhide HX13).size)
    clear A__13 B__13 HX13
    generalize w13 = wN at *
    generalize a3' = aA at *
    generalize c3' = cA at *
    generalize a4' = aB at *
    generalize c4' = cB at *
    have hA0 := unhide HAA wN (Below.refl _ _)
    have HC0 := hide (own13_at aA cA A wN hA0 hA0.some (unhide HAB).1)
    clear hA0
    go_wp2_with fail
    refine (unhide HC0).mono ?_
    rintro yy wO ⟨vv, rfl, ho, xo⟩
    dsimp only
    obtain ⟨v2, wL, r2, o2, _, b2⟩ := app_op wO wN.heap.size vv A aB cB B 24 ho (unhide HBA wO xo) (unhide HAB).2 xo.size
    have hb2 := xo.trans b2
    obtain ⟨aL, cL, hv2, iL, _⟩ := own_isOC o2
    subst hv2
    have R2 := hide r2
    have HLL := hide fun (X : World) (hX : Below wL.heap.size wL X) => iL.below hX (Nat.le_refl _)
    have HNX := hide fun (X : World) (hX : Below wL.heap.size wL X) => hb2.trans (hX.mono hb2.size)
    have hll : (A ++ B).length ≤ 140737488355328 := by have := (unhide HAB).2; rw [List.length_append]; omega
    clear HC0 ho xo r2 o2 b2 hb2 iL HAB
    generalize hL : A ++ B = L at *
    clear hL
    go_wp2_with (at_builtin; refine wpList_append_known rfl _ _ 24 24 rfl _ _ rfl rfl _ _ (unhide R2) ?_; clear R2)
    go_loopw [16, 17, 96] (fun v16 v17 v96 wx => ((∃ z, v16 = z) ∧ (∃ z, v17 = z)) ∧ ∃ k : Nat, v96 = .int .i64 (k : Int) ∧ k ≤ L.length ∧ Hid (Below wL.heap.size wL wx ∧ ∀ o ∈ L.take k, ∀ z ∈ o.t, z < 128)) (fun _ _ v96 _ => L.length - (intOf v96).toNat)
    case atStart => exact ⟨⟨⟨_, rfl⟩, ⟨_, rfl⟩⟩, ⟨0, rfl, Nat.zero_le _, hide ⟨Below.refl _ _, by simp⟩⟩⟩
    case round =>
      obtain ⟨⟨⟨z1, rfl⟩, ⟨z2, rfl⟩⟩, ⟨k, rfl, hk, HI⟩⟩ := hrel
      by_cases hlt : k < L.length
      · have t1 : decide ((k : Int) < (L.length : Int)) = true := decide_eq_true (by omega)
        obtain ⟨g, off, hga, _, c0', c1', c2'⟩ := (unhide HLL wr (unhide HI).1).three hlt
        have HOX := hide (unhide HTB _ (getD_memD hlt))
        have HTK : Hid ((∀ z ∈ (L.getD k opZ).t, z < 128) → ∀ o ∈ L.take (k + 1), ∀ z ∈ o.t, z < 128) := hide fun hz o ho => by
          rw [List.take_add_one, List.getElem?_eq_getElem hlt, Option.toList_some] at ho
          rcases List.mem_append.1 ho with ho | ho
          · exact (unhide HI).2 o ho
          · obtain rfl : o = L[k] := by simpa using ho
            rw [List.getD_eq_getElem?_getD, List.getElem?_eq_getElem hlt] at hz
            exact hz
        have HBW := hide (unhide HI).1
        clear HI hk
        subst hga
        generalize L.getD k opZ = q at *
        obtain ⟨xk, xn, xt⟩ := q
        dsimp only at c0' c1' c2' HOX HTK
        have HBN := hide ((unhide HBW).alloc (unhide HBW).size (.cells #[.int .i64 xk, .int .i64 xn, .string (strOfNums xt)] 39))
        obtain ⟨d0, d1, d2⟩ := three_nwD wr (.int .i64 xk) (.int .i64 xn) (.string (strOfNums xt)) (t := 39)
        clear HBW
        go_upto_region 14 with fail
        clear c0' c1' c2' t1
        generalize wr.alloc (.cells #[.int .i64 xk, .int .i64 xn, .string (strOfNums xt)] 39) = v0 at *
        generalize wr.heap.size = gb at *
        go_wp2_with fail
        go_loopw [17] (fun v17 wx => wx = v0 ∧ ∃ j : Nat, v17 = .int .i64 (j : Int) ∧ j ≤ xt.length ∧ Hid (∀ z ∈ xt.take j, z < 128)) (fun v17 _ => xt.length - (intOf v17).toNat)
        case atStart => exact ⟨rfl, 0, rfl, Nat.zero_le _, hide (by simp)⟩
        case round =>
          obtain ⟨rfl, j, rfl, hj, HJ⟩ := hrel
          have hsz := strOfNums_size xt
          have htl := (unhide HOX).2
          by_cases hlj : j < xt.length
          · have t1 : decide ((j : Int) < (xt.length : Int)) = true := decide_eq_true (by omega)
            have t2 : (j : Int) < (xt.length : Int) := by omega
            obtain ⟨z, hz⟩ : ∃ z, z = xt.getD j 0 := ⟨_, rfl⟩
            have hzm : z ∈ xt := by rw [hz, List.getD_eq_getElem?_getD, List.getElem?_eq_getElem hlj]; exact List.getElem_mem hlj
            have hzb := (unhide HOX).1 z hzm
            have hjs : j < (strOfNums xt).size := by rw [hsz]; exact hlj
            have hgz : (((strOfNums xt)[j]'hjs).toNat : Int) = z := by
              have h1 := get_str xt j
              rw [show (strOfNums xt).get! j = (strOfNums xt)[j]'hjs from getElem!_pos (strOfNums xt).data j hjs, ← hz] at h1
              omega
            have HJ2 : Hid (z < 128 → ∀ q ∈ xt.take (j + 1), q < 128) := hide fun h q hq => by
              rw [List.take_add_one, List.getElem?_eq_getElem hlj, Option.toList_some] at hq
              rcases List.mem_append.1 hq with hq | hq
              · exact unhide HJ q hq
              · obtain rfl : q = xt[j] := by simpa using hq
                rw [List.getD_eq_getElem?_getD, List.getElem?_eq_getElem hlj] at hz
                have h2 : z = xt[j] := hz
                omega
            clear hz hzm HJ HTK HOX
            by_cases hbz : 128 ≤ z
            · have t3 : decide (z ≥ 128) = true := decide_eq_true hbz
              have t4 : decide (128 ≤ z) = true := decide_eq_true hbz
              have HFX := hide (unhide HXA wr (unhide HNX wr (unhide HBN)))
              clear HJ2
              go_wp2_with fail
              refine bodyPost_ret (results_tmp rfl _ _ _) rfl ⟨rfl, unhide HFX⟩
            · have t3 : decide (z ≥ 128) = false := decide_eq_false hbz
              have t4 : decide (128 ≤ z) = false := decide_eq_false hbz
              have HJ3 := hide (unhide HJ2 (by omega))
              clear HJ2
              go_wp2_with fail
              go_roundw
              case rel => exact ⟨by first | trivial | rfl, j + 1, by go_num, hlj, HJ3⟩
              case measure => simp [intOf]; omega
          · obtain rfl : j = xt.length := by omega
            have t1 : decide ((xt.length : Int) < (xt.length : Int)) = false := by simp
            have hall := unhide HJ
            rw [List.take_length] at hall
            have HTK2 := hide (unhide HTK hall)
            clear HJ HTK hall HOX htl
            go_wp2_with fail
            go_roundw
            case rel => exact ⟨⟨⟨_, rfl⟩, ⟨_, rfl⟩⟩, ⟨k + 1, by go_num, hlt, hide ⟨unhide HBN, unhide HTK2⟩⟩⟩
            case measure => simp [intOf]; omega
      · obtain rfl : k = L.length := by omega
        have t1 : decide ((L.length : Int) < (L.length : Int)) = false := by simp
        have hU := unhide HUN (by have := (unhide HI).2; rwa [List.take_length] at this)
        obtain ⟨V, hV⟩ : ∃ V, V = decide (A = B) := ⟨_, rfl⟩
        rw [← hV] at HSB
        have HPQ : Hid (decide (P = Q) = V) := hide (by rw [hV, decide_eq_decide]; exact hU)
        have hbL := unhide HNX wr (unhide HI).1
        obtain ⟨wM, rM, oM, bM⟩ := make_fullD wr n0 (by omega)
        have HO0 : Hid (Own wM wr.heap.size (.slice (some ⟨wr.heap.size, 0, none⟩) n0 n0) (unT 0 0 ++ List.replicate (n0 - 0) 0) ∧ Below wN.heap.size wN wM) := hide ⟨oM, hbL.trans (bM.mono hbL.size)⟩
        have HG := hide hbL.size
        clear HI hk hlt HUN hU hV hbL oM bM HNX HLL HTB
        generalize wr.heap.size = gT at *
        go_wp2_with fail
        clear rM t1
        go_loopw [19, 117] (fun v19 v117 wx => (∃ z, v19 = z) ∧ ∃ i : Nat, v117 = .int .i64 (i : Int) ∧ i ≤ n0 ∧ Hid (Own wx gT (.slice (some ⟨gT, 0, none⟩) n0 n0) (unT 0 i ++ List.replicate (n0 - i) 0) ∧ Below wN.heap.size wN wx)) (fun _ v117 _ => n0 - (intOf v117).toNat)
        case atStart => exact ⟨⟨_, rfl⟩, ⟨0, rfl, Nat.zero_le _, HO0⟩⟩
        case round =>
          clear HO0
          obtain ⟨⟨z1, rfl⟩, ⟨i, rfl, hi, HI⟩⟩ := hrel
          by_cases hlt : i < n0
          · have t1 : decide ((i : Int) < (n0 : Int)) = true := decide_eq_true (by omega)
            have t2 : (i : Int) < (n0 : Int) := by omega
            obtain ⟨q1, q2⟩ := (unhide HI).1.cell i (by rw [List.length_append, unT_len, List.length_replicate]; omega)
            obtain ⟨old, q1⟩ := Option.isSome_iff_exists.1 q1
            have hs := (unhide HI).1.set i (128 + (i : Int))
            rw [un_set hlt] at hs
            have HN := hide (And.intro hs ((unhide HI).2.setCell (p := ⟨gT, i, none⟩) (unhide HG) (.int .u8 (128 + (i : Int)))))
            have w1 : wrap64 (128 + (i : Int)) = 128 + (i : Int) := wrapD _ (by omega) (by omega)
            have w2 : IntKind.u8.wrap (128 + (i : Int)) = 128 + (i : Int) := by rw [IntKind.wrap_u8]; omega
            clear hs HI
            go_wp2_with fail
            go_roundw
            case rel => exact ⟨⟨_, rfl⟩, ⟨i + 1, by go_num, hlt, HN⟩⟩
            case measure => simp [intOf]; omega
          · obtain rfl : i = n0 := by omega
            have t1 : decide ((i : Int) < (i : Int)) = false := by simp
            have hT := (unhide HI).1
            rw [Nat.sub_self, List.replicate_zero, List.append_nil] at hT
            obtain ⟨aT, cT, hvT, iT⟩ := hT.isB (unT_by i 0 (by omega)) (by rw [unT_len]; omega)
            rw [unT_len] at hvT
            injection hvT with e1 _ e2
            subst e1 e2
            have HX100 := hide (unhide HI).2
            have T__100 := hide iT
            have HBT := hide fun (X : World) (_ : Below wN.heap.size wN X) (a3 : Option Addr) (c3 : Nat) (h3 : IsB X a3 c3 (unT 0 i)) => bytes13B a3 c3 (unT 0 i) X h3
            rw [unT_len] at HBT
            have HO1 := hide fun (X : World) (hX : Below wN.heap.size wN X) => unhide HOQ X aA cA (unhide HAA X hX)
            have HO2 := hide fun (X : World) (hX : Below wN.heap.size wN X) => unhide HOB X aB cB (unhide HBA X hX)
            have HP1 := hide fun (X : World) (_ : Below wN.heap.size wN X) => unhide HPA X
            have HP2 := hide fun (X : World) (_ : Below wN.heap.size wN X) => unhide HPB X
            clear HI hT iT HOQ HOB HPA HPB HG hi hlt
            generalize wr = w100 at *
            have HC101 := hide (unhide HBT w100 (unhide HX100) (some ⟨gT, 0, none⟩) i (unhide T__100))
            go_wp2_with fail
            refine (unhide HC101).mono ?_
            rintro y w101 ⟨a101', c101', rfl, i101, x101⟩
            dsimp only
            have HX101 := hide ((unhide HX100).trans (x101.mono (unhide HX100).size))
            have T__101 := hide ((unhide T__100).below x101 (Nat.le_refl _))
            have b_101 := hide (i101)
            clear HC101 HX100 x101 T__100 i101
            have HC102 := hide (unhide HO1 w101 (unhide HX101))
            go_wp2_with fail
            refine (unhide HC102).mono ?_
            rintro y w102 ⟨a102', c102', rfl, ⟨i102, l102⟩, x102⟩
            dsimp only
            have HX102 := hide ((unhide HX101).trans (x102.mono (unhide HX101).size))
            have T__102 := hide ((unhide T__101).below x102 (Nat.le_refl _))
            have b_102 := hide ((unhide b_101).below x102 (Nat.le_refl _))
            have o_102 := hide (i102)
            clear HC102 HX101 x102 T__101 b_101 i102 l102 HO1
            have HC103 := hide (unhide HP1 w102 (unhide HX102) a101' c101' a102' c102' (unhide b_102) (unhide o_102))
            go_wp2_with fail
            refine (unhide HC103).mono ?_
            rintro y w103 ⟨a103', c103', rfl, i103, x103⟩
            dsimp only
            have HX103 := hide ((unhide HX102).trans (x103.mono (unhide HX102).size))
            have T__103 := hide ((unhide T__102).below x103 (Nat.le_refl _))
            have b_103 := hide ((unhide b_102).below x103 (Nat.le_refl _))
            have o_103 := hide ((unhide o_102).below x103 (Nat.le_refl _))
            have P__103 := hide (i103)
            clear HC103 HX102 x103 T__102 b_102 o_102 i103 HP1
            clear b_103
            clear o_103
            have HC104 := hide (unhide HBT w103 (unhide HX103) (some ⟨gT, 0, none⟩) i (unhide T__103))
            go_wp2_with fail
            refine (unhide HC104).mono ?_
            rintro y w104 ⟨a104', c104', rfl, i104, x104⟩
            dsimp only
            have HX104 := hide ((unhide HX103).trans (x104.mono (unhide HX103).size))
            have T__104 := hide ((unhide T__103).below x104 (Nat.le_refl _))
            have P__104 := hide ((unhide P__103).below x104 (Nat.le_refl _))
            have b_104 := hide (i104)
            clear HC104 HX103 x104 T__103 P__103 i104
            have HC105 := hide (unhide HO2 w104 (unhide HX104))
            go_wp2_with fail
            refine (unhide HC105).mono ?_
            rintro y w105 ⟨a105', c105', rfl, ⟨i105, l105⟩, x105⟩
            dsimp only
            have HX105 := hide ((unhide HX104).trans (x105.mono (unhide HX104).size))
            have T__105 := hide ((unhide T__104).below x105 (Nat.le_refl _))
            have P__105 := hide ((unhide P__104).below x105 (Nat.le_refl _))
            have b_105 := hide ((unhide b_104).below x105 (Nat.le_refl _))
            have o_105 := hide (i105)
            clear HC105 HX104 x105 T__104 P__104 b_104 i105 l105 HO2
            have HC106 := hide (unhide HP2 w105 (unhide HX105) a104' c104' a105' c105' (unhide b_105) (unhide o_105))
            go_wp2_with fail
            refine (unhide HC106).mono ?_
            rintro y w106 ⟨a106', c106', rfl, i106, x106⟩
            dsimp only
            have HX106 := hide ((unhide HX105).trans (x106.mono (unhide HX105).size))
            have T__106 := hide ((unhide T__105).below x106 (Nat.le_refl _))
            have P__106 := hide ((unhide P__105).below x106 (Nat.le_refl _))
            have b_106 := hide ((unhide b_105).below x106 (Nat.le_refl _))
            have o_106 := hide ((unhide o_105).below x106 (Nat.le_refl _))
            have Q__106 := hide (i106)
            clear HC106 HX105 x106 T__105 P__105 b_105 o_105 i106 HP2
            clear b_106
            clear o_106
            clear T__106
            have HSQ := hide fun (X : World) (hX : Below w106.heap.size w106 X) => And.intro (str_bs X a103' c103' P ((unhide P__106).below hX (Nat.le_refl _)).2.2.1) (str_bs X a106' c106' Q ((unhide Q__106).below hX (Nat.le_refl _)).2.2.1)
            have hpq := str_beq (unhide P__106).2.2.2 (unhide Q__106).2.2.2
            rw [unhide HPQ] at hpq
            have HPS := hide hpq
            have HXD := hide (unhide HX106).drew
            have HC1 := hide (unhide HSB w106.drew aA cA aB cB (unhide HAA w106.drew (unhide HXD)) (unhide HBA w106.drew (unhide HXD)))
            have HS0 := hide (unhide HSQ w106.drew (Below.refl w106.heap.size w106).drew)
            have HDD := hide (Below.refl w106.heap.size w106).drew
            have HFX := hide fun (X : World) (hX : Below wN.heap.size wN X) => unhide HXA X hX
            clear P__106 Q__106 HPQ HSB HAA HBA HXA hpq HX106
            generalize P.length = lP at *
            generalize Q.length = lQ at *
            generalize strOfNums P = sP at *
            generalize strOfNums Q = sQ at *
            go_upto_region 28 with fail
            refine regionL (S := fun w' => (convert 22 9 (.slice a103' lP c103')).run Try.prog w' = .ok (.string sP) w' ∧ (convert 22 9 (.slice a106' lQ c106')).run Try.prog w' = .ok (.string sQ) w') (fun _ => false) (by kernel_rfl) ?_
            refine anyL_take (i := 0) (v := ?vrs0) rfl (by kernel_rfl) (by kernel_rfl) (by kernel_rfl) (by kernel_rfl) (fun _ _ _ h => h) (Or.inl ⟨by rfl, ?hrs0⟩) (unhide HS0) ?_
            case hrs0 => (intro w hSw; (try dsimp only at hSw); go_simp) <;> with_reducible rfl
            simp only [Act.put, List.getElem_toArray, List.getElem_cons_zero, List.setIfInBounds_toArray, List.set_cons_zero, List.set_cons_succ]
            refine anyL_take (i := 1) (v := ?vrs1) rfl (by kernel_rfl) (by kernel_rfl) (by kernel_rfl) (by kernel_rfl) (fun _ _ _ h => h) (Or.inl ⟨by rfl, ?hrs1⟩) (unhide HS0) ?_
            case hrs1 => (intro w hSw; (try dsimp only at hSw); go_simp) <;> with_reducible rfl
            simp only [Act.put, List.getElem_toArray, List.getElem_cons_zero, List.getElem_cons_succ, List.setIfInBounds_toArray, List.set_cons_zero, List.set_cons_succ]
            refine anyL_take (i := 2) (v := ?vrs2) rfl (by kernel_rfl) (by kernel_rfl) (by kernel_rfl) (by kernel_rfl) (fun _ _ _ h => h) (Or.inl ⟨by rfl, ?hrs2⟩) (unhide HS0) ?_
            case hrs2 => (intro w hSw; (try dsimp only at hSw); go_simp) <;> with_reducible rfl
            simp only [Act.put, List.getElem_toArray, List.getElem_cons_zero, List.getElem_cons_succ, List.setIfInBounds_toArray, List.set_cons_zero, List.set_cons_succ]
            refine anyL_take (i := 3) (v := ?vrs3) rfl (by kernel_rfl) (by kernel_rfl) (by kernel_rfl) (by kernel_rfl) (fun _ _ _ h => h) (Or.inl ⟨by rfl, ?hrs3⟩) (unhide HS0) ?_
            case hrs3 => (intro w hSw; (try dsimp only at hSw); go_simp) <;> with_reducible rfl
            simp only [Act.put, List.getElem_toArray, List.getElem_cons_zero, List.getElem_cons_succ, List.setIfInBounds_toArray, List.set_cons_zero, List.set_cons_succ]
            refine anyL_take (i := 4) (v := ?vrs4) rfl (by kernel_rfl) (by kernel_rfl) (by kernel_rfl) (by kernel_rfl) (fun _ _ _ h => h) (Or.inl ⟨by rfl, ?hrs4⟩) (unhide HS0) ?_
            case hrs4 => (intro w hSw; (try dsimp only at hSw); go_simp) <;> with_reducible rfl
            simp only [Act.put, List.getElem_toArray, List.getElem_cons_zero, List.getElem_cons_succ, List.setIfInBounds_toArray, List.set_cons_zero, List.set_cons_succ]
            refine anyL_take (i := 5) (v := ?vrs5) rfl (by kernel_rfl) (by kernel_rfl) (by kernel_rfl) (by kernel_rfl) (fun _ _ _ h => h) (Or.inl ⟨by rfl, ?hrs5⟩) (unhide HS0) ?_
            case hrs5 => (intro w hSw; (try dsimp only at hSw); go_simp) <;> with_reducible rfl
            simp only [Act.put, List.getElem_toArray, List.getElem_cons_zero, List.getElem_cons_succ, List.setIfInBounds_toArray, List.set_cons_zero, List.set_cons_succ]
            refine anyL_take (i := 6) (v := ?vrs6) rfl (by kernel_rfl) (by kernel_rfl) (by kernel_rfl) (by kernel_rfl) (fun _ _ _ h => h) (Or.inl ⟨by rfl, ?hrs6⟩) (unhide HS0) ?_
            case hrs6 => (intro w hSw; (try dsimp only at hSw); go_simp) <;> with_reducible rfl
            simp only [Act.put, List.getElem_toArray, List.getElem_cons_zero, List.getElem_cons_succ, List.setIfInBounds_toArray, List.set_cons_zero, List.set_cons_succ]
            refine anyL_take (i := 7) (v := ?vrs7) rfl (by kernel_rfl) (by kernel_rfl) (by kernel_rfl) (by kernel_rfl) (fun _ _ _ h => h) (Or.inl ⟨by rfl, ?hrs7⟩) (unhide HS0) ?_
            case hrs7 => (intro w hSw; (try dsimp only at hSw); go_simp) <;> with_reducible rfl
            simp only [Act.put, List.getElem_toArray, List.getElem_cons_zero, List.getElem_cons_succ, List.setIfInBounds_toArray, List.set_cons_zero, List.set_cons_succ]
            refine anyL_take (i := 8) (v := ?vrs8) rfl (by kernel_rfl) (by kernel_rfl) (by kernel_rfl) (by kernel_rfl) (fun _ _ _ h => h) (Or.inl ⟨by rfl, ?hrs8⟩) (unhide HS0) ?_
            case hrs8 => (intro w hSw; (try dsimp only at hSw); go_simp) <;> with_reducible rfl
            simp only [Act.put, List.getElem_toArray, List.getElem_cons_zero, List.getElem_cons_succ, List.setIfInBounds_toArray, List.set_cons_zero, List.set_cons_succ]
            refine anyL_take (i := 9) (v := ?vrs9) rfl (by kernel_rfl) (by kernel_rfl) (by kernel_rfl) (by kernel_rfl) (fun _ _ _ h => h) (Or.inl ⟨by rfl, ?hrs9⟩) (unhide HS0) ?_
            case hrs9 => (intro w hSw; (try dsimp only at hSw); go_simp) <;> with_reducible rfl
            simp only [Act.put, List.getElem_toArray, List.getElem_cons_zero, List.getElem_cons_succ, List.setIfInBounds_toArray, List.set_cons_zero, List.set_cons_succ]
            refine anyL_take (i := 10) (v := ?vrs10) rfl (by kernel_rfl) (by kernel_rfl) (by kernel_rfl) (by kernel_rfl) (fun _ _ _ h => h) (Or.inl ⟨by rfl, ?hrs10⟩) (unhide HS0) ?_
            case hrs10 => (intro w hSw; (try dsimp only at hSw); go_simp) <;> with_reducible rfl
            simp only [Act.put, List.getElem_toArray, List.getElem_cons_zero, List.getElem_cons_succ, List.setIfInBounds_toArray, List.set_cons_zero, List.set_cons_succ]
            refine anyL_take (i := 11) (v := ?vrs11) rfl (by kernel_rfl) (by kernel_rfl) (by kernel_rfl) (by kernel_rfl) (fun _ _ _ h => h) (Or.inl ⟨by rfl, ?hrs11⟩) (unhide HS0) ?_
            case hrs11 => (intro w hSw; (try dsimp only at hSw); go_simp) <;> with_reducible rfl
            simp only [Act.put, List.getElem_toArray, List.getElem_cons_zero, List.getElem_cons_succ, List.setIfInBounds_toArray, List.set_cons_zero, List.set_cons_succ]
            refine anyL_take (i := 12) (v := ?vrs12) rfl (by kernel_rfl) (by kernel_rfl) (by kernel_rfl) (by kernel_rfl) (fun _ _ _ h => h) (Or.inl ⟨by rfl, ?hrs12⟩) (unhide HS0) ?_
            case hrs12 => (intro w hSw; (try dsimp only at hSw); go_simp) <;> with_reducible rfl
            simp only [Act.put, List.getElem_toArray, List.getElem_cons_zero, List.getElem_cons_succ, List.setIfInBounds_toArray, List.set_cons_zero, List.set_cons_succ]
            refine anyL_take (i := 13) (v := ?vrs13) rfl (by kernel_rfl) (by kernel_rfl) (by kernel_rfl) (by kernel_rfl) (fun _ _ _ h => h) (Or.inl ⟨by rfl, ?hrs13⟩) (unhide HS0) ?_
            case hrs13 => (intro w hSw; (try dsimp only at hSw); go_simp) <;> with_reducible rfl
            simp only [Act.put, List.getElem_toArray, List.getElem_cons_zero, List.getElem_cons_succ, List.setIfInBounds_toArray, List.set_cons_zero, List.set_cons_succ]
            refine anyL_ready (rs := [14]) (by kernel_rfl) (by simp) ?_
            refine AllL.cons rfl (fun K hK => ?_) AllL.nil
            go_simp
            refine (unhide HC1).mono ?_
            rintro yy v1 ⟨rfl, x1⟩
            have HS1 := hide (unhide HSQ v1 ((unhide HDD).trans (x1.mono (unhide HDD).size)))
            have HX1 := hide ((unhide HXD).trans (x1.mono (unhide HXD).size))
            clear HC1 x1
            refine unhide hK _ _ (fun _ => unhide HS1) ?_
            clear hK K
            refine anyL_take (i := 15) (v := ?vrs14) rfl (by kernel_rfl) (by kernel_rfl) (by kernel_rfl) (by kernel_rfl) (fun _ _ _ h => h) (Or.inl ⟨by rfl, ?hrs14⟩) (unhide HS1) ?_
            case hrs14 => (intro w hSw; (try dsimp only at hSw); go_simp) <;> with_reducible rfl
            simp only [Act.put, List.getElem_toArray, List.getElem_cons_zero, List.getElem_cons_succ, List.setIfInBounds_toArray, List.set_cons_zero, List.set_cons_succ]
            refine anyL_take (i := 16) (v := ?vrs15) rfl (by kernel_rfl) (by kernel_rfl) (by kernel_rfl) (by kernel_rfl) (fun _ _ _ h => h) (Or.inl ⟨by rfl, ?hrs15⟩) (unhide HS1) ?_
            case hrs15 => (intro w hSw; (try dsimp only at hSw); go_simp) <;> with_reducible rfl
            simp only [Act.put, List.getElem_toArray, List.getElem_cons_zero, List.getElem_cons_succ, List.setIfInBounds_toArray, List.set_cons_zero, List.set_cons_succ]
            refine anyL_take (i := 17) (v := ?vrs16) rfl (by kernel_rfl) (by kernel_rfl) (by kernel_rfl) (by kernel_rfl) (fun _ _ _ h => h) (Or.inl ⟨by rfl, ?hrs16⟩) (unhide HS1) ?_
            case hrs16 => (intro w hSw; (try dsimp only at hSw); go_simp) <;> with_reducible rfl
            simp only [Act.put, List.getElem_toArray, List.getElem_cons_zero, List.getElem_cons_succ, List.setIfInBounds_toArray, List.set_cons_zero, List.set_cons_succ]
            refine anyL_done (by kernel_rfl) ?_ _
            rw [unhide HPS, beq_self_eq_true]
            have HFF := hide (unhide HFX v1 (unhide HX1))
            clear HPS HS0 HSQ HXD HDD HFX HX1
            go_wp2_with fail
            refine bodyPost_ret (results_tmp rfl _ _ _) rfl ⟨rfl, unhide HFF⟩

end Go.Proofs.Ytecolpnbbpbflab
