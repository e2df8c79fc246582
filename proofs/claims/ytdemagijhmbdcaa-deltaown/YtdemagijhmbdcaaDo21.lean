/- Layer 13, the document's: add. · Layer 13, the document's: add whole; Canon. -/
import Derived.Test.YtdemagijhmbdcaaDo20
import Derived.Test.YtdemagijhmbdcaaDo12

section
namespace Go.Proofs.Ytdemagijhmbdcaa
open Go.ChangeShapes Go.WideShapes Go.ChangeAt Go.RowKit
attribute [local go_sem] Oper.semAt_some

theorem rowD_set {W : World} {B g c n s : Nat} {t : TypeId} {xs : List Value} (h : W.ownsRow B t s (.slice (some ⟨g, 0, none⟩) n c) n xs) (j : Nat) (u : Value) : (W.setCell ⟨g, j, none⟩ u).ownsRow B t s (.slice (some ⟨g, 0, none⟩) n c) n (xs.set j u) := by
  have hh := h
  rcases h.2 with ⟨h0, _⟩ | ⟨g', cap', cur, hv, hb, hg, hc, hm, hs, ht⟩
  · cases h0
  · cases hv
    refine ⟨by rw [List.length_set]; exact h.1, Or.inr ⟨g, c, cur.setIfInBounds j u, rfl, hb, ?_, hc, hm, by simpa using hs, ?_⟩⟩
    · have hlt : g < W.heap.size := (Array.getElem?_eq_some_iff.1 hg).1
      simp only [World.setCell, Array.getElem?_modify, if_true, hg, Option.map_some]
      rfl
    · rw [Array.toList_setIfInBounds, List.take_set, ht]
theorem rowD_cell {W : World} {B g c n s : Nat} {t : TypeId} {xs : List Value} (h : W.ownsRow B t s (.slice (some ⟨g, 0, none⟩) n c) n xs) {j : Nat} {u : Value} (hj : xs[j]? = some u) : W.cell? ⟨g, j, none⟩ = some u ∧ W.frozen? ⟨g, j, none⟩ = false := by
  have := World.ownsRow.cells h rfl j u hj
  rw [Addr.add_lit, Nat.zero_add] at this
  refine ⟨this, ?_⟩
  rcases h.2 with ⟨h0, _⟩ | ⟨g', cap', cur, hv, _, hg, _⟩
  · cases h0
  · cases hv; simp [World.frozen?, hg]
theorem opsV_last (d : List Dop) (x : Dop) : (opsV (d ++ [x]))[d.length * 3]? = some (.int .i64 x.k) ∧ (opsV (d ++ [x]))[d.length * 3 + 1]? = some (.int .i64 x.n) ∧ (opsV (d ++ [x]))[d.length * 3 + 2]? = some (.string (strOfNums x.t)) := by
  have hl := opsV_len d
  rw [opsV_app, opsV_one]
  refine ⟨?_, ?_, ?_⟩
  · rw [List.getElem?_append_right (by omega), hl, Nat.sub_self]; rfl
  · rw [List.getElem?_append_right (by omega), hl, show d.length * 3 + 1 - d.length * 3 = 1 by omega]; rfl
  · rw [List.getElem?_append_right (by omega), hl, show d.length * 3 + 2 - d.length * 3 = 2 by omega]; rfl
theorem opsV_set1 (d : List Dop) (x : Dop) (n : Int) : (opsV (d ++ [x])).set (d.length * 3 + 1) (.int .i64 n) = opsV (d ++ [⟨x.k, n, x.t⟩]) := by
  rw [opsV_app, opsV_app, opsV_one, opsV_one, List.set_append_right _ _ (by rw [opsV_len]; omega), opsV_len, show d.length * 3 + 1 - d.length * 3 = 1 by omega]
  rfl
theorem opsV_set2 (d : List Dop) (x : Dop) (t : List Int) : (opsV (d ++ [x])).set (d.length * 3 + 2) (.string (strOfNums t)) = opsV (d ++ [⟨x.k, x.n, t⟩]) := by
  rw [opsV_app, opsV_app, opsV_one, opsV_one, List.set_append_right _ _ (by rw [opsV_len]; omega), opsV_len, show d.length * 3 + 2 - d.length * 3 = 2 by omega]
  rfl
theorem str_appD (a b : List Int) : strOfNums a ++ strOfNums b = strOfNums (a ++ b) := by
  apply ByteArray.ext
  simp [strOfNums]
/-- the operation that add writes behind the others -/
def newD (k n : Int) (t : List Int) : Dop := if k = 2 then ⟨2, 0, t⟩ else ⟨k, n, []⟩
theorem add1_nil (k n : Int) (t : List Int) : add1 [] k n t = [newD k n t] := rfl
theorem add1_other {d : List Dop} {x : Dop} {k n : Int} {t : List Int} (h : ¬ x.k = k) : add1 (d ++ [x]) k n t = d ++ [x] ++ [newD k n t] := by
  unfold add1
  simp only [List.getLast?_append, List.getLast?_singleton, Option.some_or, if_neg h]
  rfl
theorem add1_same {d : List Dop} {x : Dop} {k n : Int} {t : List Int} (h : x.k = k) : add1 (d ++ [x]) k n t = d ++ [⟨x.k, x.n + n, x.t ++ t⟩] := by
  unfold add1
  simp only [List.getLast?_append, List.getLast?_singleton, Option.some_or, if_pos h, List.dropLast_concat]
/-- nothing to add -/
def noD (k n : Int) (t : List Int) : Prop := (k = 2 ∧ t = []) ∨ (¬ k = 2 ∧ n = 0)
theorem no_tests {k n : Int} {t : List Int} (h : ¬ noD k n t) : ((k == 2) = true ∧ (k != 2) = false ∧ t.isEmpty = false) ∨ ((k == 2) = false ∧ (k != 2) = true ∧ (n == 0) = false) := by
  unfold noD at h
  by_cases hk : k = 2
  · left
    refine ⟨by simp [hk], by simp [hk], ?_⟩
    cases t with
    | nil => exact absurd (.inl ⟨hk, rfl⟩) h
    | cons a r => rfl
  · right
    refine ⟨by simp [hk], by simp [hk], ?_⟩
    have : ¬ n = 0 := fun hn => h (.inr ⟨hk, hn⟩)
    simpa using this
set_option maxRecDepth 100000 in
set_option maxHeartbeats 4000000 in
/-- of nothing -/
theorem RAdd0_at (a : Option Addr) (c : Nat) (k n : Int) (t : List Int) (w : World) (hno : ¬ noD k n t) :
    Calls Try.prog 51 #[.slice a 0 c, .int .i64 k, .int .i64 n, .string (strOfNums t)] w fun y w' => ∃ v, y = .returned v ∧ w'.ownsRow w.heap.size 34 3 v (add1 [] k n t).length (opsV (add1 [] k n t)) ∧ Below w.heap.size w w' := by
  rw [add1_nil]
  obtain ⟨v1, w1, r1, o1, b1⟩ := copy_op w a c [] 24 (.inl rfl) (.inl rfl) (by simp)
  have hte := str_empD t
  rcases no_tests hno with ⟨s1, s2, s3⟩ | ⟨s1, s2, s3⟩
  · obtain rfl : k = 2 := by simpa using s1
    obtain ⟨g2, k2, w2, r2, o2, _, b2⟩ := push_op w1 w.heap.size 0 v1 [] 2 0 (strOfNums t) 24 o1 (by omega) b1.size
    rw [s3] at hte
    have R1 := hide r1
    have R2 := hide r2
    have HO : Hid (w2.ownsRow w.heap.size 34 3 (.slice (some ⟨g2, 0, none⟩) 1 k2) [newD 2 n t].length (opsV [newD 2 n t])) := hide (by simpa [newD, opsV_one, opL] using o2)
    have HB := hide (b1.trans b2)
    clear r1 r2 o1 o2 b1 b2 hno s1 s2 s3
    generalize [newD 2 n t] = L at *
    go_enter Try.func51, Try.ntmps51
    go_wp2_with (first | (at_builtin; refine wpList_append_known rfl _ _ 24 24 rfl _ _ rfl rfl _ _ (unhide R1) ?_; clear R1) | (at_builtin; refine wpList_append_known rfl _ _ 24 24 rfl _ _ rfl rfl _ _ (unhide R2) ?_; clear R2))
    refine bodyPost_ret (results_tmp rfl _ _ _) rfl ⟨.slice (some ⟨g2, 0, none⟩) 1 k2, rfl, unhide HO, unhide HB⟩
  · obtain ⟨g2, k2, w2, r2, o2, _, b2⟩ := push_op w1 w.heap.size 0 v1 [] k n ⟨#[]⟩ 24 o1 (by omega) b1.size
    have hk2 : ¬ k = 2 := by simpa using s1
    have R1 := hide r1
    have R2 := hide r2
    have HO : Hid (w2.ownsRow w.heap.size 34 3 (.slice (some ⟨g2, 0, none⟩) 1 k2) [newD k n t].length (opsV [newD k n t])) := hide (by
      have e : opsV [newD k n t] = [.int .i64 k, .int .i64 n, .string ⟨#[]⟩] := by unfold newD; rw [if_neg hk2, opsV_one]; rfl
      rw [e]; simpa using o2)
    have HB := hide (b1.trans b2)
    clear r1 r2 o1 o2 b1 b2 hno hte hk2
    generalize [newD k n t] = L at *
    go_enter Try.func51, Try.ntmps51
    go_wp2_with (first | (at_builtin; refine wpList_append_known rfl _ _ 24 24 rfl _ _ rfl rfl _ _ (unhide R1) ?_; clear R1) | (at_builtin; refine wpList_append_known rfl _ _ 24 24 rfl _ _ rfl rfl _ _ (unhide R2) ?_; clear R2))
    refine bodyPost_ret (results_tmp rfl _ _ _) rfl ⟨.slice (some ⟨g2, 0, none⟩) 1 k2, rfl, unhide HO, unhide HB⟩

set_option maxRecDepth 100000 in
set_option maxHeartbeats 4000000 in
/-- behind another kind -/
theorem RAdd2_at (a : Option Addr) (c : Nat) (d : List Dop) (x : Dop) (k n : Int) (t : List Int) (w : World) (h : IsO w a (d ++ [x])) (hno : ¬ noD k n t) (hx : ¬ x.k = k) (hdr : ¬ (k = 2 ∧ x.k = 3)) (hl : d.length ≤ 1073741824) :
    Calls Try.prog 51 #[.slice a (d.length + 1) c, .int .i64 k, .int .i64 n, .string (strOfNums t)] w fun y w' => ∃ v, y = .returned v ∧ w'.ownsRow w.heap.size 34 3 v (add1 (d ++ [x]) k n t).length (opsV (add1 (d ++ [x]) k n t)) ∧ Below w.heap.size w w' := by
  rw [add1_other hx]
  obtain ⟨g, off, rfl, hg, c0, c1, c2⟩ := h.three (k := d.length) (by simp)
  have hgx : (d ++ [x]).getD d.length opZ = x := by simp
  rw [hgx] at c0 c1 c2
  obtain ⟨v1, w1, r1, o1, b1⟩ := copy_op w (some ⟨g, off, none⟩) c (d ++ [x]) 24 h (.inr ⟨_, rfl⟩) (by simp; omega)
  have f0 := (b1.cell (p := ⟨g, off + d.length * 3, none⟩) hg).trans c0
  have hte := str_empD t
  have e1 : wrap64 (((d.length + 1 : Nat) : Int) - 1) = (d.length : Int) := by rw [wrapD _ (by omega) (by omega)]; omega
  have e2 : wrap64 ((d.length : Int) + 1 - 1) = (d.length : Int) := by rw [wrapD _ (by omega) (by omega)]; omega
  have e3 : wrap64 (d.length : Int) = (d.length : Int) := by rw [wrapD _ (by omega) (by omega)]
  have t9 : decide ((d.length : Int) ≥ 0) = true := decide_eq_true (by omega)
  have t9' : decide (0 ≤ (d.length : Int)) = true := decide_eq_true (by omega)
  have hlt : (d.length : Int) < ((d.length + 1 : Nat) : Int) := by omega
  have hx1 : (x.k == k) = false := by simpa using hx
  rw [List.length_append, List.length_singleton] at r1 o1
  rcases no_tests hno with ⟨s1, s2, s3⟩ | ⟨s1, s2, s3⟩
  · obtain rfl : k = 2 := by simpa using s1
    have hx3 : (x.k == 3) = false := by simpa using fun e => hdr ⟨rfl, e⟩
    obtain ⟨g2, k2, w2, r2, o2, _, b2⟩ := push_op w1 w.heap.size (d.length + 1) v1 (opsV (d ++ [x])) 2 0 (strOfNums t) 24 o1 (by omega) b1.size
    rw [s3] at hte
    have R1 := hide r1
    have R2 := hide r2
    have HO : Hid (w2.ownsRow w.heap.size 34 3 (.slice (some ⟨g2, 0, none⟩) (d.length + 1 + 1) k2) (d ++ [x] ++ [newD 2 n t]).length (opsV (d ++ [x] ++ [newD 2 n t]))) := hide (by
      rw [opsV_app, opsV_one, show (d ++ [x] ++ [newD 2 n t]).length = d.length + 1 + 1 by simp]
      exact o2)
    have HB := hide (b1.trans b2)
    clear r1 r2 o1 o2 b1 b2 hno s1 s2 s3 h hx hdr hl hgx c1 c2
    generalize d ++ [x] ++ [newD 2 n t] = L at *
    generalize x.k = xk at *
    generalize d.length = m at *
    go_enter Try.func51, Try.ntmps51
    go_wp2_with (first | (at_builtin; refine wpList_append_known rfl _ _ 24 24 rfl _ _ rfl rfl _ _ (unhide R1) ?_; clear R1) | (at_builtin; refine wpList_append_known rfl _ _ 24 24 rfl _ _ rfl rfl _ _ (unhide R2) ?_; clear R2))
    refine bodyPost_ret (results_tmp rfl _ _ _) rfl ⟨.slice (some ⟨g2, 0, none⟩) (m + 1 + 1) k2, rfl, unhide HO, unhide HB⟩
  · obtain ⟨g2, k2, w2, r2, o2, _, b2⟩ := push_op w1 w.heap.size (d.length + 1) v1 (opsV (d ++ [x])) k n ⟨#[]⟩ 24 o1 (by omega) b1.size
    have hk2 : ¬ k = 2 := by simpa using s1
    have R1 := hide r1
    have R2 := hide r2
    have HO : Hid (w2.ownsRow w.heap.size 34 3 (.slice (some ⟨g2, 0, none⟩) (d.length + 1 + 1) k2) (d ++ [x] ++ [newD k n t]).length (opsV (d ++ [x] ++ [newD k n t]))) := hide (by
      have e : opsV [newD k n t] = [.int .i64 k, .int .i64 n, .string ⟨#[]⟩] := by unfold newD; rw [if_neg hk2, opsV_one]; rfl
      rw [opsV_app (d ++ [x]), e, show (d ++ [x] ++ [newD k n t]).length = d.length + 1 + 1 by simp]
      exact o2)
    have HB := hide (b1.trans b2)
    clear r1 r2 o1 o2 b1 b2 hno h hx hdr hl hgx c1 c2 hte hk2
    generalize d ++ [x] ++ [newD k n t] = L at *
    generalize x.k = xk at *
    generalize d.length = m at *
    go_enter Try.func51, Try.ntmps51
    go_wp2_with (first | (at_builtin; refine wpList_append_known rfl _ _ 24 24 rfl _ _ rfl rfl _ _ (unhide R1) ?_; clear R1) | (at_builtin; refine wpList_append_known rfl _ _ 24 24 rfl _ _ rfl rfl _ _ (unhide R2) ?_; clear R2))
    refine bodyPost_ret (results_tmp rfl _ _ _) rfl ⟨.slice (some ⟨g2, 0, none⟩) (m + 1 + 1) k2, rfl, unhide HO, unhide HB⟩
theorem rowD_some {X : World} {B s n : Nat} {t : TypeId} {v : Value} {xs : List Value} (h : X.ownsRow B t s v n xs) (hn : 0 < n) : ∃ g c, v = .slice (some ⟨g, 0, none⟩) n c ∧ B ≤ g := by
  rcases h.2 with ⟨_, h2⟩ | ⟨g, cap, cur, rfl, h3, _⟩
  · omega
  · exact ⟨g, cap, rfl, h3⟩
theorem last_arith {m : Nat} (hm : m ≤ 1073741824) : wrap64 (((m + 1 : Nat) : Int) - 1) = (m : Int) ∧ wrap64 ((m : Int) + 1 - 1) = (m : Int) ∧ wrap64 (m : Int) = (m : Int) ∧ decide ((m : Int) ≥ 0) = true ∧ decide (0 ≤ (m : Int)) = true ∧ (m : Int) < ((m + 1 : Nat) : Int) :=
  ⟨by rw [wrapD _ (by omega) (by omega)]; omega, by rw [wrapD _ (by omega) (by omega)]; omega, wrapD _ (by omega) (by omega), decide_eq_true (by omega), decide_eq_true (by omega), by omega⟩
set_option maxRecDepth 100000 in
set_option maxHeartbeats 4000000 in
/-- behind its own kind -/
theorem RAdd3_at (a : Option Addr) (c : Nat) (d : List Dop) (x : Dop) (k n : Int) (t : List Int) (w : World) (h : IsO w a (d ++ [x])) (hno : ¬ noD k n t) (hx : x.k = k) (hl : d.length ≤ 1073741824) (hs : -4611686018427387904 ≤ x.n + n ∧ x.n + n ≤ 4611686018427387904) (hq : x.t.length + t.length ≤ 4611686018427387904) :
    Calls Try.prog 51 #[.slice a (d.length + 1) c, .int .i64 k, .int .i64 n, .string (strOfNums t)] w fun y w' => ∃ v, y = .returned v ∧ w'.ownsRow w.heap.size 34 3 v (add1 (d ++ [x]) k n t).length (opsV (add1 (d ++ [x]) k n t)) ∧ Below w.heap.size w w' := by
  rw [add1_same hx]
  have HZ : Hid (¬ 9223372036854775807 < (strOfNums x.t).size + (strOfNums t).size) := hide (by rw [strOfNums_size, strOfNums_size]; omega)
  have e4 : wrap64 (x.n + n) = x.n + n := wrapD _ (by omega) (by omega)
  obtain ⟨g, off, rfl, hg, c0, c1, c2⟩ := h.three (k := d.length) (by simp)
  have hgx : (d ++ [x]).getD d.length opZ = x := by simp
  rw [hgx] at c0 c1 c2
  obtain ⟨v1, w1, r1, o1, b1⟩ := copy_op w (some ⟨g, off, none⟩) c (d ++ [x]) 24 h (.inr ⟨_, rfl⟩) (by simp; omega)
  have f0 := (b1.cell (p := ⟨g, off + d.length * 3, none⟩) hg).trans c0
  rw [List.length_append, List.length_singleton] at r1 o1
  obtain ⟨g1, k1, rfl, hg1⟩ := rowD_some o1 (by omega)
  obtain ⟨l0, l1, l2⟩ := opsV_last d x
  obtain ⟨m1, z1⟩ := rowD_cell o1 l1
  have o2 := rowD_set o1 (d.length * 3 + 1) (.int .i64 (x.n + n))
  rw [opsV_set1] at o2
  obtain ⟨_, _, l3⟩ := opsV_last d ⟨x.k, x.n + n, x.t⟩
  obtain ⟨m2, z2⟩ := rowD_cell o2 l3
  have o3 := rowD_set o2 (d.length * 3 + 2) (.string (strOfNums (x.t ++ t)))
  have e9 := opsV_set2 d ⟨x.k, x.n + n, x.t⟩ (x.t ++ t)
  dsimp only at e9
  rw [e9] at o3
  have hte := str_empD t
  obtain ⟨e1, e2, e3, t9, t9', hlt⟩ := last_arith hl
  have hsa := str_appD x.t t
  have R1 := hide r1
  have HO : Hid (((w1.setCell ⟨g1, d.length * 3 + 1, none⟩ (.int .i64 (x.n + n))).setCell ⟨g1, d.length * 3 + 2, none⟩ (.string (strOfNums (x.t ++ t)))).ownsRow w.heap.size 34 3 (.slice (some ⟨g1, 0, none⟩) (d.length + 1) k1) (d ++ [(⟨x.k, x.n + n, x.t ++ t⟩ : Dop)]).length (opsV (d ++ [(⟨x.k, x.n + n, x.t ++ t⟩ : Dop)]))) := hide (by
    rw [show (d ++ [(⟨x.k, x.n + n, x.t ++ t⟩ : Dop)]).length = d.length + 1 by simp]
    exact o3)
  have HB := hide ((b1.setCell (p := ⟨g1, d.length * 3 + 1, none⟩) hg1 (.int .i64 (x.n + n))).setCell (p := ⟨g1, d.length * 3 + 2, none⟩) hg1 (.string (strOfNums (x.t ++ t))))
  have hx1 : (x.k == k) = true := by simpa using hx
  have HNT := hide (no_tests hno)
  clear r1 o1 b1 hno h hl hgx c1 c2 o2 o3 e9 l0 l1 l2 l3 hs hg1 hq
  generalize d ++ [(⟨x.k, x.n + n, x.t ++ t⟩ : Dop)] = L at *
  dsimp only at m2
  obtain ⟨xk, xn, xt⟩ := x
  dsimp only at *
  subst hx
  generalize strOfNums (xt ++ t) = sq at *
  generalize strOfNums xt = sx at *
  generalize d.length = m at *
  have HM1 := hide (And.intro m1 z1)
  have HM2 := hide (And.intro m2 z2)
  have HSA := hide hsa
  clear m1 z1 m2 z2 hsa
  rcases unhide HNT with ⟨s1, s2, s3⟩ | ⟨s1, s2, s3⟩
  · obtain rfl : xk = 2 := by simpa using s1
    rw [s3] at hte
    generalize strOfNums t = st at *
    clear HNT s1 s2 s3
    go_enter Try.func51, Try.ntmps51
    go_upto_region 10 with (at_builtin; refine wpList_append_known rfl _ _ 24 24 rfl _ _ rfl rfl _ _ (unhide R1) ?_; clear R1)
    clear c0 f0 t9 t9' e1 e2 hx1
    obtain ⟨m1, z1⟩ := unhide HM1
    go_upto_region 11 with fail
    clear m1 z1 HM1
    generalize w1.setCell ⟨g1, m * 3 + 1, none⟩ (.int .i64 (xn + n)) = w2 at *
    obtain ⟨m2, z2⟩ := unhide HM2
    have hsa := unhide HSA
    have hsz := unhide HZ
    go_wp2_with fail
    refine bodyPost_ret (results_tmp rfl _ _ _) rfl ⟨.slice (some ⟨g1, 0, none⟩) (m + 1) k1, rfl, unhide HO, unhide HB⟩
  · generalize strOfNums t = st at *
    clear HNT hte
    go_enter Try.func51, Try.ntmps51
    go_upto_region 10 with (at_builtin; refine wpList_append_known rfl _ _ 24 24 rfl _ _ rfl rfl _ _ (unhide R1) ?_; clear R1)
    clear c0 f0 t9 t9' e1 e2 hx1
    obtain ⟨m1, z1⟩ := unhide HM1
    go_upto_region 11 with fail
    clear m1 z1 HM1
    generalize w1.setCell ⟨g1, m * 3 + 1, none⟩ (.int .i64 (xn + n)) = w2 at *
    obtain ⟨m2, z2⟩ := unhide HM2
    have hsa := unhide HSA
    have hsz := unhide HZ
    go_wp2_with fail
    refine bodyPost_ret (results_tmp rfl _ _ _) rfl ⟨.slice (some ⟨g1, 0, none⟩) (m + 1) k1, rfl, unhide HO, unhide HB⟩

theorem list_snoc {d : List Dop} (h : d ≠ []) : ∃ e x, d = e ++ [x] := ⟨d.dropLast, d.getLast h, (List.dropLast_concat_getLast h).symm⟩
/-- where no text comes behind what is dropped -/
theorem RAdd1_at (a : Option Addr) (c : Nat) (d : List Dop) (k n : Int) (t : List Int) (w : World) (h : IsO w a d) (hno : ¬ noD k n t) (hdr : ∀ x, d.getLast? = some x → ¬ (k = 2 ∧ x.k = 3)) (hl : d.length ≤ 1073741824) (hs : ∀ x, d.getLast? = some x → (-4611686018427387904 ≤ x.n + n ∧ x.n + n ≤ 4611686018427387904) ∧ x.t.length + t.length ≤ 4611686018427387904) :
    Calls Try.prog 51 #[.slice a d.length c, .int .i64 k, .int .i64 n, .string (strOfNums t)] w fun y w' => ∃ v, y = .returned v ∧ w'.ownsRow w.heap.size 34 3 v (add1 d k n t).length (opsV (add1 d k n t)) ∧ Below w.heap.size w w' := by
  by_cases hd : d = []
  · subst hd; exact RAdd0_at a c k n t w hno
  · obtain ⟨e, x, rfl⟩ := list_snoc hd
    have hx := hs x (by simp)
    have hy := hdr x (by simp)
    rw [List.length_append, List.length_singleton] at hl ⊢
    by_cases hk : x.k = k
    · exact RAdd3_at a c e x k n t w h hno hk (by omega) hx.1 hx.2
    · exact RAdd2_at a c e x k n t w h hno hk hy (by omega)

end Go.Proofs.Ytdemagijhmbdcaa
end

section
namespace Go.Proofs.Ytdemagijhmbdcaa
open Go.ChangeShapes Go.WideShapes Go.ChangeAt Go.RowKit
attribute [local go_sem] Oper.semAt_some

theorem IsO.pre {W : World} {a : Option Addr} {d e : List Dop} (h : IsO W a (d ++ e)) : IsO W a d := by
  rcases h with h | ⟨g, off, rfl, hg, hc⟩
  · exact Or.inl (List.append_eq_nil_iff.1 h).1
  · refine Or.inr ⟨g, off, rfl, hg, fun k hk => ?_⟩
    have := hc k (by rw [List.length_append]; omega)
    rwa [show (d ++ e).getD k opZ = d.getD k opZ by simp [List.getD_eq_getElem?_getD, List.getElem?_append_left hk]] at this
theorem IsO.some {W : World} {a : Option Addr} {d : List Dop} (h : IsO W a d) : d = [] ∨ ∃ q, a = some q := by
  rcases h with h | ⟨g, off, rfl, _⟩
  · exact .inl h
  · exact .inr ⟨_, rfl⟩
/-- what may be added to -/
structure AdOk (d : List Dop) (n : Int) (t : List Int) : Prop where
  c : Can d
  l : d.length ≤ 1073741823
  xn : ∀ x ∈ d, x.n ≤ 2305843009213693952
  xt : ∀ x ∈ d, x.t.length ≤ 2305843009213693952
  nn : 0 ≤ n ∧ n ≤ 2305843009213693952
  tt : t.length ≤ 2305843009213693952
theorem pln_n {o : Dop} (h : Pln o) : 0 ≤ o.n := by rcases h with ⟨_, h, _⟩ | ⟨_, h, _⟩ <;> omega
set_option maxRecDepth 100000 in
set_option maxHeartbeats 4000000 in
theorem RAdd4_at (a : Option Addr) (c : Nat) (e : List Dop) (x : Dop) (n : Int) (t : List Int) (w : World) (h : IsO w a (e ++ [x])) (hx : x.k = 3) (ht : t ≠ []) (hc : e.length + 1 ≤ c)
    (hA : ∀ X a1 c1, IsO X a1 e → Calls Try.prog 51 #[.slice a1 e.length c1, .int .i64 2, .int .i64 0, .string (strOfNums t)] X fun y X' => ∃ v, y = .returned v ∧ X'.ownsRow X.heap.size 34 3 v (add1 e 2 0 t).length (opsV (add1 e 2 0 t)) ∧ Below X.heap.size X X') (hl : e.length ≤ 1073741823) (hl2 : (add1 e 2 0 t).length ≤ 1073741825) :
    Calls Try.prog 51 #[.slice a (e.length + 1) c, .int .i64 2, .int .i64 n, .string (strOfNums t)] w fun y w' => ∃ v, y = .returned v ∧ w'.ownsRow w.heap.size 34 3 v (add1 e 2 0 t ++ [(⟨3, x.n, []⟩ : Dop)]).length (opsV (add1 e 2 0 t ++ [(⟨3, x.n, []⟩ : Dop)])) ∧ Below w.heap.size w w' := by
  obtain ⟨g, off, rfl, hg, c0, c1, c2⟩ := h.three (k := e.length) (by simp)
  have hgx : (e ++ [x]).getD e.length opZ = x := by simp
  rw [hgx] at c0 c1 c2
  rw [hx] at c0
  obtain ⟨v1, w1, r1, o1, b1⟩ := copy_op w (some ⟨g, off, none⟩) c e 24 h.pre (.inr ⟨_, rfl⟩) (by omega)
  obtain ⟨a1, k1, rfl, i1, _⟩ := own_isO o1
  have hte := str_empD t
  have hte2 : t.isEmpty = false := by cases t with | nil => exact absurd rfl ht | cons a r => rfl
  rw [hte2] at hte
  obtain ⟨e1, e2, e3, t9, t9', hlt⟩ := last_arith (m := e.length) (by omega)
  have HC := hide (hA w1 a1 k1 i1)
  have R1 := hide r1
  have HB1 := hide b1
  have HL2 := hide hl2
  clear h hx ht hA hgx r1 o1 i1 b1 c2 hte2 hl hl2
  generalize add1 e 2 0 t = L at *
  generalize strOfNums t = st at *
  generalize x.n = xn at *
  obtain ⟨M, hM⟩ : ∃ M, M = L ++ [(⟨3, xn, []⟩ : Dop)] := ⟨_, rfl⟩
  rw [← hM]
  have HMM := hide hM
  clear hM
  generalize e.length = m at *
  go_enter Try.func51, Try.ntmps51
  go_wp2_with (at_builtin; refine wpList_append_known rfl _ _ 24 24 rfl _ _ rfl rfl _ _ (unhide R1) ?_; clear R1)
  refine (unhide HC).mono ?_
  rintro y w2 ⟨v2, rfl, o2, x2⟩
  dsimp only
  obtain ⟨g3, k3, w3, r3, o3, _, b3⟩ := push_op w2 w1.heap.size L.length v2 (opsV L) 3 xn ⟨#[]⟩ 24 o2 (by have := unhide HL2; omega) x2.size
  have R3 := hide r3
  have HO : Hid (w3.ownsRow w.heap.size 34 3 (.slice (some ⟨g3, 0, none⟩) (L.length + 1) k3) M.length (opsV M)) := hide (by
    rw [unhide HMM, opsV_app, opsV_one, List.length_append, List.length_singleton]
    exact own_lower o3 (unhide HB1).size)
  have HB := hide ((unhide HB1).trans ((x2.trans b3).mono (unhide HB1).size))
  clear HC r3 o2 o3 b3 x2 c0 c1 t9 t9' e1 e2 e3
  generalize L.length + 1 = q at *
  go_wp2_with (at_builtin; refine wpList_append_known rfl _ _ 24 24 rfl _ _ rfl rfl _ _ (unhide R3) ?_; clear R3)
  refine bodyPost_ret (results_tmp rfl _ _ _) rfl ⟨.slice (some ⟨g3, 0, none⟩) q k3, rfl, unhide HO, unhide HB⟩

theorem add1_len (d : List Dop) (k n : Int) (t : List Int) : (add1 d k n t).length ≤ d.length + 1 := by
  by_cases hd : d = []
  · subst hd; rw [add1_nil]; simp
  · obtain ⟨e, x, rfl⟩ := list_snoc hd
    by_cases hk : x.k = k
    · rw [add1_same hk]; simp
    · rw [add1_other hk]; simp
theorem no_yes {k n : Int} {t : List Int} (h : noD k n t) : ((k == 2) = true ∧ (k != 2) = false ∧ t.isEmpty = true) ∨ ((k == 2) = false ∧ (k != 2) = true ∧ (n == 0) = true) := by
  rcases h with ⟨h1, h2⟩ | ⟨h1, h2⟩
  · left; simp [h1, h2]
  · right; simp [h1, h2]
set_option maxRecDepth 100000 in
set_option maxHeartbeats 2000000 in
theorem RAddN_at (v : Value) (k n : Int) (t : List Int) (w : World) (hno : noD k n t) :
    Calls Try.prog 51 #[v, .int .i64 k, .int .i64 n, .string (strOfNums t)] w fun y w' => y = .returned v ∧ Below w.heap.size w w' := by
  have hte := str_empD t
  rcases no_yes hno with ⟨s1, s2, s3⟩ | ⟨s1, s2, s3⟩
  · obtain rfl : k = 2 := by simpa using s1
    rw [s3] at hte
    generalize strOfNums t = st at *
    clear hno s1 s2 s3
    go_enter Try.func51, Try.ntmps51
    go_wp2_with fail
    refine bodyPost_ret (results_tmp rfl _ _ _) rfl ⟨rfl, Below.refl _ _⟩
  · obtain rfl : n = 0 := by simpa using s3
    generalize strOfNums t = st at *
    clear hno hte s3
    go_enter Try.func51, Try.ntmps51
    go_wp2_with fail
    refine bodyPost_ret (results_tmp rfl _ _ _) rfl ⟨rfl, Below.refl _ _⟩
theorem addD_no {d : List Dop} {k n : Int} {t : List Int} (h : noD k n t) : addD d k n t = d := by unfold addD; unfold noD at h; rw [if_pos h]
theorem addD_one {d : List Dop} {k n : Int} {t : List Int} (h : ¬ noD k n t) (hx : ∀ x, d.getLast? = some x → ¬ (k = 2 ∧ x.k = 3)) : addD d k n t = add1 d k n t := by
  unfold addD
  unfold noD at h
  rw [if_neg h]
  cases hl : d.getLast? with
  | none => rfl
  | some x => simp only [hx x hl, if_false]
theorem addD_put {e : List Dop} {x : Dop} {n : Int} {t : List Int} (h : t ≠ []) (hx : x.k = 3) : addD (e ++ [x]) 2 n t = add1 e 2 0 t ++ [⟨3, x.n, []⟩] := by
  unfold addD
  rw [if_neg (by simp [h])]
  simp [hx]
theorem can_preD {e : List Dop} {x : Dop} (h : Can (e ++ [x])) : Can e := ⟨fun o ho => h.p o (by simp [ho]), (chn_app h.c).1⟩
theorem RAdd_at (a : Option Addr) (c : Nat) (d : List Dop) (k n : Int) (t : List Int) (w : World) (h : IsO w a d) (hc : d.length ≤ c) (ok : AdOk d n t) :
    Calls Try.prog 51 #[.slice a d.length c, .int .i64 k, .int .i64 n, .string (strOfNums t)] w fun y w' => ∃ a' c', y = .returned (.slice a' (addD d k n t).length c') ∧ IsO w' a' (addD d k n t) ∧ (addD d k n t).length ≤ c' ∧ Below w.heap.size w w' := by
  by_cases hno : noD k n t
  · rw [addD_no hno]
    exact (RAddN_at (.slice a d.length c) k n t w hno).mono fun y w' ⟨h1, h2⟩ => ⟨a, c, h1, h.below h2 (Nat.le_refl _), hc, h2⟩
  · have hl := ok.l
    have hs : ∀ (e : List Dop) (m : Int), (∀ x ∈ e, x ∈ d) → (m = n ∨ m = 0) → ∀ x, e.getLast? = some x → (-4611686018427387904 ≤ x.n + m ∧ x.n + m ≤ 4611686018427387904) ∧ x.t.length + t.length ≤ 4611686018427387904 := fun e m hsub hm x hx => by
      have hmem := hsub x (List.mem_of_getLast? hx)
      have h1 := ok.xn x hmem
      have h2 := ok.xt x hmem
      have h3 := pln_n (ok.c.p x hmem)
      have h4 := ok.nn
      have h5 := ok.tt
      rcases hm with rfl | rfl <;> omega
    have fin : ∀ {L : List Dop}, (∀ {y : Ending} {w' : World}, (∃ v, y = .returned v ∧ w'.ownsRow w.heap.size 34 3 v L.length (opsV L) ∧ Below w.heap.size w w') → ∃ a' c', y = .returned (.slice a' L.length c') ∧ IsO w' a' L ∧ L.length ≤ c' ∧ Below w.heap.size w w') := fun ⟨v, h1, h2, h3⟩ => by
      obtain ⟨a', c', rfl, h4, h5⟩ := own_isO h2
      exact ⟨a', c', h1, h4, h5, h3⟩
    by_cases hdr : ∃ x, d.getLast? = some x ∧ k = 2 ∧ x.k = 3
    · obtain ⟨x, hx, rfl, hx3⟩ := hdr
      obtain ⟨e, x', rfl⟩ := list_snoc (d := d) (fun e => by rw [e] at hx; simp at hx)
      obtain rfl : x' = x := by simpa using hx
      have ht : t ≠ [] := fun e => hno (.inl ⟨rfl, e⟩)
      have hlen := add1_len e 2 0 t
      rw [addD_put ht hx3]
      rw [List.length_append, List.length_singleton] at hl hc ⊢
      refine (RAdd4_at a c e x' n t w h hx3 ht hc (fun X a1 c1 hX => ?_) (by omega) (by omega)).mono fun y w' hy => fin hy
      refine RAdd1_at a1 c1 e 2 0 t X hX (fun hh => by rcases hh with ⟨_, hh⟩ | ⟨hh, _⟩; exact ht hh; exact hh rfl) (fun z hz hh => ?_) (by omega) (hs e 0 (fun z hz => by simp [hz]) (.inr rfl))
      exact (chn_mid (d := e) (x := z) (o := x') (r := []) ok.c.c hz).1 (by rw [hh.2, hx3])
    · have hx : ∀ x, d.getLast? = some x → ¬ (k = 2 ∧ x.k = 3) := fun x hx hh => hdr ⟨x, hx, hh⟩
      rw [addD_one hno hx]
      exact (RAdd1_at a c d k n t w h hno hx (by omega) (hs d n (fun z hz => hz) (.inl rfl))).mono fun y w' hy => fin hy

end Go.Proofs.Ytdemagijhmbdcaa
end
