/- Layer 13, the document's: add whole; Canon. -/
import Derived.Test.YtkmbkoajbmlgaaaMg16
import Derived.Test.YtkmbkoajbmlgaaaMg14

namespace Go.Proofs.Ytkmbkoajbmlgaaa
open Go.ChangeShapes Go.WideShapes Go.ChangeAt Go.RowKit
attribute [local go_sem] Oper.semAt_some

theorem IsO.pre {W : World} {a : Option Addr} {d e : List Dop} (h : IsO W a (d ++ e)) : IsO W a d := by
  rcases h with h | ⟨g, off, rfl, hg, hc⟩
  · exact Or.inl (List.append_eq_nil_iff.1 h).1
  · refine Or.inr ⟨g, off, rfl, hg, fun k hk => ?_⟩
    have := hc k (by rw [List.length_append]; omega)
    rwa [show (d ++ e).getD k opZ = d.getD k opZ by simp [List.getD_eq_getElem?_getD, List.getElem?_append_left hk]] at this
theorem IsO.some {W : World} {a : Option Addr} {d : List Dop} (h : IsO W a d) : d = [] ∨ ∃ q, a = some q := by
  rcases h with h | ⟨g, off, rfl, _⟩
  · exact .inl h
  · exact .inr ⟨_, rfl⟩
/-- what may be added to -/
structure AdOk (d : List Dop) (n : Int) (t : List Int) : Prop where
  c : Can d
  l : d.length ≤ 1073741823
  xn : ∀ x ∈ d, x.n ≤ 2305843009213693952
  xt : ∀ x ∈ d, x.t.length ≤ 2305843009213693952
  nn : 0 ≤ n ∧ n ≤ 2305843009213693952
  tt : t.length ≤ 2305843009213693952
theorem pln_n {o : Dop} (h : Pln o) : 0 ≤ o.n := by rcases h with ⟨_, h, _⟩ | ⟨_, h, _⟩ <;> omega
set_option maxRecDepth 100000 in
set_option maxHeartbeats 4000000 in
theorem RAdd4_at (a : Option Addr) (c : Nat) (e : List Dop) (x : Dop) (n : Int) (t : List Int) (w : World) (h : IsO w a (e ++ [x])) (hx : x.k = 3) (ht : t ≠ []) (hc : e.length + 1 ≤ c)
    (hA : ∀ X a1 c1, IsO X a1 e → Calls Try.prog 71 #[.slice a1 e.length c1, .int .i64 2, .int .i64 0, .string (strOfNums t)] X fun y X' => ∃ v, y = .returned v ∧ X'.ownsRow X.heap.size 34 3 v (add1 e 2 0 t).length (opsV (add1 e 2 0 t)) ∧ Below X.heap.size X X') (hl : e.length ≤ 1073741823) (hl2 : (add1 e 2 0 t).length ≤ 1073741825) :
    Calls Try.prog 71 #[.slice a (e.length + 1) c, .int .i64 2, .int .i64 n, .string (strOfNums t)] w fun y w' => ∃ v, y = .returned v ∧ w'.ownsRow w.heap.size 34 3 v (add1 e 2 0 t ++ [(⟨3, x.n, []⟩ : Dop)]).length (opsV (add1 e 2 0 t ++ [(⟨3, x.n, []⟩ : Dop)])) ∧ Below w.heap.size w w' := by
  obtain ⟨g, off, rfl, hg, c0, c1, c2⟩ := h.three (k := e.length) (by simp)
  have hgx : (e ++ [x]).getD e.length opZ = x := by simp
  rw [hgx] at c0 c1 c2
  rw [hx] at c0
  obtain ⟨v1, w1, r1, o1, b1⟩ := copy_op w (some ⟨g, off, none⟩) c e 24 h.pre (.inr ⟨_, rfl⟩) (by omega)
  obtain ⟨a1, k1, rfl, i1, _⟩ := own_isO o1
  have hte := str_empD t
  have hte2 : t.isEmpty = false := by cases t with | nil => exact absurd rfl ht | cons a r => rfl
  rw [hte2] at hte
  obtain ⟨e1, e2, e3, t9, t9', hlt⟩ := last_arith (m := e.length) (by omega)
  have HC := hide (hA w1 a1 k1 i1)
  have R1 := hide r1
  have HB1 := hide b1
  have HL2 := hide hl2
  clear h hx ht hA hgx r1 o1 i1 b1 c2 hte2 hl hl2
  generalize add1 e 2 0 t = L at *
  generalize strOfNums t = st at *
  generalize x.n = xn at *
  obtain ⟨M, hM⟩ : ∃ M, M = L ++ [(⟨3, xn, []⟩ : Dop)] := ⟨_, rfl⟩
  rw [← hM]
  have HMM := hide hM
  clear hM
  generalize e.length = m at *
  go_enter Try.func71, Try.ntmps71
  go_wp2_with (at_builtin; refine wpList_append_known rfl _ _ 24 24 rfl _ _ rfl rfl _ _ (unhide R1) ?_; clear R1)
  refine (unhide HC).mono ?_
  rintro y w2 ⟨v2, rfl, o2, x2⟩
  dsimp only
  obtain ⟨g3, k3, w3, r3, o3, _, b3⟩ := push_op w2 w1.heap.size L.length v2 (opsV L) 3 xn ⟨#[]⟩ 24 o2 (by have := unhide HL2; omega) x2.size
  have R3 := hide r3
  have HO : Hid (w3.ownsRow w.heap.size 34 3 (.slice (some ⟨g3, 0, none⟩) (L.length + 1) k3) M.length (opsV M)) := hide (by
    rw [unhide HMM, opsV_app, opsV_one, List.length_append, List.length_singleton]
    exact own_lower o3 (unhide HB1).size)
  have HB := hide ((unhide HB1).trans ((x2.trans b3).mono (unhide HB1).size))
  clear HC r3 o2 o3 b3 x2 c0 c1 t9 t9' e1 e2 e3
  generalize L.length + 1 = q at *
  go_wp2_with (at_builtin; refine wpList_append_known rfl _ _ 24 24 rfl _ _ rfl rfl _ _ (unhide R3) ?_; clear R3)
  refine bodyPost_ret (results_tmp rfl _ _ _) rfl ⟨.slice (some ⟨g3, 0, none⟩) q k3, rfl, unhide HO, unhide HB⟩

theorem add1_len (d : List Dop) (k n : Int) (t : List Int) : (add1 d k n t).length ≤ d.length + 1 := by
  by_cases hd : d = []
  · subst hd; rw [add1_nil]; simp
  · obtain ⟨e, x, rfl⟩ := list_snoc hd
    by_cases hk : x.k = k
    · rw [add1_same hk]; simp
    · rw [add1_other hk]; simp
theorem no_yes {k n : Int} {t : List Int} (h : noD k n t) : ((k == 2) = true ∧ (k != 2) = false ∧ t.isEmpty = true) ∨ ((k == 2) = false ∧ (k != 2) = true ∧ (n == 0) = true) := by
  rcases h with ⟨h1, h2⟩ | ⟨h1, h2⟩
  · left; simp [h1, h2]
  · right; simp [h1, h2]
set_option maxRecDepth 100000 in
set_option maxHeartbeats 2000000 in
theorem RAddN_at (v : Value) (k n : Int) (t : List Int) (w : World) (hno : noD k n t) :
    Calls Try.prog 71 #[v, .int .i64 k, .int .i64 n, .string (strOfNums t)] w fun y w' => y = .returned v ∧ Below w.heap.size w w' := by
  have hte := str_empD t
  rcases no_yes hno with ⟨s1, s2, s3⟩ | ⟨s1, s2, s3⟩
  · obtain rfl : k = 2 := by simpa using s1
    rw [s3] at hte
    generalize strOfNums t = st at *
    clear hno s1 s2 s3
    go_enter Try.func71, Try.ntmps71
    go_wp2_with fail
    refine bodyPost_ret (results_tmp rfl _ _ _) rfl ⟨rfl, Below.refl _ _⟩
  · obtain rfl : n = 0 := by simpa using s3
    generalize strOfNums t = st at *
    clear hno hte s3
    go_enter Try.func71, Try.ntmps71
    go_wp2_with fail
    refine bodyPost_ret (results_tmp rfl _ _ _) rfl ⟨rfl, Below.refl _ _⟩
theorem addD_no {d : List Dop} {k n : Int} {t : List Int} (h : noD k n t) : addD d k n t = d := by unfold addD; unfold noD at h; rw [if_pos h]
theorem addD_one {d : List Dop} {k n : Int} {t : List Int} (h : ¬ noD k n t) (hx : ∀ x, d.getLast? = some x → ¬ (k = 2 ∧ x.k = 3)) : addD d k n t = add1 d k n t := by
  unfold addD
  unfold noD at h
  rw [if_neg h]
  cases hl : d.getLast? with
  | none => rfl
  | some x => simp only [hx x hl, if_false]
theorem addD_put {e : List Dop} {x : Dop} {n : Int} {t : List Int} (h : t ≠ []) (hx : x.k = 3) : addD (e ++ [x]) 2 n t = add1 e 2 0 t ++ [⟨3, x.n, []⟩] := by
  unfold addD
  rw [if_neg (by simp [h])]
  simp [hx]
theorem can_preD {e : List Dop} {x : Dop} (h : Can (e ++ [x])) : Can e := ⟨fun o ho => h.p o (by simp [ho]), (chn_app h.c).1⟩
theorem RAdd_at (a : Option Addr) (c : Nat) (d : List Dop) (k n : Int) (t : List Int) (w : World) (h : IsO w a d) (hc : d.length ≤ c) (ok : AdOk d n t) :
    Calls Try.prog 71 #[.slice a d.length c, .int .i64 k, .int .i64 n, .string (strOfNums t)] w fun y w' => ∃ a' c', y = .returned (.slice a' (addD d k n t).length c') ∧ IsO w' a' (addD d k n t) ∧ (addD d k n t).length ≤ c' ∧ Below w.heap.size w w' := by
  by_cases hno : noD k n t
  · rw [addD_no hno]
    exact (RAddN_at (.slice a d.length c) k n t w hno).mono fun y w' ⟨h1, h2⟩ => ⟨a, c, h1, h.below h2 (Nat.le_refl _), hc, h2⟩
  · have hl := ok.l
    have hs : ∀ (e : List Dop) (m : Int), (∀ x ∈ e, x ∈ d) → (m = n ∨ m = 0) → ∀ x, e.getLast? = some x → (-4611686018427387904 ≤ x.n + m ∧ x.n + m ≤ 4611686018427387904) ∧ x.t.length + t.length ≤ 4611686018427387904 := fun e m hsub hm x hx => by
      have hmem := hsub x (List.mem_of_getLast? hx)
      have h1 := ok.xn x hmem
      have h2 := ok.xt x hmem
      have h3 := pln_n (ok.c.p x hmem)
      have h4 := ok.nn
      have h5 := ok.tt
      rcases hm with rfl | rfl <;> omega
    have fin : ∀ {L : List Dop}, (∀ {y : Ending} {w' : World}, (∃ v, y = .returned v ∧ w'.ownsRow w.heap.size 34 3 v L.length (opsV L) ∧ Below w.heap.size w w') → ∃ a' c', y = .returned (.slice a' L.length c') ∧ IsO w' a' L ∧ L.length ≤ c' ∧ Below w.heap.size w w') := fun ⟨v, h1, h2, h3⟩ => by
      obtain ⟨a', c', rfl, h4, h5⟩ := own_isO h2
      exact ⟨a', c', h1, h4, h5, h3⟩
    by_cases hdr : ∃ x, d.getLast? = some x ∧ k = 2 ∧ x.k = 3
    · obtain ⟨x, hx, rfl, hx3⟩ := hdr
      obtain ⟨e, x', rfl⟩ := list_snoc (d := d) (fun e => by rw [e] at hx; simp at hx)
      obtain rfl : x' = x := by simpa using hx
      have ht : t ≠ [] := fun e => hno (.inl ⟨rfl, e⟩)
      have hlen := add1_len e 2 0 t
      rw [addD_put ht hx3]
      rw [List.length_append, List.length_singleton] at hl hc ⊢
      refine (RAdd4_at a c e x' n t w h hx3 ht hc (fun X a1 c1 hX => ?_) (by omega) (by omega)).mono fun y w' hy => fin hy
      refine RAdd1_at a1 c1 e 2 0 t X hX (fun hh => by rcases hh with ⟨_, hh⟩ | ⟨hh, _⟩; exact ht hh; exact hh rfl) (fun z hz hh => ?_) (by omega) (hs e 0 (fun z hz => by simp [hz]) (.inr rfl))
      exact (chn_mid (d := e) (x := z) (o := x') (r := []) ok.c.c hz).1 (by rw [hh.2, hx3])
    · have hx : ∀ x, d.getLast? = some x → ¬ (k = 2 ∧ x.k = 3) := fun x hx hh => hdr ⟨x, hx, hh⟩
      rw [addD_one hno hx]
      exact (RAdd1_at a c d k n t w h hno hx (by omega) (hs d n (fun z hz => hz) (.inl rfl))).mono fun y w' hy => fin hy

end Go.Proofs.Ytkmbkoajbmlgaaa
