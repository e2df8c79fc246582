/- Layer 13, the document's Apply. · Layer 19, plain: what the document asks of the program's delta of steps: where its places are, what it costs, what it makes of the text, where it ends. · DiffGreat, plain: texts of one byte again and again, and of pairs of a byte and a line end. · Layer 19: the document's Valid and Lens of layer 14 (out of Sgk, Sgl and Mkt), in a seat of diff. -/
import Derived.Test.YtkdnanlgkedjgaaDoorDx47
import Derived.Test.YtkdnanlgkedjgaaDoorDx42

section
namespace Go.Proofs.YtkdnanlgkedjgaaDoor
open Go.ChangeShapes Go.WideShapes Go.ChangeAt Go.RowKit
attribute [local go_sem] Oper.semAt_some

theorem runW_rest {d : List Dop} (b : List Int) (hv : valB d = true) : ∀ k, k ≤ d.length → (runW b (d.take k)).1 = b.drop (frD (d.take k))
  | 0, _ => by simp [runW, frD]
  | k + 1, hk => by
    have ih := runW_rest b hv k (by omega)
    have hx := valB_op hv (getD_memD (d := d) (k := k) (by omega))
    have e1 := frD_take d (k := k) (by omega)
    rw [runW_take b d (by omega), e1]
    generalize runW b (d.take k) = s at *
    generalize d.getD k opZ = x at *
    obtain ⟨xk, xn, xt⟩ := x
    dsimp only at hx
    rcases hx with ⟨rfl | rfl, hn, rfl⟩ | ⟨rfl, rfl, hn⟩ <;> simp [stW, frN, ih]
theorem runV_rest {d : List Dop} (b : List Int) (hv : valB d = true) : ∀ k, k ≤ d.length → (runV b (d.take k)).1 = b.drop (frD (d.take k))
  | 0, _ => by simp [runV, frD]
  | k + 1, hk => by
    have ih := runV_rest b hv k (by omega)
    have hx := valB_op hv (getD_memD (d := d) (k := k) (by omega))
    have e1 := frD_take d (k := k) (by omega)
    rw [runV_take b d (by omega), e1]
    generalize runV b (d.take k) = s at *
    generalize d.getD k opZ = x at *
    obtain ⟨xk, xn, xt⟩ := x
    dsimp only at hx
    rcases hx with ⟨rfl | rfl, hn, rfl⟩ | ⟨rfl, rfl, hn⟩ <;> simp [stV, frN, ih]
theorem run_moreV (w : World) (B : Nat) (v : Value) (l m : List Int) (a0 : Option Addr) (cap : Nat) (ty : TypeId) (h : Own w B v l) (hm : IsB w a0 cap m) (h0 : 0 < m.length) (hB : B ≤ w.heap.size) (hn : l.length + m.length ≤ 140737488355328) :
    ∃ v' w', (Builtin.append_ #[22, 22] ty #[v, .slice a0 m.length cap]).run Tryd.prog w = .ok v' w' ∧ Own w' B v' (l ++ m) ∧ Below B w w' := by
  obtain ⟨i, hi, hz, hs, hby⟩ := info_u8
  rcases hm.2.2.1 with h3 | ⟨g0, off, rfl, hL⟩
  · rw [h3] at h0; cases h0
  obtain ⟨g', c', w', hr, ho, hg, hat, hlt⟩ := run_append_lies (P := Tryd.prog) w 22 ty B 5 i (.int .u8 0) 1 1 Tryd.underlying22 hi hz hs hby rfl (by decide)
    v l.length (l.map (Value.int .u8)) h ⟨g0, off, none⟩ m.length cap (m.map (Value.int .u8)) (by simp) (src_cells hL) (src_some _ g0 off cap m hL).one h0 (by unfold maxLen; omega) (by omega) hB (w.heap.size) (by omega)
  refine ⟨_, w', hr, ?_, (Below.refl B w).grown hg hB (fun k e => (World.ownsRow.lt h k e).1)⟩
  unfold Own
  simpa using ho
theorem run_strV (w : World) (B : Nat) (v : Value) (l t : List Int) (ty : TypeId) (h : Own w B v l) (ht : ∀ x ∈ t, 0 ≤ x ∧ x ≤ 255) (hB : B ≤ w.heap.size) (hn : l.length + t.length ≤ 140737488355328) :
    ∃ v' w', (Builtin.append_ #[22, 9] ty #[v, .string (strOfNums t)]).run Tryd.prog w = .ok v' w' ∧ Own w' B v' (l ++ t) ∧ Below B w w' := by
  obtain ⟨i, hi, hz, hs, hby⟩ := info_u8
  have hsz := strOfNums_size t
  obtain ⟨v', w', hr, ho, hg, _⟩ := Lib.run_append_own_string (P := Tryd.prog) w B 22 9 ty 5 i Tryd.underlying22 Tryd.underlying9 hi hz hs hby _ l.length _ h (strOfNums t) (by unfold maxLen; omega) (by omega) hB
  rw [hsz, strCells_nums ht] at ho
  exact ⟨v', w', hr, by unfold Own; simpa using ho, (Below.refl B w).grown hg hB (fun k e => (World.ownsRow.lt h k e).1)⟩
/-- the state of the document's loop -/
structure ApI (b : List Int) (d : List Dop) (k f : Nat) (v : Value) (w X : World) : Prop where
  ef : f = frD (d.take k)
  z : f ≤ 268435456
  o : Own X w.heap.size v (runW b (d.take k)).2
  d : Below w.heap.size w X
set_option maxRecDepth 100000 in
set_option maxHeartbeats 4000000 in
theorem RApply_at (a0 : Option Addr) (c0 : Nat) (b : List Int) (a : Option Addr) (c : Nat) (d : List Dop) (w : World) (hb : IsB w a0 c0 b) (h : IsO w a d) (hl : d.length ≤ 4611686018427387904) (hv : valB d = true) (hf : frD d = b.length) (htb : ∀ o ∈ d, TbD o) :
    Calls Tryd.prog 19 #[.slice a0 b.length c0, .slice a d.length c] w fun y w' => ∃ v, y = .returned v ∧ Own w' w.heap.size v (apD b d) ∧ Below w.heap.size w w' := by
  have HO := hide fun (X : World) (hx : Below w.heap.size w X) => h.below hx (Nat.le_refl _)
  have HBB := hide hb
  have HVV := hide (And.intro hv (And.intro hf htb))
  have hc0 := hb.1
  clear h hb hv hf htb
  go_enter Tryd.func19, Tryd.ntmps19
  go_wp2_with fail
  go_loopw [5, 6, 7, 18] (fun v5 v6 v7 v18 wx => (∃ z, v18 = z) ∧ (∃ (k f : Nat), v7 = .int .i64 (k : Int) ∧ v6 = .int .i64 (f : Int) ∧ k ≤ d.length ∧ Hid (ApI b d k f v5 w wx))) (fun _ _ v7 _ _ => d.length - (intOf v7).toNat)
  case atStart => exact ⟨⟨_, rfl⟩, ⟨0, 0, rfl, rfl, Nat.zero_le _, hide ⟨rfl, by omega, World.ownsRow_nil _ _ _ _, Below.refl _ _⟩⟩⟩
  case round =>
    obtain ⟨⟨z1, rfl⟩, ⟨k, f, rfl, rfl, hk, HI⟩⟩ := hrel
    by_cases hlt : k < d.length
    · have t1 : decide ((k : Int) < (d.length : Int)) = true := decide_eq_true (by omega)
      obtain ⟨g, off, ha', hg', _⟩ := (unhide HO w (Below.refl _ _)).three hlt
      obtain ⟨g', off', rfl, hg, e0, e1, e2⟩ := (unhide HO wr (unhide HI).d).three hlt
      obtain ⟨rfl, rfl⟩ : g' = g ∧ off' = off := by cases ha'; exact ⟨rfl, rfl⟩
      clear ha'
      have HGL := hide hg'
      clear hg'
      obtain ⟨hv, hf, htb⟩ := unhide HVV
      have hx := valB_op hv (getD_memD hlt)
      have htx := htb _ (getD_memD hlt)
      have hz := (unhide HI).z
      have hz2 := (valB_nn hv).2
      have hfr := frD_take d hlt
      have hto := toD_take d hlt
      have hle := frD_le d (k + 1)
      have hlen := (runW_len hv hf k (by omega)).2
      have hrest := runW_rest b hv k (by omega)
      have hstep := runW_take b d hlt
      have hown := (unhide HI).o
      have hdd := (unhide HI).d
      rw [← (unhide HI).ef] at hfr hrest
      have HNX : Hid (∀ (F : Nat) (v : Value) (X : World), F = frD (d.take (k + 1)) → F ≤ 268435456 → Own X w.heap.size v (runW b (d.take (k + 1))).2 → Below w.heap.size w X → ApI b d (k + 1) F v w X) := hide fun F v X h1 h2 h3 h4 => ⟨h1, h2, h3, h4⟩
      rw [hstep] at HNX
      clear HI hk hv htb hstep
      generalize runW b (d.take k) = s at *
      obtain ⟨s1, s2⟩ := s
      dsimp only at hlen hrest hown
      subst hrest
      generalize frD (d.take (k + 1)) = F' at *
      generalize toD (d.take (k + 1)) = T' at *
      generalize toD (d.take k) = T at *
      generalize d.getD k opZ = x at *
      obtain ⟨xk, xn, xt⟩ := x
      dsimp only at e0 e1 e2 hx htx
      rcases hx with ⟨rfl | rfl, hn, rfl⟩ | ⟨rfl, rfl, hn⟩
      · obtain ⟨m, rfl⟩ : ∃ m : Nat, xn = (m : Int) := ⟨xn.toNat, by omega⟩
        rw [show frN ⟨1, (m : Int), []⟩ = m by simp [frN]] at hfr
        rw [show toN ⟨1, (m : Int), []⟩ = m by simp [toN]] at hto
        subst hfr
        obtain ⟨gb, ob, rfl⟩ : ∃ gb ob, a0 = some ⟨gb, ob, none⟩ := by
          rcases (unhide HBB).2.2.1 with h3 | ⟨g0, o0, h3, _⟩
          · rw [h3] at hf; simp at hf; omega
          · exact ⟨g0, o0, h3⟩
        have hbm := ((unhide HBB).takeD (n := f + m)).loD (n := f)
        rw [if_neg (by omega), Option.map_some, Addr.add_lit] at hbm
        have hml : ((b.take (f + m)).drop f).length = m := by simp; omega
        obtain ⟨v', X', r2, o2, b2⟩ := run_moreV wr w.heap.size _ s2 ((b.take (f + m)).drop f) _ (c0 - f) 22 hown (hbm.below hdd (Nat.le_refl _)) (by rw [hml]; omega) hdd.size (by rw [hml]; omega)
        rw [hml, show m = f + m - f by omega] at r2
        have hrw : (b.take (f + m)).drop f = (b.drop f).take m := by rw [List.drop_take, Nat.add_sub_cancel_left]
        rw [hrw] at o2
        have HN2 : Hid (ApI b d (k + 1) (f + m) v' w X') := hide (unhide HNX (f + m) v' X' rfl (by omega) (by
          simp only [stW, if_true, Int.toNat_natCast]
          exact o2) (hdd.trans b2))
        have R2 := hide r2
        have q1 : m ≤ 268435456 := by omega
        have q2 : f + m ≤ c0 := by omega
        have q3 : ¬ c0 = f := by omega
        have k1 := (b2.cell (p := ⟨_, _, none⟩) (unhide HGL)).trans e1
        clear hml hrw o2 b2 r2 hbm hto hz2 hle hlen hown hdd hn HNX htx hf HVV HBB
        go_upto_region 9 with fail
        clear t1 e0
        go_wp2_with (at_builtin; refine wpList_append_known rfl _ _ 22 22 rfl _ _ rfl rfl _ _ (unhide R2) ?_; clear R2)
        go_roundw
        case rel => exact ⟨⟨_, rfl⟩, ⟨k + 1, f + m, by go_num, by go_num, hlt, HN2⟩⟩
        case measure => simp [intOf]; omega
      · obtain ⟨m, rfl⟩ : ∃ m : Nat, xn = (m : Int) := ⟨xn.toNat, by omega⟩
        rw [show frN ⟨3, (m : Int), []⟩ = m by simp [frN]] at hfr
        have W1 := hide (ca_k hz (by omega) hfr)
        have HN2 : Hid (ApI b d (k + 1) F' _ w wr) := hide (unhide HNX F' _ wr rfl (by omega) (by
          simp only [stW, show ¬ ((3 : Int) = 1) by decide, show ¬ ((3 : Int) = 2) by decide, if_false]
          exact hown) hdd)
        clear hfr hto hz hz2 hle hlen hown hdd hn HNX htx hf HVV HBB
        obtain ⟨w1, w2, w3⟩ := unhide W1
        go_wp2_with fail
        go_roundw
        case rel => exact ⟨⟨_, rfl⟩, ⟨k + 1, F', by go_num, by first | rfl | rw [w1], hlt, HN2⟩⟩
        case measure => simp [intOf]; omega
      · rw [show frN ⟨2, 0, xt⟩ = 0 by simp [frN]] at hfr
        rw [show toN ⟨2, 0, xt⟩ = xt.length by simp [toN]] at hto
        obtain rfl : F' = f := by omega
        obtain ⟨v', X', r2, o2, b2⟩ := run_strV wr w.heap.size _ s2 xt 22 hown htx hdd.size (by omega)
        have HN2 : Hid (ApI b d (k + 1) F' v' w X') := hide (unhide HNX F' v' X' rfl (by omega) (by
          simp only [stW, show ¬ ((2 : Int) = 1) by decide, if_true, if_false]
          exact o2) (hdd.trans b2))
        have R2 := hide r2
        clear o2 b2 r2 hfr hto hz hz2 hle hlen hown hdd hn HNX htx hf HVV HBB
        generalize strOfNums xt = st at *
        go_wp2_with (at_builtin; refine wpList_append_known rfl _ _ 22 9 rfl _ _ rfl rfl _ _ (unhide R2) ?_; clear R2)
        go_roundw
        case rel => exact ⟨⟨_, rfl⟩, ⟨k + 1, F', by go_num, rfl, hlt, HN2⟩⟩
        case measure => simp [intOf]; omega
    · obtain rfl : k = d.length := by omega
      have t1 : decide ((d.length : Int) < (d.length : Int)) = false := decide_eq_false (by omega)
      have hoo := (unhide HI).o
      rw [List.take_length] at hoo
      have HOO := hide hoo
      have HXX := hide (unhide HI).d
      clear HI hk hoo HBB HVV
      go_wp2_with fail
      refine bodyPost_ret (results_tmp rfl _ _ _) rfl ⟨_, rfl, by exact unhide HOO, unhide HXX⟩

end Go.Proofs.YtkdnanlgkedjgaaDoor
end

section
namespace Go.Proofs.YtkdnanlgkedjgaaDoor

-- out of Dlc
theorem ap_can : ∀ {d : List Dop} (m : Int), (∀ o ∈ d, Pln o) → Chn d → (∀ o, d.head? = some o → apB m (thisN o.k) = true) → apL m d = true
  | [], _, _, _, _ => rfl
  | o :: r, m, hp, hc, hh => by
    have h1 := apL_at (d := o :: r) (k := 0) (by simp) m
    simp only [List.drop_zero, List.getD_cons_zero, Nat.zero_add, List.drop_one, List.tail_cons] at h1
    rw [h1, hh o rfl, Bool.true_and]
    refine ap_can _ (fun q hq => hp q (by simp [hq])) (chn_tail hc) fun q hq => ?_
    cases r with
    | nil => simp at hq
    | cons q' r' =>
      simp only [List.head?_cons, Option.some.injEq] at hq
      subst hq
      have hn : okN o.k q'.k := hc.1
      have ho : o.k = 1 ∨ o.k = 2 ∨ o.k = 3 := by rcases hp o (by simp) with ⟨h | h, _⟩ | ⟨h, _⟩ <;> omega
      have hq : q'.k = 1 ∨ q'.k = 2 ∨ q'.k = 3 := by rcases hp q' (by simp) with ⟨h | h, _⟩ | ⟨h, _⟩ <;> omega
      unfold okN at hn
      rcases ho with h | h | h <;> rcases hq with h' | h' | h' <;> rw [h, h'] at hn ⊢ <;> first | rfl | decide | (exfalso; revert hn; decide)
theorem pl_all {d : List Dop} (h : ∀ o ∈ d, Pln o) : d.all plB = true := by
  rw [List.all_eq_true]
  intro o ho
  unfold plB
  rcases h o ho with ⟨h1, h2, h3⟩ | ⟨h1, h2, h3⟩
  · rw [if_neg (by omega), h3]; simp; omega
  · rw [if_pos h1, h2]
    cases ht : o.t with
    | nil => exact absurd ht h3
    | cons a r => rfl
theorem can_val {d : List Dop} (h : Can d) (hf : frD d ≤ 268435456) (ht : toD d ≤ 268435456) : valB d = true := by
  unfold valB
  have h2 : lonB d = false := decide_eq_false (by omega)
  rw [pl_all h.p, ap_can 7 h.p h.c (fun o ho => ?_), h2]
  · rfl
  · have hm := List.mem_of_mem_head? (l := d) (a := o) (by rw [ho]; rfl)
    rcases h.p o hm with ⟨h | h, _⟩ | ⟨h, _⟩ <;> rw [h] <;> decide
theorem can_kinds {d : List Dop} (h : Can d) : ∀ o ∈ d, o.k = 1 ∨ o.k = 2 ∨ o.k = 3 := fun o ho => by
  rcases h.p o ho with ⟨h | h, _⟩ | ⟨h, _⟩ <;> omega
theorem appA_k : ∀ (n : Nat) (xs : List Int) (u : List Atm), n ≤ xs.length → appA xs (List.replicate n .k ++ u) = xs.take n ++ appA (xs.drop n) u
  | 0, xs, u, _ => by simp
  | n + 1, [], u, h => by simp at h
  | n + 1, x :: xs, u, h => by
    have := appA_k n xs u (by simpa using h)
    rw [List.replicate_succ, List.cons_append]
    simp [appA, this]
theorem appA_d : ∀ (n : Nat) (xs : List Int) (u : List Atm), n ≤ xs.length → appA xs (List.replicate n .d ++ u) = appA (xs.drop n) u
  | 0, xs, u, _ => by simp
  | n + 1, [], u, h => by simp at h
  | n + 1, x :: xs, u, h => by
    have := appA_d n xs u (by simpa using h)
    rw [List.replicate_succ, List.cons_append]
    simp [appA, this]
theorem appA_p : ∀ (t : List Int) (xs : List Int) (u : List Atm), appA xs (t.map .p ++ u) = t ++ appA xs u
  | [], xs, u => by simp
  | x :: t, xs, u => by
    rw [List.map_cons, List.cons_append]
    simp [appA, appA_p t xs u]
/-- Apply does what the atoms do -/
theorem apD_app : ∀ (d : List Dop) (b out : List Int), (∀ o ∈ d, Pln o) → frD d = b.length → (d.foldl stW (b, out)).2 = out ++ appA b (dA d)
  | [], b, out, _, h => by
    have : b = [] := List.length_eq_zero_iff.1 (by simpa [frD] using h.symm)
    subst this
    simp [dA, appA]
  | o :: r, b, out, hp, h => by
    have e : frD (o :: r) = frN o + frD r := by simp [frD]
    rw [List.foldl_cons, dA_cons]
    rcases hp o (by simp) with ⟨h1 | h1, h2, h3⟩ | ⟨h1, h2, h3⟩
    · have ef : frN o = o.n.toNat := by simp [frN, h1]
      have eo : opA o = List.replicate o.n.toNat .k := by simp [opA, h1]
      rw [eo, appA_k _ _ _ (by omega), show stW (b, out) o = (b.drop o.n.toNat, out ++ b.take o.n.toNat) by simp [stW, h1], apD_app r _ _ (fun q hq => hp q (by simp [hq])) (by simp; omega), List.append_assoc]
    · have ef : frN o = o.n.toNat := by simp [frN, h1]
      have eo : opA o = List.replicate o.n.toNat .d := by simp [opA, h1]
      rw [eo, appA_d _ _ _ (by omega), show stW (b, out) o = (b.drop o.n.toNat, out) by simp [stW, h1], apD_app r _ _ (fun q hq => hp q (by simp [hq])) (by simp; omega)]
    · have ef : frN o = 0 := by simp [frN, h1]
      have eo : opA o = o.t.map .p := by simp [opA, h1]
      rw [eo, appA_p, show stW (b, out) o = (b, out ++ o.t) by simp [stW, h1], apD_app r _ _ (fun q hq => hp q (by simp [hq])) (by omega), List.append_assoc]
theorem apD_is {d : List Dop} {b : List Int} (hv : valB d = true) (hf : frD d = b.length) : apD b d = appA b (dA d) := by
  have hp : ∀ o ∈ d, Pln o := fun o ho => by
    rcases valB_op hv ho with ⟨h1, h2, h3⟩ | ⟨h1, h2, h3⟩
    · exact .inl ⟨h1, h2, h3⟩
    · exact .inr ⟨h1, h2, h3⟩
  have := apD_app d b [] hp hf
  simpa [apD, runW] using this

/-- the steps from the i-th place on -/
theorem spots_getD (l : List Int) : ∀ (n i p : Nat), l.length - p ≤ n → i < (spots l p).length → spots l ((spots l p).getD i 0) = (spots l p).drop i
  | n, 0, p, h, hi => by
    have hp : p < l.length := by
      rcases Nat.lt_or_ge p l.length with g | g
      · exact g
      · rw [spots_end (by omega)] at hi; simp at hi
    have e := spots_cons hp
    rw [List.drop_zero]
    conv => lhs; rw [e]
    rfl
  | 0, i + 1, p, h, hi => by rw [spots_end (by omega)] at hi; simp at hi
  | n + 1, i + 1, p, h, hi => by
    have hp : p < l.length := by
      rcases Nat.lt_or_ge p l.length with g | g
      · exact g
      · rw [spots_end (by omega)] at hi; simp at hi
    have hw := wid_pos hp
    have e := spots_cons hp
    rw [e, List.length_cons] at hi
    rw [e, List.getD_cons_succ, List.drop_succ_cons]
    exact spots_getD l n i _ (by omega) (by omega)
theorem cutS_len (l : List Int) : (cutS l).length = (spots l 0).length + 1 := by simp [cutS]
theorem cutS_getD (l : List Int) {i : Nat} (hi : i < (cutS l).length) : spots l ((cutS l).getD i 0) = (spots l 0).drop i := by
  rw [cutS_len] at hi
  rcases Nat.lt_or_ge i (spots l 0).length with g | g
  · have : (cutS l).getD i 0 = (spots l 0).getD i 0 := by
      unfold cutS; simp [List.getD, List.getElem?_append_left g]
    rw [this]
    exact spots_getD l l.length i 0 (by omega) g
  · have hi' : i = (spots l 0).length := by omega
    have : (cutS l).getD i 0 = l.length := by
      unfold cutS; rw [hi']; simp [List.getD]
    rw [this, spots_end (by omega), List.drop_eq_nil_of_le (by omega)]
theorem cutS_in (l : List Int) {i : Nat} (hi : i < (cutS l).length) : inside l ((cutS l).getD i 0) = false := by
  have h1 : (cutS l).getD i 0 ∈ cutS l := by
    rw [List.getD_eq_getElem?_getD, List.getElem?_eq_getElem hi]; exact List.getElem_mem hi
  have h2 : cutS l = edgesTo l (l.length + 1) := (edges_all l).symm
  generalize (cutS l).getD i 0 = z at *
  rw [h2] at h1
  unfold edgesTo at h1
  simpa using (List.mem_filter.1 h1).2
theorem cutS_edg (l : List Int) {i : Nat} (hi : i < (cutS l).length) : EdgP l ((cutS l).getD i 0) := by
  have h1 := cutS_in l hi
  have h2 := (cutS_ok l).at_le hi
  generalize (cutS l).getD i 0 = z at *
  unfold EdgP edgeB
  rw [Int.toNat_natCast, h1]
  simp; omega
/-- how many steps lie between two of the cuts -/
theorem stepN_sub {l : List Int} (hl : ByL l) {i j : Nat} (hij : i ≤ j) (hj : j < (cutS l).length) : stepN (subL l ((cutS l).getD i 0) ((cutS l).getD j 0)) = j - i := by
  have ha := (cutS_ok l).at_le (show i < (cutS l).length by omega)
  have hb := (cutS_ok l).at_le hj
  have hab := (cutS_ok l).le hij hj
  have e1 := cutS_getD l (show i < (cutS l).length by omega)
  have e2 := cutS_getD l hj
  have hn := cutS_len l
  generalize (cutS l).getD i 0 = a at *
  generalize (cutS l).getD j 0 = b at *
  have e3 : spots l a = ((spots l 0).drop i).take (j - i) ++ spots l b := by
    rw [e1, e2, show (spots l 0).drop j = ((spots l 0).drop i).drop (j - i) by rw [List.drop_drop]; congr 1; omega, List.take_append_drop]
  have e4 := (spots_take hl hb _ a ha e3).1
  have e5 := spots_drop (l.take b) a (l.take b).length 0 (by omega)
  have e6 : subL l a b = (l.take b).drop a := by unfold subL; rw [List.drop_take]
  unfold stepN
  have e7 := congrArg List.length e5
  rw [List.length_map, Nat.add_zero, e4, List.length_take, List.length_drop] at e7
  rw [e6, ← e7]
  omega
section
variable {E : Nat → Prop} {S : List Int → Nat} {l : List Int}
theorem frN_put {o : Dop} (h : o.k = 2) : frN o = 0 := by simp [frN, h]
theorem frN_els {o : Dop} (h : o.k = 1 ∨ o.k = 3) : frN o = o.n.toNat := by unfold frN; rw [if_pos h]
theorem okRf_app : ∀ (a b : List Dop) (m : Nat), (∀ o ∈ a, o.k = 1 ∨ o.k = 2 ∨ o.k = 3) → (okRf E m (a ++ b) ↔ okRf E m a ∧ okRf E (m + frD a) b)
  | [], b, m, _ => by simp [okRf, frD]
  | o :: r, b, m, h => by
    have hr : ∀ o ∈ r, o.k = 1 ∨ o.k = 2 ∨ o.k = 3 := fun x hx => h x (by simp [hx])
    rw [List.cons_append, frDc]
    simp only [okRf]
    by_cases g : o.k = 2
    · rw [if_pos g, if_pos g, frN_put g, Nat.zero_add]; exact okRf_app r b m hr
    · rw [if_neg g, if_neg g, frN_els (by have := h o (by simp); omega), okRf_app r b _ hr, Nat.add_assoc, and_assoc]
theorem sumRf_app : ∀ (a b : List Dop) (m : Nat), (∀ o ∈ a, o.k = 1 ∨ o.k = 2 ∨ o.k = 3) → sumRf S l m (a ++ b) = sumRf S l m a + sumRf S l (m + frD a) b
  | [], b, m, _ => by simp [sumRf, frD]
  | o :: r, b, m, h => by
    have hr : ∀ o ∈ r, o.k = 1 ∨ o.k = 2 ∨ o.k = 3 := fun x hx => h x (by simp [hx])
    rw [List.cons_append, frDc]
    simp only [sumRf]
    by_cases g : o.k = 2
    · rw [if_pos g, if_pos g, frN_put g, Nat.zero_add, sumRf_app r b m hr, Nat.add_assoc]
    · rw [if_neg g, if_neg g, frN_els (by have := h o (by simp); omega), sumRf_app r b _ hr, ← Nat.add_assoc, ← Nat.add_assoc]
theorem okRf_take {d : List Dop} (h : ∀ o ∈ d, o.k = 1 ∨ o.k = 2 ∨ o.k = 3) {k : Nat} (hk : k < d.length) : okRf E 0 (d.take (k + 1)) ↔ okRf E 0 (d.take k) ∧ ((d.getD k opZ).k = 2 ∨ E (frD (d.take (k + 1)))) := by
  have hm := getD_memD hk
  have hfr := frD_take d hk
  have e : d[k] = d.getD k opZ := by simp [List.getD, List.getElem?_eq_getElem hk]
  rw [hfr, List.take_add_one, okRf_app _ _ _ (fun o ho => h o (List.mem_of_mem_take ho)), List.getElem?_eq_getElem hk, Option.toList_some, Nat.zero_add, e]
  have hx := h _ hm
  generalize d.getD k opZ = x at *
  simp only [okRf]
  by_cases g : x.k = 2
  · simp [g]
  · rw [if_neg g, frN_els (by omega)]
    simp [g]
theorem sumRf_take {d : List Dop} (h : ∀ o ∈ d, o.k = 1 ∨ o.k = 2 ∨ o.k = 3) {k : Nat} (hk : k < d.length) : sumRf S l 0 (d.take (k + 1)) = sumRf S l 0 (d.take k) + (if (d.getD k opZ).k = 2 then S (d.getD k opZ).t else if (d.getD k opZ).k = 3 then S (subL l (frD (d.take k)) (frD (d.take (k + 1)))) else 0) := by
  have hm := getD_memD hk
  have hfr := frD_take d hk
  have e : d[k] = d.getD k opZ := by simp [List.getD, List.getElem?_eq_getElem hk]
  rw [hfr, List.take_add_one, sumRf_app _ _ _ (fun o ho => h o (List.mem_of_mem_take ho)), List.getElem?_eq_getElem hk, Option.toList_some, Nat.zero_add, e]
  have hx := h _ hm
  generalize d.getD k opZ = x at *
  simp only [sumRf]
  by_cases g : x.k = 2
  · rw [if_pos g, if_pos g]; rfl
  · rw [if_neg g, if_neg g, frN_els (by omega)]; rfl
theorem okRf_pre {d : List Dop} (h : ∀ o ∈ d, o.k = 1 ∨ o.k = 2 ∨ o.k = 3) (g : okRf E 0 d) (k : Nat) : okRf E 0 (d.take k) := by
  rw [← List.take_append_drop k d, okRf_app _ _ _ (fun o ho => h o (List.mem_of_mem_take ho))] at g
  exact g.1
instance okRf_dec [DecidablePred E] : ∀ (m : Nat) (d : List Dop), Decidable (okRf E m d)
  | _, [] => isTrue trivial
  | m, o :: r => by
    have := okRf_dec m r
    have := okRf_dec (m + o.n.toNat) r
    unfold okRf
    infer_instance
end
/-- what the document's Cost says -/
def costR (l : List Int) (d : List Dop) : Int × Int := if valB d then (if frD d = l.length then (if okRf (EdgP l) 0 d then ((sumRf stepN l 0 d : Int), 0) else (0, 4)) else (0, 131)) else (0, 130)
/-- does the delta, where it keeps or puts, begin and end at edges of the text behind it? -/
def clnB (b : List Int) : Nat → List Dop → Bool
  | at_, [] => decide (at_ = b.length)
  | at_, o :: r => !(inside b (at_ + toN o)) && clnB b (at_ + toN o) r
variable {l m : List Int}
theorem pcs_cost (hl : ByL l) (hm : ByL m) : ∀ (d : List Dop) (i j N : Nat), PcS l m (cutS l) (cutS m) i j N d → i < (cutS l).length → j < (cutS m).length →
    okRf (EdgP l) ((cutS l).getD i 0) d ∧ sumRf stepN l ((cutS l).getD i 0) d = N ∧ clnB m ((cutS m).getD j 0) d = true
  | [], i, j, N, h, hi, hj => by
    obtain ⟨_, h2, h3⟩ := h
    have a2 := (cutS_ok m).last
    rw [show (cutS m).length - 1 = j by omega] at a2
    refine ⟨trivial, by simp [sumRf, h3], ?_⟩
    unfold clnB; exact decide_eq_true a2
  | o :: r, i, j, N, h, hi, hj => by
    rcases h with ⟨k, t, n, h1, h2, h3, h4, h5, h6⟩ | ⟨k, z, n, M, h1, h2, h3, h4, h5⟩ | ⟨k, t, n, M, h1, h2, h3, h4, h5⟩
    · obtain ⟨i1, i2, i3⟩ := pcs_cost hl hm r _ _ _ h6 h2 h3
      have a1 := (cutS_ok l).le (show i ≤ i + n by omega) h2
      have a2 := (cutS_ok m).le (show j ≤ j + n by omega) h3
      have e1 := sub_len (cutS_ok l) (show i ≤ i + n by omega) h2
      have e2 := sub_len (cutS_ok m) (show j ≤ j + n by omega) h3
      rw [h5, e2] at e1
      have e3 : (cutS l).getD i 0 + o.n.toNat = (cutS l).getD (i + n) 0 := by rw [h4]; omega
      have e4 : (cutS m).getD j 0 + toN o = (cutS m).getD (j + n) 0 := by unfold toN; rw [if_pos k, h4]; omega
      refine ⟨?_, ?_, ?_⟩
      · simp only [okRf, if_neg (show ¬ o.k = 2 by omega), e3]
        exact ⟨cutS_edg l h2, i1⟩
      · simp only [sumRf, if_neg (show ¬ o.k = 2 by omega), if_neg (show ¬ o.k = 3 by omega), e3, i2]; omega
      · simp only [clnB, e4, cutS_in m h3, i3]; rfl
    · obtain ⟨i1, i2, i3⟩ := pcs_cost hl hm r _ _ _ h5 hi h2
      have a2 := (cutS_ok m).le (show j ≤ j + n by omega) h2
      have e2 := sub_len (cutS_ok m) (show j ≤ j + n by omega) h2
      have e3 := stepN_sub hm (show j ≤ j + n by omega) h2
      rw [← h3] at e2 e3
      have e4 : (cutS m).getD j 0 + toN o = (cutS m).getD (j + n) 0 := by unfold toN; rw [if_neg (by omega), if_pos k, e2]; omega
      refine ⟨?_, ?_, ?_⟩
      · simp only [okRf, if_pos k]; exact i1
      · simp only [sumRf, if_pos k, i2, e3]; omega
      · simp only [clnB, e4, cutS_in m h2, i3]; rfl
    · obtain ⟨i1, i2, i3⟩ := pcs_cost hl hm r _ _ _ h5 h2 hj
      have a1 := (cutS_ok l).le (show i ≤ i + n by omega) h2
      have e3 : (cutS l).getD i 0 + o.n.toNat = (cutS l).getD (i + n) 0 := by rw [h3]; omega
      have e4 : (cutS m).getD j 0 + toN o = (cutS m).getD j 0 := by unfold toN; rw [if_neg (by omega), if_neg (by omega)]; rfl
      have e5 := stepN_sub hl (show i ≤ i + n by omega) h2
      refine ⟨?_, ?_, ?_⟩
      · simp only [okRf, if_neg (show ¬ o.k = 2 by omega), e3]
        exact ⟨cutS_edg l h2, i1⟩
      · simp only [sumRf, if_neg (show ¬ o.k = 2 by omega), if_pos k, e3, i2, e5]; omega
      · simp only [clnB, e4, cutS_in m hj, i3]; rfl
/-- what it makes of the text -/
theorem pcs_app {xc yc : List Nat} (hx : OkCut l xc) (hy : OkCut m yc) : ∀ (d : List Dop) (i j N : Nat), PcS l m xc yc i j N d → i < xc.length → j < yc.length → appA (l.drop (xc.getD i 0)) (dA d) = m.drop (yc.getD j 0)
  | [], i, j, N, h, hi, hj => by
    obtain ⟨h1, h2, _⟩ := h
    have a1 := hx.last
    have a2 := hy.last
    rw [show xc.length - 1 = i by omega] at a1
    rw [show yc.length - 1 = j by omega] at a2
    rw [a1, a2]
    simp [dA, appA]
  | o :: r, i, j, N, h, hi, hj => by
    have sp : ∀ (z : List Int) (a b : Nat), a ≤ b → z.drop a = subL z a b ++ z.drop b := fun z a b h => by
      unfold subL
      rw [show z.drop b = (z.drop a).drop (b - a) by rw [List.drop_drop]; congr 1; omega, List.take_append_drop]
    rw [dA_cons]
    rcases h with ⟨k, t, n, h1, h2, h3, h4, h5, h6⟩ | ⟨k, z, n, M, h1, h2, h3, h4, h5⟩ | ⟨k, t, n, M, h1, h2, h3, h4, h5⟩
    · have ih := pcs_app hx hy r _ _ _ h6 h2 h3
      have a1 := hx.le (show i ≤ i + n by omega) h2
      have a2 := hy.le (show j ≤ j + n by omega) h3
      have b1 := hx.at_le h2
      rw [show opA o = List.replicate (xc.getD (i + n) 0 - xc.getD i 0) .k by simp [opA, k, h4], appA_k _ _ _ (by rw [List.length_drop]; omega), List.drop_drop, show xc.getD i 0 + (xc.getD (i + n) 0 - xc.getD i 0) = xc.getD (i + n) 0 by omega, ih, sp m _ _ a2, ← h5]
      rfl
    · have ih := pcs_app hx hy r _ _ _ h5 hi h2
      have a2 := hy.le (show j ≤ j + n by omega) h2
      rw [show opA o = o.t.map .p by simp [opA, k], appA_p, ih, h3, ← sp m _ _ a2]
    · have ih := pcs_app hx hy r _ _ _ h5 h2 hj
      have a1 := hx.le (show i ≤ i + n by omega) h2
      have b1 := hx.at_le h2
      rw [show opA o = List.replicate (xc.getD (i + n) 0 - xc.getD i 0) .d by simp [opA, k, h3], appA_d _ _ _ (by rw [List.length_drop]; omega), List.drop_drop, show xc.getD i 0 + (xc.getD (i + n) 0 - xc.getD i 0) = xc.getD (i + n) 0 by omega, ih]
/-- all that a law asks of a delta of whole pieces -/
theorem least_all {xc yc : List Nat} (hx : OkCut l xc) (hy : OkCut m yc) (zl : l.length ≤ 268435456) (zm : m.length ≤ 268435456) :
    valB (leastD l m xc yc) = true ∧ frD (leastD l m xc yc) = l.length ∧ toD (leastD l m xc yc) = m.length ∧ apD l (leastD l m xc yc) = m ∧ ∃ N, PcS l m xc yc 0 0 N (leastD l m xc yc) ∧ N + 2 * lcs (cutP l xc) (cutP m yc) + 2 = xc.length + yc.length := by
  obtain ⟨_, hc, _, N, hp, hN⟩ := least_is (m := m) hx hy
  have h1 := pcs_len hx hy _ 0 0 N hp hx.pos hy.pos
  have h2 := pcs_app hx hy _ 0 0 N hp hx.pos hy.pos
  rw [hx.zero, hy.zero] at h1 h2
  have hv := can_val hc (by omega) (by omega)
  exact ⟨hv, by omega, by omega, by rw [apD_is hv (by omega)]; simpa using h2, N, hp, hN⟩
theorem least_cost (hl : ByL l) (hm : ByL m) (zl : l.length ≤ 268435456) (zm : m.length ≤ 268435456) :
    costR l (leastD l m (cutS l) (cutS m)) = ((aloN cutS l m : Int), 0) ∧ clnB m 0 (leastD l m (cutS l) (cutS m)) = true := by
  obtain ⟨h1, h2, h3, h4, N, h5, h6⟩ := least_all (cutS_ok l) (cutS_ok m) zl zm
  obtain ⟨c1, c2, c3⟩ := pcs_cost hl hm _ 0 0 N h5 (cutS_ok l).pos (cutS_ok m).pos
  rw [(cutS_ok l).zero] at c1 c2
  rw [(cutS_ok m).zero] at c3
  refine ⟨?_, c3⟩
  have n1 := cutP_cnt (cutS_ok l)
  have n2 := cutP_cnt (cutS_ok m)
  unfold costR aloN
  rw [if_pos h1, if_pos h2, if_pos c1, c2]
  congr 2; omega
/-- its texts are bytes -/
theorem pcs_tb {xc yc : List Nat} (hm : ByL m) : ∀ (d : List Dop) (i j N : Nat), PcS l m xc yc i j N d → ∀ o ∈ d, TbD o
  | [], _, _, _, _, o, ho => by cases ho
  | o :: r, i, j, N, h, x, hx => by
    rcases h with ⟨k, t, n, h1, h2, h3, h4, h5, h6⟩ | ⟨k, z, n, M, h1, h2, h3, h4, h5⟩ | ⟨k, t, n, M, h1, h2, h3, h4, h5⟩
    · rcases List.mem_cons.1 hx with rfl | hx
      · unfold TbD; rw [t]; intro y hy; cases hy
      · exact pcs_tb hm r _ _ _ h6 x hx
    · rcases List.mem_cons.1 hx with rfl | hx
      · unfold TbD; rw [h3]; exact fun y hy => hm y (List.mem_of_mem_drop (List.mem_of_mem_take hy))
      · exact pcs_tb hm r _ _ _ h5 x hx
    · rcases List.mem_cons.1 hx with rfl | hx
      · unfold TbD; rw [t]; intro y hy; cases hy
      · exact pcs_tb hm r _ _ _ h5 x hx
theorem least_tb {xc yc : List Nat} (hx : OkCut l xc) (hy : OkCut m yc) (hm : ByL m) : ∀ o ∈ leastD l m xc yc, TbD o := by
  obtain ⟨_, _, _, N, hp, _⟩ := least_is (m := m) hx hy
  exact pcs_tb hm _ 0 0 N hp
theorem val_tl {d : List Dop} (hv : valB d = true) {o : Dop} (ho : o ∈ d) : o.t.length ≤ toD d := by
  have h1 : toN o ≤ toD d := by
    obtain ⟨a, b, e⟩ := List.append_of_mem ho
    rw [e]; simp [toD]; omega
  rcases valB_op hv ho with ⟨_, _, h⟩ | ⟨h, _, _⟩
  · rw [h]; simp
  · rw [show toN o = o.t.length by unfold toN; rw [if_neg (by omega), if_pos h]] at h1; exact h1
/-- the program's Cost and the document's are one -/
theorem cost_same {l : List Int} {d : List Dop} : costN l d = costR l d := by
  unfold costN costR
  by_cases hv : valB d = true
  · by_cases hf : frD d = l.length
    · have hE : EdgP l (frD d) := by
        rw [hf]
        have := cutS_edg l (i := (cutS l).length - 1) (by have := (cutS_ok l).pos; omega)
        rwa [(cutS_ok l).last] at this
      obtain ⟨c1, c2⟩ := cost_is (S := stepN) (l := l) stepN_nil (edgP_zero l) hv hE
      simp only [hv, hf, if_true, c2]
      by_cases h : okRf (EdgP l) 0 d
      · rw [if_pos h, if_pos (c1.1 h)]
      · rw [if_neg h, if_neg (fun g => h (c1.2 g))]
    · simp [hv, hf]
  · simp [hv]
end Go.Proofs.YtkdnanlgkedjgaaDoor
end

section
namespace Go.Proofs.YtkdnanlgkedjgaaDoor

/-- a byte with which no encoding of more than one byte begins -/
def Sng (f : Int) : Prop := 0 ≤ f ∧ f ≤ 255 ∧ ¬ (194 ≤ f ∧ f ≤ 244)
theorem need_sng {f : Int} (h : Sng f) : (need f).toNat ≤ 1 := by
  obtain ⟨h0, h1, h2⟩ := h
  unfold need
  repeat (split; omega)
  omega
theorem wid_sng {f : Int} (h : Sng f) (r : List Int) : wid (f :: r) = 1 := by
  have hn := need_sng h
  have h1 : 1 ≤ wid (f :: r) := by have := wid_pos (l := f :: r) (p := 0) (by simp); simpa using this
  unfold wid at h1 ⊢
  simp only [first] at h1 ⊢
  split
  · rename_i g; rw [if_pos g] at h1; dsimp only at h1 ⊢; omega
  · rfl
theorem spots_all {l : List Int} (h : ∀ p, p < l.length → wid (l.drop p) = 1) : ∀ n p, l.length - p ≤ n → p ≤ l.length → spots l p = List.range' p (l.length - p)
  | 0, p, hn, hp => by rw [spots_end (by omega), show l.length - p = 0 by omega]; rfl
  | n + 1, p, hn, hp => by
    by_cases hlt : p < l.length
    · rw [spots_cons hlt, h p hlt, spots_all h n (p + 1) (by omega) (by omega), show l.length - p = (l.length - (p + 1)) + 1 by omega, List.range'_succ]
    · rw [spots_end hlt, show l.length - p = 0 by omega]; rfl
theorem cutS_rep {f : Int} (h : Sng f) (n : Nat) : (cutS (List.replicate n f)).length = n + 1 := by
  rw [cutS_len, spots_all (fun p hp => ?_) n 0 (by simp) (by simp)]
  · simp
  · rw [List.length_replicate] at hp
    rw [List.drop_replicate, show n - p = (n - p - 1) + 1 by omega, List.replicate_succ]
    exact wid_sng h _
theorem alo_self (cut : List Int → List Nat) (l : List Int) : aloN cut l l = 0 := by
  unfold aloN; rw [lcs_self]; omega
/-- the least delta from a text to itself keeps it -/
theorem least_self {l : List Int} {cs : List Nat} (h : OkCut l cs) (hl : 0 < l.length) : leastD l l cs cs = [⟨1, (l.length : Int), []⟩] := by
  obtain ⟨_, hc, _, N, hp, hN⟩ := least_is (m := l) h h
  have h1 := pcs_len h h _ 0 0 N hp h.pos h.pos
  rw [h.zero] at h1
  have n1 := cutP_cnt h
  rw [lcs_self] at hN
  obtain rfl : N = 0 := by omega
  generalize leastD l l cs cs = d at *
  match d, hc, hp, h1 with
  | [], _, _, h1 => simp [frD] at h1; omega
  | [o], hc, hp, h1 =>
    rcases hp with ⟨k, t, _⟩ | ⟨_, _, n, M, g1, _, _, g2, _⟩ | ⟨_, _, n, M, g1, _, _, g2, _⟩
    · obtain ⟨k', n', t'⟩ := o
      dsimp only at k t
      subst k t
      have hpl := hc.p _ (List.mem_singleton.2 rfl)
      rcases hpl with ⟨_, q, _⟩ | ⟨q, _⟩
      · dsimp only at q
        simp [frD, frN] at h1
        congr 2; omega
      · cases q
    · omega
    · omega
  | o :: o2 :: r, hc, hp, _ =>
    rcases hp with ⟨k, t, n, _, _, _, _, _, hp2⟩ | ⟨_, _, n, M, g1, _, _, g2, _⟩ | ⟨_, _, n, M, g1, _, _, g2, _⟩
    · rcases hp2 with ⟨k2, _⟩ | ⟨_, _, n, M, g1, _, _, g2, _⟩ | ⟨_, _, n, M, g1, _, _, g2, _⟩
      · have := hc.c.1.1
        rw [k, k2] at this
        exact absurd rfl this
      · omega
      · omega
    · omega
    · omega
/-- pairs of a byte and a line end -/
def prL (f : Int) (n : Nat) : List Int := (List.replicate n [f, 10]).flatten
theorem prL_len (f : Int) : ∀ n, (prL f n).length = 2 * n
  | 0 => rfl
  | n + 1 => by have := prL_len f n; unfold prL at this ⊢; rw [List.replicate_succ, List.flatten_cons, List.length_append, this]; simp; omega
theorem prL_succ (f : Int) (n : Nat) : prL f (n + 1) = prL f n ++ [f, 10] := by
  unfold prL; rw [List.replicate_succ', List.flatten_append]; simp
theorem prL_get (f : Int) : ∀ n i, i < n → (prL f n).getD (2 * i) 0 = f ∧ (prL f n).getD (2 * i + 1) 0 = 10
  | 0, i, h => by omega
  | n + 1, i, h => by
    rw [prL_succ]
    have hl := prL_len f n
    rcases Nat.lt_or_eq_of_le (Nat.le_of_lt_succ h) with g | rfl
    · have ih := prL_get f n i g
      simp only [List.getD_eq_getElem?_getD] at ih ⊢
      rw [List.getElem?_append_left (by omega), List.getElem?_append_left (by omega)]
      exact ih
    · simp only [List.getD_eq_getElem?_getD]
      rw [List.getElem?_append_right (by omega), List.getElem?_append_right (by omega), hl]
      simp
theorem endL_even {f : Int} {n i : Nat} (h : i < n) : endL (prL f n) (2 * i) = decide (f = 10) := by
  obtain ⟨h1, h2⟩ := prL_get f n i h
  unfold endL
  rw [h1, h2, prL_len]
  have : ¬ 2 * i + 1 = 2 * n := by omega
  simp [this]
theorem endL_odd {f : Int} {n i : Nat} (h : i < n) : endL (prL f n) (2 * i + 1) = true := by
  obtain ⟨_, h2⟩ := prL_get f n i h
  unfold endL
  rw [h2]; simp
theorem cnt_end {f : Int} {n : Nat} : ∀ k, k ≤ n → ((List.range (2 * k)).filter (endL (prL f n))).length = k + (if f = 10 then k else 0)
  | 0, _ => by simp
  | k + 1, h => by
    rw [show 2 * (k + 1) = 2 * k + 1 + 1 by omega, List.range_succ, List.range_succ, List.filter_append, List.filter_append, List.length_append, List.length_append, cnt_end k (by omega)]
    have e1 := endL_even (f := f) (show k < n by omega)
    have e2 := endL_odd (f := f) (show k < n by omega)
    by_cases hf : f = 10
    · subst hf
      rw [decide_eq_true rfl] at e1; simp [e1, e2]; omega
    · rw [decide_eq_false hf] at e1; simp [e1, e2, hf]
theorem last_pr {f : Int} {n : Nat} : lastC (prL f n) (prL f n).length = (prL f n).length := by
  cases n with
  | zero => have := last_le (prL f 0) (prL f 0).length; rw [prL_len] at this ⊢; omega
  | succ n =>
    have e := endL_odd (f := f) (show n < n + 1 by omega)
    have := (piece_yes e).2
    rw [prL_len, show 2 * (n + 1) = 2 * n + 1 + 1 by omega]; exact this
theorem cutN_pr (f : Int) (n : Nat) : (cutN (prL f n)).length = 1 + n + (if f = 10 then n else 0) := by
  unfold cutN
  rw [cutN_last, last_pr, if_neg (Nat.lt_irrefl _), staL_up]
  unfold upC
  rw [List.length_cons, List.length_map]
  have := cnt_end (f := f) (n := n) n (Nat.le_refl _)
  rw [← prL_len f n] at this
  rw [this]; omega
end Go.Proofs.YtkdnanlgkedjgaaDoor
end

section
namespace Go.Proofs.YtkdnanlgkedjgaaDoor
open Go.ChangeShapes Go.WideShapes Go.ChangeAt Go.RowKit
attribute [local go_sem] Oper.semAt_some

/-- an operation that is well formed by itself -/
def PlO (o : Dop) : Prop := ((o.k = 1 ∨ o.k = 3) ∧ 1 ≤ o.n ∧ o.t = []) ∨ (o.k = 2 ∧ o.n = 0 ∧ o.t ≠ [])
theorem toD_le (d : List Dop) (k : Nat) : toD (d.take k) ≤ toD d := by
  unfold toD
  conv => rhs; rw [← List.take_append_drop k d]
  rw [List.map_append, List.sum_append]
  omega
theorem frD_le' (d : List Dop) (k : Nat) : frD (d.take k) ≤ frD d := by
  unfold frD
  conv => rhs; rw [← List.take_append_drop k d]
  rw [List.map_append, List.sum_append]
  omega
theorem ca_b {a b c : Nat} (h : c = a + b) (hc : c ≤ 1152921504606846976) : wrap64 ((a : Int) + (b : Int)) = (c : Int) ∧ wrap64 ((c : Int) + 0) = (c : Int) ∧ wrap64 (c : Int) = (c : Int) := by
  subst h
  exact ⟨by rw [wrapD _ (by omega) (by omega)]; omega, by rw [wrapD _ (by omega) (by omega)]; omega, wrapD _ (by omega) (by omega)⟩
structure LnI14 (d : List Dop) (k f t : Nat) : Prop where
  ef : f = frD (d.take k)
  et : t = toD (d.take k)
set_option maxRecDepth 100000 in
set_option maxHeartbeats 4000000 in
theorem lens14_at (a : Option Addr) (c : Nat) (d : List Dop) (w : World) (h : IsO w a d) (hl : d.length ≤ 4611686018427387904) (hp : ∀ o ∈ d, PlO o) (hf : frD d ≤ 1152921504606846976) (ht : toD d ≤ 1152921504606846976) :
    Calls Tryd.prog 32 #[.slice a d.length c] w fun y w' => y = .returned (.tuple #[.int .i64 (frD d : Int), .int .i64 (toD d : Int)]) ∧ Below w.heap.size w w' := by
  have HO := hide fun (X : World) (hx : Below w.heap.size w X) => h.below hx (Nat.le_refl _)
  have HV := hide hp
  have HZ := hide (And.intro hf ht)
  obtain ⟨L, E, hL, hE⟩ : ∃ L E, L = frD d ∧ E = toD d := ⟨_, _, rfl, rfl⟩
  rw [← hL, ← hE]
  have HLE := hide (And.intro hL hE)
  clear h hp hf ht hL hE
  go_enter Tryd.func32, Tryd.ntmps32
  go_wp2_with fail
  go_loopw [4, 5, 6] (fun v4 v5 v6 wx => (∃ (k f t : Nat), v6 = .int .i64 (k : Int) ∧ v4 = .int .i64 (f : Int) ∧ v5 = .int .i64 (t : Int) ∧ k ≤ d.length ∧ Hid (LnI14 d k f t)) ∧ Hid (Below w.heap.size w wx)) (fun _ _ v6 _ => d.length - (intOf v6).toNat)
  case atStart => exact ⟨⟨0, 0, 0, rfl, rfl, rfl, Nat.zero_le _, hide ⟨rfl, rfl⟩⟩, hide (Below.refl _ _)⟩
  case round =>
    obtain ⟨⟨k, f, t, rfl, rfl, rfl, hk, HI⟩, HB⟩ := hrel
    by_cases hlt : k < d.length
    · have t1 : decide ((k : Int) < (d.length : Int)) = true := decide_eq_true (by omega)
      have t1' : (k : Int) < (d.length : Int) := by omega
      obtain ⟨g, off, rfl, hg, c0, c1, c2⟩ := (unhide HO wr (unhide HB)).three hlt
      have hx := unhide HV _ (getD_memD hlt)
      have hfr := frD_take d hlt
      have hto := toD_take d hlt
      have hF := Nat.le_trans (frD_le' d (k + 1)) (unhide HZ).1
      have hT := Nat.le_trans (toD_le d (k + 1)) (unhide HZ).2
      rw [← (unhide HI).ef] at hfr
      rw [← (unhide HI).et] at hto
      have HNX : Hid (LnI14 d (k + 1) (frD (d.take (k + 1))) (toD (d.take (k + 1)))) := hide ⟨rfl, rfl⟩
      clear HI hk
      generalize frD (d.take (k + 1)) = F' at *
      generalize toD (d.take (k + 1)) = T' at *
      generalize d.getD k opZ = x at *
      obtain ⟨xk, xn, xt⟩ := x
      unfold PlO at hx
      dsimp only at c0 c1 c2 hx
      have hsz := strOfNums_size xt
      rcases hx with ⟨rfl | rfl, hn, rfl⟩ | ⟨rfl, rfl, hn⟩
      · obtain ⟨m, rfl⟩ : ∃ m : Nat, xn = (m : Int) := ⟨xn.toNat, by omega⟩
        rw [show frN ⟨1, (m : Int), []⟩ = m by simp [frN]] at hfr
        rw [show toN ⟨1, (m : Int), []⟩ = m by simp [toN]] at hto
        have hsz0 : (strOfNums []).size = 0 := by simpa using hsz
        obtain ⟨w1, w2, w3⟩ := ca_b hfr hF
        obtain ⟨w4, w5, w6⟩ := ca_b hto hT
        clear hfr hto hn hF hT hsz
        go_wp2_with fail
        go_roundw
        case rel => exact ⟨⟨k + 1, F', T', by go_num, by first | rfl | rw [w1] | rw [w2] | rw [w3] | rw [w1, w3], by first | rfl | rw [w4] | rw [w5] | rw [w6] | rw [w4, w6], hlt, HNX⟩, HB⟩
        case measure => simp [intOf]; omega
      · obtain ⟨m, rfl⟩ : ∃ m : Nat, xn = (m : Int) := ⟨xn.toNat, by omega⟩
        rw [show frN ⟨3, (m : Int), []⟩ = m by simp [frN]] at hfr
        rw [show toN ⟨3, (m : Int), []⟩ = 0 by simp [toN]] at hto
        have hsz0 : (strOfNums []).size = 0 := by simpa using hsz
        obtain ⟨w1, w2, w3⟩ := ca_b hfr hF
        obtain ⟨w4, w5, w6⟩ := ca_b hto hT
        obtain rfl : T' = t := by omega
        clear hfr hto hn hF hT hsz
        go_wp2_with fail
        go_roundw
        case rel => exact ⟨⟨k + 1, F', T', by go_num, by first | rfl | rw [w1] | rw [w2] | rw [w3] | rw [w1, w3], by first | rfl | rw [w4] | rw [w5] | rw [w6] | rw [w4, w6], hlt, HNX⟩, HB⟩
        case measure => simp [intOf]; omega
      · rw [show frN ⟨2, 0, xt⟩ = 0 by simp [frN]] at hfr
        rw [show toN ⟨2, 0, xt⟩ = xt.length by simp [toN]] at hto
        obtain ⟨w1, w2, w3⟩ := ca_b hfr hF
        obtain ⟨w4, w5, w6⟩ := ca_b hto hT
        obtain rfl : F' = f := by omega
        clear hfr hto hn hF hT
        go_wp2_with fail
        go_roundw
        case rel => exact ⟨⟨k + 1, F', T', by go_num, by first | rfl | rw [w1] | rw [w2] | rw [w3] | rw [w1, w3], by first | rfl | rw [w4] | rw [w5] | rw [w6] | rw [w4, w6], hlt, HNX⟩, HB⟩
        case measure => simp [intOf]; omega
    · obtain rfl : k = d.length := by omega
      have t1 : decide ((d.length : Int) < (d.length : Int)) = false := decide_eq_false (by omega)
      obtain ⟨rfl, rfl⟩ : f = L ∧ t = E := by
        have h1 := (unhide HI).ef
        have h2 := (unhide HI).et
        rw [List.take_length] at h1 h2
        exact ⟨h1.trans (unhide HLE).1.symm, h2.trans (unhide HLE).2.symm⟩
      clear HI hk
      go_wp2_with fail
      refine bodyPost_ret (results_tmp2 rfl _ _ _) rfl ⟨rfl, unhide HB⟩
/-- how long the texts are that a delta puts -/
def txD (d : List Dop) : Nat := (d.map fun o => o.t.length).sum
theorem toD_tx (d : List Dop) : toD d ≤ frD d + txD d := by
  induction d with
  | nil => simp [toD, frD, txD]
  | cons o r ih =>
    have : toN o ≤ frN o + o.t.length := by
      unfold toN frN
      split
      · rename_i h; rw [if_pos (.inl h)]; omega
      · split <;> omega
    simp only [toD, frD, txD, List.map_cons, List.sum_cons] at ih ⊢
    omega
theorem txD_le {M : Nat} : ∀ {d : List Dop}, (∀ o ∈ d, o.t.length ≤ M) → txD d ≤ d.length * M
  | [], _ => by simp [txD]
  | o :: r, h => by
    have h1 := h o (by simp)
    have ih := txD_le (d := r) (fun x hx => h x (by simp [hx]))
    simp only [txD, List.map_cons, List.sum_cons, List.length_cons, Nat.add_mul, Nat.one_mul] at ih ⊢
    omega
theorem txD_val {d : List Dop} (hv : ∀ o ∈ d, PlO o) : txD d ≤ toD d := by
  induction d with
  | nil => simp [txD]
  | cons o r ih =>
    have ih := ih (fun x hx => hv x (by simp [hx]))
    have : o.t.length ≤ toN o := by
      rcases hv o (by simp) with ⟨_, _, h⟩ | ⟨h, _, _⟩
      · rw [h]; simp
      · unfold toN; rw [h]; simp
    simp only [toD, txD, List.map_cons, List.sum_cons] at ih ⊢
    omega
theorem pl_of {d : List Dop} (h1 : d.all plB = true) (h2 : apL 7 d = true) : ∀ o ∈ d, PlO o := fun o ho => by
  have hk := apL_kinds 7 d h2 o ho
  have hp := List.all_eq_true.1 h1 o ho
  unfold plB at hp
  rcases hk with h1 | h1 | h1
  · simp [h1] at hp; exact .inl ⟨.inl h1, hp.2, hp.1⟩
  · simp [h1] at hp; exact .inr ⟨h1, hp.2, hp.1⟩
  · simp [h1] at hp; exact .inl ⟨.inr h1, hp.2, hp.1⟩
def Va4 (d : List Dop) (k f : Nat) : Prop := f = frD (d.take k) ∧ f ≤ 268435456 ∧ (d.take k).all plB = true ∧ apL 7 d = apL (prM d k) (d.drop k) ∧ (k = 0 ∨ (d.getD (k - 1) opZ).k = 1 ∨ (d.getD (k - 1) opZ).k = 2 ∨ (d.getD (k - 1) opZ).k = 3)
theorem le_cases (m : Nat) : (268435456 < m ∧ decide ((m : Int) ≤ 268435456) = false) ∨ (m ≤ 268435456 ∧ decide ((m : Int) ≤ 268435456) = true) := by
  by_cases h : 268435456 < m
  · exact .inl ⟨h, decide_eq_false (by omega)⟩
  · exact .inr ⟨by omega, decide_eq_true (by omega)⟩
set_option maxRecDepth 100000 in
set_option maxHeartbeats 8000000 in
theorem RValid14_at (a : Option Addr) (c : Nat) (d : List Dop) (w : World) (h : IsO w a d) (hl : d.length ≤ 4611686018427387904) (ht : txD d ≤ 1099511627776) :
    Calls Tryd.prog 17 #[.slice a d.length c] w fun y w' => y = .returned (.bool (valB d)) ∧ Below w.heap.size w w' := by
  have HO := hide fun (X : World) (hx : Below w.heap.size w X) => h.below hx (Nat.le_refl _)
  obtain ⟨V, hV⟩ : ∃ V, V = valB d := ⟨_, rfl⟩
  rw [← hV]
  have HV := hide hV
  have HT := hide ht
  clear h hV ht
  go_enter Tryd.func17, Tryd.ntmps17
  go_wp2_with fail
  go_loopw [3, 4, 5] (fun v3 v4 v5 wx => (∃ z, v5 = z) ∧ (∃ (k f : Nat), v4 = .int .i64 (k : Int) ∧ v3 = .int .i64 (f : Int) ∧ k ≤ d.length ∧ Hid (Va4 d k f)) ∧ Hid (Below w.heap.size w wx)) (fun _ v4 _ _ => d.length - (intOf v4).toNat)
  case atStart => exact ⟨⟨_, rfl⟩, ⟨0, 0, rfl, rfl, Nat.zero_le _, hide ⟨rfl, by omega, rfl, rfl, .inl rfl⟩⟩, hide (Below.refl _ _)⟩
  case round =>
    obtain ⟨⟨z1, rfl⟩, ⟨k, f, rfl, rfl, hk, HI⟩, HB⟩ := hrel
    by_cases hlt : k < d.length
    · have t1 : decide ((k : Int) < (d.length : Int)) = true := decide_eq_true (by omega)
      obtain ⟨g, off, ha, hg, c0', c1', c2'⟩ := (unhide HO wr (unhide HB)).three hlt
      obtain ⟨i1, i3, i5, i6, i7⟩ := unhide HI
      have hfr := frD_take d hlt
      have hle := frD_le d (k + 1)
      rw [← i1] at hfr
      have HAP := apL_at hlt (prM d k)
      rw [← i6] at HAP
      have HVP : Hid (plB (d.getD k opZ) = false → V = false) := hide fun h1 => by rw [unhide HV]; exact val_pl (all_no d plB hlt h1)
      have HVF : Hid (268435456 < frD (d.take (k + 1)) → V = false) := hide fun h1 => by rw [unhide HV]; exact val_lo (by omega)
      have HVA : Hid (apB (prM d k) (thisN (d.getD k opZ).k) = false → V = false) := hide fun h1 => by rw [unhide HV]; refine val_ap ?_; rw [HAP, h1]; rfl
      have HNX : Hid (∀ F : Nat, F = frD (d.take (k + 1)) → F ≤ 268435456 → plB (d.getD k opZ) = true → apB (prM d k) (thisN (d.getD k opZ).k) = true → ((d.getD k opZ).k = 1 ∨ (d.getD k opZ).k = 2 ∨ (d.getD k opZ).k = 3) → Va4 d (k + 1) F) := hide fun F h1 h3 h5 h6 h7 =>
        ⟨h1, h3, by rw [all_take d plB hlt, i5, h5]; rfl, by rw [HAP, h6, prM_s]; rfl, .inr (by simpa using h7)⟩
      have HPR : Hid (∀ X, Below w.heap.size w X → k = 0 ∧ prM d k = 7 ∨ ∃ (j : Nat) (p : Int), k = j + 1 ∧ j < d.length ∧ X.cell? ⟨g, off + j * 3, none⟩ = some (.int .i64 p) ∧ prM d k = nextN p ∧ (p = 1 ∨ p = 2 ∨ p = 3)) := hide (fun X hX => by
        cases k with
        | zero => exact .inl ⟨rfl, rfl⟩
        | succ j =>
          obtain ⟨g', off', ha', _, e0, _⟩ := (unhide HO X hX).three (k := j) (by omega)
          rw [ha] at ha'; cases ha'
          rcases i7 with i7 | i7
          · omega
          · exact .inr ⟨j, _, rfl, by omega, e0, prM_s d j, by simpa using i7⟩)
      have hkl : k < 4611686018427387904 := by omega
      subst ha
      clear HI i1 i5 i6 i7 HAP hle hk
      generalize prM d k = pm at *
      generalize prM d (k + 1) = pn at *
      generalize frD (d.take (k + 1)) = F' at *
      generalize (d.take (k + 1)).all plB = al at *
      generalize d.getD k opZ = x at *
      obtain ⟨xk, xn, xt⟩ := x
      dsimp only at c0' c1' c2' HVA HNX
      have hsz := strOfNums_size xt
      have hem := str_empD xt
      have HBN := hide ((unhide HB).alloc (unhide HB).size (.cells #[.int .i64 xk, .int .i64 xn, .string (strOfNums xt)] 38))
      obtain ⟨d0, d1, d2⟩ := three_nwD wr (.int .i64 xk) (.int .i64 xn) (.string (strOfNums xt)) (t := 38)
      have HPR2 := hide (unhide HPR _ (unhide HBN))
      have hgo := hg
      clear HPR HB
      go_upto_region 6 with fail
      clear c0' c1' c2' t1
      generalize wr.alloc (.cells #[.int .i64 xk, .int .i64 xn, .string (strOfNums xt)] 38) = v0 at *
      generalize wr.heap.size = gb at *
      clear hg hgo
      rcases kind_cases xk with rfl | rfl | rfl | ⟨_, _, _, s1, s2, s3, s4⟩
      · rcases kd_cases xn xt with ⟨h1, s1⟩ | ⟨h1, h2, s1, s2, s3⟩ | ⟨h1, h2, s1, s2, s3⟩ | ⟨h1, h2, h3, s1, s2, s3⟩
        · have HV2 : Hid (V = false) := hide (unhide HVP (by unfold plB; simp; omega))
          clear HVP HVF HVA HNX HPR2 hfr hkl i3 h1
          go_wp2_with fail
          rw [unhide HV2]
          refine bodyPost_ret (results_tmp rfl _ _ _) rfl ⟨rfl, unhide HBN⟩
        · have HV2 : Hid (V = false) := hide (unhide HVF (by rw [hfr]; simp [frN]; omega))
          clear HVP HVF HVA HNX HPR2 hfr hkl i3 h1 h2
          go_wp2_with fail
          rw [unhide HV2]
          refine bodyPost_ret (results_tmp rfl _ _ _) rfl ⟨rfl, unhide HBN⟩
        · have HV2 : Hid (V = false) := hide (unhide HVP (by unfold plB; simp [h2]))
          rw [← hem] at h2
          clear hem hsz
          generalize strOfNums xt = st at *
          clear HVP HVF HVA HNX HPR2 hfr hkl i3 h1
          go_wp2_with fail
          rw [unhide HV2]
          refine bodyPost_ret (results_tmp rfl _ _ _) rfl ⟨rfl, unhide HBN⟩
        · obtain ⟨m, rfl⟩ : ∃ m : Nat, xn = (m : Int) := ⟨xn.toNat, by omega⟩
          have HPL : Hid (plB ⟨1, (m : Int), xt⟩ = true) := hide (by unfold plB; simp [h3]; omega)
          rw [show frN ⟨1, (m : Int), xt⟩ = m by simp [frN]] at hfr
          have W1 := hide (ca_k i3 (by omega) hfr)
          rw [← hem] at h3
          clear h1 h2 hem hsz
          by_cases hF : 268435456 < F'
          · have HV2 : Hid (V = false) := hide (unhide HVF hF)
            obtain ⟨p0, p1, p2⟩ := big_t hF
            clear hF HVP HVF HVA HNX HPR2 hfr hkl i3
            obtain ⟨w1, w2, w3⟩ := unhide W1
            go_upto_region 16 with fail
            go_quiet (fail)
            go_wp2_with fail
            rw [unhide HV2]
            refine bodyPost_ret (results_tmp rfl _ _ _) rfl ⟨rfl, below_drewN (unhide HBN) _⟩
          have HN2 := hide (unhide HNX F' rfl (Nat.not_lt.1 hF) (unhide HPL))
          have P0 := hide (big_f hF)
          rcases unhide HPR2 with ⟨hk0, hpm⟩ | ⟨j, p, hj, hjl, cp, hpm, hp⟩
          · subst hk0
            have HN3 := hide (unhide HN2 (by rw [hpm]; rfl) (by decide))
            clear hF HN2 hpm HVP HVF HVA HNX HPR2 hfr hkl i3
            obtain ⟨p0, p1, p2⟩ := unhide P0
            obtain ⟨w1, w2, w3⟩ := unhide W1
            go_upto_region 16 with fail
            go_quiet (fail)
            go_wp2_with fail
            go_roundw
            case rel => exact ⟨⟨_, rfl⟩, ⟨0 + 1, F', by go_num, by first | rfl | go_num, hlt, HN3⟩, hide (below_drewN (unhide HBN) _)⟩
            case measure => simp [intOf]; omega
          · have HKP := hide (k_pos hj hkl hlt)
            rcases hp with rfl | rfl | rfl
            · have HV2 : Hid (V = false) := hide (unhide HVA (by rw [hpm]; rfl))
              clear hF HN2 hpm hj HVP HVF HVA HNX HPR2 hfr hkl i3
              obtain ⟨⟨k1, k6, k7, k8, k9⟩, k2, k3, k4, k5, k10, k11⟩ := unhide HKP
              obtain ⟨p0, p1, p2⟩ := unhide P0
              obtain ⟨w1, w2, w3⟩ := unhide W1
              go_upto_region 16 with fail
              go_quiet (fail)
              go_wp2_with fail
              rw [unhide HV2]
              refine bodyPost_ret (results_tmp rfl _ _ _) rfl ⟨rfl, below_drewN (unhide HBN) _⟩
            · have HN3 := hide (unhide HN2 (by rw [hpm]; rfl) (by decide))
              clear hF HN2 hpm hj HVP HVF HVA HNX HPR2 hfr hkl i3
              obtain ⟨⟨k1, k6, k7, k8, k9⟩, k2, k3, k4, k5, k10, k11⟩ := unhide HKP
              obtain ⟨p0, p1, p2⟩ := unhide P0
              obtain ⟨w1, w2, w3⟩ := unhide W1
              go_upto_region 16 with fail
              go_quiet (fail)
              go_wp2_with fail
              go_roundw
              case rel => exact ⟨⟨_, rfl⟩, ⟨k + 1, F', by go_num, by first | rfl | go_num, hlt, HN3⟩, hide (below_drewN (unhide HBN) _)⟩
              case measure => simp [intOf]; omega
            · have HN3 := hide (unhide HN2 (by rw [hpm]; rfl) (by decide))
              clear hF HN2 hpm hj HVP HVF HVA HNX HPR2 hfr hkl i3
              obtain ⟨⟨k1, k6, k7, k8, k9⟩, k2, k3, k4, k5, k10, k11⟩ := unhide HKP
              obtain ⟨p0, p1, p2⟩ := unhide P0
              obtain ⟨w1, w2, w3⟩ := unhide W1
              go_upto_region 16 with fail
              go_quiet (fail)
              go_wp2_with fail
              go_roundw
              case rel => exact ⟨⟨_, rfl⟩, ⟨k + 1, F', by go_num, by first | rfl | go_num, hlt, HN3⟩, hide (below_drewN (unhide HBN) _)⟩
              case measure => simp [intOf]; omega
      · rcases put_cases xn xt with ⟨h1, s1⟩ | ⟨h1, s1, s2⟩ | ⟨rfl, s1, s2⟩
        · have HV2 : Hid (V = false) := hide (unhide HVP (by unfold plB; simp [h1]))
          clear HVP HVF HVA HNX HPR2 hfr hkl i3 h1
          go_wp2_with fail
          rw [unhide HV2]
          refine bodyPost_ret (results_tmp rfl _ _ _) rfl ⟨rfl, unhide HBN⟩
        · have HV2 : Hid (V = false) := hide (unhide HVP (by unfold plB; simp [s2]))
          rw [← hem] at s2
          clear hem hsz
          generalize strOfNums xt = st at *
          clear HVP HVF HVA HNX HPR2 hfr hkl i3 h1
          go_wp2_with fail
          rw [unhide HV2]
          refine bodyPost_ret (results_tmp rfl _ _ _) rfl ⟨rfl, unhide HBN⟩
        · have HPL : Hid (plB ⟨2, 0, xt⟩ = true) := hide (by unfold plB; simp [s2])
          rw [show frN ⟨2, 0, xt⟩ = 0 by simp [frN]] at hfr
          obtain rfl : F' = f := by omega
          rw [← hem] at s2
          clear hem
          have hF : ¬ 268435456 < F' := by omega
          have HN2 := hide (unhide HNX F' rfl (Nat.not_lt.1 hF) (unhide HPL))
          have P0 := hide (big_f hF)
          rcases unhide HPR2 with ⟨hk0, hpm⟩ | ⟨j, p, hj, hjl, cp, hpm, hp⟩
          · subst hk0
            have HN3 := hide (unhide HN2 (by rw [hpm]; rfl) (by decide))
            clear hF HN2 hpm HVP HVF HVA HNX HPR2 hfr hkl i3
            obtain ⟨p0, p1, p2⟩ := unhide P0
            go_upto_region 16 with fail
            go_quiet (fail)
            go_wp2_with fail
            go_roundw
            case rel => exact ⟨⟨_, rfl⟩, ⟨0 + 1, F', by go_num, by first | rfl | go_num, hlt, HN3⟩, hide (below_drewN (unhide HBN) _)⟩
            case measure => simp [intOf]; omega
          · have HKP := hide (k_pos hj hkl hlt)
            rcases hp with rfl | rfl | rfl
            · have HN3 := hide (unhide HN2 (by rw [hpm]; rfl) (by decide))
              clear hF HN2 hpm hj HVP HVF HVA HNX HPR2 hfr hkl i3
              obtain ⟨⟨k1, k6, k7, k8, k9⟩, k2, k3, k4, k5, k10, k11⟩ := unhide HKP
              obtain ⟨p0, p1, p2⟩ := unhide P0
              go_upto_region 16 with fail
              go_quiet (fail)
              go_wp2_with fail
              go_roundw
              case rel => exact ⟨⟨_, rfl⟩, ⟨k + 1, F', by go_num, by first | rfl | go_num, hlt, HN3⟩, hide (below_drewN (unhide HBN) _)⟩
              case measure => simp [intOf]; omega
            · have HV2 : Hid (V = false) := hide (unhide HVA (by rw [hpm]; rfl))
              clear hF HN2 hpm hj HVP HVF HVA HNX HPR2 hfr hkl i3
              obtain ⟨⟨k1, k6, k7, k8, k9⟩, k2, k3, k4, k5, k10, k11⟩ := unhide HKP
              obtain ⟨p0, p1, p2⟩ := unhide P0
              go_upto_region 16 with fail
              go_quiet (fail)
              go_wp2_with fail
              rw [unhide HV2]
              refine bodyPost_ret (results_tmp rfl _ _ _) rfl ⟨rfl, below_drewN (unhide HBN) _⟩
            · have HV2 : Hid (V = false) := hide (unhide HVA (by rw [hpm]; rfl))
              clear hF HN2 hpm hj HVP HVF HVA HNX HPR2 hfr hkl i3
              obtain ⟨⟨k1, k6, k7, k8, k9⟩, k2, k3, k4, k5, k10, k11⟩ := unhide HKP
              obtain ⟨p0, p1, p2⟩ := unhide P0
              go_upto_region 16 with fail
              go_quiet (fail)
              go_wp2_with fail
              rw [unhide HV2]
              refine bodyPost_ret (results_tmp rfl _ _ _) rfl ⟨rfl, below_drewN (unhide HBN) _⟩
      · rcases kd_cases xn xt with ⟨h1, s1⟩ | ⟨h1, h2, s1, s2, s3⟩ | ⟨h1, h2, s1, s2, s3⟩ | ⟨h1, h2, h3, s1, s2, s3⟩
        · have HV2 : Hid (V = false) := hide (unhide HVP (by unfold plB; simp; omega))
          clear HVP HVF HVA HNX HPR2 hfr hkl i3 h1
          go_wp2_with fail
          rw [unhide HV2]
          refine bodyPost_ret (results_tmp rfl _ _ _) rfl ⟨rfl, unhide HBN⟩
        · have HV2 : Hid (V = false) := hide (unhide HVF (by rw [hfr]; simp [frN]; omega))
          clear HVP HVF HVA HNX HPR2 hfr hkl i3 h1 h2
          go_wp2_with fail
          rw [unhide HV2]
          refine bodyPost_ret (results_tmp rfl _ _ _) rfl ⟨rfl, unhide HBN⟩
        · have HV2 : Hid (V = false) := hide (unhide HVP (by unfold plB; simp [h2]))
          rw [← hem] at h2
          clear hem hsz
          generalize strOfNums xt = st at *
          clear HVP HVF HVA HNX HPR2 hfr hkl i3 h1
          go_wp2_with fail
          rw [unhide HV2]
          refine bodyPost_ret (results_tmp rfl _ _ _) rfl ⟨rfl, unhide HBN⟩
        · obtain ⟨m, rfl⟩ : ∃ m : Nat, xn = (m : Int) := ⟨xn.toNat, by omega⟩
          have HPL : Hid (plB ⟨3, (m : Int), xt⟩ = true) := hide (by unfold plB; simp [h3]; omega)
          rw [show frN ⟨3, (m : Int), xt⟩ = m by simp [frN]] at hfr
          have W1 := hide (ca_k i3 (by omega) hfr)
          rw [← hem] at h3
          clear h1 h2 hem hsz
          by_cases hF : 268435456 < F'
          · have HV2 : Hid (V = false) := hide (unhide HVF hF)
            obtain ⟨p0, p1, p2⟩ := big_t hF
            clear hF HVP HVF HVA HNX HPR2 hfr hkl i3
            obtain ⟨w1, w2, w3⟩ := unhide W1
            go_upto_region 16 with fail
            go_quiet (fail)
            go_wp2_with fail
            rw [unhide HV2]
            refine bodyPost_ret (results_tmp rfl _ _ _) rfl ⟨rfl, below_drewN (unhide HBN) _⟩
          have HN2 := hide (unhide HNX F' rfl (Nat.not_lt.1 hF) (unhide HPL))
          have P0 := hide (big_f hF)
          rcases unhide HPR2 with ⟨hk0, hpm⟩ | ⟨j, p, hj, hjl, cp, hpm, hp⟩
          · subst hk0
            have HN3 := hide (unhide HN2 (by rw [hpm]; rfl) (by decide))
            clear hF HN2 hpm HVP HVF HVA HNX HPR2 hfr hkl i3
            obtain ⟨p0, p1, p2⟩ := unhide P0
            obtain ⟨w1, w2, w3⟩ := unhide W1
            go_upto_region 16 with fail
            go_quiet (fail)
            go_wp2_with fail
            go_roundw
            case rel => exact ⟨⟨_, rfl⟩, ⟨0 + 1, F', by go_num, by first | rfl | go_num, hlt, HN3⟩, hide (below_drewN (unhide HBN) _)⟩
            case measure => simp [intOf]; omega
          · have HKP := hide (k_pos hj hkl hlt)
            rcases hp with rfl | rfl | rfl
            · have HN3 := hide (unhide HN2 (by rw [hpm]; rfl) (by decide))
              clear hF HN2 hpm hj HVP HVF HVA HNX HPR2 hfr hkl i3
              obtain ⟨⟨k1, k6, k7, k8, k9⟩, k2, k3, k4, k5, k10, k11⟩ := unhide HKP
              obtain ⟨p0, p1, p2⟩ := unhide P0
              obtain ⟨w1, w2, w3⟩ := unhide W1
              go_upto_region 16 with fail
              go_quiet (fail)
              go_wp2_with fail
              go_roundw
              case rel => exact ⟨⟨_, rfl⟩, ⟨k + 1, F', by go_num, by first | rfl | go_num, hlt, HN3⟩, hide (below_drewN (unhide HBN) _)⟩
              case measure => simp [intOf]; omega
            · have HN3 := hide (unhide HN2 (by rw [hpm]; rfl) (by decide))
              clear hF HN2 hpm hj HVP HVF HVA HNX HPR2 hfr hkl i3
              obtain ⟨⟨k1, k6, k7, k8, k9⟩, k2, k3, k4, k5, k10, k11⟩ := unhide HKP
              obtain ⟨p0, p1, p2⟩ := unhide P0
              obtain ⟨w1, w2, w3⟩ := unhide W1
              go_upto_region 16 with fail
              go_quiet (fail)
              go_wp2_with fail
              go_roundw
              case rel => exact ⟨⟨_, rfl⟩, ⟨k + 1, F', by go_num, by first | rfl | go_num, hlt, HN3⟩, hide (below_drewN (unhide HBN) _)⟩
              case measure => simp [intOf]; omega
            · have HV2 : Hid (V = false) := hide (unhide HVA (by rw [hpm]; rfl))
              clear hF HN2 hpm hj HVP HVF HVA HNX HPR2 hfr hkl i3
              obtain ⟨⟨k1, k6, k7, k8, k9⟩, k2, k3, k4, k5, k10, k11⟩ := unhide HKP
              obtain ⟨p0, p1, p2⟩ := unhide P0
              obtain ⟨w1, w2, w3⟩ := unhide W1
              go_upto_region 16 with fail
              go_quiet (fail)
              go_wp2_with fail
              rw [unhide HV2]
              refine bodyPost_ret (results_tmp rfl _ _ _) rfl ⟨rfl, below_drewN (unhide HBN) _⟩
      · have HV2 : Hid (V = false) := hide (unhide HVA (by rw [s4]; simp [apB]))
        clear HVP HVF HVA HNX HPR2 hfr hkl i3 s4
        go_wp2_with fail
        rw [unhide HV2]
        refine bodyPost_ret (results_tmp rfl _ _ _) rfl ⟨rfl, unhide HBN⟩
    · obtain rfl : k = d.length := by omega
      have t1 : decide ((d.length : Int) < (d.length : Int)) = false := decide_eq_false (by omega)
      obtain ⟨i1, i3, i5, i6, i7⟩ := unhide HI
      rw [List.take_length] at i1 i5
      rw [List.drop_length] at i6
      have hto := toD_tx d
      have hT := unhide HT
      have HL := hide (lens14_at a c d wr (unhide HO wr (unhide HB)) hl (pl_of i5 i6) (by omega) (by omega))
      have HV2 : Hid (V = decide (toD d ≤ 268435456)) := hide (by
        rw [unhide HV, valB, i5, i6]
        unfold lonB
        by_cases h : toD d ≤ 268435456
        · rw [decide_eq_true h, decide_eq_false (by omega)]; rfl
        · rw [decide_eq_false h, decide_eq_true (by omega)]; rfl)
      have q1 : decide ((f : Int) ≤ 268435456) = true := decide_eq_true (by omega)
      rw [← i1] at HL
      clear HI hk i1 i3 i5 i6 i7 hto hT HT
      generalize toD d = E at *
      go_wp2_with fail
      refine (unhide HL).mono ?_
      rintro y w1 ⟨rfl, x1⟩
      dsimp only
      have HX := hide ((unhide HB).trans (x1.mono (unhide HB).size))
      clear HL x1 HB
      rcases le_cases E with ⟨q2, q3⟩ | ⟨q2, q3⟩
      · have HV3 : Hid (V = false) := hide (by rw [unhide HV2]; exact decide_eq_false (by omega))
        clear q2 HV2
        go_wp2_with fail
        rw [unhide HV3]
        refine bodyPost_ret (results_tmp rfl _ _ _) rfl ⟨rfl, unhide HX⟩
      · have HV3 : Hid (V = true) := hide (by rw [unhide HV2]; exact decide_eq_true q2)
        clear q2 HV2
        go_wp2_with fail
        rw [unhide HV3]
        refine bodyPost_ret (results_tmp rfl _ _ _) rfl ⟨rfl, unhide HX⟩
theorem val_PlO {d : List Dop} (hv : valB d = true) : ∀ o ∈ d, PlO o := fun _ ho => valB_op hv ho
theorem tx_val {d : List Dop} (hv : valB d = true) : txD d ≤ 268435456 := Nat.le_trans (txD_val (val_PlO hv)) (valB_nn hv).2.2
set_option maxRecDepth 100000 in
set_option maxHeartbeats 1000000 in
theorem RLensM_at (a : Option Addr) (c : Nat) (d : List Dop) (w : World) (h : IsO w a d) (hl : d.length ≤ 4611686018427387904) (hv : valB d = true) :
    Calls Tryd.prog 18 #[.slice a d.length c] w fun y w' => y = .returned (.tuple #[.int .i64 (frD d : Int), .int .i64 (toD d : Int)]) ∧ Below w.heap.size w w' := by
  have hnn := (valB_nn hv).2
  have HL := hide (lens14_at a c d w h hl (val_PlO hv) (by omega) (by omega))
  clear h hl hv hnn
  go_enter Tryd.func18, Tryd.ntmps18
  go_wp2_with fail
  refine (unhide HL).mono ?_
  rintro y w1 ⟨rfl, x1⟩
  dsimp only
  clear HL
  go_wp2_with fail
  refine bodyPost_ret (results_tmp2 rfl _ _ _) rfl ⟨rfl, x1⟩
end Go.Proofs.YtkdnanlgkedjgaaDoor
end
