/- Layer 13, the document's Apply. · Layer 13, the document's Invert. · Layer 13: the law's fixed fact (the document's examples), its copies. · Layer 13: the law's fixed fact. · Layer 13: the law's same and bytes, told by what lies there. -/
import Derived.Test.YtdemagijhmbdcaaDo29
import Derived.Lib.SlBytesConst

section
namespace Go.Proofs.Ytdemagijhmbdcaa
open Go.ChangeShapes Go.WideShapes Go.ChangeAt Go.RowKit
attribute [local go_sem] Oper.semAt_some

theorem runW_rest {d : List Dop} (b : List Int) (hv : valB d = true) : ∀ k, k ≤ d.length → (runW b (d.take k)).1 = b.drop (frD (d.take k))
  | 0, _ => by simp [runW, frD]
  | k + 1, hk => by
    have ih := runW_rest b hv k (by omega)
    have hx := valB_op hv (getD_memD (d := d) (k := k) (by omega))
    have e1 := frD_take d (k := k) (by omega)
    rw [runW_take b d (by omega), e1]
    generalize runW b (d.take k) = s at *
    generalize d.getD k opZ = x at *
    obtain ⟨xk, xn, xt⟩ := x
    dsimp only at hx
    rcases hx with ⟨rfl | rfl, hn, rfl⟩ | ⟨rfl, rfl, hn⟩ <;> simp [stW, frN, ih]
theorem runV_rest {d : List Dop} (b : List Int) (hv : valB d = true) : ∀ k, k ≤ d.length → (runV b (d.take k)).1 = b.drop (frD (d.take k))
  | 0, _ => by simp [runV, frD]
  | k + 1, hk => by
    have ih := runV_rest b hv k (by omega)
    have hx := valB_op hv (getD_memD (d := d) (k := k) (by omega))
    have e1 := frD_take d (k := k) (by omega)
    rw [runV_take b d (by omega), e1]
    generalize runV b (d.take k) = s at *
    generalize d.getD k opZ = x at *
    obtain ⟨xk, xn, xt⟩ := x
    dsimp only at hx
    rcases hx with ⟨rfl | rfl, hn, rfl⟩ | ⟨rfl, rfl, hn⟩ <;> simp [stV, frN, ih]
theorem run_moreV (w : World) (B : Nat) (v : Value) (l m : List Int) (a0 : Option Addr) (cap : Nat) (ty : TypeId) (h : Own w B v l) (hm : IsB w a0 cap m) (h0 : 0 < m.length) (hB : B ≤ w.heap.size) (hn : l.length + m.length ≤ 140737488355328) :
    ∃ v' w', (Builtin.append_ #[22, 22] ty #[v, .slice a0 m.length cap]).run Try.prog w = .ok v' w' ∧ Own w' B v' (l ++ m) ∧ Below B w w' := by
  obtain ⟨i, hi, hz, hs, hby⟩ := info_u8
  rcases hm.2.2.1 with h3 | ⟨g0, off, rfl, hL⟩
  · rw [h3] at h0; cases h0
  obtain ⟨g', c', w', hr, ho, hg, hat, hlt⟩ := run_append_lies (P := Try.prog) w 22 ty B 5 i (.int .u8 0) 1 1 Try.underlying22 hi hz hs hby rfl (by decide)
    v l.length (l.map (Value.int .u8)) h ⟨g0, off, none⟩ m.length cap (m.map (Value.int .u8)) (by simp) (src_cells hL) (src_some _ g0 off cap m hL).one h0 (by unfold maxLen; omega) (by omega) hB (w.heap.size) (by omega)
  refine ⟨_, w', hr, ?_, (Below.refl B w).grown hg hB (fun k e => (World.ownsRow.lt h k e).1)⟩
  unfold Own
  simpa using ho
theorem run_strV (w : World) (B : Nat) (v : Value) (l t : List Int) (ty : TypeId) (h : Own w B v l) (ht : ∀ x ∈ t, 0 ≤ x ∧ x ≤ 255) (hB : B ≤ w.heap.size) (hn : l.length + t.length ≤ 140737488355328) :
    ∃ v' w', (Builtin.append_ #[22, 9] ty #[v, .string (strOfNums t)]).run Try.prog w = .ok v' w' ∧ Own w' B v' (l ++ t) ∧ Below B w w' := by
  obtain ⟨i, hi, hz, hs, hby⟩ := info_u8
  have hsz := strOfNums_size t
  obtain ⟨v', w', hr, ho, hg, _⟩ := Lib.run_append_own_string (P := Try.prog) w B 22 9 ty 5 i Try.underlying22 Try.underlying9 hi hz hs hby _ l.length _ h (strOfNums t) (by unfold maxLen; omega) (by omega) hB
  rw [hsz, strCells_nums ht] at ho
  exact ⟨v', w', hr, by unfold Own; simpa using ho, (Below.refl B w).grown hg hB (fun k e => (World.ownsRow.lt h k e).1)⟩
/-- the state of the document's loop -/
structure ApI (b : List Int) (d : List Dop) (k f : Nat) (v : Value) (w X : World) : Prop where
  ef : f = frD (d.take k)
  z : f ≤ 268435456
  o : Own X w.heap.size v (runW b (d.take k)).2
  d : Below w.heap.size w X
set_option maxRecDepth 100000 in
set_option maxHeartbeats 4000000 in
theorem RApply_at (a0 : Option Addr) (c0 : Nat) (b : List Int) (a : Option Addr) (c : Nat) (d : List Dop) (w : World) (hb : IsB w a0 c0 b) (h : IsO w a d) (hl : d.length ≤ 4611686018427387904) (hv : valB d = true) (hf : frD d = b.length) (htb : ∀ o ∈ d, TbD o) :
    Calls Try.prog 21 #[.slice a0 b.length c0, .slice a d.length c] w fun y w' => ∃ v, y = .returned v ∧ Own w' w.heap.size v (apD b d) ∧ Below w.heap.size w w' := by
  have HO := hide fun (X : World) (hx : Below w.heap.size w X) => h.below hx (Nat.le_refl _)
  have HBB := hide hb
  have HVV := hide (And.intro hv (And.intro hf htb))
  have hc0 := hb.1
  clear h hb hv hf htb
  go_enter Try.func21, Try.ntmps21
  go_wp2_with fail
  go_loopw [5, 6, 7, 18] (fun v5 v6 v7 v18 wx => (∃ z, v18 = z) ∧ (∃ (k f : Nat), v7 = .int .i64 (k : Int) ∧ v6 = .int .i64 (f : Int) ∧ k ≤ d.length ∧ Hid (ApI b d k f v5 w wx))) (fun _ _ v7 _ _ => d.length - (intOf v7).toNat)
  case atStart => exact ⟨⟨_, rfl⟩, ⟨0, 0, rfl, rfl, Nat.zero_le _, hide ⟨rfl, by omega, World.ownsRow_nil _ _ _ _, Below.refl _ _⟩⟩⟩
  case round =>
    obtain ⟨⟨z1, rfl⟩, ⟨k, f, rfl, rfl, hk, HI⟩⟩ := hrel
    by_cases hlt : k < d.length
    · have t1 : decide ((k : Int) < (d.length : Int)) = true := decide_eq_true (by omega)
      obtain ⟨g, off, ha', hg', _⟩ := (unhide HO w (Below.refl _ _)).three hlt
      obtain ⟨g', off', rfl, hg, e0, e1, e2⟩ := (unhide HO wr (unhide HI).d).three hlt
      obtain ⟨rfl, rfl⟩ : g' = g ∧ off' = off := by cases ha'; exact ⟨rfl, rfl⟩
      clear ha'
      have HGL := hide hg'
      clear hg'
      obtain ⟨hv, hf, htb⟩ := unhide HVV
      have hx := valB_op hv (getD_memD hlt)
      have htx := htb _ (getD_memD hlt)
      have hz := (unhide HI).z
      have hz2 := (valB_nn hv).2
      have hfr := frD_take d hlt
      have hto := toD_take d hlt
      have hle := frD_le d (k + 1)
      have hlen := (runW_len hv hf k (by omega)).2
      have hrest := runW_rest b hv k (by omega)
      have hstep := runW_take b d hlt
      have hown := (unhide HI).o
      have hdd := (unhide HI).d
      rw [← (unhide HI).ef] at hfr hrest
      have HNX : Hid (∀ (F : Nat) (v : Value) (X : World), F = frD (d.take (k + 1)) → F ≤ 268435456 → Own X w.heap.size v (runW b (d.take (k + 1))).2 → Below w.heap.size w X → ApI b d (k + 1) F v w X) := hide fun F v X h1 h2 h3 h4 => ⟨h1, h2, h3, h4⟩
      rw [hstep] at HNX
      clear HI hk hv htb hstep
      generalize runW b (d.take k) = s at *
      obtain ⟨s1, s2⟩ := s
      dsimp only at hlen hrest hown
      subst hrest
      generalize frD (d.take (k + 1)) = F' at *
      generalize toD (d.take (k + 1)) = T' at *
      generalize toD (d.take k) = T at *
      generalize d.getD k opZ = x at *
      obtain ⟨xk, xn, xt⟩ := x
      dsimp only at e0 e1 e2 hx htx
      rcases hx with ⟨rfl | rfl, hn, rfl⟩ | ⟨rfl, rfl, hn⟩
      · obtain ⟨m, rfl⟩ : ∃ m : Nat, xn = (m : Int) := ⟨xn.toNat, by omega⟩
        rw [show frN ⟨1, (m : Int), []⟩ = m by simp [frN]] at hfr
        rw [show toN ⟨1, (m : Int), []⟩ = m by simp [toN]] at hto
        subst hfr
        obtain ⟨gb, ob, rfl⟩ : ∃ gb ob, a0 = some ⟨gb, ob, none⟩ := by
          rcases (unhide HBB).2.2.1 with h3 | ⟨g0, o0, h3, _⟩
          · rw [h3] at hf; simp at hf; omega
          · exact ⟨g0, o0, h3⟩
        have hbm := ((unhide HBB).takeD (n := f + m)).loD (n := f)
        rw [if_neg (by omega), Option.map_some, Addr.add_lit] at hbm
        have hml : ((b.take (f + m)).drop f).length = m := by simp; omega
        obtain ⟨v', X', r2, o2, b2⟩ := run_moreV wr w.heap.size _ s2 ((b.take (f + m)).drop f) _ (c0 - f) 22 hown (hbm.below hdd (Nat.le_refl _)) (by rw [hml]; omega) hdd.size (by rw [hml]; omega)
        rw [hml, show m = f + m - f by omega] at r2
        have hrw : (b.take (f + m)).drop f = (b.drop f).take m := by rw [List.drop_take, Nat.add_sub_cancel_left]
        rw [hrw] at o2
        have HN2 : Hid (ApI b d (k + 1) (f + m) v' w X') := hide (unhide HNX (f + m) v' X' rfl (by omega) (by
          simp only [stW, if_true, Int.toNat_natCast]
          exact o2) (hdd.trans b2))
        have R2 := hide r2
        have q1 : m ≤ 268435456 := by omega
        have q2 : f + m ≤ c0 := by omega
        have q3 : ¬ c0 = f := by omega
        have k1 := (b2.cell (p := ⟨_, _, none⟩) (unhide HGL)).trans e1
        clear hml hrw o2 b2 r2 hbm hto hz2 hle hlen hown hdd hn HNX htx hf HVV HBB
        go_upto_region 9 with fail
        clear t1 e0
        go_wp2_with (at_builtin; refine wpList_append_known rfl _ _ 22 22 rfl _ _ rfl rfl _ _ (unhide R2) ?_; clear R2)
        go_roundw
        case rel => exact ⟨⟨_, rfl⟩, ⟨k + 1, f + m, by go_num, by go_num, hlt, HN2⟩⟩
        case measure => simp [intOf]; omega
      · obtain ⟨m, rfl⟩ : ∃ m : Nat, xn = (m : Int) := ⟨xn.toNat, by omega⟩
        rw [show frN ⟨3, (m : Int), []⟩ = m by simp [frN]] at hfr
        have W1 := hide (ca_k hz (by omega) hfr)
        have HN2 : Hid (ApI b d (k + 1) F' _ w wr) := hide (unhide HNX F' _ wr rfl (by omega) (by
          simp only [stW, show ¬ ((3 : Int) = 1) by decide, show ¬ ((3 : Int) = 2) by decide, if_false]
          exact hown) hdd)
        clear hfr hto hz hz2 hle hlen hown hdd hn HNX htx hf HVV HBB
        obtain ⟨w1, w2, w3⟩ := unhide W1
        go_wp2_with fail
        go_roundw
        case rel => exact ⟨⟨_, rfl⟩, ⟨k + 1, F', by go_num, by first | rfl | rw [w1], hlt, HN2⟩⟩
        case measure => simp [intOf]; omega
      · rw [show frN ⟨2, 0, xt⟩ = 0 by simp [frN]] at hfr
        rw [show toN ⟨2, 0, xt⟩ = xt.length by simp [toN]] at hto
        obtain rfl : F' = f := by omega
        obtain ⟨v', X', r2, o2, b2⟩ := run_strV wr w.heap.size _ s2 xt 22 hown htx hdd.size (by omega)
        have HN2 : Hid (ApI b d (k + 1) F' v' w X') := hide (unhide HNX F' v' X' rfl (by omega) (by
          simp only [stW, show ¬ ((2 : Int) = 1) by decide, if_true, if_false]
          exact o2) (hdd.trans b2))
        have R2 := hide r2
        clear o2 b2 r2 hfr hto hz hz2 hle hlen hown hdd hn HNX htx hf HVV HBB
        generalize strOfNums xt = st at *
        go_wp2_with (at_builtin; refine wpList_append_known rfl _ _ 22 9 rfl _ _ rfl rfl _ _ (unhide R2) ?_; clear R2)
        go_roundw
        case rel => exact ⟨⟨_, rfl⟩, ⟨k + 1, F', by go_num, rfl, hlt, HN2⟩⟩
        case measure => simp [intOf]; omega
    · obtain rfl : k = d.length := by omega
      have t1 : decide ((d.length : Int) < (d.length : Int)) = false := decide_eq_false (by omega)
      have hoo := (unhide HI).o
      rw [List.take_length] at hoo
      have HOO := hide hoo
      have HXX := hide (unhide HI).d
      clear HI hk hoo HBB HVV
      go_wp2_with fail
      refine bodyPost_ret (results_tmp rfl _ _ _) rfl ⟨_, rfl, by exact unhide HOO, unhide HXX⟩

end Go.Proofs.Ytdemagijhmbdcaa
end

section
namespace Go.Proofs.Ytdemagijhmbdcaa
open Go.ChangeShapes Go.WideShapes Go.ChangeAt Go.RowKit
attribute [local go_sem] Oper.semAt_some

/-- the state of the document's loop -/
structure InI (b : List Int) (d : List Dop) (k f : Nat) (M : List Dop) (a : Option Addr) (w X : World) : Prop where
  ef : f = frD (d.take k)
  l : M = (feedA b0 (dA (runV b (d.take k)).2)).fin
  o : IsO X a M
  d : Below w.heap.size w X
/-- one more, as add says -/
theorem add_snoc (e : List Dop) {x : Dop} (hk : x.k = 1 ∨ x.k = 2 ∨ x.k = 3) (hn : x.k ≠ 2 → 0 ≤ x.n) : addD (feedA b0 (dA e)).fin x.k (if x.k = 2 then 0 else x.n) (if x.k = 2 then x.t else []) = (feedA b0 (dA (e ++ [x]))).fin := by
  rw [add_op hk hn, dA_snoc]
set_option maxRecDepth 100000 in
set_option maxHeartbeats 4000000 in
theorem RInvert_at (a0 : Option Addr) (c0 : Nat) (b : List Int) (a : Option Addr) (c : Nat) (d : List Dop) (w : World) (hb : IsB w a0 c0 b) (h : IsO w a d) (hl : d.length ≤ 4611686018427387904) (hv : valB d = true) (hf : frD d = b.length) :
    Calls Try.prog 19 #[.slice a0 b.length c0, .slice a d.length c] w fun y w' => ∃ a' c', y = .returned (.slice a' (canA (dA (ivD b d))).length c') ∧ IsO w' a' (canA (dA (ivD b d))) ∧ (canA (dA (ivD b d))).length ≤ c' ∧ Below w.heap.size w w' := by
  have HO := hide fun (X : World) (hx : Below w.heap.size w X) => h.below hx (Nat.le_refl _)
  have HBB := hide hb
  have HVV := hide (And.intro hv hf)
  have hc0 := hb.1
  obtain ⟨L, hL⟩ : ∃ L, L = canA (dA (ivD b d)) := ⟨_, rfl⟩
  rw [← hL]
  have HL := hide hL
  clear h hb hv hf hL
  go_enter Try.func19, Try.ntmps19
  go_wp2_with fail
  go_loopw [5, 6, 7, 18] (fun v5 v6 v7 v18 wx => (∃ z, v18 = z) ∧ (∃ (k f q : Nat) (M : List Dop) (a8 : Option Addr), v7 = .int .i64 (k : Int) ∧ v6 = .int .i64 (f : Int) ∧ v5 = .slice a8 M.length q ∧ k ≤ d.length ∧ M.length ≤ q ∧ Hid (InI b d k f M a8 w wx))) (fun _ _ v7 _ _ => d.length - (intOf v7).toNat)
  case atStart => exact ⟨⟨_, rfl⟩, ⟨0, 0, 0, [], none, rfl, rfl, rfl, Nat.zero_le _, Nat.le_refl _, hide ⟨rfl, rfl, Or.inl rfl, Below.refl _ _⟩⟩⟩
  case round =>
    obtain ⟨⟨z1, rfl⟩, ⟨k, f, q, M, a8, rfl, rfl, rfl, hk, hq, HI⟩⟩ := hrel
    by_cases hlt : k < d.length
    · have t1 : decide ((k : Int) < (d.length : Int)) = true := decide_eq_true (by omega)
      obtain ⟨g, off, ha', hg', _⟩ := (unhide HO w (Below.refl _ _)).three hlt
      obtain ⟨g', off', rfl, hg, e0, e1, e2⟩ := (unhide HO wr (unhide HI).d).three hlt
      obtain ⟨rfl, rfl⟩ : g' = g ∧ off' = off := by cases ha'; exact ⟨rfl, rfl⟩
      clear ha'
      have HGL := hide hg'
      clear hg'
      obtain ⟨hv, hf⟩ := unhide HVV
      have hx := valB_op hv (getD_memD hlt)
      have hz2 := (valB_nn hv).2
      have hfr := frD_take d hlt
      have hto := toD_take d hlt
      have hle := frD_le d (k + 1)
      have hlen := (runV_len hv hf k (by omega)).2
      have hrest := runV_rest b hv k (by omega)
      have hstep := runV_take b d hlt
      have hdd := (unhide HI).d
      have hM := (unhide HI).l
      have hle0 := frD_le d k
      rw [← (unhide HI).ef] at hfr hrest hle0 hlen
      have HNX : Hid (∀ (F : Nat) (a9 : Option Addr) (M' : List Dop) (X : World), F = frD (d.take (k + 1)) → M' = (feedA b0 (dA (runV b (d.take (k + 1))).2)).fin → IsO X a9 M' → Below wr.heap.size wr X → InI b d (k + 1) F M' a9 w X) := hide fun F a9 M' X h1 h2 h3 h4 => ⟨h1, h2, h3, hdd.trans (h4.mono hdd.size)⟩
      rw [hstep] at HNX
      have HADD : Hid (∀ (kk n : Int) (s : List Int), 0 ≤ n ∧ n ≤ 2305843009213693952 → s.length ≤ 2305843009213693952 → Calls Try.prog 51 #[.slice a8 M.length q, .int .i64 kk, .int .i64 n, .string (strOfNums s)] wr fun y w' => ∃ a' c', y = .returned (.slice a' (addD M kk n s).length c') ∧ IsO w' a' (addD M kk n s) ∧ (addD M kk n s).length ≤ c' ∧ Below wr.heap.size wr w') := hide fun kk n s h1 h2 => RAdd_at a8 q M kk n s wr (unhide HI).o hq (by rw [hM]; exact adok_feed (by omega) h1 h2)
      clear HI hk hv hstep
      have HKC : Hid (∀ X, Below wr.heap.size wr X → X.cell? ⟨g', off' + k * 3 + 1, none⟩ = wr.cell? ⟨g', off' + k * 3 + 1, none⟩) := hide fun X hX => hX.cell (p := ⟨g', off' + k * 3 + 1, none⟩) (Nat.lt_of_lt_of_le (unhide HGL) hdd.size)
      generalize runV b (d.take k) = s at *
      obtain ⟨s1, s2⟩ := s
      dsimp only at hlen hrest hM
      subst hrest
      generalize frD (d.take (k + 1)) = F' at *
      generalize toD (d.take (k + 1)) = T' at *
      generalize toD (d.take k) = T at *
      generalize d.getD k opZ = x at *
      obtain ⟨xk, xn, xt⟩ := x
      dsimp only at e0 e1 e2 hx
      have hsz := strOfNums_size xt
      rcases hx with ⟨rfl | rfl, hn, rfl⟩ | ⟨rfl, rfl, hn⟩
      · obtain ⟨m, rfl⟩ : ∃ m : Nat, xn = (m : Int) := ⟨xn.toNat, by omega⟩
        rw [show frN ⟨1, (m : Int), []⟩ = m by simp [frN]] at hfr
        subst hfr
        have hC := unhide HADD 1 (m : Int) [] (by omega) (by simp)
        have hA := add_snoc s2 (x := ⟨1, (m : Int), []⟩) (.inl rfl) (fun _ => by dsimp only; omega)
        simp only [show ¬ ((1 : Int) = 2) by decide, if_false] at hA
        rw [← hM] at hA
        rw [hA, show strOfNums [] = (⟨#[]⟩ : ByteArray) from rfl] at hC
        have HC := hide hC
        have HN2 := hide fun (a9 : Option Addr) (X : World) => unhide HNX (f + m) a9 (feedA b0 (dA (s2 ++ [⟨1, (m : Int), []⟩]))).fin X rfl (by simp only [stV, if_true])
        have q1 : m ≤ 268435456 := by omega
        have hz : f ≤ 268435456 := by omega
        clear hC hA HNX HADD hto hz2 hle hle0 hlen hdd hn hf HVV HBB hM hsz
        generalize (feedA b0 (dA (s2 ++ [⟨1, (m : Int), []⟩]))).fin = M' at *
        go_wp2_with fail
        refine (unhide HC).mono ?_
        rintro y v1 ⟨a9, q9, rfl, i9, l9, x9⟩
        dsimp only
        have k1 := (unhide HKC v1 x9).trans e1
        have HI2 := hide (unhide HN2 a9 v1 i9 x9)
        clear HC HN2 i9 x9 HKC
        go_wp2_with fail
        go_roundw
        case rel => exact ⟨⟨_, rfl⟩, ⟨k + 1, f + m, q9, M', a9, by go_num, by go_num, rfl, hlt, l9, HI2⟩⟩
        case measure => simp [intOf]; omega
      · obtain ⟨m, rfl⟩ : ∃ m : Nat, xn = (m : Int) := ⟨xn.toNat, by omega⟩
        rw [show frN ⟨3, (m : Int), []⟩ = m by simp [frN]] at hfr
        subst hfr
        obtain ⟨gb, ob, rfl⟩ : ∃ gb ob, a0 = some ⟨gb, ob, none⟩ := by
          rcases (unhide HBB).2.2.1 with h3 | ⟨g0, o0, h3, _⟩
          · rw [h3] at hf; simp at hf; omega
          · exact ⟨g0, o0, h3⟩
        have hbm := ((unhide HBB).takeD (n := f + m)).loD (n := f)
        rw [if_neg (by omega), Option.map_some, Addr.add_lit] at hbm
        have hml : ((b.take (f + m)).drop f).length = m := by simp; omega
        have hrw : (b.take (f + m)).drop f = (b.drop f).take m := by rw [List.drop_take, Nat.add_sub_cancel_left]
        rw [hrw] at hbm hml
        have hcv : (convert 22 9 (.slice (some ⟨gb, ob + f, none⟩) (f + m - f) (c0 - f))).run Try.prog wr = .ok (.string (strOfNums ((b.drop f).take m))) wr := by
          have := str_bs wr _ (c0 - f) _ (hbm.below hdd (Nat.le_refl _)).2.2.1
          rw [hml] at this
          rw [Nat.add_sub_cancel_left]
          exact this
        have hcw : (convert 22 9 (.slice (some ⟨gb, ob + f, none⟩) m (c0 - f))).run Try.prog wr = .ok (.string (strOfNums ((b.drop f).take m))) wr := by
          rw [Nat.add_sub_cancel_left] at hcv
          exact hcv
        have hC := unhide HADD 2 0 ((b.drop f).take m) (by omega) (by omega)
        have hA := add_snoc s2 (x := ⟨2, 0, (b.drop f).take m⟩) (.inr (.inl rfl)) (fun h => absurd rfl h)
        simp only [if_true] at hA
        rw [← hM] at hA
        rw [hA] at hC
        have HC := hide hC
        have HN2 := hide fun (a9 : Option Addr) (X : World) => unhide HNX (f + m) a9 (feedA b0 (dA (s2 ++ [⟨2, 0, (b.drop f).take m⟩]))).fin X rfl (by simp only [stV, show ¬ ((3 : Int) = 1) by decide, show ¬ ((3 : Int) = 2) by decide, if_false, Int.toNat_natCast])
        have q1 : m ≤ 268435456 := by omega
        have q2 : f + m ≤ c0 := by omega
        have q3 : ¬ c0 = f := by omega
        have hz : f ≤ 268435456 := by omega
        clear hC hA HNX HADD hto hz2 hle hle0 hlen hdd hn hf HVV HBB hM hsz hbm hml hrw
        generalize (feedA b0 (dA (s2 ++ [⟨2, 0, (b.drop f).take m⟩]))).fin = M' at *
        generalize strOfNums ((b.drop f).take m) = st at *
        go_upto_region 12 with fail
        clear t1 e0
        go_wp2_with fail
        refine (unhide HC).mono ?_
        rintro y v1 ⟨a9, q9, rfl, i9, l9, x9⟩
        dsimp only
        have k1 := (unhide HKC v1 x9).trans e1
        have HI2 := hide (unhide HN2 a9 v1 i9 x9)
        clear HC HN2 i9 x9 HKC hcv hcw
        go_wp2_with fail
        go_roundw
        case rel => exact ⟨⟨_, rfl⟩, ⟨k + 1, f + m, q9, M', a9, by go_num, by go_num, rfl, hlt, l9, HI2⟩⟩
        case measure => simp [intOf]; omega
      · rw [show frN ⟨2, 0, xt⟩ = 0 by simp [frN]] at hfr
        rw [show toN ⟨2, 0, xt⟩ = xt.length by simp [toN]] at hto
        obtain rfl : F' = f := by omega
        have hC := unhide HADD 3 (xt.length : Int) [] (by omega) (by simp)
        have hA := add_snoc s2 (x := ⟨3, (xt.length : Int), []⟩) (.inr (.inr rfl)) (fun _ => by dsimp only; omega)
        simp only [show ¬ ((3 : Int) = 2) by decide, if_false] at hA
        rw [← hM] at hA
        rw [hA, show strOfNums [] = (⟨#[]⟩ : ByteArray) from rfl] at hC
        have HC := hide hC
        have HN2 := hide fun (a9 : Option Addr) (X : World) => unhide HNX F' a9 (feedA b0 (dA (s2 ++ [⟨3, (xt.length : Int), []⟩]))).fin X rfl (by simp only [stV, show ¬ ((2 : Int) = 1) by decide, if_true, if_false])
        clear hC hA HNX HADD hto hz2 hle hle0 hlen hdd hn hf HVV HBB hM HKC hfr
        generalize (feedA b0 (dA (s2 ++ [⟨3, (xt.length : Int), []⟩]))).fin = M' at *
        go_wp2_with fail
        refine (unhide HC).mono ?_
        rintro y v1 ⟨a9, q9, rfl, i9, l9, x9⟩
        dsimp only
        have HI2 := hide (unhide HN2 a9 v1 i9 x9)
        clear HC HN2 i9 x9
        go_wp2_with fail
        go_roundw
        case rel => exact ⟨⟨_, rfl⟩, ⟨k + 1, F', q9, M', a9, by go_num, rfl, rfl, hlt, l9, HI2⟩⟩
        case measure => simp [intOf]; omega
    · obtain rfl : k = d.length := by omega
      have t1 : decide ((d.length : Int) < (d.length : Int)) = false := decide_eq_false (by omega)
      have hM := (unhide HI).l
      rw [List.take_length] at hM
      obtain rfl : M = L := hM.trans (unhide HL).symm
      have HOO := hide (unhide HI).o
      have HXX := hide (unhide HI).d
      clear HI hk hM HBB HVV HL
      go_wp2_with fail
      refine bodyPost_ret (results_tmp rfl _ _ _) rfl ⟨a8, q, rfl, unhide HOO, hq, unhide HXX⟩

end Go.Proofs.Ytdemagijhmbdcaa
end

section
namespace Go.Proofs.Ytdemagijhmbdcaa
open Go.ChangeShapes Go.WideShapes Go.ChangeAt Go.RowKit
attribute [local go_sem] Oper.semAt_some

set_option maxRecDepth 100000 in
theorem bytes13_at (a0 : Option Addr) (c0 : Nat) (b : List Int) (w : World) (hb : IsB w a0 c0 b) :
    Calls Try.prog 8 #[.slice a0 b.length c0] w fun y w' => ∃ v, y = .returned v ∧ Own w' w.heap.size v b ∧ Below w.heap.size w w' := by
  obtain ⟨v', w', hr, ho, hbb⟩ := run_copy_own w a0 c0 b 22 hb
  have R2 := hide hr
  have HO := hide ho
  have HB := hide hbb
  clear hr ho hbb hb
  go_enter Try.func8, Try.ntmps8
  go_wp2_with (at_builtin; refine wpList_append_known rfl _ _ 22 22 rfl _ _ rfl rfl _ _ (unhide R2) ?_; clear R2)
  refine bodyPost_ret (results_tmp rfl _ _ _) rfl ⟨v', rfl, unhide HO, unhide HB⟩
def exD : List Dop := [⟨1, 2, []⟩, ⟨2, 0, [120, 121]⟩, ⟨3, 1, []⟩, ⟨1, 3, []⟩]
def exB : List Int := [97, 98, 99, 100, 101, 102]
def exI : List Dop := [⟨1, 2, []⟩, ⟨2, 0, [99]⟩, ⟨3, 2, []⟩, ⟨1, 3, []⟩]
theorem ex_val : valB exD = true ∧ frD exD = 6 ∧ toD exD = 7 := by decide
theorem ex_tb : ∀ o ∈ exD, TbD o := by
  show ∀ o ∈ exD, ∀ x ∈ o.t, 0 ≤ x ∧ x ≤ 255
  decide
theorem ex_ap : apD exB exD = [97, 98, 120, 121, 100, 101, 102] := by decide
theorem ex_fit : fitE exD exB.length = 0 := by unfold fitE; rw [ex_val.1, ex_val.2.1]; decide
theorem ex_inv : invD exB exD = exI := by unfold invD; rw [if_pos ex_fit]; decide
theorem ex_isO (w : World) : IsO (w.alloc (.cells #[.int .i64 1, .int .i64 2, .string ⟨#[]⟩, .int .i64 2, .int .i64 0, .string ⟨#[120, 121]⟩, .int .i64 3, .int .i64 1, .string ⟨#[]⟩, .int .i64 1, .int .i64 3, .string ⟨#[]⟩] 34)) (some ⟨w.heap.size, 0, none⟩) exD := by
  refine Or.inr ⟨_, _, rfl, by simp, fun k hk => ?_⟩
  have f : ∀ j, (w.alloc (.cells #[.int .i64 1, .int .i64 2, .string ⟨#[]⟩, .int .i64 2, .int .i64 0, .string ⟨#[120, 121]⟩, .int .i64 3, .int .i64 1, .string ⟨#[]⟩, .int .i64 1, .int .i64 3, .string ⟨#[]⟩] 34)).cell? ⟨w.heap.size, j, none⟩ = _ := fun j => World.cell?_alloc_mark w _ _ (0, 0) j
  have hk' : k = 0 ∨ k = 1 ∨ k = 2 ∨ k = 3 := by simp [exD] at hk; omega
  rcases hk' with rfl | rfl | rfl | rfl
  all_goals exact ⟨(f _).trans rfl, (f _).trans rfl, (f _).trans rfl⟩
theorem ex_isB (w : World) (X : World) (h : Below (w.heap.size + 1) (w.alloc (.cells #[.int .u8 97, .int .u8 98, .int .u8 99, .int .u8 100, .int .u8 101, .int .u8 102] 5 (6, 7))) X) : IsB X (some ⟨w.heap.size, 0, none⟩) 6 exB := by
  refine ⟨by decide, by decide, Or.inr ⟨_, _, rfl, fun i hi => ?_⟩, by decide⟩
  have hi' : i = 0 ∨ i = 1 ∨ i = 2 ∨ i = 3 ∨ i = 4 ∨ i = 5 := by simp [exB] at hi; omega
  have f : ∀ j, X.cell? ⟨w.heap.size, j, none⟩ = _ := fun j => (h.cell (p := ⟨w.heap.size, j, none⟩) (by show w.heap.size < _; omega)).trans (World.cell?_alloc_mark w _ _ (6, 7) j)
  rcases hi' with rfl | rfl | rfl | rfl | rfl | rfl
  all_goals exact ⟨(f _).trans rfl, by decide⟩

end Go.Proofs.Ytdemagijhmbdcaa
end

section
namespace Go.Proofs.Ytdemagijhmbdcaa
open Go.ChangeShapes Go.WideShapes Go.ChangeAt Go.RowKit
attribute [local go_sem] Oper.semAt_some

theorem own13O (a : Addr) (c : Nat) (d : List Dop) (w : World) (h : IsO w (some a) d) (hb : d.length * 32 ≤ 140737488355328) :
    Calls Try.prog 9 #[.slice (some a) d.length c] w fun y w' => ∃ a' c', y = .returned (.slice a' d.length c') ∧ IsO w' a' d ∧ d.length ≤ c' ∧ Below w.heap.size w w' :=
  (own13_at (some a) c d w h (.inr ⟨a, rfl⟩) hb).mono fun y w' ⟨v, e, ho, x⟩ => by
    obtain ⟨a', c', rfl, h1, h2⟩ := own_isO ho
    exact ⟨a', c', e, h1, h2, x⟩
theorem str_ex : strOfNums [97, 98, 120, 121, 100, 101, 102] = ⟨#[97, 98, 120, 121, 100, 101, 102]⟩ := by decide
theorem str_c : strOfNums [99] = ⟨#[99]⟩ := by decide
/-- Apply of the example -/
theorem exApply (w1 wb : World) (a : Option Addr) (c : Nat) (hx : Below (w1.heap.size + 1) (w1.alloc (.cells #[.int .u8 97, .int .u8 98, .int .u8 99, .int .u8 100, .int .u8 101, .int .u8 102] 5 (6, 7))) wb) (h : IsO wb a exD) :
    Calls Try.prog 10 #[.slice (some ⟨w1.heap.size, 0, none⟩) 6 6, .slice a 4 c] wb fun y w' => ∃ g cap, y = .returned (.tuple #[.slice (some ⟨g, 0, none⟩) 7 cap, .int .i64 0]) ∧ Lies w' g 0 [97, 98, 120, 121, 100, 101, 102] ∧ g < w'.heap.size ∧ Below wb.heap.size wb w' :=
  (Apply_at (some ⟨w1.heap.size, 0, none⟩) 6 exB a c exD wb (ex_isB w1 wb hx) h (by decide) ex_tb).mono fun y w' ⟨v, e, ho, x⟩ => by
    rw [ex_fit] at e ho
    rw [if_pos rfl, ex_ap] at ho
    obtain ⟨g, cap, rfl, _, h2, _⟩ := ho.form (by decide)
    exact ⟨g, cap, e, ho.lies (by decide), h2, x⟩
theorem exInvert (w1 wb : World) (a : Option Addr) (c : Nat) (hx : Below (w1.heap.size + 1) (w1.alloc (.cells #[.int .u8 97, .int .u8 98, .int .u8 99, .int .u8 100, .int .u8 101, .int .u8 102] 5 (6, 7))) wb) (h : IsO wb a exD) :
    Calls Try.prog 11 #[.slice (some ⟨w1.heap.size, 0, none⟩) 6 6, .slice a 4 c] wb fun y w' => ∃ g off cap, y = .returned (.tuple #[.slice (some ⟨g, off, none⟩) 4 cap, .int .i64 0]) ∧ w'.cell? ⟨g, off + 3 + 2, none⟩ = some (.string ⟨#[99]⟩) ∧ Below wb.heap.size wb w' :=
  (Invert_at (some ⟨w1.heap.size, 0, none⟩) 6 exB a c exD wb (ex_isB w1 wb hx) h (by decide)).mono fun y w' ⟨v, e, ho, x⟩ => by
    rw [ex_fit] at e
    rw [ex_inv] at ho
    obtain ⟨a', c', rfl, h1, h2⟩ := own_isO ho
    obtain ⟨g, off, rfl, _, _, _, k2⟩ := h1.three (k := 1) (by decide)
    refine ⟨g, off, c', e, ?_, x⟩
    rw [← str_c]
    exact k2
theorem exLens (wb : World) (a : Option Addr) (c : Nat) (h : IsO wb a exD) :
    Calls Try.prog 17 #[.slice a 4 c] wb fun y w' => y = .returned (.tuple #[.int .i64 6, .int .i64 7, .int .i64 0]) ∧ Below wb.heap.size wb w' :=
  (Lens_at a c exD wb h (by decide)).mono fun y w' ⟨e, x⟩ => by
    unfold lensV at e
    rw [ex_val.1, ex_val.2.1, ex_val.2.2] at e
    exact ⟨e, x⟩
theorem exValid (wb : World) (a : Option Addr) (c : Nat) (h : IsO wb a exD) :
    Calls Try.prog 16 #[.slice a 4 c] wb fun y w' => y = .returned (.bool true) ∧ Below wb.heap.size wb w' :=
  (Valid_atD a c exD wb h (by decide)).mono fun y w' ⟨e, x⟩ => by
    rw [ex_val.1] at e
    exact ⟨e, x⟩
set_option maxRecDepth 100000 in
set_option maxHeartbeats 4000000 in
theorem awake13_at (w : World) : Calls Try.prog 4 #[] w fun y w' => y = .returned (.bool true) ∧ Below w.heap.size w w' := by
  have kc := fun (w : World) (C : Array Value) (n c : Nat) => Lib.run_convert_bytes_const (P := Try.prog) w 22 5 C n c Try.underlying22 Try.underlying5
  have hO := ex_isO w
  have b1 := (Below.refl w.heap.size w).alloc (Nat.le_refl _) (.cells #[.int .i64 1, .int .i64 2, .string ⟨#[]⟩, .int .i64 2, .int .i64 0, .string ⟨#[120, 121]⟩, .int .i64 3, .int .i64 1, .string ⟨#[]⟩, .int .i64 1, .int .i64 3, .string ⟨#[]⟩] 34)
  have HB1 := hide b1
  have HW1 := hide fun (X : World) (hx : Below (w.alloc (.cells #[.int .i64 1, .int .i64 2, .string ⟨#[]⟩, .int .i64 2, .int .i64 0, .string ⟨#[120, 121]⟩, .int .i64 3, .int .i64 1, .string ⟨#[]⟩, .int .i64 1, .int .i64 3, .string ⟨#[]⟩] 34)).heap.size (w.alloc (.cells #[.int .i64 1, .int .i64 2, .string ⟨#[]⟩, .int .i64 2, .int .i64 0, .string ⟨#[120, 121]⟩, .int .i64 3, .int .i64 1, .string ⟨#[]⟩, .int .i64 1, .int .i64 3, .string ⟨#[]⟩] 34)) X) => hO.below hx (Nat.le_refl _)
  clear hO b1
  go_enter Try.func4, Try.ntmps4
  go_upto_region 2 with fail
  generalize w.alloc (.cells #[.int .i64 1, .int .i64 2, .string ⟨#[]⟩, .int .i64 2, .int .i64 0, .string ⟨#[120, 121]⟩, .int .i64 3, .int .i64 1, .string ⟨#[]⟩, .int .i64 1, .int .i64 3, .string ⟨#[]⟩] 34) = w1 at *
  generalize hgo : w.heap.size = go at *
  have HOwn : Hid (∀ X, Below w1.heap.size w1 X → Calls Try.prog 9 #[.slice (some ⟨go, 0, none⟩) 4 4] X fun y w' => ∃ a' c', y = .returned (.slice a' 4 c') ∧ IsO w' a' exD ∧ 4 ≤ c' ∧ Below X.heap.size X w') := hide fun X hx => own13O ⟨go, 0, none⟩ 4 exD X (unhide HW1 X hx) (by decide)
  have HAl : Hid (∀ X : World, Below w1.heap.size w1 X → Below w1.heap.size w1 (X.alloc (.cells #[.int .u8 97, .int .u8 98, .int .u8 99, .int .u8 100, .int .u8 101, .int .u8 102] 5 (6, 7)))) := hide fun X hX => hX.alloc hX.size _
  have HSz : Hid (∀ X : World, (X.alloc (.cells #[.int .u8 97, .int .u8 98, .int .u8 99, .int .u8 100, .int .u8 101, .int .u8 102] 5 (6, 7))).heap.size = X.heap.size + 1) := hide fun X => World.size_alloc ..
  have X1 := Below.refl w1.heap.size w1
  have HO1 := hide (unhide HOwn _ (unhide HAl w1 X1))
  clear X1
  go_wp2_with fail
  refine (unhide HO1).mono ?_
  rintro y w2 ⟨a2, c2, rfl, i2, l2, x2⟩
  dsimp only
  rw [unhide HSz] at x2
  have HAp := hide (exApply w1 w2 a2 c2 x2 i2)
  have hX2 : Below w1.heap.size w1 w2 := (unhide HAl w1 (Below.refl _ _)).trans (x2.mono (by omega))
  have HX2 := hide hX2
  clear HO1 i2 x2 hX2
  go_wp2_with fail
  refine (unhide HAp).mono ?_
  rintro y w3 ⟨g3, c3, rfl, l3, z3, x3⟩
  dsimp only
  have hX3 : Below w1.heap.size w1 w3 := (unhide HX2).trans (x3.mono (unhide HX2).size)
  have HX3 := hide hX3
  have HL3 := hide (And.intro l3 z3)
  have HO3 := hide (unhide HOwn w3 hX3)
  clear HAp HX2 x3 l3 z3 hX3
  go_wp2_with fail
  refine (unhide HO3).mono ?_
  rintro y w4 ⟨a4, c4, rfl, i4, l4, x4⟩
  dsimp only
  have HLe := hide (exLens w4 a4 c4 i4)
  have HX4 := hide ((unhide HX3).trans (x4.mono (unhide HX3).size))
  have HL4 : Hid (Lies w4 g3 0 [97, 98, 120, 121, 100, 101, 102] ∧ g3 < w4.heap.size) := hide ⟨fun i hi => ⟨(x4.cell (p := ⟨g3, 0 + i, none⟩) (unhide HL3).2).trans ((unhide HL3).1 i hi).1, ((unhide HL3).1 i hi).2⟩, Nat.lt_of_lt_of_le (unhide HL3).2 x4.size⟩
  clear HO3 HX3 HL3 i4 x4
  go_wp2_with fail
  refine (unhide HLe).mono ?_
  rintro y w5 ⟨rfl, x5⟩
  dsimp only
  have HX5 := hide ((unhide HX4).trans (x5.mono (unhide HX4).size))
  have HL5 : Hid (Lies w5 g3 0 [97, 98, 120, 121, 100, 101, 102] ∧ g3 < w5.heap.size) := hide ⟨fun i hi => ⟨(x5.cell (p := ⟨g3, 0 + i, none⟩) (unhide HL4).2).trans ((unhide HL4).1 i hi).1, ((unhide HL4).1 i hi).2⟩, Nat.lt_of_lt_of_le (unhide HL4).2 x5.size⟩
  have HO5 := hide (unhide HOwn _ (unhide HAl w5 (unhide HX5)))
  clear HLe HX4 HL4 x5
  go_wp2_with fail
  refine (unhide HO5).mono ?_
  rintro y w6 ⟨a6, c6, rfl, i6, l6, x6⟩
  dsimp only
  rw [unhide HSz] at x6
  have HIn := hide (exInvert w5 w6 a6 c6 x6 i6)
  have x56 : Below w5.heap.size w5 w6 := ((Below.refl w5.heap.size w5).alloc (Nat.le_refl _) _).trans (x6.mono (by omega))
  have HX6 := hide ((unhide HX5).trans (x56.mono (unhide HX5).size))
  have HL6 : Hid (Lies w6 g3 0 [97, 98, 120, 121, 100, 101, 102] ∧ g3 < w6.heap.size) := hide ⟨fun i hi => ⟨(x56.cell (p := ⟨g3, 0 + i, none⟩) (unhide HL5).2).trans ((unhide HL5).1 i hi).1, ((unhide HL5).1 i hi).2⟩, Nat.lt_of_lt_of_le (unhide HL5).2 x56.size⟩
  clear HO5 HX5 HL5 i6 x6 x56
  go_wp2_with fail
  refine (unhide HIn).mono ?_
  rintro y w7 ⟨g7, o7, c7, rfl, k7, x7⟩
  dsimp only
  have HX7 := hide ((unhide HX6).trans (x7.mono (unhide HX6).size))
  have hL7 : Lies w7 g3 0 [97, 98, 120, 121, 100, 101, 102] := fun i hi => ⟨(x7.cell (p := ⟨g3, 0 + i, none⟩) (unhide HL6).2).trans ((unhide HL6).1 i hi).1, ((unhide HL6).1 i hi).2⟩
  have hcv : (convert 22 9 (.slice (some ⟨g3, 0, none⟩) 7 c3)).run Try.prog w7 = .ok (.string ⟨#[97, 98, 120, 121, 100, 101, 102]⟩) w7 := by
    rw [← str_ex]
    exact str_lies w7 g3 0 c3 _ hL7
  have HVa := hide (exValid w7 (some ⟨go, 0, none⟩) 4 (unhide HW1 w7 (unhide HX7)))
  clear HIn HX6 HL6 x7 hL7 HOwn HAl HSz HW1
  go_wp2_with fail
  refine (unhide HVa).mono ?_
  rintro y w8 ⟨rfl, x8⟩
  dsimp only
  have HX8 := hide ((unhide HB1).trans (((unhide HX7).trans (x8.mono (unhide HX7).size)).mono (hgo ▸ (unhide HB1).size)))
  rw [← hgo] at HX8
  clear HVa HX7 HB1 x8 hcv k7
  go_wp2_with fail
  refine bodyPost_ret (results_tmp rfl _ _ _) rfl ⟨rfl, unhide HX8⟩

end Go.Proofs.Ytdemagijhmbdcaa
end

section
namespace Go.Proofs.Ytdemagijhmbdcaa
open Go.ChangeShapes Go.WideShapes Go.ChangeAt Go.RowKit
attribute [local go_sem] Oper.semAt_some

theorem Own.isB {w : World} {B : Nat} {v : Value} {l : List Int} (h : Own w B v l) (hl : ∀ x ∈ l, 0 ≤ x ∧ x ≤ 255) (hn : l.length ≤ 140737488351232) : ∃ a c, v = .slice a l.length c ∧ IsB w a c l := by
  have hh := h
  rcases h.2 with ⟨rfl, h0⟩ | ⟨g, cap, cur, rfl, _, _, hc, _⟩
  · have h0' : l = [] := List.length_eq_zero_iff.1 h0
    exact ⟨none, 0, by rw [h0], by omega, hn, Or.inl h0', hl⟩
  · exact ⟨some ⟨g, 0, none⟩, cap, rfl, hc, hn, Or.inr ⟨g, 0, rfl, hh.lies hl⟩, hl⟩
theorem bytes13B (a0 : Option Addr) (c0 : Nat) (b : List Int) (w : World) (hb : IsB w a0 c0 b) :
    Calls Try.prog 8 #[.slice a0 b.length c0] w fun y w' => ∃ a' c', y = .returned (.slice a' b.length c') ∧ IsB w' a' c' b ∧ Below w.heap.size w w' :=
  (bytes13_at a0 c0 b w hb).mono fun y w' ⟨v, e, ho, x⟩ => by
    obtain ⟨a', c', rfl, h1⟩ := ho.isB hb.2.2.2 hb.2.1
    exact ⟨a', c', e, h1, x⟩
set_option maxRecDepth 100000 in
theorem same13_at (a : Option Addr) (c : Nat) (d : List Dop) (a' : Option Addr) (c' : Nat) (e : List Dop) (w : World) (h : IsO w a d) (h' : IsO w a' e) (hl : d.length ≤ 4611686018427387904) (hl' : e.length ≤ 4611686018427387904) (hb : ∀ o ∈ d, TbD o) (hb' : ∀ o ∈ e, TbD o) :
    Calls Try.prog 18 #[.slice a d.length c, .slice a' e.length c'] w fun y w' => y = .returned (.bool (decide (d = e))) ∧ Below w.heap.size w w' := by
  have HC := hide (RSame_at a c d a' c' e w h h' hl hl' hb hb')
  clear h h' hl hl' hb hb'
  generalize decide (d = e) = V at *
  go_enter Try.func18, Try.ntmps18
  go_wp2_with fail
  refine (unhide HC).mono ?_
  rintro y w1 ⟨rfl, x1⟩
  dsimp only
  clear HC
  go_wp2_with fail
  refine bodyPost_ret (results_tmp rfl _ _ _) rfl ⟨rfl, x1⟩
/-- the inverse is of bytes, if the old bytes are -/
theorem runV_tb {b : List Int} (hb : ∀ x ∈ b, 0 ≤ x ∧ x ≤ 255) (d : List Dop) : (∀ x ∈ (runV b d).1, 0 ≤ x ∧ x ≤ 255) ∧ ∀ o ∈ (runV b d).2, TbD o := by
  unfold runV
  have : ∀ (d : List Dop) (s : List Int × List Dop), ((∀ x ∈ s.1, 0 ≤ x ∧ x ≤ 255) ∧ ∀ o ∈ s.2, TbD o) → (∀ x ∈ (d.foldl stV s).1, 0 ≤ x ∧ x ≤ 255) ∧ ∀ o ∈ (d.foldl stV s).2, TbD o := by
    intro d
    induction d with
    | nil => intro s h; exact h
    | cons o r ih =>
      intro s h
      refine ih _ ?_
      unfold stV
      split
      · refine ⟨fun x hx => h.1 x (List.mem_of_mem_drop hx), fun q hq => ?_⟩
        rcases List.mem_append.1 hq with hq | hq
        · exact h.2 q hq
        · rw [List.mem_singleton.1 hq]; intro x hx; cases hx
      · split
        · refine ⟨h.1, fun q hq => ?_⟩
          rcases List.mem_append.1 hq with hq | hq
          · exact h.2 q hq
          · rw [List.mem_singleton.1 hq]; intro x hx; cases hx
        · refine ⟨fun x hx => h.1 x (List.mem_of_mem_drop hx), fun q hq => ?_⟩
          rcases List.mem_append.1 hq with hq | hq
          · exact h.2 q hq
          · rw [List.mem_singleton.1 hq]; intro x hx; exact h.1 x (List.mem_of_mem_take hx)
  exact this d (b, []) ⟨hb, fun o ho => by cases ho⟩

end Go.Proofs.Ytdemagijhmbdcaa
end
