/- Layer 13, the document's Apply. · Layer 13, the document's Invert. -/
import Derived.Test.YtkmbkoajbmlgaaaMg29

section
namespace Go.Proofs.Ytkmbkoajbmlgaaa
open Go.ChangeShapes Go.WideShapes Go.ChangeAt Go.RowKit
attribute [local go_sem] Oper.semAt_some

theorem runW_rest {d : List Dop} (b : List Int) (hv : valB d = true) : ∀ k, k ≤ d.length → (runW b (d.take k)).1 = b.drop (frD (d.take k))
  | 0, _ => by simp [runW, frD]
  | k + 1, hk => by
    have ih := runW_rest b hv k (by omega)
    have hx := valB_op hv (getD_memD (d := d) (k := k) (by omega))
    have e1 := frD_take d (k := k) (by omega)
    rw [runW_take b d (by omega), e1]
    generalize runW b (d.take k) = s at *
    generalize d.getD k opZ = x at *
    obtain ⟨xk, xn, xt⟩ := x
    dsimp only at hx
    rcases hx with ⟨rfl | rfl, hn, rfl⟩ | ⟨rfl, rfl, hn⟩ <;> simp [stW, frN, ih]
theorem runV_rest {d : List Dop} (b : List Int) (hv : valB d = true) : ∀ k, k ≤ d.length → (runV b (d.take k)).1 = b.drop (frD (d.take k))
  | 0, _ => by simp [runV, frD]
  | k + 1, hk => by
    have ih := runV_rest b hv k (by omega)
    have hx := valB_op hv (getD_memD (d := d) (k := k) (by omega))
    have e1 := frD_take d (k := k) (by omega)
    rw [runV_take b d (by omega), e1]
    generalize runV b (d.take k) = s at *
    generalize d.getD k opZ = x at *
    obtain ⟨xk, xn, xt⟩ := x
    dsimp only at hx
    rcases hx with ⟨rfl | rfl, hn, rfl⟩ | ⟨rfl, rfl, hn⟩ <;> simp [stV, frN, ih]
theorem run_moreV (w : World) (B : Nat) (v : Value) (l m : List Int) (a0 : Option Addr) (cap : Nat) (ty : TypeId) (h : Own w B v l) (hm : IsB w a0 cap m) (h0 : 0 < m.length) (hB : B ≤ w.heap.size) (hn : l.length + m.length ≤ 140737488355328) :
    ∃ v' w', (Builtin.append_ #[22, 22] ty #[v, .slice a0 m.length cap]).run Try.prog w = .ok v' w' ∧ Own w' B v' (l ++ m) ∧ Below B w w' := by
  obtain ⟨i, hi, hz, hs, hby⟩ := info_u8
  rcases hm.2.2.1 with h3 | ⟨g0, off, rfl, hL⟩
  · rw [h3] at h0; cases h0
  obtain ⟨g', c', w', hr, ho, hg, hat, hlt⟩ := run_append_lies (P := Try.prog) w 22 ty B 5 i (.int .u8 0) 1 1 Try.underlying22 hi hz hs hby rfl (by decide)
    v l.length (l.map (Value.int .u8)) h ⟨g0, off, none⟩ m.length cap (m.map (Value.int .u8)) (by simp) (src_cells hL) (src_some _ g0 off cap m hL).one h0 (by unfold maxLen; omega) (by omega) hB (w.heap.size) (by omega)
  refine ⟨_, w', hr, ?_, (Below.refl B w).grown hg hB (fun k e => (World.ownsRow.lt h k e).1)⟩
  unfold Own
  simpa using ho
theorem run_strV (w : World) (B : Nat) (v : Value) (l t : List Int) (ty : TypeId) (h : Own w B v l) (ht : ∀ x ∈ t, 0 ≤ x ∧ x ≤ 255) (hB : B ≤ w.heap.size) (hn : l.length + t.length ≤ 140737488355328) :
    ∃ v' w', (Builtin.append_ #[22, 9] ty #[v, .string (strOfNums t)]).run Try.prog w = .ok v' w' ∧ Own w' B v' (l ++ t) ∧ Below B w w' := by
  obtain ⟨i, hi, hz, hs, hby⟩ := info_u8
  have hsz := strOfNums_size t
  obtain ⟨v', w', hr, ho, hg, _⟩ := Lib.run_append_own_string (P := Try.prog) w B 22 9 ty 5 i Try.underlying22 Try.underlying9 hi hz hs hby _ l.length _ h (strOfNums t) (by unfold maxLen; omega) (by omega) hB
  rw [hsz, strCells_nums ht] at ho
  exact ⟨v', w', hr, by unfold Own; simpa using ho, (Below.refl B w).grown hg hB (fun k e => (World.ownsRow.lt h k e).1)⟩
/-- the state of the document's loop -/
structure ApI (b : List Int) (d : List Dop) (k f : Nat) (v : Value) (w X : World) : Prop where
  ef : f = frD (d.take k)
  z : f ≤ 268435456
  o : Own X w.heap.size v (runW b (d.take k)).2
  d : Below w.heap.size w X
set_option maxRecDepth 100000 in
set_option maxHeartbeats 4000000 in
theorem RApply_at (a0 : Option Addr) (c0 : Nat) (b : List Int) (a : Option Addr) (c : Nat) (d : List Dop) (w : World) (hb : IsB w a0 c0 b) (h : IsO w a d) (hl : d.length ≤ 4611686018427387904) (hv : valB d = true) (hf : frD d = b.length) (htb : ∀ o ∈ d, TbD o) :
    Calls Try.prog 25 #[.slice a0 b.length c0, .slice a d.length c] w fun y w' => ∃ v, y = .returned v ∧ Own w' w.heap.size v (apD b d) ∧ Below w.heap.size w w' := by
  have HO := hide fun (X : World) (hx : Below w.heap.size w X) => h.below hx (Nat.le_refl _)
  have HBB := hide hb
  have HVV := hide (And.intro hv (And.intro hf htb))
  have hc0 := hb.1
  clear h hb hv hf htb
  go_enter Try.func25, Try.ntmps25
  go_wp2_with fail
  go_loopw [5, 6, 7, 18] (fun v5 v6 v7 v18 wx => (∃ z, v18 = z) ∧ (∃ (k f : Nat), v7 = .int .i64 (k : Int) ∧ v6 = .int .i64 (f : Int) ∧ k ≤ d.length ∧ Hid (ApI b d k f v5 w wx))) (fun _ _ v7 _ _ => d.length - (intOf v7).toNat)
  case atStart => exact ⟨⟨_, rfl⟩, ⟨0, 0, rfl, rfl, Nat.zero_le _, hide ⟨rfl, by omega, World.ownsRow_nil _ _ _ _, Below.refl _ _⟩⟩⟩
  case round =>
    obtain ⟨⟨z1, rfl⟩, ⟨k, f, rfl, rfl, hk, HI⟩⟩ := hrel
    by_cases hlt : k < d.length
    · have t1 : decide ((k : Int) < (d.length : Int)) = true := decide_eq_true (by omega)
      obtain ⟨g, off, ha', hg', _⟩ := (unhide HO w (Below.refl _ _)).three hlt
      obtain ⟨g', off', rfl, hg, e0, e1, e2⟩ := (unhide HO wr (unhide HI).d).three hlt
      obtain ⟨rfl, rfl⟩ : g' = g ∧ off' = off := by cases ha'; exact ⟨rfl, rfl⟩
      clear ha'
      have HGL := hide hg'
      clear hg'
      obtain ⟨hv, hf, htb⟩ := unhide HVV
      have hx := valB_op hv (getD_memD hlt)
      have htx := htb _ (getD_memD hlt)
      have hz := (unhide HI).z
      have hz2 := (valB_nn hv).2
      have hfr := frD_take d hlt
      have hto := toD_take d hlt
      have hle := frD_le d (k + 1)
      have hlen := (runW_len hv hf k (by omega)).2
      have hrest := runW_rest b hv k (by omega)
      have hstep := runW_take b d hlt
      have hown := (unhide HI).o
      have hdd := (unhide HI).d
      rw [← (unhide HI).ef] at hfr hrest
      have HNX : Hid (∀ (F : Nat) (v : Value) (X : World), F = frD (d.take (k + 1)) → F ≤ 268435456 → Own X w.heap.size v (runW b (d.take (k + 1))).2 → Below w.heap.size w X → ApI b d (k + 1) F v w X) := hide fun F v X h1 h2 h3 h4 => ⟨h1, h2, h3, h4⟩
      rw [hstep] at HNX
      clear HI hk hv htb hstep
      generalize runW b (d.take k) = s at *
      obtain ⟨s1, s2⟩ := s
      dsimp only at hlen hrest hown
      subst hrest
      generalize frD (d.take (k + 1)) = F' at *
      generalize toD (d.take (k + 1)) = T' at *
      generalize toD (d.take k) = T at *
      generalize d.getD k opZ = x at *
      obtain ⟨xk, xn, xt⟩ := x
      dsimp only at e0 e1 e2 hx htx
      rcases hx with ⟨rfl | rfl, hn, rfl⟩ | ⟨rfl, rfl, hn⟩
      · obtain ⟨m, rfl⟩ : ∃ m : Nat, xn = (m : Int) := ⟨xn.toNat, by omega⟩
        rw [show frN ⟨1, (m : Int), []⟩ = m by simp [frN]] at hfr
        rw [show toN ⟨1, (m : Int), []⟩ = m by simp [toN]] at hto
        subst hfr
        obtain ⟨gb, ob, rfl⟩ : ∃ gb ob, a0 = some ⟨gb, ob, none⟩ := by
          rcases (unhide HBB).2.2.1 with h3 | ⟨g0, o0, h3, _⟩
          · rw [h3] at hf; simp at hf; omega
          · exact ⟨g0, o0, h3⟩
        have hbm := ((unhide HBB).takeD (n := f + m)).loD (n := f)
        rw [if_neg (by omega), Option.map_some, Addr.add_lit] at hbm
        have hml : ((b.take (f + m)).drop f).length = m := by simp; omega
        obtain ⟨v', X', r2, o2, b2⟩ := run_moreV wr w.heap.size _ s2 ((b.take (f + m)).drop f) _ (c0 - f) 22 hown (hbm.below hdd (Nat.le_refl _)) (by rw [hml]; omega) hdd.size (by rw [hml]; omega)
        rw [hml, show m = f + m - f by omega] at r2
        have hrw : (b.take (f + m)).drop f = (b.drop f).take m := by rw [List.drop_take, Nat.add_sub_cancel_left]
        rw [hrw] at o2
        have HN2 : Hid (ApI b d (k + 1) (f + m) v' w X') := hide (unhide HNX (f + m) v' X' rfl (by omega) (by
          simp only [stW, if_true, Int.toNat_natCast]
          exact o2) (hdd.trans b2))
        have R2 := hide r2
        have q1 : m ≤ 268435456 := by omega
        have q2 : f + m ≤ c0 := by omega
        have q3 : ¬ c0 = f := by omega
        have k1 := (b2.cell (p := ⟨_, _, none⟩) (unhide HGL)).trans e1
        clear hml hrw o2 b2 r2 hbm hto hz2 hle hlen hown hdd hn HNX htx hf HVV HBB
        go_upto_region 9 with fail
        clear t1 e0
        go_wp2_with (at_builtin; refine wpList_append_known rfl _ _ 22 22 rfl _ _ rfl rfl _ _ (unhide R2) ?_; clear R2)
        go_roundw
        case rel => exact ⟨⟨_, rfl⟩, ⟨k + 1, f + m, by go_num, by go_num, hlt, HN2⟩⟩
        case measure => simp [intOf]; omega
      · obtain ⟨m, rfl⟩ : ∃ m : Nat, xn = (m : Int) := ⟨xn.toNat, by omega⟩
        rw [show frN ⟨3, (m : Int), []⟩ = m by simp [frN]] at hfr
        have W1 := hide (ca_k hz (by omega) hfr)
        have HN2 : Hid (ApI b d (k + 1) F' _ w wr) := hide (unhide HNX F' _ wr rfl (by omega) (by
          simp only [stW, show ¬ ((3 : Int) = 1) by decide, show ¬ ((3 : Int) = 2) by decide, if_false]
          exact hown) hdd)
        clear hfr hto hz hz2 hle hlen hown hdd hn HNX htx hf HVV HBB
        obtain ⟨w1, w2, w3⟩ := unhide W1
        go_wp2_with fail
        go_roundw
        case rel => exact ⟨⟨_, rfl⟩, ⟨k + 1, F', by go_num, by first | rfl | rw [w1], hlt, HN2⟩⟩
        case measure => simp [intOf]; omega
      · rw [show frN ⟨2, 0, xt⟩ = 0 by simp [frN]] at hfr
        rw [show toN ⟨2, 0, xt⟩ = xt.length by simp [toN]] at hto
        obtain rfl : F' = f := by omega
        obtain ⟨v', X', r2, o2, b2⟩ := run_strV wr w.heap.size _ s2 xt 22 hown htx hdd.size (by omega)
        have HN2 : Hid (ApI b d (k + 1) F' v' w X') := hide (unhide HNX F' v' X' rfl (by omega) (by
          simp only [stW, show ¬ ((2 : Int) = 1) by decide, if_true, if_false]
          exact o2) (hdd.trans b2))
        have R2 := hide r2
        clear o2 b2 r2 hfr hto hz hz2 hle hlen hown hdd hn HNX htx hf HVV HBB
        generalize strOfNums xt = st at *
        go_wp2_with (at_builtin; refine wpList_append_known rfl _ _ 22 9 rfl _ _ rfl rfl _ _ (unhide R2) ?_; clear R2)
        go_roundw
        case rel => exact ⟨⟨_, rfl⟩, ⟨k + 1, F', by go_num, rfl, hlt, HN2⟩⟩
        case measure => simp [intOf]; omega
    · obtain rfl : k = d.length := by omega
      have t1 : decide ((d.length : Int) < (d.length : Int)) = false := decide_eq_false (by omega)
      have hoo := (unhide HI).o
      rw [List.take_length] at hoo
      have HOO := hide hoo
      have HXX := hide (unhide HI).d
      clear HI hk hoo HBB HVV
      go_wp2_with fail
      refine bodyPost_ret (results_tmp rfl _ _ _) rfl ⟨_, rfl, by exact unhide HOO, unhide HXX⟩

end Go.Proofs.Ytkmbkoajbmlgaaa
end

section
namespace Go.Proofs.Ytkmbkoajbmlgaaa
open Go.ChangeShapes Go.WideShapes Go.ChangeAt Go.RowKit
attribute [local go_sem] Oper.semAt_some

/-- the state of the document's loop -/
structure InI (b : List Int) (d : List Dop) (k f : Nat) (M : List Dop) (a : Option Addr) (w X : World) : Prop where
  ef : f = frD (d.take k)
  l : M = (feedA b0 (dA (runV b (d.take k)).2)).fin
  o : IsO X a M
  d : Below w.heap.size w X
/-- one more, as add says -/
theorem add_snoc (e : List Dop) {x : Dop} (hk : x.k = 1 ∨ x.k = 2 ∨ x.k = 3) (hn : x.k ≠ 2 → 0 ≤ x.n) : addD (feedA b0 (dA e)).fin x.k (if x.k = 2 then 0 else x.n) (if x.k = 2 then x.t else []) = (feedA b0 (dA (e ++ [x]))).fin := by
  rw [add_op hk hn, dA_snoc]
set_option maxRecDepth 100000 in
set_option maxHeartbeats 4000000 in
theorem RInvert_at (a0 : Option Addr) (c0 : Nat) (b : List Int) (a : Option Addr) (c : Nat) (d : List Dop) (w : World) (hb : IsB w a0 c0 b) (h : IsO w a d) (hl : d.length ≤ 4611686018427387904) (hv : valB d = true) (hf : frD d = b.length) :
    Calls Try.prog 23 #[.slice a0 b.length c0, .slice a d.length c] w fun y w' => ∃ a' c', y = .returned (.slice a' (canA (dA (ivD b d))).length c') ∧ IsO w' a' (canA (dA (ivD b d))) ∧ (canA (dA (ivD b d))).length ≤ c' ∧ Below w.heap.size w w' := by
  have HO := hide fun (X : World) (hx : Below w.heap.size w X) => h.below hx (Nat.le_refl _)
  have HBB := hide hb
  have HVV := hide (And.intro hv hf)
  have hc0 := hb.1
  obtain ⟨L, hL⟩ : ∃ L, L = canA (dA (ivD b d)) := ⟨_, rfl⟩
  rw [← hL]
  have HL := hide hL
  clear h hb hv hf hL
  go_enter Try.func23, Try.ntmps23
  go_wp2_with fail
  go_loopw [5, 6, 7, 18] (fun v5 v6 v7 v18 wx => (∃ z, v18 = z) ∧ (∃ (k f q : Nat) (M : List Dop) (a8 : Option Addr), v7 = .int .i64 (k : Int) ∧ v6 = .int .i64 (f : Int) ∧ v5 = .slice a8 M.length q ∧ k ≤ d.length ∧ M.length ≤ q ∧ Hid (InI b d k f M a8 w wx))) (fun _ _ v7 _ _ => d.length - (intOf v7).toNat)
  case atStart => exact ⟨⟨_, rfl⟩, ⟨0, 0, 0, [], none, rfl, rfl, rfl, Nat.zero_le _, Nat.le_refl _, hide ⟨rfl, rfl, Or.inl rfl, Below.refl _ _⟩⟩⟩
  case round =>
    obtain ⟨⟨z1, rfl⟩, ⟨k, f, q, M, a8, rfl, rfl, rfl, hk, hq, HI⟩⟩ := hrel
    by_cases hlt : k < d.length
    · have t1 : decide ((k : Int) < (d.length : Int)) = true := decide_eq_true (by omega)
      obtain ⟨g, off, ha', hg', _⟩ := (unhide HO w (Below.refl _ _)).three hlt
      obtain ⟨g', off', rfl, hg, e0, e1, e2⟩ := (unhide HO wr (unhide HI).d).three hlt
      obtain ⟨rfl, rfl⟩ : g' = g ∧ off' = off := by cases ha'; exact ⟨rfl, rfl⟩
      clear ha'
      have HGL := hide hg'
      clear hg'
      obtain ⟨hv, hf⟩ := unhide HVV
      have hx := valB_op hv (getD_memD hlt)
      have hz2 := (valB_nn hv).2
      have hfr := frD_take d hlt
      have hto := toD_take d hlt
      have hle := frD_le d (k + 1)
      have hlen := (runV_len hv hf k (by omega)).2
      have hrest := runV_rest b hv k (by omega)
      have hstep := runV_take b d hlt
      have hdd := (unhide HI).d
      have hM := (unhide HI).l
      have hle0 := frD_le d k
      rw [← (unhide HI).ef] at hfr hrest hle0 hlen
      have HNX : Hid (∀ (F : Nat) (a9 : Option Addr) (M' : List Dop) (X : World), F = frD (d.take (k + 1)) → M' = (feedA b0 (dA (runV b (d.take (k + 1))).2)).fin → IsO X a9 M' → Below wr.heap.size wr X → InI b d (k + 1) F M' a9 w X) := hide fun F a9 M' X h1 h2 h3 h4 => ⟨h1, h2, h3, hdd.trans (h4.mono hdd.size)⟩
      rw [hstep] at HNX
      have HADD : Hid (∀ (kk n : Int) (s : List Int), 0 ≤ n ∧ n ≤ 2305843009213693952 → s.length ≤ 2305843009213693952 → Calls Try.prog 71 #[.slice a8 M.length q, .int .i64 kk, .int .i64 n, .string (strOfNums s)] wr fun y w' => ∃ a' c', y = .returned (.slice a' (addD M kk n s).length c') ∧ IsO w' a' (addD M kk n s) ∧ (addD M kk n s).length ≤ c' ∧ Below wr.heap.size wr w') := hide fun kk n s h1 h2 => RAdd_at a8 q M kk n s wr (unhide HI).o hq (by rw [hM]; exact adok_feed (by omega) h1 h2)
      clear HI hk hv hstep
      have HKC : Hid (∀ X, Below wr.heap.size wr X → X.cell? ⟨g', off' + k * 3 + 1, none⟩ = wr.cell? ⟨g', off' + k * 3 + 1, none⟩) := hide fun X hX => hX.cell (p := ⟨g', off' + k * 3 + 1, none⟩) (Nat.lt_of_lt_of_le (unhide HGL) hdd.size)
      generalize runV b (d.take k) = s at *
      obtain ⟨s1, s2⟩ := s
      dsimp only at hlen hrest hM
      subst hrest
      generalize frD (d.take (k + 1)) = F' at *
      generalize toD (d.take (k + 1)) = T' at *
      generalize toD (d.take k) = T at *
      generalize d.getD k opZ = x at *
      obtain ⟨xk, xn, xt⟩ := x
      dsimp only at e0 e1 e2 hx
      have hsz := strOfNums_size xt
      rcases hx with ⟨rfl | rfl, hn, rfl⟩ | ⟨rfl, rfl, hn⟩
      · obtain ⟨m, rfl⟩ : ∃ m : Nat, xn = (m : Int) := ⟨xn.toNat, by omega⟩
        rw [show frN ⟨1, (m : Int), []⟩ = m by simp [frN]] at hfr
        subst hfr
        have hC := unhide HADD 1 (m : Int) [] (by omega) (by simp)
        have hA := add_snoc s2 (x := ⟨1, (m : Int), []⟩) (.inl rfl) (fun _ => by dsimp only; omega)
        simp only [show ¬ ((1 : Int) = 2) by decide, if_false] at hA
        rw [← hM] at hA
        rw [hA, show strOfNums [] = (⟨#[]⟩ : ByteArray) from rfl] at hC
        have HC := hide hC
        have HN2 := hide fun (a9 : Option Addr) (X : World) => unhide HNX (f + m) a9 (feedA b0 (dA (s2 ++ [⟨1, (m : Int), []⟩]))).fin X rfl (by simp only [stV, if_true])
        have q1 : m ≤ 268435456 := by omega
        have hz : f ≤ 268435456 := by omega
        clear hC hA HNX HADD hto hz2 hle hle0 hlen hdd hn hf HVV HBB hM hsz
        generalize (feedA b0 (dA (s2 ++ [⟨1, (m : Int), []⟩]))).fin = M' at *
        go_wp2_with fail
        refine (unhide HC).mono ?_
        rintro y v1 ⟨a9, q9, rfl, i9, l9, x9⟩
        dsimp only
        have k1 := (unhide HKC v1 x9).trans e1
        have HI2 := hide (unhide HN2 a9 v1 i9 x9)
        clear HC HN2 i9 x9 HKC
        go_wp2_with fail
        go_roundw
        case rel => exact ⟨⟨_, rfl⟩, ⟨k + 1, f + m, q9, M', a9, by go_num, by go_num, rfl, hlt, l9, HI2⟩⟩
        case measure => simp [intOf]; omega
      · obtain ⟨m, rfl⟩ : ∃ m : Nat, xn = (m : Int) := ⟨xn.toNat, by omega⟩
        rw [show frN ⟨3, (m : Int), []⟩ = m by simp [frN]] at hfr
        subst hfr
        obtain ⟨gb, ob, rfl⟩ : ∃ gb ob, a0 = some ⟨gb, ob, none⟩ := by
          rcases (unhide HBB).2.2.1 with h3 | ⟨g0, o0, h3, _⟩
          · rw [h3] at hf; simp at hf; omega
          · exact ⟨g0, o0, h3⟩
        have hbm := ((unhide HBB).takeD (n := f + m)).loD (n := f)
        rw [if_neg (by omega), Option.map_some, Addr.add_lit] at hbm
        have hml : ((b.take (f + m)).drop f).length = m := by simp; omega
        have hrw : (b.take (f + m)).drop f = (b.drop f).take m := by rw [List.drop_take, Nat.add_sub_cancel_left]
        rw [hrw] at hbm hml
        have hcv : (convert 22 9 (.slice (some ⟨gb, ob + f, none⟩) (f + m - f) (c0 - f))).run Try.prog wr = .ok (.string (strOfNums ((b.drop f).take m))) wr := by
          have := str_bs wr _ (c0 - f) _ (hbm.below hdd (Nat.le_refl _)).2.2.1
          rw [hml] at this
          rw [Nat.add_sub_cancel_left]
          exact this
        have hcw : (convert 22 9 (.slice (some ⟨gb, ob + f, none⟩) m (c0 - f))).run Try.prog wr = .ok (.string (strOfNums ((b.drop f).take m))) wr := by
          rw [Nat.add_sub_cancel_left] at hcv
          exact hcv
        have hC := unhide HADD 2 0 ((b.drop f).take m) (by omega) (by omega)
        have hA := add_snoc s2 (x := ⟨2, 0, (b.drop f).take m⟩) (.inr (.inl rfl)) (fun h => absurd rfl h)
        simp only [if_true] at hA
        rw [← hM] at hA
        rw [hA] at hC
        have HC := hide hC
        have HN2 := hide fun (a9 : Option Addr) (X : World) => unhide HNX (f + m) a9 (feedA b0 (dA (s2 ++ [⟨2, 0, (b.drop f).take m⟩]))).fin X rfl (by simp only [stV, show ¬ ((3 : Int) = 1) by decide, show ¬ ((3 : Int) = 2) by decide, if_false, Int.toNat_natCast])
        have q1 : m ≤ 268435456 := by omega
        have q2 : f + m ≤ c0 := by omega
        have q3 : ¬ c0 = f := by omega
        have hz : f ≤ 268435456 := by omega
        clear hC hA HNX HADD hto hz2 hle hle0 hlen hdd hn hf HVV HBB hM hsz hbm hml hrw
        generalize (feedA b0 (dA (s2 ++ [⟨2, 0, (b.drop f).take m⟩]))).fin = M' at *
        generalize strOfNums ((b.drop f).take m) = st at *
        go_upto_region 12 with fail
        clear t1 e0
        go_wp2_with fail
        refine (unhide HC).mono ?_
        rintro y v1 ⟨a9, q9, rfl, i9, l9, x9⟩
        dsimp only
        have k1 := (unhide HKC v1 x9).trans e1
        have HI2 := hide (unhide HN2 a9 v1 i9 x9)
        clear HC HN2 i9 x9 HKC hcv hcw
        go_wp2_with fail
        go_roundw
        case rel => exact ⟨⟨_, rfl⟩, ⟨k + 1, f + m, q9, M', a9, by go_num, by go_num, rfl, hlt, l9, HI2⟩⟩
        case measure => simp [intOf]; omega
      · rw [show frN ⟨2, 0, xt⟩ = 0 by simp [frN]] at hfr
        rw [show toN ⟨2, 0, xt⟩ = xt.length by simp [toN]] at hto
        obtain rfl : F' = f := by omega
        have hC := unhide HADD 3 (xt.length : Int) [] (by omega) (by simp)
        have hA := add_snoc s2 (x := ⟨3, (xt.length : Int), []⟩) (.inr (.inr rfl)) (fun _ => by dsimp only; omega)
        simp only [show ¬ ((3 : Int) = 2) by decide, if_false] at hA
        rw [← hM] at hA
        rw [hA, show strOfNums [] = (⟨#[]⟩ : ByteArray) from rfl] at hC
        have HC := hide hC
        have HN2 := hide fun (a9 : Option Addr) (X : World) => unhide HNX F' a9 (feedA b0 (dA (s2 ++ [⟨3, (xt.length : Int), []⟩]))).fin X rfl (by simp only [stV, show ¬ ((2 : Int) = 1) by decide, if_true, if_false])
        clear hC hA HNX HADD hto hz2 hle hle0 hlen hdd hn hf HVV HBB hM HKC hfr
        generalize (feedA b0 (dA (s2 ++ [⟨3, (xt.length : Int), []⟩]))).fin = M' at *
        go_wp2_with fail
        refine (unhide HC).mono ?_
        rintro y v1 ⟨a9, q9, rfl, i9, l9, x9⟩
        dsimp only
        have HI2 := hide (unhide HN2 a9 v1 i9 x9)
        clear HC HN2 i9 x9
        go_wp2_with fail
        go_roundw
        case rel => exact ⟨⟨_, rfl⟩, ⟨k + 1, F', q9, M', a9, by go_num, rfl, rfl, hlt, l9, HI2⟩⟩
        case measure => simp [intOf]; omega
    · obtain rfl : k = d.length := by omega
      have t1 : decide ((d.length : Int) < (d.length : Int)) = false := decide_eq_false (by omega)
      have hM := (unhide HI).l
      rw [List.take_length] at hM
      obtain rfl : M = L := hM.trans (unhide HL).symm
      have HOO := hide (unhide HI).o
      have HXX := hide (unhide HI).d
      clear HI hk hM HBB HVV HL
      go_wp2_with fail
      refine bodyPost_ret (results_tmp rfl _ _ _) rfl ⟨a8, q, rfl, unhide HOO, hq, unhide HXX⟩

end Go.Proofs.Ytkmbkoajbmlgaaa
end
