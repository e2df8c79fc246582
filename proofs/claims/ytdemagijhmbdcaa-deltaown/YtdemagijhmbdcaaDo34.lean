/- Layer 13: the document's lists are new memory (written by wip/tools/dov.py out of Drh, Drd). -/
import Derived.Test.YtdemagijhmbdcaaDo30
import Derived.Test.YtdemagijhmbdcaaDo32

namespace Go.Proofs.Ytdemagijhmbdcaa
open Go.ChangeShapes Go.WideShapes Go.ChangeAt Go.RowKit
attribute [local go_sem] Oper.semAt_some

/-- operations that lie in a block that was made since -/
def IsF (B : Nat) (W : World) (a : Option Addr) (d : List Dop) : Prop := IsO W a d ∧ ∀ g off, a = some ⟨g, off, none⟩ → B ≤ g
theorem IsF.below {B N : Nat} {W Y : World} {a : Option Addr} {d : List Dop} (h : IsF B W a d) (hb : Below N W Y) (hN : W.heap.size ≤ N) : IsF B Y a d := ⟨h.1.below hb hN, h.2⟩
theorem IsF.nil (B : Nat) (W : World) : IsF B W none [] := ⟨.inl rfl, fun _ _ h => by cases h⟩
theorem own_isF {W : World} {B B' : Nat} {v : Value} {d : List Dop} (h : W.ownsRow B 34 3 v d.length (opsV d)) (hB : B' ≤ B) : ∃ a c, v = .slice a d.length c ∧ IsF B' W a d ∧ d.length ≤ c := by
  obtain ⟨a, c, e, hi, hc⟩ := own_isO h
  subst e
  exact ⟨a, c, rfl, ⟨hi, fun g off e => by
    subst e
    exact Nat.le_trans hB (rowD_block h rfl).1⟩, hc⟩
theorem RAddF_at (B : Nat) (a : Option Addr) (c : Nat) (d : List Dop) (k n : Int) (t : List Int) (w : World) (h : IsF B w a d) (hB : B ≤ w.heap.size) (hc : d.length ≤ c) (ok : AdOk d n t) :
    Calls Try.prog 51 #[.slice a d.length c, .int .i64 k, .int .i64 n, .string (strOfNums t)] w fun y w' => ∃ a' c', y = .returned (.slice a' (addD d k n t).length c') ∧ IsF B w' a' (addD d k n t) ∧ (addD d k n t).length ≤ c' ∧ Below w.heap.size w w' := by
  by_cases hno : noD k n t
  · rw [addD_no hno]
    exact (RAddN_at (.slice a d.length c) k n t w hno).mono fun y w' ⟨h1, h2⟩ => ⟨a, c, h1, h.below h2 (Nat.le_refl _), hc, h2⟩
  · refine (RAddG_at a c d k n t w h.1 hc ok hno).mono fun y w' ⟨v, e1, o1, b1⟩ => ?_
    obtain ⟨a', c', e, hi, hc'⟩ := own_isF o1 hB
    subst e
    exact ⟨a', c', e1, hi, hc', b1⟩
/-- the state of the document's loop -/
structure InF (b : List Int) (d : List Dop) (k f : Nat) (M : List Dop) (a : Option Addr) (w X : World) : Prop where
  ef : f = frD (d.take k)
  l : M = (feedA b0 (dA (runV b (d.take k)).2)).fin
  o : IsF w.heap.size X a M
  d : Below w.heap.size w X
set_option maxRecDepth 100000 in
set_option maxHeartbeats 4000000 in
theorem RInvertF_at (a0 : Option Addr) (c0 : Nat) (b : List Int) (a : Option Addr) (c : Nat) (d : List Dop) (w : World) (hb : IsB w a0 c0 b) (h : IsO w a d) (hl : d.length ≤ 4611686018427387904) (hv : valB d = true) (hf : frD d = b.length) :
    Calls Try.prog 19 #[.slice a0 b.length c0, .slice a d.length c] w fun y w' => ∃ a' c', y = .returned (.slice a' (canA (dA (ivD b d))).length c') ∧ IsF w.heap.size w' a' (canA (dA (ivD b d))) ∧ (canA (dA (ivD b d))).length ≤ c' ∧ Below w.heap.size w w' := by
  have HO := hide fun (X : World) (hx : Below w.heap.size w X) => h.below hx (Nat.le_refl _)
  have HBB := hide hb
  have HVV := hide (And.intro hv hf)
  have hc0 := hb.1
  obtain ⟨L, hL⟩ : ∃ L, L = canA (dA (ivD b d)) := ⟨_, rfl⟩
  rw [← hL]
  have HL := hide hL
  clear h hb hv hf hL
  go_enter Try.func19, Try.ntmps19
  go_wp2_with fail
  go_loopw [5, 6, 7, 18] (fun v5 v6 v7 v18 wx => (∃ z, v18 = z) ∧ (∃ (k f q : Nat) (M : List Dop) (a8 : Option Addr), v7 = .int .i64 (k : Int) ∧ v6 = .int .i64 (f : Int) ∧ v5 = .slice a8 M.length q ∧ k ≤ d.length ∧ M.length ≤ q ∧ Hid (InF b d k f M a8 w wx))) (fun _ _ v7 _ _ => d.length - (intOf v7).toNat)
  case atStart => exact ⟨⟨_, rfl⟩, ⟨0, 0, 0, [], none, rfl, rfl, rfl, Nat.zero_le _, Nat.le_refl _, hide ⟨rfl, rfl, IsF.nil _ _, Below.refl _ _⟩⟩⟩
  case round =>
    obtain ⟨⟨z1, rfl⟩, ⟨k, f, q, M, a8, rfl, rfl, rfl, hk, hq, HI⟩⟩ := hrel
    by_cases hlt : k < d.length
    · have t1 : decide ((k : Int) < (d.length : Int)) = true := decide_eq_true (by omega)
      obtain ⟨g, off, ha', hg', _⟩ := (unhide HO w (Below.refl _ _)).three hlt
      obtain ⟨g', off', rfl, hg, e0, e1, e2⟩ := (unhide HO wr (unhide HI).d).three hlt
      obtain ⟨rfl, rfl⟩ : g' = g ∧ off' = off := by cases ha'; exact ⟨rfl, rfl⟩
      clear ha'
      have HGL := hide hg'
      clear hg'
      obtain ⟨hv, hf⟩ := unhide HVV
      have hx := valB_op hv (getD_memD hlt)
      have hz2 := (valB_nn hv).2
      have hfr := frD_take d hlt
      have hto := toD_take d hlt
      have hle := frD_le d (k + 1)
      have hlen := (runV_len hv hf k (by omega)).2
      have hrest := runV_rest b hv k (by omega)
      have hstep := runV_take b d hlt
      have hdd := (unhide HI).d
      have hM := (unhide HI).l
      have hle0 := frD_le d k
      rw [← (unhide HI).ef] at hfr hrest hle0 hlen
      have HNX : Hid (∀ (F : Nat) (a9 : Option Addr) (M' : List Dop) (X : World), F = frD (d.take (k + 1)) → M' = (feedA b0 (dA (runV b (d.take (k + 1))).2)).fin → IsF w.heap.size X a9 M' → Below wr.heap.size wr X → InF b d (k + 1) F M' a9 w X) := hide fun F a9 M' X h1 h2 h3 h4 => ⟨h1, h2, h3, hdd.trans (h4.mono hdd.size)⟩
      rw [hstep] at HNX
      have HADD : Hid (∀ (kk n : Int) (s : List Int), 0 ≤ n ∧ n ≤ 2305843009213693952 → s.length ≤ 2305843009213693952 → Calls Try.prog 51 #[.slice a8 M.length q, .int .i64 kk, .int .i64 n, .string (strOfNums s)] wr fun y w' => ∃ a' c', y = .returned (.slice a' (addD M kk n s).length c') ∧ IsF w.heap.size w' a' (addD M kk n s) ∧ (addD M kk n s).length ≤ c' ∧ Below wr.heap.size wr w') := hide fun kk n s h1 h2 => RAddF_at w.heap.size a8 q M kk n s wr (unhide HI).o (unhide HI).d.size hq (by rw [hM]; exact adok_feed (by omega) h1 h2)
      clear HI hk hv hstep
      have HKC : Hid (∀ X, Below wr.heap.size wr X → X.cell? ⟨g', off' + k * 3 + 1, none⟩ = wr.cell? ⟨g', off' + k * 3 + 1, none⟩) := hide fun X hX => hX.cell (p := ⟨g', off' + k * 3 + 1, none⟩) (Nat.lt_of_lt_of_le (unhide HGL) hdd.size)
      generalize runV b (d.take k) = s at *
      obtain ⟨s1, s2⟩ := s
      dsimp only at hlen hrest hM
      subst hrest
      generalize frD (d.take (k + 1)) = F' at *
      generalize toD (d.take (k + 1)) = T' at *
      generalize toD (d.take k) = T at *
      generalize d.getD k opZ = x at *
      obtain ⟨xk, xn, xt⟩ := x
      dsimp only at e0 e1 e2 hx
      have hsz := strOfNums_size xt
      rcases hx with ⟨rfl | rfl, hn, rfl⟩ | ⟨rfl, rfl, hn⟩
      · obtain ⟨m, rfl⟩ : ∃ m : Nat, xn = (m : Int) := ⟨xn.toNat, by omega⟩
        rw [show frN ⟨1, (m : Int), []⟩ = m by simp [frN]] at hfr
        subst hfr
        have hC := unhide HADD 1 (m : Int) [] (by omega) (by simp)
        have hA := add_snoc s2 (x := ⟨1, (m : Int), []⟩) (.inl rfl) (fun _ => by dsimp only; omega)
        simp only [show ¬ ((1 : Int) = 2) by decide, if_false] at hA
        rw [← hM] at hA
        rw [hA, show strOfNums [] = (⟨#[]⟩ : ByteArray) from rfl] at hC
        have HC := hide hC
        have HN2 := hide fun (a9 : Option Addr) (X : World) => unhide HNX (f + m) a9 (feedA b0 (dA (s2 ++ [⟨1, (m : Int), []⟩]))).fin X rfl (by simp only [stV, if_true])
        have q1 : m ≤ 268435456 := by omega
        have hz : f ≤ 268435456 := by omega
        clear hC hA HNX HADD hto hz2 hle hle0 hlen hdd hn hf HVV HBB hM hsz
        generalize (feedA b0 (dA (s2 ++ [⟨1, (m : Int), []⟩]))).fin = M' at *
        go_wp2_with fail
        refine (unhide HC).mono ?_
        rintro y v1 ⟨a9, q9, rfl, i9, l9, x9⟩
        dsimp only
        have k1 := (unhide HKC v1 x9).trans e1
        have HI2 := hide (unhide HN2 a9 v1 i9 x9)
        clear HC HN2 i9 x9 HKC
        go_wp2_with fail
        go_roundw
        case rel => exact ⟨⟨_, rfl⟩, ⟨k + 1, f + m, q9, M', a9, by go_num, by go_num, rfl, hlt, l9, HI2⟩⟩
        case measure => simp [intOf]; omega
      · obtain ⟨m, rfl⟩ : ∃ m : Nat, xn = (m : Int) := ⟨xn.toNat, by omega⟩
        rw [show frN ⟨3, (m : Int), []⟩ = m by simp [frN]] at hfr
        subst hfr
        obtain ⟨gb, ob, rfl⟩ : ∃ gb ob, a0 = some ⟨gb, ob, none⟩ := by
          rcases (unhide HBB).2.2.1 with h3 | ⟨g0, o0, h3, _⟩
          · rw [h3] at hf; simp at hf; omega
          · exact ⟨g0, o0, h3⟩
        have hbm := ((unhide HBB).takeD (n := f + m)).loD (n := f)
        rw [if_neg (by omega), Option.map_some, Addr.add_lit] at hbm
        have hml : ((b.take (f + m)).drop f).length = m := by simp; omega
        have hrw : (b.take (f + m)).drop f = (b.drop f).take m := by rw [List.drop_take, Nat.add_sub_cancel_left]
        rw [hrw] at hbm hml
        have hcv : (convert 22 9 (.slice (some ⟨gb, ob + f, none⟩) (f + m - f) (c0 - f))).run Try.prog wr = .ok (.string (strOfNums ((b.drop f).take m))) wr := by
          have := str_bs wr _ (c0 - f) _ (hbm.below hdd (Nat.le_refl _)).2.2.1
          rw [hml] at this
          rw [Nat.add_sub_cancel_left]
          exact this
        have hcw : (convert 22 9 (.slice (some ⟨gb, ob + f, none⟩) m (c0 - f))).run Try.prog wr = .ok (.string (strOfNums ((b.drop f).take m))) wr := by
          rw [Nat.add_sub_cancel_left] at hcv
          exact hcv
        have hC := unhide HADD 2 0 ((b.drop f).take m) (by omega) (by omega)
        have hA := add_snoc s2 (x := ⟨2, 0, (b.drop f).take m⟩) (.inr (.inl rfl)) (fun h => absurd rfl h)
        simp only [if_true] at hA
        rw [← hM] at hA
        rw [hA] at hC
        have HC := hide hC
        have HN2 := hide fun (a9 : Option Addr) (X : World) => unhide HNX (f + m) a9 (feedA b0 (dA (s2 ++ [⟨2, 0, (b.drop f).take m⟩]))).fin X rfl (by simp only [stV, show ¬ ((3 : Int) = 1) by decide, show ¬ ((3 : Int) = 2) by decide, if_false, Int.toNat_natCast])
        have q1 : m ≤ 268435456 := by omega
        have q2 : f + m ≤ c0 := by omega
        have q3 : ¬ c0 = f := by omega
        have hz : f ≤ 268435456 := by omega
        clear hC hA HNX HADD hto hz2 hle hle0 hlen hdd hn hf HVV HBB hM hsz hbm hml hrw
        generalize (feedA b0 (dA (s2 ++ [⟨2, 0, (b.drop f).take m⟩]))).fin = M' at *
        generalize strOfNums ((b.drop f).take m) = st at *
        go_upto_region 12 with fail
        clear t1 e0
        go_wp2_with fail
        refine (unhide HC).mono ?_
        rintro y v1 ⟨a9, q9, rfl, i9, l9, x9⟩
        dsimp only
        have k1 := (unhide HKC v1 x9).trans e1
        have HI2 := hide (unhide HN2 a9 v1 i9 x9)
        clear HC HN2 i9 x9 HKC hcv hcw
        go_wp2_with fail
        go_roundw
        case rel => exact ⟨⟨_, rfl⟩, ⟨k + 1, f + m, q9, M', a9, by go_num, by go_num, rfl, hlt, l9, HI2⟩⟩
        case measure => simp [intOf]; omega
      · rw [show frN ⟨2, 0, xt⟩ = 0 by simp [frN]] at hfr
        rw [show toN ⟨2, 0, xt⟩ = xt.length by simp [toN]] at hto
        obtain rfl : F' = f := by omega
        have hC := unhide HADD 3 (xt.length : Int) [] (by omega) (by simp)
        have hA := add_snoc s2 (x := ⟨3, (xt.length : Int), []⟩) (.inr (.inr rfl)) (fun _ => by dsimp only; omega)
        simp only [show ¬ ((3 : Int) = 2) by decide, if_false] at hA
        rw [← hM] at hA
        rw [hA, show strOfNums [] = (⟨#[]⟩ : ByteArray) from rfl] at hC
        have HC := hide hC
        have HN2 := hide fun (a9 : Option Addr) (X : World) => unhide HNX F' a9 (feedA b0 (dA (s2 ++ [⟨3, (xt.length : Int), []⟩]))).fin X rfl (by simp only [stV, show ¬ ((2 : Int) = 1) by decide, if_true, if_false])
        clear hC hA HNX HADD hto hz2 hle hle0 hlen hdd hn hf HVV HBB hM HKC hfr
        generalize (feedA b0 (dA (s2 ++ [⟨3, (xt.length : Int), []⟩]))).fin = M' at *
        go_wp2_with fail
        refine (unhide HC).mono ?_
        rintro y v1 ⟨a9, q9, rfl, i9, l9, x9⟩
        dsimp only
        have HI2 := hide (unhide HN2 a9 v1 i9 x9)
        clear HC HN2 i9 x9
        go_wp2_with fail
        go_roundw
        case rel => exact ⟨⟨_, rfl⟩, ⟨k + 1, F', q9, M', a9, by go_num, rfl, rfl, hlt, l9, HI2⟩⟩
        case measure => simp [intOf]; omega
    · obtain rfl : k = d.length := by omega
      have t1 : decide ((d.length : Int) < (d.length : Int)) = false := decide_eq_false (by omega)
      have hM := (unhide HI).l
      rw [List.take_length] at hM
      obtain rfl : M = L := hM.trans (unhide HL).symm
      have HOO := hide (unhide HI).o
      have HXX := hide (unhide HI).d
      clear HI hk hM HBB HVV HL
      go_wp2_with fail
      refine bodyPost_ret (results_tmp rfl _ _ _) rfl ⟨a8, q, rfl, unhide HOO, hq, unhide HXX⟩
/-- the state of the second loop -/
structure CaF (d : List Dop) (k f t : Nat) (L : List Dop) (w : World) (a : Option Addr) (X : World) : Prop where
  ef : f = frD (d.take k)
  et : t = toD (d.take k)
  z : f ≤ 268435456 ∧ t ≤ 268435456
  l : L = (feedA b0 (dA (d.take k))).fin
  o : IsF w.heap.size X a L
  d : Below w.heap.size w X
set_option maxRecDepth 100000 in
set_option maxHeartbeats 4000000 in
theorem RCanonF_at (a : Option Addr) (c : Nat) (d : List Dop) (w : World) (h : IsO w a d) (hl : d.length ≤ 4611686018427387904) (ht : ∀ o ∈ d, o.t.length ≤ 140737488355328) :
    Calls Try.prog 22 #[.slice a d.length c] w fun y w' => ∃ a' c', y = .returned (.tuple #[.slice a' (canD d).1.length c', .int .i64 (canD d).2]) ∧ IsF w.heap.size w' a' (canD d).1 ∧ (canD d).1.length ≤ c' ∧ Below w.heap.size w w' := by
  have HO := hide fun (X : World) (hx : Below w.heap.size w X) => h.below hx (Nat.le_refl _)
  have HT := hide ht
  obtain ⟨L, E, hLE⟩ : ∃ L E, canD d = (L, E) := ⟨_, _, rfl⟩
  rw [hLE]
  dsimp only
  unfold canD at hLE
  have HLE := hide hLE
  clear h ht hLE
  go_enter Try.func22, Try.ntmps22
  go_wp2_with fail
  go_loopw [4, 5] (fun v4 v5 wx => (∃ z, v5 = z) ∧ (∃ k : Nat, v4 = .int .i64 (k : Int) ∧ k ≤ d.length ∧ Hid ((d.take k).all knB = true)) ∧ Hid (Below w.heap.size w wx)) (fun v4 _ _ => d.length - (intOf v4).toNat)
  case atStart => exact ⟨⟨_, rfl⟩, ⟨0, rfl, Nat.zero_le _, hide rfl⟩, hide (Below.refl _ _)⟩
  case round =>
    obtain ⟨⟨z1, rfl⟩, ⟨k, rfl, hk, HK⟩, HB⟩ := hrel
    by_cases hlt : k < d.length
    · have t1 : decide ((k : Int) < (d.length : Int)) = true := decide_eq_true (by omega)
      obtain ⟨g, off, rfl, hg, c0, c1, c2⟩ := (unhide HO wr (unhide HB)).three hlt
      have HAT := hide (all_take d knB hlt)
      have HAN := hide (all_no d knB hlt)
      have HKC := hide (kn_cases (d.getD k opZ))
      generalize d.getD k opZ = x at *
      obtain ⟨xk, xn, xt⟩ := x
      dsimp only at c0 c1 c2 HKC
      generalize strOfNums xt = st at *
      rcases unhide HKC with ⟨hb, s1, s2, s3, s4⟩ | ⟨hb, s⟩
      · have HK2 : Hid ((d.take (k + 1)).all knB = true) := hide (by rw [unhide HAT, unhide HK, hb]; rfl)
        clear HK HKC HAT HAN hb c2
        rcases s4 with s4 | ⟨s4, s5⟩
        all_goals
          go_wp2_with fail
          go_roundw
          case rel => exact ⟨⟨_, rfl⟩, ⟨k + 1, by go_num, hlt, HK2⟩, HB⟩
          case measure => simp [intOf]; omega
      · have hV := unhide HLE
        rw [unhide HAN hb] at hV
        simp only [Bool.false_eq_true, if_false, Prod.mk.injEq] at hV
        obtain ⟨rfl, rfl⟩ := hV
        clear HK HKC HAT HAN hb c2 HLE
        rcases s with s1 | ⟨s1, s2, s3⟩ | ⟨s1, s2, s3, s4, s5⟩
        all_goals
          go_wp2_with fail
          refine bodyPost_ret (results_tmp2 rfl _ _ _) rfl ⟨none, 0, rfl, IsF.nil _ _, Nat.le_refl _, unhide HB⟩
    · obtain rfl : k = d.length := by omega
      have t1 : decide ((d.length : Int) < (d.length : Int)) = false := decide_eq_false (by omega)
      have hkn : d.all knB = true := by have := unhide HK; rwa [List.take_length] at this
      have HKN := hide hkn
      have hV := unhide HLE
      rw [hkn] at hV
      simp only [if_true] at hV
      have HV := hide hV
      clear HK hk HLE hkn hV
      go_wp2_with fail
      go_loopw [6, 7, 8, 9, 10, 11, 12] (fun v6 v7 v8 v9 v10 v11 v12 wx => (∃ z, v10 = z) ∧ (∃ z, v11 = z) ∧ (∃ z, v12 = z) ∧ (∃ (k f t q : Nat) (M : List Dop) (a8 : Option Addr), v9 = .int .i64 (k : Int) ∧ v6 = .int .i64 (f : Int) ∧ v7 = .int .i64 (t : Int) ∧ v8 = .slice a8 M.length q ∧ k ≤ d.length ∧ M.length ≤ q ∧ Hid (CaF d k f t M w a8 wx))) (fun _ _ _ v9 _ _ _ _ => d.length - (intOf v9).toNat)
      case atStart => exact ⟨⟨_, rfl⟩, ⟨_, rfl⟩, ⟨_, rfl⟩, ⟨0, 0, 0, 0, [], none, rfl, rfl, rfl, rfl, Nat.zero_le _, Nat.le_refl _, hide ⟨rfl, rfl, by omega, rfl, IsF.nil _ _, unhide HB⟩⟩⟩
      case round =>
        clear HB
        obtain ⟨⟨z1, rfl⟩, ⟨z2, rfl⟩, ⟨z3, rfl⟩, ⟨k, f, t, q, M, a8, rfl, rfl, rfl, rfl, hk, hq, HI⟩⟩ := hrel
        by_cases hlt : k < d.length
        · have t1 : decide ((k : Int) < (d.length : Int)) = true := decide_eq_true (by omega)
          obtain ⟨g, off, rfl, hg, c0, c1, c2⟩ := (unhide HO wr (unhide HI).d).three hlt
          have hx := kn_k (unhide HKN) (getD_memD hlt)
          have hnn : (d.getD k opZ).k ≠ 2 → 0 ≤ (d.getD k opZ).n := fun h2 => kn_nn (unhide HKN) _ (getD_memD hlt) (by omega)
          have htl := unhide HT _ (getD_memD hlt)
          have hfr := frD_take d hlt
          have hto := toD_take d hlt
          have hle := frD_le d (k + 1)
          have hdA := dA_takeS d hlt
          have hz := (unhide HI).z
          have hul : (dA (d.take k)).length ≤ f + t := by
            rw [(unhide HI).ef, (unhide HI).et]
            exact dA_len fun o ho => kn_k (unhide HKN) (List.mem_of_mem_take ho)
          have hadd := add_op (u := dA (d.take k)) hx hnn
          rw [← hdA, ← (unhide HI).l] at hadd
          rw [← (unhide HI).ef] at hfr
          rw [← (unhide HI).et] at hto
          have HAok : Hid (∀ (n : Int) (s : List Int), 0 ≤ n ∧ n ≤ 2305843009213693952 → s.length ≤ 2305843009213693952 → AdOk M n s) := hide fun n s h1 h2 => by rw [(unhide HI).l]; exact adok_feed (by omega) h1 h2
          have HADD : Hid (∀ (X : World), Below wr.heap.size wr X → ∀ (n : Int) (s : List Int), AdOk M n s → Calls Try.prog 51 #[.slice a8 M.length q, .int .i64 (d.getD k opZ).k, .int .i64 n, .string (strOfNums s)] X fun y w' => ∃ a' c', y = .returned (.slice a' (addD M (d.getD k opZ).k n s).length c') ∧ IsF w.heap.size w' a' (addD M (d.getD k opZ).k n s) ∧ (addD M (d.getD k opZ).k n s).length ≤ c' ∧ Below X.heap.size X w') := hide fun X hX n s h1 => RAddF_at w.heap.size a8 q M _ n s X ((unhide HI).o.below hX (Nat.le_refl _)) (Nat.le_trans (unhide HI).d.size hX.size) hq h1
          have HBW := hide (unhide HI).d
          have HLG : Hid (268435456 < frD (d.take (k + 1)) ∨ 268435456 < toD (d.take (k + 1)) → ([], 5) = (L, E)) := hide fun h9 => by
            have hV := unhide HV
            rwa [show lonB d = true from decide_eq_true (by omega), if_pos rfl] at hV
          have HNX : Hid (∀ (f' t' : Nat) (a9 : Option Addr) (X : World), f' = frD (d.take (k + 1)) → t' = toD (d.take (k + 1)) → f' ≤ 268435456 ∧ t' ≤ 268435456 → IsF w.heap.size X a9 (feedA b0 (dA (d.take (k + 1)))).fin → Below wr.heap.size wr X → CaF d (k + 1) f' t' (feedA b0 (dA (d.take (k + 1)))).fin w a9 X) := hide fun f' t' a9 X h1 h2 h3 h4 h5 => ⟨h1, h2, h3, rfl, h4, (unhide HBW).trans (h5.mono (unhide HBW).size)⟩
          generalize (feedA b0 (dA (d.take (k + 1)))).fin = M' at *
          generalize frD (d.take (k + 1)) = F' at *
          generalize toD (d.take (k + 1)) = T' at *
          generalize d.getD k opZ = x at *
          obtain ⟨xk, xn, xt⟩ := x
          dsimp only at c0 c1 c2 hx hnn htl hadd HADD
          have hsz := strOfNums_size xt
          clear hle hdA HI hul hk
          rcases hx with rfl | rfl | rfl
          · obtain ⟨m, rfl⟩ : ∃ m : Nat, xn = (m : Int) := ⟨xn.toNat, by have := hnn (by decide); omega⟩
            simp only [show ¬ ((1 : Int) = 2) by decide, if_false] at hadd
            rw [show frN ⟨1, (m : Int), xt⟩ = m by simp [frN]] at hfr
            rw [show toN ⟨1, (m : Int), xt⟩ = m by simp [toN]] at hto
            have HE0 : Hid (strOfNums [] = ⟨#[]⟩) := hide rfl
            by_cases hbig : 268435456 < m
            · have hV := unhide HLG (.inl (by omega))
              simp only [Prod.mk.injEq] at hV
              obtain ⟨rfl, rfl⟩ := hV
              obtain ⟨u1, u2, u3⟩ := big_t hbig
              clear hadd HADD HAok HNX HLG hfr hto hnn htl hz hbig
              go_wp2_with fail
              refine bodyPost_ret (results_tmp2 rfl _ _ _) rfl ⟨none, 0, rfl, IsF.nil _ _, Nat.le_refl _, unhide HBW⟩
            have U := hide (big_f hbig)
            have W1 := hide (ca_k hz.1 (by omega) hfr)
            have W2 := hide (ca_k hz.2 (by omega) hto)
            by_cases hlo : 268435456 < F' ∨ 268435456 < T'
            · have hV := unhide HLG hlo
              simp only [Prod.mk.injEq] at hV
              obtain ⟨rfl, rfl⟩ := hV
              have HTS : Hid (268435456 < F' ∨ (¬ 268435456 < F' ∧ 268435456 < T')) := hide (by omega)
              clear hadd HADD HAok HNX HLG hfr hto hnn htl hz hlo
              rcases unhide HTS with h1 | ⟨h1, h2⟩
              · obtain ⟨p0, p1, p2⟩ := big_t h1
                clear HTS h1
                obtain ⟨w1, w2, w3⟩ := unhide W1
                obtain ⟨w4, w5, w6⟩ := unhide W2
                obtain ⟨u1, u2, u3⟩ := unhide U
                go_wp2_with fail
                refine bodyPost_ret (results_tmp2 rfl _ _ _) rfl ⟨none, 0, rfl, IsF.nil _ _, Nat.le_refl _, unhide HBW⟩
              · obtain ⟨p0, p1, p2⟩ := big_f h1
                obtain ⟨r0, r1, r2⟩ := big_t h2
                clear HTS h1 h2
                obtain ⟨w1, w2, w3⟩ := unhide W1
                obtain ⟨w4, w5, w6⟩ := unhide W2
                obtain ⟨u1, u2, u3⟩ := unhide U
                go_wp2_with fail
                refine bodyPost_ret (results_tmp2 rfl _ _ _) rfl ⟨none, 0, rfl, IsF.nil _ _, Nat.le_refl _, unhide HBW⟩
            · have hC := fun X hX => unhide HADD X hX (m : Int) [] (unhide HAok (m : Int) [] (by omega) (by simp))
              simp only [hadd, unhide HE0] at hC
              have HC := hide hC
              have HN2 := hide fun (a9 : Option Addr) (X : World) => unhide HNX F' T' a9 X rfl rfl (by omega)
              obtain ⟨p0, p1, p2⟩ := big_f fun h => hlo (.inl h)
              obtain ⟨r0, r1, r2⟩ := big_f fun h => hlo (.inr h)
              clear hC hadd HADD HAok HNX HLG hfr hto hnn htl hz hlo
              obtain ⟨w1, w2, w3⟩ := unhide W1
              obtain ⟨w4, w5, w6⟩ := unhide W2
              obtain ⟨u1, u2, u3⟩ := unhide U
              go_wp2_with fail
              refine (unhide HC _ (Below.refl _ _)).mono ?_
              rintro y v1 ⟨a9, q9, rfl, i9, l9, x9⟩
              dsimp only
              have HI2 := hide (unhide HN2 a9 v1 i9 x9)
              clear HC HN2 i9 x9
              go_wp2_with fail
              go_roundw
              case rel => exact ⟨⟨_, rfl⟩, ⟨_, rfl⟩, ⟨_, rfl⟩, ⟨k + 1, F', T', q9, M', a9, by go_num, by first | rfl | go_num, by first | rfl | go_num, rfl, hlt, l9, HI2⟩⟩
              case measure => simp [intOf]; omega
          · simp only [if_true] at hadd
            rw [show frN ⟨2, xn, xt⟩ = 0 by simp [frN]] at hfr
            rw [show toN ⟨2, xn, xt⟩ = xt.length by simp [toN]] at hto
            obtain rfl : F' = f := by omega
            have W1 := hide (ca_0 hz.1)
            have W2 := hide (ca_k hz.2 htl hto)
            by_cases hlo : 268435456 < F' ∨ 268435456 < T'
            · have hV := unhide HLG hlo
              simp only [Prod.mk.injEq] at hV
              obtain ⟨rfl, rfl⟩ := hV
              have HTS : Hid (268435456 < F' ∨ (¬ 268435456 < F' ∧ 268435456 < T')) := hide (by omega)
              clear hadd HADD HAok HNX HLG hfr hto hnn htl hz hlo
              rcases unhide HTS with h1 | ⟨h1, h2⟩
              · obtain ⟨p0, p1, p2⟩ := big_t h1
                clear HTS h1
                obtain ⟨w1, w2⟩ := unhide W1
                obtain ⟨w4, w5, w6⟩ := unhide W2
                go_upto_region 15 with fail
                go_region
                go_wp2_with fail
                refine bodyPost_ret (results_tmp2 rfl _ _ _) rfl ⟨none, 0, rfl, IsF.nil _ _, Nat.le_refl _, (unhide HBW).drew⟩
              · obtain ⟨p0, p1, p2⟩ := big_f h1
                obtain ⟨r0, r1, r2⟩ := big_t h2
                clear HTS h1 h2
                obtain ⟨w1, w2⟩ := unhide W1
                obtain ⟨w4, w5, w6⟩ := unhide W2
                go_upto_region 15 with fail
                go_region
                go_wp2_with fail
                refine bodyPost_ret (results_tmp2 rfl _ _ _) rfl ⟨none, 0, rfl, IsF.nil _ _, Nat.le_refl _, (unhide HBW).drew⟩
            · have hC := fun X hX => unhide HADD X hX 0 xt (unhide HAok 0 xt (by omega) (by omega))
              simp only [hadd] at hC
              have HC := hide hC
              have HN2 := hide fun (a9 : Option Addr) (X : World) => unhide HNX F' T' a9 X rfl rfl (by omega)
              obtain ⟨p0, p1, p2⟩ := big_f fun h => hlo (.inl h)
              obtain ⟨r0, r1, r2⟩ := big_f fun h => hlo (.inr h)
              clear hC hadd HADD HAok HNX HLG hfr hto hnn htl hz hlo
              obtain ⟨w1, w2⟩ := unhide W1
              obtain ⟨w4, w5, w6⟩ := unhide W2
              generalize hst : strOfNums xt = st at *
              clear hst
              go_upto_region 15 with fail
              go_region
              go_wp2_with fail
              refine (unhide HC _ ((Below.refl _ _).drew)).mono ?_
              rintro y v1 ⟨a9, q9, rfl, i9, l9, x9⟩
              dsimp only
              have HI2 := hide (unhide HN2 a9 v1 i9 ((Below.refl _ _).drew.trans x9))
              clear HC HN2 i9 x9
              go_wp2_with fail
              go_roundw
              case rel => exact ⟨⟨_, rfl⟩, ⟨_, rfl⟩, ⟨_, rfl⟩, ⟨k + 1, F', T', q9, M', a9, by go_num, by first | rfl | go_num, by first | rfl | go_num, rfl, hlt, l9, HI2⟩⟩
              case measure => simp [intOf]; omega
          · obtain ⟨m, rfl⟩ : ∃ m : Nat, xn = (m : Int) := ⟨xn.toNat, by have := hnn (by decide); omega⟩
            simp only [show ¬ ((3 : Int) = 2) by decide, if_false] at hadd
            rw [show frN ⟨3, (m : Int), xt⟩ = m by simp [frN]] at hfr
            rw [show toN ⟨3, (m : Int), xt⟩ = 0 by simp [toN]] at hto
            have HE0 : Hid (strOfNums [] = ⟨#[]⟩) := hide rfl
            by_cases hbig : 268435456 < m
            · have hV := unhide HLG (.inl (by omega))
              simp only [Prod.mk.injEq] at hV
              obtain ⟨rfl, rfl⟩ := hV
              obtain ⟨u1, u2, u3⟩ := big_t hbig
              clear hadd HADD HAok HNX HLG hfr hto hnn htl hz hbig
              go_wp2_with fail
              refine bodyPost_ret (results_tmp2 rfl _ _ _) rfl ⟨none, 0, rfl, IsF.nil _ _, Nat.le_refl _, unhide HBW⟩
            have U := hide (big_f hbig)
            obtain rfl : T' = t := by omega
            have W1 := hide (ca_k hz.1 (by omega) hfr)
            have W2 := hide (ca_0 hz.2)
            by_cases hlo : 268435456 < F' ∨ 268435456 < T'
            · have hV := unhide HLG hlo
              simp only [Prod.mk.injEq] at hV
              obtain ⟨rfl, rfl⟩ := hV
              have HTS : Hid (268435456 < F' ∨ (¬ 268435456 < F' ∧ 268435456 < T')) := hide (by omega)
              clear hadd HADD HAok HNX HLG hfr hto hnn htl hz hlo
              rcases unhide HTS with h1 | ⟨h1, h2⟩
              · obtain ⟨p0, p1, p2⟩ := big_t h1
                clear HTS h1
                obtain ⟨w1, w2, w3⟩ := unhide W1
                obtain ⟨w4, w5⟩ := unhide W2
                obtain ⟨u1, u2, u3⟩ := unhide U
                go_wp2_with fail
                refine bodyPost_ret (results_tmp2 rfl _ _ _) rfl ⟨none, 0, rfl, IsF.nil _ _, Nat.le_refl _, unhide HBW⟩
              · obtain ⟨p0, p1, p2⟩ := big_f h1
                obtain ⟨r0, r1, r2⟩ := big_t h2
                clear HTS h1 h2
                obtain ⟨w1, w2, w3⟩ := unhide W1
                obtain ⟨w4, w5⟩ := unhide W2
                obtain ⟨u1, u2, u3⟩ := unhide U
                go_wp2_with fail
                refine bodyPost_ret (results_tmp2 rfl _ _ _) rfl ⟨none, 0, rfl, IsF.nil _ _, Nat.le_refl _, unhide HBW⟩
            · have hC := fun X hX => unhide HADD X hX (m : Int) [] (unhide HAok (m : Int) [] (by omega) (by simp))
              simp only [hadd, unhide HE0] at hC
              have HC := hide hC
              have HN2 := hide fun (a9 : Option Addr) (X : World) => unhide HNX F' T' a9 X rfl rfl (by omega)
              obtain ⟨p0, p1, p2⟩ := big_f fun h => hlo (.inl h)
              obtain ⟨r0, r1, r2⟩ := big_f fun h => hlo (.inr h)
              clear hC hadd HADD HAok HNX HLG hfr hto hnn htl hz hlo
              obtain ⟨w1, w2, w3⟩ := unhide W1
              obtain ⟨w4, w5⟩ := unhide W2
              obtain ⟨u1, u2, u3⟩ := unhide U
              go_wp2_with fail
              refine (unhide HC _ (Below.refl _ _)).mono ?_
              rintro y v1 ⟨a9, q9, rfl, i9, l9, x9⟩
              dsimp only
              have HI2 := hide (unhide HN2 a9 v1 i9 x9)
              clear HC HN2 i9 x9
              go_wp2_with fail
              go_roundw
              case rel => exact ⟨⟨_, rfl⟩, ⟨_, rfl⟩, ⟨_, rfl⟩, ⟨k + 1, F', T', q9, M', a9, by go_num, by first | rfl | go_num, by first | rfl | go_num, rfl, hlt, l9, HI2⟩⟩
              case measure => simp [intOf]; omega
        · obtain rfl : k = d.length := by omega
          have t1 : decide ((d.length : Int) < (d.length : Int)) = false := decide_eq_false (by omega)
          have hV := unhide HV
          have hI := unhide HI
          have hlo : lonB d = false := decide_eq_false (by
            have h1 := hI.ef
            have h2 := hI.et
            have h3 := hI.z
            rw [List.take_length] at h1 h2
            omega)
          rw [hlo] at hV
          simp only [Bool.false_eq_true, if_false, Prod.mk.injEq] at hV
          obtain ⟨hL, rfl⟩ := hV
          have hM : M = L := by rw [hI.l, List.take_length, ← hL]; rfl
          subst hM
          have HR := hide (And.intro hI.o (And.intro hq hI.d))
          clear hI hlo hL HI hk HV HKN
          go_wp2_with fail
          refine bodyPost_ret (results_tmp2 rfl _ _ _) rfl ⟨a8, q, rfl, (unhide HR).1, (unhide HR).2.1, (unhide HR).2.2⟩
end Go.Proofs.Ytdemagijhmbdcaa
