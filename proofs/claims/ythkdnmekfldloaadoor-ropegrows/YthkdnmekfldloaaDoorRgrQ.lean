/- Layer 9: how high a balanced tree is; galleyref09.Digits. · RopeGrows' walk. · RopeGrows: for every input the law returns true and every argument reads afterwards as it read before; conditions: the table of classes holds at the call what the program's text lays (the card ties it to that text). -/
import Derived.Test.YthkdnmekfldloaaDoorRpC
import Derived.Test.YthkdnmekfldloaaDoorLayW
import Derived.Test.YthkdnmekfldloaaDoorLay
import Derived.Below
import Derived.ChangeOld
import Derived.ShutString

section
namespace Go.Proofs.YthkdnmekfldloaaDoor
open Go.ChangeShapes Go.WideShapes Go.ChangeAt Go.RowKit
attribute [local go_sem] Oper.semAt_some

theorem bal_bytes {W : World} : ∀ {t : Nd} {v : Value}, IsNd W v t → Bal t → 2 ^ ((t.high - 1) / 2) ≤ t.txt.length
  | .tip l, _, ⟨_, _, _, h, _⟩, _ => by simp [Nd.high, Nd.txt]; omega
  | .fork a b, _, ⟨_, _, _, _, _, h1, h2⟩, hb => by
    rw [bal_fork] at hb
    have ha := bal_bytes h1 hb.2.2.1
    have hc := bal_bytes h2 hb.2.2.2
    have p1 := high_pos a
    have p2 := high_pos b
    show 2 ^ ((max a.high b.high + 1 - 1) / 2) ≤ (a.txt ++ b.txt).length
    rw [List.length_append]
    by_cases hm : max a.high b.high ≤ 1
    · rw [show (max a.high b.high + 1 - 1) / 2 = 0 by omega]
      have := h1.pos
      omega
    · obtain ⟨k, hk⟩ : ∃ k, (max a.high b.high + 1 - 1) / 2 = k + 1 := ⟨(max a.high b.high + 1 - 1) / 2 - 1, by omega⟩
      rw [hk, Nat.pow_succ]
      have e1 : k ≤ (a.high - 1) / 2 := by omega
      have e2 : k ≤ (b.high - 1) / 2 := by omega
      have f1 := Nat.pow_le_pow_right (n := 2) (by decide) e1
      have f2 := Nat.pow_le_pow_right (n := 2) (by decide) e2
      omega
/-- how many binary digits -/
def dig (n : Nat) : Nat := if n = 0 then 0 else dig (n / 2) + 1
termination_by n
decreasing_by omega
theorem dig_zero : dig 0 = 0 := by unfold dig; rfl
theorem dig_pos {n : Nat} (h : 0 < n) : dig n = dig (n / 2) + 1 := by rw [dig, if_neg (by omega)]
theorem dig_pow : ∀ (k n : Nat), n ≤ k → n < 2 ^ dig n := by
  intro k
  induction k with
  | zero => intro n h; obtain rfl : n = 0 := by omega
            rw [dig_zero]; decide
  | succ k ih =>
    intro n h
    by_cases h0 : n = 0
    · subst h0; rw [dig_zero]; decide
    · rw [dig_pos (by omega), Nat.pow_succ]
      have := ih (n / 2) (by omega)
      omega
theorem dig_le : ∀ (k n : Nat), n ≤ k → dig n ≤ n := by
  intro k
  induction k with
  | zero => intro n h; obtain rfl : n = 0 := by omega
            rw [dig_zero]; omega
  | succ k ih =>
    intro n h
    by_cases h0 : n = 0
    · subst h0; rw [dig_zero]; omega
    · rw [dig_pos (by omega)]
      have := ih (n / 2) (by omega)
      omega
theorem high_dig {W : World} {t : Nd} {v : Value} (h : IsNd W v t) (hb : Bal t) : t.high ≤ 2 * dig t.txt.length := by
  have h1 := bal_bytes h hb
  have h2 := dig_pow _ t.txt.length (Nat.le_refl _)
  have h3 : 2 ^ ((t.high - 1) / 2) < 2 ^ dig t.txt.length := Nat.lt_of_le_of_lt h1 h2
  have h4 := (Nat.pow_lt_pow_iff_right (a := 2) (by decide)).1 h3
  omega
set_option maxRecDepth 100000 in
set_option maxHeartbeats 2000000 in
theorem Digits9_at (n : Nat) (w : World) (hn : n ≤ 9223372036854775807) : Calls Tryd.prog 12 #[.int .i64 (n : Int)] w fun y w' => y = .returned (.int .i64 (dig n : Int)) ∧ w' = w := by
  have HD := hide (dig_le n n (Nat.le_refl _))
  go_enter Tryd.func12, Tryd.ntmps12
  go_wp2_with fail
  go_loop [0, 3] (fun v0 v3 => ∃ m k : Nat, v0 = .int .i64 (m : Int) ∧ v3 = .int .i64 (k : Int) ∧ Hid (k + dig m = dig n) ∧ m ≤ n) (fun v0 _ => (intOf v0).toNat)
  case atStart => exact ⟨n, 0, rfl, rfl, hide (by omega), Nat.le_refl _⟩
  case round =>
    obtain ⟨m, k, rfl, rfl, h1, h2⟩ := hrel
    by_cases c : 0 < m
    · have t1 : (0 : Int) < (m : Int) := by omega
      obtain ⟨q, hq⟩ : ∃ q, q = m / 2 := ⟨_, rfl⟩
      have hq1 : Int.tdiv (m : Int) 2 = (q : Int) := by rw [Int.tdiv_eq_ediv_of_nonneg (by omega)]; omega
      have hqx : wrap64 (q : Int) = (q : Int) := by unfold wrap64; omega
      have hd : k + 1 + dig q = dig n := by have := unhide h1; rw [dig_pos c, ← hq] at this; omega
      have hkn : k ≤ n := by have := unhide h1; have := unhide HD; omega
      have hkw : IntKind.i64.wrap ((k : Int) + 1) = (k : Int) + 1 := by rw [IntKind.wrap_i64]; have := unhide HD; omega
      have HD2 := hide hd
      have HQ := hide hq
      clear hd hq h1
      go_wp2_with fail
      go_round
      case rel => exact ⟨q, k + 1, by go_num, by go_num, unhide HD2, by have := unhide HQ; omega⟩
      case measure =>
        rw [hqx]
        show (q : Int).toNat < (m : Int).toNat
        have := unhide HQ
        omega
    · have t1 : ¬ (0 : Int) < (m : Int) := by omega
      obtain rfl : m = 0 := by omega
      have hk : k = dig n := by have := unhide h1; rw [dig_zero] at this; omega
      have HK := hide hk
      clear hk h1
      go_wp2_with fail
      go_ret
      exact ⟨by rw [← unhide HK]; rfl, rfl⟩

end Go.Proofs.YthkdnmekfldloaaDoor
end

section
namespace Go.Proofs.YthkdnmekfldloaaDoor
open Go.ChangeShapes Go.WideShapes Go.ChangeAt Go.RowKit
attribute [local go_sem] Oper.semAt_some

theorem str_app9 (a b : List Int) : strOfNums a ++ strOfNums b = strOfNums (a ++ b) := by
  apply ByteArray.ext
  simp [strOfNums]
/-- a rope with these bytes -/
structure GrI (w : World) (g : Nat) (o : Option Nd) (T : List Int) (X : World) : Prop where
  r : IsRo X g o
  t : txtO o = T
  l : BalO o
  b : Below w.heap.size w X
theorem wrap_few {k : Nat} (h : k ≤ 1200) : wrap64 (k : Int) = (k : Int) := by unfold wrap64; omega
theorem high_all {X : World} {g : Nat} {o : Option Nd} (h : IsRo X g o) (hb : BalO o) : highO o ≤ 2 * dig (txtO o).length := by
  obtain ⟨v, _, hv⟩ := h
  cases o with
  | none => exact Nat.zero_le _
  | some t => exact high_dig hv hb

set_option maxRecDepth 100000 in
set_option maxHeartbeats 8000000 in
theorem RopeGrows_any (a0 : Option Addr) (cap : Nat) (l : List Int) (wh tm : Int) (w : World) (hB : IsN w a0 cap l) (_hk : (Lit.int .i64 wh).wf = true) (_hk2 : (Lit.int .i64 tm).wf = true) (hW : Wt w) :
    Calls Tryd.prog 3 #[.slice a0 l.length cap, .int .i64 wh, .int .i64 tm] w fun e w' => e = .returned (.bool true) ∧ Below w.heap.size w w' := by
  clear _hk _hk2
  have HW := hide fun (X : World) (hx : Below w.heap.size w X) => hW.below hx
  have HB := hide fun (X : World) (hx : Below w.heap.size w X) => hB.below hx (Nat.le_refl _)
  have HIN := hide hB.1.2.2.2
  have hcap := hB.1.1
  have hlen := hB.1.2.1
  have HWk := hide (wakes9_at w hW)
  clear hW
  go_enter Tryd.func3, Tryd.ntmps3
  go_wp2_with fail
  refine (unhide HWk).mono ?_
  rintro y w1 ⟨rfl, x1⟩
  dsimp only
  have HN := hide (New9_at none 0 [] w1 ⟨⟨Nat.le_refl _, Nat.zero_le _, Or.inl rfl, fun x hx => by cases hx⟩, fun _ => rfl⟩ (Nat.zero_le _) (unhide HW w1 x1))
  rw [show ([] : List Int).length = 0 from rfl] at HN
  clear HWk
  go_wp2_with fail
  refine (unhide HN).mono ?_
  rintro y w2 ⟨g, o, rfl, hr, ht, hbo, _, x2⟩
  dsimp only
  have i0 : GrI w g o [] w2 := ⟨hr, ht, hbo, x1.trans (x2.mono x1.size)⟩
  clear HN hr ht hbo x1 x2 hB
  go_wp2_with fail
  go_loopw [7, 9, 10, 11, 12, 13, 14] (fun v7 v9 v10 v11 v12 v13 v14 wx => (∃ z, v11 = z) ∧ (∃ z, v12 = z) ∧ (∃ z, v13 = z) ∧ (∃ z, v14 = z) ∧ ∃ (g : Nat) (o : Option Nd) (T : List Int) (i : Nat), v7 = .pointer (some ⟨g, 0, none⟩) ∧ v9 = .string (strOfNums T) ∧ v10 = .int .i64 (i : Int) ∧ i ≤ l.length ∧ i ≤ 400 ∧ T.length ≤ 3 * i ∧ Hid (GrI w g o T wx)) (fun _ _ v10 _ _ _ _ _ => 400 - (intOf v10).toNat)
  case atStart => exact ⟨⟨_, rfl⟩, ⟨_, rfl⟩, ⟨_, rfl⟩, ⟨_, rfl⟩, g, o, [], 0, rfl, rfl, rfl, Nat.zero_le _, by omega, Nat.le_refl _, hide i0⟩
  case round =>
    clear i0
    obtain ⟨⟨z11, rfl⟩, ⟨z12, rfl⟩, ⟨z13, rfl⟩, ⟨z14, rfl⟩, g, o, T, i, rfl, rfl, rfl, hil, hi4, hTl, HI⟩ := hrel
    have hsz := strOfNums_size T
    by_cases c : i < l.length ∧ i < 400
    · have t1 : (i : Int) < (l.length : Int) := by omega
      have t2 : (i : Int) < 400 := by omega
      obtain ⟨at', hat, hca⟩ : ∃ at' : Nat, at' ≤ T.length ∧ ((wh = 0 ∧ at' = 0) ∨ (¬ wh = 0 ∧ wh = 1 ∧ at' = T.length / 2) ∨ (¬ wh = 0 ∧ ¬ wh = 1 ∧ at' = T.length)) := by
        by_cases h0 : wh = 0
        · exact ⟨0, Nat.zero_le _, .inl ⟨h0, rfl⟩⟩
        · by_cases h1 : wh = 1
          · exact ⟨T.length / 2, by omega, .inr (.inl ⟨h0, h1, rfl⟩)⟩
          · exact ⟨T.length, Nat.le_refl _, .inr (.inr ⟨h0, h1, rfl⟩)⟩
      have HT3 := hide (And.intro hTl (And.intro hat c))
      have hw2 : ∀ N : Nat, N ≤ 1200 → wrap64 (Int.tdiv (N : Int) 2) = ((N / 2 : Nat) : Int) := fun N hN => by rw [Int.tdiv_eq_ediv_of_nonneg (by omega)]; unfold wrap64; omega
      have hw3 := hw2 T.length (by omega)
      clear hw2
      obtain ⟨HTT, hTT⟩ : ∃ N : Nat, N = T.length := ⟨_, rfl⟩
      rw [← hTT] at hsz hw3 hca
      clear hil hi4 hTl
      generalize hS : strOfNums T = S at *
      have HS := hide hS
      have HN := hide hTT
      clear hS hTT
      have hb : ((wh == 0) = true ∧ (wh == 1) = false ∧ at' = 0) ∨ ((wh == 0) = false ∧ (wh == 1) = true ∧ at' = HTT / 2) ∨ ((wh == 0) = false ∧ (wh == 1) = false ∧ at' = HTT) := by
        rcases hca with ⟨h0, ha⟩ | ⟨h0, h1, ha⟩ | ⟨h0, h1, ha⟩
        · subst h0; exact .inl ⟨rfl, rfl, ha⟩
        · subst h1; exact .inr (.inl ⟨rfl, rfl, ha⟩)
        · exact .inr (.inr ⟨beq_eq_false_iff_ne.2 h0, beq_eq_false_iff_ne.2 h1, ha⟩)
      have HATL := hide hat
      clear hca hat
      have hb2 : (at' = 0 ∧ (wh == 0) = true ∧ (wh == 1) = false) ∨ (at' = HTT / 2 ∧ (wh == 0) = false ∧ (wh == 1) = true ∧ wrap64 (Int.tdiv (HTT : Int) 2) = (at' : Int)) ∨ (at' = HTT ∧ (wh == 0) = false ∧ (wh == 1) = false) := by
        rcases hb with ⟨b0, b1, ha⟩ | ⟨b0, b1, ha⟩ | ⟨b0, b1, ha⟩
        · exact .inl ⟨ha, b0, b1⟩
        · exact .inr (.inl ⟨ha, b0, b1, hw3.trans (congrArg (fun k : Nat => (k : Int)) ha.symm)⟩)
        · exact .inr (.inr ⟨ha, b0, b1⟩)
      clear hb hw3
      obtain ⟨ga, off, rfl⟩ : ∃ ga off, a0 = some ⟨ga, off, none⟩ := by
        rcases (unhide HB w (Below.refl _ _)).1.2.2.1 with h | ⟨ga, off, e, _⟩
        · rw [h] at c; exact absurd c.1 (Nat.not_lt_zero _)
        · exact ⟨ga, off, e⟩
      have HXI : Hid (∀ X, Below w.heap.size w X → IsN X (some ⟨ga, off + i, none⟩) (cap - i) [l.getD i 0]) := hide fun X hx => by
        have h1 := unhide HB X hx
        have hil := c.1
        rcases h1.1.2.2.1 with h | ⟨g', o', e', hL⟩
        · rw [h] at hil; exact absurd hil (Nat.not_lt_zero _)
        · cases e'
          refine ⟨⟨by show 1 ≤ cap - i; omega, by show 1 ≤ _; omega, Or.inr ⟨_, _, rfl, ?_⟩, ?_⟩, fun h => by cases h⟩
          · intro j hj
            obtain rfl : j = 0 := by simpa using hj
            exact hL i hil
          · intro y hy
            obtain rfl : y = l.getD i 0 := by simpa using hy
            exact unhide HIN _ (getD_mem9 hil)
      have hci : ¬ cap = i := by omega
      have hicap : i + 1 ≤ cap := by omega
      have hicA : (0 : Int) ≤ (i : Int) + 1 := by omega
      have hicB : (i : Int) + 1 ≤ (cap : Int) := by omega
      have hilx : i + 1 ≤ l.length := by omega
      have hiw : IntKind.i64.wrap ((i : Int) + 1) = (i : Int) + 1 := by rw [IntKind.wrap_i64]; omega
      generalize l.getD i 0 = x at *
      rcases hb2 with ⟨rfl, b0, b1⟩ | ⟨ha, b0, b1, b2⟩ | ⟨ha, b0, b1⟩
      · skip
        go_wp2_with fail
        try rw [b4]
        clear b0 b1 t1 t2
        try clear b3 b4 b5
        go_loopw [7, 9, 12, 13, 14] (fun v7 v9 v12 v13 v14 wx => (∃ z, v13 = z) ∧ (∃ z, v14 = z) ∧ ∃ (g : Nat) (o : Option Nd) (T1 : List Int) (k : Nat), v7 = .pointer (some ⟨g, 0, none⟩) ∧ v9 = .string (strOfNums T1) ∧ v12 = .int .i64 (k : Int) ∧ k ≤ 3 ∧ Hid (T.length ≤ T1.length ∧ T1.length ≤ 3 * i + k) ∧ Hid (GrI w g o T1 wx)) (fun _ _ v12 _ _ _ => 3 - (intOf v12).toNat)
        case atStart => exact ⟨⟨_, rfl⟩, ⟨_, rfl⟩, g, o, T, 0, rfl, by rw [unhide HS], rfl, by omega, hide (by have := unhide HT3; omega), HI⟩
        case round =>
          obtain ⟨⟨z13, rfl⟩, ⟨z14, rfl⟩, g1, o1, T1, k, rfl, rfl, rfl, hk3, HLL, HI1⟩ := hrel
          by_cases ck : (k : Int) ≤ tm ∧ k < 3
          · have s1 := ck.1
            have s2 : (k : Int) < 3 := by omega
            have hI1 := unhide HI1
            have HRp := hide (ReplR9_at g1 o1 0 0 (some ⟨ga, off + i, none⟩) (cap - i) [x] wr hI1.r (unhide HXI wr hI1.b) (Nat.le_refl _) (by rw [hI1.t]; have := unhide HLL; have := unhide HATL; omega) (by rw [hI1.t]; have := unhide HLL; omega) (by rw [hI1.t]; have := unhide HLL; simp; omega) (unhide HW wr hI1.b))
            rw [hI1.t, show ([x] : List Int).length = 1 from rfl] at HRp
            try simp only [Int.natCast_zero] at HRp
            clear hI1
            go_wp2_with fail
            refine (unhide HRp).mono ?_
            rintro y w3 ⟨g2, o2, rfl, r2, t2, bl2, x3⟩
            dsimp only
            have D3 := (unhide HI1).b.trans (x3.mono (unhide HI1).b.size)
            have HG2 : Hid (GrI w g2 o2 (T1.take 0 ++ [x] ++ T1.drop 0) w3) := hide ⟨r2, t2, bl2 (unhide HI1).l, D3⟩
            have hstr := str_bs w3.drew (some ⟨ga, off + i, none⟩) (cap - i) [x] ((unhide HXI w3 D3).1.below (B := w3.heap.size) (Below.refl _ _).drew (Nat.le_refl _)).2.2.1
            rw [show ([x] : List Int).length = 1 from rfl] at hstr
            have HSW : Hid ((fun w' : World => (convert 22 9 (.slice (some ⟨ga, off + i, none⟩) 1 (cap - i))).run Tryd.prog w' = .ok (.string (strOfNums [x])) w') w3.drew) := hide hstr
            have hs1 := strOfNums_size T1
            have hx1 := strOfNums_size [x]
            have eA : (strOfNums T1).extract 0 0 = strOfNums (T1.take 0) := by rw [str_extract]; simp
            have eB : (strOfNums T1).extract 0 T1.length = strOfNums (T1.drop 0) := by rw [str_extract, List.take_of_length_le (by simp)]
            have hle1 : 0 ≤ T1.length := by have := unhide HLL; have := unhide HATL; omega
            have zA := strOfNums_size (T1.take 0)
            have zB := strOfNums_size (T1.drop 0)
            rw [List.length_take] at zA
            rw [List.length_drop] at zB
            have hTB : T1.length ≤ 1203 := by have := unhide HLL; have := unhide HT3; omega
            have f1 : ¬ 9223372036854775807 < (strOfNums (T1.take 0)).size + 1 := by rw [zA]; omega
            have f2 : ¬ 9223372036854775807 < 1 + T1.length := by omega
            have f3 : ¬ 9223372036854775807 < (strOfNums (T1.take 0)).size + 1 + (strOfNums (T1.drop 0)).size := by rw [zA, zB]; omega
            have HEQ : Hid (strOfNums (T1.take 0) ++ strOfNums [x] ++ strOfNums (T1.drop 0) = strOfNums (T1.take 0 ++ [x] ++ T1.drop 0)) := hide (by rw [str_app9, str_app9])
            clear r2 t2 bl2 HRp x3 hstr zA zB hTB
            go_wp2_with fail
            refine regionL (S := fun w' => (convert 22 9 (.slice (some ⟨ga, off + i, none⟩) 1 (cap - i))).run Tryd.prog w' = .ok (.string (strOfNums [x])) w') (fun _ => false) (by kernel_rfl) ?_
            generalize hw4 : w3.drew = w4 at *
            refine anyL_take (i := 0) (v := ?vga0) rfl (by kernel_rfl) (by kernel_rfl) (by kernel_rfl) (by kernel_rfl) (fun _ _ _ h => h) (Or.inl ⟨by rfl, ?hga0⟩) (unhide HSW) ?_
            case hga0 => (intro w hSw; (try dsimp only at hSw); go_simp) <;> with_reducible rfl
            simp only [Act.put, List.getElem_toArray, List.getElem_cons_zero, List.setIfInBounds_toArray, List.set_cons_zero, List.set_cons_succ]
            refine anyL_take (i := 1) (v := ?vga1) rfl (by kernel_rfl) (by kernel_rfl) (by kernel_rfl) (by kernel_rfl) (fun _ _ _ h => h) (Or.inl ⟨by rfl, ?hga1⟩) (unhide HSW) ?_
            case hga1 => (intro w hSw; (try dsimp only at hSw); go_simp) <;> with_reducible rfl
            simp only [Act.put, List.getElem_toArray, List.getElem_cons_zero, List.getElem_cons_succ, List.setIfInBounds_toArray, List.set_cons_zero, List.set_cons_succ]
            refine anyL_take (i := 2) (v := ?vga2) rfl (by kernel_rfl) (by kernel_rfl) (by kernel_rfl) (by kernel_rfl) (fun _ _ _ h => h) (Or.inl ⟨by rfl, ?hga2⟩) (unhide HSW) ?_
            case hga2 => (intro w hSw; (try dsimp only at hSw); go_simp) <;> with_reducible rfl
            simp only [Act.put, List.getElem_toArray, List.getElem_cons_zero, List.getElem_cons_succ, List.setIfInBounds_toArray, List.set_cons_zero, List.set_cons_succ]
            refine anyL_take (i := 3) (v := ?vga3) rfl (by kernel_rfl) (by kernel_rfl) (by kernel_rfl) (by kernel_rfl) (fun _ _ _ h => h) (Or.inl ⟨by rfl, ?hga3⟩) (unhide HSW) ?_
            case hga3 => (intro w hSw; (try dsimp only at hSw); go_simp) <;> with_reducible rfl
            simp only [Act.put, List.getElem_toArray, List.getElem_cons_zero, List.getElem_cons_succ, List.setIfInBounds_toArray, List.set_cons_zero, List.set_cons_succ]
            refine anyL_take (i := 4) (v := ?vga4) rfl (by kernel_rfl) (by kernel_rfl) (by kernel_rfl) (by kernel_rfl) (fun _ _ _ h => h) (Or.inl ⟨by rfl, ?hga4⟩) (unhide HSW) ?_
            case hga4 => (intro w hSw; (try dsimp only at hSw); go_simp) <;> with_reducible rfl
            simp only [Act.put, List.getElem_toArray, List.getElem_cons_zero, List.getElem_cons_succ, List.setIfInBounds_toArray, List.set_cons_zero, List.set_cons_succ]
            refine anyL_take (i := 5) (v := ?vga5) rfl (by kernel_rfl) (by kernel_rfl) (by kernel_rfl) (by kernel_rfl) (fun _ _ _ h => h) (Or.inl ⟨by rfl, ?hga5⟩) (unhide HSW) ?_
            case hga5 => (intro w hSw; (try dsimp only at hSw); go_simp) <;> with_reducible rfl
            simp only [Act.put, List.getElem_toArray, List.getElem_cons_zero, List.getElem_cons_succ, List.setIfInBounds_toArray, List.set_cons_zero, List.set_cons_succ]
            refine anyL_take (i := 6) (v := ?vga6) rfl (by kernel_rfl) (by kernel_rfl) (by kernel_rfl) (by kernel_rfl) (fun _ _ _ h => h) (Or.inl ⟨by rfl, ?hga6⟩) (unhide HSW) ?_
            case hga6 => (intro w hSw; (try dsimp only at hSw); go_simp) <;> with_reducible rfl
            simp only [Act.put, List.getElem_toArray, List.getElem_cons_zero, List.getElem_cons_succ, List.setIfInBounds_toArray, List.set_cons_zero, List.set_cons_succ]
            refine anyL_take (i := 7) (v := ?vga7) rfl (by kernel_rfl) (by kernel_rfl) (by kernel_rfl) (by kernel_rfl) (fun _ _ _ h => h) (Or.inl ⟨by rfl, ?hga7⟩) (unhide HSW) ?_
            case hga7 => (intro w hSw; (try dsimp only at hSw); go_simp) <;> with_reducible rfl
            simp only [Act.put, List.getElem_toArray, List.getElem_cons_zero, List.getElem_cons_succ, List.setIfInBounds_toArray, List.set_cons_zero, List.set_cons_succ]
            refine anyL_take (i := 8) (v := ?vga8) rfl (by kernel_rfl) (by kernel_rfl) (by kernel_rfl) (by kernel_rfl) (fun _ _ _ h => h) (Or.inl ⟨by rfl, ?hga8⟩) (unhide HSW) ?_
            case hga8 => (intro w hSw; (try dsimp only at hSw); go_simp) <;> with_reducible rfl
            simp only [Act.put, List.getElem_toArray, List.getElem_cons_zero, List.getElem_cons_succ, List.setIfInBounds_toArray, List.set_cons_zero, List.set_cons_succ]
            refine anyL_take (i := 9) (v := ?vga9) rfl (by kernel_rfl) (by kernel_rfl) (by kernel_rfl) (by kernel_rfl) (fun _ _ _ h => h) (Or.inl ⟨by rfl, ?hga9⟩) (unhide HSW) ?_
            case hga9 => (intro w hSw; (try dsimp only at hSw); go_simp) <;> with_reducible rfl
            simp only [Act.put, List.getElem_toArray, List.getElem_cons_zero, List.getElem_cons_succ, List.setIfInBounds_toArray, List.set_cons_zero, List.set_cons_succ]
            refine anyL_take (i := 10) (v := ?vga10) rfl (by kernel_rfl) (by kernel_rfl) (by kernel_rfl) (by kernel_rfl) (fun _ _ _ h => h) (Or.inl ⟨by rfl, ?hga10⟩) (unhide HSW) ?_
            case hga10 => (intro w hSw; (try dsimp only at hSw); go_simp) <;> with_reducible rfl
            simp only [Act.put, List.getElem_toArray, List.getElem_cons_zero, List.getElem_cons_succ, List.setIfInBounds_toArray, List.set_cons_zero, List.set_cons_succ]
            refine anyL_take (i := 11) (v := ?vga11) rfl (by kernel_rfl) (by kernel_rfl) (by kernel_rfl) (by kernel_rfl) (fun _ _ _ h => h) (Or.inl ⟨by rfl, ?hga11⟩) (unhide HSW) ?_
            case hga11 => (intro w hSw; (try dsimp only at hSw); go_simp) <;> with_reducible rfl
            simp only [Act.put, List.getElem_toArray, List.getElem_cons_zero, List.getElem_cons_succ, List.setIfInBounds_toArray, List.set_cons_zero, List.set_cons_succ]
            refine anyL_take (i := 12) (v := ?vga12) rfl (by kernel_rfl) (by kernel_rfl) (by kernel_rfl) (by kernel_rfl) (fun _ _ _ h => h) (Or.inl ⟨by rfl, ?hga12⟩) (unhide HSW) ?_
            case hga12 => (intro w hSw; (try dsimp only at hSw); go_simp) <;> with_reducible rfl
            simp only [Act.put, List.getElem_toArray, List.getElem_cons_zero, List.getElem_cons_succ, List.setIfInBounds_toArray, List.set_cons_zero, List.set_cons_succ]
            refine anyL_take (i := 13) (v := ?vga13) rfl (by kernel_rfl) (by kernel_rfl) (by kernel_rfl) (by kernel_rfl) (fun _ _ _ h => h) (Or.inl ⟨by rfl, ?hga13⟩) (unhide HSW) ?_
            case hga13 => (intro w hSw; (try dsimp only at hSw); go_simp) <;> with_reducible rfl
            simp only [Act.put, List.getElem_toArray, List.getElem_cons_zero, List.getElem_cons_succ, List.setIfInBounds_toArray, List.set_cons_zero, List.set_cons_succ]
            refine anyL_take (i := 14) (v := ?vga14) rfl (by kernel_rfl) (by kernel_rfl) (by kernel_rfl) (by kernel_rfl) (fun _ _ _ h => h) (Or.inl ⟨by rfl, ?hga14⟩) (unhide HSW) ?_
            case hga14 => (intro w hSw; (try dsimp only at hSw); go_simp) <;> with_reducible rfl
            simp only [Act.put, List.getElem_toArray, List.getElem_cons_zero, List.getElem_cons_succ, List.setIfInBounds_toArray, List.set_cons_zero, List.set_cons_succ]
            refine anyL_done (by kernel_rfl) ?_ _
            have hkw : IntKind.i64.wrap ((k : Int) + 1) = (k : Int) + 1 := by rw [IntKind.wrap_i64]; omega
            have HV : Hid ((strOfNums [x] ++ strOfNums T1) = strOfNums (T1.take 0 ++ [x] ++ T1.drop 0)) := hide (by rw [str_app9]; rfl)
            generalize (strOfNums [x] ++ strOfNums T1) = SV at *
            have HG4 : Hid (GrI w g2 o2 (T1.take 0 ++ [x] ++ T1.drop 0) w4) := hide (hw4 ▸ ⟨(unhide HG2).r.on (Below.refl _ _).drew, (unhide HG2).t, (unhide HG2).l, (unhide HG2).b.drew⟩)
            clear eA eB f1 f2 f3 hs1 hx1 HEQ HG2 hw4 HSW
            go_wp2_with fail
            go_roundw
            case rel =>
              refine ⟨⟨_, rfl⟩, ⟨_, rfl⟩, g2, o2, T1.take 0 ++ [x] ++ T1.drop 0, k + 1, rfl, by rw [unhide HV], by go_num, by omega, hide ?_, HG4⟩
              have h9 : (T1.take 0 ++ [x] ++ T1.drop 0).length = T1.length + 1 := by simp <;> omega
              rw [h9]
              have := unhide HLL
              omega
            case measure =>
              show 3 - ((k : Int) + 1).toNat < 3 - (k : Int).toNat
              omega
          · have hx : (¬ (k : Int) ≤ tm) ∨ ((k : Int) ≤ tm ∧ ¬ (k : Int) < 3) := by omega
            have hil := (unhide HT3).2.2
            rcases hx with s1 | ⟨s1, s2⟩
            all_goals
              go_wp2_with fail
              go_roundw
              case rel =>
                refine ⟨⟨_, rfl⟩, ⟨_, rfl⟩, ⟨_, rfl⟩, ⟨_, rfl⟩, g1, o1, T1, i + 1, rfl, rfl, by go_num, by omega, by omega, ?_, HI1⟩
                have := unhide HLL
                omega
              case measure =>
                show 400 - ((i : Int) + 1).toNat < 400 - (i : Int).toNat
                omega
      · have b3 : (HTT : Int) / 2 = (at' : Int) := by clear b2; omega
        have b4 : wrap64 (at' : Int) = (at' : Int) := by clear b2; exact wrap_few (by have := unhide HATL; have := unhide HT3; omega)
        have b5 : Int.tdiv (HTT : Int) 2 = (at' : Int) := by rw [Int.tdiv_eq_ediv_of_nonneg (by omega)]; exact b3
        have HAT := hide ha
        clear ha b2
        go_wp2_with fail
        try rw [b4]
        clear b0 b1 t1 t2
        try clear b3 b4 b5
        go_loopw [7, 9, 12, 13, 14] (fun v7 v9 v12 v13 v14 wx => (∃ z, v13 = z) ∧ (∃ z, v14 = z) ∧ ∃ (g : Nat) (o : Option Nd) (T1 : List Int) (k : Nat), v7 = .pointer (some ⟨g, 0, none⟩) ∧ v9 = .string (strOfNums T1) ∧ v12 = .int .i64 (k : Int) ∧ k ≤ 3 ∧ Hid (T.length ≤ T1.length ∧ T1.length ≤ 3 * i + k) ∧ Hid (GrI w g o T1 wx)) (fun _ _ v12 _ _ _ => 3 - (intOf v12).toNat)
        case atStart => exact ⟨⟨_, rfl⟩, ⟨_, rfl⟩, g, o, T, 0, rfl, by rw [unhide HS], rfl, by omega, hide (by have := unhide HT3; omega), HI⟩
        case round =>
          obtain ⟨⟨z13, rfl⟩, ⟨z14, rfl⟩, g1, o1, T1, k, rfl, rfl, rfl, hk3, HLL, HI1⟩ := hrel
          by_cases ck : (k : Int) ≤ tm ∧ k < 3
          · have s1 := ck.1
            have s2 : (k : Int) < 3 := by omega
            have hI1 := unhide HI1
            have HRp := hide (ReplR9_at g1 o1 at' at' (some ⟨ga, off + i, none⟩) (cap - i) [x] wr hI1.r (unhide HXI wr hI1.b) (Nat.le_refl _) (by rw [hI1.t]; have := unhide HLL; have := unhide HATL; omega) (by rw [hI1.t]; have := unhide HLL; omega) (by rw [hI1.t]; have := unhide HLL; simp; omega) (unhide HW wr hI1.b))
            rw [hI1.t, show ([x] : List Int).length = 1 from rfl] at HRp
            try simp only [Int.natCast_zero] at HRp
            clear hI1
            go_wp2_with fail
            refine (unhide HRp).mono ?_
            rintro y w3 ⟨g2, o2, rfl, r2, t2, bl2, x3⟩
            dsimp only
            have D3 := (unhide HI1).b.trans (x3.mono (unhide HI1).b.size)
            have HG2 : Hid (GrI w g2 o2 (T1.take at' ++ [x] ++ T1.drop at') w3) := hide ⟨r2, t2, bl2 (unhide HI1).l, D3⟩
            have hstr := str_bs w3.drew (some ⟨ga, off + i, none⟩) (cap - i) [x] ((unhide HXI w3 D3).1.below (B := w3.heap.size) (Below.refl _ _).drew (Nat.le_refl _)).2.2.1
            rw [show ([x] : List Int).length = 1 from rfl] at hstr
            have HSW : Hid ((fun w' : World => (convert 22 9 (.slice (some ⟨ga, off + i, none⟩) 1 (cap - i))).run Tryd.prog w' = .ok (.string (strOfNums [x])) w') w3.drew) := hide hstr
            have hs1 := strOfNums_size T1
            have hx1 := strOfNums_size [x]
            have eA : (strOfNums T1).extract 0 at' = strOfNums (T1.take at') := by rw [str_extract]; simp
            have eB : (strOfNums T1).extract at' T1.length = strOfNums (T1.drop at') := by rw [str_extract, List.take_of_length_le (by simp)]
            have hle1 : at' ≤ T1.length := by have := unhide HLL; have := unhide HATL; omega
            have zA := strOfNums_size (T1.take at')
            have zB := strOfNums_size (T1.drop at')
            rw [List.length_take] at zA
            rw [List.length_drop] at zB
            have hTB : T1.length ≤ 1203 := by have := unhide HLL; have := unhide HT3; omega
            have f1 : ¬ 9223372036854775807 < (strOfNums (T1.take at')).size + 1 := by rw [zA]; omega
            have f2 : ¬ 9223372036854775807 < 1 + T1.length := by omega
            have f3 : ¬ 9223372036854775807 < (strOfNums (T1.take at')).size + 1 + (strOfNums (T1.drop at')).size := by rw [zA, zB]; omega
            have HEQ : Hid (strOfNums (T1.take at') ++ strOfNums [x] ++ strOfNums (T1.drop at') = strOfNums (T1.take at' ++ [x] ++ T1.drop at')) := hide (by rw [str_app9, str_app9])
            clear r2 t2 bl2 HRp x3 hstr zA zB hTB
            go_wp2_with fail
            refine regionL (S := fun w' => (convert 22 9 (.slice (some ⟨ga, off + i, none⟩) 1 (cap - i))).run Tryd.prog w' = .ok (.string (strOfNums [x])) w') (fun _ => false) (by kernel_rfl) ?_
            generalize hw4 : w3.drew = w4 at *
            refine anyL_take (i := 0) (v := ?vgb15) rfl (by kernel_rfl) (by kernel_rfl) (by kernel_rfl) (by kernel_rfl) (fun _ _ _ h => h) (Or.inl ⟨by rfl, ?hgb15⟩) (unhide HSW) ?_
            case hgb15 => (intro w hSw; (try dsimp only at hSw); go_simp) <;> with_reducible rfl
            simp only [Act.put, List.getElem_toArray, List.getElem_cons_zero, List.setIfInBounds_toArray, List.set_cons_zero, List.set_cons_succ]
            refine anyL_take (i := 1) (v := ?vgb16) rfl (by kernel_rfl) (by kernel_rfl) (by kernel_rfl) (by kernel_rfl) (fun _ _ _ h => h) (Or.inl ⟨by rfl, ?hgb16⟩) (unhide HSW) ?_
            case hgb16 => (intro w hSw; (try dsimp only at hSw); go_simp) <;> with_reducible rfl
            simp only [Act.put, List.getElem_toArray, List.getElem_cons_zero, List.getElem_cons_succ, List.setIfInBounds_toArray, List.set_cons_zero, List.set_cons_succ]
            refine anyL_take (i := 2) (v := ?vgb17) rfl (by kernel_rfl) (by kernel_rfl) (by kernel_rfl) (by kernel_rfl) (fun _ _ _ h => h) (Or.inl ⟨by rfl, ?hgb17⟩) (unhide HSW) ?_
            case hgb17 => (intro w hSw; (try dsimp only at hSw); go_simp) <;> with_reducible rfl
            simp only [Act.put, List.getElem_toArray, List.getElem_cons_zero, List.getElem_cons_succ, List.setIfInBounds_toArray, List.set_cons_zero, List.set_cons_succ]
            refine anyL_take (i := 3) (v := ?vgb18) rfl (by kernel_rfl) (by kernel_rfl) (by kernel_rfl) (by kernel_rfl) (fun _ _ _ h => h) (Or.inl ⟨by rfl, ?hgb18⟩) (unhide HSW) ?_
            case hgb18 => (intro w hSw; (try dsimp only at hSw); go_simp) <;> with_reducible rfl
            simp only [Act.put, List.getElem_toArray, List.getElem_cons_zero, List.getElem_cons_succ, List.setIfInBounds_toArray, List.set_cons_zero, List.set_cons_succ]
            refine anyL_take (i := 4) (v := ?vgb19) rfl (by kernel_rfl) (by kernel_rfl) (by kernel_rfl) (by kernel_rfl) (fun _ _ _ h => h) (Or.inl ⟨by rfl, ?hgb19⟩) (unhide HSW) ?_
            case hgb19 => (intro w hSw; (try dsimp only at hSw); go_simp) <;> with_reducible rfl
            simp only [Act.put, List.getElem_toArray, List.getElem_cons_zero, List.getElem_cons_succ, List.setIfInBounds_toArray, List.set_cons_zero, List.set_cons_succ]
            refine anyL_take (i := 5) (v := ?vgb20) rfl (by kernel_rfl) (by kernel_rfl) (by kernel_rfl) (by kernel_rfl) (fun _ _ _ h => h) (Or.inl ⟨by rfl, ?hgb20⟩) (unhide HSW) ?_
            case hgb20 => (intro w hSw; (try dsimp only at hSw); go_simp) <;> with_reducible rfl
            simp only [Act.put, List.getElem_toArray, List.getElem_cons_zero, List.getElem_cons_succ, List.setIfInBounds_toArray, List.set_cons_zero, List.set_cons_succ]
            refine anyL_take (i := 6) (v := ?vgb21) rfl (by kernel_rfl) (by kernel_rfl) (by kernel_rfl) (by kernel_rfl) (fun _ _ _ h => h) (Or.inl ⟨by rfl, ?hgb21⟩) (unhide HSW) ?_
            case hgb21 => (intro w hSw; (try dsimp only at hSw); go_simp) <;> with_reducible rfl
            simp only [Act.put, List.getElem_toArray, List.getElem_cons_zero, List.getElem_cons_succ, List.setIfInBounds_toArray, List.set_cons_zero, List.set_cons_succ]
            refine anyL_take (i := 7) (v := ?vgb22) rfl (by kernel_rfl) (by kernel_rfl) (by kernel_rfl) (by kernel_rfl) (fun _ _ _ h => h) (Or.inl ⟨by rfl, ?hgb22⟩) (unhide HSW) ?_
            case hgb22 => (intro w hSw; (try dsimp only at hSw); go_simp) <;> with_reducible rfl
            simp only [Act.put, List.getElem_toArray, List.getElem_cons_zero, List.getElem_cons_succ, List.setIfInBounds_toArray, List.set_cons_zero, List.set_cons_succ]
            refine anyL_take (i := 8) (v := ?vgb23) rfl (by kernel_rfl) (by kernel_rfl) (by kernel_rfl) (by kernel_rfl) (fun _ _ _ h => h) (Or.inl ⟨by rfl, ?hgb23⟩) (unhide HSW) ?_
            case hgb23 => (intro w hSw; (try dsimp only at hSw); go_simp) <;> with_reducible rfl
            simp only [Act.put, List.getElem_toArray, List.getElem_cons_zero, List.getElem_cons_succ, List.setIfInBounds_toArray, List.set_cons_zero, List.set_cons_succ]
            refine anyL_take (i := 9) (v := ?vgb24) rfl (by kernel_rfl) (by kernel_rfl) (by kernel_rfl) (by kernel_rfl) (fun _ _ _ h => h) (Or.inl ⟨by rfl, ?hgb24⟩) (unhide HSW) ?_
            case hgb24 => (intro w hSw; (try dsimp only at hSw); go_simp) <;> with_reducible rfl
            simp only [Act.put, List.getElem_toArray, List.getElem_cons_zero, List.getElem_cons_succ, List.setIfInBounds_toArray, List.set_cons_zero, List.set_cons_succ]
            refine anyL_take (i := 10) (v := ?vgb25) rfl (by kernel_rfl) (by kernel_rfl) (by kernel_rfl) (by kernel_rfl) (fun _ _ _ h => h) (Or.inl ⟨by rfl, ?hgb25⟩) (unhide HSW) ?_
            case hgb25 => (intro w hSw; (try dsimp only at hSw); go_simp) <;> with_reducible rfl
            simp only [Act.put, List.getElem_toArray, List.getElem_cons_zero, List.getElem_cons_succ, List.setIfInBounds_toArray, List.set_cons_zero, List.set_cons_succ]
            refine anyL_take (i := 11) (v := ?vgb26) rfl (by kernel_rfl) (by kernel_rfl) (by kernel_rfl) (by kernel_rfl) (fun _ _ _ h => h) (Or.inl ⟨by rfl, ?hgb26⟩) (unhide HSW) ?_
            case hgb26 => (intro w hSw; (try dsimp only at hSw); go_simp) <;> with_reducible rfl
            simp only [Act.put, List.getElem_toArray, List.getElem_cons_zero, List.getElem_cons_succ, List.setIfInBounds_toArray, List.set_cons_zero, List.set_cons_succ]
            refine anyL_take (i := 12) (v := ?vgb27) rfl (by kernel_rfl) (by kernel_rfl) (by kernel_rfl) (by kernel_rfl) (fun _ _ _ h => h) (Or.inl ⟨by rfl, ?hgb27⟩) (unhide HSW) ?_
            case hgb27 => (intro w hSw; (try dsimp only at hSw); go_simp) <;> with_reducible rfl
            simp only [Act.put, List.getElem_toArray, List.getElem_cons_zero, List.getElem_cons_succ, List.setIfInBounds_toArray, List.set_cons_zero, List.set_cons_succ]
            refine anyL_take (i := 13) (v := ?vgb28) rfl (by kernel_rfl) (by kernel_rfl) (by kernel_rfl) (by kernel_rfl) (fun _ _ _ h => h) (Or.inl ⟨by rfl, ?hgb28⟩) (unhide HSW) ?_
            case hgb28 => (intro w hSw; (try dsimp only at hSw); go_simp) <;> with_reducible rfl
            simp only [Act.put, List.getElem_toArray, List.getElem_cons_zero, List.getElem_cons_succ, List.setIfInBounds_toArray, List.set_cons_zero, List.set_cons_succ]
            refine anyL_take (i := 14) (v := ?vgb29) rfl (by kernel_rfl) (by kernel_rfl) (by kernel_rfl) (by kernel_rfl) (fun _ _ _ h => h) (Or.inl ⟨by rfl, ?hgb29⟩) (unhide HSW) ?_
            case hgb29 => (intro w hSw; (try dsimp only at hSw); go_simp) <;> with_reducible rfl
            simp only [Act.put, List.getElem_toArray, List.getElem_cons_zero, List.getElem_cons_succ, List.setIfInBounds_toArray, List.set_cons_zero, List.set_cons_succ]
            refine anyL_done (by kernel_rfl) ?_ _
            have hkw : IntKind.i64.wrap ((k : Int) + 1) = (k : Int) + 1 := by rw [IntKind.wrap_i64]; omega
            have HV : Hid ((strOfNums (T1.take at') ++ strOfNums [x] ++ strOfNums (T1.drop at')) = strOfNums (T1.take at' ++ [x] ++ T1.drop at')) := hide (unhide HEQ)
            generalize (strOfNums (T1.take at') ++ strOfNums [x] ++ strOfNums (T1.drop at')) = SV at *
            have HG4 : Hid (GrI w g2 o2 (T1.take at' ++ [x] ++ T1.drop at') w4) := hide (hw4 ▸ ⟨(unhide HG2).r.on (Below.refl _ _).drew, (unhide HG2).t, (unhide HG2).l, (unhide HG2).b.drew⟩)
            clear eA eB f1 f2 f3 hs1 hx1 HEQ HG2 hw4 HSW
            go_wp2_with fail
            go_roundw
            case rel =>
              refine ⟨⟨_, rfl⟩, ⟨_, rfl⟩, g2, o2, T1.take at' ++ [x] ++ T1.drop at', k + 1, rfl, by rw [unhide HV], by go_num, by omega, hide ?_, HG4⟩
              have h9 : (T1.take at' ++ [x] ++ T1.drop at').length = T1.length + 1 := by simp <;> omega
              rw [h9]
              have := unhide HLL
              omega
            case measure =>
              show 3 - ((k : Int) + 1).toNat < 3 - (k : Int).toNat
              omega
          · have hx : (¬ (k : Int) ≤ tm) ∨ ((k : Int) ≤ tm ∧ ¬ (k : Int) < 3) := by omega
            have hil := (unhide HT3).2.2
            rcases hx with s1 | ⟨s1, s2⟩
            all_goals
              go_wp2_with fail
              go_roundw
              case rel =>
                refine ⟨⟨_, rfl⟩, ⟨_, rfl⟩, ⟨_, rfl⟩, ⟨_, rfl⟩, g1, o1, T1, i + 1, rfl, rfl, by go_num, by omega, by omega, ?_, HI1⟩
                have := unhide HLL
                omega
              case measure =>
                show 400 - ((i : Int) + 1).toNat < 400 - (i : Int).toNat
                omega
      · subst ha
        go_wp2_with fail
        try rw [b4]
        clear b0 b1 t1 t2
        try clear b3 b4 b5
        go_loopw [7, 9, 12, 13, 14] (fun v7 v9 v12 v13 v14 wx => (∃ z, v13 = z) ∧ (∃ z, v14 = z) ∧ ∃ (g : Nat) (o : Option Nd) (T1 : List Int) (k : Nat), v7 = .pointer (some ⟨g, 0, none⟩) ∧ v9 = .string (strOfNums T1) ∧ v12 = .int .i64 (k : Int) ∧ k ≤ 3 ∧ Hid (T.length ≤ T1.length ∧ T1.length ≤ 3 * i + k) ∧ Hid (GrI w g o T1 wx)) (fun _ _ v12 _ _ _ => 3 - (intOf v12).toNat)
        case atStart => exact ⟨⟨_, rfl⟩, ⟨_, rfl⟩, g, o, T, 0, rfl, by rw [unhide HS], rfl, by omega, hide (by have := unhide HT3; omega), HI⟩
        case round =>
          obtain ⟨⟨z13, rfl⟩, ⟨z14, rfl⟩, g1, o1, T1, k, rfl, rfl, rfl, hk3, HLL, HI1⟩ := hrel
          by_cases ck : (k : Int) ≤ tm ∧ k < 3
          · have s1 := ck.1
            have s2 : (k : Int) < 3 := by omega
            have hI1 := unhide HI1
            have HRp := hide (ReplR9_at g1 o1 at' at' (some ⟨ga, off + i, none⟩) (cap - i) [x] wr hI1.r (unhide HXI wr hI1.b) (Nat.le_refl _) (by rw [hI1.t]; have := unhide HLL; have := unhide HATL; omega) (by rw [hI1.t]; have := unhide HLL; omega) (by rw [hI1.t]; have := unhide HLL; simp; omega) (unhide HW wr hI1.b))
            rw [hI1.t, show ([x] : List Int).length = 1 from rfl] at HRp
            try simp only [Int.natCast_zero] at HRp
            clear hI1
            go_wp2_with fail
            refine (unhide HRp).mono ?_
            rintro y w3 ⟨g2, o2, rfl, r2, t2, bl2, x3⟩
            dsimp only
            have D3 := (unhide HI1).b.trans (x3.mono (unhide HI1).b.size)
            have HG2 : Hid (GrI w g2 o2 (T1.take at' ++ [x] ++ T1.drop at') w3) := hide ⟨r2, t2, bl2 (unhide HI1).l, D3⟩
            have hstr := str_bs w3.drew (some ⟨ga, off + i, none⟩) (cap - i) [x] ((unhide HXI w3 D3).1.below (B := w3.heap.size) (Below.refl _ _).drew (Nat.le_refl _)).2.2.1
            rw [show ([x] : List Int).length = 1 from rfl] at hstr
            have HSW : Hid ((fun w' : World => (convert 22 9 (.slice (some ⟨ga, off + i, none⟩) 1 (cap - i))).run Tryd.prog w' = .ok (.string (strOfNums [x])) w') w3.drew) := hide hstr
            have hs1 := strOfNums_size T1
            have hx1 := strOfNums_size [x]
            have eA : (strOfNums T1).extract 0 at' = strOfNums (T1.take at') := by rw [str_extract]; simp
            have eB : (strOfNums T1).extract at' T1.length = strOfNums (T1.drop at') := by rw [str_extract, List.take_of_length_le (by simp)]
            have hle1 : at' ≤ T1.length := by have := unhide HLL; have := unhide HATL; omega
            have zA := strOfNums_size (T1.take at')
            have zB := strOfNums_size (T1.drop at')
            rw [List.length_take] at zA
            rw [List.length_drop] at zB
            have hTB : T1.length ≤ 1203 := by have := unhide HLL; have := unhide HT3; omega
            have f1 : ¬ 9223372036854775807 < (strOfNums (T1.take at')).size + 1 := by rw [zA]; omega
            have f2 : ¬ 9223372036854775807 < 1 + T1.length := by omega
            have f3 : ¬ 9223372036854775807 < (strOfNums (T1.take at')).size + 1 + (strOfNums (T1.drop at')).size := by rw [zA, zB]; omega
            have HEQ : Hid (strOfNums (T1.take at') ++ strOfNums [x] ++ strOfNums (T1.drop at') = strOfNums (T1.take at' ++ [x] ++ T1.drop at')) := hide (by rw [str_app9, str_app9])
            clear r2 t2 bl2 HRp x3 hstr zA zB hTB
            go_wp2_with fail
            refine regionL (S := fun w' => (convert 22 9 (.slice (some ⟨ga, off + i, none⟩) 1 (cap - i))).run Tryd.prog w' = .ok (.string (strOfNums [x])) w') (fun _ => false) (by kernel_rfl) ?_
            generalize hw4 : w3.drew = w4 at *
            refine anyL_take (i := 0) (v := ?vgc30) rfl (by kernel_rfl) (by kernel_rfl) (by kernel_rfl) (by kernel_rfl) (fun _ _ _ h => h) (Or.inl ⟨by rfl, ?hgc30⟩) (unhide HSW) ?_
            case hgc30 => (intro w hSw; (try dsimp only at hSw); go_simp) <;> with_reducible rfl
            simp only [Act.put, List.getElem_toArray, List.getElem_cons_zero, List.setIfInBounds_toArray, List.set_cons_zero, List.set_cons_succ]
            refine anyL_take (i := 1) (v := ?vgc31) rfl (by kernel_rfl) (by kernel_rfl) (by kernel_rfl) (by kernel_rfl) (fun _ _ _ h => h) (Or.inl ⟨by rfl, ?hgc31⟩) (unhide HSW) ?_
            case hgc31 => (intro w hSw; (try dsimp only at hSw); go_simp) <;> with_reducible rfl
            simp only [Act.put, List.getElem_toArray, List.getElem_cons_zero, List.getElem_cons_succ, List.setIfInBounds_toArray, List.set_cons_zero, List.set_cons_succ]
            refine anyL_take (i := 2) (v := ?vgc32) rfl (by kernel_rfl) (by kernel_rfl) (by kernel_rfl) (by kernel_rfl) (fun _ _ _ h => h) (Or.inl ⟨by rfl, ?hgc32⟩) (unhide HSW) ?_
            case hgc32 => (intro w hSw; (try dsimp only at hSw); go_simp) <;> with_reducible rfl
            simp only [Act.put, List.getElem_toArray, List.getElem_cons_zero, List.getElem_cons_succ, List.setIfInBounds_toArray, List.set_cons_zero, List.set_cons_succ]
            refine anyL_take (i := 3) (v := ?vgc33) rfl (by kernel_rfl) (by kernel_rfl) (by kernel_rfl) (by kernel_rfl) (fun _ _ _ h => h) (Or.inl ⟨by rfl, ?hgc33⟩) (unhide HSW) ?_
            case hgc33 => (intro w hSw; (try dsimp only at hSw); go_simp) <;> with_reducible rfl
            simp only [Act.put, List.getElem_toArray, List.getElem_cons_zero, List.getElem_cons_succ, List.setIfInBounds_toArray, List.set_cons_zero, List.set_cons_succ]
            refine anyL_take (i := 4) (v := ?vgc34) rfl (by kernel_rfl) (by kernel_rfl) (by kernel_rfl) (by kernel_rfl) (fun _ _ _ h => h) (Or.inl ⟨by rfl, ?hgc34⟩) (unhide HSW) ?_
            case hgc34 => (intro w hSw; (try dsimp only at hSw); go_simp) <;> with_reducible rfl
            simp only [Act.put, List.getElem_toArray, List.getElem_cons_zero, List.getElem_cons_succ, List.setIfInBounds_toArray, List.set_cons_zero, List.set_cons_succ]
            refine anyL_take (i := 5) (v := ?vgc35) rfl (by kernel_rfl) (by kernel_rfl) (by kernel_rfl) (by kernel_rfl) (fun _ _ _ h => h) (Or.inl ⟨by rfl, ?hgc35⟩) (unhide HSW) ?_
            case hgc35 => (intro w hSw; (try dsimp only at hSw); go_simp) <;> with_reducible rfl
            simp only [Act.put, List.getElem_toArray, List.getElem_cons_zero, List.getElem_cons_succ, List.setIfInBounds_toArray, List.set_cons_zero, List.set_cons_succ]
            refine anyL_take (i := 6) (v := ?vgc36) rfl (by kernel_rfl) (by kernel_rfl) (by kernel_rfl) (by kernel_rfl) (fun _ _ _ h => h) (Or.inl ⟨by rfl, ?hgc36⟩) (unhide HSW) ?_
            case hgc36 => (intro w hSw; (try dsimp only at hSw); go_simp) <;> with_reducible rfl
            simp only [Act.put, List.getElem_toArray, List.getElem_cons_zero, List.getElem_cons_succ, List.setIfInBounds_toArray, List.set_cons_zero, List.set_cons_succ]
            refine anyL_take (i := 7) (v := ?vgc37) rfl (by kernel_rfl) (by kernel_rfl) (by kernel_rfl) (by kernel_rfl) (fun _ _ _ h => h) (Or.inl ⟨by rfl, ?hgc37⟩) (unhide HSW) ?_
            case hgc37 => (intro w hSw; (try dsimp only at hSw); go_simp) <;> with_reducible rfl
            simp only [Act.put, List.getElem_toArray, List.getElem_cons_zero, List.getElem_cons_succ, List.setIfInBounds_toArray, List.set_cons_zero, List.set_cons_succ]
            refine anyL_take (i := 8) (v := ?vgc38) rfl (by kernel_rfl) (by kernel_rfl) (by kernel_rfl) (by kernel_rfl) (fun _ _ _ h => h) (Or.inl ⟨by rfl, ?hgc38⟩) (unhide HSW) ?_
            case hgc38 => (intro w hSw; (try dsimp only at hSw); go_simp) <;> with_reducible rfl
            simp only [Act.put, List.getElem_toArray, List.getElem_cons_zero, List.getElem_cons_succ, List.setIfInBounds_toArray, List.set_cons_zero, List.set_cons_succ]
            refine anyL_take (i := 9) (v := ?vgc39) rfl (by kernel_rfl) (by kernel_rfl) (by kernel_rfl) (by kernel_rfl) (fun _ _ _ h => h) (Or.inl ⟨by rfl, ?hgc39⟩) (unhide HSW) ?_
            case hgc39 => (intro w hSw; (try dsimp only at hSw); go_simp) <;> with_reducible rfl
            simp only [Act.put, List.getElem_toArray, List.getElem_cons_zero, List.getElem_cons_succ, List.setIfInBounds_toArray, List.set_cons_zero, List.set_cons_succ]
            refine anyL_take (i := 10) (v := ?vgc40) rfl (by kernel_rfl) (by kernel_rfl) (by kernel_rfl) (by kernel_rfl) (fun _ _ _ h => h) (Or.inl ⟨by rfl, ?hgc40⟩) (unhide HSW) ?_
            case hgc40 => (intro w hSw; (try dsimp only at hSw); go_simp) <;> with_reducible rfl
            simp only [Act.put, List.getElem_toArray, List.getElem_cons_zero, List.getElem_cons_succ, List.setIfInBounds_toArray, List.set_cons_zero, List.set_cons_succ]
            refine anyL_take (i := 11) (v := ?vgc41) rfl (by kernel_rfl) (by kernel_rfl) (by kernel_rfl) (by kernel_rfl) (fun _ _ _ h => h) (Or.inl ⟨by rfl, ?hgc41⟩) (unhide HSW) ?_
            case hgc41 => (intro w hSw; (try dsimp only at hSw); go_simp) <;> with_reducible rfl
            simp only [Act.put, List.getElem_toArray, List.getElem_cons_zero, List.getElem_cons_succ, List.setIfInBounds_toArray, List.set_cons_zero, List.set_cons_succ]
            refine anyL_take (i := 12) (v := ?vgc42) rfl (by kernel_rfl) (by kernel_rfl) (by kernel_rfl) (by kernel_rfl) (fun _ _ _ h => h) (Or.inl ⟨by rfl, ?hgc42⟩) (unhide HSW) ?_
            case hgc42 => (intro w hSw; (try dsimp only at hSw); go_simp) <;> with_reducible rfl
            simp only [Act.put, List.getElem_toArray, List.getElem_cons_zero, List.getElem_cons_succ, List.setIfInBounds_toArray, List.set_cons_zero, List.set_cons_succ]
            refine anyL_take (i := 13) (v := ?vgc43) rfl (by kernel_rfl) (by kernel_rfl) (by kernel_rfl) (by kernel_rfl) (fun _ _ _ h => h) (Or.inl ⟨by rfl, ?hgc43⟩) (unhide HSW) ?_
            case hgc43 => (intro w hSw; (try dsimp only at hSw); go_simp) <;> with_reducible rfl
            simp only [Act.put, List.getElem_toArray, List.getElem_cons_zero, List.getElem_cons_succ, List.setIfInBounds_toArray, List.set_cons_zero, List.set_cons_succ]
            refine anyL_take (i := 14) (v := ?vgc44) rfl (by kernel_rfl) (by kernel_rfl) (by kernel_rfl) (by kernel_rfl) (fun _ _ _ h => h) (Or.inl ⟨by rfl, ?hgc44⟩) (unhide HSW) ?_
            case hgc44 => (intro w hSw; (try dsimp only at hSw); go_simp) <;> with_reducible rfl
            simp only [Act.put, List.getElem_toArray, List.getElem_cons_zero, List.getElem_cons_succ, List.setIfInBounds_toArray, List.set_cons_zero, List.set_cons_succ]
            refine anyL_done (by kernel_rfl) ?_ _
            have hkw : IntKind.i64.wrap ((k : Int) + 1) = (k : Int) + 1 := by rw [IntKind.wrap_i64]; omega
            have HV : Hid ((strOfNums (T1.take at') ++ strOfNums [x] ++ strOfNums (T1.drop at')) = strOfNums (T1.take at' ++ [x] ++ T1.drop at')) := hide (unhide HEQ)
            generalize (strOfNums (T1.take at') ++ strOfNums [x] ++ strOfNums (T1.drop at')) = SV at *
            have HG4 : Hid (GrI w g2 o2 (T1.take at' ++ [x] ++ T1.drop at') w4) := hide (hw4 ▸ ⟨(unhide HG2).r.on (Below.refl _ _).drew, (unhide HG2).t, (unhide HG2).l, (unhide HG2).b.drew⟩)
            clear eA eB f1 f2 f3 hs1 hx1 HEQ HG2 hw4 HSW
            go_wp2_with fail
            go_roundw
            case rel =>
              refine ⟨⟨_, rfl⟩, ⟨_, rfl⟩, g2, o2, T1.take at' ++ [x] ++ T1.drop at', k + 1, rfl, by rw [unhide HV], by go_num, by omega, hide ?_, HG4⟩
              have h9 : (T1.take at' ++ [x] ++ T1.drop at').length = T1.length + 1 := by simp <;> omega
              rw [h9]
              have := unhide HLL
              omega
            case measure =>
              show 3 - ((k : Int) + 1).toNat < 3 - (k : Int).toNat
              omega
          · have hx : (¬ (k : Int) ≤ tm) ∨ ((k : Int) ≤ tm ∧ ¬ (k : Int) < 3) := by omega
            have hil := (unhide HT3).2.2
            rcases hx with s1 | ⟨s1, s2⟩
            all_goals
              go_wp2_with fail
              go_roundw
              case rel =>
                refine ⟨⟨_, rfl⟩, ⟨_, rfl⟩, ⟨_, rfl⟩, ⟨_, rfl⟩, g1, o1, T1, i + 1, rfl, rfl, by go_num, by omega, by omega, ?_, HI1⟩
                have := unhide HLL
                omega
              case measure =>
                show 400 - ((i : Int) + 1).toNat < 400 - (i : Int).toNat
                omega
    · have hx : (¬ (i : Int) < (l.length : Int)) ∨ ((i : Int) < (l.length : Int) ∧ ¬ (i : Int) < 400) := by omega
      have HTx := hide (text9_at g o wr (unhide HI).r (by rw [(unhide HI).t]; omega))
      rw [(unhide HI).t] at HTx
      have HDp := hide fun (X : World) (hx : Below wr.heap.size wr X) => Depth9_at g o X ((unhide HI).r.on hx)
      have HDg := hide fun (X : World) => Digits9_at T.length X (by omega)
      have hh := high_all (unhide HI).r (unhide HI).l
      rw [(unhide HI).t] at hh
      have hdl := dig_le T.length T.length (Nat.le_refl _)
      have hT12 : T.length ≤ 1200 := by omega
      have i1 : (2 : Int) * (dig T.length : Int) = ((2 * dig T.length : Nat) : Int) := by omega
      have j1 : IntKind.i64.wrap ((2 : Int) * (dig T.length : Int)) = (2 : Int) * (dig T.length : Int) := by rw [IntKind.wrap_i64]; omega
      have j2 : IntKind.i64.wrap ((2 : Int) * (dig T.length : Int) + 4) = (2 : Int) * (dig T.length : Int) + 4 := by rw [IntKind.wrap_i64]; omega
      have t4 : ((highO o : Nat) : Int) ≤ (2 : Int) * (dig T.length : Int) + 4 := by omega
      have HB0 := hide (unhide HI).b
      clear i1 hh hdl c hcap hlen hil hi4 hTl hT12
      generalize strOfNums T = S at *
      generalize T.length = N at *
      generalize ((highO o : Nat) : Int) = hgh at *
      rcases hx with t1 | ⟨t1, t2⟩
      all_goals
        go_wp2_with fail
        refine (unhide HTx).mono ?_
        rintro y w3 ⟨rfl, x3⟩
        dsimp only
        have HD1 := hide (unhide HDp w3 x3)
        go_wp2_with fail
        refine (unhide HD1).mono ?_
        rintro y w4 ⟨rfl, x4⟩
        dsimp only
        have HD2 := hide (unhide HDg w4)
        go_wp2_with fail
        refine (unhide HD2).mono ?_
        rintro y w5 ⟨rfl, rfl⟩
        dsimp only
        have x34 := x3.trans (x4.mono x3.size)
        have HX := hide ((unhide HB0).trans (x34.mono (unhide HB0).size))
        clear x3 x4 x34
        go_wp2_with fail
        refine bodyPost_ret (results_tmp rfl _ _ _) rfl ⟨rfl, unhide HX⟩

end Go.Proofs.YthkdnmekfldloaaDoor
end

section
namespace Go.Proofs.YthkdnmekfldloaaDoor
open Go.ChangeShapes Go.WideShapes Go.ChangeAt Go.RowKit
open Go.ChangeMaps (open_string shut_string)

set_option maxRecDepth 100000 in
theorem ropeGrows_contract (H : Type) (enc : TypeId × Value → H) (W : World) (base : Nat) (args : Array Value) (ds gs : List (DataW H)) (before : List MemPlace)
    (hval : ∀ (j : Nat) t v, Tryd.f3.params[j]? = some t → args[j]? = some v → Value.okWide Tryd.prog W .any base t v)
    (hW : DataW.Whole enc Tryd.prog Tryd.f3.params.toList Rows.ropeGrowsSpec.vars false W args.toList ds gs before) (hsz : (DataW.weightsEach Tryd.prog (Tryd.f3.params.toList ++ (OpenSpec.ofChange Rows.ropeGrowsSpec).bare.plain.varTypes Tryd.prog) (ds ++ gs)).all (· ≤ reachBytes) = true) (hL : laidMetH Tryd.prog Rows.ropeGrowsRow.laid W) (hsh : W.ShapedOpen Tryd.prog) :
    Calls Tryd.prog 3 args W fun e W' => ∃ v, e = .returned v ∧ Rows.ropeGrowsSpec.post enc Tryd.prog Tryd.f3 false true false false W args v W' := by
  have hW' := hW
  obtain ⟨p, q, hA0, hV, rfl, _, _⟩ := hW
  have hA : DataW.TrodAll enc Tryd.prog W 0 (fun _ => true) true Tryd.f3.params.toList args.toList ds p := hA0
  rw [Tryd.params3] at hA hval hsz
  obtain ⟨v0, vs0, d0, ds0, p0, q0, hargs, rfl, rfl, h0, r0⟩ := trodAll_cons hA
  obtain ⟨v1, vs1, d1, ds1, p1, q1, rfl, rfl, rfl, h1, r1⟩ := trodAll_cons r0
  obtain ⟨v2, vs2, d2, ds2, p2, q2, rfl, rfl, rfl, h2, r2⟩ := trodAll_cons r1
  obtain ⟨rfl, rfl, rfl⟩ := trodAll_nil r2
  obtain rfl : args = #[v0, v1, v2] := by cases args; simp_all
  obtain ⟨rfl, rfl⟩ := trodVars_none hV
  obtain ⟨a0, len0, cap0, rfl⟩ := okWide_slice Tryd.underlying22 (hval 0 22 v0 rfl rfl)
  have k0 := h0
  have lt0 : ∀ x ∈ p0, x.block < W.heap.size := by obtain ⟨m, hm⟩ := k0; exact DataW.trod_lt m _ _ _ hm
  obtain ⟨l0, rfl, w0⟩ := rowN_of_trod h0 hsz (j := 0) rfl rfl
  obtain ⟨x1, rfl, rfl, rfl, w1⟩ := open_int Tryd.underlying3 (hval 1 3 v1 rfl rfl) h1
  obtain ⟨x2, rfl, rfl, rfl, w2⟩ := open_int Tryd.underlying3 (hval 2 3 v2 rfl rfl) h2
  clear hA0
  refine (RopeGrows_any a0 cap0 l0 x1 x2 W w0 w1 w2 (wt_of hL hsh)).mono fun e W' ⟨he, bel⟩ => ?_
  subst he
  exact ⟨_, rfl, _, _, _, [], _, [], hW', trodAll_mk1 (shut_bool Tryd.underlying4 _), (trodAll_cons_mk (Below.trod laidOut (by kernel_rfl) (of_decide_eq_true (by kernel_rfl)) k0 bel lt0) (trodAll_cons_mk (shut_int Tryd.underlying3 w1) (trodAll_cons_mk (shut_int Tryd.underlying3 w2) trodAll_mk0))), rfl, bel.frame _, fun h => by cases h⟩

theorem ropeGrows_met (os : Os) : laidMet Tryd.prog Rows.ropeGrowsRow.laid ((laidWorldW os).forCall (fun _ _ => 0) ⟨#[], #[.slice none 0 0, .int .i64 0, .int .i64 0], []⟩).memory :=
  laidMet_of_run' 8 (by kernel_rfl) (by kernel_rfl)
theorem ropeGrows_reads (os : Os) {H : Type} (enc : TypeId × Value → H) : ∃ places, DataW.whole enc Tryd.prog ((laidWorldW os).forCall (fun _ _ => 0) ⟨#[], #[.slice none 0 0, .int .i64 0, .int .i64 0], []⟩).memory Tryd.f3.params.toList Rows.ropeGrowsSpec.vars false (#[.slice none 0 0, .int .i64 0, .int .i64 0] : Array Value).toList 8 = some ([.nil, .lit (.int .i64 0), .lit (.int .i64 0)], [], places) :=
  ⟨[], by kernel_rfl⟩

set_option maxRecDepth 100000 in
theorem ropeGrows_lifted (os : Os) (started : os.Started) (H : Type) (enc : TypeId × Value → H) (F : Stop.Interp) :
    ReturnsInHanded {} Tryd.checked os 3 .any ((OpenSpec.ofChange Rows.ropeGrowsSpec).preRow enc Tryd.prog Tryd.f3 Rows.ropeGrowsRow.domain false Rows.ropeGrowsRow.laid) (((OpenSpec.ofChange Rows.ropeGrowsSpec).at F).post enc Tryd.prog Tryd.f3 false true false false) := by
  obtain ⟨places, hx⟩ := ropeGrows_reads os enc
  refine returnsInHanded_of_row (C := Tryd.checked) (s := OpenSpec.ofChange Rows.ropeGrowsSpec) own started (by kernel_rfl) Tryd.func3
    (witness_row_at (enc := enc) (C := Tryd.checked) false (laidWorldW os) #[.slice none 0 0, .int .i64 0, .int .i64 0] rfl (by kernel_rfl) (by kernel_rfl) (by kernel_rfl)
      (OpenSpec.preRow_of_cond 8 hx (by kernel_rfl) (fun k hk => by cases hk) (by kernel_rfl) (ropeGrows_met os))) ?_
  intro W base args ds gs before hval hW _ _ hsz hL hsh _
  exact ropeGrows_contract H enc W base args ds gs before hval hW hsz hL hsh

theorem ropeGrows_said : Rows.RopeGrowsSaid :=
  OpenClaim.holds_of_cond 3 Tryd.f3 rfl rfl rfl rfl rfl rfl rfl ⟨rfl, rfl, rfl, rfl, rfl⟩ rfl rfl rfl rfl rfl (by kernel_rfl) Tryd.func3 (by kernel_rfl)
    (of_decide_eq_true (by kernel_rfl)) (by unfold Func.isWrapper; first | (rw [if_pos (by decide +kernel)]; kernel_rfl) | (rw [if_neg (by decide +kernel)]; exact ⟨rfl, rfl⟩))
    (fun os started H enc _ F => by rw [OpenClaim.pre_eq_preRow]; exact ropeGrows_lifted os started H enc F)

theorem ropeGrows_plain (f : FuncId) (fn : Func) (hf : Tryd.pinned.checked.prog.funcNamed "galley/galleylaw09.RopeGrows" = some f) (hfn : Tryd.pinned.checked.prog.funcs[f]? = some fn) :
    true = Tryd.pinned.checked.prog.looks [] ∧ ∀ (j : Nat) t, fn.params[j]? = some t → Tryd.pinned.checked.prog.wantsStandIn t = false := by
  obtain rfl : f = 3 := Option.some.inj ((show Tryd.prog.funcNamed "galley/galleylaw09.RopeGrows" = some 3 by kernel_rfl).symm.trans hf) |>.symm
  obtain rfl : fn = Tryd.f3 := (Option.some.inj (Tryd.func3.symm.trans hfn)).symm
  refine ⟨by kernel_rfl, fun j t ht => ?_⟩
  rw [Tryd.params3] at ht
  have hm := Array.mem_of_getElem? ht
  simp only [List.mem_toArray, List.mem_cons, List.not_mem_nil, or_false] at hm
  rcases hm with rfl | rfl | rfl
  · exact (show Tryd.prog.wantsStandIn 22 = false by kernel_rfl)
  · exact (show Tryd.prog.wantsStandIn 3 = false by kernel_rfl)
  · exact (show Tryd.prog.wantsStandIn 3 = false by kernel_rfl)

/-- the card -/
theorem ropeGrows_card : Rows.RopeGrowsCardSaid :=
  Claim7.holds_tied_plain_at .later [] _ _ _ _ ropeGrows_said (fun _ h => by cases h) (by kernel_rfl) (fun _ h => by cases h) ropeGrows_row_tie rfl ⟨rfl, rfl⟩ (by kernel_rfl) rfl ropeGrows_plain (by kernel_rfl)

#print axioms ropeGrows_card
end Go.Proofs.YthkdnmekfldloaaDoor
end
