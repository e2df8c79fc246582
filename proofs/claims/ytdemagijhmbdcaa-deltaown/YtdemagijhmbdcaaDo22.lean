/- Layer 13, the document's Canon. · Layer 13, the document's Valid. · Layer 13, the document's Lens. -/
import Derived.Test.YtdemagijhmbdcaaDo21
import Derived.Deep.QuietTactic
import Derived.BigQuiet
import Derived.WalkSmall

section
namespace Go.Proofs.Ytdemagijhmbdcaa
open Go.ChangeShapes Go.WideShapes Go.ChangeAt Go.RowKit
attribute [local go_sem] Oper.semAt_some

theorem kn_cases (o : Dop) : (knB o = true ∧ decide (o.k < 1) = false ∧ decide (o.k > 3) = false ∧ decide (3 < o.k) = false ∧ ((o.k != 2) = false ∨ ((o.k != 2) = true ∧ decide (o.n < 0) = false))) ∨
    (knB o = false ∧ (decide (o.k < 1) = true ∨ (decide (o.k < 1) = false ∧ decide (o.k > 3) = true ∧ decide (3 < o.k) = true) ∨ (decide (o.k < 1) = false ∧ decide (o.k > 3) = false ∧ decide (3 < o.k) = false ∧ (o.k != 2) = true ∧ decide (o.n < 0) = true))) := by
  obtain ⟨k, n, t⟩ := o
  unfold knB
  dsimp only
  by_cases h1 : k < 1
  · right; refine ⟨?_, .inl (decide_eq_true h1)⟩; simp; omega
  by_cases h2 : 3 < k
  · right; refine ⟨?_, .inr (.inl ⟨decide_eq_false h1, decide_eq_true h2, decide_eq_true h2⟩)⟩; simp; omega
  by_cases h3 : k = 2
  · left; subst h3; simp
  by_cases h4 : n < 0
  · right; refine ⟨?_, .inr (.inr ⟨decide_eq_false h1, decide_eq_false h2, decide_eq_false h2, by simpa using h3, decide_eq_true h4⟩)⟩; simp; omega
  · left; refine ⟨?_, decide_eq_false h1, decide_eq_false h2, decide_eq_false h2, .inr ⟨by simpa using h3, decide_eq_false h4⟩⟩; simp; omega
theorem op_small {d : List Dop} {x : Dop} (h : Can d) (hx : x ∈ d) : x.n ≤ ((dA d).length : Int) ∧ x.t.length ≤ (dA d).length := by
  obtain ⟨a, b, rfl⟩ := List.append_of_mem hx
  have hp := h.p x hx
  have e : (dA (a ++ x :: b)).length = (dA a).length + ((opA x).length + (dA b).length) := by rw [dA_app, dA_cons, List.length_append, List.length_append]
  rw [e]
  rcases hp with ⟨h1 | h1, h2, h3⟩ | ⟨h1, h2, h3⟩
  · have : (opA x).length = x.n.toNat := by simp [opA, h1]
    rw [h3]; simp; omega
  · have : (opA x).length = x.n.toNat := by simp [opA, h1]
    rw [h3]; simp; omega
  · have : (opA x).length = x.t.length := by simp [opA, h1]
    omega
theorem fin_len (u : List Atm) : (dA (feedA b0 u).fin).length = u.length := by
  have := congrArg List.length (feed_atoms u wb0)
  rw [nf_len, nf_len] at this
  exact this.trans rfl
theorem adok_feed {u : List Atm} {n : Int} {t : List Int} (hu : u.length ≤ 1073741000) (hn : 0 ≤ n ∧ n ≤ 2305843009213693952) (ht : t.length ≤ 2305843009213693952) : AdOk (feedA b0 u).fin n t := by
  have hc := can_fin (wb_feed u wb0)
  have hl := fin_len u
  refine ⟨hc, ?_, fun x hx => ?_, fun x hx => ?_, hn, ht⟩
  · have := can_len hc.p; omega
  · have := (op_small hc hx).1; omega
  · have := (op_small hc hx).2; omega
/-- one more operation, as add says and as the builder does -/
theorem add_op {u : List Atm} {x : Dop} (hk : x.k = 1 ∨ x.k = 2 ∨ x.k = 3) (hn : x.k ≠ 2 → 0 ≤ x.n) : addD (feedA b0 u).fin x.k (if x.k = 2 then 0 else x.n) (if x.k = 2 then x.t else []) = (feedA b0 (u ++ opA x)).fin := by
  have hw := wb_feed u wb0
  rw [feedA_app, ← op_atoms]
  rcases hk with h | h | h
  · obtain ⟨m, hm⟩ : ∃ m : Nat, x.n = (m : Int) := ⟨x.n.toNat, by have := hn (by omega); omega⟩
    rw [op_keep h, h, hm]
    simp only [show ¬ ((1 : Int) = 2) by decide, if_false, Int.toNat_natCast]
    exact add_keep hw m
  · rw [op_put h, h]
    simp only [if_true]
    exact add_put hw x.t
  · obtain ⟨m, hm⟩ : ∃ m : Nat, x.n = (m : Int) := ⟨x.n.toNat, by have := hn (by omega); omega⟩
    rw [op_drop h, h, hm]
    simp only [show ¬ ((3 : Int) = 2) by decide, if_false, Int.toNat_natCast]
    exact add_drop hw m
theorem dA_takeS (d : List Dop) {k : Nat} (hk : k < d.length) : dA (d.take (k + 1)) = dA (d.take k) ++ opA (d.getD k opZ) := by
  rw [List.take_add_one, List.getElem?_eq_getElem hk, Option.toList_some, dA_app]
  simp [dA, List.getD_eq_getElem?_getD, List.getElem?_eq_getElem hk]
theorem frD_le (d : List Dop) (k : Nat) : frD (d.take k) ≤ frD d ∧ toD (d.take k) ≤ toD d := by
  have h1 : frD d = frD (d.take k) + frD (d.drop k) := by unfold frD; rw [← List.sum_append, ← List.map_append, List.take_append_drop]
  have h2 : toD d = toD (d.take k) + toD (d.drop k) := by unfold toD; rw [← List.sum_append, ← List.map_append, List.take_append_drop]
  omega
theorem ca_k {f m F : Nat} (hf : f ≤ 268435456) (hm : m ≤ 140737488355328) (h : F = f + m) : wrap64 ((f : Int) + (m : Int)) = (F : Int) ∧ wrap64 ((F : Int) + 0) = (F : Int) ∧ wrap64 (F : Int) = (F : Int) := by
  subst h
  exact ⟨by rw [wrapD _ (by omega) (by omega)]; omega, by rw [wrapD _ (by omega) (by omega)]; omega, wrapD _ (by omega) (by omega)⟩
theorem ca_0 {f : Nat} (hf : f ≤ 268435456) : wrap64 ((f : Int) + 0) = (f : Int) ∧ wrap64 (f : Int) = (f : Int) := ⟨by rw [wrapD _ (by omega) (by omega)]; omega, wrapD _ (by omega) (by omega)⟩
theorem big_t {m : Nat} (h : 268435456 < m) : decide ((m : Int) > 268435456) = true ∧ decide ((268435456 : Int) < (m : Int)) = true ∧ decide (268435456 < m) = true := ⟨decide_eq_true (by omega), decide_eq_true (by omega), decide_eq_true h⟩
theorem big_f {m : Nat} (h : ¬ 268435456 < m) : decide ((m : Int) > 268435456) = false ∧ decide ((268435456 : Int) < (m : Int)) = false ∧ decide (268435456 < m) = false := ⟨decide_eq_false (by omega), decide_eq_false (by omega), decide_eq_false h⟩
/-- the state of the second loop -/
structure CaI (d : List Dop) (k f t : Nat) (L : List Dop) (w : World) (a : Option Addr) (X : World) : Prop where
  ef : f = frD (d.take k)
  et : t = toD (d.take k)
  z : f ≤ 268435456 ∧ t ≤ 268435456
  l : L = (feedA b0 (dA (d.take k))).fin
  o : IsO X a L
  d : Below w.heap.size w X
set_option maxRecDepth 100000 in
set_option maxHeartbeats 4000000 in
theorem RCanon_at (a : Option Addr) (c : Nat) (d : List Dop) (w : World) (h : IsO w a d) (hl : d.length ≤ 4611686018427387904) (ht : ∀ o ∈ d, o.t.length ≤ 140737488355328) :
    Calls Try.prog 22 #[.slice a d.length c] w fun y w' => ∃ a' c', y = .returned (.tuple #[.slice a' (canD d).1.length c', .int .i64 (canD d).2]) ∧ IsO w' a' (canD d).1 ∧ (canD d).1.length ≤ c' ∧ Below w.heap.size w w' := by
  have HO := hide fun (X : World) (hx : Below w.heap.size w X) => h.below hx (Nat.le_refl _)
  have HT := hide ht
  obtain ⟨L, E, hLE⟩ : ∃ L E, canD d = (L, E) := ⟨_, _, rfl⟩
  rw [hLE]
  dsimp only
  unfold canD at hLE
  have HLE := hide hLE
  clear h ht hLE
  go_enter Try.func22, Try.ntmps22
  go_wp2_with fail
  go_loopw [4, 5] (fun v4 v5 wx => (∃ z, v5 = z) ∧ (∃ k : Nat, v4 = .int .i64 (k : Int) ∧ k ≤ d.length ∧ Hid ((d.take k).all knB = true)) ∧ Hid (Below w.heap.size w wx)) (fun v4 _ _ => d.length - (intOf v4).toNat)
  case atStart => exact ⟨⟨_, rfl⟩, ⟨0, rfl, Nat.zero_le _, hide rfl⟩, hide (Below.refl _ _)⟩
  case round =>
    obtain ⟨⟨z1, rfl⟩, ⟨k, rfl, hk, HK⟩, HB⟩ := hrel
    by_cases hlt : k < d.length
    · have t1 : decide ((k : Int) < (d.length : Int)) = true := decide_eq_true (by omega)
      obtain ⟨g, off, rfl, hg, c0, c1, c2⟩ := (unhide HO wr (unhide HB)).three hlt
      have HAT := hide (all_take d knB hlt)
      have HAN := hide (all_no d knB hlt)
      have HKC := hide (kn_cases (d.getD k opZ))
      generalize d.getD k opZ = x at *
      obtain ⟨xk, xn, xt⟩ := x
      dsimp only at c0 c1 c2 HKC
      generalize strOfNums xt = st at *
      rcases unhide HKC with ⟨hb, s1, s2, s3, s4⟩ | ⟨hb, s⟩
      · have HK2 : Hid ((d.take (k + 1)).all knB = true) := hide (by rw [unhide HAT, unhide HK, hb]; rfl)
        clear HK HKC HAT HAN hb c2
        rcases s4 with s4 | ⟨s4, s5⟩
        all_goals
          go_wp2_with fail
          go_roundw
          case rel => exact ⟨⟨_, rfl⟩, ⟨k + 1, by go_num, hlt, HK2⟩, HB⟩
          case measure => simp [intOf]; omega
      · have hV := unhide HLE
        rw [unhide HAN hb] at hV
        simp only [Bool.false_eq_true, if_false, Prod.mk.injEq] at hV
        obtain ⟨rfl, rfl⟩ := hV
        clear HK HKC HAT HAN hb c2 HLE
        rcases s with s1 | ⟨s1, s2, s3⟩ | ⟨s1, s2, s3, s4, s5⟩
        all_goals
          go_wp2_with fail
          refine bodyPost_ret (results_tmp2 rfl _ _ _) rfl ⟨none, 0, rfl, Or.inl rfl, Nat.le_refl _, unhide HB⟩
    · obtain rfl : k = d.length := by omega
      have t1 : decide ((d.length : Int) < (d.length : Int)) = false := decide_eq_false (by omega)
      have hkn : d.all knB = true := by have := unhide HK; rwa [List.take_length] at this
      have HKN := hide hkn
      have hV := unhide HLE
      rw [hkn] at hV
      simp only [if_true] at hV
      have HV := hide hV
      clear HK hk HLE hkn hV
      go_wp2_with fail
      go_loopw [6, 7, 8, 9, 10, 11, 12] (fun v6 v7 v8 v9 v10 v11 v12 wx => (∃ z, v10 = z) ∧ (∃ z, v11 = z) ∧ (∃ z, v12 = z) ∧ (∃ (k f t q : Nat) (M : List Dop) (a8 : Option Addr), v9 = .int .i64 (k : Int) ∧ v6 = .int .i64 (f : Int) ∧ v7 = .int .i64 (t : Int) ∧ v8 = .slice a8 M.length q ∧ k ≤ d.length ∧ M.length ≤ q ∧ Hid (CaI d k f t M w a8 wx))) (fun _ _ _ v9 _ _ _ _ => d.length - (intOf v9).toNat)
      case atStart => exact ⟨⟨_, rfl⟩, ⟨_, rfl⟩, ⟨_, rfl⟩, ⟨0, 0, 0, 0, [], none, rfl, rfl, rfl, rfl, Nat.zero_le _, Nat.le_refl _, hide ⟨rfl, rfl, by omega, rfl, Or.inl rfl, unhide HB⟩⟩⟩
      case round =>
        clear HB
        obtain ⟨⟨z1, rfl⟩, ⟨z2, rfl⟩, ⟨z3, rfl⟩, ⟨k, f, t, q, M, a8, rfl, rfl, rfl, rfl, hk, hq, HI⟩⟩ := hrel
        by_cases hlt : k < d.length
        · have t1 : decide ((k : Int) < (d.length : Int)) = true := decide_eq_true (by omega)
          obtain ⟨g, off, rfl, hg, c0, c1, c2⟩ := (unhide HO wr (unhide HI).d).three hlt
          have hx := kn_k (unhide HKN) (getD_memD hlt)
          have hnn : (d.getD k opZ).k ≠ 2 → 0 ≤ (d.getD k opZ).n := fun h2 => kn_nn (unhide HKN) _ (getD_memD hlt) (by omega)
          have htl := unhide HT _ (getD_memD hlt)
          have hfr := frD_take d hlt
          have hto := toD_take d hlt
          have hle := frD_le d (k + 1)
          have hdA := dA_takeS d hlt
          have hz := (unhide HI).z
          have hul : (dA (d.take k)).length ≤ f + t := by
            rw [(unhide HI).ef, (unhide HI).et]
            exact dA_len fun o ho => kn_k (unhide HKN) (List.mem_of_mem_take ho)
          have hadd := add_op (u := dA (d.take k)) hx hnn
          rw [← hdA, ← (unhide HI).l] at hadd
          rw [← (unhide HI).ef] at hfr
          rw [← (unhide HI).et] at hto
          have HAok : Hid (∀ (n : Int) (s : List Int), 0 ≤ n ∧ n ≤ 2305843009213693952 → s.length ≤ 2305843009213693952 → AdOk M n s) := hide fun n s h1 h2 => by rw [(unhide HI).l]; exact adok_feed (by omega) h1 h2
          have HADD : Hid (∀ (X : World), Below wr.heap.size wr X → ∀ (n : Int) (s : List Int), AdOk M n s → Calls Try.prog 51 #[.slice a8 M.length q, .int .i64 (d.getD k opZ).k, .int .i64 n, .string (strOfNums s)] X fun y w' => ∃ a' c', y = .returned (.slice a' (addD M (d.getD k opZ).k n s).length c') ∧ IsO w' a' (addD M (d.getD k opZ).k n s) ∧ (addD M (d.getD k opZ).k n s).length ≤ c' ∧ Below X.heap.size X w') := hide fun X hX n s h1 => RAdd_at a8 q M _ n s X ((unhide HI).o.below hX (Nat.le_refl _)) hq h1
          have HBW := hide (unhide HI).d
          have HLG : Hid (268435456 < frD (d.take (k + 1)) ∨ 268435456 < toD (d.take (k + 1)) → ([], 5) = (L, E)) := hide fun h9 => by
            have hV := unhide HV
            rwa [show lonB d = true from decide_eq_true (by omega), if_pos rfl] at hV
          have HNX : Hid (∀ (f' t' : Nat) (a9 : Option Addr) (X : World), f' = frD (d.take (k + 1)) → t' = toD (d.take (k + 1)) → f' ≤ 268435456 ∧ t' ≤ 268435456 → IsO X a9 (feedA b0 (dA (d.take (k + 1)))).fin → Below wr.heap.size wr X → CaI d (k + 1) f' t' (feedA b0 (dA (d.take (k + 1)))).fin w a9 X) := hide fun f' t' a9 X h1 h2 h3 h4 h5 => ⟨h1, h2, h3, rfl, h4, (unhide HBW).trans (h5.mono (unhide HBW).size)⟩
          generalize (feedA b0 (dA (d.take (k + 1)))).fin = M' at *
          generalize frD (d.take (k + 1)) = F' at *
          generalize toD (d.take (k + 1)) = T' at *
          generalize d.getD k opZ = x at *
          obtain ⟨xk, xn, xt⟩ := x
          dsimp only at c0 c1 c2 hx hnn htl hadd HADD
          have hsz := strOfNums_size xt
          clear hle hdA HI hul hk
          rcases hx with rfl | rfl | rfl
          · obtain ⟨m, rfl⟩ : ∃ m : Nat, xn = (m : Int) := ⟨xn.toNat, by have := hnn (by decide); omega⟩
            simp only [show ¬ ((1 : Int) = 2) by decide, if_false] at hadd
            rw [show frN ⟨1, (m : Int), xt⟩ = m by simp [frN]] at hfr
            rw [show toN ⟨1, (m : Int), xt⟩ = m by simp [toN]] at hto
            have HE0 : Hid (strOfNums [] = ⟨#[]⟩) := hide rfl
            by_cases hbig : 268435456 < m
            · have hV := unhide HLG (.inl (by omega))
              simp only [Prod.mk.injEq] at hV
              obtain ⟨rfl, rfl⟩ := hV
              obtain ⟨u1, u2, u3⟩ := big_t hbig
              clear hadd HADD HAok HNX HLG hfr hto hnn htl hz hbig
              go_wp2_with fail
              refine bodyPost_ret (results_tmp2 rfl _ _ _) rfl ⟨none, 0, rfl, Or.inl rfl, Nat.le_refl _, unhide HBW⟩
            have U := hide (big_f hbig)
            have W1 := hide (ca_k hz.1 (by omega) hfr)
            have W2 := hide (ca_k hz.2 (by omega) hto)
            by_cases hlo : 268435456 < F' ∨ 268435456 < T'
            · have hV := unhide HLG hlo
              simp only [Prod.mk.injEq] at hV
              obtain ⟨rfl, rfl⟩ := hV
              have HTS : Hid (268435456 < F' ∨ (¬ 268435456 < F' ∧ 268435456 < T')) := hide (by omega)
              clear hadd HADD HAok HNX HLG hfr hto hnn htl hz hlo
              rcases unhide HTS with h1 | ⟨h1, h2⟩
              · obtain ⟨p0, p1, p2⟩ := big_t h1
                clear HTS h1
                obtain ⟨w1, w2, w3⟩ := unhide W1
                obtain ⟨w4, w5, w6⟩ := unhide W2
                obtain ⟨u1, u2, u3⟩ := unhide U
                go_wp2_with fail
                refine bodyPost_ret (results_tmp2 rfl _ _ _) rfl ⟨none, 0, rfl, Or.inl rfl, Nat.le_refl _, unhide HBW⟩
              · obtain ⟨p0, p1, p2⟩ := big_f h1
                obtain ⟨r0, r1, r2⟩ := big_t h2
                clear HTS h1 h2
                obtain ⟨w1, w2, w3⟩ := unhide W1
                obtain ⟨w4, w5, w6⟩ := unhide W2
                obtain ⟨u1, u2, u3⟩ := unhide U
                go_wp2_with fail
                refine bodyPost_ret (results_tmp2 rfl _ _ _) rfl ⟨none, 0, rfl, Or.inl rfl, Nat.le_refl _, unhide HBW⟩
            · have hC := fun X hX => unhide HADD X hX (m : Int) [] (unhide HAok (m : Int) [] (by omega) (by simp))
              simp only [hadd, unhide HE0] at hC
              have HC := hide hC
              have HN2 := hide fun (a9 : Option Addr) (X : World) => unhide HNX F' T' a9 X rfl rfl (by omega)
              obtain ⟨p0, p1, p2⟩ := big_f fun h => hlo (.inl h)
              obtain ⟨r0, r1, r2⟩ := big_f fun h => hlo (.inr h)
              clear hC hadd HADD HAok HNX HLG hfr hto hnn htl hz hlo
              obtain ⟨w1, w2, w3⟩ := unhide W1
              obtain ⟨w4, w5, w6⟩ := unhide W2
              obtain ⟨u1, u2, u3⟩ := unhide U
              go_wp2_with fail
              refine (unhide HC _ (Below.refl _ _)).mono ?_
              rintro y v1 ⟨a9, q9, rfl, i9, l9, x9⟩
              dsimp only
              have HI2 := hide (unhide HN2 a9 v1 i9 x9)
              clear HC HN2 i9 x9
              go_wp2_with fail
              go_roundw
              case rel => exact ⟨⟨_, rfl⟩, ⟨_, rfl⟩, ⟨_, rfl⟩, ⟨k + 1, F', T', q9, M', a9, by go_num, by first | rfl | go_num, by first | rfl | go_num, rfl, hlt, l9, HI2⟩⟩
              case measure => simp [intOf]; omega
          · simp only [if_true] at hadd
            rw [show frN ⟨2, xn, xt⟩ = 0 by simp [frN]] at hfr
            rw [show toN ⟨2, xn, xt⟩ = xt.length by simp [toN]] at hto
            obtain rfl : F' = f := by omega
            have W1 := hide (ca_0 hz.1)
            have W2 := hide (ca_k hz.2 htl hto)
            by_cases hlo : 268435456 < F' ∨ 268435456 < T'
            · have hV := unhide HLG hlo
              simp only [Prod.mk.injEq] at hV
              obtain ⟨rfl, rfl⟩ := hV
              have HTS : Hid (268435456 < F' ∨ (¬ 268435456 < F' ∧ 268435456 < T')) := hide (by omega)
              clear hadd HADD HAok HNX HLG hfr hto hnn htl hz hlo
              rcases unhide HTS with h1 | ⟨h1, h2⟩
              · obtain ⟨p0, p1, p2⟩ := big_t h1
                clear HTS h1
                obtain ⟨w1, w2⟩ := unhide W1
                obtain ⟨w4, w5, w6⟩ := unhide W2
                go_upto_region 15 with fail
                go_region
                go_wp2_with fail
                refine bodyPost_ret (results_tmp2 rfl _ _ _) rfl ⟨none, 0, rfl, Or.inl rfl, Nat.le_refl _, (unhide HBW).drew⟩
              · obtain ⟨p0, p1, p2⟩ := big_f h1
                obtain ⟨r0, r1, r2⟩ := big_t h2
                clear HTS h1 h2
                obtain ⟨w1, w2⟩ := unhide W1
                obtain ⟨w4, w5, w6⟩ := unhide W2
                go_upto_region 15 with fail
                go_region
                go_wp2_with fail
                refine bodyPost_ret (results_tmp2 rfl _ _ _) rfl ⟨none, 0, rfl, Or.inl rfl, Nat.le_refl _, (unhide HBW).drew⟩
            · have hC := fun X hX => unhide HADD X hX 0 xt (unhide HAok 0 xt (by omega) (by omega))
              simp only [hadd] at hC
              have HC := hide hC
              have HN2 := hide fun (a9 : Option Addr) (X : World) => unhide HNX F' T' a9 X rfl rfl (by omega)
              obtain ⟨p0, p1, p2⟩ := big_f fun h => hlo (.inl h)
              obtain ⟨r0, r1, r2⟩ := big_f fun h => hlo (.inr h)
              clear hC hadd HADD HAok HNX HLG hfr hto hnn htl hz hlo
              obtain ⟨w1, w2⟩ := unhide W1
              obtain ⟨w4, w5, w6⟩ := unhide W2
              generalize hst : strOfNums xt = st at *
              clear hst
              go_upto_region 15 with fail
              go_region
              go_wp2_with fail
              refine (unhide HC _ ((Below.refl _ _).drew)).mono ?_
              rintro y v1 ⟨a9, q9, rfl, i9, l9, x9⟩
              dsimp only
              have HI2 := hide (unhide HN2 a9 v1 i9 ((Below.refl _ _).drew.trans x9))
              clear HC HN2 i9 x9
              go_wp2_with fail
              go_roundw
              case rel => exact ⟨⟨_, rfl⟩, ⟨_, rfl⟩, ⟨_, rfl⟩, ⟨k + 1, F', T', q9, M', a9, by go_num, by first | rfl | go_num, by first | rfl | go_num, rfl, hlt, l9, HI2⟩⟩
              case measure => simp [intOf]; omega
          · obtain ⟨m, rfl⟩ : ∃ m : Nat, xn = (m : Int) := ⟨xn.toNat, by have := hnn (by decide); omega⟩
            simp only [show ¬ ((3 : Int) = 2) by decide, if_false] at hadd
            rw [show frN ⟨3, (m : Int), xt⟩ = m by simp [frN]] at hfr
            rw [show toN ⟨3, (m : Int), xt⟩ = 0 by simp [toN]] at hto
            have HE0 : Hid (strOfNums [] = ⟨#[]⟩) := hide rfl
            by_cases hbig : 268435456 < m
            · have hV := unhide HLG (.inl (by omega))
              simp only [Prod.mk.injEq] at hV
              obtain ⟨rfl, rfl⟩ := hV
              obtain ⟨u1, u2, u3⟩ := big_t hbig
              clear hadd HADD HAok HNX HLG hfr hto hnn htl hz hbig
              go_wp2_with fail
              refine bodyPost_ret (results_tmp2 rfl _ _ _) rfl ⟨none, 0, rfl, Or.inl rfl, Nat.le_refl _, unhide HBW⟩
            have U := hide (big_f hbig)
            obtain rfl : T' = t := by omega
            have W1 := hide (ca_k hz.1 (by omega) hfr)
            have W2 := hide (ca_0 hz.2)
            by_cases hlo : 268435456 < F' ∨ 268435456 < T'
            · have hV := unhide HLG hlo
              simp only [Prod.mk.injEq] at hV
              obtain ⟨rfl, rfl⟩ := hV
              have HTS : Hid (268435456 < F' ∨ (¬ 268435456 < F' ∧ 268435456 < T')) := hide (by omega)
              clear hadd HADD HAok HNX HLG hfr hto hnn htl hz hlo
              rcases unhide HTS with h1 | ⟨h1, h2⟩
              · obtain ⟨p0, p1, p2⟩ := big_t h1
                clear HTS h1
                obtain ⟨w1, w2, w3⟩ := unhide W1
                obtain ⟨w4, w5⟩ := unhide W2
                obtain ⟨u1, u2, u3⟩ := unhide U
                go_wp2_with fail
                refine bodyPost_ret (results_tmp2 rfl _ _ _) rfl ⟨none, 0, rfl, Or.inl rfl, Nat.le_refl _, unhide HBW⟩
              · obtain ⟨p0, p1, p2⟩ := big_f h1
                obtain ⟨r0, r1, r2⟩ := big_t h2
                clear HTS h1 h2
                obtain ⟨w1, w2, w3⟩ := unhide W1
                obtain ⟨w4, w5⟩ := unhide W2
                obtain ⟨u1, u2, u3⟩ := unhide U
                go_wp2_with fail
                refine bodyPost_ret (results_tmp2 rfl _ _ _) rfl ⟨none, 0, rfl, Or.inl rfl, Nat.le_refl _, unhide HBW⟩
            · have hC := fun X hX => unhide HADD X hX (m : Int) [] (unhide HAok (m : Int) [] (by omega) (by simp))
              simp only [hadd, unhide HE0] at hC
              have HC := hide hC
              have HN2 := hide fun (a9 : Option Addr) (X : World) => unhide HNX F' T' a9 X rfl rfl (by omega)
              obtain ⟨p0, p1, p2⟩ := big_f fun h => hlo (.inl h)
              obtain ⟨r0, r1, r2⟩ := big_f fun h => hlo (.inr h)
              clear hC hadd HADD HAok HNX HLG hfr hto hnn htl hz hlo
              obtain ⟨w1, w2, w3⟩ := unhide W1
              obtain ⟨w4, w5⟩ := unhide W2
              obtain ⟨u1, u2, u3⟩ := unhide U
              go_wp2_with fail
              refine (unhide HC _ (Below.refl _ _)).mono ?_
              rintro y v1 ⟨a9, q9, rfl, i9, l9, x9⟩
              dsimp only
              have HI2 := hide (unhide HN2 a9 v1 i9 x9)
              clear HC HN2 i9 x9
              go_wp2_with fail
              go_roundw
              case rel => exact ⟨⟨_, rfl⟩, ⟨_, rfl⟩, ⟨_, rfl⟩, ⟨k + 1, F', T', q9, M', a9, by go_num, by first | rfl | go_num, by first | rfl | go_num, rfl, hlt, l9, HI2⟩⟩
              case measure => simp [intOf]; omega
        · obtain rfl : k = d.length := by omega
          have t1 : decide ((d.length : Int) < (d.length : Int)) = false := decide_eq_false (by omega)
          have hV := unhide HV
          have hI := unhide HI
          have hlo : lonB d = false := decide_eq_false (by
            have h1 := hI.ef
            have h2 := hI.et
            have h3 := hI.z
            rw [List.take_length] at h1 h2
            omega)
          rw [hlo] at hV
          simp only [Bool.false_eq_true, if_false, Prod.mk.injEq] at hV
          obtain ⟨hL, rfl⟩ := hV
          have hM : M = L := by rw [hI.l, List.take_length, ← hL]; rfl
          subst hM
          have HR := hide (And.intro hI.o (And.intro hq hI.d))
          clear hI hlo hL HI hk HV HKN
          go_wp2_with fail
          refine bodyPost_ret (results_tmp2 rfl _ _ _) rfl ⟨a8, q, rfl, (unhide HR).1, (unhide HR).2.1, (unhide HR).2.2⟩

end Go.Proofs.Ytdemagijhmbdcaa
end

section
namespace Go.Proofs.Ytdemagijhmbdcaa
open Go.ChangeShapes Go.WideShapes Go.ChangeAt Go.RowKit
attribute [local go_sem] Oper.semAt_some

theorem val_pl {d : List Dop} (h : d.all plB = false) : valB d = false := by unfold valB; rw [h]; rfl
theorem val_ap {d : List Dop} (h : apL 7 d = false) : valB d = false := by unfold valB; rw [h]; cases d.all plB <;> rfl
theorem val_lo {d : List Dop} (h : 268435456 < frD d ∨ 268435456 < toD d) : valB d = false := by
  unfold valB; rw [show lonB d = true from decide_eq_true h]; cases d.all plB <;> cases apL 7 d <;> rfl
/-- the tests of one operation that keeps or drops -/
theorem kd_cases (n : Int) (t : List Int) : (n < 1 ∧ decide (n < 1) = true) ∨ (¬ n < 1 ∧ 268435456 < n ∧ decide (n < 1) = false ∧ decide (n > 268435456) = true ∧ decide (268435456 < n) = true) ∨
    (¬ n < 1 ∧ t.isEmpty = false ∧ decide (n < 1) = false ∧ decide (n > 268435456) = false ∧ decide (268435456 < n) = false) ∨
    (¬ n < 1 ∧ n ≤ 268435456 ∧ t.isEmpty = true ∧ decide (n < 1) = false ∧ decide (n > 268435456) = false ∧ decide (268435456 < n) = false) := by
  by_cases h1 : n < 1
  · exact .inl ⟨h1, decide_eq_true h1⟩
  by_cases h2 : 268435456 < n
  · exact .inr (.inl ⟨h1, h2, decide_eq_false h1, decide_eq_true h2, decide_eq_true h2⟩)
  cases h3 : t.isEmpty with
  | false => exact .inr (.inr (.inl ⟨h1, rfl, decide_eq_false h1, decide_eq_false h2, decide_eq_false h2⟩))
  | true => exact .inr (.inr (.inr ⟨h1, by omega, rfl, decide_eq_false h1, decide_eq_false h2, decide_eq_false h2⟩))
theorem put_cases (n : Int) (t : List Int) : (¬ n = 0 ∧ (n != 0) = true) ∨ (n = 0 ∧ (n != 0) = false ∧ t.isEmpty = true) ∨ (n = 0 ∧ (n != 0) = false ∧ t.isEmpty = false) := by
  by_cases h1 : n = 0
  · cases h3 : t.isEmpty with
    | true => exact .inr (.inl ⟨h1, by simp [h1], rfl⟩)
    | false => exact .inr (.inr ⟨h1, by simp [h1], rfl⟩)
  · exact .inl ⟨h1, by simpa using h1⟩
theorem kind_cases (k : Int) : k = 1 ∨ k = 2 ∨ k = 3 ∨ (¬ k = 1 ∧ ¬ k = 2 ∧ ¬ k = 3 ∧ (k == 1) = false ∧ (k == 2) = false ∧ (k == 3) = false ∧ thisN k = 0) := by
  by_cases h1 : k = 1
  · exact .inl h1
  by_cases h2 : k = 2
  · exact .inr (.inl h2)
  by_cases h3 : k = 3
  · exact .inr (.inr (.inl h3))
  refine .inr (.inr (.inr ⟨h1, h2, h3, by simpa using h1, by simpa using h2, by simpa using h3, ?_⟩))
  unfold thisN; simp [h1, h2, h3]
def prM (d : List Dop) (k : Nat) : Int := if k = 0 then 7 else nextN (d.getD (k - 1) opZ).k
theorem prM_s (d : List Dop) (k : Nat) : prM d (k + 1) = nextN (d.getD k opZ).k := by simp [prM]
theorem k_pos {k j n : Nat} (h : k = j + 1) (hl : k < 4611686018427387904) (hn : k < n) : (0 < k ∧ decide (0 < k) = true ∧ decide ((0 : Int) < (k : Int)) = true ∧ decide ((k : Int) > 0) = true ∧ (0 : Int) < (k : Int)) ∧ (j : Int) < (n : Int) ∧ (k : Int) < (n : Int) ∧ (0 : Int) ≤ (j : Int) ∧ wrap64 ((k : Int) - 1) = (j : Int) ∧ (k : Int) - 1 = (j : Int) ∧ wrap64 (j : Int) = (j : Int) :=
  ⟨⟨by omega, decide_eq_true (by omega), decide_eq_true (by omega), decide_eq_true (by omega), by omega⟩, by omega, by omega, by omega, by rw [wrapD _ (by omega) (by omega)]; omega, by omega, wrapD _ (by omega) (by omega)⟩
def VaI (d : List Dop) (k f t : Nat) : Prop := f = frD (d.take k) ∧ t = toD (d.take k) ∧ f ≤ 268435456 ∧ t ≤ 268435456 ∧ (d.take k).all plB = true ∧ apL 7 d = apL (prM d k) (d.drop k) ∧ (k = 0 ∨ (d.getD (k - 1) opZ).k = 1 ∨ (d.getD (k - 1) opZ).k = 2 ∨ (d.getD (k - 1) opZ).k = 3)
end Go.Proofs.Ytdemagijhmbdcaa
end

section
namespace Go.Proofs.Ytdemagijhmbdcaa
open Go.ChangeShapes Go.WideShapes Go.ChangeAt Go.RowKit
attribute [local go_sem] Oper.semAt_some

theorem apL_kinds : ∀ (m : Int) (d : List Dop), apL m d = true → ∀ o ∈ d, o.k = 1 ∨ o.k = 2 ∨ o.k = 3
  | _, [], _, o, ho => by cases ho
  | m, x :: r, h, o, ho => by
    simp only [apL, Bool.and_eq_true] at h
    rcases List.mem_cons.1 ho with rfl | ho
    · rcases kind_cases o.k with h1 | h1 | h1 | ⟨_, _, _, _, _, _, h1⟩
      · exact .inl h1
      · exact .inr (.inl h1)
      · exact .inr (.inr h1)
      · rw [h1] at h; simp [apB] at h
    · exact apL_kinds _ r h.2 o ho
theorem valB_k {d : List Dop} (h : valB d = true) : ∀ o ∈ d, o.k = 1 ∨ o.k = 2 ∨ o.k = 3 := by
  unfold valB at h
  simp only [Bool.and_eq_true] at h
  exact apL_kinds 7 d h.2.1
/-- what a valid delta's operations are -/
theorem valB_op {d : List Dop} (h : valB d = true) {o : Dop} (ho : o ∈ d) : ((o.k = 1 ∨ o.k = 3) ∧ 1 ≤ o.n ∧ o.t = []) ∨ (o.k = 2 ∧ o.n = 0 ∧ o.t ≠ []) := by
  have hk := valB_k h o ho
  unfold valB at h
  simp only [Bool.and_eq_true] at h
  have hp := List.all_eq_true.1 h.1 o ho
  unfold plB at hp
  rcases hk with h1 | h1 | h1
  · simp [h1] at hp; exact .inl ⟨.inl h1, hp.2, hp.1⟩
  · simp [h1] at hp; exact .inr ⟨h1, hp.2, hp.1⟩
  · simp [h1] at hp; exact .inl ⟨.inr h1, hp.2, hp.1⟩
structure LeI (d : List Dop) (k f t : Nat) : Prop where
  ef : f = frD (d.take k)
  et : t = toD (d.take k)
  z : f ≤ 268435456 ∧ t ≤ 268435456
set_option maxRecDepth 100000 in
set_option maxHeartbeats 4000000 in
theorem RLens_at (a : Option Addr) (c : Nat) (d : List Dop) (w : World) (h : IsO w a d) (hl : d.length ≤ 4611686018427387904) (hv : valB d = true) :
    Calls Try.prog 7 #[.slice a d.length c] w fun y w' => y = .returned (.tuple #[.int .i64 (frD d : Int), .int .i64 (toD d : Int)]) ∧ Below w.heap.size w w' := by
  have HO := hide fun (X : World) (hx : Below w.heap.size w X) => h.below hx (Nat.le_refl _)
  have HV := hide hv
  obtain ⟨L, E, hL, hE⟩ : ∃ L E, L = frD d ∧ E = toD d := ⟨_, _, rfl, rfl⟩
  rw [← hL, ← hE]
  have HLE := hide (And.intro hL hE)
  clear h hv hL hE
  go_enter Try.func7, Try.ntmps7
  go_wp2_with fail
  go_loopw [4, 5, 6, 17] (fun v4 v5 v6 v17 wx => (∃ z, v17 = z) ∧ (∃ (k f t : Nat), v6 = .int .i64 (k : Int) ∧ v4 = .int .i64 (f : Int) ∧ v5 = .int .i64 (t : Int) ∧ k ≤ d.length ∧ Hid (LeI d k f t)) ∧ Hid (Below w.heap.size w wx)) (fun _ _ v6 _ _ => d.length - (intOf v6).toNat)
  case atStart => exact ⟨⟨_, rfl⟩, ⟨0, 0, 0, rfl, rfl, rfl, Nat.zero_le _, hide ⟨rfl, rfl, by omega⟩⟩, hide (Below.refl _ _)⟩
  case round =>
    obtain ⟨⟨z1, rfl⟩, ⟨k, f, t, rfl, rfl, rfl, hk, HI⟩, HB⟩ := hrel
    by_cases hlt : k < d.length
    · have t1 : decide ((k : Int) < (d.length : Int)) = true := decide_eq_true (by omega)
      obtain ⟨g, off, rfl, hg, c0, c1, c2⟩ := (unhide HO wr (unhide HB)).three hlt
      have hx := valB_op (unhide HV) (getD_memD hlt)
      have hz := (unhide HI).z
      have hz2 := (valB_nn (unhide HV)).2
      have hfr := frD_take d hlt
      have hto := toD_take d hlt
      have hle := frD_le d (k + 1)
      rw [← (unhide HI).ef] at hfr
      rw [← (unhide HI).et] at hto
      have HNX : Hid (∀ F T : Nat, F = frD (d.take (k + 1)) → T = toD (d.take (k + 1)) → F ≤ 268435456 ∧ T ≤ 268435456 → LeI d (k + 1) F T) := hide fun F T h1 h2 h3 => ⟨h1, h2, h3⟩
      clear HI hk
      generalize frD (d.take (k + 1)) = F' at *
      generalize toD (d.take (k + 1)) = T' at *
      generalize d.getD k opZ = x at *
      obtain ⟨xk, xn, xt⟩ := x
      dsimp only at c0 c1 c2 hx
      have hsz := strOfNums_size xt
      have HN2 := hide (unhide HNX F' T' rfl rfl (by omega))
      rcases hx with ⟨rfl | rfl, hn, rfl⟩ | ⟨rfl, rfl, hn⟩
      · obtain ⟨m, rfl⟩ : ∃ m : Nat, xn = (m : Int) := ⟨xn.toNat, by omega⟩
        rw [show frN ⟨1, (m : Int), []⟩ = m by simp [frN]] at hfr
        rw [show toN ⟨1, (m : Int), []⟩ = m by simp [toN]] at hto
        obtain ⟨w1, w2, w3⟩ := ca_k hz.1 (by omega) hfr
        obtain ⟨w4, w5, w6⟩ := ca_k hz.2 (by omega) hto
        clear hfr hto hz hz2 hle hn HNX hsz
        go_wp2_with fail
        go_roundw
        case rel => exact ⟨⟨_, rfl⟩, ⟨k + 1, F', T', by go_num, by first | rfl | rw [w1], by first | rfl | rw [w1] | rw [w4], hlt, HN2⟩, HB⟩
        case measure => simp [intOf]; omega
      · obtain ⟨m, rfl⟩ : ∃ m : Nat, xn = (m : Int) := ⟨xn.toNat, by omega⟩
        rw [show frN ⟨3, (m : Int), []⟩ = m by simp [frN]] at hfr
        rw [show toN ⟨3, (m : Int), []⟩ = 0 by simp [toN]] at hto
        obtain ⟨w1, w2, w3⟩ := ca_k hz.1 (by omega) hfr
        obtain rfl : T' = t := by omega
        clear hfr hto hz hz2 hle hn HNX hsz
        go_wp2_with fail
        go_roundw
        case rel => exact ⟨⟨_, rfl⟩, ⟨k + 1, F', T', by go_num, by first | rfl | rw [w1], by first | rfl | rw [w1] | rw [w4], hlt, HN2⟩, HB⟩
        case measure => simp [intOf]; omega
      · rw [show frN ⟨2, 0, xt⟩ = 0 by simp [frN]] at hfr
        rw [show toN ⟨2, 0, xt⟩ = xt.length by simp [toN]] at hto
        obtain rfl : F' = f := by omega
        obtain ⟨w1, w2, w3⟩ := ca_k hz.2 (by omega) hto
        clear hfr hto hz hz2 hle hn HNX
        go_wp2_with fail
        go_roundw
        case rel => exact ⟨⟨_, rfl⟩, ⟨k + 1, F', T', by go_num, by first | rfl | rw [w1], by first | rfl | rw [w1] | rw [w4], hlt, HN2⟩, HB⟩
        case measure => simp [intOf]; omega
    · obtain rfl : k = d.length := by omega
      have t1 : decide ((d.length : Int) < (d.length : Int)) = false := decide_eq_false (by omega)
      obtain ⟨rfl, rfl⟩ : f = L ∧ t = E := by
        have h1 := (unhide HI).ef
        have h2 := (unhide HI).et
        rw [List.take_length] at h1 h2
        exact ⟨h1.trans (unhide HLE).1.symm, h2.trans (unhide HLE).2.symm⟩
      clear HI hk
      go_wp2_with fail
      refine bodyPost_ret (results_tmp2 rfl _ _ _) rfl ⟨rfl, unhide HB⟩

end Go.Proofs.Ytdemagijhmbdcaa
end
