/- Layer 14, the document's Place (written by wip/tools/sgn.py). -/
import Derived.Test.YtfllomlighlejaaMo40
import Derived.Test.YtfllomlighlejaaMo42

namespace Go.Proofs.Ytfllomlighlejaa
open Go.ChangeShapes Go.WideShapes Go.ChangeAt Go.RowKit
attribute [local go_sem] Oper.semAt_some

theorem val_two {d : List Dop} (hv : valB d = true) {i : Nat} (hi : i + 1 < d.length) : okN (d.getD i opZ).k (d.getD (i + 1) opZ).k := by
  have hc := (val_Can hv).c
  rw [← List.take_append_drop (i + 1) d, drop_getD hi] at hc
  refine chn_mid hc ?_
  rw [List.getLast?_eq_getElem?, List.length_take, show min (i + 1) d.length - 1 = i by omega, List.getElem?_take_of_lt (by omega), List.getElem?_eq_getElem (by omega : i < d.length)]
  simp [List.getD, List.getElem?_eq_getElem (by omega : i < d.length)]
theorem val_prev {d : List Dop} (hv : valB d = true) {i : Nat} (hi : i < d.length) (hk : (d.getD i opZ).k = 1) : i = 0 ∨ (d.getD (i - 1) opZ).k ≠ 1 := by
  cases i with
  | zero => exact .inl rfl
  | succ j =>
    have := (val_two hv hi).1
    rw [hk] at this
    exact .inr (by simpa using this)
theorem val_PlO {d : List Dop} (hv : valB d = true) : ∀ o ∈ d, PlO o := fun _ ho => valB_op hv ho
theorem tx_val {d : List Dop} (hv : valB d = true) : txD d ≤ 268435456 := Nat.le_trans (txD_val (val_PlO hv)) (valB_nn hv).2.2
theorem wr1b {a b c : Nat} (h : c = a + b) (hc : a + b ≤ 268435456) : wrap64 ((a : Int) + (b : Int)) = (c : Int) ∧ wrap64 (c : Int) = (c : Int) := by
  subst h
  exact ⟨by rw [wrapD _ (by omega) (by omega)]; omega, wrapD _ (by omega) (by omega)⟩
theorem wr0 {a : Nat} (hc : a ≤ 268435456) : wrap64 ((a : Int) + 0) = (a : Int) ∧ wrap64 (a : Int) = (a : Int) := ⟨by rw [wrapD _ (by omega) (by omega)]; omega, wrapD _ (by omega) (by omega)⟩
theorem wr2b {t x f r : Nat} (h : r + f = t + x) (h1 : t ≤ 268435456) (h2 : x ≤ 268435456) : wrap64 ((t : Int) + (x : Int)) = (t : Int) + (x : Int) ∧ wrap64 ((t : Int) + (x : Int) - (f : Int)) = (r : Int) := by
  exact ⟨wrapD _ (by omega) (by omega), by rw [wrapD _ (by omega) (by omega)]; omega⟩
theorem dlt {a b : Nat} (h : a < b) : decide ((a : Int) < (b : Int)) = true ∧ decide (a < b) = true ∧ (a : Int) < (b : Int) := ⟨decide_eq_true (by omega), decide_eq_true h, by omega⟩
theorem dnl {a b : Nat} (h : ¬ a < b) : decide ((a : Int) < (b : Int)) = false ∧ decide (a < b) = false ∧ ¬ (a : Int) < (b : Int) := ⟨decide_eq_false (by omega), decide_eq_false h, by omega⟩
theorem dnle {a b : Nat} (h : ¬ a ≤ b) : decide ((a : Int) ≤ (b : Int)) = false ∧ decide (a ≤ b) = false ∧ ¬ (a : Int) ≤ (b : Int) := ⟨decide_eq_false (by omega), decide_eq_false h, by omega⟩
theorem vsub {V : Int} {t x f : Nat} (h : V = (t : Int) + x - f) (hf : f ≤ x) : ∃ r : Nat, r + f = t + x ∧ V = (r : Int) := ⟨t + x - f, by omega, by omega⟩
structure PlI (d : List Dop) (x i f t : Nat) : Prop where
  ef : f = frD (d.take i)
  et : t = toD (d.take i)
  le : f ≤ x
  b : i = 0 ∨ (d.getD (i - 1) opZ).k = 1 ∨ ((i = d.length ∨ (d.getD i opZ).k = 1) ∧ f < x)
structure PlJ (d : List Dop) (i j f t P G : Nat) : Prop where
  ij : i ≤ j
  n : ∀ m, i ≤ m → m < j → (d.getD m opZ).k ≠ 1
  ef : f + G = frD (d.take j)
  et : t + P = toD (d.take j)
theorem pj_next {d : List Dop} {i j f t P G P' G' : Nat} (hj : PlJ d i j f t P G) (hlt : j < d.length) (hk : (d.getD j opZ).k ≠ 1) (e1 : G' = G + frN (d.getD j opZ)) (e2 : P' = P + toN (d.getD j opZ)) : PlJ d i (j + 1) f t P' G' := by
  have hfr := frD_take d hlt
  have hto := toD_take d hlt
  refine ⟨by have := hj.ij; omega, fun m h1 h2 => ?_, by have := hj.ef; omega, by have := hj.et; omega⟩
  rcases Nat.lt_or_ge m j with h | h
  · exact hj.n m h1 h
  · obtain rfl : m = j := by omega
    exact hk
theorem pj_bound {d : List Dop} {i j f t P G x a b : Nat} (hJ : PlJ d i j f t P G) (hfr : frD (d.take (j + 1)) = frD (d.take j) + a) (hto : toD (d.take (j + 1)) = toD (d.take j) + b) (hb : frD (d.take (j + 1)) ≤ frD d ∧ toD (d.take (j + 1)) ≤ toD d) (hz : x ≤ frD d ∧ frD d ≤ 268435456 ∧ toD d ≤ 268435456) : G + a ≤ 268435456 ∧ P + b ≤ 268435456 := by
  have h1 := hJ.ef
  have h2 := hJ.et
  omega
theorem le3 {a b : Nat} (h : a ≤ b) : decide ((b : Int) ≥ (a : Int)) = true ∧ decide ((a : Int) ≤ (b : Int)) = true ∧ decide (a ≤ b) = true ∧ (a : Int) ≤ (b : Int) := ⟨decide_eq_true (by omega), decide_eq_true (by omega), decide_eq_true h, by omega⟩
theorem wr1 {a b c : Nat} (h : c = a + b) (hc : c ≤ 1152921504606846976) : wrap64 ((a : Int) + (b : Int)) = (c : Int) ∧ wrap64 (c : Int) = (c : Int) := by
  subst h
  exact ⟨by rw [wrapD _ (by omega) (by omega)]; omega, wrapD _ (by omega) (by omega)⟩
theorem wr2 {t x f r : Nat} (h : r + f = t + x) (hc : t + x ≤ 1152921504606846976) : wrap64 ((t : Int) + (x : Int)) = (t : Int) + (x : Int) ∧ wrap64 ((t : Int) + (x : Int) - (f : Int)) = (r : Int) := by
  exact ⟨wrapD _ (by omega) (by omega), by rw [wrapD _ (by omega) (by omega)]; omega⟩
set_option maxRecDepth 100000 in
set_option maxHeartbeats 8000000 in
theorem RPl1_at (a : Option Addr) (c : Nat) (d : List Dop) (x : Nat) (w : World) (h : IsO w a d) (hl : d.length ≤ 4611686018427387904) (hv : valB d = true) (hx : x ≤ frD d) :
    Calls Try.prog 32 #[.slice a d.length c, .int .i64 (x : Int), .int .i64 1] w fun y w' => y = .returned (.tuple #[.int .i64 (mvC (x : Int) 1 0 (runL d).2), .int .i64 0]) ∧ Below w.heap.size w w' := by
  have HO := hide fun (X : World) (hx : Below w.heap.size w X) => h.below hx (Nat.le_refl _)
  have htx := tx_val hv
  have HRV := hide (RValid14_at a c d w h hl (by omega))
  rw [hv] at HRV
  have hnn := (valB_nn hv).2
  have HLN := hide fun (X : World) (hX : Below w.heap.size w X) => lens14_at a c d X (h.below hX (Nat.le_refl _)) hl (val_PlO hv) (by omega) (by omega)
  obtain ⟨V, hV⟩ : ∃ V, V = mvC (x : Int) 1 0 (runL d).2 := ⟨_, rfl⟩
  rw [← hV]
  have HK : Hid (∀ i, i < d.length → (d.getD i opZ).k = 1 → frD (d.take i) ≤ x → (x : Int) < frD (d.take i) + (d.getD i opZ).n → (i = 0 ∨ frD (d.take i) < x ∨ (d.getD (i - 1) opZ).k = 1) → V = (toD (d.take i) : Int) + x - frD (d.take i)) := hide fun i hi hk h1 h2 h3 => hV.trans (pl_keep hv hi hk h1 h2 h3 hx (val_prev hv hi hk)).1
  have HG : Hid (∀ i j f t P G, PlI d x i f t → PlJ d i j f t P G → j ≤ d.length → (i < d.length ∧ (d.getD i opZ).k ≠ 1) → (j = d.length ∨ (d.getD j opZ).k = 1) → x ≤ f + G → V = (t : Int)) := hide fun i j f t P G hI hJ hj hn he h2 => by
    have hb : i = 0 ∨ (d.getD (i - 1) opZ).k = 1 := by
      rcases hI.b with hb | hb | ⟨hb, _⟩
      · exact .inl hb
      · exact .inr hb
      · rcases hb with hb | hb
        · omega
        · exact absurd hb hn.2
    have := (pl_grp hv hJ.ij hj hJ.n hb he (by rw [← hI.ef]; exact hI.le) (by rw [← hJ.ef]; exact h2) hx).1
    rw [hV, this]
    exact congrArg _ hI.et.symm
  have HE : Hid (∀ f t, PlI d x d.length f t → V = (t : Int) + x - f) := hide fun f t hI => by
    have ef := hI.ef
    have et := hI.et
    rw [List.take_length] at ef et
    have hb : d.length = 0 ∨ (d.getD (d.length - 1) opZ).k = 1 := by
      rcases hI.b with hb | hb | ⟨_, hb⟩
      · exact .inl hb
      · exact .inr hb
      · omega
    have hxf : x = frD d := by have := hI.le; omega
    rw [hV, hxf, (pl_last hv hb).1]
    omega
  have HPO := hide (fun i (hi : i < d.length) => val_PlO hv _ (getD_memD hi))
  have HBD := hide (fun i => And.intro (frD_le' d i) (toD_le d i))
  have HZ := hide (And.intro hx hnn)
  have t2 : decide ((x : Int) > (frD d : Int)) = false := decide_eq_false (by omega)
  have t2' : decide ((frD d : Int) < (x : Int)) = false := decide_eq_false (by omega)
  have t2'' : decide (frD d < x) = false := decide_eq_false (by omega)
  have t0 : decide ((x : Int) < 0) = false := decide_eq_false (by omega)
  clear h hv hV hx hnn htx
  generalize hfr : frD d = fr at HLN t2 t2' t2''
  generalize hto : toD d = td at HLN
  clear hfr hto
  go_enter Try.func32, Try.ntmps32
  go_wp2_with fail
  refine (unhide HRV).mono ?_
  rintro y w1 ⟨rfl, x1⟩
  dsimp only
  have HX1 := hide x1
  have HLN1 := hide (unhide HLN w1 x1)
  clear HRV HLN x1
  go_wp2_with fail
  refine (unhide HLN1).mono ?_
  rintro y w2 ⟨rfl, x2⟩
  dsimp only
  have HX2 := hide ((unhide HX1).trans (x2.mono (unhide HX1).size))
  clear HLN1 HX1 x2
  go_wp2_with fail
  clear t0 t2 t2' t2''
  go_loopw [10, 11, 12, 13, 14] (fun v10 v11 v12 v13 v14 wx => (∃ z, v13 = z) ∧ (∃ z, v14 = z) ∧ (∃ (i f t : Nat), v12 = .int .i64 (i : Int) ∧ v10 = .int .i64 (f : Int) ∧ v11 = .int .i64 (t : Int) ∧ i ≤ d.length ∧ Hid (PlI d x i f t)) ∧ Hid (Below w.heap.size w wx)) (fun _ _ v12 _ _ _ => d.length - (intOf v12).toNat)
  case atStart => exact ⟨⟨_, rfl⟩, ⟨_, rfl⟩, ⟨0, 0, 0, rfl, rfl, rfl, Nat.zero_le _, hide ⟨rfl, rfl, Nat.zero_le _, .inl rfl⟩⟩, HX2⟩
  case round =>
    obtain ⟨⟨z1, rfl⟩, ⟨z2, rfl⟩, ⟨i, f, t, rfl, rfl, rfl, hi, HI⟩, HB⟩ := hrel
    by_cases hlt : i < d.length
    · obtain ⟨t1, _, t1'⟩ := dlt hlt
      obtain ⟨ga, off, rfl, hga, c0, c1, c2⟩ := (unhide HO wr (unhide HB)).three hlt
      by_cases hk : (d.getD i opZ).k = 1
      · have HK1 := hide (unhide HK i hlt hk)
        have hpo := unhide HPO i hlt
        have hfr := frD_take d hlt
        have hto := toD_take d hlt
        have hb2 := unhide HBD (i + 1)
        have hz := unhide HZ
        rw [← (unhide HI).ef] at hfr
        rw [← (unhide HI).et] at hto
        have hle := (unhide HI).le
        have HN : Hid (frD (d.take (i + 1)) ≤ x → PlI d x (i + 1) (frD (d.take (i + 1))) (toD (d.take (i + 1)))) := hide fun h => ⟨rfl, rfl, h, .inr (.inl (by simpa using hk))⟩
        have HIB : Hid (i = 0 ∨ f < x ∨ (d.getD (i - 1) opZ).k = 1) := hide (by
          rcases (unhide HI).b with hb | hb | ⟨_, hb⟩
          · exact .inl hb
          · exact .inr (.inr hb)
          · exact .inr (.inl hb))
        rw [← (unhide HI).ef, ← (unhide HI).et] at HK1
        clear HI hi HK HG HE HPO HBD HZ
        generalize frD (d.take (i + 1)) = F' at *
        generalize toD (d.take (i + 1)) = T' at *
        generalize frD d = fr9 at *
        generalize toD d = td9 at *
        generalize d.getD i opZ = q at *
        obtain ⟨qk, qn, qt⟩ := q
        dsimp only at c0 c1 c2 hk hpo HK1
        subst hk
        have hq : 1 ≤ qn := by
          rcases hpo with ⟨_, h, _⟩ | ⟨h, _⟩
          · exact h
          · cases h
        obtain ⟨m, rfl⟩ : ∃ m : Nat, qn = (m : Int) := ⟨qn.toNat, by omega⟩
        rw [show frN ⟨1, (m : Int), qt⟩ = m by simp [frN]] at hfr
        rw [show toN ⟨1, (m : Int), qt⟩ = m by simp [toN]] at hto
        clear hpo
        obtain ⟨l1, l2, l3, l4⟩ := le3 hle
        have W1 := hide (wr1b hfr (by rw [← hfr]; exact Nat.le_trans hb2.1 hz.2.1))
        have W2 := hide (wr1b hto (by rw [← hto]; exact Nat.le_trans hb2.2 hz.2.2))
        have hxb := Nat.le_trans hz.1 hz.2.1
        have htb : t ≤ 268435456 := Nat.le_trans (Nat.le_trans (Nat.le_add_right t m) (Nat.le_of_eq hto.symm)) (Nat.le_trans hb2.2 hz.2.2)
        clear hb2 hz
        by_cases hin : x < F'
        · have HVV := unhide HK1 hle (by rw [hfr] at hin; exact_mod_cast hin) (unhide HIB)
          obtain ⟨r, hr, hVr⟩ := vsub HVV hle
          have W3 := hide (wr2b hr htb hxb)
          have HV2 := hide hVr
          obtain ⟨s1, s2, s3⟩ := dlt hin
          clear HVV hVr hr hin HK1 HN HIB hfr hto hle hq W2 hxb htb
          obtain ⟨w1, w2⟩ := unhide W1
          obtain ⟨w3, w4⟩ := unhide W3
          go_wp2_with fail
          rw [unhide HV2]
          try rw [w4]
          refine bodyPost_ret (results_tmp2 rfl _ _ _) rfl ⟨rfl, unhide HB⟩
        · have HN2 := hide (unhide HN (Nat.not_lt.1 hin))
          obtain ⟨s1, s2, s3⟩ := dnl hin
          clear hin HK1 HN HIB hfr hto hle hq hxb htb
          obtain ⟨w1, w2⟩ := unhide W1
          obtain ⟨w3, w4⟩ := unhide W2
          clear W1 W2
          go_wp2_with fail
          --@cutA
          go_roundw
          case rel => exact ⟨⟨_, rfl⟩, ⟨_, rfl⟩, ⟨i + 1, F', T', by go_num, by first | rfl | go_num, by first | rfl | go_num, hlt, HN2⟩, HB⟩
          case measure => simp [intOf]; omega
      · have hk1 : ((d.getD i opZ).k == 1) = false := by simpa using hk
        have HGN := hide (And.intro hlt hk)
        generalize hq : (d.getD i opZ).k = qk at c0 hk1
        clear c1 c2 hq
        go_wp2_with fail
        --@cutB
        go_loopw [12, 13, 14] (fun v12 v13 v14 wy => (∃ (j P G : Nat), v12 = .int .i64 (j : Int) ∧ v13 = .int .i64 (P : Int) ∧ v14 = .int .i64 (G : Int) ∧ j ≤ d.length ∧ Hid (PlJ d i j f t P G ∧ (j = i ∨ i < j))) ∧ Hid (Below w.heap.size w wy)) (fun v12 _ _ _ => d.length - (intOf v12).toNat)
        case atStart => exact ⟨⟨i, 0, 0, rfl, rfl, rfl, hi, hide ⟨⟨Nat.le_refl _, fun m h1 h2 => absurd h2 (by omega), (unhide HI).ef, (unhide HI).et⟩, .inl rfl⟩⟩, HB⟩
        case round =>
          clear HB hk1
          obtain ⟨⟨j, P, G, rfl, rfl, rfl, hj, HJ⟩, HB⟩ := hrel
          by_cases hjl : j < d.length
          · obtain ⟨s1, _, s1'⟩ := dlt hjl
            obtain ⟨ga', off', ha', _, c0, c1, c2⟩ := (unhide HO wr (unhide HB)).three hjl
            cases ha'
            by_cases hkj : (d.getD j opZ).k = 1
            · have s2 : ((d.getD j opZ).k != 1) = false := by simpa using hkj
              rw [hkj] at c0
              clear c1 c2 s2
              have HGG := unhide HG i j f t P G (unhide HI) (unhide HJ).1 (by omega) (unhide HGN) (.inr hkj)
              have hjf := (unhide HJ).1.ef
              have hjt := (unhide HJ).1.et
              have hij : i < j := by
                rcases (unhide HJ).2 with h | h
                · subst h; exact absurd hkj (unhide HGN).2
                · exact h
              have hb2 := unhide HBD j
              have hz := unhide HZ
              have hle := (unhide HI).le
              have HNX : Hid (f + G < x → PlI d x j (f + G) (t + P)) := hide fun h => ⟨hjf, hjt, by omega, .inr (.inr ⟨.inr hkj, h⟩)⟩
              obtain ⟨F', hF'⟩ : ∃ F', F' = f + G := ⟨_, rfl⟩
              obtain ⟨T', hT'⟩ : ∃ T', T' = t + P := ⟨_, rfl⟩
              rw [← hF'] at HNX HGG
              rw [← hT'] at HNX
              obtain ⟨l1, l2, l3, l4⟩ := le3 hle
              have W1 := hide (wr1b hF' (by rw [hjf]; exact Nat.le_trans hb2.1 hz.2.1))
              have W2 := hide (wr1b hT' (by rw [hjt]; exact Nat.le_trans hb2.2 hz.2.2))
              clear hjf hjt hb2 hz hle HI HJ HK HG HE HPO HBD HZ HGN
              by_cases hin : x ≤ F'
              · have HV2 : Hid (V = (t : Int)) := hide (HGG hin)
                obtain ⟨m1, m2, m3, m4⟩ := le3 hin
                clear HGG hin HNX hF' hT' hij 
                obtain ⟨w1, w2⟩ := unhide W1
                obtain ⟨w3, w4⟩ := unhide W2
                go_wp2_with fail
                --@cutG1
                rw [unhide HV2]
                try rw [w3]
                refine bodyPost_ret (results_tmp2 rfl _ _ _) rfl ⟨rfl, unhide HB⟩
              · have HN2 := hide (unhide HNX (Nat.not_le.1 hin))
                obtain ⟨m1, m2, m3⟩ := dnle hin
                have HIJ := hide hij
                clear HGG hin HNX hF' hT' hij 
                obtain ⟨w1, w2⟩ := unhide W1
                obtain ⟨w3, w4⟩ := unhide W2
                clear W1 W2
                go_wp2_with fail
                --@cutG2
                go_roundw
                case rel => exact ⟨⟨_, rfl⟩, ⟨_, rfl⟩, ⟨j, F', T', rfl, by first | rfl | go_num, by first | rfl | go_num, Nat.le_of_lt hjl, HN2⟩, HB⟩
                case measure => have := unhide HIJ; simp [intOf]; omega
            · have hkb : ((d.getD j opZ).k != 1) = true := by simpa using hkj
              have hpo := unhide HPO j hjl
              have hfr := frD_take d hjl
              have hto := toD_take d hjl
              have hb2 := unhide HBD (j + 1)
              have hz := unhide HZ
              have hJ := (unhide HJ).1
              have HN : Hid (∀ P' G', G' = G + frN (d.getD j opZ) → P' = P + toN (d.getD j opZ) → PlJ d i (j + 1) f t P' G' ∧ (j + 1 = i ∨ i < j + 1)) := hide fun P' G' h1 h2 => ⟨pj_next hJ hjl hkj h1 h2, .inr (by have := hJ.ij; omega)⟩
              have hbb := pj_bound hJ hfr hto hb2 hz
              clear HJ hJ hfr hto hb2 hz hj HPO HBD HK HG HE HI HGN HZ
              generalize d.getD j opZ = q at *
              obtain ⟨qk, qn, qt⟩ := q
              dsimp only at c0 c1 c2 hkj hkb hpo
              have hsz := strOfNums_size qt
              rcases hpo with ⟨h1 | h1, h2, h3⟩ | ⟨h1, h2, h3⟩
              · exact absurd h1 hkj
              · dsimp only at h1 h2 h3
                subst h1 h3
                obtain ⟨m, rfl⟩ : ∃ m : Nat, qn = (m : Int) := ⟨qn.toNat, by omega⟩
                rw [show frN ⟨3, (m : Int), []⟩ = m by simp [frN]] at HN hbb
                rw [show toN ⟨3, (m : Int), []⟩ = 0 by simp [toN]] at HN hbb
                obtain ⟨G', hG'⟩ : ∃ G', G' = G + m := ⟨_, rfl⟩
                have HN2 := hide (unhide HN P G' hG' rfl)
                obtain ⟨w1, w2⟩ := wr1b hG' hbb.1
                obtain ⟨w3, w4⟩ := wr0 hbb.2
                have hsz0 : (strOfNums []).size = 0 := by simpa using hsz
                clear hkj hkb h2 hsz hbb HN hG'
                go_wp2_with fail
                --@cutD
                go_roundw
                case rel => exact ⟨⟨j + 1, P, G', by go_num, by first | rfl | go_num, by first | rfl | go_num, hjl, HN2⟩, HB⟩
                case measure => simp [intOf]; omega
              · dsimp only at h1 h2 h3
                subst h1 h2
                rw [show frN ⟨2, 0, qt⟩ = 0 by simp [frN]] at HN hbb
                rw [show toN ⟨2, 0, qt⟩ = qt.length by simp [toN]] at HN hbb
                obtain ⟨P', hP'⟩ : ∃ P', P' = P + qt.length := ⟨_, rfl⟩
                have HN2 := hide (unhide HN P' G rfl hP')
                obtain ⟨w1, w2⟩ := wr1b hP' hbb.2
                clear hkj hkb h3 hbb HN hP'
                generalize strOfNums qt = sq at *
                generalize qt.length = ql at *
                go_wp2_with fail
                --@cutE
                go_roundw
                case rel => exact ⟨⟨j + 1, P', G, by go_num, by first | rfl | go_num, by first | rfl | go_num, hjl, HN2⟩, HB⟩
                case measure => simp [intOf]; omega
          · obtain ⟨s1, _, s1'⟩ := dnl hjl
            have HGG := unhide HG i j f t P G (unhide HI) (unhide HJ).1 (by omega) (unhide HGN) (.inl (by omega))
            have hjf := (unhide HJ).1.ef
            have hjt := (unhide HJ).1.et
            have hij : i < j := by
              rcases (unhide HJ).2 with h | h
              · subst h; exact absurd (unhide HGN).1 (by omega)
              · exact h
            have hb2 := unhide HBD j
            have hz := unhide HZ
            have hle := (unhide HI).le
            have HNX : Hid (f + G < x → PlI d x j (f + G) (t + P)) := hide fun h => ⟨hjf, hjt, by omega, .inr (.inr ⟨.inl (by omega), h⟩)⟩
            obtain ⟨F', hF'⟩ : ∃ F', F' = f + G := ⟨_, rfl⟩
            obtain ⟨T', hT'⟩ : ∃ T', T' = t + P := ⟨_, rfl⟩
            rw [← hF'] at HNX HGG
            rw [← hT'] at HNX
            obtain ⟨l1, l2, l3, l4⟩ := le3 hle
            have W1 := hide (wr1b hF' (by rw [hjf]; exact Nat.le_trans hb2.1 hz.2.1))
            have W2 := hide (wr1b hT' (by rw [hjt]; exact Nat.le_trans hb2.2 hz.2.2))
            clear hjf hjt hb2 hz hle HI HJ HK HG HE HPO HBD HZ HGN
            by_cases hin : x ≤ F'
            · have HV2 : Hid (V = (t : Int)) := hide (HGG hin)
              obtain ⟨m1, m2, m3, m4⟩ := le3 hin
              clear HGG hin HNX hF' hT' hij 
              obtain ⟨w1, w2⟩ := unhide W1
              obtain ⟨w3, w4⟩ := unhide W2
              go_wp2_with fail
              --@cutH1
              rw [unhide HV2]
              try rw [w3]
              refine bodyPost_ret (results_tmp2 rfl _ _ _) rfl ⟨rfl, unhide HB⟩
            · have HN2 := hide (unhide HNX (Nat.not_le.1 hin))
              obtain ⟨m1, m2, m3⟩ := dnle hin
              have HIJ := hide hij
              clear HGG hin HNX hF' hT' hij 
              obtain ⟨w1, w2⟩ := unhide W1
              obtain ⟨w3, w4⟩ := unhide W2
              clear W1 W2
              go_wp2_with fail
              --@cutH2
              go_roundw
              case rel => exact ⟨⟨_, rfl⟩, ⟨_, rfl⟩, ⟨j, F', T', rfl, by first | rfl | go_num, by first | rfl | go_num, by omega, HN2⟩, HB⟩
              case measure => have := unhide HIJ; simp [intOf]; omega
    · obtain rfl : i = d.length := by omega
      have t1 : decide ((d.length : Int) < (d.length : Int)) = false := decide_eq_false (by omega)
      have HVV := unhide HE f t (unhide HI)
      have hle := (unhide HI).le
      have het := (unhide HI).et
      rw [List.take_length] at het
      have hz := unhide HZ
      obtain ⟨r, hr, hVr⟩ := vsub HVV hle
      have W3 := hide (wr2b hr (by rw [het]; exact hz.2.2) (Nat.le_trans hz.1 hz.2.1))
      have HV2 := hide hVr
      clear HVV hVr hle het hz hr HI hi hlt HK HG HE HPO HBD HZ
      obtain ⟨w3, w4⟩ := unhide W3
      go_wp2_with fail
      --@cutF
      rw [unhide HV2]
      try rw [w4]
      refine bodyPost_ret (results_tmp2 rfl _ _ _) rfl ⟨rfl, unhide HB⟩
set_option maxRecDepth 100000 in
set_option maxHeartbeats 8000000 in
theorem RPl2_at (a : Option Addr) (c : Nat) (d : List Dop) (x : Nat) (w : World) (h : IsO w a d) (hl : d.length ≤ 4611686018427387904) (hv : valB d = true) (hx : x ≤ frD d) :
    Calls Try.prog 32 #[.slice a d.length c, .int .i64 (x : Int), .int .i64 2] w fun y w' => y = .returned (.tuple #[.int .i64 (mvC (x : Int) 2 0 (runL d).2), .int .i64 0]) ∧ Below w.heap.size w w' := by
  have HO := hide fun (X : World) (hx : Below w.heap.size w X) => h.below hx (Nat.le_refl _)
  have htx := tx_val hv
  have HRV := hide (RValid14_at a c d w h hl (by omega))
  rw [hv] at HRV
  have hnn := (valB_nn hv).2
  have HLN := hide fun (X : World) (hX : Below w.heap.size w X) => lens14_at a c d X (h.below hX (Nat.le_refl _)) hl (val_PlO hv) (by omega) (by omega)
  obtain ⟨V, hV⟩ : ∃ V, V = mvC (x : Int) 2 0 (runL d).2 := ⟨_, rfl⟩
  rw [← hV]
  have HK : Hid (∀ i, i < d.length → (d.getD i opZ).k = 1 → frD (d.take i) ≤ x → (x : Int) < frD (d.take i) + (d.getD i opZ).n → (i = 0 ∨ frD (d.take i) < x ∨ (d.getD (i - 1) opZ).k = 1) → V = (toD (d.take i) : Int) + x - frD (d.take i)) := hide fun i hi hk h1 h2 h3 => hV.trans (pl_keep hv hi hk h1 h2 h3 hx (val_prev hv hi hk)).2
  have HG : Hid (∀ i j f t P G, PlI d x i f t → PlJ d i j f t P G → j ≤ d.length → (i < d.length ∧ (d.getD i opZ).k ≠ 1) → (j = d.length ∨ (d.getD j opZ).k = 1) → x ≤ f + G → V = (t : Int) + (P : Int)) := hide fun i j f t P G hI hJ hj hn he h2 => by
    have hb : i = 0 ∨ (d.getD (i - 1) opZ).k = 1 := by
      rcases hI.b with hb | hb | ⟨hb, _⟩
      · exact .inl hb
      · exact .inr hb
      · rcases hb with hb | hb
        · omega
        · exact absurd hb hn.2
    have := (pl_grp hv hJ.ij hj hJ.n hb he (by rw [← hI.ef]; exact hI.le) (by rw [← hJ.ef]; exact h2) hx).2
    rw [hV, this]
    have := hJ.et; omega
  have HE : Hid (∀ f t, PlI d x d.length f t → V = (t : Int) + x - f) := hide fun f t hI => by
    have ef := hI.ef
    have et := hI.et
    rw [List.take_length] at ef et
    have hb : d.length = 0 ∨ (d.getD (d.length - 1) opZ).k = 1 := by
      rcases hI.b with hb | hb | ⟨_, hb⟩
      · exact .inl hb
      · exact .inr hb
      · omega
    have hxf : x = frD d := by have := hI.le; omega
    rw [hV, hxf, (pl_last hv hb).2]
    omega
  have HPO := hide (fun i (hi : i < d.length) => val_PlO hv _ (getD_memD hi))
  have HBD := hide (fun i => And.intro (frD_le' d i) (toD_le d i))
  have HZ := hide (And.intro hx hnn)
  have t2 : decide ((x : Int) > (frD d : Int)) = false := decide_eq_false (by omega)
  have t2' : decide ((frD d : Int) < (x : Int)) = false := decide_eq_false (by omega)
  have t2'' : decide (frD d < x) = false := decide_eq_false (by omega)
  have t0 : decide ((x : Int) < 0) = false := decide_eq_false (by omega)
  clear h hv hV hx hnn htx
  generalize hfr : frD d = fr at HLN t2 t2' t2''
  generalize hto : toD d = td at HLN
  clear hfr hto
  go_enter Try.func32, Try.ntmps32
  go_wp2_with fail
  refine (unhide HRV).mono ?_
  rintro y w1 ⟨rfl, x1⟩
  dsimp only
  have HX1 := hide x1
  have HLN1 := hide (unhide HLN w1 x1)
  clear HRV HLN x1
  go_wp2_with fail
  refine (unhide HLN1).mono ?_
  rintro y w2 ⟨rfl, x2⟩
  dsimp only
  have HX2 := hide ((unhide HX1).trans (x2.mono (unhide HX1).size))
  clear HLN1 HX1 x2
  go_wp2_with fail
  clear t0 t2 t2' t2''
  go_loopw [10, 11, 12, 13, 14] (fun v10 v11 v12 v13 v14 wx => (∃ z, v13 = z) ∧ (∃ z, v14 = z) ∧ (∃ (i f t : Nat), v12 = .int .i64 (i : Int) ∧ v10 = .int .i64 (f : Int) ∧ v11 = .int .i64 (t : Int) ∧ i ≤ d.length ∧ Hid (PlI d x i f t)) ∧ Hid (Below w.heap.size w wx)) (fun _ _ v12 _ _ _ => d.length - (intOf v12).toNat)
  case atStart => exact ⟨⟨_, rfl⟩, ⟨_, rfl⟩, ⟨0, 0, 0, rfl, rfl, rfl, Nat.zero_le _, hide ⟨rfl, rfl, Nat.zero_le _, .inl rfl⟩⟩, HX2⟩
  case round =>
    obtain ⟨⟨z1, rfl⟩, ⟨z2, rfl⟩, ⟨i, f, t, rfl, rfl, rfl, hi, HI⟩, HB⟩ := hrel
    by_cases hlt : i < d.length
    · obtain ⟨t1, _, t1'⟩ := dlt hlt
      obtain ⟨ga, off, rfl, hga, c0, c1, c2⟩ := (unhide HO wr (unhide HB)).three hlt
      by_cases hk : (d.getD i opZ).k = 1
      · have HK1 := hide (unhide HK i hlt hk)
        have hpo := unhide HPO i hlt
        have hfr := frD_take d hlt
        have hto := toD_take d hlt
        have hb2 := unhide HBD (i + 1)
        have hz := unhide HZ
        rw [← (unhide HI).ef] at hfr
        rw [← (unhide HI).et] at hto
        have hle := (unhide HI).le
        have HN : Hid (frD (d.take (i + 1)) ≤ x → PlI d x (i + 1) (frD (d.take (i + 1))) (toD (d.take (i + 1)))) := hide fun h => ⟨rfl, rfl, h, .inr (.inl (by simpa using hk))⟩
        have HIB : Hid (i = 0 ∨ f < x ∨ (d.getD (i - 1) opZ).k = 1) := hide (by
          rcases (unhide HI).b with hb | hb | ⟨_, hb⟩
          · exact .inl hb
          · exact .inr (.inr hb)
          · exact .inr (.inl hb))
        rw [← (unhide HI).ef, ← (unhide HI).et] at HK1
        clear HI hi HK HG HE HPO HBD HZ
        generalize frD (d.take (i + 1)) = F' at *
        generalize toD (d.take (i + 1)) = T' at *
        generalize frD d = fr9 at *
        generalize toD d = td9 at *
        generalize d.getD i opZ = q at *
        obtain ⟨qk, qn, qt⟩ := q
        dsimp only at c0 c1 c2 hk hpo HK1
        subst hk
        have hq : 1 ≤ qn := by
          rcases hpo with ⟨_, h, _⟩ | ⟨h, _⟩
          · exact h
          · cases h
        obtain ⟨m, rfl⟩ : ∃ m : Nat, qn = (m : Int) := ⟨qn.toNat, by omega⟩
        rw [show frN ⟨1, (m : Int), qt⟩ = m by simp [frN]] at hfr
        rw [show toN ⟨1, (m : Int), qt⟩ = m by simp [toN]] at hto
        clear hpo
        obtain ⟨l1, l2, l3, l4⟩ := le3 hle
        have W1 := hide (wr1b hfr (by rw [← hfr]; exact Nat.le_trans hb2.1 hz.2.1))
        have W2 := hide (wr1b hto (by rw [← hto]; exact Nat.le_trans hb2.2 hz.2.2))
        have hxb := Nat.le_trans hz.1 hz.2.1
        have htb : t ≤ 268435456 := Nat.le_trans (Nat.le_trans (Nat.le_add_right t m) (Nat.le_of_eq hto.symm)) (Nat.le_trans hb2.2 hz.2.2)
        clear hb2 hz
        by_cases hin : x < F'
        · have HVV := unhide HK1 hle (by rw [hfr] at hin; exact_mod_cast hin) (unhide HIB)
          obtain ⟨r, hr, hVr⟩ := vsub HVV hle
          have W3 := hide (wr2b hr htb hxb)
          have HV2 := hide hVr
          obtain ⟨s1, s2, s3⟩ := dlt hin
          clear HVV hVr hr hin HK1 HN HIB hfr hto hle hq W2 hxb htb
          obtain ⟨w1, w2⟩ := unhide W1
          obtain ⟨w3, w4⟩ := unhide W3
          go_wp2_with fail
          rw [unhide HV2]
          try rw [w4]
          refine bodyPost_ret (results_tmp2 rfl _ _ _) rfl ⟨rfl, unhide HB⟩
        · have HN2 := hide (unhide HN (Nat.not_lt.1 hin))
          obtain ⟨s1, s2, s3⟩ := dnl hin
          clear hin HK1 HN HIB hfr hto hle hq hxb htb
          obtain ⟨w1, w2⟩ := unhide W1
          obtain ⟨w3, w4⟩ := unhide W2
          clear W1 W2
          go_wp2_with fail
          --@cutA
          go_roundw
          case rel => exact ⟨⟨_, rfl⟩, ⟨_, rfl⟩, ⟨i + 1, F', T', by go_num, by first | rfl | go_num, by first | rfl | go_num, hlt, HN2⟩, HB⟩
          case measure => simp [intOf]; omega
      · have hk1 : ((d.getD i opZ).k == 1) = false := by simpa using hk
        have HGN := hide (And.intro hlt hk)
        generalize hq : (d.getD i opZ).k = qk at c0 hk1
        clear c1 c2 hq
        go_wp2_with fail
        --@cutB
        go_loopw [12, 13, 14] (fun v12 v13 v14 wy => (∃ (j P G : Nat), v12 = .int .i64 (j : Int) ∧ v13 = .int .i64 (P : Int) ∧ v14 = .int .i64 (G : Int) ∧ j ≤ d.length ∧ Hid (PlJ d i j f t P G ∧ (j = i ∨ i < j))) ∧ Hid (Below w.heap.size w wy)) (fun v12 _ _ _ => d.length - (intOf v12).toNat)
        case atStart => exact ⟨⟨i, 0, 0, rfl, rfl, rfl, hi, hide ⟨⟨Nat.le_refl _, fun m h1 h2 => absurd h2 (by omega), (unhide HI).ef, (unhide HI).et⟩, .inl rfl⟩⟩, HB⟩
        case round =>
          clear HB hk1
          obtain ⟨⟨j, P, G, rfl, rfl, rfl, hj, HJ⟩, HB⟩ := hrel
          by_cases hjl : j < d.length
          · obtain ⟨s1, _, s1'⟩ := dlt hjl
            obtain ⟨ga', off', ha', _, c0, c1, c2⟩ := (unhide HO wr (unhide HB)).three hjl
            cases ha'
            by_cases hkj : (d.getD j opZ).k = 1
            · have s2 : ((d.getD j opZ).k != 1) = false := by simpa using hkj
              rw [hkj] at c0
              clear c1 c2 s2
              have HGG := unhide HG i j f t P G (unhide HI) (unhide HJ).1 (by omega) (unhide HGN) (.inr hkj)
              have hjf := (unhide HJ).1.ef
              have hjt := (unhide HJ).1.et
              have hij : i < j := by
                rcases (unhide HJ).2 with h | h
                · subst h; exact absurd hkj (unhide HGN).2
                · exact h
              have hb2 := unhide HBD j
              have hz := unhide HZ
              have hle := (unhide HI).le
              have HNX : Hid (f + G < x → PlI d x j (f + G) (t + P)) := hide fun h => ⟨hjf, hjt, by omega, .inr (.inr ⟨.inr hkj, h⟩)⟩
              obtain ⟨F', hF'⟩ : ∃ F', F' = f + G := ⟨_, rfl⟩
              obtain ⟨T', hT'⟩ : ∃ T', T' = t + P := ⟨_, rfl⟩
              rw [← hF'] at HNX HGG
              rw [← hT'] at HNX
              obtain ⟨l1, l2, l3, l4⟩ := le3 hle
              have W1 := hide (wr1b hF' (by rw [hjf]; exact Nat.le_trans hb2.1 hz.2.1))
              have W2 := hide (wr1b hT' (by rw [hjt]; exact Nat.le_trans hb2.2 hz.2.2))
              clear hjf hjt hb2 hz hle HI HJ HK HG HE HPO HBD HZ HGN
              by_cases hin : x ≤ F'
              · have HV2 : Hid (V = (T' : Int)) := hide (by rw [HGG hin, hT']; simp)
                obtain ⟨m1, m2, m3, m4⟩ := le3 hin
                clear HGG hin HNX hF' hT' hij 
                obtain ⟨w1, w2⟩ := unhide W1
                obtain ⟨w3, w4⟩ := unhide W2
                go_wp2_with fail
                --@cutG1
                rw [unhide HV2]
                try rw [w3]
                refine bodyPost_ret (results_tmp2 rfl _ _ _) rfl ⟨rfl, unhide HB⟩
              · have HN2 := hide (unhide HNX (Nat.not_le.1 hin))
                obtain ⟨m1, m2, m3⟩ := dnle hin
                have HIJ := hide hij
                clear HGG hin HNX hF' hT' hij 
                obtain ⟨w1, w2⟩ := unhide W1
                obtain ⟨w3, w4⟩ := unhide W2
                clear W1 W2
                go_wp2_with fail
                --@cutG2
                go_roundw
                case rel => exact ⟨⟨_, rfl⟩, ⟨_, rfl⟩, ⟨j, F', T', rfl, by first | rfl | go_num, by first | rfl | go_num, Nat.le_of_lt hjl, HN2⟩, HB⟩
                case measure => have := unhide HIJ; simp [intOf]; omega
            · have hkb : ((d.getD j opZ).k != 1) = true := by simpa using hkj
              have hpo := unhide HPO j hjl
              have hfr := frD_take d hjl
              have hto := toD_take d hjl
              have hb2 := unhide HBD (j + 1)
              have hz := unhide HZ
              have hJ := (unhide HJ).1
              have HN : Hid (∀ P' G', G' = G + frN (d.getD j opZ) → P' = P + toN (d.getD j opZ) → PlJ d i (j + 1) f t P' G' ∧ (j + 1 = i ∨ i < j + 1)) := hide fun P' G' h1 h2 => ⟨pj_next hJ hjl hkj h1 h2, .inr (by have := hJ.ij; omega)⟩
              have hbb := pj_bound hJ hfr hto hb2 hz
              clear HJ hJ hfr hto hb2 hz hj HPO HBD HK HG HE HI HGN HZ
              generalize d.getD j opZ = q at *
              obtain ⟨qk, qn, qt⟩ := q
              dsimp only at c0 c1 c2 hkj hkb hpo
              have hsz := strOfNums_size qt
              rcases hpo with ⟨h1 | h1, h2, h3⟩ | ⟨h1, h2, h3⟩
              · exact absurd h1 hkj
              · dsimp only at h1 h2 h3
                subst h1 h3
                obtain ⟨m, rfl⟩ : ∃ m : Nat, qn = (m : Int) := ⟨qn.toNat, by omega⟩
                rw [show frN ⟨3, (m : Int), []⟩ = m by simp [frN]] at HN hbb
                rw [show toN ⟨3, (m : Int), []⟩ = 0 by simp [toN]] at HN hbb
                obtain ⟨G', hG'⟩ : ∃ G', G' = G + m := ⟨_, rfl⟩
                have HN2 := hide (unhide HN P G' hG' rfl)
                obtain ⟨w1, w2⟩ := wr1b hG' hbb.1
                obtain ⟨w3, w4⟩ := wr0 hbb.2
                have hsz0 : (strOfNums []).size = 0 := by simpa using hsz
                clear hkj hkb h2 hsz hbb HN hG'
                go_wp2_with fail
                --@cutD
                go_roundw
                case rel => exact ⟨⟨j + 1, P, G', by go_num, by first | rfl | go_num, by first | rfl | go_num, hjl, HN2⟩, HB⟩
                case measure => simp [intOf]; omega
              · dsimp only at h1 h2 h3
                subst h1 h2
                rw [show frN ⟨2, 0, qt⟩ = 0 by simp [frN]] at HN hbb
                rw [show toN ⟨2, 0, qt⟩ = qt.length by simp [toN]] at HN hbb
                obtain ⟨P', hP'⟩ : ∃ P', P' = P + qt.length := ⟨_, rfl⟩
                have HN2 := hide (unhide HN P' G rfl hP')
                obtain ⟨w1, w2⟩ := wr1b hP' hbb.2
                clear hkj hkb h3 hbb HN hP'
                generalize strOfNums qt = sq at *
                generalize qt.length = ql at *
                go_wp2_with fail
                --@cutE
                go_roundw
                case rel => exact ⟨⟨j + 1, P', G, by go_num, by first | rfl | go_num, by first | rfl | go_num, hjl, HN2⟩, HB⟩
                case measure => simp [intOf]; omega
          · obtain ⟨s1, _, s1'⟩ := dnl hjl
            have HGG := unhide HG i j f t P G (unhide HI) (unhide HJ).1 (by omega) (unhide HGN) (.inl (by omega))
            have hjf := (unhide HJ).1.ef
            have hjt := (unhide HJ).1.et
            have hij : i < j := by
              rcases (unhide HJ).2 with h | h
              · subst h; exact absurd (unhide HGN).1 (by omega)
              · exact h
            have hb2 := unhide HBD j
            have hz := unhide HZ
            have hle := (unhide HI).le
            have HNX : Hid (f + G < x → PlI d x j (f + G) (t + P)) := hide fun h => ⟨hjf, hjt, by omega, .inr (.inr ⟨.inl (by omega), h⟩)⟩
            obtain ⟨F', hF'⟩ : ∃ F', F' = f + G := ⟨_, rfl⟩
            obtain ⟨T', hT'⟩ : ∃ T', T' = t + P := ⟨_, rfl⟩
            rw [← hF'] at HNX HGG
            rw [← hT'] at HNX
            obtain ⟨l1, l2, l3, l4⟩ := le3 hle
            have W1 := hide (wr1b hF' (by rw [hjf]; exact Nat.le_trans hb2.1 hz.2.1))
            have W2 := hide (wr1b hT' (by rw [hjt]; exact Nat.le_trans hb2.2 hz.2.2))
            clear hjf hjt hb2 hz hle HI HJ HK HG HE HPO HBD HZ HGN
            by_cases hin : x ≤ F'
            · have HV2 : Hid (V = (T' : Int)) := hide (by rw [HGG hin, hT']; simp)
              obtain ⟨m1, m2, m3, m4⟩ := le3 hin
              clear HGG hin HNX hF' hT' hij 
              obtain ⟨w1, w2⟩ := unhide W1
              obtain ⟨w3, w4⟩ := unhide W2
              go_wp2_with fail
              --@cutH1
              rw [unhide HV2]
              try rw [w3]
              refine bodyPost_ret (results_tmp2 rfl _ _ _) rfl ⟨rfl, unhide HB⟩
            · have HN2 := hide (unhide HNX (Nat.not_le.1 hin))
              obtain ⟨m1, m2, m3⟩ := dnle hin
              have HIJ := hide hij
              clear HGG hin HNX hF' hT' hij 
              obtain ⟨w1, w2⟩ := unhide W1
              obtain ⟨w3, w4⟩ := unhide W2
              clear W1 W2
              go_wp2_with fail
              --@cutH2
              go_roundw
              case rel => exact ⟨⟨_, rfl⟩, ⟨_, rfl⟩, ⟨j, F', T', rfl, by first | rfl | go_num, by first | rfl | go_num, by omega, HN2⟩, HB⟩
              case measure => have := unhide HIJ; simp [intOf]; omega
    · obtain rfl : i = d.length := by omega
      have t1 : decide ((d.length : Int) < (d.length : Int)) = false := decide_eq_false (by omega)
      have HVV := unhide HE f t (unhide HI)
      have hle := (unhide HI).le
      have het := (unhide HI).et
      rw [List.take_length] at het
      have hz := unhide HZ
      obtain ⟨r, hr, hVr⟩ := vsub HVV hle
      have W3 := hide (wr2b hr (by rw [het]; exact hz.2.2) (Nat.le_trans hz.1 hz.2.1))
      have HV2 := hide hVr
      clear HVV hVr hle het hz hr HI hi hlt HK HG HE HPO HBD HZ
      obtain ⟨w3, w4⟩ := unhide W3
      go_wp2_with fail
      --@cutF
      rw [unhide HV2]
      try rw [w4]
      refine bodyPost_ret (results_tmp2 rfl _ _ _) rfl ⟨rfl, unhide HB⟩
set_option maxRecDepth 100000 in
set_option maxHeartbeats 4000000 in
/-- the document's Place says what the program's says -/
theorem RPlace14_at (a : Option Addr) (c : Nat) (d : List Dop) (p g : Int) (w : World) (h : IsO w a d) (hl : d.length ≤ 4611686018427387904) (ht : txD d ≤ 1099511627776) :
    Calls Try.prog 32 #[.slice a d.length c, .int .i64 p, .int .i64 g] w fun y w' => y = .returned (.tuple #[.int .i64 (plV d p g), .int .i64 (plE d p g)]) ∧ Below w.heap.size w w' := by
  by_cases hok : valB d = true ∧ (0 ≤ p ∧ p ≤ frD d) ∧ (g = 1 ∨ g = 2)
  · obtain ⟨hv, hp, hg⟩ := hok
    obtain ⟨e1, e2⟩ := pl_zero hv hp hg
    rw [e1, e2]
    obtain ⟨x, rfl⟩ : ∃ x : Nat, p = (x : Int) := ⟨p.toNat, by omega⟩
    rcases hg with rfl | rfl
    · exact RPl1_at a c d x w h hl hv (by omega)
    · exact RPl2_at a c d x w h hl hv (by omega)
  · have hE0 : plE d p g ≠ 0 := by
      unfold plE
      split
      · rename_i hv
        rw [if_neg (fun hh => hok ⟨hv, hh⟩)]; decide
      · decide
    have hV : plV d p g = 0 := by unfold plV; rw [if_neg hE0]
    rw [hV]
    have HRV := hide (RValid14_at a c d w h hl ht)
    cases hv : valB d with
    | false =>
      have hE : plE d p g = 130 := by unfold plE; rw [hv]; rfl
      rw [hE]
      rw [hv] at HRV
      clear h hok hE0 hV hE hv
      go_enter Try.func32, Try.ntmps32
      go_wp2_with fail
      refine (unhide HRV).mono ?_
      rintro y w1 ⟨rfl, x1⟩
      dsimp only
      clear HRV
      go_wp2_with fail
      refine bodyPost_ret (results_tmp2 rfl _ _ _) rfl ⟨rfl, x1⟩
    | true =>
      have hnn := (valB_nn hv).2
      have hno : ¬ ((0 ≤ p ∧ p ≤ frD d) ∧ (g = 1 ∨ g = 2)) := fun hh => hok ⟨hv, hh⟩
      have hE : plE d p g = 2 := by unfold plE; rw [if_pos hv, if_neg hno]
      have HLN := hide fun (X : World) (hX : Below w.heap.size w X) => lens14_at a c d X (h.below hX (Nat.le_refl _)) hl (val_PlO hv) (by omega) (by omega)
      rw [hE]
      rw [hv] at HRV
      clear h hok hE0 hV hE hv hnn
      generalize frD d = fr at *
      generalize toD d = td at *
      by_cases h1 : p < 0
      · have t1 : decide (p < 0) = true := decide_eq_true h1
        clear h1 hno
        go_enter Try.func32, Try.ntmps32
        go_wp2_with fail
        refine (unhide HRV).mono ?_
        rintro y w1 ⟨rfl, x1⟩
        dsimp only
        have HX1 := hide x1
        have HLN1 := hide (unhide HLN w1 x1)
        clear HRV HLN x1
        go_wp2_with fail
        refine (unhide HLN1).mono ?_
        rintro y w2 ⟨rfl, x2⟩
        dsimp only
        have HX2 := hide ((unhide HX1).trans (x2.mono (unhide HX1).size))
        clear HLN1 HX1 x2
        go_wp2_with fail
        refine bodyPost_ret (results_tmp2 rfl _ _ _) rfl ⟨rfl, unhide HX2⟩
      have t1 : decide (p < 0) = false := decide_eq_false h1
      by_cases h2 : p > (fr : Int)
      · have t2 : decide (p > (fr : Int)) = true := decide_eq_true h2
        have t2' : decide ((fr : Int) < p) = true := decide_eq_true h2
        clear h1 h2 hno
        go_enter Try.func32, Try.ntmps32
        go_wp2_with fail
        refine (unhide HRV).mono ?_
        rintro y w1 ⟨rfl, x1⟩
        dsimp only
        have HX1 := hide x1
        have HLN1 := hide (unhide HLN w1 x1)
        clear HRV HLN x1
        go_wp2_with fail
        refine (unhide HLN1).mono ?_
        rintro y w2 ⟨rfl, x2⟩
        dsimp only
        have HX2 := hide ((unhide HX1).trans (x2.mono (unhide HX1).size))
        clear HLN1 HX1 x2
        go_wp2_with fail
        refine bodyPost_ret (results_tmp2 rfl _ _ _) rfl ⟨rfl, unhide HX2⟩
      have t2 : decide (p > (fr : Int)) = false := decide_eq_false h2
      have t2' : decide ((fr : Int) < p) = false := decide_eq_false h2
      have h3 : ¬ g = 1 ∧ ¬ g = 2 := by omega
      have t3 : (g != 1) = true := by simpa using h3.1
      have t3' : (g == 1) = false := by simpa using h3.1
      have t4 : (g != 2) = true := by simpa using h3.2
      have t4' : (g == 2) = false := by simpa using h3.2
      clear h1 h2 h3 hno
      go_enter Try.func32, Try.ntmps32
      go_wp2_with fail
      refine (unhide HRV).mono ?_
      rintro y w1 ⟨rfl, x1⟩
      dsimp only
      have HX1 := hide x1
      have HLN1 := hide (unhide HLN w1 x1)
      clear HRV HLN x1
      go_wp2_with fail
      refine (unhide HLN1).mono ?_
      rintro y w2 ⟨rfl, x2⟩
      dsimp only
      have HX2 := hide ((unhide HX1).trans (x2.mono (unhide HX1).size))
      clear HLN1 HX1 x2
      go_wp2_with fail
      refine bodyPost_ret (results_tmp2 rfl _ _ _) rfl ⟨rfl, unhide HX2⟩
end Go.Proofs.Ytfllomlighlejaa
