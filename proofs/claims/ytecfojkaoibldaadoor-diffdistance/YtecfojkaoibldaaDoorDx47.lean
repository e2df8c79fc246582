/- Layer 13: checked and Of. · Layer 19, plain: the changes are what Of asks for, and what it makes of them. · Layer 19: leading, Least, Lines, Distance. · Layer 19: Least, Lines, Distance. -/
import Derived.Test.YtecfojkaoibldaaDoorDx42
import Derived.Test.YtecfojkaoibldaaDoorDx43
import Derived.BigQuiet
import Derived.Test.YtecfojkaoibldaaDoorDx46

section
namespace Go.Proofs.YtecfojkaoibldaaDoor
open Go.ChangeShapes Go.WideShapes Go.ChangeAt Go.RowKit
attribute [local go_sem] Oper.semAt_some

/-- what is wrong with a change -/
def badC (n : Int) (c : Dop) : Prop := c.k < 0 ∨ c.k > c.n ∨ c.n > n
def crsC (cs : List Dop) (k : Nat) : Prop := (cs.getD (k + 1) opZ).k < (cs.getD k opZ).n
/-- the error that Of begins with -/
structure ErrC (n : Int) (cs : List Dop) (E : Int) : Prop where
  a : (n < 0 ∨ n > 268435456) → E = 2
  b : ¬ (n < 0 ∨ n > 268435456) → (∃ k, k < cs.length ∧ badC n (cs.getD k opZ)) → E = 2
  c : ¬ (n < 0 ∨ n > 268435456) → (∀ k, k < cs.length → ¬ badC n (cs.getD k opZ)) → (∃ k, k + 1 < cs.length ∧ crsC cs k) → E = 120
  d : ¬ (n < 0 ∨ n > 268435456) → (∀ k, k < cs.length → ¬ badC n (cs.getD k opZ)) → (∀ k, k + 1 < cs.length → ¬ crsC cs k) → E = 0
theorem errC_is (n : Int) (cs : List Dop) : ∃ E, ErrC n cs E := by
  by_cases h1 : n < 0 ∨ n > 268435456
  · exact ⟨2, fun _ => rfl, fun h => absurd h1 h, fun h => absurd h1 h, fun h => absurd h1 h⟩
  by_cases h2 : ∃ k, k < cs.length ∧ badC n (cs.getD k opZ)
  · obtain ⟨k, hk, hb⟩ := h2
    exact ⟨2, fun _ => rfl, fun _ _ => rfl, fun _ h => absurd hb (h k hk), fun _ h => absurd hb (h k hk)⟩
  by_cases h3 : ∃ k, k + 1 < cs.length ∧ crsC cs k
  · obtain ⟨k, hk, hb⟩ := h3
    exact ⟨120, fun h => absurd h h1, fun _ h => absurd h h2, fun _ _ _ => rfl, fun _ _ h => absurd hb (h k hk)⟩
  · exact ⟨0, fun h => absurd h h1, fun _ h => absurd h h2, fun _ _ h => absurd h h3, fun _ _ _ => rfl⟩
theorem errC_ok {n : Int} {cs : List Dop} {E : Int} (h : ErrC n cs E) : (E = 0 ∧ (0 ≤ n ∧ n ≤ 268435456) ∧ okL 0 cs n) ∨ (E ≠ 0) := by
  by_cases h1 : n < 0 ∨ n > 268435456
  · exact .inr (by rw [h.a h1]; decide)
  by_cases h2 : ∃ k, k < cs.length ∧ badC n (cs.getD k opZ)
  · exact .inr (by rw [h.b h1 h2]; decide)
  have h2' : ∀ k, k < cs.length → ¬ badC n (cs.getD k opZ) := fun k hk hb => h2 ⟨k, hk, hb⟩
  by_cases h3 : ∃ k, k + 1 < cs.length ∧ crsC cs k
  · exact .inr (by rw [h.c h1 h2' h3]; decide)
  · have h3' : ∀ k, k + 1 < cs.length → ¬ crsC cs k := fun k hk hb => h3 ⟨k, hk, hb⟩
    refine .inl ⟨h.d h1 h2' h3', by omega, okL_of cs 0 n (by omega) (fun c hc => ?_) (fun k hk => ?_) h3'⟩
    · cases cs with
      | nil => simp at hc
      | cons c' r =>
        simp only [List.head?_cons, Option.some.injEq] at hc
        subst hc
        have := h2' 0 (by simp)
        unfold badC at this
        simp at this
        omega
    · have := h2' k hk
      unfold badC at this
      omega
theorem last_arith' (j : Nat) {L : Nat} (hl : L ≤ 4398046511104) (h : j + 1 < L) : wrap64 (((j + 1 : Nat) : Int) - 1) = (j : Int) ∧ True := ⟨by rw [wrapD _ (by omega) (by omega)]; omega, trivial⟩
theorem bad_tests (n : Int) (c : Dop) : (badC n c ∧ (decide (c.k < 0) = true ∨ (decide (c.k < 0) = false ∧ decide (c.k > c.n) = true ∧ decide (c.n < c.k) = true) ∨ (decide (c.k < 0) = false ∧ decide (c.k > c.n) = false ∧ decide (c.n < c.k) = false ∧ decide (c.n > n) = true ∧ decide (n < c.n) = true))) ∨
    (¬ badC n c ∧ decide (c.k < 0) = false ∧ decide (c.k > c.n) = false ∧ decide (c.n < c.k) = false ∧ decide (c.n > n) = false ∧ decide (n < c.n) = false) := by
  unfold badC
  by_cases h1 : c.k < 0
  · exact .inl ⟨.inl h1, .inl (decide_eq_true h1)⟩
  by_cases h2 : c.k > c.n
  · exact .inl ⟨.inr (.inl h2), .inr (.inl ⟨decide_eq_false h1, decide_eq_true h2, decide_eq_true h2⟩)⟩
  by_cases h3 : c.n > n
  · exact .inl ⟨.inr (.inr h3), .inr (.inr ⟨decide_eq_false h1, decide_eq_false h2, decide_eq_false (by omega), decide_eq_true h3, decide_eq_true h3⟩)⟩
  · exact .inr ⟨by omega, decide_eq_false h1, decide_eq_false h2, decide_eq_false (by omega), decide_eq_false h3, decide_eq_false (by omega)⟩
set_option maxRecDepth 100000 in
set_option maxHeartbeats 4000000 in
theorem checked_at (a : Option Addr) (c : Nat) (n : Int) (cs : List Dop) (E : Int) (w : World) (h : IsO w a cs) (hl : cs.length ≤ 4398046511104) (hE : ErrC n cs E) :
    Calls Tryd.prog 62 #[.int .i64 n, .slice a cs.length c] w fun y w' => y = .returned (.int .i64 E) ∧ Below w.heap.size w w' := by
  have HO := hide fun (X : World) (hx : Below w.heap.size w X) => h.below hx (Nat.le_refl _)
  have HE := hide hE
  clear hE h
  by_cases hn1 : n < 0
  · have HV := hide ((unhide HE).a (.inl hn1))
    have t1 : decide (n < 0) = true := decide_eq_true hn1
    clear HE HO hn1
    go_enter Tryd.func62, Tryd.ntmps62
    go_wp2_with fail
    rw [unhide HV]
    refine bodyPost_ret (results_tmp rfl _ _ _) rfl ⟨rfl, Below.refl _ _⟩
  by_cases hn2 : n > 268435456
  · have HV := hide ((unhide HE).a (.inr hn2))
    have t1 : decide (n < 0) = false := decide_eq_false hn1
    have t2 : decide (n > 268435456) = true := decide_eq_true hn2
    have t3 : decide (268435456 < n) = true := decide_eq_true hn2
    clear HE HO hn1 hn2
    go_enter Tryd.func62, Tryd.ntmps62
    go_wp2_with fail
    rw [unhide HV]
    refine bodyPost_ret (results_tmp rfl _ _ _) rfl ⟨rfl, Below.refl _ _⟩
  have HEb := hide ((unhide HE).b (by omega))
  have HEc := hide ((unhide HE).c (by omega))
  have HEd := hide ((unhide HE).d (by omega))
  have t1 : decide (n < 0) = false := decide_eq_false hn1
  have t2 : decide (n > 268435456) = false := decide_eq_false hn2
  have t3 : decide (268435456 < n) = false := decide_eq_false hn2
  clear HE hn1 hn2
  go_enter Tryd.func62, Tryd.ntmps62
  go_wp2_with fail
  go_loopw [6, 16] (fun v6 v16 wx => (∃ z, v6 = z) ∧ (∃ k : Nat, v16 = .int .i64 (k : Int) ∧ k ≤ cs.length ∧ Hid ((∀ i, i < k → ¬ badC n (cs.getD i opZ)) ∧ Below w.heap.size w wx))) (fun _ v16 _ => cs.length - (intOf v16).toNat)
  case atStart => exact ⟨⟨_, rfl⟩, ⟨0, rfl, Nat.zero_le _, hide ⟨fun i hi => absurd hi (Nat.not_lt_zero i), Below.refl _ _⟩⟩⟩
  case round =>
    obtain ⟨⟨z1, rfl⟩, ⟨k, rfl, hk, HI⟩⟩ := hrel
    by_cases hlt : k < cs.length
    · have s1 : decide ((k : Int) < (cs.length : Int)) = true := decide_eq_true (by omega)
      obtain ⟨g, off, rfl, hg, c0, c1, c2⟩ := (unhide HO wr (unhide HI).2).three hlt
      have HT := hide (bad_tests n (cs.getD k opZ))
      have HN : Hid (¬ badC n (cs.getD k opZ) → ∀ i, i < k + 1 → ¬ badC n (cs.getD i opZ)) := hide fun h0 i hi => by
        rcases Nat.lt_or_ge i k with h | h
        · exact (unhide HI).1 i h
        · obtain rfl : i = k := by omega
          exact h0
      have HV : Hid (badC n (cs.getD k opZ) → E = 2) := hide fun h0 => unhide HEb ⟨k, hlt, h0⟩
      generalize cs.getD k opZ = x at *
      obtain ⟨xk, xn, xt⟩ := x
      dsimp only at c0 c1 c2 HT
      obtain ⟨d0, d1, d2⟩ := three_nwD wr (.int .i64 xk) (.int .i64 xn) (.string (strOfNums xt)) (t := 71)
      have HB := hide ((unhide HI).2.alloc (unhide HI).2.size (.cells #[.int .i64 xk, .int .i64 xn, .string (strOfNums xt)] 71))
      generalize strOfNums xt = st at *
      clear HI HEb HEc HEd HO hk
      go_upto_region 6 with fail
      clear c0 c1 c2 d2
      generalize wr.alloc (.cells #[.int .i64 xk, .int .i64 xn, .string st] 71) = v0 at *
      generalize wr.heap.size = gb at *
      rcases unhide HT with ⟨hb, s2 | ⟨s2, s3, s4⟩ | ⟨s2, s3, s4, s5, s6⟩⟩ | ⟨hb, s2, s3, s4, s5, s6⟩
      · have HV2 := hide (unhide HV hb)
        clear HT HV HN hb
        go_wp2_with fail
        rw [unhide HV2]
        refine bodyPost_ret (results_tmp rfl _ _ _) rfl ⟨rfl, unhide HB⟩
      · have HV2 := hide (unhide HV hb)
        clear HT HV HN hb
        go_wp2_with fail
        rw [unhide HV2]
        refine bodyPost_ret (results_tmp rfl _ _ _) rfl ⟨rfl, unhide HB⟩
      · have HV2 := hide (unhide HV hb)
        clear HT HV HN hb
        go_wp2_with fail
        rw [unhide HV2]
        refine bodyPost_ret (results_tmp rfl _ _ _) rfl ⟨rfl, unhide HB⟩
      · have HN2 := hide (unhide HN hb)
        clear HT HV HN hb
        go_wp2_with fail
        go_roundw
        case rel => exact ⟨⟨_, rfl⟩, ⟨k + 1, by go_num, hlt, hide ⟨unhide HN2, unhide HB⟩⟩⟩
        case measure => simp [intOf]; omega
    · obtain rfl : k = cs.length := by omega
      have s1 : decide ((cs.length : Int) < (cs.length : Int)) = false := decide_eq_false (by omega)
      have HEc := hide (unhide HEc (unhide HI).1)
      have HEd := hide (unhide HEd (unhide HI).1)
      have HB := hide (unhide HI).2
      clear HI HEb hk hlt t1 t2 t3
      go_wp2_with fail
      clear s1
      go_loopw [7] (fun v7 wx => (∃ k : Nat, v7 = .int .i64 (k : Int) ∧ 1 ≤ k ∧ (k = 1 ∨ k ≤ cs.length) ∧ Hid ((∀ i, i + 1 < k → ¬ crsC cs i) ∧ Below w.heap.size w wx))) (fun v7 _ => cs.length + 1 - (intOf v7).toNat)
      case atStart => exact ⟨1, rfl, Nat.le_refl _, .inl rfl, hide ⟨fun i hi => absurd hi (by omega), unhide HB⟩⟩
      case round =>
        clear HB
        obtain ⟨k, rfl, hk1, hk2, HI⟩ := hrel
        by_cases hlt : k < cs.length
        · have s1 : decide ((k : Int) < (cs.length : Int)) = true := decide_eq_true (by omega)
          obtain ⟨j, rfl⟩ : ∃ j, k = j + 1 := ⟨k - 1, by omega⟩
          obtain ⟨g, off, rfl, hg, c0, c1, c2⟩ := (unhide HO wr (unhide HI).2).three hlt
          obtain ⟨g', off', he, hg', b0', b1, b2⟩ := (unhide HO wr (unhide HI).2).three (k := j) (by omega)
          obtain ⟨rfl, rfl⟩ : g = g' ∧ off = off' := by cases he; exact ⟨rfl, rfl⟩
          clear he b0' b2 c1 c2 hg hg'
          have HCR : Hid (crsC cs j ↔ (cs.getD (j + 1) opZ).k < (cs.getD j opZ).n) := hide Iff.rfl
          have HV : Hid (crsC cs j → E = 120) := hide fun h0 => unhide HEc ⟨j, hlt, h0⟩
          have HN : Hid (¬ crsC cs j → ∀ i, i + 1 < j + 2 → ¬ crsC cs i) := hide fun h0 i hi => by
            rcases Nat.lt_or_ge i j with h | h
            · exact (unhide HI).1 i (by omega)
            · obtain rfl : i = j := by omega
              exact h0
          have HB := hide (unhide HI).2
          have e5 := (last_arith' j hl hlt).1
          have hlt' : j < cs.length := by omega
          have hlt2 : (j : Int) < (cs.length : Int) := by omega
          clear HI HEc HEd HO hk1 hk2
          generalize (cs.getD (j + 1) opZ).k = xk at *
          generalize (cs.getD j opZ).n = xn at *
          generalize hK : j + 1 = K at *
          have hK0 : (0 : Int) ≤ (K : Int) := by omega
          have hK1 : (K : Int) < (cs.length : Int) := by omega
          have hj0 : (0 : Int) ≤ (j : Int) := by omega
          have e6 : (K : Int) - 1 = (j : Int) := by omega
          have e7 : wrap64 (j : Int) = (j : Int) := wrapD _ (by omega) (by omega)
          by_cases hx : xk < xn
          · have HV2 := hide (unhide HV ((unhide HCR).2 hx))
            have s2 : decide (xk < xn) = true := decide_eq_true hx
            clear HV HN HCR hx hK
            go_upto_region 12 with fail
            go_quiet (fail)
            go_wp2_with fail
            rw [unhide HV2]
            refine bodyPost_ret (results_tmp rfl _ _ _) rfl ⟨rfl, below_drewN (unhide HB) _⟩
          · have HN2 := hide (unhide HN (fun h0 => hx ((unhide HCR).1 h0)))
            rw [show j + 2 = K + 1 by omega] at HN2
            have s2 : decide (xk < xn) = false := decide_eq_false hx
            clear HV HN HCR hx hK
            go_upto_region 12 with fail
            go_quiet (fail)
            go_wp2_with fail
            go_roundw
            case rel => exact ⟨K + 1, by go_num, by omega, .inr hlt, hide ⟨unhide HN2, below_drewN (unhide HB) _⟩⟩
            case measure => simp [intOf]; omega
        · have s1 : decide ((k : Int) < (cs.length : Int)) = false := decide_eq_false (by omega)
          have HV := hide (unhide HEd (fun i hi => (unhide HI).1 i (by omega)))
          have HB := hide (unhide HI).2
          have s1' : decide (k < cs.length) = false := decide_eq_false hlt
          clear HEc HEd HI HO hk1 hk2
          go_wp2_with fail
          rw [unhide HV]
          refine bodyPost_ret (results_tmp rfl _ _ _) rfl ⟨rfl, unhide HB⟩

/-- what Of answers -/
def ofD (n : Int) (cs : List Dop) (E : Int) : List Dop × Int := if E = 0 then (if 268435456 < toD (opsC n cs) then ([], 5) else (canA (dA (opsC n cs)), 0)) else ([], E)
set_option maxRecDepth 100000 in
set_option maxHeartbeats 2000000 in
theorem Of_atD (a : Option Addr) (c : Nat) (n : Int) (cs : List Dop) (E : Int) (w : World) (h : IsO w a cs) (hl : cs.length ≤ 4398046511104) (hE : ErrC n cs E) :
    Calls Tryd.prog 46 #[.int .i64 n, .slice a cs.length c] w fun y w' => ∃ v, y = .returned (.tuple #[v, .int .i64 (ofD n cs E).2]) ∧ w'.ownsRow w.heap.size 38 3 v (ofD n cs E).1.length (opsV (ofD n cs E).1) ∧ Below w.heap.size w w' := by
  have HC := hide (checked_at a c n cs E w h hl hE)
  have hOk := errC_ok hE
  obtain ⟨L, R, hLR⟩ : ∃ L R, ofD n cs E = (L, R) := ⟨_, _, rfl⟩
  rw [hLR]
  dsimp only
  unfold ofD at hLR
  by_cases h0 : E = 0
  · rcases hOk with ⟨_, hn, hok⟩ | hne
    · rw [if_pos h0] at hLR
      subst h0
      obtain ⟨s1, s2⟩ := opsC_sizes hok
      have HZ : Hid (∀ X, Below w.heap.size w X → Calls Tryd.prog 63 #[.int .i64 n, .slice a cs.length c, .func (.func 64) #[.pointer (some ⟨X.heap.size, 0, none⟩)] #[], .func (.func 65) #[.pointer (some ⟨X.heap.size, 0, none⟩)] #[], .func (.func 66) #[.pointer (some ⟨X.heap.size, 0, none⟩)] #[]]
          (X.alloc (.cells #[.int .i64 0, .int .i64 0] 90)) fun y X' => y = .returned (.tuple #[]) ∧ IsZ X' X.heap.size (satD (frD (opsC n cs))) (satD (toD (opsC n cs))) ∧ Below X.heap.size X X') := hide fun X hx => by
        have ba : Below X.heap.size X (X.alloc (.cells #[.int .i64 0, .int .i64 0] 90)) := (Below.refl _ _).alloc (Nat.le_refl _) _
        exact (eachC_z a c X.heap.size X.heap.size n cs _ (fun Y hY => (h.below hx (Nat.le_refl _)).below (ba.trans hY) (Nat.le_refl _)) (Cls.new _ _ _) (Nat.le_refl _) ba.size hl hn hok).mono fun y Y ⟨e, h1, h2⟩ => ⟨e, h1, ba.trans h2⟩
      have HL := hide fun (X : World) => long_at (satD (frD (opsC n cs))) (satD (toD (opsC n cs))) X (by have := satD_le (frD (opsC n cs)); omega) (by have := satD_le (toD (opsC n cs)); omega)
      have hlo : decide (268435456 < satD (frD (opsC n cs)) ∨ 268435456 < satD (toD (opsC n cs))) = decide (268435456 < toD (opsC n cs)) := by
        have : frD (opsC n cs) ≤ 268435456 := by omega
        rw [decide_eq_decide]; unfold satD; omega
      rw [hlo] at HL
      have HE : Hid (∀ X, Below w.heap.size w X → ¬ 268435456 < toD (opsC n cs) → Calls Tryd.prog 63 #[.int .i64 n, .slice a cs.length c, .func (.func 68) #[.pointer (some ⟨X.heap.size, 0, none⟩)] #[], .func (.func 69) #[.pointer (some ⟨X.heap.size, 0, none⟩)] #[], .func (.func 70) #[.pointer (some ⟨X.heap.size, 0, none⟩)] #[]]
          (X.alloc (.cells #[.slice none 0 0, .int .i64 0, .slice none 0 0, .int .i64 0] 109))
          fun y X' => y = .returned (.tuple #[]) ∧ (∃ ts, IsBd X' X.heap.size X.heap.size 0 (fun _ => none) (feedA b0 (dA (opsC n cs))) ts ∧ BdOk (feedA b0 (dA (opsC n cs))) ts) ∧ Below X.heap.size X X') := hide fun X hx hto => by
        have ba : Below X.heap.size X (X.alloc (.cells #[.slice none 0 0, .int .i64 0, .slice none 0 0, .int .i64 0] 109)) := (Below.refl _ _).alloc (Nat.le_refl _) _
        refine (eachC_b a c X.heap.size X.heap.size n cs _ (fun Y hY => (h.below hx (Nat.le_refl _)).below (ba.trans hY) (Nat.le_refl _)) (bd_new X) ba.size hl hn hok (by omega)).mono fun y Y ⟨e, ⟨ts, h1⟩, h2⟩ => ⟨e, ⟨ts, h1, bd_ok h1 ?_⟩, ba.trans h2⟩
        have := dA_len (fun o ho => (opsC_ok hok o ho).1)
        omega
      clear h hl hE hok hn s1 s2 hlo
      have HLR := hide hLR
      clear hLR
      generalize satD (frD (opsC n cs)) = F at *
      generalize satD (toD (opsC n cs)) = T at *
      go_enter Tryd.func46, Tryd.ntmps46
      go_wp2_with fail
      refine (unhide HC).mono ?_
      rintro y w1 ⟨rfl, x1⟩
      dsimp only
      have HZ1 := hide (unhide HZ w1 x1)
      have HX1 := hide x1
      clear HC HZ x1
      go_upto_region 5 with fail
      generalize w1.alloc (.cells #[.int .i64 0, .int .i64 0] 90) = v1 at *
      generalize hg1 : w1.heap.size = g1 at HZ1 ⊢
      have HXg : Hid (∀ Y, Below g1 w1 Y → Below w.heap.size w Y) := hide fun Y hY => (unhide HX1).trans (hY.mono (by rw [← hg1]; exact (unhide HX1).size))
      clear hg1 HX1
      go_wp2_with fail
      refine (unhide HZ1).mono ?_
      rintro y w2 ⟨rfl, hz2, x2⟩
      dsimp only
      obtain ⟨q0, q1, _, _⟩ := hz2.cells
      have HX2 := hide (unhide HXg w2 x2)
      clear HZ1 HXg x2 hz2
      go_wp2_with fail
      refine (unhide HL w2).mono ?_
      rintro y w3 ⟨rfl, x3⟩
      dsimp only
      have HX3 := hide ((unhide HX2).trans (x3.mono (unhide HX2).size))
      clear HL HX2 x3 q0 q1
      by_cases hto : 268435456 < toD (opsC n cs)
      · have hLR := unhide HLR
        rw [if_pos hto, Prod.mk.injEq] at hLR
        obtain ⟨rfl, rfl⟩ := hLR
        rw [decide_eq_true hto]
        clear HE HLR hto
        go_wp2_with fail
        refine bodyPost_ret (results_tmp2 rfl _ _ _) rfl ⟨.slice none 0 0, rfl, row_nilD _ _, unhide HX3⟩
      · have HE3 := hide (unhide HE w3 (unhide HX3) hto)
        have HCA : Hid (canA (dA (opsC n cs)) = (feedA b0 (dA (opsC n cs))).fin) := hide rfl
        have hLR := unhide HLR
        rw [if_neg hto, Prod.mk.injEq] at hLR
        obtain ⟨hL, rfl⟩ := hLR
        rw [hL] at HCA
        rw [decide_eq_false hto]
        clear HE HLR hto hL
        go_upto_region 9 with fail
        generalize w3.alloc (.cells #[.slice none 0 0, .int .i64 0, .slice none 0 0, .int .i64 0] 109) = v3 at *
        generalize hg : w3.heap.size = g at HE3 ⊢
        have HG : Hid (w.heap.size ≤ g) := hide (by rw [← hg]; exact (unhide HX3).size)
        have HXg : Hid (∀ Y, Below g w3 Y → Below w.heap.size w Y) := hide fun Y hY => (unhide HX3).trans (hY.mono (unhide HG))
        clear hg
        go_wp2_with fail
        refine (unhide HE3).mono ?_
        rintro y w4 ⟨rfl, ⟨ts, hI, hok⟩, x4⟩
        dsimp only
        have HD := hide (bdelta_at g g 0 (fun _ => none) (feedA b0 (dA (opsC n cs))) ts w4 hI hok (Nat.le_of_lt (by obtain ⟨_, _, h1, _⟩ := hI.c; exact h1.lt)))
        rw [← unhide HCA] at HD
        have HX4 := hide x4
        clear hI hok x4 HE3
        go_wp2_with fail
        refine (unhide HD).mono ?_
        rintro y w5 ⟨v, rfl, ho, x5⟩
        dsimp only
        have HO5 : Hid (w5.ownsRow w.heap.size 38 3 v L.length (opsV L)) := hide (own_lower ho (unhide HG))
        have HX5 := hide (unhide HXg w5 ((unhide HX4).trans x5))
        clear HD ho x5
        go_wp2_with fail
        refine bodyPost_ret (results_tmp2 rfl _ _ _) rfl ⟨v, rfl, unhide HO5, unhide HX5⟩
    · exact absurd h0 hne
  · rw [if_neg h0, Prod.mk.injEq] at hLR
    obtain ⟨rfl, rfl⟩ := hLR
    have t1 : (E != 0) = true := by simpa using h0
    clear hOk h hl hE h0
    go_enter Tryd.func46, Tryd.ntmps46
    go_wp2_with fail
    refine (unhide HC).mono ?_
    rintro y w1 ⟨rfl, x1⟩
    dsimp only
    clear HC
    go_wp2_with fail
    refine bodyPost_ret (results_tmp2 rfl _ _ _) rfl ⟨.slice none 0 0, rfl, row_nilD _ _, x1⟩

end Go.Proofs.YtecfojkaoibldaaDoor
end

section
namespace Go.Proofs.YtecfojkaoibldaaDoor

variable {l m : List Int} {xc yc : List Nat}
theorem chsN_ok (hx : OkCut l xc) : ∀ (L : List (Nat × Nat × Nat)) (i j : Nat) (z : Int), RunOk (cutP l xc) (cutP m yc) i j L → i < xc.length → z ≤ (xc.getD i 0 : Int) → okL z (chsN m xc yc i j L) l.length
  | [], i, j, z, h, hi, hz => by
    have e := cutP_cnt hx
    have := hx.at_le hi
    simp only [chsN, okL]
    omega
  | (p, q, n) :: r, i, j, z, h, hi, hz => by
    obtain ⟨h1, h2, h3, h4, _, h6⟩ := h
    have e := cutP_cnt hx
    have a1 := hx.le h1 (show p < xc.length by omega)
    have a2 := hx.at_le (show p < xc.length by omega)
    have a3 := hx.le (show p ≤ p + n by omega) (show p + n < xc.length by omega)
    simp only [chsN]
    by_cases g : i < p ∨ j < q
    · rw [if_pos g]
      refine ⟨hz, ?_, ?_, chsN_ok hx r (p + n) (q + n) _ h6 (by omega) ?_⟩
      · show (xc.getD i 0 : Int) ≤ (xc.getD p 0 : Int); omega
      · show (xc.getD p 0 : Int) ≤ (l.length : Int); omega
      · show (xc.getD p 0 : Int) ≤ _; omega
    · rw [if_neg g]
      exact chsN_ok hx r (p + n) (q + n) z h6 (by omega) (by omega)
theorem lstC_take1 : ∀ (cs : List Dop) (p : Int) (k : Nat), k < cs.length → lstC p (cs.take (k + 1)) = (cs.getD k opZ).n
  | [], _, _, h => by simp at h
  | c :: r, p, 0, _ => by simp [lstC]
  | c :: r, p, k + 1, h => by
    have := lstC_take1 r c.n k (by simpa using h)
    simpa [lstC] using this
theorem errC_zero {n : Int} {cs : List Dop} (hn : 0 ≤ n ∧ n ≤ 268435456) (h : okL 0 cs n) : ErrC n cs 0 := by
  have hb : ∀ k, k < cs.length → ¬ badC n (cs.getD k opZ) := fun k hk hb => by
    obtain ⟨a1, a2, a3, a4⟩ := okL_at cs 0 n h k hk
    unfold badC at hb
    omega
  refine ⟨fun g => absurd g (by omega), fun _ ⟨k, hk, g⟩ => absurd g (hb k hk), fun _ _ ⟨k, hk, g⟩ => ?_, fun _ _ _ => rfl⟩
  obtain ⟨a1, a2, _, _⟩ := okL_at cs 0 n h (k + 1) hk
  rw [lstC_take1 cs 0 k (by omega)] at a2
  unfold crsC at g
  omega
theorem sub_len {x : List Int} {cs : List Nat} (h : OkCut x cs) {i j : Nat} (hij : i ≤ j) (hj : j < cs.length) : (subL x (cs.getD i 0) (cs.getD j 0)).length = cs.getD j 0 - cs.getD i 0 := by
  have h1 := h.le hij hj
  have h2 := h.at_le hj
  unfold subL
  rw [List.length_take, List.length_drop]
  omega
/-- how long the two texts are -/
theorem pcs_len (hx : OkCut l xc) (hy : OkCut m yc) : ∀ (d : List Dop) (i j N : Nat), PcS l m xc yc i j N d → i < xc.length → j < yc.length → frD d + xc.getD i 0 = l.length ∧ toD d + yc.getD j 0 = m.length
  | [], i, j, N, h, hi, hj => by
    obtain ⟨h1, h2, _⟩ := h
    have a1 := hx.last
    have a2 := hy.last
    rw [show xc.length - 1 = i by omega] at a1
    rw [show yc.length - 1 = j by omega] at a2
    exact ⟨by rw [a1]; simp [frD], by rw [a2]; simp [toD]⟩
  | o :: r, i, j, N, h, hi, hj => by
    rcases h with ⟨k, t, n, h1, h2, h3, h4, h5, h6⟩ | ⟨k, z, n, M, h1, h2, h3, h4, h5⟩ | ⟨k, t, n, M, h1, h2, h3, h4, h5⟩
    · obtain ⟨i1, i2⟩ := pcs_len hx hy r _ _ _ h6 h2 h3
      have a1 := hx.le (show i ≤ i + n by omega) h2
      have a2 := hy.le (show j ≤ j + n by omega) h3
      have e1 := sub_len hx (show i ≤ i + n by omega) h2
      have e2 := sub_len hy (show j ≤ j + n by omega) h3
      rw [h5] at e1
      have f1 : frN o = xc.getD (i + n) 0 - xc.getD i 0 := by unfold frN; rw [if_pos (.inl k), h4]; omega
      have f2 : toN o = xc.getD (i + n) 0 - xc.getD i 0 := by unfold toN; rw [if_pos k, h4]; omega
      rw [frD_cons, toD_cons, f1, f2]
      omega
    · obtain ⟨i1, i2⟩ := pcs_len hx hy r _ _ _ h5 hi h2
      have a2 := hy.le (show j ≤ j + n by omega) h2
      have e2 := sub_len hy (show j ≤ j + n by omega) h2
      have f1 : frN o = 0 := by simp [frN, k]
      have f2 : toN o = yc.getD (j + n) 0 - yc.getD j 0 := by unfold toN; rw [if_neg (by omega), if_pos k, h3, e2]
      rw [frD_cons, toD_cons, f1, f2]
      omega
    · obtain ⟨i1, i2⟩ := pcs_len hx hy r _ _ _ h5 h2 hj
      have a1 := hx.le (show i ≤ i + n by omega) h2
      have f1 : frN o = xc.getD (i + n) 0 - xc.getD i 0 := by unfold frN; rw [if_pos (.inr k), h3]; omega
      have f2 : toN o = 0 := by simp [toN, k]
      rw [frD_cons, toD_cons, f1, f2]
      omega
theorem toD_atoms (d : List Dop) (h : ∀ o ∈ d, o.k = 1 ∨ o.k = 2 ∨ o.k = 3) : toD d = ((dA d).filter fun a => match a with | .d => false | _ => true).length := by
  induction d with
  | nil => rfl
  | cons o d ih =>
    rw [toD_cons, dA_cons, List.filter_append, List.length_append, ih fun x hx => h x (by simp [hx])]
    congr 1
    rcases h o (by simp) with g | g | g
    · simp [toN, opA, g]
    · simp [toN, opA, g, List.filter_map, Function.comp_def]
      rw [List.filter_eq_self.2 (by simp)]
    · simp [toN, opA, g]
/-- what Of makes of the program's changes -/
theorem ofD_least (hx : OkCut l xc) (hy : OkCut m yc) (hl : l.length ≤ 268435456) (hm : m.length ≤ 268435456) :
    ErrC l.length (chsR xc yc m (runsL (cutP l xc) (cutP m yc))).2.2 0 ∧ ofD l.length (chsR xc yc m (runsL (cutP l xc) (cutP m yc))).2.2 0 = (leastD l m xc yc, 0) := by
  obtain ⟨e, hc, ha, N, hp, hN⟩ := least_is hx hy
  rw [e]
  have hok := chsN_ok (m := m) (yc := yc) hx (runsL (cutP l xc) (cutP m yc)) 0 0 0 (runs_ok _ _) hx.pos (by rw [hx.zero]; exact Int.le_refl _)
  refine ⟨errC_zero ⟨by omega, by omega⟩ hok, ?_⟩
  have hlen := pcs_len hx hy _ 0 0 N hp hx.pos hy.pos
  rw [hy.zero] at hlen
  have hk1 : ∀ o ∈ opsC l.length (chsN m xc yc 0 0 (runsL (cutP l xc) (cutP m yc))), o.k = 1 ∨ o.k = 2 ∨ o.k = 3 := fun o ho => (opsC_ok hok o ho).1
  have hk2 : ∀ o ∈ leastD l m xc yc, o.k = 1 ∨ o.k = 2 ∨ o.k = 3 := fun o ho => by
    rcases hc.p o ho with ⟨g | g, _⟩ | ⟨g, _⟩
    · exact .inl g
    · exact .inr (.inr g)
    · exact .inr (.inl g)
  have ht : toD (opsC l.length (chsN m xc yc 0 0 (runsL (cutP l xc) (cutP m yc)))) = m.length := by
    rw [toD_atoms _ hk1, ha, ← toD_atoms _ hk2]; omega
  unfold ofD
  rw [if_pos rfl, if_neg (by omega), ha, canA_id hc]
end Go.Proofs.YtecfojkaoibldaaDoor
end

section
namespace Go.Proofs.YtecfojkaoibldaaDoor
open Go.ChangeShapes Go.WideShapes Go.ChangeAt Go.RowKit
attribute [local go_sem] Oper.semAt_some

theorem own_isOD {W : World} {B : Nat} {t : TypeId} {v : Value} {d : List Dop} (h : W.ownsRow B t 3 v d.length (opsV d)) : ∃ a c, v = .slice a d.length c ∧ IsO W a d ∧ d.length ≤ c := by
  have hh := h
  rcases h.2 with ⟨rfl, h0⟩ | ⟨g, cap, cur, rfl, hB, hg, hc, hm, hs, ht⟩
  · have : d = [] := List.length_eq_zero_iff.1 h0
    exact ⟨none, 0, by rw [h0], Or.inl this, by omega⟩
  · refine ⟨some ⟨g, 0, none⟩, cap, rfl, Or.inr ⟨g, 0, rfl, (Array.getElem?_eq_some_iff.1 hg).1, fun k hk => ?_⟩, hc⟩
    have f : ∀ j, j < 3 → W.cell? ⟨g, 0 + (k * 3 + j), none⟩ = (opL (d.getD k opZ))[j]? := fun j hj => by
      have e := opsV_get d k j hk hj
      obtain ⟨u, hu⟩ : ∃ u, (opL (d.getD k opZ))[j]? = some u := ⟨_, List.getElem?_eq_getElem (by simpa [opL] using hj)⟩
      rw [hu] at e ⊢
      have := World.ownsRow.cells hh rfl (k * 3 + j) u e
      rwa [Addr.add_lit] at this
    exact ⟨f 0 (by decide), f 1 (by decide), f 2 (by decide)⟩
theorem num_len (K ps : List (List Int)) : (numP K ps).length = ps.length := by simp [numP]
theorem cut_subs {l : List Int} (hb : ByL l) (a b : Nat) : ByL (subL l a b) := fun x hx => hb x (List.mem_of_mem_drop (List.mem_of_mem_take hx))
theorem chsN_tb {m : List Int} {xc yc : List Nat} (hb : ByL m) : ∀ (L : List (Nat × Nat × Nat)) (i j : Nat), ∀ o ∈ chsN m xc yc i j L, TbD o
  | [], _, _, o, h => by cases h
  | (p, q, n) :: r, i, j, o, h => by
    simp only [chsN] at h
    rcases List.mem_append.1 h with h | h
    · split at h
      · rw [List.mem_singleton] at h; subst h; exact cut_subs hb _ _
      · cases h
    · exact chsN_tb hb r _ _ o h
set_option maxRecDepth 100000 in
set_option maxHeartbeats 8000000 in
theorem leading_at (f : Nat) (cut : List Int → List Nat) (a0 : Option Addr) (c0 : Nat) (l : List Int) (b0 : Option Addr) (d0' : Nat) (m : List Int) (w : World) (ef : ∀ args w, (callFunc f args).run Tryd.prog w = .ok (.enter f args) w) (hl : CutF f cut w a0 c0 l) (hm : CutF f cut w b0 d0' m) (hB : IsB w a0 c0 l) (hB' : IsB w b0 d0' m) (zl : l.length ≤ 1048576) (zm : m.length ≤ 1048576) :
    Calls Tryd.prog 30 #[.slice a0 l.length c0, .slice b0 m.length d0', .func (.func f) #[] #[]] w fun y w' => Below w.heap.size w w' ∧
      ((¬ ((cut l).length ≤ 2049 ∧ (cut m).length ≤ 2049) ∧ y = .returned (.tuple #[.slice none 0 0, .int .i64 190])) ∨
       ((cut l).length ≤ 2049 ∧ (cut m).length ≤ 2049 ∧ ∃ v, y = .returned (.tuple #[v, .int .i64 0]) ∧ w'.ownsRow w.heap.size 38 3 v (leastD l m (cut l) (cut m)).length (opsV (leastD l m (cut l) (cut m))))) := by
  have HC := hide (cutBoth_at f cut a0 c0 l b0 d0' m w ef hl hm hB hB')
  have HOK := hide (And.intro hl.ok hm.ok)
  have HB := hide hB'
  have HBB := hide hB'.2.2.2
  clear hl hm hB hB'
  go_enter Tryd.func30, Tryd.ntmps30
  go_wp2_with fail
  refine (unhide HC).mono ?_
  rintro y w1 ⟨hb1, ⟨hno, rfl⟩ | ⟨hA, hC, a1, c1, a2, c2, a3, c3, a4, c4, rfl, ⟨i1, i2, k2⟩, i3, i4, k4⟩⟩
  · dsimp only
    have HBx := hide ((hb1.alloc hb1.size (.cells #[.slice none 0 0, .slice none 0 0, .slice none 0 0] 53)).alloc (by have := hb1.size; simp; omega) (.cells #[.slice none 0 0, .slice none 0 0, .slice none 0 0] 53))
    clear HC hb1
    go_wp2_with fail
    exact bodyPost_ret (results_tmp2 rfl _ _ _) rfl ⟨unhide HBx, .inl ⟨hno, rfl⟩⟩
  · dsimp only
    clear HC
    have hxx := (num_runs (cutP l (cut l)) (cutP m (cut m))).1
    have nl1 : (numP [] (cutP l (cut l))).length + 1 = (cut l).length := by rw [num_len]; exact cutP_cnt (unhide HOK).1
    have nl2 : (numP (knoP [] (cutP l (cut l))) (cutP m (cut m))).length + 1 = (cut m).length := by rw [num_len]; exact cutP_cnt (unhide HOK).2
    have b2 : Below w.heap.size w (w1.alloc (.cells #[.slice a0 l.length c0, .slice a1 (cut l).length c1, .slice a2 (numP [] (cutP l (cut l))).length c2] 53)) := hb1.alloc hb1.size _
    have b3 := b2.alloc b2.size (.cells #[.slice b0 m.length d0', .slice a3 (cut m).length c3, .slice a4 (numP (knoP [] (cutP l (cut l))) (cutP m (cut m))).length c4] 53)
    have e2 : Below w1.heap.size w1 (w1.alloc (.cells #[.slice a0 l.length c0, .slice a1 (cut l).length c1, .slice a2 (numP [] (cutP l (cut l))).length c2] 53)) := (Below.refl _ _).alloc (Nat.le_refl _) _
    have e3 := e2.alloc e2.size (.cells #[.slice b0 m.length d0', .slice a3 (cut m).length c3, .slice a4 (numP (knoP [] (cutP l (cut l))) (cutP m (cut m))).length c4] 53)
    have q8 := (Cls.new w1 53 #[.slice a0 l.length c0, .slice a1 (cut l).length c1, .slice a2 (numP [] (cutP l (cut l))).length c2]).alloc (.cells #[.slice b0 m.length d0', .slice a3 (cut m).length c3, .slice a4 (numP (knoP [] (cutP l (cut l))) (cutP m (cut m))).length c4] 53)
    have q9 := Cls.new (w1.alloc (.cells #[.slice a0 l.length c0, .slice a1 (cut l).length c1, .slice a2 (numP [] (cutP l (cut l))).length c2] 53)) 53 #[.slice b0 m.length d0', .slice a3 (cut m).length c3, .slice a4 (numP (knoP [] (cutP l (cut l))) (cutP m (cut m))).length c4]
    simp only [World.size_alloc] at q9
    obtain ⟨x0, x1, x2⟩ := q8.three
    obtain ⟨y0, y1, y2⟩ := q9.three
    have hCH := changed_at a0 c0 l b0 d0' m a1 a2 a3 a4 c1 c2 c3 c4 (cut l) (numP [] (cutP l (cut l))) (cut m) (numP (knoP [] (cutP l (cut l))) (cutP m (cut m))) _ ((unhide HB).below b3 (Nat.le_refl _)) (i1.below e3 (Nat.le_refl _)) (i2.below e3 (Nat.le_refl _)) (i3.below e3 (Nat.le_refl _)) (i4.below e3 (Nat.le_refl _)) (unhide HOK).1 (unhide HOK).2 nl1 nl2 k2 k4 (by omega) (by omega)
    rw [hxx] at hCH
    unfold pcV at hCH
    have HCH := hide hCH
    have HB3 := hide b3
    have HN := hide (And.intro nl1 nl2)
    have hle := runs_len (cutP l (cut l)) (cutP m (cut m))
    have hlc := chsR_len (cut l) (cut m) m (runsL (cutP l (cut l)) (cutP m (cut m))) _ (Nat.le_refl _)
    rw [List.take_length] at hlc
    have hcn := cutP_cnt (unhide HOK).1
    have HLC : Hid ((chsR (cut l) (cut m) m (runsL (cutP l (cut l)) (cutP m (cut m)))).2.2.length ≤ 4398046511104) := hide (by omega)
    have hof := ofD_least (unhide HOK).1 (unhide HOK).2 (show l.length ≤ 268435456 by omega) (show m.length ≤ 268435456 by omega)
    have HOF := hide hof
    have HTB : Hid (∀ o ∈ (chsR (cut l) (cut m) m (runsL (cutP l (cut l)) (cutP m (cut m)))).2.2, TbD o) := hide (by
      rw [(least_is (unhide HOK).1 (unhide HOK).2).1]
      exact chsN_tb (unhide HBB) _ _ _)
    have HAC := hide (And.intro hA hC)
    clear hCH b2 b3 e2 e3 q8 q9 hb1 i1 i2 i3 i4 k2 k4 nl1 nl2 hle hlc hcn hof hA hC hxx
    have t1 : decide ((l.length : Int) > 268435456) = false := decide_eq_false (by omega)
    have t2 : decide ((m.length : Int) > 268435456) = false := decide_eq_false (by omega)
    have t3 : decide ((268435456 : Int) < (l.length : Int)) = false := decide_eq_false (by omega)
    have t4 : decide ((268435456 : Int) < (m.length : Int)) = false := decide_eq_false (by omega)
    go_wp2_with fail
    all_goals
      refine (unhide HCH).mono ?_
      rintro y w4 ⟨v, rfl, hb4, hr4⟩
      obtain ⟨av, cv, rfl, hv4, _⟩ := own_isOD hr4
      dsimp only
      have HO := hide (Of_atD av cv (l.length : Int) _ 0 w4 hv4 (unhide HLC) (unhide HOF).1)
      rw [(unhide HOF).2] at HO
      have HB4 := hide ((unhide HB3).trans (hb4.mono (unhide HB3).size))
      clear hb4 hr4 hv4 x0 x1 x2 y0 y1 y2 HCH
      go_wp2_with fail
      refine (unhide HO).mono ?_
      rintro y w5 ⟨v5, rfl, hr5, hb5⟩
      dsimp only at hr5 ⊢
      have HB5 := hide ((unhide HB4).trans (hb5.mono (unhide HB4).size))
      have HR5 := hide (row_baseS hr5 (unhide HB4).size)
      clear HO hb5 hr5
      go_wp2_with fail
      exact bodyPost_ret (results_tmp2 rfl _ _ _) rfl ⟨unhide HB5, .inr ⟨(unhide HAC).1, (unhide HAC).2, v5, rfl, unhide HR5⟩⟩
end Go.Proofs.YtecfojkaoibldaaDoor
end

section
namespace Go.Proofs.YtecfojkaoibldaaDoor
open Go.ChangeShapes Go.WideShapes Go.ChangeAt Go.RowKit
attribute [local go_sem] Oper.semAt_some

theorem cutF_steps {w : World} {a0 : Option Addr} {c0 : Nat} {l : List Int} (hB : IsB w a0 c0 l) (hT : Tab w) : CutF 27 cutS w a0 c0 l := by
  have e : (cutS l).length = (spots l 0).length + 1 := by simp [cutS]
  refine ⟨fun X hX => (stepCuts_at a0 c0 l X (hB.below hX (Nat.le_refl _)) (hT.below hX hT.size)).mono ?_, cutS_ok l⟩
  rintro y X' ⟨a', n', c', rfl, hb, h⟩
  refine ⟨a', n', c', ?_, hb, fun g => h (by omega)⟩
  rw [show decide ((cutS l).length ≤ 2049) = decide ((spots l 0).length ≤ 2048) by rw [decide_eq_decide]; omega]
theorem cutF_lines {w : World} {a0 : Option Addr} {c0 : Nat} {l : List Int} (hB : IsB w a0 c0 l) (hl : l.length ≤ 1048576) : CutF 31 cutN w a0 c0 l :=
  ⟨fun X hX => lineCuts_at a0 c0 l X (hB.below hX (Nat.le_refl _)) hl, cutN_ok l⟩
/-- what Least and Lines answer -/
def LeastP (w w' : World) (y : Ending) (cut : List Int → List Nat) (l m : List Int) : Prop := Below w.heap.size w w' ∧
  ((¬ ((cut l).length ≤ 2049 ∧ (cut m).length ≤ 2049) ∧ y = .returned (.tuple #[.slice none 0 0, .int .i64 190])) ∨
   ((cut l).length ≤ 2049 ∧ (cut m).length ≤ 2049 ∧ ∃ v, y = .returned (.tuple #[v, .int .i64 0]) ∧ w'.ownsRow w.heap.size 38 3 v (leastD l m (cut l) (cut m)).length (opsV (leastD l m (cut l) (cut m)))))
set_option maxRecDepth 100000 in
set_option maxHeartbeats 1000000 in
theorem Least_at (a0 : Option Addr) (c0 : Nat) (l : List Int) (b0 : Option Addr) (d0' : Nat) (m : List Int) (w : World) (hB : IsB w a0 c0 l) (hB' : IsB w b0 d0' m) (hT : Tab w) (zl : l.length ≤ 1048576) (zm : m.length ≤ 1048576) :
    Calls Tryd.prog 14 #[.slice a0 l.length c0, .slice b0 m.length d0'] w fun y w' => LeastP w w' y cutS l m := by
  have HC := hide (leading_at 27 cutS a0 c0 l b0 d0' m w (enters_of Tryd.func27 (by kernel_rfl) rfl) (cutF_steps hB hT) (cutF_steps hB' hT) hB hB' zl zm)
  clear hB hB' hT
  go_enter Tryd.func14, Tryd.ntmps14
  go_wp2_with fail
  refine (unhide HC).mono ?_
  rintro y w1 ⟨hb, ⟨hno, rfl⟩ | ⟨h1, h2, v, rfl, ho⟩⟩
  · dsimp only
    clear HC
    go_wp2_with fail
    exact bodyPost_ret (results_tmp2 rfl _ _ _) rfl ⟨hb, .inl ⟨hno, rfl⟩⟩
  · dsimp only
    have HO := hide ho
    clear HC ho
    go_wp2_with fail
    exact bodyPost_ret (results_tmp2 rfl _ _ _) rfl ⟨hb, .inr ⟨h1, h2, v, rfl, unhide HO⟩⟩
set_option maxRecDepth 100000 in
set_option maxHeartbeats 1000000 in
theorem LinesD_at (a0 : Option Addr) (c0 : Nat) (l : List Int) (b0 : Option Addr) (d0' : Nat) (m : List Int) (w : World) (hB : IsB w a0 c0 l) (hB' : IsB w b0 d0' m) (zl : l.length ≤ 1048576) (zm : m.length ≤ 1048576) :
    Calls Tryd.prog 15 #[.slice a0 l.length c0, .slice b0 m.length d0'] w fun y w' => LeastP w w' y cutN l m := by
  have HC := hide (leading_at 31 cutN a0 c0 l b0 d0' m w (enters_of Tryd.func31 (by kernel_rfl) rfl) (cutF_lines hB zl) (cutF_lines hB' zm) hB hB' zl zm)
  clear hB hB'
  go_enter Tryd.func15, Tryd.ntmps15
  go_wp2_with fail
  refine (unhide HC).mono ?_
  rintro y w1 ⟨hb, ⟨hno, rfl⟩ | ⟨h1, h2, v, rfl, ho⟩⟩
  · dsimp only
    clear HC
    go_wp2_with fail
    exact bodyPost_ret (results_tmp2 rfl _ _ _) rfl ⟨hb, .inl ⟨hno, rfl⟩⟩
  · dsimp only
    have HO := hide ho
    clear HC ho
    go_wp2_with fail
    exact bodyPost_ret (results_tmp2 rfl _ _ _) rfl ⟨hb, .inr ⟨h1, h2, v, rfl, unhide HO⟩⟩
theorem sumR_take (L : List (Nat × Nat × Nat)) {k : Nat} (hk : k < L.length) : sumR (L.take (k + 1)) = sumR (L.take k) + (L.getD k (0, 0, 0)).2.2 := by
  unfold sumR
  rw [List.take_add_one, List.map_append, List.sum_append, List.getElem?_eq_getElem hk]
  simp [List.getD, List.getElem?_eq_getElem hk]
theorem sumR_le (L : List (Nat × Nat × Nat)) (k : Nat) : sumR (L.take k) ≤ sumR L := by
  have h : sumR L = sumR (L.take k) + sumR (L.drop k) := by
    unfold sumR
    rw [← List.sum_append, ← List.map_append, List.take_append_drop]
  omega
/-- how many pieces stand alone -/
def aloN (cut : List Int → List Nat) (l m : List Int) : Nat := (cutP l (cut l)).length + (cutP m (cut m)).length - 2 * lcs (cutP l (cut l)) (cutP m (cut m))
set_option maxRecDepth 100000 in
set_option maxHeartbeats 4000000 in
theorem Distance_at (a0 : Option Addr) (c0 : Nat) (l : List Int) (b0 : Option Addr) (d0' : Nat) (m : List Int) (w : World) (hB : IsB w a0 c0 l) (hB' : IsB w b0 d0' m) (hT : Tab w) :
    Calls Tryd.prog 11 #[.slice a0 l.length c0, .slice b0 m.length d0'] w fun y w' => Below w.heap.size w w' ∧
      ((¬ ((cutS l).length ≤ 2049 ∧ (cutS m).length ≤ 2049) ∧ y = .returned (.tuple #[.int .i64 0, .int .i64 190])) ∨ ((cutS l).length ≤ 2049 ∧ (cutS m).length ≤ 2049 ∧ y = .returned (.tuple #[.int .i64 (aloN cutS l m : Int), .int .i64 0]))) := by
  have HC := hide (cutBoth_at 27 cutS a0 c0 l b0 d0' m w (enters_of Tryd.func27 (by kernel_rfl) rfl) (cutF_steps hB hT) (cutF_steps hB' hT) hB hB')
  clear hB hB' hT
  go_enter Tryd.func11, Tryd.ntmps11
  go_wp2_with fail
  refine (unhide HC).mono ?_
  rintro y w1 ⟨hb1, ⟨hno, rfl⟩ | ⟨hA, hC, a1, c1, a2, c2, a3, c3, a4, c4, rfl, ⟨i1, i2, k2⟩, i3, i4, k4⟩⟩
  · dsimp only
    have HBx := hide ((hb1.alloc hb1.size (.cells #[.slice none 0 0, .slice none 0 0, .slice none 0 0] 53)).alloc (by have := hb1.size; simp; omega) (.cells #[.slice none 0 0, .slice none 0 0, .slice none 0 0] 53))
    clear HC hb1
    go_wp2_with fail
    exact bodyPost_ret (results_tmp2 rfl _ _ _) rfl ⟨unhide HBx, .inl ⟨hno, rfl⟩⟩
  · dsimp only
    clear HC i1 i3
    have hlc := num_runs (cutP l (cutS l)) (cutP m (cutS m))
    have nl1 : (numP [] (cutP l (cutS l))).length = (cutP l (cutS l)).length := num_len _ _
    have nl2 : (numP (knoP [] (cutP l (cutS l))) (cutP m (cutS m))).length = (cutP m (cutS m)).length := num_len _ _
    have cl1 := cutP_cnt (cutS_ok l)
    have cl2 := cutP_cnt (cutS_ok m)
    have hsum := runs_sum (cutP l (cutS l)) (cutP m (cutS m))
    have hlen := lcs_len (cutP l (cutS l)) (cutP m (cutS m))
    generalize numP (knoP [] (cutP l (cutS l))) (cutP m (cutS m)) = n2 at *
    generalize numP [] (cutP l (cutS l)) = n1 at *
    have b2 : Below w.heap.size w (w1.alloc (.cells #[.slice a0 l.length c0, .slice a1 (cutS l).length c1, .slice a2 n1.length c2] 53)) := hb1.alloc hb1.size _
    have b3 := b2.alloc b2.size (.cells #[.slice b0 m.length d0', .slice a3 (cutS m).length c3, .slice a4 n2.length c4] 53)
    have e2 : Below w1.heap.size w1 (w1.alloc (.cells #[.slice a0 l.length c0, .slice a1 (cutS l).length c1, .slice a2 n1.length c2] 53)) := (Below.refl _ _).alloc (Nat.le_refl _) _
    have e3 := e2.alloc e2.size (.cells #[.slice b0 m.length d0', .slice a3 (cutS m).length c3, .slice a4 n2.length c4] 53)
    have q8 := (Cls.new w1 53 #[.slice a0 l.length c0, .slice a1 (cutS l).length c1, .slice a2 n1.length c2]).alloc (.cells #[.slice b0 m.length d0', .slice a3 (cutS m).length c3, .slice a4 n2.length c4] 53)
    have q9 := Cls.new (w1.alloc (.cells #[.slice a0 l.length c0, .slice a1 (cutS l).length c1, .slice a2 n1.length c2] 53)) 53 #[.slice b0 m.length d0', .slice a3 (cutS m).length c3, .slice a4 n2.length c4]
    simp only [World.size_alloc] at q9
    obtain ⟨x0, x1, x2⟩ := q8.three
    obtain ⟨y0, y1, y2⟩ := q9.three
    have HCM := hide (common_at a2 c2 n1 a4 c4 n2 _ (i2.below e3 (Nat.le_refl _)) (i4.below e3 (Nat.le_refl _)) k2 k4 (by omega) (by omega))
    have HB3 := hide b3
    have HAN : Hid (aloN cutS l m = n1.length + n2.length - 2 * sumR (runsL n1 n2)) := hide (by unfold aloN; rw [hlc.1, hsum, nl1, nl2])
    have hS : sumR (runsL n1 n2) ≤ n1.length ∧ sumR (runsL n1 n2) ≤ n2.length := by rw [hlc.1, hsum]; omega
    have z1 : n1.length ≤ 2048 := by omega
    have z2 : n2.length ≤ 2048 := by omega
    have HAC := hide (And.intro hA hC)
    have hLl := runs_len n1 n2
    clear b2 b3 e2 e3 q8 q9 hb1 i2 i4 k2 k4 hlc nl1 nl2 cl1 cl2 hsum hlen hA hC
    go_wp2_with fail
    refine (unhide HCM).mono ?_
    rintro e w3 ⟨vR, kR, rfl, hR, hb3⟩
    dsimp only
    obtain ⟨aR, cR, rfl, hru⟩ := ra_runs hR
    have HRU := hide hru
    have HB4 := hide ((unhide HB3).trans (hb3.mono (unhide HB3).size))
    clear HCM hR hb3 hru x0 x1 x2 y0 y1 y2 HB3
    generalize runsL n1 n2 = L at *
    have t0 : (n1.length : Int) + (n2.length : Int) = (n1.length : Int) + (n2.length : Int) - 2 * (sumR (L.take 0) : Int) := by simp [sumR]
    have HT0 : Hid (Value.int .i64 ((n1.length : Int) + (n2.length : Int)) = .int .i64 ((n1.length : Int) + (n2.length : Int) - 2 * (sumR (L.take 0) : Int))) := hide (by rw [← t0])
    clear t0
    go_wp2_with fail
    go_loopw [9, 11, 35] (fun v9 v11 v35 wx => (∃ z, v11 = z) ∧ ∃ k : Nat, v35 = .int .i64 (k : Int) ∧ k ≤ L.length ∧ v9 = .int .i64 ((n1.length : Int) + (n2.length : Int) - 2 * (sumR (L.take k) : Int)) ∧ Hid (Below w3.heap.size w3 wx)) (fun _ _ v35 _ => L.length - (intOf v35).toNat)
    case atStart => exact ⟨⟨_, rfl⟩, 0, rfl, Nat.zero_le _, unhide HT0, hide (Below.refl _ _)⟩
    case round =>
      clear HT0
      obtain ⟨⟨z, rfl⟩, k, rfl, hk, rfl, HX⟩ := hrel
      by_cases h1 : k < L.length
      · have t1 : decide ((k : Int) < (L.length : Int)) = true := decide_eq_true (by omega)
        have f1 : (k : Int) < (L.length : Int) := by omega
        obtain ⟨gr, offr, rfl, hgr, e0, e1, e2⟩ := ((unhide HRU).below (unhide HX) (Nat.le_refl _)).at h1
        have hst := sumR_take L h1
        have hle := sumR_le L (k + 1)
        have HNX := hide ((unhide HX).alloc (unhide HX).size (.cells #[.int .i64 ((L.getD k (0, 0, 0)).1 : Int), .int .i64 ((L.getD k (0, 0, 0)).2.1 : Int), .int .i64 ((L.getD k (0, 0, 0)).2.2 : Int)] 60))
        have dd := (Cls.new wr 60 #[.int .i64 ((L.getD k (0, 0, 0)).1 : Int), .int .i64 ((L.getD k (0, 0, 0)).2.1 : Int), .int .i64 ((L.getD k (0, 0, 0)).2.2 : Int)]).three
        obtain ⟨d0, d1, d2⟩ := dd
        have hsk := sumR_le L k
        generalize L.getD k (0, 0, 0) = rn at *
        obtain ⟨p, q, n⟩ := rn
        dsimp only at e0 e1 e2 hst HNX d0 d1 d2
        have hn : n ≤ 2048 := by omega
        have e9 : (n1.length : Int) + (n2.length : Int) - 2 * (sumR (L.take k) : Int) - 2 * (n : Int) = (n1.length : Int) + (n2.length : Int) - 2 * (sumR (L.take (k + 1)) : Int) := by omega
        have HE9 : Hid (Value.int .i64 ((n1.length : Int) + (n2.length : Int) - 2 * (sumR (L.take k) : Int) - 2 * (n : Int)) = .int .i64 ((n1.length : Int) + (n2.length : Int) - 2 * (sumR (L.take (k + 1)) : Int))) := hide (by rw [e9])
        clear hst e9
        generalize sumR (L.take k) = Sk at *
        go_wp2_with fail
        go_roundw
        case rel => exact ⟨⟨_, rfl⟩, k + 1, by go_num, h1, unhide HE9, HNX⟩
        case measure => simp [intOf]; omega
      · have t1 : decide ((k : Int) < (L.length : Int)) = false := decide_eq_false (by omega)
        have hv : (n1.length : Int) + (n2.length : Int) - 2 * (sumR (L.take k) : Int) = (aloN cutS l m : Int) := by
          rw [unhide HAN, List.take_of_length_le (by omega)]; omega
        rw [hv]
        go_wp2_with fail
        exact bodyPost_ret (results_tmp2 rfl _ _ _) rfl ⟨(unhide HB4).trans ((unhide HX).mono (unhide HB4).size), .inr ⟨(unhide HAC).1, (unhide HAC).2, rfl⟩⟩
end Go.Proofs.YtecfojkaoibldaaDoor
end
