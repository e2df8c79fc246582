/- Layer 13: checked and Of. -/
import Derived.Test.YtkmbkoajbmlgaaaMg22
import Derived.Test.YtkmbkoajbmlgaaaMg27
import Derived.BigQuiet

namespace Go.Proofs.Ytkmbkoajbmlgaaa
open Go.ChangeShapes Go.WideShapes Go.ChangeAt Go.RowKit
attribute [local go_sem] Oper.semAt_some

/-- what is wrong with a change -/
def badC (n : Int) (c : Dop) : Prop := c.k < 0 ∨ c.k > c.n ∨ c.n > n
def crsC (cs : List Dop) (k : Nat) : Prop := (cs.getD (k + 1) opZ).k < (cs.getD k opZ).n
/-- the error that Of begins with -/
structure ErrC (n : Int) (cs : List Dop) (E : Int) : Prop where
  a : (n < 0 ∨ n > 268435456) → E = 2
  b : ¬ (n < 0 ∨ n > 268435456) → (∃ k, k < cs.length ∧ badC n (cs.getD k opZ)) → E = 2
  c : ¬ (n < 0 ∨ n > 268435456) → (∀ k, k < cs.length → ¬ badC n (cs.getD k opZ)) → (∃ k, k + 1 < cs.length ∧ crsC cs k) → E = 120
  d : ¬ (n < 0 ∨ n > 268435456) → (∀ k, k < cs.length → ¬ badC n (cs.getD k opZ)) → (∀ k, k + 1 < cs.length → ¬ crsC cs k) → E = 0
theorem errC_is (n : Int) (cs : List Dop) : ∃ E, ErrC n cs E := by
  by_cases h1 : n < 0 ∨ n > 268435456
  · exact ⟨2, fun _ => rfl, fun h => absurd h1 h, fun h => absurd h1 h, fun h => absurd h1 h⟩
  by_cases h2 : ∃ k, k < cs.length ∧ badC n (cs.getD k opZ)
  · obtain ⟨k, hk, hb⟩ := h2
    exact ⟨2, fun _ => rfl, fun _ _ => rfl, fun _ h => absurd hb (h k hk), fun _ h => absurd hb (h k hk)⟩
  by_cases h3 : ∃ k, k + 1 < cs.length ∧ crsC cs k
  · obtain ⟨k, hk, hb⟩ := h3
    exact ⟨120, fun h => absurd h h1, fun _ h => absurd h h2, fun _ _ _ => rfl, fun _ _ h => absurd hb (h k hk)⟩
  · exact ⟨0, fun h => absurd h h1, fun _ h => absurd h h2, fun _ _ h => absurd h h3, fun _ _ _ => rfl⟩
theorem errC_ok {n : Int} {cs : List Dop} {E : Int} (h : ErrC n cs E) : (E = 0 ∧ (0 ≤ n ∧ n ≤ 268435456) ∧ okL 0 cs n) ∨ (E ≠ 0) := by
  by_cases h1 : n < 0 ∨ n > 268435456
  · exact .inr (by rw [h.a h1]; decide)
  by_cases h2 : ∃ k, k < cs.length ∧ badC n (cs.getD k opZ)
  · exact .inr (by rw [h.b h1 h2]; decide)
  have h2' : ∀ k, k < cs.length → ¬ badC n (cs.getD k opZ) := fun k hk hb => h2 ⟨k, hk, hb⟩
  by_cases h3 : ∃ k, k + 1 < cs.length ∧ crsC cs k
  · exact .inr (by rw [h.c h1 h2' h3]; decide)
  · have h3' : ∀ k, k + 1 < cs.length → ¬ crsC cs k := fun k hk hb => h3 ⟨k, hk, hb⟩
    refine .inl ⟨h.d h1 h2' h3', by omega, okL_of cs 0 n (by omega) (fun c hc => ?_) (fun k hk => ?_) h3'⟩
    · cases cs with
      | nil => simp at hc
      | cons c' r =>
        simp only [List.head?_cons, Option.some.injEq] at hc
        subst hc
        have := h2' 0 (by simp)
        unfold badC at this
        simp at this
        omega
    · have := h2' k hk
      unfold badC at this
      omega
theorem last_arith' (j : Nat) {L : Nat} (hl : L ≤ 4398046511104) (h : j + 1 < L) : wrap64 (((j + 1 : Nat) : Int) - 1) = (j : Int) ∧ True := ⟨by rw [wrapD _ (by omega) (by omega)]; omega, trivial⟩
theorem bad_tests (n : Int) (c : Dop) : (badC n c ∧ (decide (c.k < 0) = true ∨ (decide (c.k < 0) = false ∧ decide (c.k > c.n) = true ∧ decide (c.n < c.k) = true) ∨ (decide (c.k < 0) = false ∧ decide (c.k > c.n) = false ∧ decide (c.n < c.k) = false ∧ decide (c.n > n) = true ∧ decide (n < c.n) = true))) ∨
    (¬ badC n c ∧ decide (c.k < 0) = false ∧ decide (c.k > c.n) = false ∧ decide (c.n < c.k) = false ∧ decide (c.n > n) = false ∧ decide (n < c.n) = false) := by
  unfold badC
  by_cases h1 : c.k < 0
  · exact .inl ⟨.inl h1, .inl (decide_eq_true h1)⟩
  by_cases h2 : c.k > c.n
  · exact .inl ⟨.inr (.inl h2), .inr (.inl ⟨decide_eq_false h1, decide_eq_true h2, decide_eq_true h2⟩)⟩
  by_cases h3 : c.n > n
  · exact .inl ⟨.inr (.inr h3), .inr (.inr ⟨decide_eq_false h1, decide_eq_false h2, decide_eq_false (by omega), decide_eq_true h3, decide_eq_true h3⟩)⟩
  · exact .inr ⟨by omega, decide_eq_false h1, decide_eq_false h2, decide_eq_false (by omega), decide_eq_false h3, decide_eq_false (by omega)⟩
set_option maxRecDepth 100000 in
set_option maxHeartbeats 4000000 in
theorem checked_at (a : Option Addr) (c : Nat) (n : Int) (cs : List Dop) (E : Int) (w : World) (h : IsO w a cs) (hl : cs.length ≤ 4398046511104) (hE : ErrC n cs E) :
    Calls Try.prog 63 #[.int .i64 n, .slice a cs.length c] w fun y w' => y = .returned (.int .i64 E) ∧ Below w.heap.size w w' := by
  have HO := hide fun (X : World) (hx : Below w.heap.size w X) => h.below hx (Nat.le_refl _)
  have HE := hide hE
  clear hE h
  by_cases hn1 : n < 0
  · have HV := hide ((unhide HE).a (.inl hn1))
    have t1 : decide (n < 0) = true := decide_eq_true hn1
    clear HE HO hn1
    go_enter Try.func63, Try.ntmps63
    go_wp2_with fail
    rw [unhide HV]
    refine bodyPost_ret (results_tmp rfl _ _ _) rfl ⟨rfl, Below.refl _ _⟩
  by_cases hn2 : n > 268435456
  · have HV := hide ((unhide HE).a (.inr hn2))
    have t1 : decide (n < 0) = false := decide_eq_false hn1
    have t2 : decide (n > 268435456) = true := decide_eq_true hn2
    have t3 : decide (268435456 < n) = true := decide_eq_true hn2
    clear HE HO hn1 hn2
    go_enter Try.func63, Try.ntmps63
    go_wp2_with fail
    rw [unhide HV]
    refine bodyPost_ret (results_tmp rfl _ _ _) rfl ⟨rfl, Below.refl _ _⟩
  have HEb := hide ((unhide HE).b (by omega))
  have HEc := hide ((unhide HE).c (by omega))
  have HEd := hide ((unhide HE).d (by omega))
  have t1 : decide (n < 0) = false := decide_eq_false hn1
  have t2 : decide (n > 268435456) = false := decide_eq_false hn2
  have t3 : decide (268435456 < n) = false := decide_eq_false hn2
  clear HE hn1 hn2
  go_enter Try.func63, Try.ntmps63
  go_wp2_with fail
  go_loopw [6, 16] (fun v6 v16 wx => (∃ z, v6 = z) ∧ (∃ k : Nat, v16 = .int .i64 (k : Int) ∧ k ≤ cs.length ∧ Hid ((∀ i, i < k → ¬ badC n (cs.getD i opZ)) ∧ Below w.heap.size w wx))) (fun _ v16 _ => cs.length - (intOf v16).toNat)
  case atStart => exact ⟨⟨_, rfl⟩, ⟨0, rfl, Nat.zero_le _, hide ⟨fun i hi => absurd hi (Nat.not_lt_zero i), Below.refl _ _⟩⟩⟩
  case round =>
    obtain ⟨⟨z1, rfl⟩, ⟨k, rfl, hk, HI⟩⟩ := hrel
    by_cases hlt : k < cs.length
    · have s1 : decide ((k : Int) < (cs.length : Int)) = true := decide_eq_true (by omega)
      obtain ⟨g, off, rfl, hg, c0, c1, c2⟩ := (unhide HO wr (unhide HI).2).three hlt
      have HT := hide (bad_tests n (cs.getD k opZ))
      have HN : Hid (¬ badC n (cs.getD k opZ) → ∀ i, i < k + 1 → ¬ badC n (cs.getD i opZ)) := hide fun h0 i hi => by
        rcases Nat.lt_or_ge i k with h | h
        · exact (unhide HI).1 i h
        · obtain rfl : i = k := by omega
          exact h0
      have HV : Hid (badC n (cs.getD k opZ) → E = 2) := hide fun h0 => unhide HEb ⟨k, hlt, h0⟩
      generalize cs.getD k opZ = x at *
      obtain ⟨xk, xn, xt⟩ := x
      dsimp only at c0 c1 c2 HT
      obtain ⟨d0, d1, d2⟩ := three_nwD wr (.int .i64 xk) (.int .i64 xn) (.string (strOfNums xt)) (t := 56)
      have HB := hide ((unhide HI).2.alloc (unhide HI).2.size (.cells #[.int .i64 xk, .int .i64 xn, .string (strOfNums xt)] 56))
      generalize strOfNums xt = st at *
      clear HI HEb HEc HEd HO hk
      go_upto_region 6 with fail
      clear c0 c1 c2 d2
      generalize wr.alloc (.cells #[.int .i64 xk, .int .i64 xn, .string st] 56) = v0 at *
      generalize wr.heap.size = gb at *
      rcases unhide HT with ⟨hb, s2 | ⟨s2, s3, s4⟩ | ⟨s2, s3, s4, s5, s6⟩⟩ | ⟨hb, s2, s3, s4, s5, s6⟩
      · have HV2 := hide (unhide HV hb)
        clear HT HV HN hb
        go_wp2_with fail
        rw [unhide HV2]
        refine bodyPost_ret (results_tmp rfl _ _ _) rfl ⟨rfl, unhide HB⟩
      · have HV2 := hide (unhide HV hb)
        clear HT HV HN hb
        go_wp2_with fail
        rw [unhide HV2]
        refine bodyPost_ret (results_tmp rfl _ _ _) rfl ⟨rfl, unhide HB⟩
      · have HV2 := hide (unhide HV hb)
        clear HT HV HN hb
        go_wp2_with fail
        rw [unhide HV2]
        refine bodyPost_ret (results_tmp rfl _ _ _) rfl ⟨rfl, unhide HB⟩
      · have HN2 := hide (unhide HN hb)
        clear HT HV HN hb
        go_wp2_with fail
        go_roundw
        case rel => exact ⟨⟨_, rfl⟩, ⟨k + 1, by go_num, hlt, hide ⟨unhide HN2, unhide HB⟩⟩⟩
        case measure => simp [intOf]; omega
    · obtain rfl : k = cs.length := by omega
      have s1 : decide ((cs.length : Int) < (cs.length : Int)) = false := decide_eq_false (by omega)
      have HEc := hide (unhide HEc (unhide HI).1)
      have HEd := hide (unhide HEd (unhide HI).1)
      have HB := hide (unhide HI).2
      clear HI HEb hk hlt t1 t2 t3
      go_wp2_with fail
      clear s1
      go_loopw [7] (fun v7 wx => (∃ k : Nat, v7 = .int .i64 (k : Int) ∧ 1 ≤ k ∧ (k = 1 ∨ k ≤ cs.length) ∧ Hid ((∀ i, i + 1 < k → ¬ crsC cs i) ∧ Below w.heap.size w wx))) (fun v7 _ => cs.length + 1 - (intOf v7).toNat)
      case atStart => exact ⟨1, rfl, Nat.le_refl _, .inl rfl, hide ⟨fun i hi => absurd hi (by omega), unhide HB⟩⟩
      case round =>
        clear HB
        obtain ⟨k, rfl, hk1, hk2, HI⟩ := hrel
        by_cases hlt : k < cs.length
        · have s1 : decide ((k : Int) < (cs.length : Int)) = true := decide_eq_true (by omega)
          obtain ⟨j, rfl⟩ : ∃ j, k = j + 1 := ⟨k - 1, by omega⟩
          obtain ⟨g, off, rfl, hg, c0, c1, c2⟩ := (unhide HO wr (unhide HI).2).three hlt
          obtain ⟨g', off', he, hg', b0', b1, b2⟩ := (unhide HO wr (unhide HI).2).three (k := j) (by omega)
          obtain ⟨rfl, rfl⟩ : g = g' ∧ off = off' := by cases he; exact ⟨rfl, rfl⟩
          clear he b0' b2 c1 c2 hg hg'
          have HCR : Hid (crsC cs j ↔ (cs.getD (j + 1) opZ).k < (cs.getD j opZ).n) := hide Iff.rfl
          have HV : Hid (crsC cs j → E = 120) := hide fun h0 => unhide HEc ⟨j, hlt, h0⟩
          have HN : Hid (¬ crsC cs j → ∀ i, i + 1 < j + 2 → ¬ crsC cs i) := hide fun h0 i hi => by
            rcases Nat.lt_or_ge i j with h | h
            · exact (unhide HI).1 i (by omega)
            · obtain rfl : i = j := by omega
              exact h0
          have HB := hide (unhide HI).2
          have e5 := (last_arith' j hl hlt).1
          have hlt' : j < cs.length := by omega
          have hlt2 : (j : Int) < (cs.length : Int) := by omega
          clear HI HEc HEd HO hk1 hk2
          generalize (cs.getD (j + 1) opZ).k = xk at *
          generalize (cs.getD j opZ).n = xn at *
          generalize hK : j + 1 = K at *
          have hK0 : (0 : Int) ≤ (K : Int) := by omega
          have hK1 : (K : Int) < (cs.length : Int) := by omega
          have hj0 : (0 : Int) ≤ (j : Int) := by omega
          have e6 : (K : Int) - 1 = (j : Int) := by omega
          have e7 : wrap64 (j : Int) = (j : Int) := wrapD _ (by omega) (by omega)
          by_cases hx : xk < xn
          · have HV2 := hide (unhide HV ((unhide HCR).2 hx))
            have s2 : decide (xk < xn) = true := decide_eq_true hx
            clear HV HN HCR hx hK
            go_upto_region 12 with fail
            go_quiet (fail)
            go_wp2_with fail
            rw [unhide HV2]
            refine bodyPost_ret (results_tmp rfl _ _ _) rfl ⟨rfl, below_drewN (unhide HB) _⟩
          · have HN2 := hide (unhide HN (fun h0 => hx ((unhide HCR).1 h0)))
            rw [show j + 2 = K + 1 by omega] at HN2
            have s2 : decide (xk < xn) = false := decide_eq_false hx
            clear HV HN HCR hx hK
            go_upto_region 12 with fail
            go_quiet (fail)
            go_wp2_with fail
            go_roundw
            case rel => exact ⟨K + 1, by go_num, by omega, .inr hlt, hide ⟨unhide HN2, below_drewN (unhide HB) _⟩⟩
            case measure => simp [intOf]; omega
        · have s1 : decide ((k : Int) < (cs.length : Int)) = false := decide_eq_false (by omega)
          have HV := hide (unhide HEd (fun i hi => (unhide HI).1 i (by omega)))
          have HB := hide (unhide HI).2
          have s1' : decide (k < cs.length) = false := decide_eq_false hlt
          clear HEc HEd HI HO hk1 hk2
          go_wp2_with fail
          rw [unhide HV]
          refine bodyPost_ret (results_tmp rfl _ _ _) rfl ⟨rfl, unhide HB⟩

/-- what Of answers -/
def ofD (n : Int) (cs : List Dop) (E : Int) : List Dop × Int := if E = 0 then (if 268435456 < toD (opsC n cs) then ([], 5) else (canA (dA (opsC n cs)), 0)) else ([], E)
set_option maxRecDepth 100000 in
set_option maxHeartbeats 2000000 in
theorem Of_atD (a : Option Addr) (c : Nat) (n : Int) (cs : List Dop) (E : Int) (w : World) (h : IsO w a cs) (hl : cs.length ≤ 4398046511104) (hE : ErrC n cs E) :
    Calls Try.prog 19 #[.int .i64 n, .slice a cs.length c] w fun y w' => ∃ v, y = .returned (.tuple #[v, .int .i64 (ofD n cs E).2]) ∧ w'.ownsRow w.heap.size 34 3 v (ofD n cs E).1.length (opsV (ofD n cs E).1) ∧ Below w.heap.size w w' := by
  have HC := hide (checked_at a c n cs E w h hl hE)
  have hOk := errC_ok hE
  obtain ⟨L, R, hLR⟩ : ∃ L R, ofD n cs E = (L, R) := ⟨_, _, rfl⟩
  rw [hLR]
  dsimp only
  unfold ofD at hLR
  by_cases h0 : E = 0
  · rcases hOk with ⟨_, hn, hok⟩ | hne
    · rw [if_pos h0] at hLR
      subst h0
      obtain ⟨s1, s2⟩ := opsC_sizes hok
      have HZ : Hid (∀ X, Below w.heap.size w X → Calls Try.prog 64 #[.int .i64 n, .slice a cs.length c, .func (.func 65) #[.pointer (some ⟨X.heap.size, 0, none⟩)] #[], .func (.func 66) #[.pointer (some ⟨X.heap.size, 0, none⟩)] #[], .func (.func 67) #[.pointer (some ⟨X.heap.size, 0, none⟩)] #[]]
          (X.alloc (.cells #[.int .i64 0, .int .i64 0] 82)) fun y X' => y = .returned (.tuple #[]) ∧ IsZ X' X.heap.size (satD (frD (opsC n cs))) (satD (toD (opsC n cs))) ∧ Below X.heap.size X X') := hide fun X hx => by
        have ba : Below X.heap.size X (X.alloc (.cells #[.int .i64 0, .int .i64 0] 82)) := (Below.refl _ _).alloc (Nat.le_refl _) _
        exact (eachC_z a c X.heap.size X.heap.size n cs _ (fun Y hY => (h.below hx (Nat.le_refl _)).below (ba.trans hY) (Nat.le_refl _)) (Cls.new _ _ _) (Nat.le_refl _) ba.size hl hn hok).mono fun y Y ⟨e, h1, h2⟩ => ⟨e, h1, ba.trans h2⟩
      have HL := hide fun (X : World) => long_at (satD (frD (opsC n cs))) (satD (toD (opsC n cs))) X (by have := satD_le (frD (opsC n cs)); omega) (by have := satD_le (toD (opsC n cs)); omega)
      have hlo : decide (268435456 < satD (frD (opsC n cs)) ∨ 268435456 < satD (toD (opsC n cs))) = decide (268435456 < toD (opsC n cs)) := by
        have : frD (opsC n cs) ≤ 268435456 := by omega
        rw [decide_eq_decide]; unfold satD; omega
      rw [hlo] at HL
      have HE : Hid (∀ X, Below w.heap.size w X → ¬ 268435456 < toD (opsC n cs) → Calls Try.prog 64 #[.int .i64 n, .slice a cs.length c, .func (.func 57) #[.pointer (some ⟨X.heap.size, 0, none⟩)] #[], .func (.func 58) #[.pointer (some ⟨X.heap.size, 0, none⟩)] #[], .func (.func 59) #[.pointer (some ⟨X.heap.size, 0, none⟩)] #[]]
          (X.alloc (.cells #[.slice none 0 0, .int .i64 0, .slice none 0 0, .int .i64 0] 91))
          fun y X' => y = .returned (.tuple #[]) ∧ (∃ ts, IsBd X' X.heap.size X.heap.size 0 (fun _ => none) (feedA b0 (dA (opsC n cs))) ts ∧ BdOk (feedA b0 (dA (opsC n cs))) ts) ∧ Below X.heap.size X X') := hide fun X hx hto => by
        have ba : Below X.heap.size X (X.alloc (.cells #[.slice none 0 0, .int .i64 0, .slice none 0 0, .int .i64 0] 91)) := (Below.refl _ _).alloc (Nat.le_refl _) _
        refine (eachC_b a c X.heap.size X.heap.size n cs _ (fun Y hY => (h.below hx (Nat.le_refl _)).below (ba.trans hY) (Nat.le_refl _)) (bd_new X) ba.size hl hn hok (by omega)).mono fun y Y ⟨e, ⟨ts, h1⟩, h2⟩ => ⟨e, ⟨ts, h1, bd_ok h1 ?_⟩, ba.trans h2⟩
        have := dA_len (fun o ho => (opsC_ok hok o ho).1)
        omega
      clear h hl hE hok hn s1 s2 hlo
      have HLR := hide hLR
      clear hLR
      generalize satD (frD (opsC n cs)) = F at *
      generalize satD (toD (opsC n cs)) = T at *
      go_enter Try.func19, Try.ntmps19
      go_wp2_with fail
      refine (unhide HC).mono ?_
      rintro y w1 ⟨rfl, x1⟩
      dsimp only
      have HZ1 := hide (unhide HZ w1 x1)
      have HX1 := hide x1
      clear HC HZ x1
      go_upto_region 5 with fail
      generalize w1.alloc (.cells #[.int .i64 0, .int .i64 0] 82) = v1 at *
      generalize hg1 : w1.heap.size = g1 at HZ1 ⊢
      have HXg : Hid (∀ Y, Below g1 w1 Y → Below w.heap.size w Y) := hide fun Y hY => (unhide HX1).trans (hY.mono (by rw [← hg1]; exact (unhide HX1).size))
      clear hg1 HX1
      go_wp2_with fail
      refine (unhide HZ1).mono ?_
      rintro y w2 ⟨rfl, hz2, x2⟩
      dsimp only
      obtain ⟨q0, q1, _, _⟩ := hz2.cells
      have HX2 := hide (unhide HXg w2 x2)
      clear HZ1 HXg x2 hz2
      go_wp2_with fail
      refine (unhide HL w2).mono ?_
      rintro y w3 ⟨rfl, x3⟩
      dsimp only
      have HX3 := hide ((unhide HX2).trans (x3.mono (unhide HX2).size))
      clear HL HX2 x3 q0 q1
      by_cases hto : 268435456 < toD (opsC n cs)
      · have hLR := unhide HLR
        rw [if_pos hto, Prod.mk.injEq] at hLR
        obtain ⟨rfl, rfl⟩ := hLR
        rw [decide_eq_true hto]
        clear HE HLR hto
        go_wp2_with fail
        refine bodyPost_ret (results_tmp2 rfl _ _ _) rfl ⟨.slice none 0 0, rfl, row_nilD _ _, unhide HX3⟩
      · have HE3 := hide (unhide HE w3 (unhide HX3) hto)
        have HCA : Hid (canA (dA (opsC n cs)) = (feedA b0 (dA (opsC n cs))).fin) := hide rfl
        have hLR := unhide HLR
        rw [if_neg hto, Prod.mk.injEq] at hLR
        obtain ⟨hL, rfl⟩ := hLR
        rw [hL] at HCA
        rw [decide_eq_false hto]
        clear HE HLR hto hL
        go_upto_region 9 with fail
        generalize w3.alloc (.cells #[.slice none 0 0, .int .i64 0, .slice none 0 0, .int .i64 0] 91) = v3 at *
        generalize hg : w3.heap.size = g at HE3 ⊢
        have HG : Hid (w.heap.size ≤ g) := hide (by rw [← hg]; exact (unhide HX3).size)
        have HXg : Hid (∀ Y, Below g w3 Y → Below w.heap.size w Y) := hide fun Y hY => (unhide HX3).trans (hY.mono (unhide HG))
        clear hg
        go_wp2_with fail
        refine (unhide HE3).mono ?_
        rintro y w4 ⟨rfl, ⟨ts, hI, hok⟩, x4⟩
        dsimp only
        have HD := hide (bdelta_at g g 0 (fun _ => none) (feedA b0 (dA (opsC n cs))) ts w4 hI hok (Nat.le_of_lt (by obtain ⟨_, _, h1, _⟩ := hI.c; exact h1.lt)))
        rw [← unhide HCA] at HD
        have HX4 := hide x4
        clear hI hok x4 HE3
        go_wp2_with fail
        refine (unhide HD).mono ?_
        rintro y w5 ⟨v, rfl, ho, x5⟩
        dsimp only
        have HO5 : Hid (w5.ownsRow w.heap.size 34 3 v L.length (opsV L)) := hide (own_lower ho (unhide HG))
        have HX5 := hide (unhide HXg w5 ((unhide HX4).trans x5))
        clear HD ho x5
        go_wp2_with fail
        refine bodyPost_ret (results_tmp2 rfl _ _ _) rfl ⟨v, rfl, unhide HO5, unhide HX5⟩
    · exact absurd h0 hne
  · rw [if_neg h0, Prod.mk.injEq] at hLR
    obtain ⟨rfl, rfl⟩ := hLR
    have t1 : (E != 0) = true := by simpa using h0
    clear hOk h hl hE h0
    go_enter Try.func19, Try.ntmps19
    go_wp2_with fail
    refine (unhide HC).mono ?_
    rintro y w1 ⟨rfl, x1⟩
    dsimp only
    clear HC
    go_wp2_with fail
    refine bodyPost_ret (results_tmp2 rfl _ _ _) rfl ⟨.slice none 0 0, rfl, row_nilD _ _, x1⟩

end Go.Proofs.Ytkmbkoajbmlgaaa
