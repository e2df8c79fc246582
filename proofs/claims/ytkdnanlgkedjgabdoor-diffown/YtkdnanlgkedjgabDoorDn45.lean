/- Layer 13: checked and Of. · Layer 19, plain: the changes are what Of asks for, and what it makes of them. · Layer 19: leading, Least, Lines, Distance. · Layer 19: Least, Lines, Distance. · Layer 19: Cost: how many steps a delta drops and puts. -/
import Derived.Test.YtkdnanlgkedjgabDoorDn41
import Derived.Test.YtkdnanlgkedjgabDoorDn42
import Derived.BigQuiet
import Derived.Test.YtkdnanlgkedjgabDoorDn44
import Derived.Test.YtkdnanlgkedjgabDoorDn43
import Derived.Test.YtkdnanlgkedjgabDoorDn40

section
namespace Go.Proofs.YtkdnanlgkedjgabDoor
open Go.ChangeShapes Go.WideShapes Go.ChangeAt Go.RowKit
attribute [local go_sem] Oper.semAt_some

/-- what is wrong with a change -/
def badC (n : Int) (c : Dop) : Prop := c.k < 0 ∨ c.k > c.n ∨ c.n > n
def crsC (cs : List Dop) (k : Nat) : Prop := (cs.getD (k + 1) opZ).k < (cs.getD k opZ).n
/-- the error that Of begins with -/
structure ErrC (n : Int) (cs : List Dop) (E : Int) : Prop where
  a : (n < 0 ∨ n > 268435456) → E = 2
  b : ¬ (n < 0 ∨ n > 268435456) → (∃ k, k < cs.length ∧ badC n (cs.getD k opZ)) → E = 2
  c : ¬ (n < 0 ∨ n > 268435456) → (∀ k, k < cs.length → ¬ badC n (cs.getD k opZ)) → (∃ k, k + 1 < cs.length ∧ crsC cs k) → E = 120
  d : ¬ (n < 0 ∨ n > 268435456) → (∀ k, k < cs.length → ¬ badC n (cs.getD k opZ)) → (∀ k, k + 1 < cs.length → ¬ crsC cs k) → E = 0
theorem errC_is (n : Int) (cs : List Dop) : ∃ E, ErrC n cs E := by
  by_cases h1 : n < 0 ∨ n > 268435456
  · exact ⟨2, fun _ => rfl, fun h => absurd h1 h, fun h => absurd h1 h, fun h => absurd h1 h⟩
  by_cases h2 : ∃ k, k < cs.length ∧ badC n (cs.getD k opZ)
  · obtain ⟨k, hk, hb⟩ := h2
    exact ⟨2, fun _ => rfl, fun _ _ => rfl, fun _ h => absurd hb (h k hk), fun _ h => absurd hb (h k hk)⟩
  by_cases h3 : ∃ k, k + 1 < cs.length ∧ crsC cs k
  · obtain ⟨k, hk, hb⟩ := h3
    exact ⟨120, fun h => absurd h h1, fun _ h => absurd h h2, fun _ _ _ => rfl, fun _ _ h => absurd hb (h k hk)⟩
  · exact ⟨0, fun h => absurd h h1, fun _ h => absurd h h2, fun _ _ h => absurd h h3, fun _ _ _ => rfl⟩
theorem errC_ok {n : Int} {cs : List Dop} {E : Int} (h : ErrC n cs E) : (E = 0 ∧ (0 ≤ n ∧ n ≤ 268435456) ∧ okL 0 cs n) ∨ (E ≠ 0) := by
  by_cases h1 : n < 0 ∨ n > 268435456
  · exact .inr (by rw [h.a h1]; decide)
  by_cases h2 : ∃ k, k < cs.length ∧ badC n (cs.getD k opZ)
  · exact .inr (by rw [h.b h1 h2]; decide)
  have h2' : ∀ k, k < cs.length → ¬ badC n (cs.getD k opZ) := fun k hk hb => h2 ⟨k, hk, hb⟩
  by_cases h3 : ∃ k, k + 1 < cs.length ∧ crsC cs k
  · exact .inr (by rw [h.c h1 h2' h3]; decide)
  · have h3' : ∀ k, k + 1 < cs.length → ¬ crsC cs k := fun k hk hb => h3 ⟨k, hk, hb⟩
    refine .inl ⟨h.d h1 h2' h3', by omega, okL_of cs 0 n (by omega) (fun c hc => ?_) (fun k hk => ?_) h3'⟩
    · cases cs with
      | nil => simp at hc
      | cons c' r =>
        simp only [List.head?_cons, Option.some.injEq] at hc
        subst hc
        have := h2' 0 (by simp)
        unfold badC at this
        simp at this
        omega
    · have := h2' k hk
      unfold badC at this
      omega
theorem last_arith' (j : Nat) {L : Nat} (hl : L ≤ 4398046511104) (h : j + 1 < L) : wrap64 (((j + 1 : Nat) : Int) - 1) = (j : Int) ∧ True := ⟨by rw [wrapD _ (by omega) (by omega)]; omega, trivial⟩
theorem bad_tests (n : Int) (c : Dop) : (badC n c ∧ (decide (c.k < 0) = true ∨ (decide (c.k < 0) = false ∧ decide (c.k > c.n) = true ∧ decide (c.n < c.k) = true) ∨ (decide (c.k < 0) = false ∧ decide (c.k > c.n) = false ∧ decide (c.n < c.k) = false ∧ decide (c.n > n) = true ∧ decide (n < c.n) = true))) ∨
    (¬ badC n c ∧ decide (c.k < 0) = false ∧ decide (c.k > c.n) = false ∧ decide (c.n < c.k) = false ∧ decide (c.n > n) = false ∧ decide (n < c.n) = false) := by
  unfold badC
  by_cases h1 : c.k < 0
  · exact .inl ⟨.inl h1, .inl (decide_eq_true h1)⟩
  by_cases h2 : c.k > c.n
  · exact .inl ⟨.inr (.inl h2), .inr (.inl ⟨decide_eq_false h1, decide_eq_true h2, decide_eq_true h2⟩)⟩
  by_cases h3 : c.n > n
  · exact .inl ⟨.inr (.inr h3), .inr (.inr ⟨decide_eq_false h1, decide_eq_false h2, decide_eq_false (by omega), decide_eq_true h3, decide_eq_true h3⟩)⟩
  · exact .inr ⟨by omega, decide_eq_false h1, decide_eq_false h2, decide_eq_false (by omega), decide_eq_false h3, decide_eq_false (by omega)⟩
set_option maxRecDepth 100000 in
set_option maxHeartbeats 4000000 in
theorem checked_at (a : Option Addr) (c : Nat) (n : Int) (cs : List Dop) (E : Int) (w : World) (h : IsO w a cs) (hl : cs.length ≤ 4398046511104) (hE : ErrC n cs E) :
    Calls Tryd.prog 62 #[.int .i64 n, .slice a cs.length c] w fun y w' => y = .returned (.int .i64 E) ∧ Below w.heap.size w w' := by
  have HO := hide fun (X : World) (hx : Below w.heap.size w X) => h.below hx (Nat.le_refl _)
  have HE := hide hE
  clear hE h
  by_cases hn1 : n < 0
  · have HV := hide ((unhide HE).a (.inl hn1))
    have t1 : decide (n < 0) = true := decide_eq_true hn1
    clear HE HO hn1
    go_enter Tryd.func62, Tryd.ntmps62
    go_wp2_with fail
    rw [unhide HV]
    refine bodyPost_ret (results_tmp rfl _ _ _) rfl ⟨rfl, Below.refl _ _⟩
  by_cases hn2 : n > 268435456
  · have HV := hide ((unhide HE).a (.inr hn2))
    have t1 : decide (n < 0) = false := decide_eq_false hn1
    have t2 : decide (n > 268435456) = true := decide_eq_true hn2
    have t3 : decide (268435456 < n) = true := decide_eq_true hn2
    clear HE HO hn1 hn2
    go_enter Tryd.func62, Tryd.ntmps62
    go_wp2_with fail
    rw [unhide HV]
    refine bodyPost_ret (results_tmp rfl _ _ _) rfl ⟨rfl, Below.refl _ _⟩
  have HEb := hide ((unhide HE).b (by omega))
  have HEc := hide ((unhide HE).c (by omega))
  have HEd := hide ((unhide HE).d (by omega))
  have t1 : decide (n < 0) = false := decide_eq_false hn1
  have t2 : decide (n > 268435456) = false := decide_eq_false hn2
  have t3 : decide (268435456 < n) = false := decide_eq_false hn2
  clear HE hn1 hn2
  go_enter Tryd.func62, Tryd.ntmps62
  go_wp2_with fail
  go_loopw [6, 16] (fun v6 v16 wx => (∃ z, v6 = z) ∧ (∃ k : Nat, v16 = .int .i64 (k : Int) ∧ k ≤ cs.length ∧ Hid ((∀ i, i < k → ¬ badC n (cs.getD i opZ)) ∧ Below w.heap.size w wx))) (fun _ v16 _ => cs.length - (intOf v16).toNat)
  case atStart => exact ⟨⟨_, rfl⟩, ⟨0, rfl, Nat.zero_le _, hide ⟨fun i hi => absurd hi (Nat.not_lt_zero i), Below.refl _ _⟩⟩⟩
  case round =>
    obtain ⟨⟨z1, rfl⟩, ⟨k, rfl, hk, HI⟩⟩ := hrel
    by_cases hlt : k < cs.length
    · have s1 : decide ((k : Int) < (cs.length : Int)) = true := decide_eq_true (by omega)
      obtain ⟨g, off, rfl, hg, c0, c1, c2⟩ := (unhide HO wr (unhide HI).2).three hlt
      have HT := hide (bad_tests n (cs.getD k opZ))
      have HN : Hid (¬ badC n (cs.getD k opZ) → ∀ i, i < k + 1 → ¬ badC n (cs.getD i opZ)) := hide fun h0 i hi => by
        rcases Nat.lt_or_ge i k with h | h
        · exact (unhide HI).1 i h
        · obtain rfl : i = k := by omega
          exact h0
      have HV : Hid (badC n (cs.getD k opZ) → E = 2) := hide fun h0 => unhide HEb ⟨k, hlt, h0⟩
      generalize cs.getD k opZ = x at *
      obtain ⟨xk, xn, xt⟩ := x
      dsimp only at c0 c1 c2 HT
      obtain ⟨d0, d1, d2⟩ := three_nwD wr (.int .i64 xk) (.int .i64 xn) (.string (strOfNums xt)) (t := 57)
      have HB := hide ((unhide HI).2.alloc (unhide HI).2.size (.cells #[.int .i64 xk, .int .i64 xn, .string (strOfNums xt)] 57))
      generalize strOfNums xt = st at *
      clear HI HEb HEc HEd HO hk
      go_upto_region 6 with fail
      clear c0 c1 c2 d2
      generalize wr.alloc (.cells #[.int .i64 xk, .int .i64 xn, .string st] 57) = v0 at *
      generalize wr.heap.size = gb at *
      rcases unhide HT with ⟨hb, s2 | ⟨s2, s3, s4⟩ | ⟨s2, s3, s4, s5, s6⟩⟩ | ⟨hb, s2, s3, s4, s5, s6⟩
      · have HV2 := hide (unhide HV hb)
        clear HT HV HN hb
        go_wp2_with fail
        rw [unhide HV2]
        refine bodyPost_ret (results_tmp rfl _ _ _) rfl ⟨rfl, unhide HB⟩
      · have HV2 := hide (unhide HV hb)
        clear HT HV HN hb
        go_wp2_with fail
        rw [unhide HV2]
        refine bodyPost_ret (results_tmp rfl _ _ _) rfl ⟨rfl, unhide HB⟩
      · have HV2 := hide (unhide HV hb)
        clear HT HV HN hb
        go_wp2_with fail
        rw [unhide HV2]
        refine bodyPost_ret (results_tmp rfl _ _ _) rfl ⟨rfl, unhide HB⟩
      · have HN2 := hide (unhide HN hb)
        clear HT HV HN hb
        go_wp2_with fail
        go_roundw
        case rel => exact ⟨⟨_, rfl⟩, ⟨k + 1, by go_num, hlt, hide ⟨unhide HN2, unhide HB⟩⟩⟩
        case measure => simp [intOf]; omega
    · obtain rfl : k = cs.length := by omega
      have s1 : decide ((cs.length : Int) < (cs.length : Int)) = false := decide_eq_false (by omega)
      have HEc := hide (unhide HEc (unhide HI).1)
      have HEd := hide (unhide HEd (unhide HI).1)
      have HB := hide (unhide HI).2
      clear HI HEb hk hlt t1 t2 t3
      go_wp2_with fail
      clear s1
      go_loopw [7] (fun v7 wx => (∃ k : Nat, v7 = .int .i64 (k : Int) ∧ 1 ≤ k ∧ (k = 1 ∨ k ≤ cs.length) ∧ Hid ((∀ i, i + 1 < k → ¬ crsC cs i) ∧ Below w.heap.size w wx))) (fun v7 _ => cs.length + 1 - (intOf v7).toNat)
      case atStart => exact ⟨1, rfl, Nat.le_refl _, .inl rfl, hide ⟨fun i hi => absurd hi (by omega), unhide HB⟩⟩
      case round =>
        clear HB
        obtain ⟨k, rfl, hk1, hk2, HI⟩ := hrel
        by_cases hlt : k < cs.length
        · have s1 : decide ((k : Int) < (cs.length : Int)) = true := decide_eq_true (by omega)
          obtain ⟨j, rfl⟩ : ∃ j, k = j + 1 := ⟨k - 1, by omega⟩
          obtain ⟨g, off, rfl, hg, c0, c1, c2⟩ := (unhide HO wr (unhide HI).2).three hlt
          obtain ⟨g', off', he, hg', b0', b1, b2⟩ := (unhide HO wr (unhide HI).2).three (k := j) (by omega)
          obtain ⟨rfl, rfl⟩ : g = g' ∧ off = off' := by cases he; exact ⟨rfl, rfl⟩
          clear he b0' b2 c1 c2 hg hg'
          have HCR : Hid (crsC cs j ↔ (cs.getD (j + 1) opZ).k < (cs.getD j opZ).n) := hide Iff.rfl
          have HV : Hid (crsC cs j → E = 120) := hide fun h0 => unhide HEc ⟨j, hlt, h0⟩
          have HN : Hid (¬ crsC cs j → ∀ i, i + 1 < j + 2 → ¬ crsC cs i) := hide fun h0 i hi => by
            rcases Nat.lt_or_ge i j with h | h
            · exact (unhide HI).1 i (by omega)
            · obtain rfl : i = j := by omega
              exact h0
          have HB := hide (unhide HI).2
          have e5 := (last_arith' j hl hlt).1
          have hlt' : j < cs.length := by omega
          have hlt2 : (j : Int) < (cs.length : Int) := by omega
          clear HI HEc HEd HO hk1 hk2
          generalize (cs.getD (j + 1) opZ).k = xk at *
          generalize (cs.getD j opZ).n = xn at *
          generalize hK : j + 1 = K at *
          have hK0 : (0 : Int) ≤ (K : Int) := by omega
          have hK1 : (K : Int) < (cs.length : Int) := by omega
          have hj0 : (0 : Int) ≤ (j : Int) := by omega
          have e6 : (K : Int) - 1 = (j : Int) := by omega
          have e7 : wrap64 (j : Int) = (j : Int) := wrapD _ (by omega) (by omega)
          by_cases hx : xk < xn
          · have HV2 := hide (unhide HV ((unhide HCR).2 hx))
            have s2 : decide (xk < xn) = true := decide_eq_true hx
            clear HV HN HCR hx hK
            go_upto_region 12 with fail
            go_quiet (fail)
            go_wp2_with fail
            rw [unhide HV2]
            refine bodyPost_ret (results_tmp rfl _ _ _) rfl ⟨rfl, below_drewN (unhide HB) _⟩
          · have HN2 := hide (unhide HN (fun h0 => hx ((unhide HCR).1 h0)))
            rw [show j + 2 = K + 1 by omega] at HN2
            have s2 : decide (xk < xn) = false := decide_eq_false hx
            clear HV HN HCR hx hK
            go_upto_region 12 with fail
            go_quiet (fail)
            go_wp2_with fail
            go_roundw
            case rel => exact ⟨K + 1, by go_num, by omega, .inr hlt, hide ⟨unhide HN2, below_drewN (unhide HB) _⟩⟩
            case measure => simp [intOf]; omega
        · have s1 : decide ((k : Int) < (cs.length : Int)) = false := decide_eq_false (by omega)
          have HV := hide (unhide HEd (fun i hi => (unhide HI).1 i (by omega)))
          have HB := hide (unhide HI).2
          have s1' : decide (k < cs.length) = false := decide_eq_false hlt
          clear HEc HEd HI HO hk1 hk2
          go_wp2_with fail
          rw [unhide HV]
          refine bodyPost_ret (results_tmp rfl _ _ _) rfl ⟨rfl, unhide HB⟩

/-- what Of answers -/
def ofD (n : Int) (cs : List Dop) (E : Int) : List Dop × Int := if E = 0 then (if 268435456 < toD (opsC n cs) then ([], 5) else (canA (dA (opsC n cs)), 0)) else ([], E)
set_option maxRecDepth 100000 in
set_option maxHeartbeats 2000000 in
theorem Of_atD (a : Option Addr) (c : Nat) (n : Int) (cs : List Dop) (E : Int) (w : World) (h : IsO w a cs) (hl : cs.length ≤ 4398046511104) (hE : ErrC n cs E) :
    Calls Tryd.prog 47 #[.int .i64 n, .slice a cs.length c] w fun y w' => ∃ v, y = .returned (.tuple #[v, .int .i64 (ofD n cs E).2]) ∧ w'.ownsRow w.heap.size 41 3 v (ofD n cs E).1.length (opsV (ofD n cs E).1) ∧ Below w.heap.size w w' := by
  have HC := hide (checked_at a c n cs E w h hl hE)
  have hOk := errC_ok hE
  obtain ⟨L, R, hLR⟩ : ∃ L R, ofD n cs E = (L, R) := ⟨_, _, rfl⟩
  rw [hLR]
  dsimp only
  unfold ofD at hLR
  by_cases h0 : E = 0
  · rcases hOk with ⟨_, hn, hok⟩ | hne
    · rw [if_pos h0] at hLR
      subst h0
      obtain ⟨s1, s2⟩ := opsC_sizes hok
      have HZ : Hid (∀ X, Below w.heap.size w X → Calls Tryd.prog 63 #[.int .i64 n, .slice a cs.length c, .func (.func 32) #[.pointer (some ⟨X.heap.size, 0, none⟩)] #[], .func (.func 33) #[.pointer (some ⟨X.heap.size, 0, none⟩)] #[], .func (.func 34) #[.pointer (some ⟨X.heap.size, 0, none⟩)] #[]]
          (X.alloc (.cells #[.int .i64 0, .int .i64 0] 44)) fun y X' => y = .returned (.tuple #[]) ∧ IsZ X' X.heap.size (satD (frD (opsC n cs))) (satD (toD (opsC n cs))) ∧ Below X.heap.size X X') := hide fun X hx => by
        have ba : Below X.heap.size X (X.alloc (.cells #[.int .i64 0, .int .i64 0] 44)) := (Below.refl _ _).alloc (Nat.le_refl _) _
        exact (eachC_z a c X.heap.size X.heap.size n cs _ (fun Y hY => (h.below hx (Nat.le_refl _)).below (ba.trans hY) (Nat.le_refl _)) (Cls.new _ _ _) (Nat.le_refl _) ba.size hl hn hok).mono fun y Y ⟨e, h1, h2⟩ => ⟨e, h1, ba.trans h2⟩
      have HL := hide fun (X : World) => long_at (satD (frD (opsC n cs))) (satD (toD (opsC n cs))) X (by have := satD_le (frD (opsC n cs)); omega) (by have := satD_le (toD (opsC n cs)); omega)
      have hlo : decide (268435456 < satD (frD (opsC n cs)) ∨ 268435456 < satD (toD (opsC n cs))) = decide (268435456 < toD (opsC n cs)) := by
        have : frD (opsC n cs) ≤ 268435456 := by omega
        rw [decide_eq_decide]; unfold satD; omega
      rw [hlo] at HL
      have HE : Hid (∀ X, Below w.heap.size w X → ¬ 268435456 < toD (opsC n cs) → Calls Tryd.prog 63 #[.int .i64 n, .slice a cs.length c, .func (.func 64) #[.pointer (some ⟨X.heap.size, 0, none⟩)] #[], .func (.func 65) #[.pointer (some ⟨X.heap.size, 0, none⟩)] #[], .func (.func 66) #[.pointer (some ⟨X.heap.size, 0, none⟩)] #[]]
          (X.alloc (.cells #[.slice none 0 0, .int .i64 0, .slice none 0 0, .int .i64 0] 111))
          fun y X' => y = .returned (.tuple #[]) ∧ (∃ ts, IsBd X' X.heap.size X.heap.size 0 (fun _ => none) (feedA b0 (dA (opsC n cs))) ts ∧ BdOk (feedA b0 (dA (opsC n cs))) ts) ∧ Below X.heap.size X X') := hide fun X hx hto => by
        have ba : Below X.heap.size X (X.alloc (.cells #[.slice none 0 0, .int .i64 0, .slice none 0 0, .int .i64 0] 111)) := (Below.refl _ _).alloc (Nat.le_refl _) _
        refine (eachC_b a c X.heap.size X.heap.size n cs _ (fun Y hY => (h.below hx (Nat.le_refl _)).below (ba.trans hY) (Nat.le_refl _)) (bd_new X) ba.size hl hn hok (by omega)).mono fun y Y ⟨e, ⟨ts, h1⟩, h2⟩ => ⟨e, ⟨ts, h1, bd_ok h1 ?_⟩, ba.trans h2⟩
        have := dA_len (fun o ho => (opsC_ok hok o ho).1)
        omega
      clear h hl hE hok hn s1 s2 hlo
      have HLR := hide hLR
      clear hLR
      generalize satD (frD (opsC n cs)) = F at *
      generalize satD (toD (opsC n cs)) = T at *
      go_enter Tryd.func47, Tryd.ntmps47
      go_wp2_with fail
      refine (unhide HC).mono ?_
      rintro y w1 ⟨rfl, x1⟩
      dsimp only
      have HZ1 := hide (unhide HZ w1 x1)
      have HX1 := hide x1
      clear HC HZ x1
      go_upto_region 5 with fail
      generalize w1.alloc (.cells #[.int .i64 0, .int .i64 0] 44) = v1 at *
      generalize hg1 : w1.heap.size = g1 at HZ1 ⊢
      have HXg : Hid (∀ Y, Below g1 w1 Y → Below w.heap.size w Y) := hide fun Y hY => (unhide HX1).trans (hY.mono (by rw [← hg1]; exact (unhide HX1).size))
      clear hg1 HX1
      go_wp2_with fail
      refine (unhide HZ1).mono ?_
      rintro y w2 ⟨rfl, hz2, x2⟩
      dsimp only
      obtain ⟨q0, q1, _, _⟩ := hz2.cells
      have HX2 := hide (unhide HXg w2 x2)
      clear HZ1 HXg x2 hz2
      go_wp2_with fail
      refine (unhide HL w2).mono ?_
      rintro y w3 ⟨rfl, x3⟩
      dsimp only
      have HX3 := hide ((unhide HX2).trans (x3.mono (unhide HX2).size))
      clear HL HX2 x3 q0 q1
      by_cases hto : 268435456 < toD (opsC n cs)
      · have hLR := unhide HLR
        rw [if_pos hto, Prod.mk.injEq] at hLR
        obtain ⟨rfl, rfl⟩ := hLR
        rw [decide_eq_true hto]
        clear HE HLR hto
        go_wp2_with fail
        refine bodyPost_ret (results_tmp2 rfl _ _ _) rfl ⟨.slice none 0 0, rfl, row_nilD _ _, unhide HX3⟩
      · have HE3 := hide (unhide HE w3 (unhide HX3) hto)
        have HCA : Hid (canA (dA (opsC n cs)) = (feedA b0 (dA (opsC n cs))).fin) := hide rfl
        have hLR := unhide HLR
        rw [if_neg hto, Prod.mk.injEq] at hLR
        obtain ⟨hL, rfl⟩ := hLR
        rw [hL] at HCA
        rw [decide_eq_false hto]
        clear HE HLR hto hL
        go_upto_region 9 with fail
        generalize w3.alloc (.cells #[.slice none 0 0, .int .i64 0, .slice none 0 0, .int .i64 0] 111) = v3 at *
        generalize hg : w3.heap.size = g at HE3 ⊢
        have HG : Hid (w.heap.size ≤ g) := hide (by rw [← hg]; exact (unhide HX3).size)
        have HXg : Hid (∀ Y, Below g w3 Y → Below w.heap.size w Y) := hide fun Y hY => (unhide HX3).trans (hY.mono (unhide HG))
        clear hg
        go_wp2_with fail
        refine (unhide HE3).mono ?_
        rintro y w4 ⟨rfl, ⟨ts, hI, hok⟩, x4⟩
        dsimp only
        have HD := hide (bdelta_at g g 0 (fun _ => none) (feedA b0 (dA (opsC n cs))) ts w4 hI hok (Nat.le_of_lt (by obtain ⟨_, _, h1, _⟩ := hI.c; exact h1.lt)))
        rw [← unhide HCA] at HD
        have HX4 := hide x4
        clear hI hok x4 HE3
        go_wp2_with fail
        refine (unhide HD).mono ?_
        rintro y w5 ⟨v, rfl, ho, x5⟩
        dsimp only
        have HO5 : Hid (w5.ownsRow w.heap.size 41 3 v L.length (opsV L)) := hide (own_lower ho (unhide HG))
        have HX5 := hide (unhide HXg w5 ((unhide HX4).trans x5))
        clear HD ho x5
        go_wp2_with fail
        refine bodyPost_ret (results_tmp2 rfl _ _ _) rfl ⟨v, rfl, unhide HO5, unhide HX5⟩
    · exact absurd h0 hne
  · rw [if_neg h0, Prod.mk.injEq] at hLR
    obtain ⟨rfl, rfl⟩ := hLR
    have t1 : (E != 0) = true := by simpa using h0
    clear hOk h hl hE h0
    go_enter Tryd.func47, Tryd.ntmps47
    go_wp2_with fail
    refine (unhide HC).mono ?_
    rintro y w1 ⟨rfl, x1⟩
    dsimp only
    clear HC
    go_wp2_with fail
    refine bodyPost_ret (results_tmp2 rfl _ _ _) rfl ⟨.slice none 0 0, rfl, row_nilD _ _, x1⟩

end Go.Proofs.YtkdnanlgkedjgabDoor
end

section
namespace Go.Proofs.YtkdnanlgkedjgabDoor

variable {l m : List Int} {xc yc : List Nat}
theorem chsN_ok (hx : OkCut l xc) : ∀ (L : List (Nat × Nat × Nat)) (i j : Nat) (z : Int), RunOk (cutP l xc) (cutP m yc) i j L → i < xc.length → z ≤ (xc.getD i 0 : Int) → okL z (chsN m xc yc i j L) l.length
  | [], i, j, z, h, hi, hz => by
    have e := cutP_cnt hx
    have := hx.at_le hi
    simp only [chsN, okL]
    omega
  | (p, q, n) :: r, i, j, z, h, hi, hz => by
    obtain ⟨h1, h2, h3, h4, _, h6⟩ := h
    have e := cutP_cnt hx
    have a1 := hx.le h1 (show p < xc.length by omega)
    have a2 := hx.at_le (show p < xc.length by omega)
    have a3 := hx.le (show p ≤ p + n by omega) (show p + n < xc.length by omega)
    simp only [chsN]
    by_cases g : i < p ∨ j < q
    · rw [if_pos g]
      refine ⟨hz, ?_, ?_, chsN_ok hx r (p + n) (q + n) _ h6 (by omega) ?_⟩
      · show (xc.getD i 0 : Int) ≤ (xc.getD p 0 : Int); omega
      · show (xc.getD p 0 : Int) ≤ (l.length : Int); omega
      · show (xc.getD p 0 : Int) ≤ _; omega
    · rw [if_neg g]
      exact chsN_ok hx r (p + n) (q + n) z h6 (by omega) (by omega)
theorem lstC_take1 : ∀ (cs : List Dop) (p : Int) (k : Nat), k < cs.length → lstC p (cs.take (k + 1)) = (cs.getD k opZ).n
  | [], _, _, h => by simp at h
  | c :: r, p, 0, _ => by simp [lstC]
  | c :: r, p, k + 1, h => by
    have := lstC_take1 r c.n k (by simpa using h)
    simpa [lstC] using this
theorem errC_zero {n : Int} {cs : List Dop} (hn : 0 ≤ n ∧ n ≤ 268435456) (h : okL 0 cs n) : ErrC n cs 0 := by
  have hb : ∀ k, k < cs.length → ¬ badC n (cs.getD k opZ) := fun k hk hb => by
    obtain ⟨a1, a2, a3, a4⟩ := okL_at cs 0 n h k hk
    unfold badC at hb
    omega
  refine ⟨fun g => absurd g (by omega), fun _ ⟨k, hk, g⟩ => absurd g (hb k hk), fun _ _ ⟨k, hk, g⟩ => ?_, fun _ _ _ => rfl⟩
  obtain ⟨a1, a2, _, _⟩ := okL_at cs 0 n h (k + 1) hk
  rw [lstC_take1 cs 0 k (by omega)] at a2
  unfold crsC at g
  omega
theorem sub_len {x : List Int} {cs : List Nat} (h : OkCut x cs) {i j : Nat} (hij : i ≤ j) (hj : j < cs.length) : (subL x (cs.getD i 0) (cs.getD j 0)).length = cs.getD j 0 - cs.getD i 0 := by
  have h1 := h.le hij hj
  have h2 := h.at_le hj
  unfold subL
  rw [List.length_take, List.length_drop]
  omega
/-- how long the two texts are -/
theorem pcs_len (hx : OkCut l xc) (hy : OkCut m yc) : ∀ (d : List Dop) (i j N : Nat), PcS l m xc yc i j N d → i < xc.length → j < yc.length → frD d + xc.getD i 0 = l.length ∧ toD d + yc.getD j 0 = m.length
  | [], i, j, N, h, hi, hj => by
    obtain ⟨h1, h2, _⟩ := h
    have a1 := hx.last
    have a2 := hy.last
    rw [show xc.length - 1 = i by omega] at a1
    rw [show yc.length - 1 = j by omega] at a2
    exact ⟨by rw [a1]; simp [frD], by rw [a2]; simp [toD]⟩
  | o :: r, i, j, N, h, hi, hj => by
    rcases h with ⟨k, t, n, h1, h2, h3, h4, h5, h6⟩ | ⟨k, z, n, M, h1, h2, h3, h4, h5⟩ | ⟨k, t, n, M, h1, h2, h3, h4, h5⟩
    · obtain ⟨i1, i2⟩ := pcs_len hx hy r _ _ _ h6 h2 h3
      have a1 := hx.le (show i ≤ i + n by omega) h2
      have a2 := hy.le (show j ≤ j + n by omega) h3
      have e1 := sub_len hx (show i ≤ i + n by omega) h2
      have e2 := sub_len hy (show j ≤ j + n by omega) h3
      rw [h5] at e1
      have f1 : frN o = xc.getD (i + n) 0 - xc.getD i 0 := by unfold frN; rw [if_pos (.inl k), h4]; omega
      have f2 : toN o = xc.getD (i + n) 0 - xc.getD i 0 := by unfold toN; rw [if_pos k, h4]; omega
      rw [frD_cons, toD_cons, f1, f2]
      omega
    · obtain ⟨i1, i2⟩ := pcs_len hx hy r _ _ _ h5 hi h2
      have a2 := hy.le (show j ≤ j + n by omega) h2
      have e2 := sub_len hy (show j ≤ j + n by omega) h2
      have f1 : frN o = 0 := by simp [frN, k]
      have f2 : toN o = yc.getD (j + n) 0 - yc.getD j 0 := by unfold toN; rw [if_neg (by omega), if_pos k, h3, e2]
      rw [frD_cons, toD_cons, f1, f2]
      omega
    · obtain ⟨i1, i2⟩ := pcs_len hx hy r _ _ _ h5 h2 hj
      have a1 := hx.le (show i ≤ i + n by omega) h2
      have f1 : frN o = xc.getD (i + n) 0 - xc.getD i 0 := by unfold frN; rw [if_pos (.inr k), h3]; omega
      have f2 : toN o = 0 := by simp [toN, k]
      rw [frD_cons, toD_cons, f1, f2]
      omega
theorem toD_atoms (d : List Dop) (h : ∀ o ∈ d, o.k = 1 ∨ o.k = 2 ∨ o.k = 3) : toD d = ((dA d).filter fun a => match a with | .d => false | _ => true).length := by
  induction d with
  | nil => rfl
  | cons o d ih =>
    rw [toD_cons, dA_cons, List.filter_append, List.length_append, ih fun x hx => h x (by simp [hx])]
    congr 1
    rcases h o (by simp) with g | g | g
    · simp [toN, opA, g]
    · simp [toN, opA, g, List.filter_map, Function.comp_def]
      rw [List.filter_eq_self.2 (by simp)]
    · simp [toN, opA, g]
/-- what Of makes of the program's changes -/
theorem ofD_least (hx : OkCut l xc) (hy : OkCut m yc) (hl : l.length ≤ 268435456) (hm : m.length ≤ 268435456) :
    ErrC l.length (chsR xc yc m (runsL (cutP l xc) (cutP m yc))).2.2 0 ∧ ofD l.length (chsR xc yc m (runsL (cutP l xc) (cutP m yc))).2.2 0 = (leastD l m xc yc, 0) := by
  obtain ⟨e, hc, ha, N, hp, hN⟩ := least_is hx hy
  rw [e]
  have hok := chsN_ok (m := m) (yc := yc) hx (runsL (cutP l xc) (cutP m yc)) 0 0 0 (runs_ok _ _) hx.pos (by rw [hx.zero]; exact Int.le_refl _)
  refine ⟨errC_zero ⟨by omega, by omega⟩ hok, ?_⟩
  have hlen := pcs_len hx hy _ 0 0 N hp hx.pos hy.pos
  rw [hy.zero] at hlen
  have hk1 : ∀ o ∈ opsC l.length (chsN m xc yc 0 0 (runsL (cutP l xc) (cutP m yc))), o.k = 1 ∨ o.k = 2 ∨ o.k = 3 := fun o ho => (opsC_ok hok o ho).1
  have hk2 : ∀ o ∈ leastD l m xc yc, o.k = 1 ∨ o.k = 2 ∨ o.k = 3 := fun o ho => by
    rcases hc.p o ho with ⟨g | g, _⟩ | ⟨g, _⟩
    · exact .inl g
    · exact .inr (.inr g)
    · exact .inr (.inl g)
  have ht : toD (opsC l.length (chsN m xc yc 0 0 (runsL (cutP l xc) (cutP m yc)))) = m.length := by
    rw [toD_atoms _ hk1, ha, ← toD_atoms _ hk2]; omega
  unfold ofD
  rw [if_pos rfl, if_neg (by omega), ha, canA_id hc]
end Go.Proofs.YtkdnanlgkedjgabDoor
end

section
namespace Go.Proofs.YtkdnanlgkedjgabDoor
open Go.ChangeShapes Go.WideShapes Go.ChangeAt Go.RowKit
attribute [local go_sem] Oper.semAt_some

theorem own_isOD {W : World} {B : Nat} {t : TypeId} {v : Value} {d : List Dop} (h : W.ownsRow B t 3 v d.length (opsV d)) : ∃ a c, v = .slice a d.length c ∧ IsO W a d ∧ d.length ≤ c := by
  have hh := h
  rcases h.2 with ⟨rfl, h0⟩ | ⟨g, cap, cur, rfl, hB, hg, hc, hm, hs, ht⟩
  · have : d = [] := List.length_eq_zero_iff.1 h0
    exact ⟨none, 0, by rw [h0], Or.inl this, by omega⟩
  · refine ⟨some ⟨g, 0, none⟩, cap, rfl, Or.inr ⟨g, 0, rfl, (Array.getElem?_eq_some_iff.1 hg).1, fun k hk => ?_⟩, hc⟩
    have f : ∀ j, j < 3 → W.cell? ⟨g, 0 + (k * 3 + j), none⟩ = (opL (d.getD k opZ))[j]? := fun j hj => by
      have e := opsV_get d k j hk hj
      obtain ⟨u, hu⟩ : ∃ u, (opL (d.getD k opZ))[j]? = some u := ⟨_, List.getElem?_eq_getElem (by simpa [opL] using hj)⟩
      rw [hu] at e ⊢
      have := World.ownsRow.cells hh rfl (k * 3 + j) u e
      rwa [Addr.add_lit] at this
    exact ⟨f 0 (by decide), f 1 (by decide), f 2 (by decide)⟩
theorem num_len (K ps : List (List Int)) : (numP K ps).length = ps.length := by simp [numP]
theorem cut_subs {l : List Int} (hb : ByL l) (a b : Nat) : ByL (subL l a b) := fun x hx => hb x (List.mem_of_mem_drop (List.mem_of_mem_take hx))
theorem chsN_tb {m : List Int} {xc yc : List Nat} (hb : ByL m) : ∀ (L : List (Nat × Nat × Nat)) (i j : Nat), ∀ o ∈ chsN m xc yc i j L, TbD o
  | [], _, _, o, h => by cases h
  | (p, q, n) :: r, i, j, o, h => by
    simp only [chsN] at h
    rcases List.mem_append.1 h with h | h
    · split at h
      · rw [List.mem_singleton] at h; subst h; exact cut_subs hb _ _
      · cases h
    · exact chsN_tb hb r _ _ o h
set_option maxRecDepth 100000 in
set_option maxHeartbeats 8000000 in
theorem leading_at (f : Nat) (cut : List Int → List Nat) (a0 : Option Addr) (c0 : Nat) (l : List Int) (b0 : Option Addr) (d0' : Nat) (m : List Int) (w : World) (ef : ∀ args w, (callFunc f args).run Tryd.prog w = .ok (.enter f args) w) (hl : CutF f cut w a0 c0 l) (hm : CutF f cut w b0 d0' m) (hB : IsB w a0 c0 l) (hB' : IsB w b0 d0' m) (zl : l.length ≤ 1048576) (zm : m.length ≤ 1048576) :
    Calls Tryd.prog 30 #[.slice a0 l.length c0, .slice b0 m.length d0', .func (.func f) #[] #[]] w fun y w' => Below w.heap.size w w' ∧
      ((¬ ((cut l).length ≤ 2049 ∧ (cut m).length ≤ 2049) ∧ y = .returned (.tuple #[.slice none 0 0, .int .i64 190])) ∨
       ((cut l).length ≤ 2049 ∧ (cut m).length ≤ 2049 ∧ ∃ v, y = .returned (.tuple #[v, .int .i64 0]) ∧ w'.ownsRow w.heap.size 41 3 v (leastD l m (cut l) (cut m)).length (opsV (leastD l m (cut l) (cut m))))) := by
  have HC := hide (cutBoth_at f cut a0 c0 l b0 d0' m w ef hl hm hB hB')
  have HOK := hide (And.intro hl.ok hm.ok)
  have HB := hide hB'
  have HBB := hide hB'.2.2.2
  clear hl hm hB hB'
  go_enter Tryd.func30, Tryd.ntmps30
  go_wp2_with fail
  refine (unhide HC).mono ?_
  rintro y w1 ⟨hb1, ⟨hno, rfl⟩ | ⟨hA, hC, a1, c1, a2, c2, a3, c3, a4, c4, rfl, ⟨i1, i2, k2⟩, i3, i4, k4⟩⟩
  · dsimp only
    have HBx := hide ((hb1.alloc hb1.size (.cells #[.slice none 0 0, .slice none 0 0, .slice none 0 0] 62)).alloc (by have := hb1.size; simp; omega) (.cells #[.slice none 0 0, .slice none 0 0, .slice none 0 0] 62))
    clear HC hb1
    go_wp2_with fail
    exact bodyPost_ret (results_tmp2 rfl _ _ _) rfl ⟨unhide HBx, .inl ⟨hno, rfl⟩⟩
  · dsimp only
    clear HC
    have hxx := (num_runs (cutP l (cut l)) (cutP m (cut m))).1
    have nl1 : (numP [] (cutP l (cut l))).length + 1 = (cut l).length := by rw [num_len]; exact cutP_cnt (unhide HOK).1
    have nl2 : (numP (knoP [] (cutP l (cut l))) (cutP m (cut m))).length + 1 = (cut m).length := by rw [num_len]; exact cutP_cnt (unhide HOK).2
    have b2 : Below w.heap.size w (w1.alloc (.cells #[.slice a0 l.length c0, .slice a1 (cut l).length c1, .slice a2 (numP [] (cutP l (cut l))).length c2] 62)) := hb1.alloc hb1.size _
    have b3 := b2.alloc b2.size (.cells #[.slice b0 m.length d0', .slice a3 (cut m).length c3, .slice a4 (numP (knoP [] (cutP l (cut l))) (cutP m (cut m))).length c4] 62)
    have e2 : Below w1.heap.size w1 (w1.alloc (.cells #[.slice a0 l.length c0, .slice a1 (cut l).length c1, .slice a2 (numP [] (cutP l (cut l))).length c2] 62)) := (Below.refl _ _).alloc (Nat.le_refl _) _
    have e3 := e2.alloc e2.size (.cells #[.slice b0 m.length d0', .slice a3 (cut m).length c3, .slice a4 (numP (knoP [] (cutP l (cut l))) (cutP m (cut m))).length c4] 62)
    have q8 := (Cls.new w1 62 #[.slice a0 l.length c0, .slice a1 (cut l).length c1, .slice a2 (numP [] (cutP l (cut l))).length c2]).alloc (.cells #[.slice b0 m.length d0', .slice a3 (cut m).length c3, .slice a4 (numP (knoP [] (cutP l (cut l))) (cutP m (cut m))).length c4] 62)
    have q9 := Cls.new (w1.alloc (.cells #[.slice a0 l.length c0, .slice a1 (cut l).length c1, .slice a2 (numP [] (cutP l (cut l))).length c2] 62)) 62 #[.slice b0 m.length d0', .slice a3 (cut m).length c3, .slice a4 (numP (knoP [] (cutP l (cut l))) (cutP m (cut m))).length c4]
    simp only [World.size_alloc] at q9
    obtain ⟨x0, x1, x2⟩ := q8.three
    obtain ⟨y0, y1, y2⟩ := q9.three
    have hCH := changed_at a0 c0 l b0 d0' m a1 a2 a3 a4 c1 c2 c3 c4 (cut l) (numP [] (cutP l (cut l))) (cut m) (numP (knoP [] (cutP l (cut l))) (cutP m (cut m))) _ ((unhide HB).below b3 (Nat.le_refl _)) (i1.below e3 (Nat.le_refl _)) (i2.below e3 (Nat.le_refl _)) (i3.below e3 (Nat.le_refl _)) (i4.below e3 (Nat.le_refl _)) (unhide HOK).1 (unhide HOK).2 nl1 nl2 k2 k4 (by omega) (by omega)
    rw [hxx] at hCH
    unfold pcV at hCH
    have HCH := hide hCH
    have HB3 := hide b3
    have HN := hide (And.intro nl1 nl2)
    have hle := runs_len (cutP l (cut l)) (cutP m (cut m))
    have hlc := chsR_len (cut l) (cut m) m (runsL (cutP l (cut l)) (cutP m (cut m))) _ (Nat.le_refl _)
    rw [List.take_length] at hlc
    have hcn := cutP_cnt (unhide HOK).1
    have HLC : Hid ((chsR (cut l) (cut m) m (runsL (cutP l (cut l)) (cutP m (cut m)))).2.2.length ≤ 4398046511104) := hide (by omega)
    have hof := ofD_least (unhide HOK).1 (unhide HOK).2 (show l.length ≤ 268435456 by omega) (show m.length ≤ 268435456 by omega)
    have HOF := hide hof
    have HTB : Hid (∀ o ∈ (chsR (cut l) (cut m) m (runsL (cutP l (cut l)) (cutP m (cut m)))).2.2, TbD o) := hide (by
      rw [(least_is (unhide HOK).1 (unhide HOK).2).1]
      exact chsN_tb (unhide HBB) _ _ _)
    have HAC := hide (And.intro hA hC)
    clear hCH b2 b3 e2 e3 q8 q9 hb1 i1 i2 i3 i4 k2 k4 nl1 nl2 hle hlc hcn hof hA hC hxx
    have t1 : decide ((l.length : Int) > 268435456) = false := decide_eq_false (by omega)
    have t2 : decide ((m.length : Int) > 268435456) = false := decide_eq_false (by omega)
    have t3 : decide ((268435456 : Int) < (l.length : Int)) = false := decide_eq_false (by omega)
    have t4 : decide ((268435456 : Int) < (m.length : Int)) = false := decide_eq_false (by omega)
    go_wp2_with fail
    all_goals
      refine (unhide HCH).mono ?_
      rintro y w4 ⟨v, rfl, hb4, hr4⟩
      obtain ⟨av, cv, rfl, hv4, _⟩ := own_isOD hr4
      dsimp only
      have HO := hide (Of_atD av cv (l.length : Int) _ 0 w4 hv4 (unhide HLC) (unhide HOF).1)
      rw [(unhide HOF).2] at HO
      have HB4 := hide ((unhide HB3).trans (hb4.mono (unhide HB3).size))
      clear hb4 hr4 hv4 x0 x1 x2 y0 y1 y2 HCH
      go_wp2_with fail
      refine (unhide HO).mono ?_
      rintro y w5 ⟨v5, rfl, hr5, hb5⟩
      dsimp only at hr5 ⊢
      have HB5 := hide ((unhide HB4).trans (hb5.mono (unhide HB4).size))
      have HR5 := hide (row_baseS hr5 (unhide HB4).size)
      clear HO hb5 hr5
      go_wp2_with fail
      exact bodyPost_ret (results_tmp2 rfl _ _ _) rfl ⟨unhide HB5, .inr ⟨(unhide HAC).1, (unhide HAC).2, v5, rfl, unhide HR5⟩⟩
end Go.Proofs.YtkdnanlgkedjgabDoor
end

section
namespace Go.Proofs.YtkdnanlgkedjgabDoor
open Go.ChangeShapes Go.WideShapes Go.ChangeAt Go.RowKit
attribute [local go_sem] Oper.semAt_some

theorem cutF_steps {w : World} {a0 : Option Addr} {c0 : Nat} {l : List Int} (hB : IsB w a0 c0 l) (hT : Tab w) : CutF 27 cutS w a0 c0 l := by
  have e : (cutS l).length = (spots l 0).length + 1 := by simp [cutS]
  refine ⟨fun X hX => (stepCuts_at a0 c0 l X (hB.below hX (Nat.le_refl _)) (hT.below hX hT.size)).mono ?_, cutS_ok l⟩
  rintro y X' ⟨a', n', c', rfl, hb, h⟩
  refine ⟨a', n', c', ?_, hb, fun g => h (by omega)⟩
  rw [show decide ((cutS l).length ≤ 2049) = decide ((spots l 0).length ≤ 2048) by rw [decide_eq_decide]; omega]
theorem cutF_lines {w : World} {a0 : Option Addr} {c0 : Nat} {l : List Int} (hB : IsB w a0 c0 l) (hl : l.length ≤ 1048576) : CutF 31 cutN w a0 c0 l :=
  ⟨fun X hX => lineCuts_at a0 c0 l X (hB.below hX (Nat.le_refl _)) hl, cutN_ok l⟩
/-- what Least and Lines answer -/
def LeastP (w w' : World) (y : Ending) (cut : List Int → List Nat) (l m : List Int) : Prop := Below w.heap.size w w' ∧
  ((¬ ((cut l).length ≤ 2049 ∧ (cut m).length ≤ 2049) ∧ y = .returned (.tuple #[.slice none 0 0, .int .i64 190])) ∨
   ((cut l).length ≤ 2049 ∧ (cut m).length ≤ 2049 ∧ ∃ v, y = .returned (.tuple #[v, .int .i64 0]) ∧ w'.ownsRow w.heap.size 41 3 v (leastD l m (cut l) (cut m)).length (opsV (leastD l m (cut l) (cut m)))))
set_option maxRecDepth 100000 in
set_option maxHeartbeats 1000000 in
theorem Least_at (a0 : Option Addr) (c0 : Nat) (l : List Int) (b0 : Option Addr) (d0' : Nat) (m : List Int) (w : World) (hB : IsB w a0 c0 l) (hB' : IsB w b0 d0' m) (hT : Tab w) (zl : l.length ≤ 1048576) (zm : m.length ≤ 1048576) :
    Calls Tryd.prog 12 #[.slice a0 l.length c0, .slice b0 m.length d0'] w fun y w' => LeastP w w' y cutS l m := by
  have HC := hide (leading_at 27 cutS a0 c0 l b0 d0' m w (enters_of Tryd.func27 (by kernel_rfl) rfl) (cutF_steps hB hT) (cutF_steps hB' hT) hB hB' zl zm)
  clear hB hB' hT
  go_enter Tryd.func12, Tryd.ntmps12
  go_wp2_with fail
  refine (unhide HC).mono ?_
  rintro y w1 ⟨hb, ⟨hno, rfl⟩ | ⟨h1, h2, v, rfl, ho⟩⟩
  · dsimp only
    clear HC
    go_wp2_with fail
    exact bodyPost_ret (results_tmp2 rfl _ _ _) rfl ⟨hb, .inl ⟨hno, rfl⟩⟩
  · dsimp only
    have HO := hide ho
    clear HC ho
    go_wp2_with fail
    exact bodyPost_ret (results_tmp2 rfl _ _ _) rfl ⟨hb, .inr ⟨h1, h2, v, rfl, unhide HO⟩⟩
set_option maxRecDepth 100000 in
set_option maxHeartbeats 1000000 in
theorem LinesD_at (a0 : Option Addr) (c0 : Nat) (l : List Int) (b0 : Option Addr) (d0' : Nat) (m : List Int) (w : World) (hB : IsB w a0 c0 l) (hB' : IsB w b0 d0' m) (zl : l.length ≤ 1048576) (zm : m.length ≤ 1048576) :
    Calls Tryd.prog 13 #[.slice a0 l.length c0, .slice b0 m.length d0'] w fun y w' => LeastP w w' y cutN l m := by
  have HC := hide (leading_at 31 cutN a0 c0 l b0 d0' m w (enters_of Tryd.func31 (by kernel_rfl) rfl) (cutF_lines hB zl) (cutF_lines hB' zm) hB hB' zl zm)
  clear hB hB'
  go_enter Tryd.func13, Tryd.ntmps13
  go_wp2_with fail
  refine (unhide HC).mono ?_
  rintro y w1 ⟨hb, ⟨hno, rfl⟩ | ⟨h1, h2, v, rfl, ho⟩⟩
  · dsimp only
    clear HC
    go_wp2_with fail
    exact bodyPost_ret (results_tmp2 rfl _ _ _) rfl ⟨hb, .inl ⟨hno, rfl⟩⟩
  · dsimp only
    have HO := hide ho
    clear HC ho
    go_wp2_with fail
    exact bodyPost_ret (results_tmp2 rfl _ _ _) rfl ⟨hb, .inr ⟨h1, h2, v, rfl, unhide HO⟩⟩
theorem sumR_take (L : List (Nat × Nat × Nat)) {k : Nat} (hk : k < L.length) : sumR (L.take (k + 1)) = sumR (L.take k) + (L.getD k (0, 0, 0)).2.2 := by
  unfold sumR
  rw [List.take_add_one, List.map_append, List.sum_append, List.getElem?_eq_getElem hk]
  simp [List.getD, List.getElem?_eq_getElem hk]
theorem sumR_le (L : List (Nat × Nat × Nat)) (k : Nat) : sumR (L.take k) ≤ sumR L := by
  have h : sumR L = sumR (L.take k) + sumR (L.drop k) := by
    unfold sumR
    rw [← List.sum_append, ← List.map_append, List.take_append_drop]
  omega
/-- how many pieces stand alone -/
def aloN (cut : List Int → List Nat) (l m : List Int) : Nat := (cutP l (cut l)).length + (cutP m (cut m)).length - 2 * lcs (cutP l (cut l)) (cutP m (cut m))
set_option maxRecDepth 100000 in
set_option maxHeartbeats 4000000 in
theorem Distance_at (a0 : Option Addr) (c0 : Nat) (l : List Int) (b0 : Option Addr) (d0' : Nat) (m : List Int) (w : World) (hB : IsB w a0 c0 l) (hB' : IsB w b0 d0' m) (hT : Tab w) :
    Calls Tryd.prog 10 #[.slice a0 l.length c0, .slice b0 m.length d0'] w fun y w' => Below w.heap.size w w' ∧
      ((¬ ((cutS l).length ≤ 2049 ∧ (cutS m).length ≤ 2049) ∧ y = .returned (.tuple #[.int .i64 0, .int .i64 190])) ∨ ((cutS l).length ≤ 2049 ∧ (cutS m).length ≤ 2049 ∧ y = .returned (.tuple #[.int .i64 (aloN cutS l m : Int), .int .i64 0]))) := by
  have HC := hide (cutBoth_at 27 cutS a0 c0 l b0 d0' m w (enters_of Tryd.func27 (by kernel_rfl) rfl) (cutF_steps hB hT) (cutF_steps hB' hT) hB hB')
  clear hB hB' hT
  go_enter Tryd.func10, Tryd.ntmps10
  go_wp2_with fail
  refine (unhide HC).mono ?_
  rintro y w1 ⟨hb1, ⟨hno, rfl⟩ | ⟨hA, hC, a1, c1, a2, c2, a3, c3, a4, c4, rfl, ⟨i1, i2, k2⟩, i3, i4, k4⟩⟩
  · dsimp only
    have HBx := hide ((hb1.alloc hb1.size (.cells #[.slice none 0 0, .slice none 0 0, .slice none 0 0] 62)).alloc (by have := hb1.size; simp; omega) (.cells #[.slice none 0 0, .slice none 0 0, .slice none 0 0] 62))
    clear HC hb1
    go_wp2_with fail
    exact bodyPost_ret (results_tmp2 rfl _ _ _) rfl ⟨unhide HBx, .inl ⟨hno, rfl⟩⟩
  · dsimp only
    clear HC i1 i3
    have hlc := num_runs (cutP l (cutS l)) (cutP m (cutS m))
    have nl1 : (numP [] (cutP l (cutS l))).length = (cutP l (cutS l)).length := num_len _ _
    have nl2 : (numP (knoP [] (cutP l (cutS l))) (cutP m (cutS m))).length = (cutP m (cutS m)).length := num_len _ _
    have cl1 := cutP_cnt (cutS_ok l)
    have cl2 := cutP_cnt (cutS_ok m)
    have hsum := runs_sum (cutP l (cutS l)) (cutP m (cutS m))
    have hlen := lcs_len (cutP l (cutS l)) (cutP m (cutS m))
    generalize numP (knoP [] (cutP l (cutS l))) (cutP m (cutS m)) = n2 at *
    generalize numP [] (cutP l (cutS l)) = n1 at *
    have b2 : Below w.heap.size w (w1.alloc (.cells #[.slice a0 l.length c0, .slice a1 (cutS l).length c1, .slice a2 n1.length c2] 62)) := hb1.alloc hb1.size _
    have b3 := b2.alloc b2.size (.cells #[.slice b0 m.length d0', .slice a3 (cutS m).length c3, .slice a4 n2.length c4] 62)
    have e2 : Below w1.heap.size w1 (w1.alloc (.cells #[.slice a0 l.length c0, .slice a1 (cutS l).length c1, .slice a2 n1.length c2] 62)) := (Below.refl _ _).alloc (Nat.le_refl _) _
    have e3 := e2.alloc e2.size (.cells #[.slice b0 m.length d0', .slice a3 (cutS m).length c3, .slice a4 n2.length c4] 62)
    have q8 := (Cls.new w1 62 #[.slice a0 l.length c0, .slice a1 (cutS l).length c1, .slice a2 n1.length c2]).alloc (.cells #[.slice b0 m.length d0', .slice a3 (cutS m).length c3, .slice a4 n2.length c4] 62)
    have q9 := Cls.new (w1.alloc (.cells #[.slice a0 l.length c0, .slice a1 (cutS l).length c1, .slice a2 n1.length c2] 62)) 62 #[.slice b0 m.length d0', .slice a3 (cutS m).length c3, .slice a4 n2.length c4]
    simp only [World.size_alloc] at q9
    obtain ⟨x0, x1, x2⟩ := q8.three
    obtain ⟨y0, y1, y2⟩ := q9.three
    have HCM := hide (common_at a2 c2 n1 a4 c4 n2 _ (i2.below e3 (Nat.le_refl _)) (i4.below e3 (Nat.le_refl _)) k2 k4 (by omega) (by omega))
    have HB3 := hide b3
    have HAN : Hid (aloN cutS l m = n1.length + n2.length - 2 * sumR (runsL n1 n2)) := hide (by unfold aloN; rw [hlc.1, hsum, nl1, nl2])
    have hS : sumR (runsL n1 n2) ≤ n1.length ∧ sumR (runsL n1 n2) ≤ n2.length := by rw [hlc.1, hsum]; omega
    have z1 : n1.length ≤ 2048 := by omega
    have z2 : n2.length ≤ 2048 := by omega
    have HAC := hide (And.intro hA hC)
    have hLl := runs_len n1 n2
    clear b2 b3 e2 e3 q8 q9 hb1 i2 i4 k2 k4 hlc nl1 nl2 cl1 cl2 hsum hlen hA hC
    go_wp2_with fail
    refine (unhide HCM).mono ?_
    rintro e w3 ⟨vR, kR, rfl, hR, hb3⟩
    dsimp only
    obtain ⟨aR, cR, rfl, hru⟩ := ra_runs hR
    have HRU := hide hru
    have HB4 := hide ((unhide HB3).trans (hb3.mono (unhide HB3).size))
    clear HCM hR hb3 hru x0 x1 x2 y0 y1 y2 HB3
    generalize runsL n1 n2 = L at *
    have t0 : (n1.length : Int) + (n2.length : Int) = (n1.length : Int) + (n2.length : Int) - 2 * (sumR (L.take 0) : Int) := by simp [sumR]
    have HT0 : Hid (Value.int .i64 ((n1.length : Int) + (n2.length : Int)) = .int .i64 ((n1.length : Int) + (n2.length : Int) - 2 * (sumR (L.take 0) : Int))) := hide (by rw [← t0])
    clear t0
    go_wp2_with fail
    go_loopw [9, 11, 35] (fun v9 v11 v35 wx => (∃ z, v11 = z) ∧ ∃ k : Nat, v35 = .int .i64 (k : Int) ∧ k ≤ L.length ∧ v9 = .int .i64 ((n1.length : Int) + (n2.length : Int) - 2 * (sumR (L.take k) : Int)) ∧ Hid (Below w3.heap.size w3 wx)) (fun _ _ v35 _ => L.length - (intOf v35).toNat)
    case atStart => exact ⟨⟨_, rfl⟩, 0, rfl, Nat.zero_le _, unhide HT0, hide (Below.refl _ _)⟩
    case round =>
      clear HT0
      obtain ⟨⟨z, rfl⟩, k, rfl, hk, rfl, HX⟩ := hrel
      by_cases h1 : k < L.length
      · have t1 : decide ((k : Int) < (L.length : Int)) = true := decide_eq_true (by omega)
        have f1 : (k : Int) < (L.length : Int) := by omega
        obtain ⟨gr, offr, rfl, hgr, e0, e1, e2⟩ := ((unhide HRU).below (unhide HX) (Nat.le_refl _)).at h1
        have hst := sumR_take L h1
        have hle := sumR_le L (k + 1)
        have HNX := hide ((unhide HX).alloc (unhide HX).size (.cells #[.int .i64 ((L.getD k (0, 0, 0)).1 : Int), .int .i64 ((L.getD k (0, 0, 0)).2.1 : Int), .int .i64 ((L.getD k (0, 0, 0)).2.2 : Int)] 69))
        have dd := (Cls.new wr 69 #[.int .i64 ((L.getD k (0, 0, 0)).1 : Int), .int .i64 ((L.getD k (0, 0, 0)).2.1 : Int), .int .i64 ((L.getD k (0, 0, 0)).2.2 : Int)]).three
        obtain ⟨d0, d1, d2⟩ := dd
        have hsk := sumR_le L k
        generalize L.getD k (0, 0, 0) = rn at *
        obtain ⟨p, q, n⟩ := rn
        dsimp only at e0 e1 e2 hst HNX d0 d1 d2
        have hn : n ≤ 2048 := by omega
        have e9 : (n1.length : Int) + (n2.length : Int) - 2 * (sumR (L.take k) : Int) - 2 * (n : Int) = (n1.length : Int) + (n2.length : Int) - 2 * (sumR (L.take (k + 1)) : Int) := by omega
        have HE9 : Hid (Value.int .i64 ((n1.length : Int) + (n2.length : Int) - 2 * (sumR (L.take k) : Int) - 2 * (n : Int)) = .int .i64 ((n1.length : Int) + (n2.length : Int) - 2 * (sumR (L.take (k + 1)) : Int))) := hide (by rw [e9])
        clear hst e9
        generalize sumR (L.take k) = Sk at *
        go_wp2_with fail
        go_roundw
        case rel => exact ⟨⟨_, rfl⟩, k + 1, by go_num, h1, unhide HE9, HNX⟩
        case measure => simp [intOf]; omega
      · have t1 : decide ((k : Int) < (L.length : Int)) = false := decide_eq_false (by omega)
        have hv : (n1.length : Int) + (n2.length : Int) - 2 * (sumR (L.take k) : Int) = (aloN cutS l m : Int) := by
          rw [unhide HAN, List.take_of_length_le (by omega)]; omega
        rw [hv]
        go_wp2_with fail
        exact bodyPost_ret (results_tmp2 rfl _ _ _) rfl ⟨(unhide HB4).trans ((unhide HX).mono (unhide HB4).size), .inr ⟨(unhide HAC).1, (unhide HAC).2, rfl⟩⟩
end Go.Proofs.YtkdnanlgkedjgabDoor
end

section
namespace Go.Proofs.YtkdnanlgkedjgabDoor
open Go.ChangeShapes Go.WideShapes Go.ChangeAt Go.RowKit
attribute [local go_sem] Oper.semAt_some

/-- []byte(string) in whatever world -/
theorem run_toBytesC (W : World) (l : List Int) (hl : ∀ x ∈ l, 0 ≤ x ∧ x ≤ 255) (hn : l.length ≤ 140737488351232) :
    ∃ c W', (convert 9 22 (.string (strOfNums l))).run Tryd.prog W = .ok (.slice (some ⟨W.heap.size, 0, none⟩) l.length c) W' ∧ IsB W' (some ⟨W.heap.size, 0, none⟩) c l ∧ Below W.heap.size W W' := by
  have := run_bytes_of_string (P := Tryd.prog) W 9 22 5 (strOfNums l) Tryd.underlying9 Tryd.underlying22 Tryd.underlying5
  rw [strOfNums_size] at this
  have hge := grownCap_ge W l.length 0 5
  refine ⟨_, _, this, IsB.of (fun i hi => ⟨?_, ?_⟩) hge hn, ((Below.refl W.heap.size W).drew).alloc (Nat.le_refl _) _⟩
  · rw [Nat.zero_add]
    refine (World.cell?_alloc_mark W.drew _ 5 _ i).trans ?_
    have hb := hl _ (List.getElem_mem hi)
    unfold bytesRow
    rw [Array.getElem?_append_left (by rw [Array.size_map]; show i < (strOfNums l).size; rw [strOfNums_size]; exact hi)]
    simp [strOfNums, List.getElem?_eq_getElem hi, List.getD]
    omega
  · have := hl _ (List.getElem_mem hi)
    simpa [List.getD, List.getElem?_eq_getElem hi] using this
def stepN (t : List Int) : Nat := (spots t 0).length
theorem stepN_le (t : List Int) : stepN t ≤ t.length := by have := spots_le t t.length 0 (by omega) (Nat.zero_le _); unfold stepN; omega
theorem stepN_nil : stepN [] = 0 := by unfold stepN; rw [spots_end (by simp)]; rfl
def EdgP (l : List Int) (q : Nat) : Prop := edgeB l (q : Int) = true
instance (l : List Int) (q : Nat) : Decidable (EdgP l q) := inferInstanceAs (Decidable (_ = true))
theorem edgP_zero (l : List Int) : EdgP l 0 := by
  have e : edgeB l ((0 : Nat) : Int) = (decide ((0 : Int) ≤ 0 ∧ (0 : Int) ≤ (l.length : Int)) && !inside l 0) := rfl
  unfold EdgP
  rw [e, edge_zero]
  simp
/-- what every change of a valid delta is -/
def ChO (c : Dop) : Prop := 0 ≤ c.k ∧ c.k ≤ c.n ∧ TbD c
theorem her_ch {m : Nat} {cs : List Dop} (h : ∀ c ∈ cs, ChO c) : ∀ c ∈ herL m cs, ChO c := by
  unfold herL
  split
  · exact h
  · intro c hc
    rcases List.mem_append.1 hc with hc | hc
    · exact h c hc
    · rw [List.mem_singleton] at hc; subst hc; exact ⟨by show (0 : Int) ≤ (m : Int); omega, Int.le_refl _, fun x hx => by cases hx⟩
theorem up_ch {f : Dop → Dop} {cs : List Dop} (hf : ∀ c, ChO c → ChO (f c)) (h : ∀ c ∈ cs, ChO c) : ∀ c ∈ upL f cs, ChO c := fun c hc => by
  unfold upL at hc
  rcases List.mem_append.1 hc with hc | hc
  · exact h c ((List.dropLast_sublist cs).subset hc)
  · cases hg : cs.getLast? with
    | none => rw [hg] at hc; simp at hc
    | some x =>
      rw [hg] at hc
      simp at hc
      subst hc
      exact hf x (h x (List.mem_of_getLast? hg))
theorem run_ch : ∀ (d : List Dop) (s : Nat × List Dop), (∀ o ∈ d, TbD o) → (∀ c ∈ s.2, ChO c) → ∀ c ∈ (d.foldl stL s).2, ChO c
  | [], s, _, h => h
  | o :: r, s, ht, h => by
    rw [List.foldl_cons]
    refine run_ch r _ (fun x hx => ht x (by simp [hx])) ?_
    unfold stL
    split
    · exact h
    · split
      · exact up_ch (fun c hc => ⟨hc.1, hc.2.1, ht o (by simp)⟩) (her_ch h)
      · exact up_ch (fun c hc => ⟨hc.1, by have := hc.2.1; show c.k ≤ c.n + (o.n.toNat : Int); omega, hc.2.2⟩) (her_ch h)
theorem run_tl : ∀ (d : List Dop) (s : Nat × List Dop), (∀ o ∈ d, o.t.length ≤ 140737488351232) → (∀ c ∈ s.2, c.t.length ≤ 140737488351232) → ∀ c ∈ (d.foldl stL s).2, c.t.length ≤ 140737488351232
  | [], s, _, h => h
  | o :: r, s, ht, h => by
    rw [List.foldl_cons]
    refine run_tl r _ (fun x hx => ht x (by simp [hx])) ?_
    have hh : ∀ m : Nat, ∀ c ∈ herL m s.2, c.t.length ≤ 140737488351232 := fun m c hc => by
      unfold herL at hc
      split at hc
      · exact h c hc
      · rcases List.mem_append.1 hc with hc | hc
        · exact h c hc
        · rw [List.mem_singleton] at hc; subst hc; simp
    have hu : ∀ (f : Dop → Dop) (cs : List Dop), (∀ c, c.t.length ≤ 140737488351232 → (f c).t.length ≤ 140737488351232) → (∀ c ∈ cs, c.t.length ≤ 140737488351232) → ∀ c ∈ upL f cs, c.t.length ≤ 140737488351232 := fun f cs hf h c hc => by
      unfold upL at hc
      rcases List.mem_append.1 hc with hc | hc
      · exact h c ((List.dropLast_sublist cs).subset hc)
      · cases hg : cs.getLast? with
        | none => rw [hg] at hc; simp at hc
        | some x =>
          rw [hg] at hc
          simp at hc
          subst hc
          exact hf x (h x (List.mem_of_getLast? hg))
    unfold stL
    split
    · exact h
    · split
      · exact hu _ _ (fun c _ => ht o (by simp)) (hh _)
      · exact hu _ _ (fun c hc => hc) (hh _)
theorem frDc (o : Dop) (d : List Dop) : frD (o :: d) = frN o + frD d := by simp [frD]
theorem toDc (o : Dop) (d : List Dop) : toD (o :: d) = toN o + toD d := by simp [toD]
theorem sumRf_le (l : List Int) : ∀ (d : List Dop) (m : Nat), (∀ o ∈ d, o.k = 1 ∨ o.k = 2 ∨ o.k = 3) → sumRf stepN l m d ≤ frD d + toD d
  | [], m, _ => Nat.zero_le _
  | o :: r, m, h => by
    have ih := fun q => sumRf_le l r q fun x hx => h x (by simp [hx])
    rw [frDc, toDc]
    simp only [sumRf]
    rcases h o (by simp) with g | g | g
    · have := ih (m + o.n.toNat)
      simp [g]; omega
    · have := ih m
      have := stepN_le o.t
      simp [g, toN]; omega
    · have := ih (m + o.n.toNat)
      have h1 := stepN_le (subL l m (m + o.n.toNat))
      have h2 : (subL l m (m + o.n.toNat)).length ≤ o.n.toNat := by unfold subL; rw [List.length_take]; omega
      simp [g, frN]; omega
theorem wrap_two (a b c : Nat) (h : a + (b + c) ≤ 536870912) : IntKind.i64.wrap ((a : Int) + IntKind.i64.wrap ((b : Int) + (c : Int))) = ((a + (b + c) : Nat) : Int) := by
  have e : IntKind.i64.wrap ((b : Int) + (c : Int)) = ((b + c : Nat) : Int) := by rw [IntKind.wrap_i64]; omega
  rw [e, IntKind.wrap_i64]; clear e; omega
theorem sumP_take (l : List Int) (cs : List Dop) {k : Nat} (hk : k < cs.length) : sumP stepN l (cs.take (k + 1)) = sumP stepN l (cs.take k) + (stepN (subL l (cs.getD k opZ).k.toNat (cs.getD k opZ).n.toNat) + stepN (cs.getD k opZ).t) := by
  rw [List.take_add_one, sumP_app, List.getElem?_eq_getElem hk, Option.toList_some, sumP_one]
  simp [List.getD, List.getElem?_eq_getElem hk]
theorem sumP_pre (l : List Int) (cs : List Dop) (k : Nat) : sumP stepN l (cs.take k) ≤ sumP stepN l cs := by
  have h : sumP stepN l cs = sumP stepN l (cs.take k) + sumP stepN l (cs.drop k) := by rw [← sumP_app, List.take_append_drop]
  omega
theorem okP_take {E : Nat → Prop} (cs : List Dop) {k : Nat} (hk : k < cs.length) : okP E (cs.take (k + 1)) ↔ okP E (cs.take k) ∧ E (cs.getD k opZ).k.toNat ∧ E (cs.getD k opZ).n.toNat := by
  rw [List.take_add_one, okP_app, List.getElem?_eq_getElem hk, Option.toList_some, okP_one]
  simp [List.getD, List.getElem?_eq_getElem hk]
theorem okP_pre {E : Nat → Prop} {cs : List Dop} (h : okP E cs) (k : Nat) : okP E (cs.take k) := fun c hc => h c (List.mem_of_mem_take hc)
instance (E : Nat → Prop) [DecidablePred E] (cs : List Dop) : Decidable (okP E cs) := inferInstanceAs (Decidable (∀ c ∈ cs, E c.k.toNat ∧ E c.n.toNat))
/-- what Cost answers -/
def costN (l : List Int) (d : List Dop) : Int × Int := if valB d then (if frD d = l.length then (if okP (EdgP l) (runL d).2 then ((sumP stepN l (runL d).2 : Int), 0) else (0, 4)) else (0, 131)) else (0, 130)
theorem own_isOE {W : World} {B : Nat} {t : TypeId} {v : Value} {d : List Dop} (h : W.ownsRow B t 3 v d.length (opsV d)) : ∃ a c, v = .slice a d.length c ∧ IsO W a d ∧ d.length ≤ c := by
  have hh := h
  rcases h.2 with ⟨rfl, h0⟩ | ⟨g, cap, cur, rfl, hB, hg, hc, hm, hs, ht⟩
  · have : d = [] := List.length_eq_zero_iff.1 h0
    exact ⟨none, 0, by rw [h0], Or.inl this, by omega⟩
  · refine ⟨some ⟨g, 0, none⟩, cap, rfl, Or.inr ⟨g, 0, rfl, (Array.getElem?_eq_some_iff.1 hg).1, fun k hk => ?_⟩, hc⟩
    have f : ∀ j, j < 3 → W.cell? ⟨g, 0 + (k * 3 + j), none⟩ = (opL (d.getD k opZ))[j]? := fun j hj => by
      have e := opsV_get d k j hk hj
      obtain ⟨u, hu⟩ : ∃ u, (opL (d.getD k opZ))[j]? = some u := ⟨_, List.getElem?_eq_getElem (by simpa [opL] using hj)⟩
      rw [hu] at e ⊢
      have := World.ownsRow.cells hh rfl (k * 3 + j) u e
      rwa [Addr.add_lit] at this
    exact ⟨f 0 (by decide), f 1 (by decide), f 2 (by decide)⟩
set_option maxRecDepth 100000 in
set_option maxHeartbeats 8000000 in
theorem Cost_at (a0 : Option Addr) (c0 : Nat) (l : List Int) (a : Option Addr) (c : Nat) (d : List Dop) (w : World) (hB : IsB w a0 c0 l) (hT : Tab w) (h : IsO w a d) (hl : d.length ≤ 4611686018427387904) (htb : ∀ o ∈ d, TbD o) (htl : ∀ o ∈ d, o.t.length ≤ 140737488351232) :
    Calls Tryd.prog 9 #[.slice a0 l.length c0, .slice a d.length c] w fun y w' => y = .returned (.tuple #[.int .i64 (costN l d).1, .int .i64 (costN l d).2]) ∧ Below w.heap.size w w' := by
  have HL := hide (Lens_at a c d w h hl)
  have HO := hide h
  have HB := hide hB
  have HT := hide hT
  have hll := hB.2.1
  clear hB hT h
  cases hv : valB d with
  | false =>
    have hc : costN l d = (0, 130) := by unfold costN; rw [hv]; rfl
    unfold lensV at HL
    rw [hv] at HL
    simp only [Bool.false_eq_true, if_false] at HL
    rw [hc]
    clear hc hv
    go_enter Tryd.func9, Tryd.ntmps9
    go_wp2_with fail
    refine (unhide HL).mono ?_
    rintro y w1 ⟨rfl, hb⟩
    dsimp only
    clear HL
    go_wp2_with fail
    exact bodyPost_ret (results_tmp2 rfl _ _ _) rfl ⟨rfl, hb⟩
  | true =>
  unfold lensV at HL
  rw [hv] at HL
  simp only [if_true] at HL
  have hnn := (valB_nn hv).2
  by_cases hf : ¬ frD d = l.length
  · have hc : costN l d = (0, 131) := by unfold costN; rw [hv, if_pos rfl, if_neg hf]
    rw [hc]
    have t1 : ((frD d : Int) != (l.length : Int)) = true := by simp; omega
    generalize frD d = F at *
    generalize toD d = G at *
    clear hc hv
    go_enter Tryd.func9, Tryd.ntmps9
    go_wp2_with fail
    refine (unhide HL).mono ?_
    rintro y w1 ⟨rfl, hb⟩
    dsimp only
    clear HL
    go_wp2_with fail
    exact bodyPost_ret (results_tmp2 rfl _ _ _) rfl ⟨rfl, hb⟩
  have hf : frD d = l.length := by omega
  obtain ⟨cs, hcs⟩ : ∃ cs, cs = (runL d).2 := ⟨_, rfl⟩
  have hch : ∀ o ∈ cs, ChO o := by rw [hcs]; exact run_ch d (0, []) htb (fun _ h => by cases h)
  have hxl : ∀ o ∈ cs, o.t.length ≤ 140737488351232 := by rw [hcs]; exact run_tl d (0, []) htl (fun _ h => by cases h)
  have hch1 : chD d = (cs, 0) := by unfold chD; rw [hv, hcs]; rfl
  have hnE : EdgP l (frD d) → True := fun _ => trivial
  have hsum : sumP stepN l cs ≤ frD d + toD d := by
    have hi := (cost_is (E := fun _ => True) (S := stepN) (l := l) stepN_nil trivial hv trivial).2
    rw [hcs, hi]
    exact sumRf_le l d 0 (valB_k hv)
  have hcl : cs.length ≤ 536870912 := by
    have h1 := runL_len d d.length (Nat.le_refl _)
    rw [List.take_length] at h1
    have h2 := val_len hv
    rw [hcs]; omega
  have hc : costN l d = if okP (EdgP l) cs then ((sumP stepN l cs : Int), 0) else (0, 4) := by unfold costN; rw [hv, if_pos rfl, if_pos hf, ← hcs]
  rw [hc]
  have HCH := hide fun (X : World) (hX : Below w.heap.size w X) => Changes_at a c d X ((unhide HO).below hX (Nat.le_refl _)) hl
  rw [hch1] at HCH
  dsimp only at HCH
  rw [hf] at HL
  clear hc hv hch1 hnE hcs HO htb hl htl
  generalize toD d = G at *
  have t0 : ((l.length : Int) != (l.length : Int)) = false := by simp
  go_enter Tryd.func9, Tryd.ntmps9
  go_wp2_with fail
  refine (unhide HL).mono ?_
  rintro y w1 ⟨rfl, hb1⟩
  dsimp only
  have HC2 := hide (unhide HCH w1 hb1)
  have HB1 := hide hb1
  clear HL HCH hb1
  go_wp2_with fail
  refine (unhide HC2).mono ?_
  rintro y w2 ⟨v, rfl, ho, hb2⟩
  dsimp only
  obtain ⟨a2, c2, rfl, hi2, _⟩ := own_isOE ho
  have HI := hide hi2
  have HB2 := hide ((unhide HB1).trans (hb2.mono (unhide HB1).size))
  have HCO := hide hch
  have HXL := hide hxl
  clear HC2 ho hi2 hb2 HB1 hch hxl
  go_wp2_with fail
  go_loopw [9, 13, 36] (fun v9 v13 v36 wx => (∃ z, v13 = z) ∧ ∃ k : Nat, v36 = .int .i64 (k : Int) ∧ k ≤ cs.length ∧ v9 = .int .i64 (sumP stepN l (cs.take k) : Int) ∧ Hid (Below w2.heap.size w2 wx ∧ okP (EdgP l) (cs.take k))) (fun _ _ v36 _ => cs.length - (intOf v36).toNat)
  case atStart => exact ⟨⟨_, rfl⟩, 0, rfl, Nat.zero_le _, rfl, hide ⟨Below.refl _ _, fun c h => by simp at h⟩⟩
  case round =>
    obtain ⟨⟨z, rfl⟩, k, rfl, hk, rfl, HX⟩ := hrel
    by_cases h1 : k < cs.length
    · have t1 : decide ((k : Int) < (cs.length : Int)) = true := decide_eq_true (by omega)
      have f1 : (k : Int) < (cs.length : Int) := by omega
      obtain ⟨hbx, hok⟩ := unhide HX
      obtain ⟨gr, offr, rfl, hgr, e0, e1, e2⟩ := ((unhide HI).below hbx (Nat.le_refl _)).three h1
      have hco := unhide HCO _ (getD_memD h1)
      have hxl := unhide HXL _ (getD_memD h1)
      have HOK := hide (okP_take (E := EdgP l) cs h1)
      have HAL := hide fun (g : okP (EdgP l) cs) => okP_pre g (k + 1)
      have hst := sumP_take l cs h1
      have hp1 := sumP_pre l cs (k + 1)
      have HXB := hide (And.intro hbx hok)
      generalize cs.getD k opZ = x at *
      obtain ⟨xk, xn, xt⟩ := x
      obtain ⟨g1, g2, g3⟩ := hco
      dsimp only at e0 e1 e2 g1 g2 g3 hst HOK hxl
      obtain ⟨lo, rfl⟩ := Int.eq_ofNat_of_zero_le g1
      obtain ⟨hi, rfl⟩ := Int.eq_ofNat_of_zero_le (show 0 ≤ xn by omega)
      simp only [Int.toNat_natCast] at hst HOK
      obtain ⟨tx, htx⟩ : ∃ tx, tx = strOfNums xt := ⟨_, rfl⟩
      rw [← htx] at e2
      have bx := (Below.refl wr.heap.size wr).alloc (Nat.le_refl _) (.cells #[.int .i64 (lo : Int), .int .i64 (hi : Int), .string tx] 57)
      have dd := (Cls.new wr 57 #[.int .i64 (lo : Int), .int .i64 (hi : Int), .string tx])
      obtain ⟨gb, hgb⟩ : ∃ gb, gb = wr.heap.size := ⟨_, rfl⟩
      rw [← hgb] at dd
      have XB : Below w.heap.size w (wr.alloc (.cells #[.int .i64 (lo : Int), .int .i64 (hi : Int), .string tx] 57)) := ((unhide HB2).trans (hbx.mono (unhide HB2).size)).trans (bx.mono ((unhide HB2).trans (hbx.mono (unhide HB2).size)).size)
      have YB : Below w2.heap.size w2 (wr.alloc (.cells #[.int .i64 (lo : Int), .int .i64 (hi : Int), .string tx] 57)) := hbx.trans (bx.mono hbx.size)
      have HTX := hide htx
      have HDD := hide dd
      have HXX := hide (And.intro XB YB)
      obtain ⟨d0, d1, d2⟩ : (wr.alloc (.cells #[.int .i64 (lo : Int), .int .i64 (hi : Int), .string tx] 57)).cell? ⟨gb, 0, none⟩ = some (.int .i64 (lo : Int)) ∧ (wr.alloc (.cells #[.int .i64 (lo : Int), .int .i64 (hi : Int), .string tx] 57)).cell? ⟨gb, 1, none⟩ = some (.int .i64 (hi : Int)) ∧ (wr.alloc (.cells #[.int .i64 (lo : Int), .int .i64 (hi : Int), .string tx] 57)).cell? ⟨gb, 2, none⟩ = some (.string tx) := ⟨(dd.cell 0).trans rfl, (dd.cell 1).trans rfl, (dd.cell 2).trans rfl⟩
      clear htx bx dd XB YB hbx hok HX g1
      go_upto_region 11 with fail
      rw [← hgb]
      generalize wr.alloc (.cells #[.int .i64 (lo : Int), .int .i64 (hi : Int), .string tx] 57) = v0 at *
      clear e0 e1 e2 hgb hgr
      have HE1 := hide (Edge_at a0 c0 (lo : Int) l v0 ((unhide HB).below (unhide HXX).1 (Nat.le_refl _)) ((unhide HT).below (unhide HXX).1 (unhide HT).size))
      cases b1 : edgeB l (lo : Int) with
      | false =>
        rw [b1] at HE1
        have hno : ¬ okP (EdgP l) cs := fun g => by
          have := ((unhide HOK).1 (unhide HAL g)).2.1
          unfold EdgP at this
          rw [b1] at this; cases this
        have HNO := hide hno
        clear hno HOK HAL hst hp1
        go_wp2_with fail
        refine (unhide HE1).mono ?_
        rintro y v1 ⟨rfl, hb⟩
        dsimp only
        have HF := hide ((unhide HXX).1.trans (hb.mono (unhide HXX).1.size))
        clear HE1 hb d0 d1 d2
        go_wp2_with fail
        refine bodyPost_ret (results_tmp2 rfl _ _ _) rfl ⟨?_, unhide HF⟩
        first | rfl | (rw [if_neg (unhide HNO)]; rfl)
      | true =>
        rw [b1] at HE1
        go_wp2_with fail
        refine (unhide HE1).mono ?_
        rintro y v1 ⟨rfl, hb⟩
        dsimp only
        have HX1 := hide (And.intro ((unhide HXX).1.trans (hb.mono (unhide HXX).1.size)) ((unhide HXX).2.trans (hb.mono (unhide HXX).2.size)))
        have HD1 := hide ((unhide HDD).below hb (unhide HDD).lt)
        obtain ⟨p0, p1, p2⟩ : v1.cell? ⟨gb, 0, none⟩ = some (.int .i64 (lo : Int)) ∧ v1.cell? ⟨gb, 1, none⟩ = some (.int .i64 (hi : Int)) ∧ v1.cell? ⟨gb, 2, none⟩ = some (.string tx) := ⟨((unhide HD1).cell 0).trans rfl, ((unhide HD1).cell 1).trans rfl, ((unhide HD1).cell 2).trans rfl⟩
        clear HE1 hb d0 d1 d2 HDD HXX
        have HE2 := hide (Edge_at a0 c0 (hi : Int) l v1 ((unhide HB).below (unhide HX1).1 (Nat.le_refl _)) ((unhide HT).below (unhide HX1).1 (unhide HT).size))
        cases b2 : edgeB l (hi : Int) with
        | false =>
          rw [b2] at HE2
          have hno : ¬ okP (EdgP l) cs := fun g => by
            have := ((unhide HOK).1 (unhide HAL g)).2.2
            unfold EdgP at this
            rw [b2] at this; cases this
          have HNO := hide hno
          clear hno HOK HAL hst hp1
          go_wp2_with fail
          refine (unhide HE2).mono ?_
          rintro y v2 ⟨rfl, hb⟩
          dsimp only
          have HF := hide ((unhide HX1).1.trans (hb.mono (unhide HX1).1.size))
          clear HE2 hb p0 p1 p2
          go_wp2_with fail
          refine bodyPost_ret (results_tmp2 rfl _ _ _) rfl ⟨?_, unhide HF⟩
          first | rfl | (rw [if_neg (unhide HNO)]; rfl)
        | true =>
          rw [b2] at HE2
          go_wp2_with fail
          refine (unhide HE2).mono ?_
          rintro y v2 ⟨rfl, hb⟩
          dsimp only
          have HX2 := hide (And.intro ((unhide HX1).1.trans (hb.mono (unhide HX1).1.size)) ((unhide HX1).2.trans (hb.mono (unhide HX1).2.size)))
          have HD2 := hide ((unhide HD1).below hb (unhide HD1).lt)
          clear HE2 hb p0 p1 p2 HD1 HX1
          have HNOK : Hid (okP (EdgP l) (cs.take (k + 1))) := hide ((unhide HOK).2 ⟨(unhide HXB).2, b1, b2⟩)
          have hhi : hi ≤ l.length := by
            have := b2
            unfold edgeB at this
            simp only [Bool.and_eq_true, decide_eq_true_eq] at this
            omega
          clear HOK HAL b1 b2 HXB
          obtain ⟨A, hA⟩ : ∃ A, (if c0 = lo then a0 else a0.map (·.add lo)) = A := ⟨_, rfl⟩
          have hcap := (unhide HB).1
          have HBT : Hid (∀ X, Below w.heap.size w X → IsB X A (c0 - lo) (subL l lo hi)) := hide fun X hX => by rw [← hA]; exact (((unhide HB).below hX (Nat.le_refl _)).loD (n := lo)).takeD (n := hi - lo)
          have htl : hi - lo = (subL l lo hi).length := by unfold subL; rw [List.length_take, List.length_drop]; omega
          generalize subL l lo hi = sb at *
          have f2 : (lo : Int) ≤ (hi : Int) := by omega
          have f3 : (hi : Int) ≤ (c0 : Int) := by omega
          have f4 : hi ≤ c0 := by omega
          have f5 : (0 : Int) ≤ (lo : Int) := by omega
          have g3l : xt.length ≤ 140737488351232 := hxl
          have n1 := stepN_le sb
          have n2 := stepN_le xt
          have hs1 : sumP stepN l (cs.take k) + (stepN sb + stepN xt) ≤ 536870912 := by omega
          have HSS : Hid (Value.int .i64 (IntKind.i64.wrap ((sumP stepN l (cs.take k) : Int) + IntKind.i64.wrap (((spots sb 0).length : Int) + ((spots xt 0).length : Int)))) = .int .i64 (sumP stepN l (cs.take (k + 1)) : Int)) := hide (by rw [hst]; congr 1; exact wrap_two _ _ _ hs1)
          have ST1 := fun (X : World) (hX : Below w.heap.size w X) => steps_at A (c0 - lo) sb X (unhide HBT X hX) ((unhide HT).below hX (unhide HT).size)
          have ST2 := fun (X Y : World) (b : Option Addr) (q : Nat) (hX : Below w.heap.size w X) (hq : IsB X b q xt) => steps_at b q xt X hq ((unhide HT).below hX (unhide HT).size)
          have HST1 := hide ST1
          have HST2 := hide ST2
          have HG3 := hide (And.intro g3 g3l)
          clear ST1 ST2 hst hp1 n1 n2 g3 g3l hhi
          go_wp2_with fail
          refine regionL (S := fun w' => w'.cell? ⟨gb, 0, none⟩ = some (.int .i64 (lo : Int)) ∧ w'.cell? ⟨gb, 1, none⟩ = some (.int .i64 (hi : Int)) ∧ w'.cell? ⟨gb, 2, none⟩ = some (.string tx)) (fun _ => false) (by kernel_rfl) ?_
          have HX3 : Hid (Below w.heap.size w v2.drew ∧ Below w2.heap.size w2 v2.drew) := hide ⟨(unhide HX2).1.drew, (unhide HX2).2.drew⟩
          have HD3 : Hid (Cls v2.drew gb 57 #[.int .i64 (lo : Int), .int .i64 (hi : Int), .string tx]) := hide (unhide HD2)
          clear HX2 HD2
          generalize v2.drew = v3 at *
          have CC : ∀ Y : World, Below v3.heap.size v3 Y → Y.cell? ⟨gb, 0, none⟩ = some (.int .i64 (lo : Int)) ∧ Y.cell? ⟨gb, 1, none⟩ = some (.int .i64 (hi : Int)) ∧ Y.cell? ⟨gb, 2, none⟩ = some (.string tx) := fun Y hY => by
            have q := (unhide HD3).below hY (unhide HD3).lt
            exact ⟨(q.cell 0).trans rfl, (q.cell 1).trans rfl, (q.cell 2).trans rfl⟩
          have HCC := hide CC
          clear CC
          refine anyL_take (i := 0) (v := ?vq0) rfl (by kernel_rfl) (by kernel_rfl) (by kernel_rfl) (by kernel_rfl) (fun _ _ _ h => h) (Or.inl ⟨by rfl, ?hq0⟩) (unhide HCC v3 (Below.refl _ _)) ?_
          case hq0 => (intro w hSw; (try dsimp only at hSw); go_simp) <;> with_reducible rfl
          simp only [Act.put, List.getElem_toArray, List.getElem_cons_zero, List.setIfInBounds_toArray, List.set_cons_zero, List.set_cons_succ]
          refine anyL_take (i := 1) (v := ?vq1) rfl (by kernel_rfl) (by kernel_rfl) (by kernel_rfl) (by kernel_rfl) (fun _ _ _ h => h) (Or.inl ⟨by rfl, ?hq1⟩) (unhide HCC v3 (Below.refl _ _)) ?_
          case hq1 => (intro w hSw; (try dsimp only at hSw); go_simp) <;> with_reducible rfl
          simp only [Act.put, List.getElem_toArray, List.getElem_cons_zero, List.getElem_cons_succ, List.setIfInBounds_toArray, List.set_cons_zero, List.set_cons_succ]
          refine anyL_take (i := 2) (v := ?vq2) rfl (by kernel_rfl) (by kernel_rfl) (by kernel_rfl) (by kernel_rfl) (fun _ _ _ h => h) (Or.inl ⟨by rfl, ?hq2⟩) (unhide HCC v3 (Below.refl _ _)) ?_
          case hq2 => (intro w hSw; (try dsimp only at hSw); go_simp) <;> with_reducible rfl
          simp only [Act.put, List.getElem_toArray, List.getElem_cons_zero, List.getElem_cons_succ, List.setIfInBounds_toArray, List.set_cons_zero, List.set_cons_succ]
          refine anyL_take (i := 3) (v := ?vq3) rfl (by kernel_rfl) (by kernel_rfl) (by kernel_rfl) (by kernel_rfl) (fun _ _ _ h => h) (Or.inl ⟨by rfl, ?hq3⟩) (unhide HCC v3 (Below.refl _ _)) ?_
          case hq3 => (intro w hSw; (try dsimp only at hSw); go_simp) <;> with_reducible rfl
          simp only [Act.put, List.getElem_toArray, List.getElem_cons_zero, List.getElem_cons_succ, List.setIfInBounds_toArray, List.set_cons_zero, List.set_cons_succ]
          refine anyL_take (i := 4) (v := ?vq4) rfl (by kernel_rfl) (by kernel_rfl) (by kernel_rfl) (by kernel_rfl) (fun _ _ _ h => h) (Or.inl ⟨by rfl, ?hq4⟩) (unhide HCC v3 (Below.refl _ _)) ?_
          case hq4 => (intro w hSw; (try dsimp only at hSw); go_simp) <;> with_reducible rfl
          simp only [Act.put, List.getElem_toArray, List.getElem_cons_zero, List.getElem_cons_succ, List.setIfInBounds_toArray, List.set_cons_zero, List.set_cons_succ]
          refine anyL_take (i := 5) (v := ?vq5) rfl (by kernel_rfl) (by kernel_rfl) (by kernel_rfl) (by kernel_rfl) (fun _ _ _ h => h) (Or.inl ⟨by rfl, ?hq5⟩) (unhide HCC v3 (Below.refl _ _)) ?_
          case hq5 => (intro w hSw; (try dsimp only at hSw); go_simp) <;> with_reducible rfl
          simp only [Act.put, List.getElem_toArray, List.getElem_cons_zero, List.getElem_cons_succ, List.setIfInBounds_toArray, List.set_cons_zero, List.set_cons_succ]
          refine anyL_take (i := 6) (v := ?vq6) rfl (by kernel_rfl) (by kernel_rfl) (by kernel_rfl) (by kernel_rfl) (fun _ _ _ h => h) (Or.inl ⟨by rfl, ?hq6⟩) (unhide HCC v3 (Below.refl _ _)) ?_
          case hq6 => (intro w hSw; (try dsimp only at hSw); go_simp) <;> with_reducible rfl
          simp only [Act.put, List.getElem_toArray, List.getElem_cons_zero, List.getElem_cons_succ, List.setIfInBounds_toArray, List.set_cons_zero, List.set_cons_succ]
          refine anyL_take (i := 8) (v := ?vq7) rfl (by kernel_rfl) (by kernel_rfl) (by kernel_rfl) (by kernel_rfl) (fun _ _ _ h => h) (Or.inl ⟨by rfl, ?hq7⟩) (unhide HCC v3 (Below.refl _ _)) ?_
          case hq7 => (intro w hSw; (try dsimp only at hSw); go_simp) <;> with_reducible rfl
          simp only [Act.put, List.getElem_toArray, List.getElem_cons_zero, List.getElem_cons_succ, List.setIfInBounds_toArray, List.set_cons_zero, List.set_cons_succ]
          refine anyL_take (i := 9) (v := ?vq8) rfl (by kernel_rfl) (by kernel_rfl) (by kernel_rfl) (by kernel_rfl) (fun _ _ _ h => h) (Or.inl ⟨by rfl, ?hq8⟩) (unhide HCC v3 (Below.refl _ _)) ?_
          case hq8 => (intro w hSw; (try dsimp only at hSw); go_simp) <;> with_reducible rfl
          simp only [Act.put, List.getElem_toArray, List.getElem_cons_zero, List.getElem_cons_succ, List.setIfInBounds_toArray, List.set_cons_zero, List.set_cons_succ]
          have B0 := Below.refl v3.heap.size v3
          refine anyL_ready (rs := [7, 10]) (by kernel_rfl) (by simp) ?_
          refine AllL.cons rfl (fun K hK => ?_) (AllL.cons rfl (fun K hK => ?_) AllL.nil)
          · skip
            go_simp
            refine (unhide HST1 v3 ((unhide HX3).1.trans (B0.mono (unhide HX3).1.size))).mono ?_
            rintro y u1 ⟨rfl, bu1⟩
            have Bu1 := B0.trans (bu1.mono B0.size)
            refine unhide hK _ _ (fun _ => unhide HCC _ Bu1) ?_
            clear hK K
            refine anyL_ready (rs := [10]) (by kernel_rfl) (by simp) ?_
            refine AllL.cons rfl (fun K hK => ?_) AllL.nil
            obtain ⟨cq, u2, rc, ib, bu2⟩ := run_toBytesC u1 xt (unhide HG3).1 (unhide HG3).2
            rw [← unhide HTX] at rc
            have Bu2 := Bu1.trans (bu2.mono Bu1.size)
            go_simp
            refine unhide hK _ _ (fun _ => unhide HCC _ Bu2) ?_
            clear hK K rc
            refine anyL_ready (rs := [11]) (by kernel_rfl) (by simp) ?_
            refine AllL.cons rfl (fun K hK => ?_) AllL.nil
            go_simp
            refine (unhide HST2 u2 u2 _ cq ((unhide HX3).1.trans (Bu2.mono (unhide HX3).1.size)) ib).mono ?_
            rintro y u3 ⟨rfl, bu3⟩
            have Bu3 := Bu2.trans (bu3.mono Bu2.size)
            refine unhide hK _ _ (fun _ => unhide HCC _ Bu3) ?_
            clear hK K
            refine anyL_take (i := 12) (v := ?vq9) rfl (by kernel_rfl) (by kernel_rfl) (by kernel_rfl) (by kernel_rfl) (fun _ _ _ h => h) (Or.inl ⟨by rfl, ?hq9⟩) (unhide HCC _ Bu3) ?_
            case hq9 => (intro w hSw; (try dsimp only at hSw); go_simp) <;> with_reducible rfl
            simp only [Act.put, List.getElem_toArray, List.getElem_cons_zero, List.getElem_cons_succ, List.setIfInBounds_toArray, List.set_cons_zero, List.set_cons_succ]
            refine anyL_take (i := 13) (v := ?vq10) rfl (by kernel_rfl) (by kernel_rfl) (by kernel_rfl) (by kernel_rfl) (fun _ _ _ h => h) (Or.inl ⟨by rfl, ?hq10⟩) (unhide HCC _ Bu3) ?_
            case hq10 => (intro w hSw; (try dsimp only at hSw); go_simp) <;> with_reducible rfl
            simp only [Act.put, List.getElem_toArray, List.getElem_cons_zero, List.getElem_cons_succ, List.setIfInBounds_toArray, List.set_cons_zero, List.set_cons_succ]
            refine anyL_take (i := 14) (v := ?vq11) rfl (by kernel_rfl) (by kernel_rfl) (by kernel_rfl) (by kernel_rfl) (fun _ _ _ h => h) (Or.inl ⟨by rfl, ?hq11⟩) (unhide HCC _ Bu3) ?_
            case hq11 => (intro w hSw; (try dsimp only at hSw); go_simp) <;> with_reducible rfl
            simp only [Act.put, List.getElem_toArray, List.getElem_cons_zero, List.getElem_cons_succ, List.setIfInBounds_toArray, List.set_cons_zero, List.set_cons_succ]
            refine anyL_done (by kernel_rfl) ?_ _
            have HNX := hide ((unhide HX3).2.trans (Bu3.mono (unhide HX3).2.size))
            go_wp2_with fail
            go_roundw
            case rel => exact ⟨⟨_, rfl⟩, k + 1, by go_num, h1, unhide HSS, hide ⟨unhide HNX, unhide HNOK⟩⟩
            case measure => simp [intOf]; omega
          · skip
            obtain ⟨cq, u1, rc, ib, bu1⟩ := run_toBytesC v3 xt (unhide HG3).1 (unhide HG3).2
            rw [← unhide HTX] at rc
            have Bu1 := B0.trans (bu1.mono B0.size)
            go_simp
            refine unhide hK _ _ (fun _ => unhide HCC _ Bu1) ?_
            clear hK K rc
            refine anyL_ready (rs := [7]) (by kernel_rfl) (by simp) ?_
            refine AllL.cons rfl (fun K hK => ?_) AllL.nil
            go_simp
            refine (unhide HST1 u1 ((unhide HX3).1.trans (Bu1.mono (unhide HX3).1.size))).mono ?_
            rintro y u2 ⟨rfl, bu2⟩
            have Bu2 := Bu1.trans (bu2.mono Bu1.size)
            refine unhide hK _ _ (fun _ => unhide HCC _ Bu2) ?_
            clear hK K
            refine anyL_ready (rs := [11]) (by kernel_rfl) (by simp) ?_
            refine AllL.cons rfl (fun K hK => ?_) AllL.nil
            go_simp
            refine (unhide HST2 u2 u2 _ cq ((unhide HX3).1.trans (Bu2.mono (unhide HX3).1.size)) (ib.below bu2 (Nat.le_refl _))).mono ?_
            rintro y u3 ⟨rfl, bu3⟩
            have Bu3 := Bu2.trans (bu3.mono Bu2.size)
            refine unhide hK _ _ (fun _ => unhide HCC _ Bu3) ?_
            clear hK K
            refine anyL_take (i := 12) (v := ?vq12) rfl (by kernel_rfl) (by kernel_rfl) (by kernel_rfl) (by kernel_rfl) (fun _ _ _ h => h) (Or.inl ⟨by rfl, ?hq12⟩) (unhide HCC _ Bu3) ?_
            case hq12 => (intro w hSw; (try dsimp only at hSw); go_simp) <;> with_reducible rfl
            simp only [Act.put, List.getElem_toArray, List.getElem_cons_zero, List.getElem_cons_succ, List.setIfInBounds_toArray, List.set_cons_zero, List.set_cons_succ]
            refine anyL_take (i := 13) (v := ?vq13) rfl (by kernel_rfl) (by kernel_rfl) (by kernel_rfl) (by kernel_rfl) (fun _ _ _ h => h) (Or.inl ⟨by rfl, ?hq13⟩) (unhide HCC _ Bu3) ?_
            case hq13 => (intro w hSw; (try dsimp only at hSw); go_simp) <;> with_reducible rfl
            simp only [Act.put, List.getElem_toArray, List.getElem_cons_zero, List.getElem_cons_succ, List.setIfInBounds_toArray, List.set_cons_zero, List.set_cons_succ]
            refine anyL_take (i := 14) (v := ?vq14) rfl (by kernel_rfl) (by kernel_rfl) (by kernel_rfl) (by kernel_rfl) (fun _ _ _ h => h) (Or.inl ⟨by rfl, ?hq14⟩) (unhide HCC _ Bu3) ?_
            case hq14 => (intro w hSw; (try dsimp only at hSw); go_simp) <;> with_reducible rfl
            simp only [Act.put, List.getElem_toArray, List.getElem_cons_zero, List.getElem_cons_succ, List.setIfInBounds_toArray, List.set_cons_zero, List.set_cons_succ]
            refine anyL_done (by kernel_rfl) ?_ _
            have HNX := hide ((unhide HX3).2.trans (Bu3.mono (unhide HX3).2.size))
            go_wp2_with fail
            go_roundw
            case rel => exact ⟨⟨_, rfl⟩, k + 1, by go_num, h1, unhide HSS, hide ⟨unhide HNX, unhide HNOK⟩⟩
            case measure => simp [intOf]; omega
    · have t1 : decide ((k : Int) < (cs.length : Int)) = false := decide_eq_false (by omega)
      have hok := (unhide HX).2
      have HXB := hide (unhide HX).1
      rw [List.take_of_length_le (by omega)] at hok ⊢
      have HOK := hide hok
      clear hok HX
      go_wp2_with fail
      refine bodyPost_ret (results_tmp2 rfl _ _ _) rfl ⟨?_, (unhide HB2).trans ((unhide HXB).mono (unhide HB2).size)⟩
      first | rfl | (rw [if_pos (unhide HOK)]; rfl)
end Go.Proofs.YtkdnanlgkedjgabDoor
end
