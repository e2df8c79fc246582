/- Layer 13: checked and Of. · Layer 13, plain: a delta's changes as operations; what bytes that are all unlike tell of a delta. -/
import Derived.Test.YtjjdgfjlpkhgcaaMg14
import Derived.Test.YtjjdgfjlpkhgcaaMg18
import Derived.BigQuiet
import Derived.Test.YtjjdgfjlpkhgcaaMg22
import Derived.Test.YtjjdgfjlpkhgcaaMg19

section
namespace Go.Proofs.Ytjjdgfjlpkhgcaa
open Go.ChangeShapes Go.WideShapes Go.ChangeAt Go.RowKit
attribute [local go_sem] Oper.semAt_some

/-- what is wrong with a change -/
def badC (n : Int) (c : Dop) : Prop := c.k < 0 ∨ c.k > c.n ∨ c.n > n
def crsC (cs : List Dop) (k : Nat) : Prop := (cs.getD (k + 1) opZ).k < (cs.getD k opZ).n
/-- the error that Of begins with -/
structure ErrC (n : Int) (cs : List Dop) (E : Int) : Prop where
  a : (n < 0 ∨ n > 268435456) → E = 2
  b : ¬ (n < 0 ∨ n > 268435456) → (∃ k, k < cs.length ∧ badC n (cs.getD k opZ)) → E = 2
  c : ¬ (n < 0 ∨ n > 268435456) → (∀ k, k < cs.length → ¬ badC n (cs.getD k opZ)) → (∃ k, k + 1 < cs.length ∧ crsC cs k) → E = 120
  d : ¬ (n < 0 ∨ n > 268435456) → (∀ k, k < cs.length → ¬ badC n (cs.getD k opZ)) → (∀ k, k + 1 < cs.length → ¬ crsC cs k) → E = 0
theorem errC_is (n : Int) (cs : List Dop) : ∃ E, ErrC n cs E := by
  by_cases h1 : n < 0 ∨ n > 268435456
  · exact ⟨2, fun _ => rfl, fun h => absurd h1 h, fun h => absurd h1 h, fun h => absurd h1 h⟩
  by_cases h2 : ∃ k, k < cs.length ∧ badC n (cs.getD k opZ)
  · obtain ⟨k, hk, hb⟩ := h2
    exact ⟨2, fun _ => rfl, fun _ _ => rfl, fun _ h => absurd hb (h k hk), fun _ h => absurd hb (h k hk)⟩
  by_cases h3 : ∃ k, k + 1 < cs.length ∧ crsC cs k
  · obtain ⟨k, hk, hb⟩ := h3
    exact ⟨120, fun h => absurd h h1, fun _ h => absurd h h2, fun _ _ _ => rfl, fun _ _ h => absurd hb (h k hk)⟩
  · exact ⟨0, fun h => absurd h h1, fun _ h => absurd h h2, fun _ _ h => absurd h h3, fun _ _ _ => rfl⟩
theorem errC_ok {n : Int} {cs : List Dop} {E : Int} (h : ErrC n cs E) : (E = 0 ∧ (0 ≤ n ∧ n ≤ 268435456) ∧ okL 0 cs n) ∨ (E ≠ 0) := by
  by_cases h1 : n < 0 ∨ n > 268435456
  · exact .inr (by rw [h.a h1]; decide)
  by_cases h2 : ∃ k, k < cs.length ∧ badC n (cs.getD k opZ)
  · exact .inr (by rw [h.b h1 h2]; decide)
  have h2' : ∀ k, k < cs.length → ¬ badC n (cs.getD k opZ) := fun k hk hb => h2 ⟨k, hk, hb⟩
  by_cases h3 : ∃ k, k + 1 < cs.length ∧ crsC cs k
  · exact .inr (by rw [h.c h1 h2' h3]; decide)
  · have h3' : ∀ k, k + 1 < cs.length → ¬ crsC cs k := fun k hk hb => h3 ⟨k, hk, hb⟩
    refine .inl ⟨h.d h1 h2' h3', by omega, okL_of cs 0 n (by omega) (fun c hc => ?_) (fun k hk => ?_) h3'⟩
    · cases cs with
      | nil => simp at hc
      | cons c' r =>
        simp only [List.head?_cons, Option.some.injEq] at hc
        subst hc
        have := h2' 0 (by simp)
        unfold badC at this
        simp at this
        omega
    · have := h2' k hk
      unfold badC at this
      omega
theorem last_arith' (j : Nat) {L : Nat} (hl : L ≤ 4398046511104) (h : j + 1 < L) : wrap64 (((j + 1 : Nat) : Int) - 1) = (j : Int) ∧ True := ⟨by rw [wrapD _ (by omega) (by omega)]; omega, trivial⟩
theorem bad_tests (n : Int) (c : Dop) : (badC n c ∧ (decide (c.k < 0) = true ∨ (decide (c.k < 0) = false ∧ decide (c.k > c.n) = true ∧ decide (c.n < c.k) = true) ∨ (decide (c.k < 0) = false ∧ decide (c.k > c.n) = false ∧ decide (c.n < c.k) = false ∧ decide (c.n > n) = true ∧ decide (n < c.n) = true))) ∨
    (¬ badC n c ∧ decide (c.k < 0) = false ∧ decide (c.k > c.n) = false ∧ decide (c.n < c.k) = false ∧ decide (c.n > n) = false ∧ decide (n < c.n) = false) := by
  unfold badC
  by_cases h1 : c.k < 0
  · exact .inl ⟨.inl h1, .inl (decide_eq_true h1)⟩
  by_cases h2 : c.k > c.n
  · exact .inl ⟨.inr (.inl h2), .inr (.inl ⟨decide_eq_false h1, decide_eq_true h2, decide_eq_true h2⟩)⟩
  by_cases h3 : c.n > n
  · exact .inl ⟨.inr (.inr h3), .inr (.inr ⟨decide_eq_false h1, decide_eq_false h2, decide_eq_false (by omega), decide_eq_true h3, decide_eq_true h3⟩)⟩
  · exact .inr ⟨by omega, decide_eq_false h1, decide_eq_false h2, decide_eq_false (by omega), decide_eq_false h3, decide_eq_false (by omega)⟩
set_option maxRecDepth 100000 in
set_option maxHeartbeats 4000000 in
theorem checked_at (a : Option Addr) (c : Nat) (n : Int) (cs : List Dop) (E : Int) (w : World) (h : IsO w a cs) (hl : cs.length ≤ 4398046511104) (hE : ErrC n cs E) :
    Calls Try.prog 55 #[.int .i64 n, .slice a cs.length c] w fun y w' => y = .returned (.int .i64 E) ∧ Below w.heap.size w w' := by
  have HO := hide fun (X : World) (hx : Below w.heap.size w X) => h.below hx (Nat.le_refl _)
  have HE := hide hE
  clear hE h
  by_cases hn1 : n < 0
  · have HV := hide ((unhide HE).a (.inl hn1))
    have t1 : decide (n < 0) = true := decide_eq_true hn1
    clear HE HO hn1
    go_enter Try.func55, Try.ntmps55
    go_wp2_with fail
    rw [unhide HV]
    refine bodyPost_ret (results_tmp rfl _ _ _) rfl ⟨rfl, Below.refl _ _⟩
  by_cases hn2 : n > 268435456
  · have HV := hide ((unhide HE).a (.inr hn2))
    have t1 : decide (n < 0) = false := decide_eq_false hn1
    have t2 : decide (n > 268435456) = true := decide_eq_true hn2
    have t3 : decide (268435456 < n) = true := decide_eq_true hn2
    clear HE HO hn1 hn2
    go_enter Try.func55, Try.ntmps55
    go_wp2_with fail
    rw [unhide HV]
    refine bodyPost_ret (results_tmp rfl _ _ _) rfl ⟨rfl, Below.refl _ _⟩
  have HEb := hide ((unhide HE).b (by omega))
  have HEc := hide ((unhide HE).c (by omega))
  have HEd := hide ((unhide HE).d (by omega))
  have t1 : decide (n < 0) = false := decide_eq_false hn1
  have t2 : decide (n > 268435456) = false := decide_eq_false hn2
  have t3 : decide (268435456 < n) = false := decide_eq_false hn2
  clear HE hn1 hn2
  go_enter Try.func55, Try.ntmps55
  go_wp2_with fail
  go_loopw [6, 16] (fun v6 v16 wx => (∃ z, v6 = z) ∧ (∃ k : Nat, v16 = .int .i64 (k : Int) ∧ k ≤ cs.length ∧ Hid ((∀ i, i < k → ¬ badC n (cs.getD i opZ)) ∧ Below w.heap.size w wx))) (fun _ v16 _ => cs.length - (intOf v16).toNat)
  case atStart => exact ⟨⟨_, rfl⟩, ⟨0, rfl, Nat.zero_le _, hide ⟨fun i hi => absurd hi (Nat.not_lt_zero i), Below.refl _ _⟩⟩⟩
  case round =>
    obtain ⟨⟨z1, rfl⟩, ⟨k, rfl, hk, HI⟩⟩ := hrel
    by_cases hlt : k < cs.length
    · have s1 : decide ((k : Int) < (cs.length : Int)) = true := decide_eq_true (by omega)
      obtain ⟨g, off, rfl, hg, c0, c1, c2⟩ := (unhide HO wr (unhide HI).2).three hlt
      have HT := hide (bad_tests n (cs.getD k opZ))
      have HN : Hid (¬ badC n (cs.getD k opZ) → ∀ i, i < k + 1 → ¬ badC n (cs.getD i opZ)) := hide fun h0 i hi => by
        rcases Nat.lt_or_ge i k with h | h
        · exact (unhide HI).1 i h
        · obtain rfl : i = k := by omega
          exact h0
      have HV : Hid (badC n (cs.getD k opZ) → E = 2) := hide fun h0 => unhide HEb ⟨k, hlt, h0⟩
      generalize cs.getD k opZ = x at *
      obtain ⟨xk, xn, xt⟩ := x
      dsimp only at c0 c1 c2 HT
      obtain ⟨d0, d1, d2⟩ := three_nwD wr (.int .i64 xk) (.int .i64 xn) (.string (strOfNums xt)) (t := 56)
      have HB := hide ((unhide HI).2.alloc (unhide HI).2.size (.cells #[.int .i64 xk, .int .i64 xn, .string (strOfNums xt)] 56))
      generalize strOfNums xt = st at *
      clear HI HEb HEc HEd HO hk
      go_upto_region 6 with fail
      clear c0 c1 c2 d2
      generalize wr.alloc (.cells #[.int .i64 xk, .int .i64 xn, .string st] 56) = v0 at *
      generalize wr.heap.size = gb at *
      rcases unhide HT with ⟨hb, s2 | ⟨s2, s3, s4⟩ | ⟨s2, s3, s4, s5, s6⟩⟩ | ⟨hb, s2, s3, s4, s5, s6⟩
      · have HV2 := hide (unhide HV hb)
        clear HT HV HN hb
        go_wp2_with fail
        rw [unhide HV2]
        refine bodyPost_ret (results_tmp rfl _ _ _) rfl ⟨rfl, unhide HB⟩
      · have HV2 := hide (unhide HV hb)
        clear HT HV HN hb
        go_wp2_with fail
        rw [unhide HV2]
        refine bodyPost_ret (results_tmp rfl _ _ _) rfl ⟨rfl, unhide HB⟩
      · have HV2 := hide (unhide HV hb)
        clear HT HV HN hb
        go_wp2_with fail
        rw [unhide HV2]
        refine bodyPost_ret (results_tmp rfl _ _ _) rfl ⟨rfl, unhide HB⟩
      · have HN2 := hide (unhide HN hb)
        clear HT HV HN hb
        go_wp2_with fail
        go_roundw
        case rel => exact ⟨⟨_, rfl⟩, ⟨k + 1, by go_num, hlt, hide ⟨unhide HN2, unhide HB⟩⟩⟩
        case measure => simp [intOf]; omega
    · obtain rfl : k = cs.length := by omega
      have s1 : decide ((cs.length : Int) < (cs.length : Int)) = false := decide_eq_false (by omega)
      have HEc := hide (unhide HEc (unhide HI).1)
      have HEd := hide (unhide HEd (unhide HI).1)
      have HB := hide (unhide HI).2
      clear HI HEb hk hlt t1 t2 t3
      go_wp2_with fail
      clear s1
      go_loopw [7] (fun v7 wx => (∃ k : Nat, v7 = .int .i64 (k : Int) ∧ 1 ≤ k ∧ (k = 1 ∨ k ≤ cs.length) ∧ Hid ((∀ i, i + 1 < k → ¬ crsC cs i) ∧ Below w.heap.size w wx))) (fun v7 _ => cs.length + 1 - (intOf v7).toNat)
      case atStart => exact ⟨1, rfl, Nat.le_refl _, .inl rfl, hide ⟨fun i hi => absurd hi (by omega), unhide HB⟩⟩
      case round =>
        clear HB
        obtain ⟨k, rfl, hk1, hk2, HI⟩ := hrel
        by_cases hlt : k < cs.length
        · have s1 : decide ((k : Int) < (cs.length : Int)) = true := decide_eq_true (by omega)
          obtain ⟨j, rfl⟩ : ∃ j, k = j + 1 := ⟨k - 1, by omega⟩
          obtain ⟨g, off, rfl, hg, c0, c1, c2⟩ := (unhide HO wr (unhide HI).2).three hlt
          obtain ⟨g', off', he, hg', b0', b1, b2⟩ := (unhide HO wr (unhide HI).2).three (k := j) (by omega)
          obtain ⟨rfl, rfl⟩ : g = g' ∧ off = off' := by cases he; exact ⟨rfl, rfl⟩
          clear he b0' b2 c1 c2 hg hg'
          have HCR : Hid (crsC cs j ↔ (cs.getD (j + 1) opZ).k < (cs.getD j opZ).n) := hide Iff.rfl
          have HV : Hid (crsC cs j → E = 120) := hide fun h0 => unhide HEc ⟨j, hlt, h0⟩
          have HN : Hid (¬ crsC cs j → ∀ i, i + 1 < j + 2 → ¬ crsC cs i) := hide fun h0 i hi => by
            rcases Nat.lt_or_ge i j with h | h
            · exact (unhide HI).1 i (by omega)
            · obtain rfl : i = j := by omega
              exact h0
          have HB := hide (unhide HI).2
          have e5 := (last_arith' j hl hlt).1
          have hlt' : j < cs.length := by omega
          have hlt2 : (j : Int) < (cs.length : Int) := by omega
          clear HI HEc HEd HO hk1 hk2
          generalize (cs.getD (j + 1) opZ).k = xk at *
          generalize (cs.getD j opZ).n = xn at *
          generalize hK : j + 1 = K at *
          have hK0 : (0 : Int) ≤ (K : Int) := by omega
          have hK1 : (K : Int) < (cs.length : Int) := by omega
          have hj0 : (0 : Int) ≤ (j : Int) := by omega
          have e6 : (K : Int) - 1 = (j : Int) := by omega
          have e7 : wrap64 (j : Int) = (j : Int) := wrapD _ (by omega) (by omega)
          by_cases hx : xk < xn
          · have HV2 := hide (unhide HV ((unhide HCR).2 hx))
            have s2 : decide (xk < xn) = true := decide_eq_true hx
            clear HV HN HCR hx hK
            go_upto_region 12 with fail
            go_quiet (fail)
            go_wp2_with fail
            rw [unhide HV2]
            refine bodyPost_ret (results_tmp rfl _ _ _) rfl ⟨rfl, below_drewN (unhide HB) _⟩
          · have HN2 := hide (unhide HN (fun h0 => hx ((unhide HCR).1 h0)))
            rw [show j + 2 = K + 1 by omega] at HN2
            have s2 : decide (xk < xn) = false := decide_eq_false hx
            clear HV HN HCR hx hK
            go_upto_region 12 with fail
            go_quiet (fail)
            go_wp2_with fail
            go_roundw
            case rel => exact ⟨K + 1, by go_num, by omega, .inr hlt, hide ⟨unhide HN2, below_drewN (unhide HB) _⟩⟩
            case measure => simp [intOf]; omega
        · have s1 : decide ((k : Int) < (cs.length : Int)) = false := decide_eq_false (by omega)
          have HV := hide (unhide HEd (fun i hi => (unhide HI).1 i (by omega)))
          have HB := hide (unhide HI).2
          have s1' : decide (k < cs.length) = false := decide_eq_false hlt
          clear HEc HEd HI HO hk1 hk2
          go_wp2_with fail
          rw [unhide HV]
          refine bodyPost_ret (results_tmp rfl _ _ _) rfl ⟨rfl, unhide HB⟩

/-- what Of answers -/
def ofD (n : Int) (cs : List Dop) (E : Int) : List Dop × Int := if E = 0 then (if 268435456 < toD (opsC n cs) then ([], 5) else (canA (dA (opsC n cs)), 0)) else ([], E)
set_option maxRecDepth 100000 in
set_option maxHeartbeats 2000000 in
theorem Of_atD (a : Option Addr) (c : Nat) (n : Int) (cs : List Dop) (E : Int) (w : World) (h : IsO w a cs) (hl : cs.length ≤ 4398046511104) (hE : ErrC n cs E) :
    Calls Try.prog 16 #[.int .i64 n, .slice a cs.length c] w fun y w' => ∃ v, y = .returned (.tuple #[v, .int .i64 (ofD n cs E).2]) ∧ w'.ownsRow w.heap.size 34 3 v (ofD n cs E).1.length (opsV (ofD n cs E).1) ∧ Below w.heap.size w w' := by
  have HC := hide (checked_at a c n cs E w h hl hE)
  have hOk := errC_ok hE
  obtain ⟨L, R, hLR⟩ : ∃ L R, ofD n cs E = (L, R) := ⟨_, _, rfl⟩
  rw [hLR]
  dsimp only
  unfold ofD at hLR
  by_cases h0 : E = 0
  · rcases hOk with ⟨_, hn, hok⟩ | hne
    · rw [if_pos h0] at hLR
      subst h0
      obtain ⟨s1, s2⟩ := opsC_sizes hok
      have HZ : Hid (∀ X, Below w.heap.size w X → Calls Try.prog 56 #[.int .i64 n, .slice a cs.length c, .func (.func 57) #[.pointer (some ⟨X.heap.size, 0, none⟩)] #[], .func (.func 58) #[.pointer (some ⟨X.heap.size, 0, none⟩)] #[], .func (.func 59) #[.pointer (some ⟨X.heap.size, 0, none⟩)] #[]]
          (X.alloc (.cells #[.int .i64 0, .int .i64 0] 73)) fun y X' => y = .returned (.tuple #[]) ∧ IsZ X' X.heap.size (satD (frD (opsC n cs))) (satD (toD (opsC n cs))) ∧ Below X.heap.size X X') := hide fun X hx => by
        have ba : Below X.heap.size X (X.alloc (.cells #[.int .i64 0, .int .i64 0] 73)) := (Below.refl _ _).alloc (Nat.le_refl _) _
        exact (eachC_z a c X.heap.size X.heap.size n cs _ (fun Y hY => (h.below hx (Nat.le_refl _)).below (ba.trans hY) (Nat.le_refl _)) (Cls.new _ _ _) (Nat.le_refl _) ba.size hl hn hok).mono fun y Y ⟨e, h1, h2⟩ => ⟨e, h1, ba.trans h2⟩
      have HL := hide fun (X : World) => long_at (satD (frD (opsC n cs))) (satD (toD (opsC n cs))) X (by have := satD_le (frD (opsC n cs)); omega) (by have := satD_le (toD (opsC n cs)); omega)
      have hlo : decide (268435456 < satD (frD (opsC n cs)) ∨ 268435456 < satD (toD (opsC n cs))) = decide (268435456 < toD (opsC n cs)) := by
        have : frD (opsC n cs) ≤ 268435456 := by omega
        rw [decide_eq_decide]; unfold satD; omega
      rw [hlo] at HL
      have HE : Hid (∀ X, Below w.heap.size w X → ¬ 268435456 < toD (opsC n cs) → Calls Try.prog 56 #[.int .i64 n, .slice a cs.length c, .func (.func 49) #[.pointer (some ⟨X.heap.size, 0, none⟩)] #[], .func (.func 50) #[.pointer (some ⟨X.heap.size, 0, none⟩)] #[], .func (.func 51) #[.pointer (some ⟨X.heap.size, 0, none⟩)] #[]]
          (X.alloc (.cells #[.slice none 0 0, .int .i64 0, .slice none 0 0, .int .i64 0] 82))
          fun y X' => y = .returned (.tuple #[]) ∧ (∃ ts, IsBd X' X.heap.size X.heap.size 0 (fun _ => none) (feedA b0 (dA (opsC n cs))) ts ∧ BdOk (feedA b0 (dA (opsC n cs))) ts) ∧ Below X.heap.size X X') := hide fun X hx hto => by
        have ba : Below X.heap.size X (X.alloc (.cells #[.slice none 0 0, .int .i64 0, .slice none 0 0, .int .i64 0] 82)) := (Below.refl _ _).alloc (Nat.le_refl _) _
        refine (eachC_b a c X.heap.size X.heap.size n cs _ (fun Y hY => (h.below hx (Nat.le_refl _)).below (ba.trans hY) (Nat.le_refl _)) (bd_new X) ba.size hl hn hok (by omega)).mono fun y Y ⟨e, ⟨ts, h1⟩, h2⟩ => ⟨e, ⟨ts, h1, bd_ok h1 ?_⟩, ba.trans h2⟩
        have := dA_len (fun o ho => (opsC_ok hok o ho).1)
        omega
      clear h hl hE hok hn s1 s2 hlo
      have HLR := hide hLR
      clear hLR
      generalize satD (frD (opsC n cs)) = F at *
      generalize satD (toD (opsC n cs)) = T at *
      go_enter Try.func16, Try.ntmps16
      go_wp2_with fail
      refine (unhide HC).mono ?_
      rintro y w1 ⟨rfl, x1⟩
      dsimp only
      have HZ1 := hide (unhide HZ w1 x1)
      have HX1 := hide x1
      clear HC HZ x1
      go_upto_region 5 with fail
      generalize w1.alloc (.cells #[.int .i64 0, .int .i64 0] 73) = v1 at *
      generalize hg1 : w1.heap.size = g1 at HZ1 ⊢
      have HXg : Hid (∀ Y, Below g1 w1 Y → Below w.heap.size w Y) := hide fun Y hY => (unhide HX1).trans (hY.mono (by rw [← hg1]; exact (unhide HX1).size))
      clear hg1 HX1
      go_wp2_with fail
      refine (unhide HZ1).mono ?_
      rintro y w2 ⟨rfl, hz2, x2⟩
      dsimp only
      obtain ⟨q0, q1, _, _⟩ := hz2.cells
      have HX2 := hide (unhide HXg w2 x2)
      clear HZ1 HXg x2 hz2
      go_wp2_with fail
      refine (unhide HL w2).mono ?_
      rintro y w3 ⟨rfl, x3⟩
      dsimp only
      have HX3 := hide ((unhide HX2).trans (x3.mono (unhide HX2).size))
      clear HL HX2 x3 q0 q1
      by_cases hto : 268435456 < toD (opsC n cs)
      · have hLR := unhide HLR
        rw [if_pos hto, Prod.mk.injEq] at hLR
        obtain ⟨rfl, rfl⟩ := hLR
        rw [decide_eq_true hto]
        clear HE HLR hto
        go_wp2_with fail
        refine bodyPost_ret (results_tmp2 rfl _ _ _) rfl ⟨.slice none 0 0, rfl, row_nilD _ _, unhide HX3⟩
      · have HE3 := hide (unhide HE w3 (unhide HX3) hto)
        have HCA : Hid (canA (dA (opsC n cs)) = (feedA b0 (dA (opsC n cs))).fin) := hide rfl
        have hLR := unhide HLR
        rw [if_neg hto, Prod.mk.injEq] at hLR
        obtain ⟨hL, rfl⟩ := hLR
        rw [hL] at HCA
        rw [decide_eq_false hto]
        clear HE HLR hto hL
        go_upto_region 9 with fail
        generalize w3.alloc (.cells #[.slice none 0 0, .int .i64 0, .slice none 0 0, .int .i64 0] 82) = v3 at *
        generalize hg : w3.heap.size = g at HE3 ⊢
        have HG : Hid (w.heap.size ≤ g) := hide (by rw [← hg]; exact (unhide HX3).size)
        have HXg : Hid (∀ Y, Below g w3 Y → Below w.heap.size w Y) := hide fun Y hY => (unhide HX3).trans (hY.mono (unhide HG))
        clear hg
        go_wp2_with fail
        refine (unhide HE3).mono ?_
        rintro y w4 ⟨rfl, ⟨ts, hI, hok⟩, x4⟩
        dsimp only
        have HD := hide (bdelta_at g g 0 (fun _ => none) (feedA b0 (dA (opsC n cs))) ts w4 hI hok (Nat.le_of_lt (by obtain ⟨_, _, h1, _⟩ := hI.c; exact h1.lt)))
        rw [← unhide HCA] at HD
        have HX4 := hide x4
        clear hI hok x4 HE3
        go_wp2_with fail
        refine (unhide HD).mono ?_
        rintro y w5 ⟨v, rfl, ho, x5⟩
        dsimp only
        have HO5 : Hid (w5.ownsRow w.heap.size 34 3 v L.length (opsV L)) := hide (own_lower ho (unhide HG))
        have HX5 := hide (unhide HXg w5 ((unhide HX4).trans x5))
        clear HD ho x5
        go_wp2_with fail
        refine bodyPost_ret (results_tmp2 rfl _ _ _) rfl ⟨v, rfl, unhide HO5, unhide HX5⟩
    · exact absurd h0 hne
  · rw [if_neg h0, Prod.mk.injEq] at hLR
    obtain ⟨rfl, rfl⟩ := hLR
    have t1 : (E != 0) = true := by simpa using h0
    clear hOk h hl hE h0
    go_enter Try.func16, Try.ntmps16
    go_wp2_with fail
    refine (unhide HC).mono ?_
    rintro y w1 ⟨rfl, x1⟩
    dsimp only
    clear HC
    go_wp2_with fail
    refine bodyPost_ret (results_tmp2 rfl _ _ _) rfl ⟨.slice none 0 0, rfl, row_nilD _ _, x1⟩

end Go.Proofs.Ytjjdgfjlpkhgcaa
end

section
namespace Go.Proofs.Ytjjdgfjlpkhgcaa

theorem lstC_sn : ∀ (p : Int) (cs : List Dop) (c : Dop), lstC p (cs ++ [c]) = c.n
  | _, [], _ => rfl
  | _, x :: r, c => lstC_sn x.n r c
theorem opC_sn : ∀ (p : Int) (cs : List Dop) (c : Dop), opC p (cs ++ [c]) = opC p cs ++ [⟨1, c.k - lstC p cs, []⟩, ⟨2, 0, c.t⟩, ⟨3, c.n - c.k, []⟩]
  | _, [], _ => rfl
  | p, x :: r, c => by simp only [List.cons_append, opC, opC_sn x.n r c, lstC]
/-- changes that rise, a byte between each two -/
def GapC : Int → List Dop → Prop
  | _, [] => True
  | p, c :: r => p < c.k ∧ c.k ≤ c.n ∧ GapC c.n r
theorem gap_sn : ∀ {p : Int} {cs : List Dop} {c : Dop}, GapC p cs → lstC p cs < c.k → c.k ≤ c.n → GapC p (cs ++ [c])
  | _, [], _, _, h1, h2 => ⟨h1, h2, trivial⟩
  | _, _ :: _, _, h, h1, h2 => ⟨h.1, h.2.1, gap_sn h.2.2 h1 h2⟩
theorem gap_init : ∀ {p : Int} {cs : List Dop} {c : Dop}, GapC p (cs ++ [c]) → GapC p cs ∧ lstC p cs < c.k ∧ c.k ≤ c.n
  | _, [], _, h => ⟨trivial, h.1, h.2.1⟩
  | _, x :: r, c, h => by
    obtain ⟨h1, h2, h3⟩ := gap_init (cs := r) h.2.2
    exact ⟨⟨h.1, h.2.1, h1⟩, h2, h3⟩
theorem gap_le : ∀ {p : Int} {cs : List Dop}, GapC p cs → p ≤ lstC p cs ∧ ∀ c ∈ cs, p < c.k ∧ c.k ≤ c.n ∧ c.n ≤ lstC p cs
  | _, [], _ => ⟨Int.le_refl _, by simp⟩
  | p, x :: r, h => by
    obtain ⟨h1, h2⟩ := gap_le (cs := r) h.2.2
    have a1 := h.1
    have a2 := h.2.1
    simp only [lstC]
    refine ⟨by omega, fun c hc => ?_⟩
    rcases List.mem_cons.1 hc with rfl | hc
    · exact ⟨a1, a2, h1⟩
    · obtain ⟨b1, b2, b3⟩ := h2 c hc
      exact ⟨by omega, b2, b3⟩
theorem gap_next : ∀ {p : Int} {cs : List Dop}, GapC p cs → ∀ k, k + 1 < cs.length → (cs.getD k opZ).n < (cs.getD (k + 1) opZ).k
  | _, [], _, k, hk => by simp at hk
  | _, [_], _, k, hk => by simp at hk
  | _, x :: y :: r, h, 0, _ => h.2.2.1
  | _, x :: y :: r, h, k + 1, hk => by
    have := gap_next (cs := y :: r) h.2.2 k (by simpa using hk)
    simpa using this
theorem gap_len : ∀ {p : Int} {cs : List Dop}, GapC p cs → (cs.length : Int) ≤ lstC p cs - p
  | _, [], _ => by simp [lstC]
  | p, x :: r, h => by
    have h1 := gap_len (cs := r) h.2.2
    have a1 := h.1
    have a2 := h.2.1
    simp only [lstC, List.length_cons]
    omega
theorem opC_k : ∀ (p : Int) (cs : List Dop), ∀ o ∈ opC p cs, o.k = 1 ∨ o.k = 2 ∨ o.k = 3
  | _, [], o, ho => by simp [opC] at ho
  | p, c :: r, o, ho => by
    simp only [opC, List.mem_cons] at ho
    rcases ho with rfl | rfl | rfl | ho
    · exact .inl rfl
    · exact .inr (.inl rfl)
    · exact .inr (.inr rfl)
    · exact opC_k c.n r o ho
theorem opsC_k (n : Int) (cs : List Dop) : ∀ o ∈ opsC n cs, o.k = 1 ∨ o.k = 2 ∨ o.k = 3 := fun o ho => by
  unfold opsC at ho
  rcases List.mem_append.1 ho with ho | ho
  · exact opC_k 0 cs o ho
  · obtain rfl : o = ⟨1, n - lstC 0 cs, []⟩ := by simpa using ho
    exact .inl rfl
theorem lstC_two (p q : Int) {cs : List Dop} (h : cs ≠ []) : lstC p cs = lstC q cs := by cases cs with | nil => exact absurd rfl h | cons => rfl
/-- the changes of a beginning of a canonical delta -/
structure ChS (p : List Dop) (m : Nat) (cs : List Dop) : Prop where
  f : m = frD p
  g : GapC (-1) cs
  l : 0 ≤ lstC 0 cs ∧ lstC 0 cs ≤ m
  a : dA (opC 0 cs) ++ List.replicate (m - (lstC 0 cs).toNat) .k = dA p
  o : ∀ x, p.getLast? = some x → (cs.getLast?.map Dop.n = some (m : Int) ↔ x.k ≠ 1)
  z : p = [] → cs = []
  q : ∀ x, p.getLast? = some x → x.k = 2 → ∃ e t, cs = e ++ [⟨m, m, t⟩]
  k : ∀ x ∈ p, x.k = 1 ∨ x.k = 2 ∨ x.k = 3
theorem dA_one (o : Dop) : dA [o] = opA o := by simp [dA]
theorem last_lst {cs : List Dop} {x : Dop} (h : cs.getLast? = some x) (p : Int) : lstC p cs = x.n := by
  obtain ⟨e, rfl⟩ := List.getLast?_eq_some_iff.1 h
  exact lstC_sn p e x
theorem rep_k (a b : Nat) (u : List Atm) : List.replicate a Atm.k ++ (List.replicate b .k ++ u) = List.replicate (a + b) .k ++ u := by rw [← List.append_assoc, List.replicate_append_replicate]
/-- a new change at the end of what was -/
theorem ChS.new {p : List Dop} {m : Nat} {cs : List Dop} (h : ChS p m cs) (hg : cs.getLast?.map Dop.n ≠ some (m : Int)) (n : Nat) (t : List Int) :
    GapC (-1) (cs ++ [⟨m, ((m + n : Nat) : Int), t⟩]) ∧ dA (opC 0 (cs ++ [⟨m, ((m + n : Nat) : Int), t⟩])) = dA p ++ t.map .p ++ List.replicate n .d := by
  have hl := h.l
  have hlt : lstC (-1) cs < m := by
    cases hc : cs.getLast? with
    | none =>
      have : cs = [] := List.getLast?_eq_none_iff.1 hc
      subst this
      simp only [lstC]; omega
    | some x =>
      have h1 := last_lst hc (-1)
      have h2 := last_lst hc 0
      rw [hc] at hg
      simp at hg
      omega
  refine ⟨gap_sn h.g hlt (by dsimp only; omega), ?_⟩
  rw [opC_sn, dA_app, ← h.a]
  simp only [dA, List.flatMap_cons, List.flatMap_nil, List.append_nil]
  have e1 : opA (⟨1, (m : Int) - lstC 0 cs, []⟩ : Dop) = List.replicate (m - (lstC 0 cs).toNat) .k := by
    simp only [opA, if_true]; congr 1; omega
  have e2 : opA (⟨2, 0, t⟩ : Dop) = t.map .p := by simp [opA]
  have e3 : opA (⟨3, ((m + n : Nat) : Int) - (m : Int), []⟩ : Dop) = List.replicate n .d := by
    simp only [opA, show ¬ ((3 : Int) = 1) by decide, show ¬ ((3 : Int) = 2) by decide, if_false]; congr 1; omega
  rw [e1, e2, e3]
  simp [List.append_assoc]
theorem ChS.step {p : List Dop} {m : Nat} {cs : List Dop} {o : Dop} (h : ChS p m cs) (hp : Pln o) (hok : ∀ x, p.getLast? = some x → okN x.k o.k) : ChS (p ++ [o]) (stL (m, cs) o).1 (stL (m, cs) o).2 := by
  have hl := h.l
  have hkk : ∀ x ∈ p ++ [o], x.k = 1 ∨ x.k = 2 ∨ x.k = 3 := fun x hx => by
    rcases List.mem_append.1 hx with hx | hx
    · exact h.k x hx
    · obtain rfl : x = o := by simpa using hx
      rcases hp with ⟨h1 | h1, _⟩ | ⟨h1, _⟩ <;> omega
  have hnot : (∀ x, p.getLast? = some x → x.k = 1) → cs.getLast?.map Dop.n ≠ some (m : Int) := fun hx => by
    cases hc : p.getLast? with
    | none =>
      have := h.z (List.getLast?_eq_none_iff.1 hc)
      subst this; simp
    | some x => exact fun e => (h.o x hc).1 e (hx x hc)
  rcases hp with ⟨hk | hk, hn, ht⟩ | ⟨hk, hn, ht⟩
  · have es : stL (m, cs) o = (m + o.n.toNat, cs) := by simp [stL, hk]
    have eo : opA o = List.replicate o.n.toNat .k := by simp [opA, hk]
    rw [es]
    refine ⟨by rw [frD_snoc, ← h.f]; simp [frN, hk], h.g, ⟨hl.1, by dsimp only; omega⟩, ?_, fun x hx => ?_, fun e => by simp at e, fun x hx h2 => ?_, hkk⟩
    · dsimp only
      rw [dA_app, dA_one, ← h.a, eo, List.append_assoc, List.replicate_append_replicate]
      congr 2; omega
    · obtain rfl : o = x := by simpa using hx
      refine ⟨fun e => ?_, fun e => absurd hk e⟩
      cases hc : cs.getLast? with
      | none => rw [hc] at e; simp at e
      | some y =>
        rw [hc] at e
        have := last_lst hc 0
        simp at e
        omega
    · obtain rfl : o = x := by simpa using hx
      omega
  · have eo : opA o = List.replicate o.n.toNat .d := by simp [opA, hk]
    have hfr : frN o = o.n.toNat := by simp [frN, hk]
    obtain ⟨e, x, hH, hxn, hG, hA⟩ : ∃ e x, herL m cs = e ++ [x] ∧ x.n = (m : Int) ∧ GapC (-1) (e ++ [⟨x.k, x.n + o.n.toNat, x.t⟩]) ∧ dA (opC 0 (e ++ [⟨x.k, x.n + o.n.toNat, x.t⟩])) = dA p ++ List.replicate o.n.toNat .d := by
      by_cases h2 : ∃ y, p.getLast? = some y ∧ y.k = 2
      · obtain ⟨y, hy, hy2⟩ := h2
        obtain ⟨e, t, hcs⟩ := h.q y hy hy2
        have hgi := gap_init (hcs ▸ h.g)
        have ha := h.a
        refine ⟨e, ⟨m, m, t⟩, by unfold herL; rw [hcs]; simp, rfl, gap_sn hgi.1 hgi.2.1 (by dsimp only; omega), ?_⟩
        rw [hcs, lstC_sn, opC_sn] at ha
        dsimp only at ha ⊢
        rw [opC_sn]
        dsimp only
        rw [← ha]
        simp only [dA_app, Int.toNat_natCast, Nat.sub_self, List.replicate_zero, List.append_nil]
        simp only [dA, List.flatMap_cons, List.flatMap_nil, List.append_nil, List.append_assoc]
        congr 3
        rw [show opA (⟨3, (m : Int) - (m : Int), []⟩ : Dop) = [] by simp [opA], List.nil_append]
        simp only [opA, show ¬ ((3 : Int) = 1) by decide, show ¬ ((3 : Int) = 2) by decide, if_false]
        congr 1; omega
      · have hx1 : ∀ x, p.getLast? = some x → x.k = 1 := fun x hx => by
          have h3 := hok x hx
          rw [hk] at h3
          have h4 : x.k ≠ 2 := fun h4 => h2 ⟨x, hx, h4⟩
          have h5 := h3.1
          have h6 := h.k x (List.mem_of_getLast? hx)
          omega
        have hg := hnot hx1
        obtain ⟨n1, n2⟩ := h.new hg o.n.toNat []
        refine ⟨cs, ⟨m, m, []⟩, by unfold herL; rw [if_neg hg], rfl, by dsimp only; rw [← Int.natCast_add]; exact n1, by dsimp only; rw [← Int.natCast_add, n2]; simp⟩
    have es : stL (m, cs) o = (m + o.n.toNat, e ++ [⟨x.k, x.n + o.n.toNat, x.t⟩]) := by
      simp only [stL, hk, show ¬ ((3 : Int) = 1) by decide, show ¬ ((3 : Int) = 2) by decide, if_false]
      rw [hH, upL_snoc]
    rw [es]
    refine ⟨by rw [frD_snoc, ← h.f, hfr], hG, ⟨by rw [lstC_sn]; dsimp only; omega, by rw [lstC_sn]; dsimp only; omega⟩, ?_, fun y hy => ?_, fun e => by simp at e, fun y hy h2 => ?_, hkk⟩
    · rw [lstC_sn, hA, dA_app, dA_one, eo]
      dsimp only
      rw [show m + o.n.toNat - (x.n + (o.n.toNat : Int)).toNat = 0 by omega]
      simp
    · obtain rfl : o = y := by simpa using hy
      simp [hk, hxn]
    · obtain rfl : o = y := by simpa using hy
      omega
  · have hx1 : ∀ x, p.getLast? = some x → x.k = 1 := fun x hx => by
      have h3 := hok x hx
      rw [hk] at h3
      have h5 := h3.1
      have h6 := h.k x (List.mem_of_getLast? hx)
      have h7 : x.k ≠ 3 := fun h7 => h3.2 ⟨h7, rfl⟩
      omega
    have hg := hnot hx1
    obtain ⟨n1, n2⟩ := h.new hg 0 o.t
    rw [Nat.add_zero] at n1 n2
    have es : stL (m, cs) o = (m, cs ++ [⟨m, m, o.t⟩]) := by
      simp only [stL, hk, show ¬ ((2 : Int) = 1) by decide, if_false, if_true]
      unfold herL
      rw [if_neg hg, upL_snoc]
    rw [es]
    refine ⟨by rw [frD_snoc, ← h.f]; simp [frN, hk], n1, ⟨by rw [lstC_sn]; dsimp only; omega, by rw [lstC_sn]; dsimp only; omega⟩, ?_, fun y hy => ?_, fun e => by simp at e, fun y hy h2 => ⟨_, _, rfl⟩, hkk⟩
    · rw [lstC_sn, n2, dA_app, dA_one]
      simp [opA, hk]
    · obtain rfl : o = y := by simpa using hy
      simp [hk]

theorem chs_fold : ∀ (d : List Dop) {p : List Dop} {m : Nat} {cs : List Dop}, ChS p m cs → (∀ o ∈ d, Pln o) → Chn (p ++ d) → ChS (p ++ d) (d.foldl stL (m, cs)).1 (d.foldl stL (m, cs)).2
  | [], p, m, cs, h, _, _ => by simpa using h
  | o :: d, p, m, cs, h, hp, hc => by
    have h1 := h.step (hp o (by simp)) (fun x hx => chn_mid hc hx)
    have h2 := chs_fold d h1 (fun q hq => hp q (by simp [hq])) (by simpa using hc)
    simpa using h2
theorem chs_run {d : List Dop} (h : Can d) : ChS d (runL d).1 (runL d).2 := by
  have h0 : ChS [] 0 [] := ⟨rfl, trivial, by simp [lstC], by simp [opC, lstC, dA], fun x hx => by simp at hx, fun _ => rfl, fun x hx => by simp at hx, fun x hx => by simp at hx⟩
  have := chs_fold d h0 h.p (by simpa using h.c)
  simpa [runL] using this
theorem val_can {d : List Dop} (hc : canA (dA d) = d) : Can d := hc ▸ canA_can _
/-- Of of a delta's changes is the delta -/
theorem of_changes {d : List Dop} {n : Nat} (hv : valB d = true) (h : Can d) (hf : frD d = n) : chD d = ((runL d).2, 0) ∧ ErrC (n : Int) (runL d).2 0 ∧ ofD (n : Int) (runL d).2 0 = (d, 0) ∧ (runL d).2.length ≤ n + 1 := by
  have hs := chs_run h
  have hch : chD d = ((runL d).2, 0) := by unfold chD; rw [hv]; rfl
  have hnn := valB_nn hv
  have hm : (runL d).1 = n := hs.f.trans hf
  generalize (runL d).2 = cs at *
  generalize (runL d).1 = m at *
  subst hm
  have hl := hs.l
  obtain ⟨g1, g2⟩ := gap_le hs.g
  have hlast : cs ≠ [] → lstC (-1) cs = lstC 0 cs := fun h => lstC_two _ _ h
  have hbad : ∀ k, k < cs.length → ¬ badC (m : Int) (cs.getD k opZ) := fun k hk hb => by
    obtain ⟨b1, b2, b3⟩ := g2 _ (getD_memD hk)
    have := hlast (fun e => by rw [e] at hk; simp at hk)
    unfold badC at hb
    omega
  have hE : ErrC (m : Int) cs 0 := by
    obtain ⟨E, hE⟩ := errC_is (m : Int) cs
    have hz := hE.d (by omega) hbad (fun k hk hc => by
      have := gap_next hs.g k hk
      unfold crsC at hc
      omega)
    exact hz ▸ hE
  have ha : dA (opsC (m : Int) cs) = dA d := by
    rw [← hs.a]
    unfold opsC
    rw [dA_app, dA_one]
    congr 1
    simp only [opA, if_true]
    congr 1; omega
  have hk : ∀ o ∈ opsC (m : Int) cs, o.k = 1 ∨ o.k = 2 ∨ o.k = 3 := opsC_k _ _
  have ht : toD (opsC (m : Int) cs) = toD d := by rw [← (frA_dA hk).2, ha, (frA_dA (valB_k hv)).2]
  refine ⟨hch, hE, ?_, ?_⟩
  · unfold ofD
    rw [if_pos rfl, if_neg (by omega), ha, canA_id h]
  · cases cs with
    | nil => simp
    | cons x r =>
      have h1 := gap_len hs.g
      have h2 := hlast (by simp)
      omega

/-- no put stands behind a drop -/
def NoDP : List Atm → Prop
  | [] => True
  | .d :: u => (∀ x r, u ≠ .p x :: r) ∧ NoDP u
  | .k :: u => NoDP u
  | .p _ :: u => NoDP u
theorem nodp_ins : ∀ (u : List Atm), NoDP u → NoDP (insD u)
  | [], _ => ⟨(fun _ _ e => by cases e), trivial⟩
  | .k :: _, h => ⟨(fun _ _ e => by cases e), h⟩
  | .d :: _, h => ⟨(fun _ _ e => by cases e), h⟩
  | .p _ :: u, h => nodp_ins u h
theorem nodp_nf : ∀ u : List Atm, NoDP (nfA u)
  | [] => trivial
  | .k :: u => nodp_nf u
  | .p _ :: u => nodp_nf u
  | .d :: u => nodp_ins _ (nodp_nf u)
/-- bytes that are all unlike -/
def unT : Nat → Nat → List Int
  | _, 0 => []
  | i, m + 1 => (128 + (i : Int)) :: unT (i + 1) m
theorem unT_len : ∀ (m i : Nat), (unT i m).length = m
  | 0, _ => rfl
  | m + 1, i => by simp [unT, unT_len m]
theorem unT_by : ∀ (m i : Nat), i + m ≤ 120 → ∀ x ∈ unT i m, 0 ≤ x ∧ x ≤ 255
  | 0, _, _, x, hx => by simp [unT] at hx
  | m + 1, i, h, x, hx => by
    simp only [unT, List.mem_cons] at hx
    rcases hx with rfl | hx
    · omega
    · exact unT_by m (i + 1) (by omega) x hx
theorem unT_sn : ∀ (m i : Nat), unT i (m + 1) = unT i m ++ [128 + ((i + m : Nat) : Int)]
  | 0, i => by simp [unT]
  | m + 1, i => by
    rw [unT, unT_sn m (i + 1), unT]
    simp only [List.cons_append, List.cons.injEq, true_and]
    congr 4; omega
def decU (n : Nat) : List Int → Nat → List Atm
  | [], i => List.replicate (n - i) .d
  | x :: o, i => if x < 128 then .p x :: decU n o i else List.replicate ((x - 128).toNat - i) .d ++ .k :: decU n o ((x - 128).toNat + 1)
theorem dec_app (n : Nat) : ∀ (u : List Atm) (i m : Nat), i + m = n → frA u = m → NoDP u → (∀ z, Atm.p z ∈ u → z < 128) → decU n (appA (unT i m) u) i = u ∧ ((∀ x r, u ≠ .p x :: r) → ∀ y o, appA (unT i m) u = y :: o → 128 + (i : Int) ≤ y)
  | [], i, m, h, hf, _, _ => by
    have : m = 0 := by simpa [frA] using hf.symm
    subst this
    refine ⟨?_, fun _ y o e => by simp [appA] at e⟩
    simp only [appA, decU]
    rw [show n - i = 0 by omega]; rfl
  | .k :: u, i, m, h, hf, hn, hz => by
    obtain ⟨m', rfl⟩ : ∃ m', m = m' + 1 := ⟨frA u, by simp only [frA] at hf; omega⟩
    obtain ⟨h1, _⟩ := dec_app n u (i + 1) m' (by omega) (by simp only [frA] at hf; omega) hn (fun z hm => hz z (by simp [hm]))
    have e : appA (unT i (m' + 1)) (.k :: u) = (128 + (i : Int)) :: appA (unT (i + 1) m') u := by simp [appA, unT]
    rw [e]
    refine ⟨?_, fun _ y o e => by cases e; exact Int.le_refl _⟩
    simp only [decU]
    rw [if_neg (by omega), show (128 + (i : Int) - 128).toNat = i by omega, Nat.sub_self, h1]
    rfl
  | .p z :: u, i, m, h, hf, hn, hz => by
    obtain ⟨h1, _⟩ := dec_app n u i m h (by simpa [frA] using hf) hn (fun z hm => hz z (by simp [hm]))
    have e : appA (unT i m) (.p z :: u) = z :: appA (unT i m) u := by simp [appA]
    rw [e]
    refine ⟨?_, fun hx => absurd rfl (hx z u)⟩
    simp only [decU]
    rw [if_pos (hz z (by simp)), h1]
  | .d :: u, i, m, h, hf, hn, hz => by
    obtain ⟨m', rfl⟩ : ∃ m', m = m' + 1 := ⟨frA u, by simp only [frA] at hf; omega⟩
    obtain ⟨h1, h2⟩ := dec_app n u (i + 1) m' (by omega) (by simp only [frA] at hf; omega) hn.2 (fun z hm => hz z (by simp [hm]))
    have h3 := h2 hn.1
    have e : appA (unT i (m' + 1)) (.d :: u) = appA (unT (i + 1) m') u := by simp [appA, unT]
    rw [e]
    generalize appA (unT (i + 1) m') u = out at *
    cases out with
    | nil =>
      refine ⟨?_, fun _ y o e => by cases e⟩
      simp only [decU] at h1 ⊢
      rw [show n - i = (n - (i + 1)) + 1 by omega, List.replicate_succ, h1]
    | cons y o =>
      have h4 := h3 y o rfl
      refine ⟨?_, fun _ y' o' e => by cases e; omega⟩
      simp only [decU] at h1 ⊢
      rw [if_neg (by omega)] at h1 ⊢
      rw [show (y - 128).toNat - i = ((y - 128).toNat - (i + 1)) + 1 by omega, List.replicate_succ, List.cons_append, h1]
theorem un_inj {A B : List Dop} {n : Nat} (hA : valB A = true) (cA : Can A) (fA : frD A = n) (hB : valB B = true) (cB : Can B) (fB : frD B = n) (zA : ∀ o ∈ A, ∀ x ∈ o.t, x < 128) (zB : ∀ o ∈ B, ∀ x ∈ o.t, x < 128) : apD (unT 0 n) A = apD (unT 0 n) B ↔ A = B := by
  refine ⟨fun h => ?_, fun h => by rw [h]⟩
  have hz : ∀ {D : List Dop}, (∀ o ∈ D, ∀ x ∈ o.t, x < 128) → ∀ z, Atm.p z ∈ dA D → z < 128 := fun {D} hD z hm => by
    obtain ⟨o, ho, hm⟩ := List.mem_flatMap.1 hm
    unfold opA at hm
    split at hm
    · exact absurd (List.eq_of_mem_replicate hm) (by simp)
    · split at hm
      · obtain ⟨y, hy, e⟩ := List.mem_map.1 hm
        cases e
        exact hD o ho z hy
      · exact absurd (List.eq_of_mem_replicate hm) (by simp)
  rw [apD_is hA (by rw [unT_len]; exact fA), apD_is hB (by rw [unT_len]; exact fB)] at h
  have dA' := (dec_app n (dA A) 0 n (by omega) (by rw [(frA_dA (valB_k hA)).1]; exact fA) (by rw [← can_nf cA]; exact nodp_nf _) (hz zA)).1
  have dB' := (dec_app n (dA B) 0 n (by omega) (by rw [(frA_dA (valB_k hB)).1]; exact fB) (by rw [← can_nf cB]; exact nodp_nf _) (hz zB)).1
  rw [h, dB'] at dA'
  exact (can_inj cB cA dA').symm

end Go.Proofs.Ytjjdgfjlpkhgcaa
end
