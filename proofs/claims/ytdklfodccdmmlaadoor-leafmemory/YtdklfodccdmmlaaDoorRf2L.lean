/- The document's answer for layer 2: how many bytes the encoding has that begins at a place (galleyref02.at, in, Long). -/
import Derived.Test.YtdklfodccdmmlaaDoorStpC
namespace Go.Proofs.YtdklfodccdmmlaaDoor
open Go.ChangeShapes Go.WideShapes Go.ChangeAt Go.RowKit

def byt (l : List Int) (p : Nat) : Int := if p < l.length then l.getD p 0 else -1
def rng (x lo hi : Int) : Bool := decide (lo ≤ x ∧ x ≤ hi)
theorem rng_t {x lo hi : Int} (h1 : lo ≤ x) (h2 : x ≤ hi) : rng x lo hi = true := decide_eq_true ⟨h1, h2⟩
theorem rng_f {x lo hi : Int} (h : x < lo ∨ hi < x) : rng x lo hi = false := decide_eq_false (by omega)

theorem at_at (a0 : Option Addr) (cap : Nat) (l : List Int) (i : Int) {v : Int} (w : World) (hB : IsB w a0 cap l) (h0 : 0 ≤ i) (hv : byt l i.toNat = v) :
    Calls Tryd.prog 30 #[.slice a0 l.length cap, .int .i64 i] w fun e w' => e = .returned (.int .i64 v) ∧ w' = w := by
  obtain ⟨n, rfl⟩ : ∃ n : Nat, i = n := ⟨i.toNat, by omega⟩
  rw [Int.toNat_natCast] at hv
  subst hv
  have d0 : decide ((n : Int) < 0) = false := decide_eq_false (by omega)
  by_cases hn : n < l.length
  · rw [byt, if_pos hn]
    obtain ⟨h1, h2, h3, _⟩ := hB
    obtain ⟨g, off, rfl, hL, hg⟩ := h3.lies (by omega)
    obtain ⟨hc, x0, x1⟩ := hL n hn
    generalize hx : l.getD n 0 = x at hc x0 x1
    clear hx
    have hlt : ¬ (l.length : Int) ≤ (n : Int) := by omega
    go_enter Tryd.func30, Tryd.ntmps30
    go_wp2
    go_ret
    exact ⟨rfl, rfl⟩
  · rw [byt, if_neg hn]
    have hlt : (l.length : Int) ≤ (n : Int) := by omega
    go_enter Tryd.func30, Tryd.ntmps30
    go_wp2
    go_ret
    exact ⟨rfl, rfl⟩

theorem in_at (x lo hi : Int) {v : Bool} (w : World) (hv : rng x lo hi = v) :
    Calls Tryd.prog 31 #[.int .i64 x, .int .i64 lo, .int .i64 hi] w fun e w' => e = .returned (.bool v) ∧ w' = w := by
  subst hv
  by_cases h : lo ≤ x
  · have d0 : decide (lo ≤ x) = true := decide_eq_true h
    have e : rng x lo hi = decide (x ≤ hi) := by simp [rng, h]
    rw [e]
    go_enter Tryd.func31, Tryd.ntmps31
    go_wp2
    all_goals go_ret
    all_goals exact ⟨rfl, rfl⟩
  · have d0 : decide (lo ≤ x) = false := decide_eq_false h
    have e : rng x lo hi = false := by simp [rng, h]
    rw [e]
    go_enter Tryd.func31, Tryd.ntmps31
    go_wp2
    all_goals go_ret
    all_goals exact ⟨rfl, rfl⟩

/-- the document's table, over the four bytes from a place on -/
def tbl (x y z w : Int) : Nat :=
  if rng x 0 127 then 1 else if rng x 194 223 && rng y 128 191 then 2
  else if rng z 128 191 && ((x == 224) && rng y 160 191 || rng x 225 236 && rng y 128 191 || (x == 237) && rng y 128 159 || rng x 238 239 && rng y 128 191) then 3
  else if rng z 128 191 && rng w 128 191 && ((x == 240) && rng y 144 191 || rng x 241 243 && rng y 128 191 || (x == 244) && rng y 128 143) then 4 else 0

set_option maxHeartbeats 1000000 in
theorem Long_a (a0 : Option Addr) (cap p : Nat) (l : List Int) (x y z v : Int) (w : World) (hB : IsB w a0 cap l) (hp : p ≤ l.length) (hx : byt l (p : Int).toNat = x) (hy : byt l ((p : Int) + 1).toNat = y) (hz : byt l ((p : Int) + 2).toNat = z) (hv : byt l ((p : Int) + 3).toNat = v) (hlo : 0 ≤ x) (hhi : x ≤ 127) :
    Calls Tryd.prog 21 #[.slice a0 l.length cap, .int .i64 p] w fun e w' => e = .returned (.int .i64 (tbl x y z v)) ∧ w' = w := by
  have hl : l.length ≤ 140737488351232 := by obtain ⟨h1, h2, _⟩ := hB; omega
  have x0 : rng x 0 127 = true := rng_t (by omega) (by omega)
  have x1 : rng x 194 223 = false := rng_f (by omega)
  have x2 : rng x 225 236 = false := rng_f (by omega)
  have x3 : rng x 238 239 = false := rng_f (by omega)
  have x4 : rng x 241 243 = false := rng_f (by omega)
  have e224 : (x == 224) = false := by rw [beq_eq_false_iff_ne]; omega
  have e237 : (x == 237) = false := by rw [beq_eq_false_iff_ne]; omega
  have e240 : (x == 240) = false := by rw [beq_eq_false_iff_ne]; omega
  have e244 : (x == 244) = false := by rw [beq_eq_false_iff_ne]; omega
  rw [show tbl x y z v = 1 by clear hx hy hz hv; simp [tbl, *]]
  go_enter Tryd.func21, Tryd.ntmps21
  go_wp2_with (first
    | (go_at_call 30; refine (at_at a0 cap l _ _ hB (by omega) (by assumption)).mono ?_; rintro e w' ⟨rfl, rfl⟩)
    | (go_at_call 31; refine (in_at _ _ _ _ (by assumption)).mono ?_; rintro e w' ⟨rfl, rfl⟩))
  go_ret
  exact ⟨rfl, rfl⟩

set_option maxHeartbeats 1000000 in
theorem Long_b (a0 : Option Addr) (cap p : Nat) (l : List Int) (x y z v : Int) (w : World) (hB : IsB w a0 cap l) (hp : p ≤ l.length) (hx : byt l (p : Int).toNat = x) (hy : byt l ((p : Int) + 1).toNat = y) (hz : byt l ((p : Int) + 2).toNat = z) (hv : byt l ((p : Int) + 3).toNat = v) (hlo : 194 ≤ x) (hhi : x ≤ 223) :
    Calls Tryd.prog 21 #[.slice a0 l.length cap, .int .i64 p] w fun e w' => e = .returned (.int .i64 (tbl x y z v)) ∧ w' = w := by
  have hl : l.length ≤ 140737488351232 := by obtain ⟨h1, h2, _⟩ := hB; omega
  have x0 : rng x 0 127 = false := rng_f (by omega)
  have x1 : rng x 194 223 = true := rng_t (by omega) (by omega)
  have x2 : rng x 225 236 = false := rng_f (by omega)
  have x3 : rng x 238 239 = false := rng_f (by omega)
  have x4 : rng x 241 243 = false := rng_f (by omega)
  have e224 : (x == 224) = false := by rw [beq_eq_false_iff_ne]; omega
  have e237 : (x == 237) = false := by rw [beq_eq_false_iff_ne]; omega
  have e240 : (x == 240) = false := by rw [beq_eq_false_iff_ne]; omega
  have e244 : (x == 244) = false := by rw [beq_eq_false_iff_ne]; omega
  cases hyt : rng y 128 191 with
  | true =>
    rw [show tbl x y z v = 2 by clear hx hy hz hv; simp [tbl, *]]
    go_enter Tryd.func21, Tryd.ntmps21
    go_wp2_with (first
      | (go_at_call 30; refine (at_at a0 cap l _ _ hB (by omega) (by assumption)).mono ?_; rintro e w' ⟨rfl, rfl⟩)
      | (go_at_call 31; refine (in_at _ _ _ _ (by assumption)).mono ?_; rintro e w' ⟨rfl, rfl⟩))
    go_ret
    exact ⟨rfl, rfl⟩
  | false =>
    cases hzt : rng z 128 191 with
    | false =>
      rw [show tbl x y z v = 0 by clear hx hy hz hv; simp [tbl, *]]
      go_enter Tryd.func21, Tryd.ntmps21
      go_wp2_with (first
        | (go_at_call 30; refine (at_at a0 cap l _ _ hB (by omega) (by assumption)).mono ?_; rintro e w' ⟨rfl, rfl⟩)
        | (go_at_call 31; refine (in_at _ _ _ _ (by assumption)).mono ?_; rintro e w' ⟨rfl, rfl⟩))
      go_ret
      exact ⟨rfl, rfl⟩
    | true =>
      cases hvt : rng v 128 191 with
      | false =>
        rw [show tbl x y z v = 0 by clear hx hy hz hv; simp [tbl, *]]
        go_enter Tryd.func21, Tryd.ntmps21
        go_wp2_with (first
          | (go_at_call 30; refine (at_at a0 cap l _ _ hB (by omega) (by assumption)).mono ?_; rintro e w' ⟨rfl, rfl⟩)
          | (go_at_call 31; refine (in_at _ _ _ _ (by assumption)).mono ?_; rintro e w' ⟨rfl, rfl⟩))
        go_ret
        exact ⟨rfl, rfl⟩
      | true =>
        rw [show tbl x y z v = 0 by clear hx hy hz hv; simp [tbl, *]]
        go_enter Tryd.func21, Tryd.ntmps21
        go_wp2_with (first
          | (go_at_call 30; refine (at_at a0 cap l _ _ hB (by omega) (by assumption)).mono ?_; rintro e w' ⟨rfl, rfl⟩)
          | (go_at_call 31; refine (in_at _ _ _ _ (by assumption)).mono ?_; rintro e w' ⟨rfl, rfl⟩))
        go_ret
        exact ⟨rfl, rfl⟩

set_option maxHeartbeats 1000000 in
theorem Long_c (a0 : Option Addr) (cap p : Nat) (l : List Int) (x y z v : Int) (w : World) (hB : IsB w a0 cap l) (hp : p ≤ l.length) (hx : byt l (p : Int).toNat = x) (hy : byt l ((p : Int) + 1).toNat = y) (hz : byt l ((p : Int) + 2).toNat = z) (hv : byt l ((p : Int) + 3).toNat = v) (hlo : 224 ≤ x) (hhi : x ≤ 224) :
    Calls Tryd.prog 21 #[.slice a0 l.length cap, .int .i64 p] w fun e w' => e = .returned (.int .i64 (tbl x y z v)) ∧ w' = w := by
  have hl : l.length ≤ 140737488351232 := by obtain ⟨h1, h2, _⟩ := hB; omega
  have x0 : rng x 0 127 = false := rng_f (by omega)
  have x1 : rng x 194 223 = false := rng_f (by omega)
  have x2 : rng x 225 236 = false := rng_f (by omega)
  have x3 : rng x 238 239 = false := rng_f (by omega)
  have x4 : rng x 241 243 = false := rng_f (by omega)
  have e224 : (x == 224) = true := by rw [beq_iff_eq]; omega
  have e237 : (x == 237) = false := by rw [beq_eq_false_iff_ne]; omega
  have e240 : (x == 240) = false := by rw [beq_eq_false_iff_ne]; omega
  have e244 : (x == 244) = false := by rw [beq_eq_false_iff_ne]; omega
  cases hyt : rng y 160 191 with
  | false =>
    cases hzt : rng z 128 191 with
    | false =>
      rw [show tbl x y z v = 0 by clear hx hy hz hv; simp [tbl, *]]
      go_enter Tryd.func21, Tryd.ntmps21
      go_wp2_with (first
        | (go_at_call 30; refine (at_at a0 cap l _ _ hB (by omega) (by assumption)).mono ?_; rintro e w' ⟨rfl, rfl⟩)
        | (go_at_call 31; refine (in_at _ _ _ _ (by assumption)).mono ?_; rintro e w' ⟨rfl, rfl⟩))
      go_ret
      exact ⟨rfl, rfl⟩
    | true =>
      cases hvt : rng v 128 191 with
      | false =>
        rw [show tbl x y z v = 0 by clear hx hy hz hv; simp [tbl, *]]
        go_enter Tryd.func21, Tryd.ntmps21
        go_wp2_with (first
          | (go_at_call 30; refine (at_at a0 cap l _ _ hB (by omega) (by assumption)).mono ?_; rintro e w' ⟨rfl, rfl⟩)
          | (go_at_call 31; refine (in_at _ _ _ _ (by assumption)).mono ?_; rintro e w' ⟨rfl, rfl⟩))
        go_ret
        exact ⟨rfl, rfl⟩
      | true =>
        rw [show tbl x y z v = 0 by clear hx hy hz hv; simp [tbl, *]]
        go_enter Tryd.func21, Tryd.ntmps21
        go_wp2_with (first
          | (go_at_call 30; refine (at_at a0 cap l _ _ hB (by omega) (by assumption)).mono ?_; rintro e w' ⟨rfl, rfl⟩)
          | (go_at_call 31; refine (in_at _ _ _ _ (by assumption)).mono ?_; rintro e w' ⟨rfl, rfl⟩))
        go_ret
        exact ⟨rfl, rfl⟩
  | true =>
    cases hzt : rng z 128 191 with
    | false =>
      rw [show tbl x y z v = 0 by clear hx hy hz hv; simp [tbl, *]]
      go_enter Tryd.func21, Tryd.ntmps21
      go_wp2_with (first
        | (go_at_call 30; refine (at_at a0 cap l _ _ hB (by omega) (by assumption)).mono ?_; rintro e w' ⟨rfl, rfl⟩)
        | (go_at_call 31; refine (in_at _ _ _ _ (by assumption)).mono ?_; rintro e w' ⟨rfl, rfl⟩))
      go_ret
      exact ⟨rfl, rfl⟩
    | true =>
      rw [show tbl x y z v = 3 by clear hx hy hz hv; simp [tbl, *]]
      go_enter Tryd.func21, Tryd.ntmps21
      go_wp2_with (first
        | (go_at_call 30; refine (at_at a0 cap l _ _ hB (by omega) (by assumption)).mono ?_; rintro e w' ⟨rfl, rfl⟩)
        | (go_at_call 31; refine (in_at _ _ _ _ (by assumption)).mono ?_; rintro e w' ⟨rfl, rfl⟩))
      go_ret
      exact ⟨rfl, rfl⟩

set_option maxHeartbeats 1000000 in
theorem Long_d (a0 : Option Addr) (cap p : Nat) (l : List Int) (x y z v : Int) (w : World) (hB : IsB w a0 cap l) (hp : p ≤ l.length) (hx : byt l (p : Int).toNat = x) (hy : byt l ((p : Int) + 1).toNat = y) (hz : byt l ((p : Int) + 2).toNat = z) (hv : byt l ((p : Int) + 3).toNat = v) (hlo : 225 ≤ x) (hhi : x ≤ 236) :
    Calls Tryd.prog 21 #[.slice a0 l.length cap, .int .i64 p] w fun e w' => e = .returned (.int .i64 (tbl x y z v)) ∧ w' = w := by
  have hl : l.length ≤ 140737488351232 := by obtain ⟨h1, h2, _⟩ := hB; omega
  have x0 : rng x 0 127 = false := rng_f (by omega)
  have x1 : rng x 194 223 = false := rng_f (by omega)
  have x2 : rng x 225 236 = true := rng_t (by omega) (by omega)
  have x3 : rng x 238 239 = false := rng_f (by omega)
  have x4 : rng x 241 243 = false := rng_f (by omega)
  have e224 : (x == 224) = false := by rw [beq_eq_false_iff_ne]; omega
  have e237 : (x == 237) = false := by rw [beq_eq_false_iff_ne]; omega
  have e240 : (x == 240) = false := by rw [beq_eq_false_iff_ne]; omega
  have e244 : (x == 244) = false := by rw [beq_eq_false_iff_ne]; omega
  cases hyt : rng y 128 191 with
  | false =>
    cases hzt : rng z 128 191 with
    | false =>
      rw [show tbl x y z v = 0 by clear hx hy hz hv; simp [tbl, *]]
      go_enter Tryd.func21, Tryd.ntmps21
      go_wp2_with (first
        | (go_at_call 30; refine (at_at a0 cap l _ _ hB (by omega) (by assumption)).mono ?_; rintro e w' ⟨rfl, rfl⟩)
        | (go_at_call 31; refine (in_at _ _ _ _ (by assumption)).mono ?_; rintro e w' ⟨rfl, rfl⟩))
      go_ret
      exact ⟨rfl, rfl⟩
    | true =>
      cases hvt : rng v 128 191 with
      | false =>
        rw [show tbl x y z v = 0 by clear hx hy hz hv; simp [tbl, *]]
        go_enter Tryd.func21, Tryd.ntmps21
        go_wp2_with (first
          | (go_at_call 30; refine (at_at a0 cap l _ _ hB (by omega) (by assumption)).mono ?_; rintro e w' ⟨rfl, rfl⟩)
          | (go_at_call 31; refine (in_at _ _ _ _ (by assumption)).mono ?_; rintro e w' ⟨rfl, rfl⟩))
        go_ret
        exact ⟨rfl, rfl⟩
      | true =>
        rw [show tbl x y z v = 0 by clear hx hy hz hv; simp [tbl, *]]
        go_enter Tryd.func21, Tryd.ntmps21
        go_wp2_with (first
          | (go_at_call 30; refine (at_at a0 cap l _ _ hB (by omega) (by assumption)).mono ?_; rintro e w' ⟨rfl, rfl⟩)
          | (go_at_call 31; refine (in_at _ _ _ _ (by assumption)).mono ?_; rintro e w' ⟨rfl, rfl⟩))
        go_ret
        exact ⟨rfl, rfl⟩
  | true =>
    cases hzt : rng z 128 191 with
    | false =>
      rw [show tbl x y z v = 0 by clear hx hy hz hv; simp [tbl, *]]
      go_enter Tryd.func21, Tryd.ntmps21
      go_wp2_with (first
        | (go_at_call 30; refine (at_at a0 cap l _ _ hB (by omega) (by assumption)).mono ?_; rintro e w' ⟨rfl, rfl⟩)
        | (go_at_call 31; refine (in_at _ _ _ _ (by assumption)).mono ?_; rintro e w' ⟨rfl, rfl⟩))
      go_ret
      exact ⟨rfl, rfl⟩
    | true =>
      rw [show tbl x y z v = 3 by clear hx hy hz hv; simp [tbl, *]]
      go_enter Tryd.func21, Tryd.ntmps21
      go_wp2_with (first
        | (go_at_call 30; refine (at_at a0 cap l _ _ hB (by omega) (by assumption)).mono ?_; rintro e w' ⟨rfl, rfl⟩)
        | (go_at_call 31; refine (in_at _ _ _ _ (by assumption)).mono ?_; rintro e w' ⟨rfl, rfl⟩))
      go_ret
      exact ⟨rfl, rfl⟩

set_option maxHeartbeats 1000000 in
theorem Long_e (a0 : Option Addr) (cap p : Nat) (l : List Int) (x y z v : Int) (w : World) (hB : IsB w a0 cap l) (hp : p ≤ l.length) (hx : byt l (p : Int).toNat = x) (hy : byt l ((p : Int) + 1).toNat = y) (hz : byt l ((p : Int) + 2).toNat = z) (hv : byt l ((p : Int) + 3).toNat = v) (hlo : 237 ≤ x) (hhi : x ≤ 237) :
    Calls Tryd.prog 21 #[.slice a0 l.length cap, .int .i64 p] w fun e w' => e = .returned (.int .i64 (tbl x y z v)) ∧ w' = w := by
  have hl : l.length ≤ 140737488351232 := by obtain ⟨h1, h2, _⟩ := hB; omega
  have x0 : rng x 0 127 = false := rng_f (by omega)
  have x1 : rng x 194 223 = false := rng_f (by omega)
  have x2 : rng x 225 236 = false := rng_f (by omega)
  have x3 : rng x 238 239 = false := rng_f (by omega)
  have x4 : rng x 241 243 = false := rng_f (by omega)
  have e224 : (x == 224) = false := by rw [beq_eq_false_iff_ne]; omega
  have e237 : (x == 237) = true := by rw [beq_iff_eq]; omega
  have e240 : (x == 240) = false := by rw [beq_eq_false_iff_ne]; omega
  have e244 : (x == 244) = false := by rw [beq_eq_false_iff_ne]; omega
  cases hyt : rng y 128 159 with
  | false =>
    cases hzt : rng z 128 191 with
    | false =>
      rw [show tbl x y z v = 0 by clear hx hy hz hv; simp [tbl, *]]
      go_enter Tryd.func21, Tryd.ntmps21
      go_wp2_with (first
        | (go_at_call 30; refine (at_at a0 cap l _ _ hB (by omega) (by assumption)).mono ?_; rintro e w' ⟨rfl, rfl⟩)
        | (go_at_call 31; refine (in_at _ _ _ _ (by assumption)).mono ?_; rintro e w' ⟨rfl, rfl⟩))
      go_ret
      exact ⟨rfl, rfl⟩
    | true =>
      cases hvt : rng v 128 191 with
      | false =>
        rw [show tbl x y z v = 0 by clear hx hy hz hv; simp [tbl, *]]
        go_enter Tryd.func21, Tryd.ntmps21
        go_wp2_with (first
          | (go_at_call 30; refine (at_at a0 cap l _ _ hB (by omega) (by assumption)).mono ?_; rintro e w' ⟨rfl, rfl⟩)
          | (go_at_call 31; refine (in_at _ _ _ _ (by assumption)).mono ?_; rintro e w' ⟨rfl, rfl⟩))
        go_ret
        exact ⟨rfl, rfl⟩
      | true =>
        rw [show tbl x y z v = 0 by clear hx hy hz hv; simp [tbl, *]]
        go_enter Tryd.func21, Tryd.ntmps21
        go_wp2_with (first
          | (go_at_call 30; refine (at_at a0 cap l _ _ hB (by omega) (by assumption)).mono ?_; rintro e w' ⟨rfl, rfl⟩)
          | (go_at_call 31; refine (in_at _ _ _ _ (by assumption)).mono ?_; rintro e w' ⟨rfl, rfl⟩))
        go_ret
        exact ⟨rfl, rfl⟩
  | true =>
    cases hzt : rng z 128 191 with
    | false =>
      rw [show tbl x y z v = 0 by clear hx hy hz hv; simp [tbl, *]]
      go_enter Tryd.func21, Tryd.ntmps21
      go_wp2_with (first
        | (go_at_call 30; refine (at_at a0 cap l _ _ hB (by omega) (by assumption)).mono ?_; rintro e w' ⟨rfl, rfl⟩)
        | (go_at_call 31; refine (in_at _ _ _ _ (by assumption)).mono ?_; rintro e w' ⟨rfl, rfl⟩))
      go_ret
      exact ⟨rfl, rfl⟩
    | true =>
      rw [show tbl x y z v = 3 by clear hx hy hz hv; simp [tbl, *]]
      go_enter Tryd.func21, Tryd.ntmps21
      go_wp2_with (first
        | (go_at_call 30; refine (at_at a0 cap l _ _ hB (by omega) (by assumption)).mono ?_; rintro e w' ⟨rfl, rfl⟩)
        | (go_at_call 31; refine (in_at _ _ _ _ (by assumption)).mono ?_; rintro e w' ⟨rfl, rfl⟩))
      go_ret
      exact ⟨rfl, rfl⟩

set_option maxHeartbeats 1000000 in
theorem Long_f (a0 : Option Addr) (cap p : Nat) (l : List Int) (x y z v : Int) (w : World) (hB : IsB w a0 cap l) (hp : p ≤ l.length) (hx : byt l (p : Int).toNat = x) (hy : byt l ((p : Int) + 1).toNat = y) (hz : byt l ((p : Int) + 2).toNat = z) (hv : byt l ((p : Int) + 3).toNat = v) (hlo : 238 ≤ x) (hhi : x ≤ 239) :
    Calls Tryd.prog 21 #[.slice a0 l.length cap, .int .i64 p] w fun e w' => e = .returned (.int .i64 (tbl x y z v)) ∧ w' = w := by
  have hl : l.length ≤ 140737488351232 := by obtain ⟨h1, h2, _⟩ := hB; omega
  have x0 : rng x 0 127 = false := rng_f (by omega)
  have x1 : rng x 194 223 = false := rng_f (by omega)
  have x2 : rng x 225 236 = false := rng_f (by omega)
  have x3 : rng x 238 239 = true := rng_t (by omega) (by omega)
  have x4 : rng x 241 243 = false := rng_f (by omega)
  have e224 : (x == 224) = false := by rw [beq_eq_false_iff_ne]; omega
  have e237 : (x == 237) = false := by rw [beq_eq_false_iff_ne]; omega
  have e240 : (x == 240) = false := by rw [beq_eq_false_iff_ne]; omega
  have e244 : (x == 244) = false := by rw [beq_eq_false_iff_ne]; omega
  cases hyt : rng y 128 191 with
  | false =>
    cases hzt : rng z 128 191 with
    | false =>
      rw [show tbl x y z v = 0 by clear hx hy hz hv; simp [tbl, *]]
      go_enter Tryd.func21, Tryd.ntmps21
      go_wp2_with (first
        | (go_at_call 30; refine (at_at a0 cap l _ _ hB (by omega) (by assumption)).mono ?_; rintro e w' ⟨rfl, rfl⟩)
        | (go_at_call 31; refine (in_at _ _ _ _ (by assumption)).mono ?_; rintro e w' ⟨rfl, rfl⟩))
      go_ret
      exact ⟨rfl, rfl⟩
    | true =>
      cases hvt : rng v 128 191 with
      | false =>
        rw [show tbl x y z v = 0 by clear hx hy hz hv; simp [tbl, *]]
        go_enter Tryd.func21, Tryd.ntmps21
        go_wp2_with (first
          | (go_at_call 30; refine (at_at a0 cap l _ _ hB (by omega) (by assumption)).mono ?_; rintro e w' ⟨rfl, rfl⟩)
          | (go_at_call 31; refine (in_at _ _ _ _ (by assumption)).mono ?_; rintro e w' ⟨rfl, rfl⟩))
        go_ret
        exact ⟨rfl, rfl⟩
      | true =>
        rw [show tbl x y z v = 0 by clear hx hy hz hv; simp [tbl, *]]
        go_enter Tryd.func21, Tryd.ntmps21
        go_wp2_with (first
          | (go_at_call 30; refine (at_at a0 cap l _ _ hB (by omega) (by assumption)).mono ?_; rintro e w' ⟨rfl, rfl⟩)
          | (go_at_call 31; refine (in_at _ _ _ _ (by assumption)).mono ?_; rintro e w' ⟨rfl, rfl⟩))
        go_ret
        exact ⟨rfl, rfl⟩
  | true =>
    cases hzt : rng z 128 191 with
    | false =>
      rw [show tbl x y z v = 0 by clear hx hy hz hv; simp [tbl, *]]
      go_enter Tryd.func21, Tryd.ntmps21
      go_wp2_with (first
        | (go_at_call 30; refine (at_at a0 cap l _ _ hB (by omega) (by assumption)).mono ?_; rintro e w' ⟨rfl, rfl⟩)
        | (go_at_call 31; refine (in_at _ _ _ _ (by assumption)).mono ?_; rintro e w' ⟨rfl, rfl⟩))
      go_ret
      exact ⟨rfl, rfl⟩
    | true =>
      rw [show tbl x y z v = 3 by clear hx hy hz hv; simp [tbl, *]]
      go_enter Tryd.func21, Tryd.ntmps21
      go_wp2_with (first
        | (go_at_call 30; refine (at_at a0 cap l _ _ hB (by omega) (by assumption)).mono ?_; rintro e w' ⟨rfl, rfl⟩)
        | (go_at_call 31; refine (in_at _ _ _ _ (by assumption)).mono ?_; rintro e w' ⟨rfl, rfl⟩))
      go_ret
      exact ⟨rfl, rfl⟩

set_option maxHeartbeats 1000000 in
theorem Long_g (a0 : Option Addr) (cap p : Nat) (l : List Int) (x y z v : Int) (w : World) (hB : IsB w a0 cap l) (hp : p ≤ l.length) (hx : byt l (p : Int).toNat = x) (hy : byt l ((p : Int) + 1).toNat = y) (hz : byt l ((p : Int) + 2).toNat = z) (hv : byt l ((p : Int) + 3).toNat = v) (hlo : 240 ≤ x) (hhi : x ≤ 240) :
    Calls Tryd.prog 21 #[.slice a0 l.length cap, .int .i64 p] w fun e w' => e = .returned (.int .i64 (tbl x y z v)) ∧ w' = w := by
  have hl : l.length ≤ 140737488351232 := by obtain ⟨h1, h2, _⟩ := hB; omega
  have x0 : rng x 0 127 = false := rng_f (by omega)
  have x1 : rng x 194 223 = false := rng_f (by omega)
  have x2 : rng x 225 236 = false := rng_f (by omega)
  have x3 : rng x 238 239 = false := rng_f (by omega)
  have x4 : rng x 241 243 = false := rng_f (by omega)
  have e224 : (x == 224) = false := by rw [beq_eq_false_iff_ne]; omega
  have e237 : (x == 237) = false := by rw [beq_eq_false_iff_ne]; omega
  have e240 : (x == 240) = true := by rw [beq_iff_eq]; omega
  have e244 : (x == 244) = false := by rw [beq_eq_false_iff_ne]; omega
  cases hyt : rng y 144 191 with
  | false =>
    cases hzt : rng z 128 191 with
    | false =>
      rw [show tbl x y z v = 0 by clear hx hy hz hv; simp [tbl, *]]
      go_enter Tryd.func21, Tryd.ntmps21
      go_wp2_with (first
        | (go_at_call 30; refine (at_at a0 cap l _ _ hB (by omega) (by assumption)).mono ?_; rintro e w' ⟨rfl, rfl⟩)
        | (go_at_call 31; refine (in_at _ _ _ _ (by assumption)).mono ?_; rintro e w' ⟨rfl, rfl⟩))
      go_ret
      exact ⟨rfl, rfl⟩
    | true =>
      cases hvt : rng v 128 191 with
      | false =>
        rw [show tbl x y z v = 0 by clear hx hy hz hv; simp [tbl, *]]
        go_enter Tryd.func21, Tryd.ntmps21
        go_wp2_with (first
          | (go_at_call 30; refine (at_at a0 cap l _ _ hB (by omega) (by assumption)).mono ?_; rintro e w' ⟨rfl, rfl⟩)
          | (go_at_call 31; refine (in_at _ _ _ _ (by assumption)).mono ?_; rintro e w' ⟨rfl, rfl⟩))
        go_ret
        exact ⟨rfl, rfl⟩
      | true =>
        rw [show tbl x y z v = 0 by clear hx hy hz hv; simp [tbl, *]]
        go_enter Tryd.func21, Tryd.ntmps21
        go_wp2_with (first
          | (go_at_call 30; refine (at_at a0 cap l _ _ hB (by omega) (by assumption)).mono ?_; rintro e w' ⟨rfl, rfl⟩)
          | (go_at_call 31; refine (in_at _ _ _ _ (by assumption)).mono ?_; rintro e w' ⟨rfl, rfl⟩))
        go_ret
        exact ⟨rfl, rfl⟩
  | true =>
    cases hzt : rng z 128 191 with
    | false =>
      rw [show tbl x y z v = 0 by clear hx hy hz hv; simp [tbl, *]]
      go_enter Tryd.func21, Tryd.ntmps21
      go_wp2_with (first
        | (go_at_call 30; refine (at_at a0 cap l _ _ hB (by omega) (by assumption)).mono ?_; rintro e w' ⟨rfl, rfl⟩)
        | (go_at_call 31; refine (in_at _ _ _ _ (by assumption)).mono ?_; rintro e w' ⟨rfl, rfl⟩))
      go_ret
      exact ⟨rfl, rfl⟩
    | true =>
      cases hvt : rng v 128 191 with
      | false =>
        rw [show tbl x y z v = 0 by clear hx hy hz hv; simp [tbl, *]]
        go_enter Tryd.func21, Tryd.ntmps21
        go_wp2_with (first
          | (go_at_call 30; refine (at_at a0 cap l _ _ hB (by omega) (by assumption)).mono ?_; rintro e w' ⟨rfl, rfl⟩)
          | (go_at_call 31; refine (in_at _ _ _ _ (by assumption)).mono ?_; rintro e w' ⟨rfl, rfl⟩))
        go_ret
        exact ⟨rfl, rfl⟩
      | true =>
        rw [show tbl x y z v = 4 by clear hx hy hz hv; simp [tbl, *]]
        go_enter Tryd.func21, Tryd.ntmps21
        go_wp2_with (first
          | (go_at_call 30; refine (at_at a0 cap l _ _ hB (by omega) (by assumption)).mono ?_; rintro e w' ⟨rfl, rfl⟩)
          | (go_at_call 31; refine (in_at _ _ _ _ (by assumption)).mono ?_; rintro e w' ⟨rfl, rfl⟩))
        go_ret
        exact ⟨rfl, rfl⟩

set_option maxHeartbeats 1000000 in
theorem Long_h (a0 : Option Addr) (cap p : Nat) (l : List Int) (x y z v : Int) (w : World) (hB : IsB w a0 cap l) (hp : p ≤ l.length) (hx : byt l (p : Int).toNat = x) (hy : byt l ((p : Int) + 1).toNat = y) (hz : byt l ((p : Int) + 2).toNat = z) (hv : byt l ((p : Int) + 3).toNat = v) (hlo : 241 ≤ x) (hhi : x ≤ 243) :
    Calls Tryd.prog 21 #[.slice a0 l.length cap, .int .i64 p] w fun e w' => e = .returned (.int .i64 (tbl x y z v)) ∧ w' = w := by
  have hl : l.length ≤ 140737488351232 := by obtain ⟨h1, h2, _⟩ := hB; omega
  have x0 : rng x 0 127 = false := rng_f (by omega)
  have x1 : rng x 194 223 = false := rng_f (by omega)
  have x2 : rng x 225 236 = false := rng_f (by omega)
  have x3 : rng x 238 239 = false := rng_f (by omega)
  have x4 : rng x 241 243 = true := rng_t (by omega) (by omega)
  have e224 : (x == 224) = false := by rw [beq_eq_false_iff_ne]; omega
  have e237 : (x == 237) = false := by rw [beq_eq_false_iff_ne]; omega
  have e240 : (x == 240) = false := by rw [beq_eq_false_iff_ne]; omega
  have e244 : (x == 244) = false := by rw [beq_eq_false_iff_ne]; omega
  cases hyt : rng y 128 191 with
  | false =>
    cases hzt : rng z 128 191 with
    | false =>
      rw [show tbl x y z v = 0 by clear hx hy hz hv; simp [tbl, *]]
      go_enter Tryd.func21, Tryd.ntmps21
      go_wp2_with (first
        | (go_at_call 30; refine (at_at a0 cap l _ _ hB (by omega) (by assumption)).mono ?_; rintro e w' ⟨rfl, rfl⟩)
        | (go_at_call 31; refine (in_at _ _ _ _ (by assumption)).mono ?_; rintro e w' ⟨rfl, rfl⟩))
      go_ret
      exact ⟨rfl, rfl⟩
    | true =>
      cases hvt : rng v 128 191 with
      | false =>
        rw [show tbl x y z v = 0 by clear hx hy hz hv; simp [tbl, *]]
        go_enter Tryd.func21, Tryd.ntmps21
        go_wp2_with (first
          | (go_at_call 30; refine (at_at a0 cap l _ _ hB (by omega) (by assumption)).mono ?_; rintro e w' ⟨rfl, rfl⟩)
          | (go_at_call 31; refine (in_at _ _ _ _ (by assumption)).mono ?_; rintro e w' ⟨rfl, rfl⟩))
        go_ret
        exact ⟨rfl, rfl⟩
      | true =>
        rw [show tbl x y z v = 0 by clear hx hy hz hv; simp [tbl, *]]
        go_enter Tryd.func21, Tryd.ntmps21
        go_wp2_with (first
          | (go_at_call 30; refine (at_at a0 cap l _ _ hB (by omega) (by assumption)).mono ?_; rintro e w' ⟨rfl, rfl⟩)
          | (go_at_call 31; refine (in_at _ _ _ _ (by assumption)).mono ?_; rintro e w' ⟨rfl, rfl⟩))
        go_ret
        exact ⟨rfl, rfl⟩
  | true =>
    cases hzt : rng z 128 191 with
    | false =>
      rw [show tbl x y z v = 0 by clear hx hy hz hv; simp [tbl, *]]
      go_enter Tryd.func21, Tryd.ntmps21
      go_wp2_with (first
        | (go_at_call 30; refine (at_at a0 cap l _ _ hB (by omega) (by assumption)).mono ?_; rintro e w' ⟨rfl, rfl⟩)
        | (go_at_call 31; refine (in_at _ _ _ _ (by assumption)).mono ?_; rintro e w' ⟨rfl, rfl⟩))
      go_ret
      exact ⟨rfl, rfl⟩
    | true =>
      cases hvt : rng v 128 191 with
      | false =>
        rw [show tbl x y z v = 0 by clear hx hy hz hv; simp [tbl, *]]
        go_enter Tryd.func21, Tryd.ntmps21
        go_wp2_with (first
          | (go_at_call 30; refine (at_at a0 cap l _ _ hB (by omega) (by assumption)).mono ?_; rintro e w' ⟨rfl, rfl⟩)
          | (go_at_call 31; refine (in_at _ _ _ _ (by assumption)).mono ?_; rintro e w' ⟨rfl, rfl⟩))
        go_ret
        exact ⟨rfl, rfl⟩
      | true =>
        rw [show tbl x y z v = 4 by clear hx hy hz hv; simp [tbl, *]]
        go_enter Tryd.func21, Tryd.ntmps21
        go_wp2_with (first
          | (go_at_call 30; refine (at_at a0 cap l _ _ hB (by omega) (by assumption)).mono ?_; rintro e w' ⟨rfl, rfl⟩)
          | (go_at_call 31; refine (in_at _ _ _ _ (by assumption)).mono ?_; rintro e w' ⟨rfl, rfl⟩))
        go_ret
        exact ⟨rfl, rfl⟩

set_option maxHeartbeats 1000000 in
theorem Long_i (a0 : Option Addr) (cap p : Nat) (l : List Int) (x y z v : Int) (w : World) (hB : IsB w a0 cap l) (hp : p ≤ l.length) (hx : byt l (p : Int).toNat = x) (hy : byt l ((p : Int) + 1).toNat = y) (hz : byt l ((p : Int) + 2).toNat = z) (hv : byt l ((p : Int) + 3).toNat = v) (hlo : 244 ≤ x) (hhi : x ≤ 244) :
    Calls Tryd.prog 21 #[.slice a0 l.length cap, .int .i64 p] w fun e w' => e = .returned (.int .i64 (tbl x y z v)) ∧ w' = w := by
  have hl : l.length ≤ 140737488351232 := by obtain ⟨h1, h2, _⟩ := hB; omega
  have x0 : rng x 0 127 = false := rng_f (by omega)
  have x1 : rng x 194 223 = false := rng_f (by omega)
  have x2 : rng x 225 236 = false := rng_f (by omega)
  have x3 : rng x 238 239 = false := rng_f (by omega)
  have x4 : rng x 241 243 = false := rng_f (by omega)
  have e224 : (x == 224) = false := by rw [beq_eq_false_iff_ne]; omega
  have e237 : (x == 237) = false := by rw [beq_eq_false_iff_ne]; omega
  have e240 : (x == 240) = false := by rw [beq_eq_false_iff_ne]; omega
  have e244 : (x == 244) = true := by rw [beq_iff_eq]; omega
  cases hyt : rng y 128 143 with
  | false =>
    cases hzt : rng z 128 191 with
    | false =>
      rw [show tbl x y z v = 0 by clear hx hy hz hv; simp [tbl, *]]
      go_enter Tryd.func21, Tryd.ntmps21
      go_wp2_with (first
        | (go_at_call 30; refine (at_at a0 cap l _ _ hB (by omega) (by assumption)).mono ?_; rintro e w' ⟨rfl, rfl⟩)
        | (go_at_call 31; refine (in_at _ _ _ _ (by assumption)).mono ?_; rintro e w' ⟨rfl, rfl⟩))
      go_ret
      exact ⟨rfl, rfl⟩
    | true =>
      cases hvt : rng v 128 191 with
      | false =>
        rw [show tbl x y z v = 0 by clear hx hy hz hv; simp [tbl, *]]
        go_enter Tryd.func21, Tryd.ntmps21
        go_wp2_with (first
          | (go_at_call 30; refine (at_at a0 cap l _ _ hB (by omega) (by assumption)).mono ?_; rintro e w' ⟨rfl, rfl⟩)
          | (go_at_call 31; refine (in_at _ _ _ _ (by assumption)).mono ?_; rintro e w' ⟨rfl, rfl⟩))
        go_ret
        exact ⟨rfl, rfl⟩
      | true =>
        rw [show tbl x y z v = 0 by clear hx hy hz hv; simp [tbl, *]]
        go_enter Tryd.func21, Tryd.ntmps21
        go_wp2_with (first
          | (go_at_call 30; refine (at_at a0 cap l _ _ hB (by omega) (by assumption)).mono ?_; rintro e w' ⟨rfl, rfl⟩)
          | (go_at_call 31; refine (in_at _ _ _ _ (by assumption)).mono ?_; rintro e w' ⟨rfl, rfl⟩))
        go_ret
        exact ⟨rfl, rfl⟩
  | true =>
    cases hzt : rng z 128 191 with
    | false =>
      rw [show tbl x y z v = 0 by clear hx hy hz hv; simp [tbl, *]]
      go_enter Tryd.func21, Tryd.ntmps21
      go_wp2_with (first
        | (go_at_call 30; refine (at_at a0 cap l _ _ hB (by omega) (by assumption)).mono ?_; rintro e w' ⟨rfl, rfl⟩)
        | (go_at_call 31; refine (in_at _ _ _ _ (by assumption)).mono ?_; rintro e w' ⟨rfl, rfl⟩))
      go_ret
      exact ⟨rfl, rfl⟩
    | true =>
      cases hvt : rng v 128 191 with
      | false =>
        rw [show tbl x y z v = 0 by clear hx hy hz hv; simp [tbl, *]]
        go_enter Tryd.func21, Tryd.ntmps21
        go_wp2_with (first
          | (go_at_call 30; refine (at_at a0 cap l _ _ hB (by omega) (by assumption)).mono ?_; rintro e w' ⟨rfl, rfl⟩)
          | (go_at_call 31; refine (in_at _ _ _ _ (by assumption)).mono ?_; rintro e w' ⟨rfl, rfl⟩))
        go_ret
        exact ⟨rfl, rfl⟩
      | true =>
        rw [show tbl x y z v = 4 by clear hx hy hz hv; simp [tbl, *]]
        go_enter Tryd.func21, Tryd.ntmps21
        go_wp2_with (first
          | (go_at_call 30; refine (at_at a0 cap l _ _ hB (by omega) (by assumption)).mono ?_; rintro e w' ⟨rfl, rfl⟩)
          | (go_at_call 31; refine (in_at _ _ _ _ (by assumption)).mono ?_; rintro e w' ⟨rfl, rfl⟩))
        go_ret
        exact ⟨rfl, rfl⟩

set_option maxHeartbeats 1000000 in
theorem Long_o (a0 : Option Addr) (cap p : Nat) (l : List Int) (x y z v : Int) (w : World) (hB : IsB w a0 cap l) (hp : p ≤ l.length) (hx : byt l (p : Int).toNat = x) (hy : byt l ((p : Int) + 1).toNat = y) (hz : byt l ((p : Int) + 2).toNat = z) (hv : byt l ((p : Int) + 3).toNat = v) (ho : x < 0 ∨ 127 < x ∧ x < 194 ∨ 244 < x) :
    Calls Tryd.prog 21 #[.slice a0 l.length cap, .int .i64 p] w fun e w' => e = .returned (.int .i64 (tbl x y z v)) ∧ w' = w := by
  have hl : l.length ≤ 140737488351232 := by obtain ⟨h1, h2, _⟩ := hB; omega
  have x0 : rng x 0 127 = false := rng_f (by omega)
  have x1 : rng x 194 223 = false := rng_f (by omega)
  have x2 : rng x 225 236 = false := rng_f (by omega)
  have x3 : rng x 238 239 = false := rng_f (by omega)
  have x4 : rng x 241 243 = false := rng_f (by omega)
  have e224 : (x == 224) = false := by rw [beq_eq_false_iff_ne]; omega
  have e237 : (x == 237) = false := by rw [beq_eq_false_iff_ne]; omega
  have e240 : (x == 240) = false := by rw [beq_eq_false_iff_ne]; omega
  have e244 : (x == 244) = false := by rw [beq_eq_false_iff_ne]; omega
  cases hzt : rng z 128 191 with
  | false =>
    rw [show tbl x y z v = 0 by clear hx hy hz hv; simp [tbl, *]]
    go_enter Tryd.func21, Tryd.ntmps21
    go_wp2_with (first
      | (go_at_call 30; refine (at_at a0 cap l _ _ hB (by omega) (by assumption)).mono ?_; rintro e w' ⟨rfl, rfl⟩)
      | (go_at_call 31; refine (in_at _ _ _ _ (by assumption)).mono ?_; rintro e w' ⟨rfl, rfl⟩))
    go_ret
    exact ⟨rfl, rfl⟩
  | true =>
    cases hvt : rng v 128 191 with
    | false =>
      rw [show tbl x y z v = 0 by clear hx hy hz hv; simp [tbl, *]]
      go_enter Tryd.func21, Tryd.ntmps21
      go_wp2_with (first
        | (go_at_call 30; refine (at_at a0 cap l _ _ hB (by omega) (by assumption)).mono ?_; rintro e w' ⟨rfl, rfl⟩)
        | (go_at_call 31; refine (in_at _ _ _ _ (by assumption)).mono ?_; rintro e w' ⟨rfl, rfl⟩))
      go_ret
      exact ⟨rfl, rfl⟩
    | true =>
      rw [show tbl x y z v = 0 by clear hx hy hz hv; simp [tbl, *]]
      go_enter Tryd.func21, Tryd.ntmps21
      go_wp2_with (first
        | (go_at_call 30; refine (at_at a0 cap l _ _ hB (by omega) (by assumption)).mono ?_; rintro e w' ⟨rfl, rfl⟩)
        | (go_at_call 31; refine (in_at _ _ _ _ (by assumption)).mono ?_; rintro e w' ⟨rfl, rfl⟩))
      go_ret
      exact ⟨rfl, rfl⟩

theorem Long_tbl (a0 : Option Addr) (cap p : Nat) (l : List Int) (w : World) (hB : IsB w a0 cap l) (hp : p ≤ l.length) :
    Calls Tryd.prog 21 #[.slice a0 l.length cap, .int .i64 p] w fun e w' => e = .returned (.int .i64 (tbl (byt l p) (byt l (p + 1)) (byt l (p + 2)) (byt l (p + 3)))) ∧ w' = w := by
  have hx : byt l (p : Int).toNat = byt l p := rfl
  have hy : byt l ((p : Int) + 1).toNat = byt l (p + 1) := rfl
  have hz : byt l ((p : Int) + 2).toNat = byt l (p + 2) := rfl
  have hv : byt l ((p : Int) + 3).toNat = byt l (p + 3) := rfl
  generalize byt l p = x at hx ⊢
  generalize byt l (p + 1) = y at hy ⊢
  generalize byt l (p + 2) = z at hz ⊢
  generalize byt l (p + 3) = v at hv ⊢
  have : (0 ≤ x ∧ x ≤ 127) ∨ (194 ≤ x ∧ x ≤ 223) ∨ (224 ≤ x ∧ x ≤ 224) ∨ (225 ≤ x ∧ x ≤ 236) ∨ (237 ≤ x ∧ x ≤ 237) ∨ (238 ≤ x ∧ x ≤ 239) ∨ (240 ≤ x ∧ x ≤ 240) ∨ (241 ≤ x ∧ x ≤ 243) ∨ (244 ≤ x ∧ x ≤ 244) ∨ (x < 0 ∨ 127 < x ∧ x < 194 ∨ 244 < x) := by omega
  rcases this with ⟨h1, h2⟩ | ⟨h1, h2⟩ | ⟨h1, h2⟩ | ⟨h1, h2⟩ | ⟨h1, h2⟩ | ⟨h1, h2⟩ | ⟨h1, h2⟩ | ⟨h1, h2⟩ | ⟨h1, h2⟩ | h
  · exact Long_a a0 cap p l x y z v w hB hp hx hy hz hv h1 h2
  · exact Long_b a0 cap p l x y z v w hB hp hx hy hz hv h1 h2
  · exact Long_c a0 cap p l x y z v w hB hp hx hy hz hv h1 h2
  · exact Long_d a0 cap p l x y z v w hB hp hx hy hz hv h1 h2
  · exact Long_e a0 cap p l x y z v w hB hp hx hy hz hv h1 h2
  · exact Long_f a0 cap p l x y z v w hB hp hx hy hz hv h1 h2
  · exact Long_g a0 cap p l x y z v w hB hp hx hy hz hv h1 h2
  · exact Long_h a0 cap p l x y z v w hB hp hx hy hz hv h1 h2
  · exact Long_i a0 cap p l x y z v w hB hp hx hy hz hv h1 h2
  · exact Long_o a0 cap p l x y z v w hB hp hx hy hz hv h

end Go.Proofs.YtdklfodccdmmlaaDoor
